import Derived.Test.YtinihjgnnlemmaaGreatDoorOwnP30
set_option maxHeartbeats 6400000
set_option maxRecDepth 100000
set_option linter.unusedVariables false
namespace Go.Proofs.YtinihjgnnlemmaaGreatDoor
open Tryz Go.RowKit
variable{w v W V:World}{n m c k i j l o b p q t r s g h e:Nat}{a A B:Option Addr}{X Y Z:Nat->Nat}{u U:Value}{z y:Int}{G:eQ}{P:Nat->Prop}{Q:Rat}
theorem qD{p:Prop}(h:True->p):p:=h trivial
theorem kA(s:w.S v):w.grownBy v (some n):=⟨s.os,s.tape,s.output,s.size,fun q a _=>s.block q a⟩
theorem vZ(n:Nat)(w:World):w.grownBy w (some n):=⟨rfl,rfl,rfl,aC _,fun _ _ _=>rfl⟩
theorem iv(h:w.grownBy v (some n))(k:v.grownBy W (some n)):w.grownBy W (some n):=
 ⟨k.os.trans h.os,k.tape.trans h.tape,k.output.trans h.output,aU h.size k.size,fun q b a=>(k.block q (aS b h.size) a).trans (h.block q b a)⟩
theorem alT(h:w.grownBy v (some n))(m:Nat)(u:Value):w.grownBy (v.setCell ⟨n,m,none⟩ u) (some n):=
 ⟨h.os,h.tape,h.output,by simpa [World.setCell] using h.size,fun q b a=>(fN _ _ _ _ (fun e=>a (by simp[e]))).trans (h.block q b a)⟩
theorem iw{a:World}(s:w.Since m a)(h:a.grownBy v (some n))(e:m<=n)(d:m<=a.heap.size):w.Since m v:=
 ⟨h.os.trans s.os,h.tape.trans s.tape,h.output.trans s.output,aU s.size h.size,fun q b=>(h.block q om (by simp;omega)).trans (s.block q b)⟩
theorem ig(h:w.grownBy v (some n))(a:m<w.heap.size)(b:m≠n):v.heap[m]?=w.heap[m]?:=h.block m a (by simpa using b)
theorem lj{v:Value}(h:w.grownBy W (some n))(d:w.cell? (jj b k)=some v)(e:b≠n):W.cell? (jj b k)=some v:=
 (aO (w:=w) (a:=jj b k) (ig h (aG _ _ d) e)).trans d
theorem fF{o:Obj}(h:(w.alloc o).grownBy v (some n))(d:w.cell? (jj m c)=some u)(e:m≠n):v.cell? (jj m c)=some u:=
 lj h ((((aF w.heap.size w).alloc zR o).cell (a:=jj m c) (aG _ _ d)).trans d) e
theorem ue(h:w.grownBy v (some n))(k:v.grownBy W (some m))(f:m=n∨w.heap.size<=m):w.grownBy W (some n):=
 ⟨k.os.trans h.os,k.tape.trans h.tape,k.output.trans h.output,aU h.size k.size,fun q b a=>(k.block q (aS b h.size) (by simp at a⊢;omega)).trans (h.block q b a)⟩
theorem eS.cA{w w':World}{z:Value}(h:eS w n u U z)(e:w'.heap[n]?=w.heap[n]?):eS w' n u U z:=
 have m:∀k,w'.cell? (jj n k)=w.cell? (jj n k):=fun k=>aO (w:=w) (a:=jj n k) e
 ⟨(m 0).trans h.c0,(m 1).trans h.c1,(m 2).trans h.c2,fun k=>(dK (w:=w) (a:=jj n k) e).trans (h.f k)⟩
abbrev Tt:Nat->Prop:=fun _=>True
structure LK(α:Type) where
 T:TypeId
 S:TypeId
 sz:Nat
 bt:Nat
 z:Value
 El:World->(Nat->Prop)->List Value->α->Prop
structure LK.Ok{α:Type}(K:LK α):Prop where
 und:Tryz.prog.underlying K.S=some (.slice K.T)
 info:∃i,Tryz.prog.info? K.T=some i/\i.zero=some K.z/\i.size=K.sz/\i.bytes=K.bt
 zs:K.z.cells.size=K.sz
 pos:0<K.sz
 b:K.bt<=100
 len:∀ {w p c x},K.El w p c x->c.length=K.sz
 one:∀ {w p c x},K.El w p c x->∀u∈c,u.oneCell'=true
 move:∀ {w w':World} {p c x},K.El w p c x->w.heap.size<=w'.heap.size->(∀g,g<w.heap.size->p g->w'.heap[g]?=w.heap[g]?)->K.El w' p c x
 imp:∀ {w:World} {p p':Nat->Prop} {c x},K.El w p c x->(∀g,g<w.heap.size->p g->p' g)->K.El w p' c x
structure GL{α:Type}(K:LK α)(P:Nat->Prop)(w:World)(base:Nat)(v:Value)(L:List α)(xs:List Value):Prop where
 own:w.ownsRow base K.T K.sz v L.length xs
 at_:∀i x,L[i]?=some x->K.El w (fun g=>P g/\v.ownBlock≠some g) ((xs.drop (i*K.sz)).take K.sz) x
def ML{α:Type}(K:LK α)(w:World)(p:Nat->Prop)(a:Option Addr)(b off:Nat)(L:List α):Prop:=
 ∀i x,L[i]?=some x->a=some ⟨b,off,none⟩/\∃c,K.El w p c x/\∀j u,c[j]?=some u->w.cell? ⟨b,off+i*K.sz+j,none⟩=some u
section
variable{α:Type}{K:LK α}{P:Nat->Prop}{w w' w1:World}{base g n cap:Nat}{v v':Value}{L L':List α}{xs news:List Value}{p p':Nat->Prop}{a:Option Addr}{b off:Nat}
theorem GL.aA(d:K.Ok)(h:GL K P w base v L xs)(s:w.S w'):GL K P w' base v L xs:=
 ⟨h.own.kept (row:=none) ⟨s.os,s.tape,s.output,s.size,fun k b _=>s.block k b⟩ (uE _),fun i x c=>d.move (h.at_ i x c) s.size (fun g a _=>s.block g a)⟩
theorem GL.lt(h:GL K P w base (.s g n cap) L xs):base<=g/\g<w.heap.size:=h.own.lt g rfl
theorem GL.len(h:GL K P w base v L xs):xs.length=L.length*K.sz:=h.own.1
theorem GL.ml(o:K.Ok)(h:GL K P w base (.s g n cap) L xs):ML K w (fun q=>P q/\q≠g) (jp g 0) g 0 L:=fun i x m=>by
 have k:= @World.ownsRow.cells _ _ _ _ _ _ _ h.own;have f:=h.at_ i x m;refine⟨rfl,_,o.imp f (fun q _ c=>⟨c.1,fun e=>c.2 (by rw[e];rfl)⟩),fun j u a=> ?_⟩
 have l:j<K.sz:=by
  have:=bG.1 a;obtain⟨d,-⟩:=this;simp at d;omega
 rw[oS l,pM] at a;have b:=k (g:=g) rfl _ _ a;rw[Go.WideShapes.add_plain] at b;rw[aZ];simpa using b
theorem ML.lt(d:K.Ok)(h:ML K w p a b off L)(f:0<L.length):b<w.heap.size:=by
 obtain⟨-,c,e,g⟩:=h 0 _ (aK f);have hl:=d.len e;have i:=d.pos;exact aG _ _ (g 0 _ (aK om))
theorem ML.move(q:K.Ok)(h:ML K w p a b off L)(o:w.heap.size<=w'.heap.size)(e:0<L.length->w'.heap[b]?=w.heap[b]?)(hb:∀g,g<w.heap.size->p g->w'.heap[g]?=w.heap[g]?):ML K w' p a b off L:=fun i x d=>by
 obtain⟨f,c,k,m⟩:=h i x d;have l:0<L.length:=by have:=(bG.1 d).1;omega
 exact⟨f,c,q.move k o hb,fun j u n=>(aO (w:=w) (a:=jj b (off+i*K.sz+j)) (e l)).trans (m j u n)⟩
theorem ML.aA(c:K.Ok)(h:ML K w p a b off L)(s:w.S w'):ML K w' p a b off L:=
 h.move c s.size (fun d=>s.block b (h.lt c d)) (fun g e _=>s.block g e)
theorem ML.imp(l:K.Ok)(h:ML K w p a b off L)(j:∀g,g<w.heap.size->p g->p' g):ML K w p' a b off L:=fun i x k=>by
 obtain⟨d,c,e,f⟩:=h i x k;exact⟨d,c,l.imp e j,f⟩
theorem ML.nil(w:World)(P:Nat->Prop)(a:Option Addr)(n m:Nat):ML K w P a n m []:=fun i x c=>by simp at c
theorem ML.drop(h:ML K w p a b off L)(n:Nat)(f:a=jp b off):ML K w p (jp b (off+n*K.sz)) b (off+n*K.sz) (L.drop n):=fun i x d=>by
 have _:=f;rw[pM] at d;obtain⟨-,c,e,g⟩:=h (n+i) x d
 exact⟨rfl,c,e,fun j u l=>by
  have:=g j u l;rw[bI] at this;rw[show off+n*K.sz+i*K.sz+j=off+(n*K.sz+i*K.sz)+j by omega];exact this⟩
theorem ML.one(h:K.Ok){c:List Value}{x:α}(b:K.El w p c x)(t:TypeId):ML K (w.alloc (.cells c.toArray t)) p (jp w.heap.size 0) w.heap.size 0 [x]:=fun i y a=>by
 have e:i=0:=by
  have:=(bG.1 a).1;simp at this;exact this
 subst e;simp at a;subst a;have s:=fA w (.o c.toArray t);refine⟨rfl,c,h.move b s.size (fun g d _=>s.block g d),fun j u f=> ?_⟩;rw[show 0+0*K.sz+j=j by simp];simp[go_sem,f]
theorem ML.row(l:K.Ok)(h:ML K w p (jp b off) b off L):∃d:List Value,d.length=L.length*K.sz/\(∀j u,d[j]?=some u->w.cell? (jj b (off+j))=some u)/\(∀u∈d,u.oneCell'=true)/\∀i x,L[i]?=some x->K.El w p ((d.drop (i*K.sz)).take K.sz) x:=by
 induction L generalizing off with
 | nil=>exact⟨[],qz,qz,qz,qz⟩
 | cons y L ih=>
   obtain⟨-,c,e,m⟩:=h 0 y rfl;have hl:=l.len e;have g:=h.drop 1 rfl;rw[dS] at g;obtain⟨s,n,o,q,r⟩:=ih g;refine⟨c++s, ?_,fun j u a=> ?_,fun u a=> ?_,fun i x f=> ?_⟩
   . rw[aT,n,hl,fS,bI,dS,jO]
   . by_cases k:j<c.length
     . rw[bJ k] at a;have:=m j u a;rwa[iT,fV] at this
     . rw[bK om] at a;have:=o _ u a;rw[hl] at k this;rwa[show off+K.sz+(j-K.sz)=off+j by omega] at this
   . rcases iX.1 a with a | a
     . exact l.one e u a
     . exact q u a
   . cases i with
     | zero=>
       simp at f;subst f;rw[iT,List.drop_zero,mE om,dV om];exact e
     | succ i=>
       have:=r i x (by simpa using f);rwa[bI,dS,List.drop_append,List.drop_of_length_le (show c.length<=i*K.sz+K.sz by omega),hl,cF,pT]
theorem GL.app(d:K.Ok)(h:GL K P w base v L xs)(f:w.grownBy w' v.ownBlock)(own:w'.ownsRow base K.T K.sz v' (L.length+L'.length) (xs++news))(n:v'.ownBlock=v.ownBlock∨v'.ownBlock=some w.heap.size)
 (o:∀i x,L'[i]?=some x->K.El w (fun g=>P g/\v.ownBlock≠some g) ((news.drop (i*K.sz)).take K.sz) x):GL K P w' base v' (L++L') (xs++news):=by
 have hl:=h.len;have m:∀ {c x},K.El w (fun g=>P g/\v.ownBlock≠some g) c x->K.El w' (fun g=>P g/\v'.ownBlock≠some g) c x:=fun {c x} r=>by
  have p:K.El w (fun g=>(P g/\v.ownBlock≠some g)/\v'.ownBlock≠some g) c x:=d.imp r (fun j l a=>⟨a,fun e=>by
   rcases n with h | h
   . exact a.2 (h.symm.trans e)
   . rw[e] at h;simp at h;omega⟩)
  exact d.imp (d.move p f.size (fun j l a=>f.block j l (fun e=>a.1.2 e.symm))) (fun _ _ a=>⟨a.1.1,a.2⟩)
 refine⟨by rw[aT];exact own,fun i x b=> ?_⟩;by_cases k:i<L.length
 . rw[bJ k] at b;have q:i*K.sz+K.sz<=xs.length:=(by rw[hl,<-Nat.succ_mul];exact aP _ k);rw[List.drop_append_of_le_length om,mE (by simp;omega)];exact m (h.at_ i x b)
 . rw[bK om] at b;have e:i*K.sz=xs.length+(i-L.length)*K.sz:=(by rw[hl,<-bI];congr 1;omega);rw[e,List.drop_append,List.drop_of_length_le (Nat.le_add_right _ _),mM,pT];exact m (o _ x b)
def Apd{α:Type}(K:LK α)(P:Nat->Prop)(w:World)(base g n m:Nat)(L:List α)(g' cap':Nat)(w':World):Prop:=
 (∃xs',GL K P w' base (.slice (some ⟨g',0,none⟩) (n+m) cap') L xs')/\w.grownBy w' (some g)/\(g'=g∨g'=w.heap.size)/\g'<w'.heap.size
theorem aif(d:K.Ok)(G:GL K P w base (.s g n cap) L xs)(y:L.length=n)(M:ML K w (fun q=>P q/\q≠g) (jp b off) b off L')(v:L'.length=m)(C:n+m<=1099511627776)(c:Nat)(p:TypeId):
 ∃f h V,(Builtin.append_ #[K.S,K.S] p #[.s g n cap,.slice (jp b off) m c]).run Tryz.prog w=.ok (.s f (n+m) h) V/\Apd K P w base g n m (L++L') f h V:=by
 obtain⟨i,D,E,F,H⟩:=d.info;obtain⟨R,I,N,O,Q⟩:=M.row d;have T:=G.lt;have hb:=d.b;subst y v
 obtain⟨U,V,z,k,l,t,a⟩:=run_append_own_at (P:=Tryz.prog) w base K.S p K.T i K.z K.sz K.bt d.und D E F H d.zs d.pos (.s g L.length cap) L.length xs G.own (jj b off) L'.length c R I (fun j u A=>by rw[Go.WideShapes.add_plain];exact N j u A) O (by unfold maxLen;omega)
  (aU (dF C hb) qd) om
 have s:=k;obtain⟨-,⟨r,-⟩ | ⟨f,h,S,rfl,-⟩⟩:=s
 . have:=(t.1 r).1;simp at this
 . refine⟨f,h,V,z,⟨_,G.app d l k a (fun i x B=>d.imp (Q i x B) (fun q _ o=>⟨o.1,fun e=>by simp[Value.ownBlock] at e;exact o.2 e.symm⟩))⟩,l, ?_,(k.lt f rfl).2⟩;rcases a with a | a
   . simp[Value.ownBlock] at a;exact Or.inl a
   . simp[Value.ownBlock] at a;exact Or.inr a
variable{ops:Array Oper}{rest:List Oper}{o:Oper}{ac:Act}{Q:Exit->Act->World->Prop}
theorem nK(v:K.Ok)(G:GL K P w base (.s g n cap) L xs)(k:L.length=n)(M:ML K w (fun q=>P q/\q≠g) (jp b off) b off L')(j:L'.length=m)(i:o.guard=none)(s x:Operand)(l:o.op=.call { callee:=.builtin .append,args:= #[s,x],argTypes:= #[K.S,K.S] })
 (r:ac.eval s=.s g n cap)(t:ac.eval x=.l (jp b off) m c)(u:n+m<=1099511627776)
 (h:∀d a e,Apd K P w base g n m (L++L') d a e->wpList Tryz.prog ops Q rest (ac.put o.dst (.s d (n+m) a)) e):wpList Tryz.prog ops Q (o::rest) ac w:=by
 refine wpList_plain i fun y f=> ?_;obtain⟨d,a,e,p,A⟩:=aif v G k M j u c o.type;unfold Oper.wp execOp;simp only[l,resolve,invoke,builtin,Sem.run_bind,Sem.run_pure,tG,tN,dG,kC,r,t,p];exact f _ _ (h d a e A)
theorem oH(v:K.Ok)(G:GL K P w base (.s g n cap) L xs)(j:L.length=n)(M:ML K w (fun q=>P q/\q≠g) (jp b off) b off L')(i:L'.length=m){E:Prop}{y:Act->World->Prop}(f:o.guard=none)(s x:Operand)(k:o.op=.call { callee:=.builtin .append,args:= #[s,x],argTypes:= #[K.S,K.S] })
 (p:ac.eval s=.s g n cap)(t:ac.eval x=.l (jp b off) m c)(u:n+m<=1099511627776)
 (h:∀d a e,Apd K P w base g n m (L++L') d a e->y (ac.put o.dst (.s d (n+m) a)) e):if Region.wanted o (yielded ops ac.tmps)=true then Oper.wp Tryz.prog o ac w y Q else E:=by
 have r:Region.wanted o (yielded ops ac.tmps)=true:=by simp[Region.wanted,f]
 rw[aY r];obtain⟨d,a,e,l,A⟩:=aif v G j M i u c o.type;unfold Oper.wp execOp;simp only[k,resolve,invoke,builtin,Sem.run_bind,Sem.run_pure,tG,tN,dG,kC,p,t,l];exact h d a e A
end
theorem GL.new{α:Type}(K:LK α)(P:Nat->Prop)(w:World):GL K P (w.alloc (.cells #[] K.T)) w.heap.size (.s w.heap.size 0 0) [] []:=
 ⟨iP w #[] 0 zR (aJ _) qz,fun i x a=>by simp at a⟩
structure av(w:World)(lo base:Nat)(v:Value)(k:Nat)(Q:Nat->Rat)(xs:List Value):Prop where
 own:w.ownsRow base 70 3 v k xs
 at_:∀i,i<k->∃x y,xs[i*3]?=some (.bool (qn (Q i)))/\xs[i*3+1]?=some x/\xs[i*3+2]?=some y/\i7 w (fun g=>lo<=g/\v.ownBlock≠some g) (.agg #[.bool (qn (Q i)),x,y]) (Q i)
theorem av.aA{w w':World}{Q:Nat->Rat}{g:List Value}(h:av w n m u k Q g)(s:w.S w'):av w' n m u k Q g:=by
 refine⟨h.own.kept (row:=none) ⟨s.os,s.tape,s.output,s.size,fun k f _=>s.block k f⟩ (uE _),fun i e=> ?_⟩;obtain⟨x,y,a,b,c,d⟩:=h.at_ i e;exact⟨x,y,a,b,c,d.aA s⟩
theorem av.snoc{Q:Nat->Rat}{d:List Value}{x y:Value}(h:av w n m u c Q d)(A:w.S v)(E:w.heap.size<v.heap.size)(g:v.grownBy W u.ownBlock)(own:W.ownsRow m 70 3 U (c+1) (d++[.bool (qn (Q c)),x,y]))
 (s:U.ownBlock=u.ownBlock∨U.ownBlock=some v.heap.size)(R:i7 w (fun g=>n<=g/\u.ownBlock≠some g) (.agg #[.bool (qn (Q c)),x,y]) (Q c)):av W n m U (c+1) Q (d++[.bool (qn (Q c)),x,y]):=by
 have hl:d.length=c*3:=h.own.1;have l:∀ {b:Value} {q:Rat},i7 w (fun g=>n<=g/\u.ownBlock≠some g) b q->i7 W (fun g=>n<=g/\U.ownBlock≠some g) b q:=fun {b q} r=>by
  have t:i7 w (fun g=>u.ownBlock≠some g/\(n<=g/\U.ownBlock≠some g)) b q:=r.imp (fun j f a=>⟨a.2,a.1,fun e=>by
   rcases s with h | h
   . exact a.2 (h.symm.trans e)
   . rw[e] at h;simp at h;omega⟩)
  have z:i7 W (fun g=>u.ownBlock≠some g/\(n<=g/\U.ownBlock≠some g)) b q:=t.blocks (fun j f a=>(g.block j om (fun e=>a.1 e.symm)).trans (A.block j f));exact z.imp (fun _ _ a=>a.2)
 refine⟨own,fun i D=> ?_⟩;by_cases e:i=c
 . subst e;refine⟨x,y, ?_, ?_, ?_,l R⟩
   . rw[bK om,hl];simp
   . rw[bK om,hl];simp
   . rw[bK om,hl];simp
 . obtain⟨B,C,k,F,o,p⟩:=h.at_ i om;exact⟨B,C,by rw[bJ om];exact k,by rw[bJ om];exact F,by rw[bJ om];exact o,l p⟩
theorem av.qs{d:Nat}{Q:Nat->Rat}{q:List Value}(h:av w n m (.s d c k) c Q q):ij w (fun d=>n<=d) (jp d 0) d 0 c Q/\m<=d/\c<=k:=by
 have a:= @World.ownsRow.cells _ _ _ _ _ _ _ h.own;have o:=h.at_;refine⟨fun i p=>⟨rfl, ?_⟩,(h.own.lt d rfl).1, ?_⟩
 . obtain⟨x,y,j,l,z,A⟩:=o i p;have b:=a (g:=d) rfl _ _ j;have g:=a (g:=d) rfl _ _ l;have f:=a (g:=d) rfl _ _ z;rw[Go.WideShapes.add_plain] at b g f;exact⟨x,y,b,by rw[fH];exact g,by rw[fH];exact f,A.imp (fun _ _ h=>h.1)⟩
 . obtain⟨_,⟨e,_⟩ | ⟨t,r,s,e,u,hb,v,_⟩⟩:=h.own
   . simp at e
   . simp only[Value.slice.injEq] at e;obtain⟨_,_,rfl⟩:=e;assumption
theorem ahy{D:fQ}{n m:Nat}(ar:pi D n m)(hm:m<=1048576)(hn:n<=1000)(ae:D.nv<=1002000){a:Option Addr}{c d k:Nat}{A B:Option Addr}{bx i j l o b p:Nat}{X Z:Nat->Rat}{w:World}
 (I:ij w (fun _=>True) a c d D.nv D.w)(qw:∀h,h<D.nv->Qb (D.w h) 1048640)(HX:ij w (fun _=>True) A bx i n X)(qx:∀h,h<n->Qb (X h) 1048640)(L:D.op=4->ij w (fun _=>True) B b p l Z/\m<=l/\∀h,h<l->Qb (Z h) 1048640)
 (q1:D.op=1->∀e,e<m->∀f,f<=n->Qb (mu 0 (fun t=>D.w (e*(n+1)+t)) X f) 1048640)(q6:D.op=6->∀e,e<m->∀f,f<=D.k.toNat->Qb (mu 0 D.w (fun t=>X (e*D.s.toNat+t)) f) 1048640):
 Cl 197 #[.agg #[.i D.op,.i D.a,.i D.b,.i D.k,.i D.s,.slice a D.nv k],.slice A n j,.slice B l o,.i (m:Int)] w fun aj W=>∃R N,aj=.returned (.s R m N)/\m<=N/\w.heap.size<=R/\ij W (fun g=>w.heap.size<=g) (jp R 0) R 0 m (ov D X Z n)/\w.S W:=by
 obtain⟨i0,V,ag,ah,ai⟩:=pr;have sA:w.S ((w.alloc (.cells #[.i D.op,.i D.a,.i D.b,.i D.k,.i D.s,.slice a D.nv k] 144)).alloc (.cells #[] 70)):=(fA _ _).alloc qz _;have zA:((w.alloc (.cells #[.i D.op,.i D.a,.i D.b,.i D.k,.i D.s,.slice a D.nv k] 144)).alloc (.cells #[] 70)).heap.size=w.heap.size+1+1:=by simp
 have nA:fO ((w.alloc (.cells #[.i D.op,.i D.a,.i D.b,.i D.k,.i D.s,.slice a D.nv k] 144)).alloc (.cells #[] 70)) w.heap.size (.i D.op) (.i D.a) (.i D.b) (.i D.k) (.i D.s) (.slice a D.nv k):=(fO.new w _ _ _ _ _ _ _).aA (fA _ _);have oA:av ((w.alloc (.cells #[.i D.op,.i D.a,.i D.b,.i D.k,.i D.s,.slice a D.nv k] 144)).alloc (.cells #[] 70)) w.heap.size (w.heap.size+1) (.s (w.heap.size+1) 0 0) 0 (fun h=>ov D X Z n h) []:=by have:=iP (base:=w.heap.size+1) (e:=70) (size:=3) (w.alloc (.cells #[.i D.op,.i D.a,.i D.b,.i D.k,.i D.s,.slice a D.nv k] 144)) #[] 0 qz (aJ _) rfl;exact⟨by simpa using this,fun h V=>absurd V om⟩
 go_enter func197,ntmps197;go_wp2_with fail;generalize (w.alloc _).alloc _=au at*;go_loopw [9,10] (fun ak h wr=>∃f:Nat,f<=m/\h=.i f/\au.Since (w.heap.size+1) wr/\w.heap.size+1<wr.heap.size/\∃g N K,ak=.s g f N/\av wr w.heap.size (w.heap.size+1) (.s g f N) f (fun h=>ov D X Z n h) K) (fun _ h _=>m-(intOf h).toNat)
 case atStart=>exact⟨0,aJ _,rfl,aF _ _,om,w.heap.size+1,0,[],rfl,oA⟩
 case round=>
  obtain⟨f,hk,rfl,T,ao,g,N,K,rfl,O⟩:=hrel;have s:=sA.trans (sM T om);by_cases E:f<m
  . have nB:=nA.since T om;obtain⟨p0,p1,p2,p3,p4,p5⟩:=nB.g;have hz:(f:Int)<m:=om;have gl:=O.own.lt g rfl;have J1:=@afW D n m f ar E hn ae a c d k A B bx i j l o b p X Z wr (I.aA s) qw (HX.aA s) qx (fun P=>⟨(L P).1.aA s,(L P).2⟩) (fun P=>q1 P f E) (fun P=>q6 P f E);go_wp2_with fail;refine J1.mono ?_;rintro e Q ⟨u5,rfl,M,H⟩;have ab:=M;obtain⟨U,y,u,r,x,v,-,-,-,-,-,-,e8,-⟩:=ab;subst e8;have aq:=H.size;have T5:=T.trans (sM H om);have z:=O.aA H;have R5:i7 Q (fun q=>w.heap.size<=q/\(Value.s g f N).ownBlock≠some q) (.agg #[.bool (qn (ov D X Z n f)),.slice U y u,.slice r x v]) (ov D X Z n f):=M.imp (fun q _ F=>by have an:wr.heap.size<=q:=F;exact⟨om,fun e=>by simp[Value.ownBlock] at e;omega⟩);generalize hQ:ov D X Z n f=G at*;go_wp2_with (at_builtin;refine wpList_append_own_at _ rfl _ _ 50 rfl (w.heap.size+1) 70 i0 _ 3 56 underlying50 V ag ah ai rfl qd _ f K rfl (z.own.alloc _) (jj Q.heap.size 0) 1 1 [.bool (qn G),.slice U y u,.slice r x v] rfl rfl (new3 _ _ _ _ _) (apQ _ _ _ _ _ _ _) (by unfold maxLen;omega) om (by simp;omega) ?_);intro v' w6 S C _ ad;have af:=S;obtain⟨_,⟨_,am⟩ | ⟨g',ac,al,rfl,-⟩⟩:=af
    . omega
    have zz:(Q.alloc (.cells #[.bool (qn G),.slice U y u,.slice r x v] 70)).heap.size=Q.heap.size+1:=(by simp);have Y:=fA Q (.cells #[.bool (qn G),.slice U y u,.slice r x v] 70);subst hQ;have O6:=av.snoc (Q:=fun h=>ov D X Z n h) z Y om C S (by rw[zz];exact ad) R5;have S6:=(T5.trans (sM Y om)).grown C om (fun q F=>(z.own.lt q F).1);have z6:=C.size;clear p0 p1 p2 p3 p4 p5;go_wp2;go_roundw
    case rel=>exact⟨f+1,om,by go_num,S6,om,g',ac,_,rfl,O6⟩
    case measure=>exact yI
  . have e:f=m:=om;subst e;obtain⟨aa,hb,hc⟩:=O.qs;go_wp2;go_ret;exact⟨g,N,rfl,hc,om,aa,s⟩
def KQ:LK Rat:=⟨70,50,3,56,.agg #[.bool false,.slice none 0 0,.slice none 0 0],fun w p c q=>∃x y,c=[.bool (qn q),x,y]/\i7 w p (.agg #[.bool (qn q),x,y]) q⟩
theorem KQ.ok:KQ.Ok where
 und:=underlying50
 info:=pr
 zs:=rfl
 pos:=by decide
 b:=by decide
 len:=by rintro w p c x ⟨u,v,rfl,-⟩;rfl
 one:=by
  rintro w p c x ⟨u,v,rfl,h⟩;obtain⟨f,m,i,g,l,j,-,-,-,-,-,-,a,-⟩:=h;simp only[ag3,fM] at a;obtain⟨rfl,rfl⟩:=a;exact apQ _ _ _ _ _ _ _
 move:=by rintro w o p c x ⟨u,v,e,h⟩ k hb;exact⟨u,v,e,h.blocks hb⟩
 imp:=by rintro w p n c x ⟨u,v,e,h⟩ d;exact⟨u,v,e,h.imp d⟩
theorem ML.qs{L:List Rat}(h:ML KQ w P a n m L):ij w P a n m L.length (fun i=>L.getD i 0):=fun i f=>by
 obtain⟨g,c,⟨x,y,rfl,R⟩,d⟩:=h i _ (aK f);have e:L.getD i 0=L[i]:=by simp[List.getD,aK f]
 refine⟨g,x,y, ?_, ?_, ?_, ?_⟩
 . show _=some (Value.bool (qn (L.getD i 0)));rw[e];exact d 0 _ rfl
 . exact d 1 _ rfl
 . exact d 2 _ rfl
 . show i7 w P (.agg #[.bool (qn (L.getD i 0)),x,y]) (L.getD i 0)
   rw[e];exact R
theorem ij.ml{Q:Nat->Rat}(h:ij w P a n m c Q):ML KQ w P a n m ((List.range c).map Q):=fun i q d=>by
 rw[cY] at d
 have e:i<c:=by
  rcases jI i c with h | h
  . exact h
  . rw[dJ (by simpa using h)] at d;simp at d
 rw[fK e] at d;simp at d;subst d;obtain⟨f,x,y,C⟩:=h i e;refine⟨f,_,⟨x,y,rfl,C.R⟩,fun j u b=> ?_⟩;rcases j with _ | _ | _ | j
 . simp at b;subst b;exact C.c0
 . simp at b;subst b;exact C.c1
 . simp at b;subst b;exact C.c2
 . simp at b
def KI:LK Int:=⟨3,142,1,8,.int .i64 0,fun _ _ c z=>c=[.int .i64 z]⟩
theorem KI.ok:KI.Ok where
 und:=underlying142
 info:=en
 zs:=rfl
 pos:=by decide
 b:=by decide
 len:=by rintro w p c x rfl;rfl
 one:=by rintro w p c x rfl u a;simp at a;subst a;rfl
 move:=by rintro w f p c x e _ _;exact e
 imp:=by rintro w p d c x e _;exact e
theorem ML.int{L:List Int}(h:ML KI w P a n m L)(f:L[i]?=some z):a=jp n m/\w.cell? (jj n (m+i))=some (.i z):=by
 obtain⟨d,c,rfl,e⟩:=h i z f;exact⟨d,by have:=e 0 _ rfl;rwa[show m+i*KI.sz+0=m+i from by show m+i*1+0=_;omega] at this⟩
def KS:LK (Nat×Nat):=⟨191,151,2,16,.agg #[.int .i64 0,.int .i64 0],fun _ _ c s=>c=[.int .i64 (s.1:Int),.int .i64 (s.2:Int)]⟩
theorem KS.ok:KS.Ok where
 und:=underlying151
 info:=by
  have h:(Tryz.prog.info? 191).map (fun i=>(i.zero,i.size,i.bytes))=some (some (.agg #[.i 0,.i 0]),2,16):=by kernel_rfl
  obtain⟨i,d,h⟩:=eE.1 h;simp only[Prod.mk.injEq] at h;exact⟨i,d,h.1,h.2.1,h.2.2⟩
 zs:=rfl
 pos:=by decide
 b:=by decide
 len:=by rintro w p c x rfl;rfl
 one:=by rintro w p c x rfl u a;simp at a;rcases a with rfl | rfl<;>rfl
 move:=by rintro w g p c x e _ _;exact e
 imp:=by rintro w p f c x e _;exact e
theorem ML.step{w:World}{P:Nat->Prop}{a:Option Addr}{n m c:Nat}{L:List (Nat×Nat)}{s:Nat×Nat}(h:ML KS w P a n m L)(f:L[c]?=some s):a=jp n m/\w.cell? (jj n (m+c*2))=some (.i (s.1:Int))/\w.cell? (jj n (m+c*2+1))=some (.i (s.2:Int)):=by
 obtain⟨e,b,rfl,d⟩:=h c s f;exact⟨e,d 0 _ rfl,d 1 _ rfl⟩
theorem fO.cA{w w':World}{z a v t:Value}(h:fO w n u U z a v t)(e:w'.heap[n]?=w.heap[n]?):fO w' n u U z a v t:=
 have m:∀k,w'.cell? (jj n k)=w.cell? (jj n k):=fun k=>aO (w:=w) (a:=jj n k) e
 ⟨(m 0).trans h.c0,(m 1).trans h.c1,(m 2).trans h.c2,(m 3).trans h.c3,(m 4).trans h.c4,(m 5).trans h.c5,fun k=>(dK (w:=w) (a:=jj n k) e).trans (h.f k)⟩
theorem fO.off{d:Nat}{z b v t:Value}(h:fO w n u U z b v t)(a:d≠n)(k:Nat)(q:Value):fO (w.setCell ⟨d,k,none⟩ q) n u U z b v t:=
 h.cA (fN _ _ _ _ (fun e=>a (by simp at e;exact e.symm)))
structure wH(w:World)(c:Nat)(x y:Value):Prop where
 c0:w.cell? ⟨c,0,none⟩=some x
 c1:w.cell? ⟨c,1,none⟩=some y
theorem wH.new(w:World)(u U:Value)(T:TypeId):wH (w.alloc (.cells #[u,U] T)) w.heap.size u U:=⟨by simp[go_sem],by simp[go_sem]⟩
theorem wH.lt(h:wH w n u U):n<w.heap.size:=aG _ _ h.c0
theorem wH.since{B:Nat}(h:wH w n u U)(s:w.Since B v)(b:n<B):wH v n u U:=⟨(s.cell (a:=jj n 0) b).trans h.c0,(s.cell (a:=jj n 1) b).trans h.c1⟩
theorem wH.aA{w w':World}(h:wH w n u U)(s:w.S w'):wH w' n u U:=h.since s h.lt
def KV{α:Type}(K:LK α)(S:TypeId):LK (List α):=⟨K.S,S,1,24,.slice none 0 0,fun w p c L=>∃a b o cap,c=[.slice a L.length cap]/\L.length<=cap/\(0<L.length->p b)/\ML K w p a b o L⟩
theorem KV.ok{α:Type}{K:LK α}(j:K.Ok)(S:TypeId)(t:Tryz.prog.underlying S=some (.slice K.S))(s:∃i,Tryz.prog.info? K.S=some i/\i.zero=some (.n)/\i.size=1/\i.bytes=24):(KV K S).Ok where
 und:=t
 info:=s
 zs:=rfl
 pos:=by show 0<1;decide
 b:=by show 24<=100;decide
 len:=by rintro w p c x ⟨a,b,o,d,rfl,-⟩;rfl
 one:=by rintro w p c x ⟨a,b,o,d,rfl,-⟩ u m;simp at m;subst m;rfl
 move:=by
  rintro w r p c x ⟨a,b,o,d,e,k,h,f⟩ n hb;exact⟨a,b,o,d,e,k,h,f.move j n (fun g=>hb b (f.lt j g) (h g)) hb⟩
 imp:=by rintro w p q c x ⟨a,b,o,d,e,k,h,f⟩ l;exact⟨a,b,o,d,e,k,fun g=>l b (f.lt j g) (h g),f.imp j l⟩
def jv(f:Nat->Nat)(i j:Nat):List Int:=((List.range j).filter fun j=>decide (i<f j)).map fun (j:Nat)=>(j:Int)
theorem yV(h:n<X m):jv X n (m+1)=jv X n m++[(m:Int)]:=by
 unfold jv;rw[gY,rS,eJ];simp[h]
theorem cq(h:¬n<X m):jv X n (m+1)=jv X n m:=by
 unfold jv;rw[gY,rS,eJ];simp[h]
theorem yW(X:Nat->Nat)(n m:Nat):(jv X n m).length<=m:=by
 unfold jv;rw[bS];exact aU (qJ _ _) qz
theorem vi{d:Nat}(M:m<=1001)(H:d<=m)(y:∀j,j<m->X j<=1001)(R:w.rowIs n 3 m (fun j=>.i (X j:Int))):
 Cl 194 #[.s n m c,.i (d:Int)] w fun e l=>∃b k a,e=.returned (.s b (jv X d d).length k)/\GL KI Tt l w.heap.size (.s b (jv X d d).length k) (jv X d d) a/\w.S l:=by
 have B:=fA w (.o #[] 3);have t:GL KI Tt (w.alloc (.o #[] 3)) w.heap.size (.s w.heap.size 0 0) [] []:=GL.new KI Tt w;have bl:=R.lt;go_enter func194,ntmps194;go_wp2;go_loopw [5,6] (fun u q wr=>∃j:Nat,j<=d/\q=.i j/\w.S wr/\∃b k f a,u=.s b f k/\(jv X d j).length=f/\GL KI Tt wr w.heap.size (.s b f k) (jv X d j) a) (fun _ q _=>d-(intOf q).toNat)
 case atStart=>exact⟨0,aJ _,rfl,B,w.heap.size,0,0,[],rfl,by simp[jv],by simpa [jv] using t⟩
 case round=>
  obtain⟨j,I,rfl,s,b,k,f,a,rfl,g,G⟩:=hrel;have z:=yW X d j;rw[g] at z;by_cases K:j<d
  . have F:=y j om;have D:wr.cell? (jj n j)=some (.i (X j:Int)):=(s.cell (a:=jj n j) bl).trans (R.cell om);have N:(j:Int)<d:=om;have O:(j:Int)<m:=om;by_cases h:d<X j
    . have x:(d:Int)<(X j:Int):=om;have i:=eI h;clear h;go_wp2_with (at_builtin;refine qD ?_);intro _;refine nK (m:=1) KI.ok (G.aA KI.ok (fA _ _)) g (ML.one (p:=fun q=>Tt q/\q≠b) KI.ok (c:=[.i (j:Int)]) (x:=(j:Int)) rfl 3) rfl rfl _ _ rfl rfl rfl om ?_;rintro p A l ⟨⟨C,o⟩,v,E,L⟩;go_wp2;go_roundw
      case rel=>
       refine⟨j+1,om,by go_num,iw (s.tr (yD.alloc zR _)) v G.lt.1 (by have:=s.size;simp;omega),p,A,f+1,C,rfl, ?_, ?_⟩
       . rw[yV i.out];simp[g]
       . rw[yV i.out];exact o
      case measure=>exact yI
    . have x:¬(d:Int)<(X j:Int):=om;have i:=eI h;clear h;go_wp2;go_roundw
      case rel=>exact⟨j+1,om,by go_num,s,b,k,f,a,rfl,by rw[cq i.out];exact g,by rw[cq i.out];exact G⟩
      case measure=>exact yI
  . have e:j=d:=om;subst e;go_wp2;go_ret;subst g;exact⟨b,k,a,rfl,G,s⟩
theorem wh(h:(jv X n m)[c]?=some z):∃j:Nat,z=j/\j<m/\n<X j/\(jv X n m).take c=jv X n j:=by
 induction m with
 | zero=>simp[jv] at h
 | succ m ih=>
   by_cases f:n<X m
   . rw[yV f] at h⊢;by_cases k:c<(jv X n m).length
     . rw[bJ k] at h;obtain⟨j,a,g,b,d⟩:=ih h;exact⟨j,a,om,b,by rw[mE om];exact d⟩
     . rw[bK om] at h;have e:c-(jv X n m).length=0:=by
        have:=(bG.1 h).1;simp at this;omega
       rw[e] at h;simp at h;exact⟨m,h.symm,om,f,by rw[show c=(jv X n m).length by omega];simp⟩
   . rw[cq f] at h⊢;obtain⟨j,a,g,b,d⟩:=ih h;exact⟨j,a,om,b,d⟩
def qq(d:Nat->Nat)(L:List Int):Nat:=(L.map fun z=>2*d z.toNat).sum
theorem ajh(X:Nat->Nat)(L:List Int)(n:Nat):qq X (L++[(n:Int)])=qq X L+2*X n:=by simp[qq]
theorem uQ(X Y:Nat->Nat)(n m:Nat):qq Y (jv X n m)=aB X Y n m:=by
 induction m with
 | zero=>simp[jv,qq,aB]
 | succ m ih=>
   by_cases c:n<X m
   . rw[yV c,ajh,ih,aB,aY c]
   . rw[cq c,ih,aB,aM c,fV]
theorem ani{f d:Nat->Nat}{K:Nat}(n:Nat)(h:∀k,k<n->d k<=K):aB f d i n<=2*K*n:=by
 induction n with
 | zero=>exact aJ _
 | succ n ih=>
   have a:=ih (fun k c=>h k om);have b:=h n om;rw[aB,fY,iF];split<;>omega
theorem dL{d:Nat->Nat}(h:(jv X n c)[m]?=some z):qq d ((jv X n c).take (m+1))=qq d ((jv X n c).take m)+2*d z.toNat:=by
 rw[jE,h];simp[qq]
theorem akD(s:w.Since n v)(m:Nat):w.Since n (v.drewN m):=⟨s.os,s.tape,s.output,s.size,s.block⟩
theorem akC{L:List Nat}(hb:∀x∈L,x<=n)(m:Nat):qr L m<=m*(n*(n+1)):=by
 have h:∀i,L.getD i 0<=n:=fun i=>by
  by_cases a:i<L.length
  . simp only[List.getD,aK a,gI];exact hb _ (jB a)
  . simp[List.getD,dJ (jV a)]
 induction m with
 | zero=>exact aJ _
 | succ m ih=>
   rw[qr,bI,dS];exact Nat.add_le_add ih (dF (h _) (by have:=h m;omega))
theorem alD{L:List Nat}{n m c:Nat}{P:Nat->Prop}{w:World}(K:L.length=m+1)(N:m<=1000000)(hb:∀x∈L,x<=2100000)(M:ML KI w P (jp n 0) n 0 (L.map fun (x:Nat)=>(x:Int))):
 Cl 115 #[.s n (m+1) c] w fun e G=>e=.returned (.i (qr L m:Int))/\w.S G:=by
 have f:∀k,k<=m->∃x:Nat,x<=2100000/\L.getD k 0=x/\w.cell? (jj n k)=some (.i (x:Int)):=fun k l=>by have g:k<L.length:=om;refine⟨L[k],hb _ (jB g),by simp[List.getD,aK g], ?_⟩;have:=(M.int (i:=k) (z:=(L[k]:Int)) (by rw[cY,aK g];rfl)).2;rwa[aZ] at this
 have bl:n<w.heap.size:=M.lt KI.ok (by simp;omega);have i:=akC hb;clear M hb;go_enter func115,ntmps115;go_wp2;go_loopw [3,4] (fun u q wr=>∃k:Nat,k<=m/\q=.i ((k+1:Nat):Int)/\u=.i (qr L k:Int)/\w.S wr) (fun _ q _=>m+1-(intOf q).toNat)
 case atStart=>exact⟨0,aJ _,rfl,rfl,aF _ _⟩
 case round=>
  obtain⟨k,l,rfl,rfl,s⟩:=hrel;have o:=i k;have W:k*(2100000*(2100000+1))<=1000000*(2100000*(2100000+1)):=aP _ om;by_cases D:k<m
  . obtain⟨x,O,B,z⟩:=f k l;obtain⟨y,E,C,A⟩:=f (k+1) D;have b:qr L (k+1)=qr L k+y*(x+1):=(by rw[qr,B,C]);have r:y*(x+1)<=2100000*(2100000+1):=dF E om;obtain⟨F,hF⟩:∃F,F=y*(x+1):=⟨_,rfl⟩;obtain⟨a,p⟩:∃a,a=x+1:=⟨_,rfl⟩;rw[<-hF] at b r;rw[<-p] at hF;have H:wr.cell? (jj n k)=some (.i (x:Int)):=(s.cell (a:=jj n k) bl).trans z;have I:wr.cell? (jj n (k+1))=some (.i (y:Int)):=(s.cell (a:=jj n (k+1)) bl).trans A;have R:IntKind.i64.wrap ((x:Int)+1)=(a:Int):=(by rw[show (x:Int)+1=(a:Int) by omega];exact gU om om);have T:IntKind.i64.wrap ((y:Int)*(a:Int))=(F:Int):=(by rw[<-dR,<-hF];exact gU om om);have U:IntKind.i64.wrap (((k+1:Nat):Int)-1)=(k:Int):=(by rw[show ((k+1:Nat):Int)-1=(k:Int) by omega];exact gU om om);obtain⟨S,j⟩:∃S,qr L k=S:=⟨_,rfl⟩;obtain⟨h,d⟩:∃S,qr L (k+1)=S:=⟨_,rfl⟩;rw[j] at o b⊢;rw[d] at b;have V:IntKind.i64.wrap ((S:Int)+(F:Int))=(h:Int):=(by rw[show (S:Int)+(F:Int)=h by omega];exact gU om om);have v:((k+1:Nat):Int)<((m+1:Nat):Int):=om;have Q:(k:Int)<((m+1:Nat):Int):=om;have t:=eI d;clear hF p b o r j d i f;go_wp2_with fail;go_quiet (fail);go_wp2;go_roundw
    case rel=>exact⟨k+1,om,by go_num,by rw[t.out],akD s nq⟩
    case measure=>exact yI
  . have e:k=m:=om;subst e;go_wp2;go_ret;exact⟨rfl,s⟩
theorem wR{b k s:Int}:
 Cl 157 #[.agg #[.i z,.i y,.i b,.i k,.i s,u]] w fun e a=>e=.returned (.bool (z==2 ||z==3 ||(z==5&&decide (1<k))))/\w.S a:=by
 have c:=fA w (.o #[.i z,.i y,.i b,.i k,.i s,u] 144);have h:=fO.new w (.i z) (.i y) (.i b) (.i k) (.i s) u 144;go_enter func157,ntmps157;have j:=h.c0;have l:=h.c3;by_cases d:z=2
 . subst d;go_wp2;go_ret;exact⟨rfl,c⟩
 by_cases f:z=3
 . subst f;go_wp2;go_ret;exact⟨rfl,c⟩
 by_cases g:z=5
 . subst g;by_cases i:1<k
   all_goals
    go_wp2;go_ret;exact⟨by simp[i],c⟩
 . have m:(z==2)=false:=(by simpa using d);have n:(z==3)=false:=(by simpa using f);have p:(z==5)=false:=(by simpa using g);go_wp2;go_ret;exact⟨by simp[d,f,g],c⟩
theorem an0{z y b k s:Int}{u:Value}{n m c:Nat}{w:World}(x:n<=1000)(p:m<=1000)(v:c<=1000):
 Cl 195 #[.agg #[.i z,.i y,.i b,.i k,.i s,u],.i (n:Int),.i (m:Int),.i (c:Int)] w fun e o=>e=.returned (.i ((if z=2 then c else if z=3 then 2*c else m*(3*(n/2)+2*(n % 2)):Nat):Int))/\w.S o:=by
 have f:=fA w (.o #[.i z,.i y,.i b,.i k,.i s,u] 144);have a:=fO.new w (.i z) (.i y) (.i b) (.i k) (.i s) u 144;obtain⟨W,i⟩:∃W,W=3*(n/2)+2*(n % 2):=⟨_,rfl⟩;obtain⟨F,hF⟩:∃F,F=m*W:=⟨_,rfl⟩;have t:F<=1000*2000:=by rw[hF];exact dF p om
 have j:IntKind.i64.wrap ((m:Int)*(W:Int))=(F:Int):=by rw[<-dR,<-hF];exact gU om om
 rw[<-i,<-hF];have q:=eI hF;clear hF;go_enter func195,ntmps195;have r:=a.c0;by_cases g:z=2
 . subst g;go_wp2;go_ret;exact⟨rfl,f⟩
 by_cases h:z=3
 . subst h;go_wp2;go_ret;exact⟨qz,f⟩
 . have B:(z==2)=false:=(by simpa using g);have A:(z==3)=false:=(by simpa using h);have d:=eI (show 3*((n:Int)/2)+2*((n:Int) % 2)=(W:Int) by omega);have l:=eI j;clear j i;go_wp2;go_ret
   exact⟨by
    show Ending.returned (.i (Go.RowKit.wrap64 ((m:Int)*(3*((n:Int)/2)+2*((n:Int) % 2)))))=_;rw[d.out,<-IntWalk.i64_left,l.out],f⟩
structure LwM(w:World)(g:eQ)(lo:Nat)(aL aH aN:Option Addr)(kL kH kN bd bn bl lim:Nat):Prop where
 G:aV w lo g aL aH aN kL kH kN
 D:Ints w (some ⟨bd,0,none⟩) bd 0 (g.nn+1) (fun j=>(vD g j:Int))
 N:w.rowIs bn 4 (g.nn+1) (fun j=>.bool (lD g j))
 L:w.rowIs bl 3 (g.nn+1) (fun j=>.int .i64 (iM g j:Int))
theorem LwM.aA{w w':World}{n i m j d c bl k:Nat}(h:LwM w G n a A B i m j d c bl k)(s:w.S w'):LwM w' G n a A B i m j d c bl k:=
 ⟨h.G.aA s,h.D.aA s,h.N.of_block (s.block _ h.N.lt),h.L.of_block (s.block _ h.L.lt)⟩
theorem LwM.d{g:eQ}{n i o k a b bl l:Nat}{c d:Option Addr}(h:LwM w g n c A d i o k a b bl l)(m:j<=g.nn):w.cell? (jj a j)=some (.i (vD g j:Int)):=by
 have:=(h.D j om).2;rwa[aZ] at this
theorem cG(E:pg G)(a:j<=G.nn+1):ku G i j<=2002000:=by
 have h:=ani (f:=iM G) (d:=vD G) (i:=i) (K:=1000) j (fun k b=>(E.bZ om).2);have:=E.head.n;unfold ku;omega
theorem adv(X:Nat->Nat)(L:List Int)(n:Nat):qq X (L.take n)<=qq X L:=by
 conv=>rhs;rw[<-tI n L]
 unfold qq;rw[eJ,List.sum_append];omega
theorem ajM{G:eQ}(E:pg G){a A B:Option Addr}{m c d k i j bl l o b p q:Nat}{w:World}(M:LwM w G m a A B c d k i j bl l)(i1:1<=p)(i2:p<=G.nn)(hc:q<=1000):
 Cl 158 #[.agg (gV G a A B c d k),.s i (G.nn+1) o,.s bl (G.nn+1) b,.agg #[.i (p:Int),.i (q:Int)]] w fun e h=>e=.returned (.i (pZ G (p,q):Int))/\w.S h:=by
 have av:=E.head.n;obtain⟨f,a6⟩:∃f,p=f+1:=⟨p-1,om⟩;have F:=E.nd (i:=f) om;have U:=(E.bZ (j:=p) i2).2;have da:=(E.bZ (j:=(G.N f).a.toNat) (by have:=F.ai;omega)).2;have K:=eI E;have C:=eI a6;have ez:(p:Int)-1=(f:Int):=om;clear a6;have sA:=fA w (.o (gV G a A B c d k) 115);have bA:=fO.new w (.i G.inn) (.i G.rounds) (.l a G.nl c) (.l A G.nh d) (.l B G.nn k) (.i G.out) 115;have zA:(w.alloc (.o (gV G a A B c d k) 115)).heap.size=w.heap.size+1:=by simp
 have Y:=wH.new (w.alloc (.o (gV G a A B c d k) 115)) (.i (p:Int)) (.i (q:Int)) 191;have sB:=sA.alloc sA.size (.o #[.i (p:Int),.i (q:Int)] 191);have af:=bA.aA (yD.alloc zR (.o #[.i (p:Int),.i (q:Int)] 191));rw[zA] at Y;have b0:=Y.c0;go_enter func158,ntmps158;go_wp2_with fail;generalize (w.alloc _).alloc _=wA at*;have O:=M.aA sB;refine (vi om om (fun V _=>by have:=dN G V;omega) O.L).mono ?_;rintro e w1 ⟨cc,kc,xs,rfl,GC,W⟩;have S:=sB.tr W;have I:=Y.aA W;have A1:=af.aA W;have P:=O.aA W;have MC:=GC.ml KI.ok;have aj:=yW (iM G) p p;generalize hn:(jv (iM G) p p).length=n at aj⊢;have N:=eI hn;clear hn b0
 have T:∀t,qq (vD G) ((jv (iM G) p p).take t)<=2002000:=fun t=>aU (adv (vD G) _ t) (by
  rw[uQ];exact cG (i:=p) K.out om)
 go_wp2;go_loopw [9,11] (fun ao Z wr=>∃t:Nat,t<=n/\Z=.i (t:Int)/\ao=.i (qq (vD G) ((jv (iM G) p p).take t):Int)/\wr=w1) (fun _ Z _=>n-(intOf Z).toNat)
 case atStart=>exact⟨0,aJ _,rfl,rfl,rfl⟩
 case round=>
  obtain⟨t,ht,rfl,rfl,rfl⟩:=hrel;have ai:=T t;have ar:=T (t+1);by_cases ak:t<n
  . obtain⟨z,x⟩:∃z,(jv (iM G) p p)[t]?=some z:=⟨_,aK (by rw[N.out];exact ak)⟩;obtain⟨V,rfl,hj,au,-⟩:=wh x;have st:=dL (d:=vD G) x;have c1:=(MC.int x).2;rw[aZ] at c1;have c2:=P.d (j:=V) om;have dj:=(K.out.bZ (j:=V) om).2;have al:(t:Int)<n:=om;have am:(V:Int)<((G.nn+1:Nat):Int):=om;rw[iL] at st;generalize hs:qq (vD G) ((jv (iM G) p p).take t)=aq at*;generalize aa:qq (vD G) ((jv (iM G) p p).take (t+1))=S' at*;generalize vD G V=D at*;have HS:=eI aa;clear hs aa x;go_wp2;go_roundw
    case rel=>exact⟨t+1,om,by go_num,by rw[HS.out];go_num,trivial⟩
    case measure=>exact yI
  . have e:t=n:=om;subst e;have a4:qq (vD G) ((jv (iM G) p p).take t)=ku G p p:=(by rw[dV (by rw[N.out];exact aC _),uQ];rfl);rw[a4] at ai⊢;obtain⟨bN,oN,-,LN⟩:=M.G.LN;obtain⟨ah,u,y,MN⟩:=LN f (by have:=C.out;omega);subst ah;obtain⟨g,H⟩:∃V:Nat,(G.N f).a=V:=⟨(G.N f).a.toNat,by have:=F.a0;omega⟩;have a0:g<=f:=(by have:=F.ai;omega);have lk:f<G.nn:=(by have:=C.out;omega);have ad:=MN.aA S;obtain⟨g0,a5,g2,g3,g4,g5⟩:=ad.g;rw[H] at a5;have b4:=A1.c4;have d0:=I.c0;have al:(f:Int)<(G.nn:Int):=om;have am:(p:Int)<((G.nn+1:Nat):Int):=om;have aw:(g:Int)<((G.nn+1:Nat):Int):=om;have ax:(p:Int)<(G.nn:Int)+1:=om;have ay:(g:Int)<(G.nn:Int)+1:=om;have X:=fA wr (.o #[.i (G.N f).op,.i (g:Int),.i (G.N f).b,.i (G.N f).k,.i (G.N f).s,.l u (G.N f).nv y] 144);have nB:=fO.new wr (.i (G.N f).op) (.i (g:Int)) (.i (G.N f).b) (.i (G.N f).k) (.i (G.N f).s) (.l u (G.N f).nv y) 144;have L:=eI H;clear H;go_wp2_with fail;generalize wr.alloc _=w4 at*;have v:=uB w4;have S4:=S.tr (X.trans (sM v X.size));have Q:=(P.aA X).aA v;have s:=(I.aA X).aA v;have R:=nB.aA v;have ag:vD G g<=1000:=(by have:=da;rw[L.out] at this;exact this);have J:=@an0 (G.N f).op (g:Int) (G.N f).b (G.N f).k (G.N f).s (.l u (G.N f).nv y) q (vD G p) (vD G g) w4.drew hc U ag;obtain⟨n0,n1,n2,n3,n4,n5⟩:=R.g;have e0:=s.c0;have e1:=s.c1;have a1:=Q.d (j:=p) i2;have a3:=Q.d (j:=g) om;have own:(if (G.N f).op=2 then vD G g else if (G.N f).op=3 then 2*vD G g else vD G p*(3*(q/2)+2*(q % 2)))=yz G p q:=by
     unfold yz;rw[show p-1=f by have:=C.out;omega,show (G.N f).a.toNat=g by rw[L.out];rfl]
    rw[own] at J;have wd:pZ G (p,q)=ku G p p+yz G p q:=rfl;have a2:yz G p q<=2000000:=by
     rw[<-own];have hm:vD G p*(3*(q/2)+2*(q % 2))<=1000*2000:=dF U om;split
     . omega
     . split<;>omega
    have WD:=eI wd;clear own wd g0 a5 g2 g3 g4 g5 b4 d0 a4;generalize yz G p q=ae at*;generalize ku G p p=ac at*;generalize vD G p=D at*;generalize vD G g=ab at*
    go_region_held3 (fun h=>h.cell? (jj wr.heap.size 0)=some (.i (G.N f).op)/\h.cell? (jj wr.heap.size 1)=some (.i (g:Int))/\h.cell? (jj wr.heap.size 2)=some (.i (G.N f).b)/\h.cell? (jj wr.heap.size 3)=some (.i (G.N f).k)/\h.cell? (jj wr.heap.size 4)=some (.i (G.N f).s)/\h.cell? (jj wr.heap.size 5)=some (.l u (G.N f).nv y)/\h.cell? (jj (w.heap.size+1) 0)=some (.i (p:Int))/\h.cell? (jj (w.heap.size+1) 1)=some (.i (q:Int))/\h.cell? (jj i p)=some (.i (D:Int))/\h.cell? (jj i g)=some (.i (ab:Int))) (go_keep)
     (first
       | (go_at_call 195;with_reducible refine mo J fun w5 r=> ?_;obtain⟨k0,az,k2,k3,k4,k5⟩:=(R.aA r).g;have k6:=(s.aA r).c0;have k7:=(s.aA r).c1;have k8:=(r.cell (a:=jj i p) (aG _ _ a1)).trans a1;have k9:=(r.cell (a:=jj i g) (aG _ _ a3)).trans a3))
    all_goals go_wp2
    go_ret;refine⟨?_,S4.tr r⟩;show Ending.returned (.i (IntKind.i64.wrap ((ac:Int)+(ae:Int))))=_;rw[WD.out,<-rM];exact congrArg (fun z=>Ending.returned (.i z)) (gU om om)
theorem sG(h:¬1<n):pe n=[]:=by rw[peE,dif_neg h]
theorem tW(h:1<n):pe n=n::pe (n/2+n % 2):=by rw[peE,dif_pos h]
theorem ahs(n:Nat):(pe n).length<=n:=by
 induction n using Nat.strongRecOn with
 | _ n ih=>
   by_cases h:1<n
   . rw[tW h,fS];have:=ih (n/2+n % 2) om;omega
   . rw[sG h];exact aJ _
theorem abE(E:pg G)(b:i<G.nn):(oF G i).length<=1000:=by
 have f:=(E.nd b).sh.f;unfold oF;split
 . split
   . simp
   . split
     . rename_i h5
       have a:=f.k;rw[h5] at a;have a:1<=(G.N i).k/\(G.N i).k<=1000:=a;rw[bS];have:=ahs (G.N i).k.toNat;omega
     . simp
 . simp
theorem abF(E:pg G)(c:n<=G.nn):(jw G n).length<=1000*n:=by
 induction n with
 | zero=>simp[jw]
 | succ n ih=>
   have a:=ih om;have b:=abE E (i:=n) om;rw[jw,aT];omega
theorem ajN(a5:pg G){n m c d bd k bl i j:Nat}(a6:LwM w G n a A B m c d bd k bl i):
 Calls Tryz.prog 113 #[.agg #[.int .i64 G.inn,.int .i64 G.rounds,.slice a G.nl m,.slice A G.nh c,.slice B G.nn d,.int .i64 G.out],.slice (some ⟨k,0,none⟩) (G.nn+1) j] w fun a4 U=>∃f p b,a4=.returned (.slice (some ⟨f,0,none⟩) (gR G).length p)/\GL KS Tt U w.heap.size (.slice (some ⟨f,0,none⟩) (gR G).length p) (gR G) b/\w.Since w.heap.size U:=by
 have av:=a5.head.n;have Y:=eI a5;have sA:=fA w (.cells #[.int .i64 G.inn,.int .i64 G.rounds,.slice a G.nl m,.slice A G.nh c,.slice B G.nn d,.int .i64 G.out] 115);have bA:=fO.new w (.int .i64 G.inn) (.int .i64 G.rounds) (.slice a G.nl m) (.slice A G.nh c) (.slice B G.nn d) (.int .i64 G.out) 115;have zA:(w.alloc (.cells #[.int .i64 G.inn,.int .i64 G.rounds,.slice a G.nl m,.slice A G.nh c,.slice B G.nn d,.int .i64 G.out] 115)).heap.size=w.heap.size+1:=by simp
 have gB:GL KS Tt ((w.alloc (.cells #[.int .i64 G.inn,.int .i64 G.rounds,.slice a G.nl m,.slice A G.nh c,.slice B G.nn d,.int .i64 G.out] 115)).alloc (.cells #[] 191)) (w.heap.size+1) (.slice (some ⟨w.heap.size+1,0,none⟩) 0 0) [] []:=by have:=GL.new KS Tt (w.alloc (.cells #[.int .i64 G.inn,.int .i64 G.rounds,.slice a G.nl m,.slice A G.nh c,.slice B G.nn d,.int .i64 G.out] 115));rwa[zA] at this
 have sB:=sA.alloc sA.size (.cells #[] 191);have ai:=bA.aA (yD.alloc zR (.cells #[] 191));go_enter func113,ntmps113;go_wp2;go_loopw [5,6] (fun ac q wr=>∃e:Nat,e<=G.nn/\q=.int .i64 ((e+1:Nat):Int)/\w.Since w.heap.size wr/\fO wr w.heap.size (.int .i64 G.inn) (.int .i64 G.rounds) (.slice a G.nl m) (.slice A G.nh c) (.slice B G.nn d) (.int .i64 G.out)/\∃f p l b,ac=.slice (some ⟨f,0,none⟩) l p/\(jw G e).length=l/\GL KS Tt wr (w.heap.size+1) (.slice (some ⟨f,0,none⟩) l p) (jw G e) b) (fun _ q _=>G.nn+1-(intOf q).toNat)
 case atStart=>exact⟨0,aJ _,rfl,sB,ai,w.heap.size+1,0,0,[],rfl,rfl,gB⟩
 case round=>
  obtain⟨e,hm,rfl,ab,af,f,s,l,b,rfl,h,Z⟩:=hrel;have b4:=af.c4;have ao:=abF Y.out hm;rw[h] at ao;by_cases al:e<G.nn
  . have st:jw G (e+1)=jw G e++oF G e:=rfl;have SP:=Y.out.nd (i:=e) om;have kb:(G.N e).op=5->1<=(G.N e).k/\(G.N e).k<=1000:=fun C=>by
     have O:=SP.sh.f.k;rw[C] at O;exact O
    obtain⟨bN,oN,-,LN⟩:=a6.G.LN;obtain⟨aj,a1,k1,MN⟩:=LN e om;subst aj;have M1:=MN.aA ab;obtain⟨g0,g1,g2,g3,g4,g5⟩:=M1.g;obtain⟨o,Q⟩:∃o,(G.N e).op=o:=⟨_,rfl⟩;obtain⟨z,R⟩:∃z,(G.N e).k=z:=⟨_,rfl⟩;rw[Q] at g0;rw[R] at g3;rw[Q,R] at kb;have aw:((e+1:Nat):Int)<=(G.nn:Int):=om;have ax:(e:Int)<(G.nn:Int):=om;have ay:((e+1:Nat):Int)<((G.nn+1:Nat):Int):=om;have ez:((e+1:Nat):Int)-1=(e:Int):=om;have sN:=fA wr (.cells #[.int .i64 o,.int .i64 (G.N e).a,.int .i64 (G.N e).b,.int .i64 z,.int .i64 (G.N e).s,.slice a1 (G.N e).nv k1] 144);have nB:=fO.new wr (.int .i64 o) (.int .i64 (G.N e).a) (.int .i64 (G.N e).b) (.int .i64 z) (.int .i64 (G.N e).s) (.slice a1 (G.N e).nv k1) 144;have W:=af.aA sN;have N:=ab.tr sN;have X:=Z.aA KS.ok sN;have MM:=a6.aA N;have r0:=MM.N.cell (i:=e+1) om;have H:=eI st;have L:=eI (show oF G e=(if lD G (e+1)=true then (if o=2∨o=3 then [(e+1,0)] else if o=5 then (pe z.toNat).map fun f=>(e+1,f) else []) else []) by unfold oF;rw[Q,R]);clear st Q R SP;have NL:=eI (abE Y.out al);cases hy:lD G (e+1)
    . have I:=eI hy;rw[hy] at r0;clear hy;go_wp2;go_roundw
      case rel=>have g:jw G (e+1)=jw G e:=(by rw[H.out,L.out,I.out];simp);exact⟨e+1,om,by go_num,N,W,f,s,l,b,rfl,by rw[g];exact h,by rw[g];exact X⟩
      case measure=>exact yI
    have I:=eI hy;rw[hy] at r0;clear hy;go_wp2_with fail;generalize wr.alloc _=wN at*;refine mo (wR) fun w2 S=> ?_;have E:=N.tr S;have v:=W.aA S;have N2:=nB.aA S;have x:=X.aA KS.ok S;have n0:=N2.c0;have n3:=N2.c3;have z2:=E.size;have au:=x.lt;by_cases r:o=2∨o=3
    . have M:=eI (show oF G e=[(e+1,0)] by rw[L.out,I.out,aY rfl,aY r]);have u:(o==2 ||o==3 ||(o==5&&decide (1<z)))=true:=(by rcases r with rfl | rfl<;>rfl);have q5:(o != 5)=true:=(by rcases r with rfl | rfl<;>rfl);rw[u];clear r;go_wp2_with (at_builtin;refine qD ?_);intro _;refine nK (m:=1) KS.ok (x.aA KS.ok (fA _ _)) h (ML.one (p:=fun q=>Tt q/\q≠f) KS.ok (c:=[.int .i64 ((e:Int)+1),.int .i64 0]) (x:=(e+1,0)) rfl 191) rfl rfl _ _ rfl rfl rfl om ?_;rintro a3 k' U ⟨⟨ae,F⟩,K,ak,am⟩;have T:=fA w2 (.cells #[.int .i64 ((e:Int)+1),.int .i64 0] 191);go_wp2;go_roundw
      case rel=>have g:jw G (e+1)=jw G e++[(e+1,0)]:=(by rw[H.out,M.out]);refine⟨e+1,om,by go_num,iw (E.tr T) K om (by have:=T.size;omega),(v.aA T).cA (ig K (by have:=v.lt;have:=T.size;omega) om),a3,k',l+1,ae,rfl,by rw[g];simp[h],by rw[g];exact F⟩
      case measure=>exact yI
    by_cases C:o=5;rotate_left
    . have M:=eI (show oF G e=[] by rw[L.out,I.out,aY rfl,aM r,aM C]);have u:(o==2 ||o==3 ||(o==5&&decide (1<z)))=false:=(by simp[C];omega);rw[u];clear r C;go_wp2;go_roundw
      case rel=>have g:jw G (e+1)=jw G e:=(by rw[H.out,M.out];simp);exact⟨e+1,om,by go_num,E,v,f,s,l,b,rfl,by rw[g];exact h,by rw[g];exact x⟩
      case measure=>exact yI
    subst C;obtain⟨az,a0⟩:=kb rfl;obtain⟨y,rfl⟩:∃y:Nat,z=y:=⟨z.toNat,om⟩;have M:=eI (show oF G e=(pe y).map fun f=>(e+1,f) by rw[L.out,I.out,aY rfl,aM r,aY rfl];rfl);clear r kb;by_cases O:1<y;rotate_left
    . have u:((5:Int)==2 ||(5:Int)==3 ||((5:Int)==5&&decide (1<(y:Int))))=false:=(by simp;omega);rw[u];go_wp2;go_roundw
      case rel=>have g:jw G (e+1)=jw G e:=(by rw[H.out,M.out,sG O];simp);exact⟨e+1,om,by go_num,E,v,f,s,l,b,rfl,by rw[g];exact h,by rw[g];exact x⟩
      case measure=>exact yI
    have u:((5:Int)==2 ||(5:Int)==3 ||((5:Int)==5&&decide (1<(y:Int))))=true:=(by simp;omega);rw[u];go_wp2;go_loopw [5,8] (fun ac q ad=>∃(t:Nat) (D:List (Nat×Nat)),t<=1000/\q=.int .i64 t/\w.Since w.heap.size ad/\fO ad w.heap.size (.int .i64 G.inn) (.int .i64 G.rounds) (.slice a G.nl m) (.slice A G.nh c) (.slice (some ⟨bN,oN,none⟩) G.nn d) (.int .i64 G.out)/\(D++(pe t).map (fun f=>(e+1,f))=oF G e)/\∃f p l b,ac=.slice (some ⟨f,0,none⟩) l p/\(jw G e++D).length=l/\GL KS Tt ad (w.heap.size+1) (.slice (some ⟨f,0,none⟩) l p) (jw G e++D) b) (fun _ q _=>(intOf q).toNat)
    case atStart=>exact⟨y,[],om,rfl,E,v,by rw[M.out];rfl,f,s,l,b,rfl,by simpa using h,by simpa using x⟩
    case round=>
     clear X x v W E N au;obtain⟨t,D,ht,rfl,s',V,aa,f,s,n',b,rfl,P,F⟩:=hrel;have a2:=F.lt;have z':=s'.size;have hl:=NL.out;rw[<-aa,aT] at hl;have an:=P;rw[aT,h] at an;have EP:=eI aa;clear aa;by_cases ag:1<t
     . have aq:(1:Int)<t:=om;go_wp2_with (at_builtin;refine qD ?_);intro _;refine nK (m:=1) KS.ok (F.aA KS.ok (fA _ _)) P (ML.one (p:=fun q=>Tt q/\q≠f) KS.ok (c:=[.int .i64 ((e:Int)+1),.int .i64 t]) (x:=(e+1,t)) rfl 191) rfl rfl _ _ rfl rfl rfl om ?_;rintro a3 k' U ⟨⟨ae,ah⟩,K,ak,am⟩;go_wp2;go_roundw
       case rel=>
        refine⟨t/2+t % 2,D++[(e+1,t)],om,by go_num,iw (s'.tr (yD.alloc zR _)) K om (by simp;omega),(V.aA (fA _ _)).cA (ig K (by have:=V.lt;simp;omega) om), ?_,a3,k',n'+1,ae,rfl, ?_, ?_⟩
        . rw[<-EP.out,tW ag];simp
        . rw[<-dZ,aT,P];rfl
        . rw[<-dZ];exact ah
       case measure=>exact yI
     . have aq:¬(1:Int)<t:=om;go_wp2;go_roundw
       case rel=>have g:jw G (e+1)=jw G e++D:=(by have:=EP.out;rw[sG ag,kC,iJ] at this;rw[H.out,this]);exact⟨e+1,om,by go_num,s',V,f,s,n',b,rfl,by rw[g];exact P,by rw[g];exact F⟩
       case measure=>exact yI
  . have a4:e=G.nn:=om;subst a4;subst h;go_wp2;go_ret;exact⟨f,s,b,rfl,⟨Z.own.mono om,Z.at_⟩,ab⟩
theorem pC{s:Nat×Nat}(h:s∈jw G n):1<=s.1/\s.1<=n/\lD G s.1=true/\(((G.N (s.1-1)).op=2∨(G.N (s.1-1)).op=3)/\s.2=0∨(G.N (s.1-1)).op=5/\1<s.2/\s.2<=(G.N (s.1-1)).k.toNat):=by
 have b:∀c x,x∈pe c->1<x/\x<=c:=fun c=>by
  induction c using Nat.strongRecOn with
  | _ c ih=>
    intro x a;by_cases h:1<c
    . rw[tW h] at a;rcases fW.1 a with rfl | a
      . exact⟨h,aC _⟩
      . have:=ih (c/2+c % 2) om x a;omega
    . rw[sG h] at a;simp at a
 induction n with
 | zero=>simp[jw] at h
 | succ n ih=>
   rw[jw,iX] at h;rcases h with h | h
   . have:=ih h;exact⟨this.1,om,this.2.2⟩
   . unfold oF at h;split at h
     . rename_i hn
       split at h
       . rename_i h23
         simp at h;subst h;exact⟨qz,qz,hn,.inl ⟨h23,rfl⟩⟩
       . split at h
         . rename_i h5
           rw[dT] at h;obtain⟨x,a,rfl⟩:=h;exact⟨qz,qz,hn,.inr ⟨h5,b _ x a⟩⟩
         . simp at h
     . simp at h
theorem vU(E:pg G){s:Nat×Nat}(h:s∈gR G):pZ G s<=2100000/\s.2<=1000:=by
 obtain⟨l,m,-,f⟩:=pC h;have a:=E.nd (i:=s.1-1) om;have k:=(E.bZ (j:=(G.N (s.1-1)).a.toNat) (by have:=a.ai;omega)).2;have o:=cG E (i:=s.1) (j:=s.1) om;unfold pZ yz;rcases f with ⟨d,e⟩ | ⟨c,i,j⟩
 . rcases d with h | h
   . rw[aY h];omega
   . rw[aM om,aY h];omega
 . rw[aM om,aM om];have sh:=(a.sh.c5 c).2;rw[show s.1-1+1=s.1 by omega] at sh;have b:=a.sh.f.k;rw[c] at b;have b:1<=(G.N (s.1-1)).k/\(G.N (s.1-1)).k<=1000:=b;have n:vD G s.1*(3*(s.2/2)+2*(s.2 % 2))<=vD G s.1*(2*(G.N (s.1-1)).k.toNat):=dE _ om;have p:vD G s.1*(2*(G.N (s.1-1)).k.toNat)=2*(vD G s.1*(G.N (s.1-1)).k.toNat):=(by ac_rfl);omega
theorem ahv(E:pg G){d:Nat}(av:LwM w G n a A B m c d k i j l)(HS:ML KS w P (jp p 0) p 0 (gR G)):
 Cl 114 #[.agg (gV G a A B m c d),.s k (G.nn+1) o,.s j (G.nn+1) b,.s p (gR G).length q] w fun ar e=>∃g O H,ar=.returned (.s g ((gR G).length+2) O)/\GL KI Tt e w.heap.size (.s g ((gR G).length+2) O) ((kG G).map fun (x:Nat)=>(x:Int)) H/\w.S e:=by
 have al:=E.head.n;have i1:=E.head.i1;have i2:=E.head.i2;have o0:=E.o0;have o1:=E.o1;have ay:=eI E;have nl:=abF E (aC G.nn);obtain⟨L,ab⟩:∃aj:Nat,G.out=aj:=⟨G.out.toNat,om⟩;have am:L<=G.nn:=om;have sA:=fA w (.cells (gV G a A B m c d) 115);have bA:=fO.new w (.i G.inn) (.i G.rounds) (.slice a G.nl m) (.slice A G.nh c) (.slice B G.nn d) (.i G.out) 115;have zA:(w.alloc (.cells (gV G a A B m c d) 115)).heap.size=w.heap.size+1:=by simp
 have gB:GL KI Tt ((w.alloc (.cells (gV G a A B m c d) 115)).alloc (.cells #[.i G.inn] 3)) (w.heap.size+1) (.s (w.heap.size+1) 1 1) [G.inn] [.i G.inn]:=by
  have:=World.ownsRow_lit (base:=w.heap.size+1) (e:=3) (size:=1) (w.alloc (.cells (gV G a A B m c d) 115)) #[.i G.inn] 1 om qd rfl;rw[zA] at this;exact⟨this,fun ai x T=>by
   have hi:ai=0:=(by have:=(bG.1 T).1;simp at this;exact this);subst hi;simp at T;subst T;rfl⟩
 have sB:=sA.alloc sA.size (.cells #[.i G.inn] 3);have ad:=bA.aA (yD.alloc zR (.cells #[.i G.inn] 3));have HO:=eI ab;obtain⟨N,D⟩:∃N,(gR G).length=N:=⟨_,rfl⟩;have nl:N<=1000*G.nn:=by rw[<-D];exact nl
 rw[D];have K:=eI D;clear ab D;go_enter func114,ntmps114;go_wp2;go_loopw [9,10] (fun ak h wr=>∃t:Nat,t<=N/\h=.i (t:Int)/\w.S wr/\fO wr w.heap.size (.i G.inn) (.i G.rounds) (.slice a G.nl m) (.slice A G.nh c) (.slice B G.nn d) (.i G.out)/\∃g O H,ak=.s g (t+1) O/\GL KI Tt wr (w.heap.size+1) (.s g (t+1) O) (G.inn::(((gR G).take t).map (pZ G)).map fun (x:Nat)=>(x:Int)) H) (fun _ h _=>N-(intOf h).toNat)
 case atStart=>exact⟨0,aJ _,rfl,sB,ad,w.heap.size+1,1,_,rfl,gB⟩
 case round=>
  obtain⟨t,ht,rfl,s,au,g,kc,H,rfl,Y⟩:=hrel;have lt:=Y.lt;have zs:=s.size;have hl:(G.inn::(((gR G).take t).map (pZ G)).map fun (x:Nat)=>(x:Int)).length=t+1:=by rw[fS,bS,bS,jR,K.out,uA ht]
  by_cases af:t<N
  . have ah:t<(gR G).length:=(by rw[K.out];exact af);obtain⟨sp,F⟩:∃x:Nat×Nat,(gR G)[t]?=some x:=⟨(gR G)[t],aK ah⟩;obtain⟨-,Q,c1⟩:=HS.step F;have S:=cO F;obtain⟨t1,t2,-⟩:=pC S;have wl:=vU ay.out S;obtain⟨y,v⟩:=sp;have bl:p<w.heap.size:=aG _ _ Q;have R:=uB wr;have X:=s.tr R;have d0:wr.drew.cell? (jj p (t*2))=some (.i (y:Int)):=by
     have:=(X.cell (a:=jj p (0+t*2)) bl).trans Q;rwa[aZ] at this
    have d1:wr.drew.cell? (jj p (t*2+1))=some (.i (v:Int)):=(by have:=(X.cell (a:=jj p (0+t*2+1)) bl).trans c1;rwa[aZ] at this);have aw:=au.aA R;obtain⟨b0,b1,b2,b3,b4,b5⟩:=aw.g;have J:=@ajM G ay.out a A B n m c d k i j l o b y v wr.drew (av.aA X) t1 t2 wl.2;have hz:(t:Int)<N:=om;have G1:=Y.aA KI.ok R;have e1:=eI (show ((gR G).take (t+1)).map (pZ G)=((gR G).take t).map (pZ G)++[pZ G (y,v)] by rw[jE,F,eJ];rfl);generalize hW:pZ G (y,v)=W at*;clear F S hW Q c1;go_wp2_with fail
    go_region_held3 (fun e=>e.cell? (jj p (t*2))=some (.i (y:Int))/\e.cell? (jj p (t*2+1))=some (.i (v:Int))/\e.cell? (jj w.heap.size 0)=some (.i G.inn)/\e.cell? (jj w.heap.size 1)=some (.i G.rounds)/\e.cell? (jj w.heap.size 2)=some (.slice a G.nl m)/\e.cell? (jj w.heap.size 3)=some (.slice A G.nh c)/\e.cell? (jj w.heap.size 4)=some (.slice B G.nn d)/\e.cell? (jj w.heap.size 5)=some (.i G.out)) (go_keep)
     (first
       | (go_at_call 158;with_reducible refine mo J fun w5 u=> ?_;have I:=aw.aA u;obtain⟨k0,k1,k2,k3,k4,k5⟩:=I.g;have k6:=(u.cell (a:=jj p (t*2)) (aG _ _ d0)).trans d0;have k7:=(u.cell (a:=jj p (t*2+1)) (aG _ _ d1)).trans d1;have ax:=G1.aA KI.ok u;have S5:=X.tr u)
       | (refine oH (m:=1) KI.ok (ax.aA KI.ok (fA _ _)) hl (ML.one (p:=fun h=>Tt h/\h≠g) KI.ok (c:=[.i (W:Int)]) (x:=(W:Int)) rfl 3) rfl rfl _ _ rfl rfl rfl om ?_
          rintro Z U e ⟨⟨V,z⟩,f,ae,ag⟩;have aa:p≠g:=om;have M:w.heap.size≠g:=om;have y0:=fF f k0 M;have y1:=fF f k1 M;have y2:=fF f k2 M;have y3:=fF f k3 M;have y4:=fF f k4 M;have y5:=fF f k5 M;have y6:=fF f k6 aa;have y7:=fF f k7 aa))
    all_goals go_wp2
    all_goals go_roundw
    case rel=>have C:G.inn::(((gR G).take (t+1)).map (pZ G)).map (fun (x:Nat)=>(x:Int))=(G.inn::(((gR G).take t).map (pZ G)).map fun (x:Nat)=>(x:Int))++[(W:Int)]:=(by rw[e1.out,eJ,mY];rfl);have r:=fA w5 (.cells #[.i (W:Int)] 3);have z5:=S5.size;have z6:=r.size;have aq:=ax.lt;exact⟨t+1,om,by go_num,iw (S5.tr r) f om om,(I.aA r).cA (ig f (by have:=I.lt;omega) om),Z,U,V,rfl,by rw[C];exact z⟩
    case measure=>exact yI
  . have ar:t=N:=om;subst ar;have b5:=au.c5;rw[HO.out] at b5;have dm:=(av.aA s).d (j:=L) om;have an:(L:Int)<((G.nn+1:Nat):Int):=om;have ao:¬(t:Int)<t:=om;go_wp2_with (at_builtin;refine qD ?_);intro _;refine nK (m:=1) KI.ok (Y.aA KI.ok (fA _ _)) hl (ML.one (p:=fun h=>Tt h/\h≠g) KI.ok (c:=[.i (vD G L:Int)]) (x:=(vD G L:Int)) rfl 3) rfl rfl _ _ rfl rfl rfl om ?_;rintro Z U e ⟨⟨V,z⟩,f,ae,ag⟩;go_wp2;go_ret;have C:(kG G).map (fun (x:Nat)=>(x:Int))=(G.inn::(((gR G).take t).map (pZ G)).map fun (x:Nat)=>(x:Int))++[(vD G L:Int)]:=by
     unfold kG;rw[dV (by rw[K.out];exact aC _),dG,eJ,show G.out.toNat=L by rw[HO.out];rfl,show ((G.inn.toNat:Nat):Int)=G.inn by omega];rfl
    have r:=fA wr (.cells #[.i (vD G L:Int)] 3);have z6:=r.size;exact⟨Z,U,V,rfl,⟨by rw[C];exact z.own.mono om,by rw[C];exact z.at_⟩,iw (s.tr r) f om om⟩
theorem an3:Cl 161 #[] w fun e p=>∃u,e=.returned u/\i7 p (fun g=>w.heap.size<=g) u 1/\w.S p:=by
 obtain⟨n,b⟩:∃x:World,x=w.alloc (.o #[.bool false,.s (w.heap.size+1) 1 1,.s (w.heap.size+1+1) 1 1] 70):=⟨_,rfl⟩;obtain⟨o,eb⟩:∃x:World,x=n.alloc (.o #[.int .u32 1] 133):=⟨_,rfl⟩;have j:w.S n:=by rw[b];exact fA _ _
 have d:n.S o:=by rw[eb];exact fA _ _
 have k:n.heap.size=w.heap.size+1:=by rw[b];simp
 have m:o.heap.size=w.heap.size+1+1:=by rw[eb];simp[k]
 have f:=fA o (.o #[.int .u32 1] 133);have l:eS n w.heap.size (.bool false) (.s (w.heap.size+1) 1 1) (.s (w.heap.size+1+1) 1 1):=by rw[b];exact eS.new w _ _ _ _
 have a:=oo n;rw[<-eb,k] at a;have c:=oo o;rw[m] at c;have h:=(l.aA d).aA f;have a:=a.aA f;have i:=(j.tr d).trans (sM f (j.tr d).size);rw[eb,b] at a c h i;go_enter func161,ntmps161;go_wp2;refine bO (qi rfl _ _ _ _ _ _ rfl h) rfl ?_;exact⟨_,rfl,jM.rp (q:=1) (B:=w.heap.size) (M:=67108864) ⟨_,_,w.heap.size+1,w.heap.size+1+1,rfl,a,c,om,om,om⟩,i⟩
theorem an4(d:Qb Q n)(C:n<=4194304)(R:pO w u Q):
 Cl 200 #[u] w fun e q=>∃v,e=.returned v/\i7 q (fun g=>w.heap.size<=g) v (-Q)/\w.S q:=by
 obtain⟨a,k,A,b,m,B,y,H,z,I,X,Y,rfl,R,c,f⟩:=R;have F:=ju R.pX (by rw[c];exact d.1);have G:=ju R.pY (by rw[f];exact d.2);have p:(!qn Q&&decide (0<k))=qn (-Q):=by
  rw[ad1];have h:=km R.pX;rw[c] at h;have:decide (0<k)=decide (0<Q.num.natAbs):=by rw[tL];omega
  rw[this]
 refine (adH om om R.nc R.mc R.ac R.bc R.LX R.LY).mono ?_;rintro e q ⟨g,h,l,o,rfl,r,t,i,j,x,D,E,s⟩;exact⟨_,rfl,⟨_,k,l,_,m,o,g,0,h,0,X,Y,by rw[p],⟨r,t,fun h=>(by cases h),fun h=>(by cases h),i,j,R.lX,R.lY,R.pX,R.pY,R.m0⟩,by rw[qM,qP];exact c,by rw[Rat.neg_den];exact f,fun _=>x,fun _=>by omega⟩,s⟩
theorem ML.fn{f:Nat->Rat}(h:ML KQ w P a n m ((List.range c).map f)):ij w P a n m c f:=fun i d=>by
 have b:=h.qs i (by simpa using d);have e:((List.range c).map f).getD i 0=f i:=by simp[List.getD,List.getElem?_map,List.getElem?_range d]
 simp only[e] at b;exact b
theorem je{α:Type}(f:Nat->α)(n:Nat):(List.range (n+1)).map f=(List.range n).map f++[f n]:=by rw[gY,eJ];rfl
theorem afO{n:Nat}{z:Int}{w:World}(W:n<=1073741824):
 Cl 117 #[.i (n:Int),.i z] w fun e t=>∃c k r,e=.returned (.s c n k)/\GL KQ (fun q=>w.heap.size<=q) t w.heap.size (.s c n k) ((List.range n).map (i9 z)) r/\w.S t:=by
 have Q:=fA w (.o #[] 70);have L:GL KQ (fun q=>w.heap.size<=q) (w.alloc (.o #[] 70)) w.heap.size (.s w.heap.size 0 0) [] []:=GL.new KQ _ w;go_enter func117,ntmps117;go_wp2;go_loopw [5,6] (fun u q wr=>∃j:Nat,j<=n/\q=.i (j:Int)/\w.S wr/\∃c k r,u=.s c j k/\GL KQ (fun q=>w.heap.size<=q) wr w.heap.size (.s c j k) ((List.range j).map (i9 z)) r) (fun _ q _=>n-(intOf q).toNat)
 case atStart=>exact⟨0,aJ _,rfl,Q,w.heap.size,0,[],rfl,L⟩
 case round=>
  obtain⟨j,U,rfl,s,c,k,r,rfl,G⟩:=hrel;have K:=G.lt;have Y:=s.size;by_cases V:j<n
  . have X:(j:Int)<n:=om;by_cases d:(j:Int)=z
    . have P:((j:Int)==z)=true:=(by simpa using d);have D:=eI (show i9 z j=1 by unfold i9;rw[aY d]);clear d;go_wp2_with fail;refine (an3).mono ?_;rintro e H ⟨R,rfl,f,a⟩;have y:=f;obtain⟨h,p,l,i,o,m,-,-,-,-,-,-,C,-⟩:=y;subst C;have x:=G.aA KQ.ok a;have A:=s.tr a;have b:=fA H (.o #[.bool (qn (1:Rat)),.l h p l,.l i o m] 70);have S:=a.size;have T:=b.size;go_wp2_with (at_builtin;refine qD ?_);intro _;refine nK (m:=1) KQ.ok (x.aA KQ.ok b) qz (ML.one (p:=fun q=>w.heap.size<=q/\q≠c) KQ.ok (c:=[.bool (qn (1:Rat)),.l h p l,.l i o m]) (x:=(1:Rat)) ⟨_,_,rfl,f.imp (fun g _ N=>⟨om,om⟩)⟩ 70) rfl rfl _ _ rfl rfl rfl om ?_;rintro B F t ⟨⟨I,v⟩,E,M,O⟩;go_wp2;go_roundw
      case rel=>exact⟨j+1,om,by go_num,iw (A.tr b) E K.1 om,B,F,I,rfl,by rw[je,D.out];exact v⟩
      case measure=>exact yI
    . have P:((j:Int)==z)=false:=(by simpa using d);have D:=eI (show i9 z j=0 by unfold i9;rw[aM d]);clear d;go_wp2_with fail;refine (yA).mono ?_;rintro e H ⟨R,rfl,f,a⟩;have y:=f;obtain⟨h,p,l,i,o,m,-,-,-,-,-,-,C,-⟩:=y;subst C;have x:=G.aA KQ.ok a;have A:=s.tr a;have b:=fA H (.o #[.bool (qn (0:Rat)),.l h p l,.l i o m] 70);have S:=a.size;have T:=b.size;go_wp2_with (at_builtin;refine qD ?_);intro _;refine nK (m:=1) KQ.ok (x.aA KQ.ok b) qz (ML.one (p:=fun q=>w.heap.size<=q/\q≠c) KQ.ok (c:=[.bool (qn (0:Rat)),.l h p l,.l i o m]) (x:=(0:Rat)) ⟨_,_,rfl,f.imp (fun g _ N=>⟨om,om⟩)⟩ 70) rfl rfl _ _ rfl rfl rfl om ?_;rintro B F t ⟨⟨I,v⟩,E,M,O⟩;go_wp2;go_roundw
      case rel=>exact⟨j+1,om,by go_num,iw (A.tr b) E K.1 om,B,F,I,rfl,by rw[je,D.out];exact v⟩
      case measure=>exact yI
  . have e:j=n:=om;subst e;go_wp2;go_ret;exact⟨c,k,r,rfl,G,s⟩
theorem ajO{a:Option Addr}{bx n m c d k:Nat}{P:Nat->Prop}{h:Nat->Rat}{w:World}(A:ij w P a bx n m h)(hp:d+2*k<=m)(hm:m<=1073741824)(N:∀i,i<m->Qb (h i) 1048640):
 Cl 198 #[.slice a m c,.i (d:Int),.i (k:Int)] w fun e r=>∃E Y u,e=.returned (.s E k Y)/\GL KQ (fun q=>w.heap.size<=q) r w.heap.size (.s E k Y) ((List.range k).map fun e=>h (d+2*e)-h (d+2*e+1)) u/\w.S r:=by
 have sA:=fA w (.o #[] 70);have gA:GL KQ (fun q=>w.heap.size<=q) (w.alloc (.o #[] 70)) w.heap.size (.s w.heap.size 0 0) [] []:=GL.new KQ _ w;go_enter func198,ntmps198;go_wp2;go_loopw [7,8] (fun aa q wr=>∃j:Nat,j<=k/\q=.i (j:Int)/\w.S wr/\∃E Y u,aa=.s E j Y/\GL KQ (fun q=>w.heap.size<=q) wr w.heap.size (.s E j Y) ((List.range j).map fun e=>h (d+2*e)-h (d+2*e+1)) u) (fun _ q _=>k-(intOf q).toNat)
 case atStart=>exact⟨0,aJ _,rfl,sA,w.heap.size,0,[],rfl,gA⟩
 case round=>
  obtain⟨j,hj,rfl,s,E,Y,u,rfl,G⟩:=hrel;have lt:=G.lt;have zs:=s.size;by_cases ae:j<k
  . obtain⟨p,x⟩:∃i,i=d+2*j:=⟨_,rfl⟩;obtain⟨rfl,x1,y1,z⟩:=A p om;obtain⟨b,M⟩:∃i,i=p+1:=⟨_,rfl⟩;obtain⟨-,x2,y2,R⟩:=A b om;have K:=uB wr;have v:=s.tr K;have g:=z.aA v;have l:=R.aA v;have d0:=g.c0;have d1:=g.c1;have d2:=g.c2;have d3:=l.c0;have d4:=l.c1;have d5:=l.c2;have J:=ro (N p om) (N b om) om g.R.read l.R.read;have hz:(j:Int)<k:=om;have q1:IntKind.i64.wrap ((d:Int)+2*(j:Int))=(p:Int):=(by rw[show (d:Int)+2*(j:Int)=p by omega];exact gU om om);have q2:IntKind.i64.wrap ((p:Int)+1)=(b:Int):=(by rw[show (p:Int)+1=(b:Int) by omega];exact gU om om);have q3:IntKind.i64.wrap (2*(j:Int))=2*(j:Int):=gU om om;have ag:(p:Int)<m:=om;have ah:(b:Int)<m:=om;have T:=G.aA KQ.ok K;have L:=eI (show (fun e=>h (d+2*e)-h (d+2*e+1)) j=h p-h b by rw[M,x]);have HI:=eI x;have bl:=z.lt;clear x M;generalize h p-h b=V at J L;generalize h p=v1 at*;generalize h b=v2 at*;go_wp2_with fail
    go_region_held3 (fun r=>r.cell? (jj bx (n+p*3))=some (.bool (qn v1))/\r.cell? (jj bx (n+p*3+1))=some x1/\r.cell? (jj bx (n+p*3+2))=some y1/\r.cell? (jj bx (n+b*3))=some (.bool (qn v2))/\r.cell? (jj bx (n+b*3+1))=some x2/\r.cell? (jj bx (n+b*3+2))=some y2) (go_keep)
     (first
       | (go_at_call 163;(with_reducible refine J.mono ?_);rintro e w5 ⟨u5,rfl,B,f⟩;have W:=B;obtain⟨D,Q,H,F,O,I,-,-,-,-,-,-,Z,-⟩:=W;subst Z;have k0:=(g.aA f).c0;have k1:=(g.aA f).c1;have k2:=(g.aA f).c2;have k3:=(l.aA f).c0;have k4:=(l.aA f).c1;have k5:=(l.aA f).c2;have U:=T.aA KQ.ok f;have C:=v.tr f;have z5:=f.size;have y:=fA w5 (.o #[.bool (qn V),.l D Q H,.l F O I] 70))
       | (refine oH (m:=1) KQ.ok (U.aA KQ.ok y) qz (ML.one (p:=fun q=>w.heap.size<=q/\q≠E) KQ.ok (c:=[.bool (qn V),.l D Q H,.l F O I]) (x:=V) ⟨_,_,rfl,B.imp (fun ac _ hg=>by have:wr.drew.heap.size=wr.heap.size:=rfl;exact⟨om,om⟩)⟩ 70) rfl rfl _ _ rfl rfl rfl om ?_
          rintro X k' r ⟨⟨ab,S⟩,o,ad,af⟩;have t:bx≠E:=om;have y0:=fF o k0 t;have ai:=fF o k1 t;have aj:=fF o k2 t;have y3:=fF o k3 t;have y4:=fF o k4 t;have y5:=fF o k5 t))
    all_goals go_wp2
    all_goals go_roundw
    case rel=>have z3:=y.size;exact⟨j+1,om,by go_num,iw (C.tr y) o lt.1 (by have:=C.size;omega),X,k',ab,rfl,by rw[je,L.out];exact S⟩
    case measure=>exact yI
  . have e:j=k:=om;subst e;go_wp2;go_ret;exact⟨E,Y,u,rfl,G,s⟩
theorem ac4(f:Nat->Rat)(n:Nat):kM f (n+1)=kM f n++[f n,-f n]:=by unfold kM;rw[gY,iG];rfl
theorem jL(f:Nat->Rat)(n:Nat):(kM f n).length=2*n:=by
 induction n with
 | zero=>rfl
 | succ n ih=>rw[ac4,aT,ih];simp;omega
theorem ML.two{α:Type}{K:LK α}(f:K.Ok){p:Nat->Prop}{c d:List Value}{x y:α}(h:K.El w p c x)(k:K.El w p d y)(t:TypeId):ML K (w.alloc (.cells (c++d).toArray t)) p (jp w.heap.size 0) w.heap.size 0 [x,y]:=fun i z a=>by
 have s:=fA w (.o (c++d).toArray t);have hl:=f.len h
 have l:i=0∨i=1:=by
  have:=(bG.1 a).1;simp at this;omega
 rcases l with rfl | rfl
 . simp at a;subst a;refine⟨rfl,c,f.move h s.size (fun g e _=>s.block g e),fun j u b=> ?_⟩;have m:=(bG.1 b).1;rw[show 0+0*K.sz+j=j by simp];have:(c++d)[j]?=some u:=(by rw[bJ m];exact b);simp[go_sem,this]
 . simp at a;subst a;refine⟨rfl,d,f.move k s.size (fun g e _=>s.block g e),fun j u b=> ?_⟩;rw[show 0+1*K.sz+j=K.sz+j by simp];have:(c++d)[K.sz+j]?=some u:=(by rw[bK om,hl,mM];exact b);simp[go_sem,this]
theorem y9{a:Option Addr}{bx n m c:Nat}{P:Nat->Prop}{h:Nat->Rat}{w:World}(HX:ij w P a bx n m h)(hn:m<=1073741824)(S:∀al,al<m->Qb (h al) 1048640):
 Cl 221 #[.slice a m c] w fun e d=>∃t k l,e=.returned (.s t (2*m) k)/\GL KQ (fun q=>w.heap.size<=q) d w.heap.size (.s t (2*m) k) (kM h m) l/\w.S d:=by
 have sA:=fA w (.o #[] 70);have gA:GL KQ (fun q=>w.heap.size<=q) (w.alloc (.o #[] 70)) w.heap.size (.s w.heap.size 0 0) [] []:=GL.new KQ _ w;go_enter func221,ntmps221;go_wp2;go_loopw [3,4] (fun ae q wr=>∃j:Nat,j<=m/\q=.i (j:Int)/\w.S wr/\∃t k N l,ae=.s t N k/\N=2*j/\GL KQ (fun q=>w.heap.size<=q) wr w.heap.size (.s t N k) (kM h j) l) (fun _ q _=>m-(intOf q).toNat)
 case atStart=>exact⟨0,aJ _,rfl,sA,w.heap.size,0,0,[],rfl,rfl,gA⟩
 case round=>
  obtain⟨j,hj,rfl,s,t,k,N,l,rfl,r,G⟩:=hrel;have lt:=G.lt;have zs:=s.size;by_cases x:j<m
  . obtain⟨rfl,x1,y1,A⟩:=HX j x;have Q:=uB wr;have B:=s.tr Q;have i:=A.aA B;have d0:=i.c0;have d1:=i.c1;have d2:=i.c2;have JC:=sH (S j x) om i.R.read;have hz:(j:Int)<m:=om;have G1:=G.aA KQ.ok Q;have zd:wr.drew.heap.size=wr.heap.size:=rfl;have bl:=A.lt;have ac:=eI (S j x);have ab:=eI ((jL h j).trans r.symm);have ad:=eI (ac4 h j);have HN:=eI r;have ag:N<=2147483648:=om;clear r;generalize h j=b at*;generalize kM h j=LB at*;go_wp2_with fail
    go_region_held3 (fun d=>d.cell? (jj bx (n+j*3))=some (.bool (qn b))/\d.cell? (jj bx (n+j*3+1))=some x1/\d.cell? (jj bx (n+j*3+2))=some y1) (go_keep)
     (first
       | (go_at_call 190;(with_reducible refine JC.mono ?_);rintro e w5 ⟨u5,rfl,o,f⟩;have T:=(i.aA f).c0;have U:=(i.aA f).c1;have V:=(i.aA f).c2;have aa:=an4 ac.out om (i.aA f).R.read)
       | (go_at_call 200;(with_reducible refine aa.mono ?_);rintro e w6 ⟨u6,rfl,F,s6⟩;have o:=o.aA s6;have F:=F.imp (p':=fun g=>wr.heap.size<=g) (fun g _ R=>by have:=f.size;omega);have u:=f.tr s6;have v:=i.aA u;have T:=v.c0;have U:=v.c1;have V:=v.c2;have RQ:=o;have RM:=F;obtain⟨D,Y,K,H,W,M,-,-,-,-,-,-,e8,-⟩:=RQ;subst e8;obtain⟨E,Z,L,I,X,O,-,-,-,-,-,-,e9,-⟩:=RM;subst e9;have G7:=G1.aA KQ.ok u;have C:=B.tr u;have z7:=u.size;have z:=fA w6 (.o #[.bool (qn b),.l D Y K,.l H W M,.bool (qn (-b)),.l E Z L,.l I X O] 70))
       | (refine oH (m:=2) KQ.ok (G7.aA KQ.ok z) ab.out (ML.two (p:=fun q=>w.heap.size<=q/\q≠t) KQ.ok (c:=[.bool (qn b),.l D Y K,.l H W M]) (d:=[.bool (qn (-b)),.l E Z L,.l I X O]) (x:=b) (y:=-b) ⟨_,_,rfl,o.imp (fun g _ R=>⟨om,om⟩)⟩ ⟨_,_,rfl,F.imp (fun g _ R=>⟨om,om⟩)⟩ 70) rfl rfl _ _ rfl rfl rfl om ?_
          rintro c' k' d ⟨⟨af,G'⟩,p,ah,ai⟩;have y:bx≠t:=om;have y0:=fF p T y;have aj:=fF p U y;have ak:=fF p V y))
    all_goals go_wp2
    all_goals go_roundw
    case rel=>exact⟨j+1,om,by go_num,iw (C.tr z) p lt.1 (by have:=C.size;have:=z.size;omega),c',k',N+2,af,rfl,by have:=HN.out;omega,by rw[ad.out];exact G'⟩
    case measure=>exact yI
  . have e:j=m:=om;subst e;subst r;go_wp2;go_ret;exact⟨t,k,l,rfl,G,s⟩
def KW:LK (List Rat):=KV KQ 157
theorem KW.ok:KW.Ok:=KV.ok KQ.ok _ underlying157 alO
theorem afN{b s:Int}{bx d k:Nat}{h:Nat->Rat}(L:ij w P (some ⟨bx,d,none⟩) bx d c h)(o:c=m*n)(hK:1<=n)(E:n<=1000)(T:m<=1000)(hc:c<=k)(ab:bx<w.heap.size)(S:P bx):
 Calls Tryz.prog 222 #[.agg #[.int .i64 z,.int .i64 y,.int .i64 b,.int .i64 (n:Int),.int .i64 s,u],.slice (some ⟨bx,d,none⟩) c k] w fun e v=>∃a g l,e=.returned (.slice (some ⟨a,0,none⟩) m g)/\GL KW P v w.heap.size (.slice (some ⟨a,0,none⟩) m g) ((List.range m).map fun e=>(List.range n).map fun a=>h (e*n+a)) l/\w.Since w.heap.size v:=by
 have H:=fA w (.cells #[.int .i64 z,.int .i64 y,.int .i64 b,.int .i64 n,.int .i64 s,u] 144);have N:=fO.new w (.int .i64 z) (.int .i64 y) (.int .i64 b) (.int .i64 n) (.int .i64 s) u 144;have zA:(w.alloc (.cells #[.int .i64 z,.int .i64 y,.int .i64 b,.int .i64 n,.int .i64 s,u] 144)).heap.size=w.heap.size+1:=by simp
 have R:GL KW P ((w.alloc (.cells #[.int .i64 z,.int .i64 y,.int .i64 b,.int .i64 n,.int .i64 s,u] 144)).alloc (.cells #[] 50)) (w.heap.size+1) (.slice (some ⟨w.heap.size+1,0,none⟩) 0 0) [] []:=by have:=GL.new KW P (w.alloc (.cells #[.int .i64 z,.int .i64 y,.int .i64 b,.int .i64 n,.int .i64 s,u] 144));rwa[zA] at this
 have Y:=H.alloc H.size (.cells #[] 50);have O:=N.aA (yD.alloc zR (.cells #[] 50));have C:=eI o;have ae:c<=1000000:=by rw[o];exact dF T E
 clear o;go_enter func222,ntmps222;go_wp2;go_loopw [5,6] (fun K q wr=>∃j:Nat,j<=m/\q=.int .i64 j/\w.Since w.heap.size wr/\fO wr w.heap.size (.int .i64 z) (.int .i64 y) (.int .i64 b) (.int .i64 n) (.int .i64 s) u/\∃a g l,K=.slice (some ⟨a,0,none⟩) j g/\GL KW P wr (w.heap.size+1) (.slice (some ⟨a,0,none⟩) j g) ((List.range j).map fun e=>(List.range n).map fun a=>h (e*n+a)) l) (fun _ q _=>m-(intOf q).toNat)
 case atStart=>exact⟨0,aJ _,rfl,Y,O,w.heap.size+1,0,[],rfl,R⟩
 case round=>
  obtain⟨j,hj,rfl,r,B,a,g,l,rfl,G⟩:=hrel;have lt:=G.lt;have zs:=r.size;have b3:=B.c3;obtain⟨F,hF⟩:∃F,F=j*n:=⟨_,rfl⟩;obtain⟨f,i⟩:∃f,f=(j+1)*n:=⟨_,rfl⟩;have e1:f=F+n:=by rw[hF,i,bI,dS]
  have lF:F<=1000000:=by rw[hF];exact dF (show j<=1000 by omega) E
  have q1:IntKind.i64.wrap ((j:Int)*(n:Int))=(F:Int):=by rw[<-dR,<-hF];exact gU om om
  have q2:IntKind.i64.wrap (((j:Int)+1)*(n:Int))=(f:Int):=by rw[show ((j:Int)+1)*(n:Int)=(((j+1)*n:Nat):Int) by rw[dR];rfl,<-i];exact gU om om
  by_cases ac:j<m
  . have h1:f<=c:=(by rw[i,C.out];exact aP _ om);have V:(f:Int)<=c:=om;have af:(F:Int)<=f:=om;have W:(f:Int)<=k:=om;have M:=((((L.imp (p':=fun q=>P q/\q<w.heap.size) (fun q p U=>⟨U,p⟩)).part (F:=F) (k:=n) om).ml).aA KQ.ok (sM r zR));have I:=eI hF;clear hF i;go_wp2_with (at_builtin;refine qD ?_);intro _;have x:=fA wr (.cells #[.slice (some ⟨bx,d+F*3,none⟩) n (k-F)] 50);refine nK (m:=1) KW.ok (G.aA KW.ok x) qz (ML.one (p:=fun q=>P q/\q≠a) KW.ok (c:=[.slice (some ⟨bx,d+F*3,none⟩) n (k-F)]) (x:=(List.range n).map fun t=>h (F+t)) ⟨_,bx,d+F*3,k-F,qz,by simp;omega,fun _=>⟨S,om⟩,M.imp KQ.ok (fun q _ p=>⟨p.1,by have:=p.2;omega⟩)⟩ 50) rfl rfl _ _ rfl rfl rfl om ?_;rintro Q X v ⟨⟨Z,A⟩,D,aa,ad⟩;have z3:=x.size;go_wp2;go_roundw
    case rel=>exact⟨j+1,om,by go_num,iw (r.tr x) D om om,(B.aA x).cA (ig D (by have:=B.lt;omega) om),Q,X,Z,rfl,by rw[je];rw[I.out] at A;exact A⟩
    case measure=>exact yI
  . have e:j=m:=om;subst e;have V:¬(f:Int)<=c:=(by rw[C.out,<-hF];omega);have W:¬(F:Int)+(n:Int)<=c:=om;clear hF i;go_wp2;go_ret;exact⟨a,g,rfl,⟨l,G.own.mono om,G.at_⟩,r⟩
structure VS(Z:Nat->Prop)(w:World)(bv n:Nat)(D:Nat->Nat)(P:Nat->Prop)(V:Nat->Nat->Rat)(f:Nat->Value):Prop where
 R:w.rowIs bv 50 n f
 nz:¬Z bv
 yes:∀j,j<n->P j->∃bj oj cj,f j=.slice (some ⟨bj,oj,none⟩) (D j) cj/\D j<=cj/\Z bj/\bj<w.heap.size/\ij w Z (some ⟨bj,oj,none⟩) bj oj (D j) (V j)
 no:∀j,j<n->¬P j->f j=.slice none 0 0
theorem VS.aA{w w':World}{bv n:Nat}{o:Nat->Prop}{V:Nat->Nat->Rat}{f:Nat->Value}(h:VS P w bv n X o V f)(s:w.S w'):VS P w' bv n X o V f:=
 ⟨h.R.of_block (s.block _ h.R.lt),h.nz,fun j k l=>by
   obtain⟨a,m,b,c,d,e,g,i⟩:=h.yes j k l;exact⟨a,m,b,c,d,e,aS g s.size,i.aA s⟩,h.no⟩
theorem aa9(a:Option Addr)(bx m c d:Nat)(P:Nat->Prop)(h:Nat->Rat)(w:World)(E:ij w P a bx m c h)(hn:c<=1073741824)(Q:∀i,i<c->Qb (h i) n)(hK:n<=2100000:=by omega):
 Cl 162 #[.slice a c d] w fun e l=>∃r k K,e=.returned (.s r c k)/\GL KQ (fun q=>w.heap.size<=q) l w.heap.size (.s r c k) ((List.range c).map h) K/\w.S l:=by
 have V:=fA w (.o #[] 70);have N:GL KQ (fun q=>w.heap.size<=q) (w.alloc (.o #[] 70)) w.heap.size (.s w.heap.size 0 0) [] []:=GL.new KQ _ w;go_enter func162,ntmps162;go_wp2;go_loopw [3,4] (fun u q wr=>∃j:Nat,j<=c/\q=.i (j:Int)/\w.S wr/\∃r k K,u=.s r j k/\GL KQ (fun q=>w.heap.size<=q) wr w.heap.size (.s r j k) ((List.range j).map h) K) (fun _ q _=>c-(intOf q).toNat)
 case atStart=>exact⟨0,aJ _,rfl,V,w.heap.size,0,[],rfl,N⟩
 case round=>
  obtain⟨j,hj,rfl,s,r,k,K,rfl,G⟩:=hrel;have T:=G.lt;have zs:=s.size;by_cases y:j<c
  . obtain⟨rfl,x1,y1,B⟩:=E j y;have b:=B.aA s;have Y:=b.c0;have Z:=b.c1;have d2:=b.c2;have F:=sH (Q j y) om b.R.read;have hz:(j:Int)<c:=om;have R:=eI (je h j);generalize h j=g at*;go_wp2_with fail;refine F.mono ?_;rintro e W ⟨u5,rfl,U,L⟩;have H:=U;obtain⟨p,A,v,t,z,x,-,-,-,-,-,-,M,-⟩:=H;subst M;have D:=G.aA KQ.ok L;have o:=s.tr L;have z5:=L.size;have f:=fA W (.o #[.bool (qn g),.l p A v,.l t z x] 70);go_wp2_with (at_builtin;refine qD ?_);intro _;refine nK (m:=1) KQ.ok (D.aA KQ.ok f) qz (ML.one (p:=fun q=>w.heap.size<=q/\q≠r) KQ.ok (c:=[.bool (qn g),.l p A v,.l t z x]) (x:=g) ⟨_,_,rfl,U.imp (fun aa _ hg=>⟨om,om⟩)⟩ 70) rfl rfl _ _ rfl rfl rfl om ?_;rintro I S l ⟨⟨X,C⟩,O,ab,ac⟩;go_wp2;go_roundw
    case rel=>exact⟨j+1,om,by go_num,iw (o.tr f) O T.1 (by have:=o.size;have:=f.size;omega),I,S,X,rfl,by rw[R.out];exact C⟩
    case measure=>exact yI
  . have e:j=c:=om;subst e;go_wp2;go_ret;exact⟨r,k,K,rfl,G,s⟩
theorem adM{α β:Type}(f:α->List β)(n:Nat)(h:Nat->α):(List.range (n+1)).flatMap (fun e=>f (h e))=(List.range n).flatMap (fun e=>f (h e))++f (h n):=by rw[gY,iG];simp
def sw(f:Nat->Rat)(r:Nat):List Rat:=(List.range r).flatMap fun c=>[f (2*c)-f (2*c+1),f (2*c+1),-f (2*c+1)]
theorem abR(f:Nat->Rat)(n:Nat):sw f (n+1)=sw f n++[f (2*n)-f (2*n+1)]++[f (2*n+1),-f (2*n+1)]:=by
 unfold sw;rw[gY,iG];simp
theorem dH(f:Nat->Rat)(n:Nat):(sw f n).length=3*n:=by
 induction n with
 | zero=>rfl
 | succ n ih=>rw[abR];simp[ih];omega
theorem abS(f:Nat->Rat)(h:n=2*r):lC f n=sw f r:=by
 unfold lC;rw[aM om,iJ,show n/2=r by omega];rfl
theorem ad4(f:Nat->Rat)(h:n=2*r+1):lC f n=sw f r++[f (2*r),-f (2*r)]:=by
 unfold lC;rw[aY om,show n/2=r by omega,show n-1=2*r by omega];rfl
theorem aju(f:Nat->Rat)(n:Nat):(lC f n).length<=2*n:=by
 rcases Nat.mod_two_eq_zero_or_one n with h | h
 . rw[abS f (r:=n/2) om,dH];omega
 . rw[ad4 f (r:=n/2) om,aT,dH];simp;omega
theorem amb(F:Nat->Nat->Rat)(m:Nat):((List.range m).flatMap fun m=>lC (F m) n).length<=m*(2*n):=by
 induction m with
 | zero=>simp
 | succ m ih=>
   rw[adM (fun f=>lC f n) m F,aT,bI,dS];have:=aju (F m) n;omega
theorem anQ(G:eQ)(n:Nat)(F:Nat->List Rat):(jv (iM G) n n).flatMap (fun z=>F z.toNat)=(bR G n).flatMap F:=by
 unfold jv bR;rw[rG];rfl
theorem afQ{G:eQ}(c2:pg G){a A B:Option Addr}{n m c d k i bl j l bv o b p q t:Nat}{z:Int}{P c1:Nat->Prop}{V W:Nat->Nat->Rat}{dr:Nat->Value}{pw:Nat->Prop}{w:World}(d1:LwM w G n a A B m c d k i bl j)(i1:1<=q)(i2:q<=G.nn)
 (HV:VS P w bv (G.nn+1) (vD G) c1 V dr)(b6:∀g,g<q->q<iM G g->c1 g)(ab:isStep (G.N (q-1))=true)(ae:t=0->c1 (G.N (q-1)).a.toNat)(af:t≠0->(G.N (q-1)).op=5)(c7:t<=1000)
 (HW:ML KW w pw (jp b 0) b 0 (if t=0 then [] else (List.range (vD G q)).map fun e=>(List.range t).map (W e)))
 (qV:∀g,g<=G.nn->c1 g->∀e,e<vD G g->Qb (V g e) 1048640)(qW:∀e v,e<vD G q->v<t->Qb (W e v) 1048640):
 Cl 196 #[.agg (gV G a A B m c d),.s bl (G.nn+1) l,.agg #[.s bv (G.nn+1) o,.s b (if t=0 then 0 else vD G q) p,.i z],.i (q:Int)] w fun e s=>∃v H ac xs,e=.returned (.s v ac H)/\(bQ G V t W q).length=ac/\GL KQ (fun f=>w.heap.size<=f) s w.heap.size (.s v ac H) (bQ G V t W q) xs/\w.S s:=by
 have ea:=c2.head.n;obtain⟨H,b9⟩:∃H,q=H+1:=⟨q-1,om⟩;have an:q-1=H:=om;rw[an] at ab ae af;have ND:=c2.nd (i:=H) om;have HE:=eI c2;have HK:=eI b9;have ez:(q:Int)-1=(H:Int):=om;have lk:H<G.nn:=om;clear b9 an;generalize aw:(if t=0 then 0 else vD G q)=NW;have sA:=fA w (.o (gV G a A B m c d) 115);have bA:=fO.new w (.i G.inn) (.i G.rounds) (.l a G.nl m) (.l A G.nh c) (.l B G.nn d) (.i G.out) 115;have zA:(w.alloc (.o (gV G a A B m c d) 115)).heap.size=w.heap.size+1:=by simp
 have bB:=eS.new (w.alloc (.o (gV G a A B m c d) 115)) (.s bv (G.nn+1) o) (.s b NW p) (.i z) 194;have sB:=sA.alloc sA.size (.o #[.s bv (G.nn+1) o,.s b NW p,.i z] 194);have br:=bA.aA (yD.alloc zR (.o #[.s bv (G.nn+1) o,.s b NW p,.i z] 194));have zB:((w.alloc (.o (gV G a A B m c d) 115)).alloc (.o #[.s bv (G.nn+1) o,.s b NW p,.i z] 194)).heap.size=w.heap.size+2:=by simp
 rw[zA] at bB;have gC:GL KQ (fun f=>w.heap.size<=f) (((w.alloc (.o (gV G a A B m c d) 115)).alloc (.o #[.s bv (G.nn+1) o,.s b NW p,.i z] 194)).alloc (.o #[] 70)) w.heap.size (.s (w.heap.size+2) 0 0) [] []:=by have:=GL.new KQ (fun f=>w.heap.size<=f) ((w.alloc (.o (gV G a A B m c d) 115)).alloc (.o #[.s bv (G.nn+1) o,.s b NW p,.i z] 194));rw[zB] at this;exact⟨this.own.mono om,this.at_⟩
 have sC:=(aF ((w.alloc (.o (gV G a A B m c d) 115)).alloc (.o #[.s bv (G.nn+1) o,.s b NW p,.i z] 194)).heap.size ((w.alloc (.o (gV G a A B m c d) 115)).alloc (.o #[.s bv (G.nn+1) o,.s b NW p,.i z] 194))).alloc zR (.o #[] 70);have S0:=sB.tr sC;have B0:=bB.aA sC;have A0:=br.aA sC;have zC:w.heap.size+2<(((w.alloc (.o (gV G a A B m c d) 115)).alloc (.o #[.s bv (G.nn+1) o,.s b NW p,.i z] 194)).alloc (.o #[] 70)).heap.size:=by rw[<-zB];simp
 clear sA bA bB sB br sC zA zB;go_enter func196,ntmps196;go_wp2_with fail;generalize ((w.alloc _).alloc _).alloc _=wA at*;have M0:=d1.aA S0;refine (vi om om (fun g _=>by have:=dN G g;omega) M0.L).mono ?_;rintro e w1 ⟨cc,kc,xc,rfl,GC,s1⟩;have S1:=S0.tr s1;have B1:=B0.aA s1;have A1:=A0.aA s1;have G1:=gC.aA KQ.ok s1;have MC:=GC.ml KI.ok;have dq:=GC.lt;have c6:=yW (iM G) q q;generalize hn:(jv (iM G) q q).length=ac at c6⊢;have HN:=eI hn
 have a6:∀C,qq (vD G) ((jv (iM G) q q).take C)<=2002000:=fun C=>aU (adv (vD G) _ C) (by
  rw[uQ];exact cG (i:=q) HE.out om)
 clear hn GC;go_wp2;have bo:∀C,((((jv (iM G) q q).take C).flatMap fun I=>kM (V I.toNat) (vD G I.toNat))).length=qq (vD G) ((jv (iM G) q q).take C):=fun C=>by unfold qq;rw[iU];simp only[jL]
 go_loopw [9,11] (fun aq f wr=>∃C:Nat,C<=ac/\f=.i (C:Int)/\w1.grownBy wr (some (w.heap.size+2))/\∃v H N xs,aq=.s v N H/\(v=w.heap.size+2∨w1.heap.size<=v)/\N=qq (vD G) ((jv (iM G) q q).take C)/\GL KQ (fun f=>w.heap.size<=f) wr w.heap.size (.s v N H) (((jv (iM G) q q).take C).flatMap fun I=>kM (V I.toNat) (vD G I.toNat)) xs) (fun _ f _=>ac-(intOf f).toNat)
 case atStart=>exact⟨0,aJ _,rfl,vZ _ _,w.heap.size+2,0,0,[],rfl,.inl rfl,rfl,G1⟩
 case round=>
  obtain⟨C,ht,rfl,gt,v,dn,N,xs,rfl,cx,hN,ar⟩:=hrel;have z1:=S1.size;have zt:=gt.size;have za:=s1.size;have bi:=iw S1 gt om z1;have lt:=ar.lt;have ay:=B1.cA (ig gt B1.lt om);have cl:=A1.cA (ig gt A1.lt om);have hl:=bo C;have c4:=a6 C;have c5:=a6 (C+1);by_cases dd:C<ac
  . obtain⟨I,Z⟩:∃I,(jv (iM G) q q)[C]?=some I:=⟨_,aK (by rw[HN.out];exact dd)⟩;obtain⟨g,rfl,hj,ca,-⟩:=wh Z;have st:=dL (d:=vD G) Z;have x:=(MC.int Z).2;rw[aZ] at x;have x:=lj gt x om;obtain⟨bj,oj,cj,ef,f1,f2,f3,R⟩:=HV.yes g om (b6 g hj ca);have X:=uB wr;have S2:=bi.tr X;have v1:=(HV.aA S2).R.cell (i:=g) om;rw[ef] at v1;have b0:=(ay.aA X).c0;have D:wr.drew.cell? (jj cc C)=some (.i (g:Int)):=(X.cell (a:=jj cc C) (aG _ _ x)).trans x;have dj:=(HE.out.bZ (j:=g) om).2;have J:=@y9 (jp bj oj) bj oj (vD G g) cj P (V g) wr.drew (R.aA S2) om (qV g om (b6 g hj ca));have df:(C:Int)<ac:=om;have dg:(g:Int)<((G.nn+1:Nat):Int):=om;have dh:(g:Int)<(G.nn:Int)+1:=om;have G2:=ar.aA KQ.ok X;have zd:wr.drew.heap.size=wr.heap.size:=rfl;rw[iL] at st
    have fl:=eI (show ((jv (iM G) q q).take (C+1)).flatMap (fun I=>kM (V I.toNat) (vD G I.toNat))=((jv (iM G) q q).take C).flatMap (fun I=>kM (V I.toNat) (vD G I.toNat))++kM (V g) (vD G g) by
     rw[jE,Z,iG];simp)
    have ST:=eI st;have cn:=eI hN;have cu:N<=2002000:=om;have bs:=jL (V g) (vD G g);have ag:=hl.trans hN.symm;clear Z st hN hl x;generalize vD G g=az at*;generalize ((jv (iM G) q q).take C).flatMap (fun I=>kM (V I.toNat) (vD G I.toNat))=LB at*;generalize kM (V g) az=LJ at*;obtain⟨y,ba⟩:∃y,y=2*az:=⟨_,rfl⟩;rw[<-ba] at J bs;have a0:=eI ba;have d6:y<=2000:=om;clear ba;go_wp2_with fail
    go_region_held3 (fun s=>s.cell? (jj (w.heap.size+1) 0)=some (.s bv (G.nn+1) o)/\s.cell? (jj cc C)=some (.i (g:Int))/\s.cell? (jj bv g)=some (.l (jp bj oj) az cj)) (go_keep)
     (first
       | (go_at_call 221;(with_reducible refine J.mono ?_);rintro e w5 ⟨cb,kb,xb,rfl,GB,M⟩;have k0:=(M.cell (a:=jj (w.heap.size+1) 0) (aG _ _ b0)).trans b0;have bw:=(M.cell (a:=jj cc C) (aG _ _ D)).trans D;have k2:=(M.cell (a:=jj bv g) (aG _ _ v1)).trans v1;have G5:=G2.aA KQ.ok M;have z5:=M.size;have MB:=(GB.ml KQ.ok).imp KQ.ok (p':=fun f=>w.heap.size<=f/\f≠v) (fun f _ O=>by have:=O.1;exact⟨om,om⟩))
       | (refine oH KQ.ok G5 ag MB bs rfl _ _ rfl rfl rfl om ?_
          rintro c' k' s ⟨⟨ak,G'⟩,u,bb,bh⟩;have ec:bv<w.heap.size:=HV.R.lt;have y0:=lj u k0 om;have y1:=lj u bw om;have y2:=lj u k2 om))
    all_goals go_wp2
    all_goals go_roundw
    case rel=>have g5:w1.grownBy w5 (some (w.heap.size+2)):=iv (iv gt (kA X)) (kA M);exact⟨C+1,om,by go_num,ue g5 u cx,c',k',N+y,ak,rfl,om,by rw[ST.out,cn.out,a0.out],by rw[fl.out];exact G'⟩
    case measure=>exact yI
  . have e:C=ac:=om;subst e;have bu:((jv (iM G) q q).take C).flatMap (fun I=>kM (V I.toNat) (vD G I.toNat))=(bR G q).flatMap (fun g=>kM (V g) (vD G g)):=by
     rw[dV (by rw[HN.out];exact aC _)];exact anQ G q (fun g=>kM (V g) (vD G g))
    have ah:=hl.trans hN.symm;have cu:N<=2002000:=om;rw[bu] at ar ah;have eN:=eI (show bQ G V t W q=(bR G q).flatMap (fun g=>kM (V g) (vD G g))++ym G V t W q from rfl);generalize (bR G q).flatMap (fun g=>kM (V g) (vD G g))=CL at*;have ej:¬(C:Int)<C:=om;clear bu hl hN c4 c5 a6 bo MC dq G1 gC zC B1 A1 B0 A0;obtain⟨bN,oN,-,LN⟩:=d1.G.LN;obtain⟨cp,a1,bw,MN⟩:=LN H lk;subst cp;obtain⟨E,cd⟩:∃g:Nat,(G.N H).a=g:=⟨(G.N H).a.toNat,by have:=ND.a0;omega⟩;have em:E<=H:=(by have:=ND.ai;omega);obtain⟨Y,ho⟩:∃Y,(G.N H).op=Y:=⟨_,rfl⟩;obtain⟨I,Z⟩:∃I,(G.N H).k=I:=⟨_,rfl⟩;have sh:=ND.sh;rw[show H+1=q by have:=HK.out;omega,show (G.N H).a.toNat=E by omega] at sh;have a7:=eI (show (G.N (q-1)).a.toNat=E by rw[show q-1=H by have:=HK.out;omega];omega);have eo:=eI (show (G.N (q-1)).op=Y by rw[show q-1=H by have:=HK.out;omega];exact ho);have cq:=eI (show (G.N (q-1)).k=I by rw[show q-1=H by have:=HK.out;omega];exact Z);have kb:Y=5->1<=I/\I<=1000:=fun h5=>by have hk:=sh.f.k;rw[ho,h5,Z] at hk;exact hk
    have ax:Y=5->vD G E=vD G q*I.toNat:=fun h5=>by have:=(sh.c5 (ho.trans h5)).2;rw[Z] at this;exact this
    rw[show (G.N H).a.toNat=E by omega] at ae;rw[ho] at af;have ab:(Y==2 ||Y==3 ||(Y==5&&decide (1<I)))=true:=(by rw[<-ho,<-Z];exact ab);have ai:=MN.aA bi;have g0:=ai.c0;have g1:=ai.c1;have g2:=ai.c2;have g3:=ai.c3;have g4:=ai.c4;have g5:=ai.c5;rw[ho] at g0;rw[cd] at g1;rw[Z] at g3;have b4:=cl.c4;have df:(H:Int)<(G.nn:Int):=om;have dg:(E:Int)<((G.nn+1:Nat):Int):=om;have dh:(E:Int)<(G.nn:Int)+1:=om;have sN:=fA wr (.o #[.i Y,.i (E:Int),.i (G.N H).b,.i I,.i (G.N H).s,.l a1 (G.N H).nv bw] 144);have nB:=fO.new wr (.i Y) (.i (E:Int)) (.i (G.N H).b) (.i I) (.i (G.N H).s) (.l a1 (G.N H).nv bw) 144;have S:=bi.tr sN;have BN:=ay.aA sN;have GN:=ar.aA KQ.ok sN;have au:=HV.aA S;have b0:=BN.c0;have v0:=au.R.cell (i:=E) om;have zN:=S.size;have es:=sN.size;have da:=(HE.out.bZ (j:=E) om).2;have di:=(HE.out.bZ (j:=q) i2);clear ho cd Z sh ay;by_cases h2:Y=2
    . subst h2;have c0:t=0:=by
       rcases cQ t with am | am
       . exact am
       . exact absurd (af om) qd
      subst c0;have hP:=ae rfl;obtain⟨bj,oj,cj,ef,f1,f2,f3,R⟩:=au.yes E om hP;rw[ef] at v0;have own:=eI (show ym G V 0 W q=(List.range (vD G E)).map (V E) by unfold ym;rw[eo.out,a7.out];rfl);have hD:=show ((List.range (vD G E)).map (V E)).length=vD G E by simp
      clear kb ax ab af ae;go_wp2_with fail;generalize wr.alloc _=wN at*;refine (aa9 (jp bj oj) bj oj (vD G E) cj P (V E) wN R om (qV E om hP)).mono ?_;rintro e w5 ⟨cb,kb,xb,rfl,GB,M⟩;have G5:=GN.aA KQ.ok M;have z5:=M.size;have MB:=(GB.ml KQ.ok).imp KQ.ok (p':=fun f=>w.heap.size<=f/\f≠v) (fun f _ O=>by have:=O.1;exact⟨om,om⟩);have S5:=S.tr M;go_wp2_with (at_builtin;refine qD ?_);intro _;refine nK KQ.ok G5 ah MB hD rfl _ _ rfl rfl rfl om ?_;rintro c' k' s ⟨⟨ak,G'⟩,u,bb,bh⟩;go_wp2;go_ret;exact⟨c',k',N+vD G E,ak,rfl,by rw[eN.out,aT,ah,own.out,hD],by rw[eN.out,own.out];exact G',iw S5 u om om⟩
    by_cases h3:Y=3
    . subst h3;have c0:t=0:=by
       rcases cQ t with am | am
       . exact am
       . exact absurd (af om) qd
      subst c0;have hP:=ae rfl;obtain⟨bj,oj,cj,ef,f1,f2,f3,R⟩:=au.yes E om hP;rw[ef] at v0;have own:=eI (show ym G V 0 W q=kM (V E) (vD G E) by unfold ym;rw[eo.out,a7.out];rfl);have hD:=jL (V E) (vD G E);clear kb ax ab af ae;go_wp2_with fail;generalize wr.alloc _=wN at*;refine (y9 R om (qV E om hP)).mono ?_;rintro e w5 ⟨cb,kb,xb,rfl,GB,M⟩;have G5:=GN.aA KQ.ok M;have z5:=M.size;have MB:=(GB.ml KQ.ok).imp KQ.ok (p':=fun f=>w.heap.size<=f/\f≠v) (fun f _ O=>by have:=O.1;exact⟨om,om⟩);have S5:=S.tr M;go_wp2_with (at_builtin;refine qD ?_);intro _;refine nK KQ.ok G5 ah MB hD rfl _ _ rfl rfl rfl om ?_;rintro c' k' s ⟨⟨ak,G'⟩,u,bb,bh⟩;go_wp2;go_ret;exact⟨c',k',N+2*vD G E,ak,rfl,by rw[eN.out,aT,ah,own.out,hD],by rw[eN.out,own.out];exact G',iw S5 u om om⟩
    have h5:Y=5:=(by simp at ab;omega);subst h5;obtain⟨ek,el⟩:=kb rfl;have an:1<I:=(by simp at ab;exact ab);obtain⟨aa,rfl⟩:∃aa:Nat,I=aa:=⟨I.toNat,om⟩;have bp:=eI (show vD G E=vD G q*aa from ax rfl);clear ax;have b1:=BN.c1;have d0:=eI an;clear an;generalize hm:vD G q=T at*;have HM:=eI hm;clear kb ab h2 h3 af hm;have ed:w.heap.size<=v:=lt.1;by_cases c0:t=0
    focus
     subst c0;have hP:=ae rfl;obtain⟨bj,oj,cj,ef,f1,f2,f3,R⟩:=HV.yes E om hP;have R:=(R.imp (p':=fun f=>f<w.heap.size) (fun f O _=>O)).aA S;rw[ef] at v0;rw[aY rfl] at aw;subst aw;have own:∃(K:Nat) (F:Nat->Nat->Rat),1<=K/\K<=1000/\K=aa/\(F=fun e v=>V E (e*aa+v))/\ym G V 0 W q=(List.range T).flatMap fun e=>lC (F e) K:=⟨aa,fun e v=>V E (e*aa+v),om,om,rfl,rfl,by unfold ym;rw[eo.out,a7.out,cq.out,HM.out];rfl⟩;obtain⟨K,F,cs,ct,eK,eF,own⟩:=own;have EK:=eI eK;have EF:=eI eF;have qF:=eI (show ∀e v,e<T->v<K->Qb (F e v) 1048640 from fun e v he hc=>by
      rw[eF];refine qV E om hP _ ?_;rw[bp.out];have h1:(e+1)*aa<=T*aa:=aP _ he;rw[bI,dS] at h1;omega)
     have a3:=eI own;clear own eK eF;go_wp2_with fail;generalize wr.alloc _=wN at*;refine (afN R bp.out om om om f1 om f3).mono ?_;rintro e wX ⟨bq,kq,xq,rfl,GQ,M⟩;have MQ:=(GQ.ml KW.ok).imp KW.ok (p':=fun f=>f<w.heap.size) (fun f _ O=>O.1);have b5:bq≠v:=(by have:=GQ.lt;omega);have GX:=GN.aA KQ.ok M;have SX:=S.tr M;rw[<-EK.out,show (fun e=>(List.range K).map fun v=>V E (e*K+v))=fun e=>(List.range K).map (F e) by rw[EF.out,EK.out]] at MQ;have zX:v<wX.heap.size:=(by have:=M.size;omega);clear GQ GN M S au R BN nB sN;go_wp2
    rotate_left
    focus
     rw[aM c0] at aw HW;subst aw;have MQ:=(HW.imp KW.ok (p':=fun f=>f<w.heap.size) (fun f O _=>O));have b5:b≠v:=(by have:=HW.lt KW.ok (by simp;omega);omega);have own:∃(K:Nat) (F:Nat->Nat->Rat),1<=K/\K<=1000/\K=t/\F=W:=⟨t,W,om,c7,rfl,rfl⟩;obtain⟨K,F,cs,ct,eK,eF⟩:=own;have a3:=eI (show ym G V t W q=(List.range T).flatMap fun e=>lC (F e) K by unfold ym;rw[eo.out,HM.out,aM c0,eK,eF];rfl);rw[<-eK,<-eF] at MQ;have qF:=eI (show ∀e v,e<T->v<K->Qb (F e v) 1048640 from fun e v he hc=>by rw[eF];exact qW e v he om);have q0:((T:Int)==0)=false:=(by simp;omega);have er:¬T=0:=om;have MQ:=MQ.aA KW.ok S;have SX:=S;have GX:=GN;have zX:v<(wr.alloc (.o #[.i 5,.i (E:Int),.i (G.N H).b,.i (aa:Int),.i (G.N H).s,.l a1 (G.N H).nv bw] 144)).heap.size:=om;clear eK eF HW qW ae S GN;go_wp2;generalize wr.alloc _=wX at*;generalize b=bq at*;generalize p=kq at*
    all_goals
     have co:∀e,e<=T->((List.range e).flatMap fun e=>lC (F e) K).length<=2000000:=fun e he=>aU (amb F e) (dF (show e<=1000 by omega) (show 2*K<=2000 by omega));go_loopw [9,15] (fun aq f w3=>∃e:Nat,e<=T/\f=.i (e:Int)/\wX.grownBy w3 (some v)/\∃x bw n1 x1,aq=.s x n1 bw/\(x=v∨wX.heap.size<=x)/\(CL++(List.range e).flatMap fun e=>lC (F e) K).length=n1/\GL KQ (fun f=>w.heap.size<=f) w3 w.heap.size (.s x n1 bw) (CL++(List.range e).flatMap fun e=>lC (F e) K) x1) (fun _ f _=>T-(intOf f).toNat)
     case atStart=>exact⟨0,aJ _,rfl,vZ _ _,v,dn,N,xs,rfl,.inl rfl,by simpa using ah,by simpa using GX⟩
     case round=>
      obtain⟨e,he,rfl,av,x,ci,n1,x1,rfl,cy,bg,G1⟩:=hrel;have et:=av.size;have ck:=SX.size;have s2:=iw SX av om ck;have en:=G1.lt;have d3:n1<=4002000:=(by rw[<-bg,aT,ah];have:=co e he;omega);by_cases ce:e<T
      . obtain⟨-,cE,⟨aE,U,oE,kE,rfl,cr,b2,ME⟩,cM⟩:=MQ e _ (by rw[cY,fK ce];rfl);have b2:U<w.heap.size:=b2 (by simp;omega);have ME:ML KQ wX (fun f=>f<w.heap.size) aE U oE ((List.range K).map (F e)):=ME;have cM:=cM 0 _ rfl;rw[show 0+e*KW.sz+0=e by show 0+e*1+0=e;omega] at cM;simp only[bS,cT] at cM cr;have cM:=lj av cM b5;obtain⟨rfl,-⟩:=ME.fn 0 om;have dk:(e:Int)<T:=om;have cv:=eI bg;have cg:=eI (adM (fun dr=>lC dr K) e F);have qE:=eI (fun v hc=>qF.out e v ce hc);generalize F e=h at*;generalize b3:CL++(List.range e).flatMap (fun e=>lC (F e) K)=L1 at*;have bm:=eI b3;clear b3;go_wp2;go_loopw [9,17] (fun aq f w3=>∃r L:Nat,L=2*r/\L<=K/\f=.i (L:Int)/\wX.grownBy w3 (some v)/\∃D k2 cw x2,aq=.s D cw k2/\(D=v∨wX.heap.size<=D)/\cw=n1+3*r/\GL KQ (fun f=>w.heap.size<=f) w3 w.heap.size (.s D cw k2) (L1++sw h r) x2) (fun _ f _=>K-(intOf f).toNat)
        case atStart=>exact⟨0,0,rfl,om,rfl,av,x,ci,n1,x1,rfl,cy,rfl,by simpa [sw] using G1⟩
        case round=>
         obtain⟨r,L,hd,d7,rfl,ad,D,dp,cw,x2,rfl,bc,ao,G2⟩:=hrel;have eu:=ad.size;have s3:=iw SX ad om ck;have ep:=G2.lt;have M3:=ME.move KQ.ok ad.size (fun _=>ig ad om om) (fun f O hp=>ig ad O om);have R3:=M3.fn;have ag:(L1++sw h r).length=cw:=(by rw[aT,dH,cv.out,ao]);have HD:=eI hd;have cm:=eI ao;have d4:cw<=4010000:=om;by_cases d9:L+1<K
         . obtain⟨Q,bf⟩:∃q,q=L+1:=⟨_,rfl⟩;obtain⟨-,y1,v1,C1⟩:=R3 L om;obtain⟨-,y2,v2,C2⟩:=R3 Q om;have X:=uB wr;have D1:=C1.aA X;have y:=C2.aA X;have e0:=D1.c0;have e1:=D1.c1;have e2:=D1.c2;have e3:=y.c0;have e4:=y.c1;have e5:=y.c2;have J:=ro (qE.out L om) (qE.out Q om) om D1.R.read y.R.read;have G3:=G2.aA KQ.ok X;have zd:wr.drew.heap.size=wr.heap.size:=rfl;have q1:IntKind.i64.wrap ((L:Int)+1)=(Q:Int):=(by rw[show (L:Int)+1=(Q:Int) by omega];exact gU om om);have dl:(Q:Int)<K:=om;have ch:(L:Int)<K:=om;have dm:(L:Int)+1<(K:Int):=om;have d5:U<wr.heap.size:=C1.lt;have bz:=eI (show h L-h Q=h (2*r)-h (2*r+1) by rw[bf,hd]);have QP:=eI (R3.part (F:=Q) (k:=1) om);have al:=eI bf;clear hd ao bf;generalize h L-h Q=vS at J bz;go_wp2_with fail
           go_region_held3 (fun s=>s.cell? (jj U (oE+L*3))=some (.bool (qn (h L)))/\s.cell? (jj U (oE+L*3+1))=some y1/\s.cell? (jj U (oE+L*3+2))=some v1/\s.cell? (jj U (oE+Q*3))=some (.bool (qn (h Q)))/\s.cell? (jj U (oE+Q*3+1))=some y2/\s.cell? (jj U (oE+Q*3+2))=some v2) (go_keep)
            (first
              | (go_at_call 163;(with_reducible refine J.mono ?_);rintro e w5 ⟨u5,rfl,RP,M⟩;have RQ:=RP;obtain⟨a8,n8,c8,b8,m8,d8,-,-,-,-,-,-,e8,-⟩:=RQ;subst e8;have k0:=(D1.aA M).c0;have bw:=(D1.aA M).c1;have k2:=(D1.aA M).c2;have k3:=(y.aA M).c0;have k4:=(y.aA M).c1;have k5:=(y.aA M).c2;have G5:=G3.aA KQ.ok M;have z5:=M.size;have sW:=fA w5 (.o #[.bool (qn vS),.l a8 n8 c8,.l b8 m8 d8] 70))
              | (refine oH (m:=1) KQ.ok (G5.aA KQ.ok sW) ag (ML.one (p:=fun f=>w.heap.size<=f/\f≠D) KQ.ok (c:=[.bool (qn vS),.l a8 n8 c8,.l b8 m8 d8]) (x:=vS) ⟨_,_,rfl,RP.imp (fun G _ hg=>⟨om,om⟩)⟩ 70) rfl rfl _ _ rfl rfl rfl om ?_
                 rintro c' k' s ⟨⟨ak,G'⟩,u,bb,bh⟩;have aj:U≠D:=om;have dt:=fF u k0 aj;have du:=fF u bw aj;have dw:=fF u k2 aj;have dx:=fF u k3 aj;have dy:=fF u k4 aj;have dz:=fF u k5 aj))
           have zW:=sW.size;have gW:wX.grownBy s (some v):=ue (iv (iv ad (kA X)) (iv (kA M) (kA sW))) u bc;have zg:=gW.size;have M4:=(ME.move KQ.ok gW.size (fun _=>ig gW om om) (fun f O hp=>ig gW O om)).fn;have a4:=M4.part (F:=Q) (k:=1) (by have:=al.out;omega);obtain⟨d2,b7⟩:∃q,q=L+2:=⟨_,rfl⟩;have q2:IntKind.i64.wrap ((L:Int)+2)=(d2:Int):=(by rw[show (L:Int)+2=(d2:Int) by omega];exact gU om om);have eg:(Q:Int)<=d2:=(by have:=al.out;omega);have eh:(d2:Int)<=kE:=om;have ei:d2-Q=1:=(by have:=al.out;omega);have eq:=G'.lt;have dc:(L1++sw h r++[vS]).length=cw+1:=(by rw[aT,ag];rfl);have a0:=eI b7;clear b7 dt du dw dx dy dz;go_wp2_with fail;refine (y9 a4 om (fun C ht=>qE.out _ om)).mono ?_;rintro e w6 ⟨cb,kb,xb,rfl,GB,s6⟩;have G6:=G'.aA KQ.ok s6;have z6:=s6.size;have MB:=(GB.ml KQ.ok).imp KQ.ok (p':=fun f=>w.heap.size<=f/\f≠c') (fun f _ O=>by have:=O.1;exact⟨om,om⟩);go_wp2_with (at_builtin;refine qD ?_);intro _;refine nK (m:=2) KQ.ok G6 dc MB (jL _ 1) rfl _ _ rfl rfl rfl om ?_;rintro c3 k3 w7 ⟨⟨x3,G7⟩,a9,cz,de⟩;go_wp2;go_roundw
           case rel=>have c9:=HD.out;have db:=al.out;refine⟨r+1,L+2,om,om,by go_num,ue (iv gW (kA s6)) a9 om,c3,k3,cw+1+2,x3,rfl,om,by have:=cm.out;omega, ?_⟩;have eb:kM (fun C=>h (Q+C)) 1=[h (2*r+1),-h (2*r+1)]:=(by show [h (Q+0),-h (Q+0)]=_;rw[fV,db,c9]);rw[eb] at G7;rw[abR,<-bz.out,<-dZ,<-dZ];exact G7
           case measure=>have t1:=al.out;have t2:=a0.out;simp[intOf];omega
         . have dl:¬(L:Int)+1<(K:Int):=om;by_cases cf:K % 2=1
           . have ch:(K:Int) % 2=1:=om;have e1:K-L=1:=om;have q1:IntKind.i64.wrap ((K:Int)-1)=(L:Int):=(by rw[show (K:Int)-1=(L:Int) by omega];exact gU om om);have q2:(K:Int)-1=(L:Int):=om;have dm:(L:Int)<=K:=om;have a4:=R3.part (F:=L) (k:=1) om;have a2:=eI (show K=2*r+1 by omega);clear cf hd ao;go_wp2_with fail;refine (y9 a4 om (fun C ht=>qE.out _ om)).mono ?_;rintro e w6 ⟨cb,kb,xb,rfl,GB,s6⟩;have G6:=G2.aA KQ.ok s6;have z6:=s6.size;have MB:=(GB.ml KQ.ok).imp KQ.ok (p':=fun f=>w.heap.size<=f/\f≠D) (fun f _ O=>by have:=O.1;exact⟨om,om⟩);go_wp2_with (at_builtin;refine qD ?_);intro _;refine nK (m:=2) KQ.ok G6 ag MB (jL _ 1) rfl _ _ rfl rfl rfl om ?_;rintro c3 k3 w7 ⟨⟨x3,G7⟩,a9,cz,de⟩;go_wp2;go_roundw
             case rel=>have eL:CL++(List.range (e+1)).flatMap (fun e=>lC (F e) K)=L1++sw h r++kM (fun C=>h (L+C)) 1:=(by rw[cg.out,<-dZ,bm.out,ad4 h a2.out,<-dZ];show _=L1++sw h r++[h (L+0),-h (L+0)];rw[fV,HD.out]);exact⟨e+1,om,by go_num,ue (iv ad (kA s6)) a9 bc,c3,k3,cw+2,x3,rfl,om,by rw[eL,aT,ag,jL],by rw[eL];exact G7⟩
             case measure=>exact yI
           . have ch:(K:Int) % 2=0:=om;have a2:=eI (show K=2*r by omega);clear cf hd ao;go_wp2;go_roundw
             case rel=>have eL:CL++(List.range (e+1)).flatMap (fun e=>lC (F e) K)=L1++sw h r:=(by rw[cg.out,<-dZ,bm.out,abS h a2.out]);exact⟨e+1,om,by go_num,ad,D,dp,cw,x2,rfl,bc,by rw[eL];exact ag,by rw[eL];exact G2⟩
             case measure=>exact yI
      . have ee:e=T:=om;subst ee;have dk:¬(e:Int)<e:=om;go_wp2;go_ret;exact⟨x,ci,n1,rfl,by rw[eN.out,a3.out];exact bg,⟨x1,by rw[eN.out,a3.out];exact G1⟩,s2⟩
theorem aha(a:G.nn-n=m+1)(c:Nat):mW G (n+1) c=(mW G n c ||(mW G n (m+1)&&tC G m c)):=by
 show (mW G n c ||(mW G n (G.nn-n)&&tC G (G.nn-n-1) c))=_;rw[a];rfl
theorem ahw(E:pg G){d:Nat}(al:aV w n G a A B m c d):
 Cl 111 #[.agg #[.i G.inn,.i G.rounds,.slice a G.nl m,.slice A G.nh c,.slice B G.nn d,.i G.out]] w fun e w'=>∃b,e=.returned (.s b (G.nn+1) (G.nn+1))/\w'.rowIs b 4 (G.nn+1) (fun j=>.bool (lD G j))/\w.heap.size<=b/\w.S w':=by
 have o0:=E.o0;have o1:=E.o1;have ae:=E.head.n;have W:=run_make_row' (P:=Tryz.prog) 108 4 (.bool false) 1 underlying108 wY rfl .i64 .i64 (G.nn+1) om om;rw[show ((G.nn+1:Nat):Int)=(G.nn:Int)+1 from rfl] at W;obtain⟨f,X⟩:∃f:Nat,G.out=f:=⟨G.out.toNat,om⟩;have T:G.out.toNat=f:=om;have HO:=eI T;have HE:=eI E;rw[X] at o0 o1⊢;clear X T E;have sA:=fA w (.o #[.i G.inn,.i G.rounds,.l a G.nl m,.l A G.nh c,.l B G.nn d,.i (f:Int)] 115);have bA:=fO.new w (.i G.inn) (.i G.rounds) (.l a G.nl m) (.l A G.nh c) (.l B G.nn d) (.i (f:Int)) 115;have zA:(w.alloc (.o #[.i G.inn,.i G.rounds,.l a G.nl m,.l A G.nh c,.l B G.nn d,.i (f:Int)] 115)).heap.size=w.heap.size+1:=by simp
 have ac:(f:Int)<((G.nn+1:Nat):Int):=om;have u:=World.rowIs_made (w.alloc (.o #[.i G.inn,.i G.rounds,.l a G.nl m,.l A G.nh c,.l B G.nn d,.i (f:Int)] 115)) (.bool false) (G.nn+1) 4;rw[zA] at u;have Q:=u.set f (.bool true);have q6:=u.cell (i:=f) om;have q7:=u.frozen f;have F:(w.alloc (.o #[.i G.inn,.i G.rounds,.l a G.nl m,.l A G.nh c,.l B G.nn d,.i (f:Int)] 115)).Since (w.heap.size+1) (((w.alloc (.o #[.i G.inn,.i G.rounds,.l a G.nl m,.l A G.nh c,.l B G.nn d,.i (f:Int)] 115)).alloc (.o (madeCells #[.bool false] (G.nn+1)) 4)).setCell (jj (w.heap.size+1) f) (.bool true)):=((World.Since.refl _ _).alloc (Nat.le_of_eq zA.symm) _).setCell (Nat.le_refl _) _;have C:=bA.since F om;have N:=C.c4;go_enter func111,ntmps111;go_wp2;clear W ac N q6 q7 u;go_loopw [4] (fun q wr=>∃g:Nat,g<=G.nn/\q=.i ((G.nn-g:Nat):Int)/\w.S wr/\fO wr w.heap.size (.i G.inn) (.i G.rounds) (.l a G.nl m) (.l A G.nh c) (.l B G.nn d) (.i (f:Int))/\wr.rowIs (w.heap.size+1) 4 (G.nn+1) (fun j=>.bool (mW G g j))) (fun q _=>(intOf q).toNat)
 case atStart=>
  have e0:((w.alloc (.o #[.i G.inn,.i G.rounds,.l a G.nl m,.l A G.nh c,.l B G.nn d,.i (f:Int)] 115)).alloc (.o (madeCells #[.bool false] (G.nn+1)) 4)).setCell (jj (w.heap.size+1) f) (.bool true)=(w.alloc (.o #[.i G.inn,.i G.rounds,.l a G.nl m,.l A G.nh c,.l B G.nn d,.i (f:Int)] 115)).alloc (.o ((madeCells #[.bool false] (G.nn+1)).setIfInBounds f (.bool true)) 4):=by simp[go_sem]
  rw[e0] at F C Q;exact⟨0,Nat.zero_le _,rfl,sA.trans (sM F (Nat.le_succ _)),C,Q.congr (fun j _=>by
   show _=Value.bool (j==G.out.toNat);rw[HO.out];by_cases e:j=f<;>simp[e])⟩
 case round=>
  obtain⟨g,hm,rfl,s,H,R⟩:=hrel;have b4:=H.c4;by_cases ad:g<G.nn
  . obtain⟨i,V⟩:∃i,G.nn-g=i+1:=⟨G.nn-g-1,om⟩;rw[V];have P:=aha V;have r:=HE.out.nd (i:=i) om;obtain⟨bN,oN,-,LN⟩:=al.LN;obtain⟨ab,K,M,aa⟩:=LN i om;subst ab;obtain⟨h,y⟩:∃j:Nat,(G.N i).a=j:=⟨(G.N i).a.toNat,by have:=r.a0;omega⟩;obtain⟨p,z⟩:∃j:Nat,(G.N i).b=j:=⟨(G.N i).b.toNat,by have:=r.b0;omega⟩;have ak:h<=i:=(by have:=r.ai;omega);have lb:p<=i:=(by have:=r.bi;omega);have M1:=aa.aA s;obtain⟨g0,g1,g2,g3,g4,g5⟩:=M1.g;rw[y] at g1;rw[z] at g2;obtain⟨o,k⟩:∃o,(G.N i).op=o:=⟨_,rfl⟩;rw[k] at g0;have af:((i+1:Nat):Int)≥1:=om;have ag:(i:Int)<(G.nn:Int):=om;have ah:((i+1:Nat):Int)<((G.nn+1:Nat):Int):=om;have ai:(h:Int)<((G.nn+1:Nat):Int):=om;have aj:(p:Int)<((G.nn+1:Nat):Int):=om;have ez:((i+1:Nat):Int)-1=(i:Int):=om;have Y:=s.size;have wl:=R.lt;have O:∀j,tC G i j=(j==h ||(o==4&&j==p)):=fun j=>by unfold tC;rw[y,z,k];rfl
    have S:=eI O;have I:=eI P;have sN:=fA wr (.o #[.i o,.i (h:Int),.i (p:Int),.i (G.N i).k,.i (G.N i).s,.l K (G.N i).nv M] 144);have t:=R.alloc (.o #[.i o,.i (h:Int),.i (p:Int),.i (G.N i).k,.i (G.N i).s,.l K (G.N i).nv M] 144);have nB:=fO.new wr (.i o) (.i (h:Int)) (.i (p:Int)) (.i (G.N i).k) (.i (G.N i).s) (.l K (G.N i).nv M) 144;have r0:=t.cell (i:=i+1) om;have r1:=t.cell (i:=h) om;have r2:=t.frozen h;have x:=t.set h (.bool true);have Z:=nB.off (d:=w.heap.size+1) om h (.bool true);have r3:=x.cell (i:=p) om;have r4:=x.frozen p;have m0:=Z.c0;have m2:=Z.c2;have D:=H.aA sN;have l:=s.trans (sM sN s.size);cases hy:mW G g (i+1)
    . have v:=eI hy;rw[hy] at r0;clear y z k O P r hy wl Y;go_wp2;go_roundw
      case rel=>refine⟨g+1,om, ?_,l,D,t.congr (fun j _=>by rw[I.out,v.out];simp)⟩;rw[show G.nn-(g+1)=i by omega]
      case measure=>simp[intOf]
    . have v:=eI hy;rw[hy] at r0;clear y z k O P r hy wl Y;by_cases U:o=4
      . subst U;have R2:=x.set p (.bool true);go_wp2;go_roundw
        case rel=>refine⟨g+1,om, ?_,(l.setCell qz _).setCell qz _,(D.off om _ _).off om _ _,R2.congr (fun j _=>by rw[I.out,v.out,S.out];simp;by_cases L:j=h<;>by_cases e2:j=p<;>simp[L,e2])⟩;rw[show G.nn-(g+1)=i by omega]
        case measure=>simp[intOf]
      . have N:(o==4)=false:=(by simpa using U);go_wp2;go_roundw
        case rel=>refine⟨g+1,om, ?_,l.setCell qz _,D.off om _ _,x.congr (fun j _=>by rw[I.out,v.out,S.out];simp[N];by_cases L:j=h<;>simp[L])⟩;rw[show G.nn-(g+1)=i by omega]
        case measure=>simp[intOf]
  . have e:g=G.nn:=om;subst e;rw[Nat.sub_self];go_wp2;go_ret;exact⟨_,rfl,R,om,s⟩
theorem alG(E:pg G){d:Nat}(ak:aV w n G a A B m c d)(L:w.rowIs k 4 (G.nn+1) (fun j=>.bool (lD G j))):
 Cl 112 #[.agg (gV G a A B m c d),.s k (G.nn+1) i] w fun e W=>∃b,e=.returned (.s b (G.nn+1) (G.nn+1))/\W.rowIs b 3 (G.nn+1) (fun j=>.i (iM G j:Int))/\w.heap.size<=b/\w.S W:=by
 have ad:=E.head.n;have Q:=run_make_row' (P:=Tryz.prog) 142 3 (.i 0) 8 underlying142 kr rfl .i64 .i64 (G.nn+1) om om;rw[show ((G.nn+1:Nat):Int)=(G.nn:Int)+1 from rfl] at Q;have HE:=eI E;clear E;have sA:=fA w (.o (gV G a A B m c d) 115);have bA:=fO.new w (.i G.inn) (.i G.rounds) (.l a G.nl m) (.l A G.nh c) (.l B G.nn d) (.i G.out) 115;have Y:(w.alloc (.o (gV G a A B m c d) 115)).heap.size=w.heap.size+1:=by simp
 have M:=iY (w.alloc (.o (gV G a A B m c d) 115)) (.i 0) (G.nn+1) 3;rw[Y] at M;have N:(w.alloc (.o (gV G a A B m c d) 115)).Since (w.heap.size+1) ((w.alloc (.o (gV G a A B m c d) 115)).alloc (.o (madeCells #[.i 0] (G.nn+1)) 3)):=yD.alloc (Nat.le_of_eq Y.symm) _;have al:=bA.since N om;have bl:=L.lt;go_enter func112,ntmps112;go_wp2;clear Q;go_loopw [6] (fun q wr=>∃f:Nat,f<=G.nn/\q=.i ((f+1:Nat):Int)/\w.S wr/\fO wr w.heap.size (.i G.inn) (.i G.rounds) (.l a G.nl m) (.l A G.nh c) (.l B G.nn d) (.i G.out)/\wr.rowIs (w.heap.size+1) 3 (G.nn+1) (fun j=>.i (rn G f j:Int))) (fun q _=>G.nn+1-(intOf q).toNat)
 case atStart=>exact⟨0,aJ _,rfl,sA.trans (sM N (oI _)),al,M⟩
 case round=>
  obtain⟨f,hm,rfl,s,Z,R⟩:=hrel;have b4:=Z.c4;by_cases ac:f<G.nn
  . have K:∀j,rn G (f+1) j=if lD G (f+1)=true/\tC G f j=true then f+1 else rn G f j:=fun j=>rfl
    have l:=HE.out.nd (i:=f) om;obtain⟨bN,oN,-,LN⟩:=ak.LN;obtain⟨ab,C,H,aa⟩:=LN f om;subst ab;obtain⟨g,v⟩:∃j:Nat,(G.N f).a=j:=⟨(G.N f).a.toNat,by have:=l.a0;omega⟩;obtain⟨h,x⟩:∃j:Nat,(G.N f).b=j:=⟨(G.N f).b.toNat,by have:=l.b0;omega⟩;have aj:g<=f:=(by have:=l.ai;omega);have lb:h<=f:=(by have:=l.bi;omega);have M1:=aa.aA s;obtain⟨g0,g1,g2,g3,g4,g5⟩:=M1.g;rw[v] at g1;rw[x] at g2;obtain⟨o,y⟩:∃o,(G.N f).op=o:=⟨_,rfl⟩;rw[y] at g0;have ae:((f+1:Nat):Int)<=(G.nn:Int):=om;have af:(f:Int)<(G.nn:Int):=om;have ag:((f+1:Nat):Int)<((G.nn+1:Nat):Int):=om;have ah:(g:Int)<((G.nn+1:Nat):Int):=om;have ai:(h:Int)<((G.nn+1:Nat):Int):=om;have ez:((f+1:Nat):Int)-1=(f:Int):=om;have S:=s.size;have X:=R.lt;have I:∀j,tC G f j=(j==g ||(o==4&&j==h)):=fun j=>by unfold tC;rw[v,x,y];rfl
    have O:=eI I;have D:=eI K;have V:=fA wr (.o #[.i o,.i (g:Int),.i (h:Int),.i (G.N f).k,.i (G.N f).s,.l C (G.N f).nv H] 144);have t:=R.alloc (.o #[.i o,.i (g:Int),.i (h:Int),.i (G.N f).k,.i (G.N f).s,.l C (G.N f).nv H] 144);have nB:=fO.new wr (.i o) (.i (g:Int)) (.i (h:Int)) (.i (G.N f).k) (.i (G.N f).s) (.l C (G.N f).nv H) 144;have z:=Z.aA V;have u:=s.tr V;have U:=(L.of_block (u.block k bl)).cell (i:=f+1) om;have r1:=t.cell (i:=g) om;have r2:=t.frozen g;have r:=t.set g (.i ((f:Int)+1));have T:=nB.off (d:=w.heap.size+1) om g (.i ((f:Int)+1));have r3:=r.cell (i:=h) om;have r4:=r.frozen h;have m0:=T.c0;have m2:=T.c2;cases hy:lD G (f+1)
    . have p:=eI hy;rw[hy] at U;clear v x y I K l hy X S;go_wp2;go_roundw
      case rel=>exact⟨f+1,om,by go_num,u,z,t.congr (fun j _=>by rw[D.out,p.out];simp)⟩
      case measure=>exact yI
    . have p:=eI hy;rw[hy] at U;clear v x y I K l hy X S;by_cases P:o=4
      . subst P;have R2:=r.set h (.i ((f:Int)+1));go_wp2;go_roundw
        case rel=>exact⟨f+1,om,by go_num,(u.setCell qz _).setCell qz _,(z.off om _ _).off om _ _,R2.congr (fun j _=>by rw[D.out,p.out,O.out];by_cases F:j=g<;>by_cases e2:j=h<;>simp[F,e2])⟩
        case measure=>exact yI
      . have q4:(o==4)=false:=(by simpa using P);go_wp2;go_roundw
        case rel=>exact⟨f+1,om,by go_num,u.setCell qz _,z.off om _ _,r.congr (fun j _=>by rw[D.out,p.out,O.out];by_cases F:j=g<;>simp[F,q4])⟩
        case measure=>exact yI
  . have e:f=G.nn:=om;subst e;go_wp2;go_ret;exact⟨_,rfl,R,om,s⟩
def tj(e:Ending)(w:World)(lo:Nat)(g:eQ):Prop:=∃n X c a ad cap b,e=.returned (.tuple #[.slice ad n cap,.int .i64 c,.int .i64 a])/\al g n X c a/\Ints w ad b 0 n X/\(0<n->lo<=b/\b<w.heap.size/\∀o,w.frozen? ⟨b,o,none⟩=false)
theorem tj.none{b:Option Addr}(h:al G 0 (fun _=>0) z y):tj (.returned (.tuple #[.slice b 0 m,.i z,.i y])) w n G:=
 ⟨0,fun _=>0,z,y,b,m,0,rfl,h,fun j e=>absurd e om,fun h=>absurd h om⟩
theorem xE{d:Nat}(hd:G.size<=1048576)(b7:aV w n G a A B m c d):
 Calls Tryz.prog 110 #[.agg #[.int .i64 G.inn,.int .i64 G.rounds,.slice a G.nl m,.slice A G.nh c,.slice B G.nn d,.int .i64 G.out]] w fun e g=>tj e g w.heap.size G/\w.Since w.heap.size g:=by
 obtain⟨i0,hi,bj,bm,bn⟩:=en;have ts:=hd;unfold eQ.size at ts;obtain⟨b8,eA⟩:∃b8:World,b8=(w.alloc (.cells #[.int .i64 G.inn,.int .i64 G.rounds,.slice a G.nl m,.slice A G.nh c,.slice B G.nn d,.int .i64 G.out] 115)).alloc (.cells #[] 3):=⟨_,rfl⟩;have Y:w.Since w.heap.size b8:=by rw[eA];exact (fA _ _).alloc qz _
 have zA:b8.heap.size=w.heap.size+1+1:=by rw[eA];simp
 have bA:fO b8 w.heap.size (.int .i64 G.inn) (.int .i64 G.rounds) (.slice a G.nl m) (.slice A G.nh c) (.slice B G.nn d) (.int .i64 G.out):=by rw[eA];exact (fO.new w _ _ _ _ _ _ _).aA (fA _ _)
 have EA:=eI eA;clear eA;go_enter func110,ntmps110;go_wp2_with fail;rw[<-EA.out];clear EA;obtain⟨q0,q1,q2,q3,q4,q5⟩:=bA.g;refine (pG).mono ?_;rintro e w1 ⟨⟨r,rfl,b⟩,ag⟩;have aw:=ag.symm;clear ag;subst aw;cases r
 . have N:=eI (show ¬vA G from fun h=>by have:=b.2 (by unfold InP;have:=h.i1;have:=h.i2;omega);cases this);clear b;go_wp2;go_ret3;exact⟨tj.none (.inl ⟨N.out,rfl,rfl,rfl⟩),Y⟩
 have I1:=eI (b.1 rfl);clear b;go_wp2_with fail;refine (pG).mono ?_;rintro e w1 ⟨⟨r,rfl,b⟩,ag⟩;have aw:=ag.symm;clear ag;subst aw;cases r
 . have N:=eI (show ¬vA G from fun h=>by have:=b.2 (by unfold InP;have:=h.r0;have:=h.r1;omega);cases this);clear b;go_wp2;go_ret3;exact⟨tj.none (.inl ⟨N.out,rfl,rfl,rfl⟩),Y⟩
 have I2:=eI (b.1 rfl);clear b;by_cases h7:1000<G.nn
 . have q7:(1000:Int)<(G.nn:Int):=om;go_wp2;go_ret3;exact⟨tj.none (.inl ⟨fun h=>by have:=h.n;omega,rfl,rfl,rfl⟩),Y⟩
 have q7:¬(1000:Int)<(G.nn:Int):=om;by_cases W:(G.nl:Int)=G.inn
 case neg=>
  have a6:((G.nl:Int) != G.inn)=true:=by simp[W]
  go_wp2;go_ret3;exact⟨tj.none (.inl ⟨fun h=>W h.l,rfl,rfl,rfl⟩),Y⟩
 have a6:((G.nl:Int) != G.inn)=false:=by simp[W]
 have H5:=eI W;clear W;by_cases h6:(G.nh:Int)=G.inn
 case neg=>
  have q6:((G.nh:Int) != G.inn)=true:=by simp[h6]
  go_wp2;go_ret3;exact⟨tj.none (.inl ⟨fun h=>h6 h.h,rfl,rfl,rfl⟩),Y⟩
 have q6:((G.nh:Int) != G.inn)=false:=by simp[h6]
 have H6:=eI h6;clear h6;obtain⟨H,Q,-,LL⟩:=b7.LL;obtain⟨F,M,-,LH⟩:=b7.LH;obtain⟨l,o,-,LN⟩:=b7.LN;have T:=@vm a n H Q G.nl m G.Lo b8 om om (LL.aA Y);go_wp2_with fail;refine T.mono ?_;rintro e w1 ⟨r,rfl,b,s1⟩;have S1:=Y.tr s1;have B1:=bA.aA s1;have z1:=s1.size;cases r
 . have N:=eI (show ¬vA G from fun h=>by have:=b.2 h.okL;cases this);clear b;go_wp2;go_ret3;exact⟨tj.none (.inl ⟨N.out,rfl,rfl,rfl⟩),S1⟩
 have OL:=eI (b.1 rfl);clear b q0 q1 q2 q3 q4 q5 T;have q3:=B1.c3;have J2:=@vm A n F M G.nh c G.Hi w1 om om (LH.aA S1);go_wp2_with fail;refine J2.mono ?_;rintro e w2 ⟨r,rfl,b,s2⟩;have S2:=S1.tr s2;have B2:=B1.aA s2;have z2:=s2.size;cases r
 . have N:=eI (show ¬vA G from fun h=>by have:=b.2 h.okH;cases this);clear b;go_wp2;go_ret3;exact⟨tj.none (.inl ⟨N.out,rfl,rfl,rfl⟩),S2⟩
 have P:Hid (vA G):=eI ⟨I1.out.1,I1.out.2,I2.out.1,I2.out.2,H5.out,H6.out,om,OL.out,b.1 rfl⟩;clear b q3 J2;have QL:=LL.qs P.out.okL;have QH:=LH.qs P.out.okH;have i1:=P.out.i1;have i2:=P.out.i2;obtain⟨I,hI⟩:∃I:Nat,G.inn=I:=⟨G.inn.toNat,om⟩;have ad:=eI (show G.nl=I by have:=H5.out;omega);have ac:=eI (show G.nh=I by have:=H6.out;omega);have ak:=eI hI;clear hI a6 q6;go_wp2_with fail;go_loopw [6] (fun i wr=>∃k:Nat,k<=I/\i=.int .i64 k/\w.Since w.heap.size wr/\w.heap.size<wr.heap.size/\fO wr w.heap.size (.int .i64 G.inn) (.int .i64 G.rounds) (.slice a G.nl m) (.slice A G.nh c) (.slice B G.nn d) (.int .i64 G.out)/\Hid (∀j,j<k->¬pN G j)) (fun i _=>I-(intOf i).toNat)
 case atStart=>exact⟨0,aJ _,rfl,S2,om,B2,eI (fun j f=>absurd f om)⟩
 case round=>
  obtain⟨k,hk,rfl,s,am,y,NB⟩:=hrel;have bp:=y.c0;rw[ak.out] at bp;by_cases p:k<I
  . obtain⟨ba,xl,yl,C⟩:=QL k (by rw[ad.out];exact p);obtain⟨a9,xh,yh,E⟩:=QH k (by rw[ac.out];exact p);subst ba a9;have bl:=aij (P.out.okL k (by rw[ad.out];exact p)) (LL.lim k (by rw[ad.out];exact p)) (by have:=qo (R:=G.Lo) (n:=G.nl) (k:=k) (by rw[ad.out];exact p);omega);have bh:=aij (P.out.okH k (by rw[ac.out];exact p)) (LH.lim k (by rw[ac.out];exact p)) (by have:=qo (R:=G.Hi) (n:=G.nh) (k:=k) (by rw[ac.out];exact p);omega);obtain⟨al,nl,cl,a0,ml,dl,-,-,-,-,-,-,el,-⟩:=C.R;obtain⟨ah,nh,ch,az,mh,dh,-,-,-,-,-,-,eh,-⟩:=E.R;simp only[ag3,fM] at el eh;obtain⟨rfl,rfl⟩:=el;obtain⟨rfl,rfl⟩:=eh;have dr:=uB wr;have S3:=s.tr dr;have T:=ai4 bl bh om (C.aA S3).R.read (E.aA S3).R.read;obtain⟨ao,L⟩:∃ao,aD (G.Lo k).q (G.Hi k).q=ao:=⟨_,rfl⟩;rw[L] at T;have b6:=eI L;have C1:=C.aA s;have C2:=E.aA s;have q2:=y.c2;have q3:=y.c3;have g0:=C1.c0;have g1:=C1.c1;have g2:=C1.c2;have h0:=C2.c0;have h1:=C2.c1;have h2:=C2.c2;have ax:(k:Int)<I:=om;have b5:(k:Int)<(G.nl:Int):=(by rw[ad.out];exact ax);have b2:(k:Int)<(G.nh:Int):=(by rw[ac.out];exact ax);clear L bl bh;by_cases hb:0<ao
    . have BB:=eI (show pN G k by unfold pN;rw[b6.out];exact hb);go_wp2_with fail
      go_region_held3 (fun g=>g.cell? ⟨w.heap.size,2,none⟩=some (.slice (some ⟨H,Q,none⟩) G.nl m)/\g.cell? ⟨w.heap.size,3,none⟩=some (.slice (some ⟨F,M,none⟩) G.nh c)/\g.cell? ⟨H,Q+k*3,none⟩=some (.bool (qn (G.Lo k).q))/\g.cell? ⟨H,Q+k*3+1,none⟩=some (.slice al nl cl)/\g.cell? ⟨H,Q+k*3+2,none⟩=some (.slice a0 ml dl)/\
       g.cell? ⟨F,M+k*3,none⟩=some (.bool (qn (G.Hi k).q))/\g.cell? ⟨F,M+k*3+1,none⟩=some (.slice ah nh ch)/\g.cell? ⟨F,M+k*3+2,none⟩=some (.slice az mh dh)) (go_keep)
       (first
         | (go_at_call 155;with_reducible refine mo T fun w3 s3=> ?_;have u3:=dr.tr s3;have z:=s.tr u3;have R:=y.aA u3;have j2:=R.c2;have j3:=R.c3;have k0:=(C.aA z).c0;have k1:=(C.aA z).c1;have k2:=(C.aA z).c2;have l0:=(E.aA z).c0;have l1:=(E.aA z).c1;have l2:=(E.aA z).c2))
      all_goals go_wp2
      all_goals go_ret3
      exact⟨tj.none (.inr (.inl ⟨P.out,k,by rw[ak.out];exact ax,NB.out,BB.out,rfl,rfl,rfl⟩)),z⟩
    . have BB:=eI (show ¬pN G k by unfold pN;rw[b6.out];exact hb);go_wp2_with fail
      go_region_held3 (fun g=>g.cell? ⟨w.heap.size,2,none⟩=some (.slice (some ⟨H,Q,none⟩) G.nl m)/\g.cell? ⟨w.heap.size,3,none⟩=some (.slice (some ⟨F,M,none⟩) G.nh c)/\g.cell? ⟨H,Q+k*3,none⟩=some (.bool (qn (G.Lo k).q))/\g.cell? ⟨H,Q+k*3+1,none⟩=some (.slice al nl cl)/\g.cell? ⟨H,Q+k*3+2,none⟩=some (.slice a0 ml dl)/\
       g.cell? ⟨F,M+k*3,none⟩=some (.bool (qn (G.Hi k).q))/\g.cell? ⟨F,M+k*3+1,none⟩=some (.slice ah nh ch)/\g.cell? ⟨F,M+k*3+2,none⟩=some (.slice az mh dh)) (go_keep)
       (first
         | (go_at_call 155;with_reducible refine mo T fun w3 s3=> ?_;have u3:=dr.tr s3;have z:=s.tr u3;have R:=y.aA u3;have j2:=R.c2;have j3:=R.c3;have k0:=(C.aA z).c0;have k1:=(C.aA z).c1;have k2:=(C.aA z).c2;have l0:=(E.aA z).c0;have l1:=(E.aA z).c1;have l2:=(E.aA z).c2))
      all_goals go_wp2
      all_goals go_roundw
      case rel=>exact⟨k+1,om,by go_num,z,aS am u3.size,R,eI (fun j f=>by
       by_cases e:j=k
       . subst e;exact BB.out
       . exact NB.out j om)⟩
      case measure=>exact yI
  have e:k=I:=om;subst e;have BX:=eI (show ∀j:Nat,(j:Int)<G.inn->¬pN G j from fun j f=>NB.out j (by rw[ak.out] at f;omega));have bq:=y.c0;clear NB QL QH;have sB:=fA wr (.cells #[.int .i64 k] 3);have O1:uK (wr.alloc (.cells #[.int .i64 k] 3)) wr.heap.size (.slice (some ⟨wr.heap.size,0,none⟩) 1 1) 1 (ng G 0) [.int .i64 k]:=⟨World.ownsRow_lit wr #[.int .i64 k] 1 zR qd rfl,fun i hi=>by
   have:i=0:=om;subst this;show some (Value.int .i64 k)=some (.int .i64 G.inn);rw[ak.out]⟩
  clear bq;go_wp2_with fail;have z3:(wr.alloc (.cells #[.int .i64 k] 3)).heap.size=wr.heap.size+1:=by simp
  have S3:=s.tr sB;have R:=y.aA sB;obtain⟨Z,hm⟩:∃Z,wr.heap.size=Z:=⟨_,rfl⟩;generalize wr.alloc _=w3 at*;rw[hm] at O1 z3 am⊢;have bg:=am;have HM:=eI hm;clear hm;have bc:=eI (show Dok (ng G 0) 1 from fun j f=>by
   have:j=0:=om;subst this;exact⟨i1,i2⟩)
  go_loopw [7,8] (fun br i an=>∃k:Nat,k<=G.nn/\i=.int .i64 ((k+1:Nat):Int)/\w.Since w.heap.size an/\Z<an.heap.size/\fO an w.heap.size (.int .i64 G.inn) (.int .i64 G.rounds) (.slice a G.nl m) (.slice A G.nh c) (.slice B G.nn d) (.int .i64 G.out)/\Hid (∀j,j<k->nc G j=0)/\Hid (Dok (ng G k) (k+1))/\∃v b9 xs,br=.slice (some ⟨v,0,none⟩) (k+1) b9/\uK an Z (.slice (some ⟨v,0,none⟩) (k+1) b9) (k+1) (ng G k) xs) (fun _ i _=>G.nn+1-(intOf i).toNat)
  case atStart=>exact⟨0,aJ _,rfl,S3,om,R,eI (fun j f=>absurd f om),bc,Z,1,_,rfl,O1⟩
  case round=>
   obtain⟨k,hk,rfl,s,am,y,NZ,HD,v,b9,xs,rfl,O⟩:=hrel;have q5:=y.c5;have q4:=y.c4;have bo:=P.out.n;by_cases p:k<G.nn
   . obtain⟨bb,a1,k1,ae⟩:=LN k p;subst bb;have b1:=ey (A:=G.N) p;have q0:=y.c0;have q1:=y.c1;have q2:=y.c2;have q3:=y.c3;have hz:((k+1:Nat):Int)<=(G.nn:Int):=om;have b4:(k:Int)<(G.nn:Int):=om;have J:=@acl G (G.N k) a A n m c d l o a1 k1 k (some ⟨v,0,none⟩) v b9 (ng G k) wr om (ae.aA s) p bo O.ints HD.out;obtain⟨cc,ar⟩:∃cc,kz (ng G k) (k+1) (G.N k)=cc:=⟨_,rfl⟩;rw[ar] at J;go_wp2_with fail;refine mo J fun w4 s4=> ?_;have z:=s.tr s4;have aj:=eI ar;clear ar J q0 q1 q2 q3;by_cases L:cc=0
     . have q:(cc != 0)=false:=(by simp[L]);have b6:=eI L;clear L;obtain⟨ab,ai,SH⟩:=tg (aj.out.trans b6.out);obtain⟨j,f⟩:∃j:Nat,(G.N k).a=j:=⟨(G.N k).a.toNat,by have:=ai.1;omega⟩;have a3:j<k+1:=(by have:=ai.2.1;omega);have aq:=HD.out j a3;obtain⟨aa,hx⟩:∃aa,ng G k j=aa:=⟨_,rfl⟩;rw[hx] at aq;have d4:=uB w4;have u5:=s4.tr d4;have S5:=s.tr u5;have B5:=y.aA u5;have t:=ae.aA S5;obtain⟨-,a5⟩:=((O.aA u5).ints) j a3;rw[aZ,hx] at a5;have ea:(ng G k) (G.N k).a.toNat=aa:=by rw[f];exact hx
       have JD:=@wS (G.N k).op (j:Int) (G.N k).b (G.N k).k (G.N k).s aa a1 (G.N k).nv k1 w4.drew aq.1 aq.2
        (fun h=>by have af:=ab.k;rw[h] at af;exact af)
        (fun h=>by
          have af:=ab.k;have f2:=ab.s;rw[h] at af f2;have f':1<=(G.N k).k/\(G.N k).k<=1000:=af;have a2:1<=(G.N k).s/\(G.N k).s<=1000:=f2;refine⟨f'.1, ?_,a2.1,a2.2⟩;by_cases hh:(G.N k).k>aa
          . exfalso;unfold iR at SH;rw[ea] at SH;simp[h,hh] at SH
          . omega)
       obtain⟨V,au⟩:∃V,rh (G.N k).op (G.N k).k (G.N k).s aa=V:=⟨_,rfl⟩;rw[au] at JD;have eD:Hid (V=ld (ng G k) (G.N k)):=eI (by rw[<-au];unfold rh ld;rw[ea]);have HN:Hid (nc G k=0):=eI (aj.out.trans b6.out);have b3:(j:Int)<((k+1:Nat):Int):=om;have ez:((k+1:Nat):Int)-1=(k:Int):=om;have x:=eI f;have HF:=eI ab;have HG:=eI ai;have HS:=eI SH;have bu:=eI hx;have bs:=eI ea;clear au ab ai SH ea hx;have q4:=(y.aA s4).c4;clear f;go_wp2_with fail;refine wp_region_held_drew (S:=fun g=>g.cell? ⟨w.heap.size,4,none⟩=some (.slice (some ⟨l,o,none⟩) G.nn d)/\g.cell? ⟨l,o+k*6,none⟩=some (.int .i64 (G.N k).op)/\g.cell? ⟨l,o+k*6+1,none⟩=some (.int .i64 j)/\g.cell? ⟨l,o+k*6+2,none⟩=some (.int .i64 (G.N k).b)/\g.cell? ⟨l,o+k*6+3,none⟩=some (.int .i64 (G.N k).k)/\g.cell? ⟨l,o+k*6+4,none⟩=some (.int .i64 (G.N k).s)/\g.cell? ⟨l,o+k*6+5,none⟩=some (.slice a1 (G.N k).nv k1)) kr ⟨B5.c4,t.c0,(by rw[<-x.out];exact t.c1),t.c2,t.c3,t.c4,t.c5⟩ (fun bd=> ?_);refine kl 0 94 ?_;refine kl 1 95 ?_;refine kl 2 96 ?_;refine kl 3 97 ?_;refine ta 4 98 (.int .i64 k) ?_ ?_
       . intro g ca;try dsimp only at ca
         go_simp;rw[tR];omega
       simp only[ap,la,lz,ls];refine kl 5 99 ?_;refine kl 6 100 ?_;refine kl 7 101 ?_;refine kl 8 102 ?_;refine kl 9 103 ?_;refine kl 10 104 ?_;refine ta 11 105 (.int .i64 k) ?_ ?_
       . intro g ca;try dsimp only at ca
         go_simp;rw[tR];omega
       simp only[ap,la,lz,ls];refine kl 12 106 ?_;refine kl 13 107 ?_;refine kl 14 108 ?_;refine ta 15 109 (.pointer (some ⟨v,j,none⟩)) ?_ ?_
       . intro g ca;try dsimp only at ca
         go_simp;intro h;omega
       simp only[ap,la,lz,ls];refine tu 16 fun K D=> ?_;have lx:=a5;go_simp;clear lx;refine D.out _ _ ⟨B5.c4,t.c0,(by rw[<-x.out];exact t.c1),t.c2,t.c3,t.c4,t.c5⟩ (fun h1=> ?_);clear D K bd;refine tu 17 fun K D=> ?_;go_simp;go_wp2_with (go_at_call 109;with_reducible refine mo JD fun w6 s6=> ?_);have u6:=u5.tr s6;have S6:=s.tr u6;have B6:=y.aA u6;have U:=ae.aA S6;have O6:=O.aA u6;have z6:=u6.size;refine D.out _ _ ⟨B6.c4,U.c0,(by rw[<-x.out];exact U.c1),U.c2,U.c3,U.c4,U.c5⟩ (fun h2=> ?_);clear D K h1;refine tu 18 fun K D=> ?_;go_simp;have sW:=fA w6 (.cells #[.int .i64 V] 3);have S7:=S6.tr sW;have S:=B6.aA sW;have M7:=ae.aA S7;refine D.out _ _ ⟨S.c4,M7.c0,(by rw[<-x.out];exact M7.c1),M7.c2,M7.c3,M7.c4,M7.c5⟩ (fun h3=> ?_);clear D K h2;refine tu 19 fun K D=> ?_;refine step_append_lies _ rfl _ _ 142 rfl Z 3 i0 _ 1 8 underlying142 hi bj bm bn rfl qd _ (k+1) xs rfl (O6.own.alloc _) ⟨w6.heap.size,0,none⟩ 1 1 [.int .i64 V] rfl rfl (iq _ _ _) (one_one _ rfl) qd (by unfold maxLen;omega) om (by simp;omega) (w6.heap.size+1) qz ?_;intro g' a8 w8 bf av bw b0;replace av:World.grownBy (w6.alloc (.cells #[.int .i64 V] 3)) w8 _:=av;have zz:(w6.alloc (.cells #[.int .i64 V] 3)).heap.size=w6.heap.size+1:=(by simp);have bz:=O6.own.lt v rfl;have S8:w.Since w.heap.size w8:=S7.grown av (by have:=S6.size;omega) (fun q hq=>by have:=(O6.own.lt q hq).1;have:=s.size;omega);have X:∀q,q<Z->w8.heap[q]?=(w6.alloc (.cells #[.int .i64 V] 3)).heap[q]?:=fun q hq=>av.block q om (fun e=>by have:=(O6.own.lt q e.symm).1;omega);have B8:fO w8 w.heap.size (.int .i64 G.inn) (.int .i64 G.rounds) (.slice a G.nl m) (.slice A G.nh c) (.slice (some ⟨l,o,none⟩) G.nn d) (.int .i64 G.out):=by
        have hl:w.heap.size<Z:=bg;exact⟨(aO (a:=⟨w.heap.size,0,none⟩) (X _ hl)).trans S.c0,(aO (a:=⟨w.heap.size,1,none⟩) (X _ hl)).trans S.c1,(aO (a:=⟨w.heap.size,2,none⟩) (X _ hl)).trans S.c2,(aO (a:=⟨w.heap.size,3,none⟩) (X _ hl)).trans S.c3,(aO (a:=⟨w.heap.size,4,none⟩) (X _ hl)).trans S.c4,(aO (a:=⟨w.heap.size,5,none⟩) (X _ hl)).trans S.c5,fun ay=>by
         have:=S.f ay;unfold World.frozen? at this⊢;rw[X _ hl];exact this⟩
       have u:=ae.aA S8;have z8:=av.size;refine D.out _ _ ⟨B8.c4,u.c0,(by rw[<-x.out];exact u.c1),u.c2,u.c3,u.c4,u.c5⟩ (fun h4=> ?_);clear D K h3;refine tu 20 fun K D=> ?_;go_simp;refine D.out _ _ ⟨B8.c4,u.c0,(by rw[<-x.out];exact u.c1),u.c2,u.c3,u.c4,u.c5⟩ (fun W=> ?_);clear D K W h4;refine wpAnyH_done kr ?_ _;go_wp2;go_roundw
       case rel=>
        go_light;have a7:∀i,i<k+1->xs[i]?=some (.int .i64 (ng G (k+1) i)):=fun i hi=>by rw[yO G om];exact O.at_ i hi
        refine⟨k+1,om,by go_num,S8,om,B8,eI (fun j f=> ?_),eI (fun j f=> ?_),g',a8,_,rfl,uK.snoc O.len a7 bf (by rw[yP,<-eD.out])⟩
        . by_cases e:j=k
          . subst e;exact HN.out
          . exact NZ.out j om
        . by_cases e:j=k+1
          . subst e;rw[yP];exact aml HD.out (aj.out.trans b6.out)
          . rw[yO G om];exact HD.out j om
       case measure=>exact yI
     . have q:(cc != 0)=true:=(by simp[L]);have HN:Hid (nc G k=cc):=eI aj.out;go_wp2;go_ret3;refine⟨?_,z⟩;exact tj.none (.inr (.inr (.inl ⟨P.out,BX.out,k,p,NZ.out,by rw[HN.out];exact L,rfl,HN.out.symm,by go_num⟩)))
   have e:k=G.nn:=om;have HE:=eI e;have KZ:=eI (show ∀j,j<G.nn->nc G j=0 from fun j f=>NZ.out j om);clear e NZ;have nz:¬((k+1:Nat):Int)<=(G.nn:Int):=om;go_wp2_with fail;refine (pG).mono ?_;rintro e w4 ⟨⟨r,rfl,b⟩,a4⟩;have bi:=a4.symm;clear a4;subst bi;cases r
   . have NO:=eI (show ¬(0<=G.out/\G.out<=G.nn) from fun h=>by have:=b.2 h;cases this);clear b;go_wp2;go_ret3;exact⟨tj.none (.inr (.inr (.inr (.inl ⟨P.out,BX.out,KZ.out,NO.out,rfl,rfl,rfl⟩)))),s⟩
   have YO:=eI (b.1 rfl);clear b;have hl:=O.own.lt v rfl;go_wp2;go_ret3;refine⟨⟨k+1,ng G k,0,0,some ⟨v,0,none⟩,b9,v,rfl,.inr (.inr (.inr (.inr ⟨P.out,BX.out,KZ.out,YO.out,by rw[HE.out],fun j f=>by rw[HE.out],rfl,rfl⟩))),O.ints,fun _=>⟨by have:=s.size;omega,hl.2,fun ay=>O.own.frozenAt ay⟩⟩,s⟩
end Go.Proofs.YtinihjgnnlemmaaGreatDoor
