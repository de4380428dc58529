import Derived.Test.YtaeieekkddndhaaGreatOwnP4
import Derived.Deep.AppendLies
set_option maxHeartbeats 6400000
set_option maxRecDepth 100000
namespace Go.Proofs.YtaeieekkddndhaaGreat
open Go.RowKit
variable{w v W V:World}{n m c d k i j l o b p q t r s g h e:Nat}{u U:Value}
theorem kv{p:Prop}(h:True->p):p:=h trivial
theorem mo(s:w.S v):w.grownBy v (some n):=⟨s.os,s.tape,s.output,s.size,fun q a _=>s.block q a⟩
theorem yS(n:Nat)(w:World):w.grownBy w (some n):=⟨rfl,rfl,rfl,aC _,fun _ _ _=>rfl⟩
theorem gz(h:w.grownBy v (some n))(k:v.grownBy W (some n)):w.grownBy W (some n):=
 ⟨k.os.trans h.os,k.tape.trans h.tape,k.output.trans h.output,aU h.size k.size,fun q b a=>(k.block q (aS b h.size) a).trans (h.block q b a)⟩
theorem al7(h:w.grownBy v (some n))(m:Nat)(u:Value):w.grownBy (v.setCell ⟨n,m,none⟩ u) (some n):=
 ⟨h.os,h.tape,h.output,by simpa [World.setCell] using h.size,fun q b a=>(fN _ _ _ _ (fun e=>a (by simp[e]))).trans (h.block q b a)⟩
theorem eI{a:World}(s:w.Since m a)(h:a.grownBy v (some n))(e:m<=n)(d:m<=a.heap.size):w.Since m v:=
 ⟨h.os.trans s.os,h.tape.trans s.tape,h.output.trans s.output,aU s.size h.size,fun q b=>(h.block q om (by simp;omega)).trans (s.block q b)⟩
theorem fw(h:w.grownBy v (some n))(a:m<w.heap.size)(b:m≠n):v.heap[m]?=w.heap[m]?:=h.block m a (by simpa using b)
theorem iv{v:Value}(h:w.grownBy W (some n))(d:w.cell? (jj b k)=some v)(e:b≠n):W.cell? (jj b k)=some v:=
 (aO (w:=w) (a:=jj b k) (fw h (aG _ _ d) e)).trans d
theorem cK{o:Obj}(h:(w.alloc o).grownBy v (some n))(d:w.cell? (jj m c)=some u)(e:m≠n):v.cell? (jj m c)=some u:=
 iv h ((((aF w.heap.size w).alloc zR o).cell (a:=jj m c) (aG _ _ d)).trans d) e
theorem vR(h:w.grownBy v (some n))(k:v.grownBy W (some m))(f:m=n∨w.heap.size<=m):w.grownBy W (some n):=
 ⟨k.os.trans h.os,k.tape.trans h.tape,k.output.trans h.output,aU h.size k.size,fun q b a=>(k.block q (aS b h.size) (by simp at a⊢;omega)).trans (h.block q b a)⟩
theorem cR.lV{w w':World}{z:Value}(h:cR w n u U z)(e:w'.heap[n]?=w.heap[n]?):cR w' n u U z:=
 have m:∀k,w'.cell? (jj n k)=w.cell? (jj n k):=fun k=>aO (w:=w) (a:=jj n k) e
 ⟨(m 0).trans h.c0,(m 1).trans h.c1,(m 2).trans h.c2,fun k=>(dK (w:=w) (a:=jj n k) e).trans (h.f k)⟩
abbrev Tt:Nat->Prop:=fun _=>True
structure LK(α:Type) where
 T:TypeId
 S:TypeId
 sz:Nat
 bt:Nat
 z:Value
 El:World->(Nat->Prop)->List Value->α->Prop
structure LK.Ok{α:Type}(K:LK α):Prop where
 und:Tryz.prog.underlying K.S=some (.slice K.T)
 info:∃i,Tryz.prog.info? K.T=some i/\i.zero=some K.z/\i.size=K.sz/\i.bytes=K.bt
 zs:K.z.cells.size=K.sz
 pos:0<K.sz
 b:K.bt<=100
 len:∀ {w p c x},K.El w p c x->c.length=K.sz
 one:∀ {w p c x},K.El w p c x->∀u∈c,u.oneCell'=true
 move:∀ {w w':World} {p c x},K.El w p c x->w.heap.size<=w'.heap.size->(∀g,g<w.heap.size->p g->w'.heap[g]?=w.heap[g]?)->K.El w' p c x
 imp:∀ {w:World} {p p':Nat->Prop} {c x},K.El w p c x->(∀g,g<w.heap.size->p g->p' g)->K.El w p' c x
structure GL{α:Type}(K:LK α)(P:Nat->Prop)(w:World)(base:Nat)(v:Value)(L:List α)(xs:List Value):Prop where
 own:w.ownsRow base K.T K.sz v L.length xs
 at_:∀i x,L[i]?=some x->K.El w (fun g=>P g/\v.ownBlock≠some g) ((xs.drop (i*K.sz)).take K.sz) x
def ML{α:Type}(K:LK α)(w:World)(p:Nat->Prop)(a:Option Addr)(b off:Nat)(L:List α):Prop:=
 ∀i x,L[i]?=some x->a=some ⟨b,off,none⟩/\∃c,K.El w p c x/\∀j u,c[j]?=some u->w.cell? ⟨b,off+i*K.sz+j,none⟩=some u
section
variable{α:Type}{K:LK α}{P:Nat->Prop}{w w' w1:World}{base g n cap:Nat}{v v':Value}{L L':List α}{xs news:List Value}{p p':Nat->Prop}{a:Option Addr}{b off:Nat}
theorem GL.bH(d:K.Ok)(h:GL K P w base v L xs)(s:w.S w'):GL K P w' base v L xs:=
 ⟨h.own.kept (row:=none) ⟨s.os,s.tape,s.output,s.size,fun k b _=>s.block k b⟩ (uE _),fun i x c=>d.move (h.at_ i x c) s.size (fun g a _=>s.block g a)⟩
theorem GL.lt(h:GL K P w base (.s g n cap) L xs):base<=g/\g<w.heap.size:=h.own.lt g rfl
theorem GL.len(h:GL K P w base v L xs):xs.length=L.length*K.sz:=h.own.1
theorem GL.ml(o:K.Ok)(h:GL K P w base (.s g n cap) L xs):ML K w (fun q=>P q/\q≠g) (jp g 0) g 0 L:=fun i x m=>by
 have k:= @World.ownsRow.cells _ _ _ _ _ _ _ h.own;have f:=h.at_ i x m;refine⟨rfl,_,o.imp f (fun q _ c=>⟨c.1,fun e=>c.2 (by rw[e];rfl)⟩),fun j u a=> ?_⟩
 have l:j<K.sz:=by
  have:=bG.1 a;obtain⟨d,-⟩:=this;simp at d;omega
 rw[oS l,pM] at a;have b:=k (g:=g) rfl _ _ a;rw[Go.WideShapes.add_plain] at b;rw[aZ];simpa using b
theorem ML.lt(d:K.Ok)(h:ML K w p a b off L)(f:0<L.length):b<w.heap.size:=by
 obtain⟨-,c,e,g⟩:=h 0 _ (aK f);have hl:=d.len e;have i:=d.pos;exact aG _ _ (g 0 _ (aK om))
theorem ML.move(q:K.Ok)(h:ML K w p a b off L)(o:w.heap.size<=w'.heap.size)(e:0<L.length->w'.heap[b]?=w.heap[b]?)(hb:∀g,g<w.heap.size->p g->w'.heap[g]?=w.heap[g]?):ML K w' p a b off L:=fun i x d=>by
 obtain⟨f,c,k,m⟩:=h i x d;have l:0<L.length:=by have:=(bG.1 d).1;omega
 exact⟨f,c,q.move k o hb,fun j u n=>(aO (w:=w) (a:=jj b (off+i*K.sz+j)) (e l)).trans (m j u n)⟩
theorem ML.bH(c:K.Ok)(h:ML K w p a b off L)(s:w.S w'):ML K w' p a b off L:=
 h.move c s.size (fun d=>s.block b (h.lt c d)) (fun g e _=>s.block g e)
theorem ML.imp(l:K.Ok)(h:ML K w p a b off L)(j:∀g,g<w.heap.size->p g->p' g):ML K w p' a b off L:=fun i x k=>by
 obtain⟨d,c,e,f⟩:=h i x k;exact⟨d,c,l.imp e j,f⟩
theorem ML.nil(w:World)(P:Nat->Prop)(a:Option Addr)(n m:Nat):ML K w P a n m []:=fun i x c=>by simp at c
theorem ML.drop(h:ML K w p a b off L)(n:Nat)(f:a=jp b off):ML K w p (jp b (off+n*K.sz)) b (off+n*K.sz) (L.drop n):=fun i x d=>by
 have _:=f;rw[pM] at d;obtain⟨-,c,e,g⟩:=h (n+i) x d
 exact⟨rfl,c,e,fun j u l=>by
  have:=g j u l;rw[bI] at this;rw[show off+n*K.sz+i*K.sz+j=off+(n*K.sz+i*K.sz)+j by omega];exact this⟩
theorem ML.one(h:K.Ok){c:List Value}{x:α}(b:K.El w p c x)(t:TypeId):ML K (w.alloc (.cells c.toArray t)) p (jp w.heap.size 0) w.heap.size 0 [x]:=fun i y a=>by
 have e:i=0:=by
  have:=(bG.1 a).1;simp at this;exact this
 subst e;simp at a;subst a;have s:=cV w (.o c.toArray t);refine⟨rfl,c,h.move b s.size (fun g d _=>s.block g d),fun j u f=> ?_⟩;rw[show 0+0*K.sz+j=j by simp];simp[go_sem,f]
theorem ML.row(l:K.Ok)(h:ML K w p (jp b off) b off L):∃d:List Value,d.length=L.length*K.sz/\(∀j u,d[j]?=some u->w.cell? (jj b (off+j))=some u)/\(∀u∈d,u.oneCell'=true)/\∀i x,L[i]?=some x->K.El w p ((d.drop (i*K.sz)).take K.sz) x:=by
 induction L generalizing off with
 | nil=>exact⟨[],qz,qz,qz,qz⟩
 | cons y L ih=>
   obtain⟨-,c,e,m⟩:=h 0 y rfl;have hl:=l.len e;have g:=h.drop 1 rfl;rw[dS] at g;obtain⟨s,n,o,q,r⟩:=ih g;refine⟨c++s, ?_,fun j u a=> ?_,fun u a=> ?_,fun i x f=> ?_⟩
   . rw[aT,n,hl,fS,bI,dS,jO]
   . by_cases k:j<c.length
     . rw[bJ k] at a;have:=m j u a;rwa[iT,fV] at this
     . rw[bK om] at a;have:=o _ u a;rw[hl] at k this;rwa[show off+K.sz+(j-K.sz)=off+j by omega] at this
   . rcases iX.1 a with a | a
     . exact l.one e u a
     . exact q u a
   . cases i with
     | zero=>
       simp at f;subst f;rw[iT,List.drop_zero,mE om,dV om];exact e
     | succ i=>
       have:=r i x (by simpa using f);rwa[bI,dS,List.drop_append,List.drop_of_length_le (show c.length<=i*K.sz+K.sz by omega),hl,cF,pT]
theorem GL.app(d:K.Ok)(h:GL K P w base v L xs)(f:w.grownBy w' v.ownBlock)(own:w'.ownsRow base K.T K.sz v' (L.length+L'.length) (xs++news))(n:v'.ownBlock=v.ownBlock∨v'.ownBlock=some w.heap.size)
 (o:∀i x,L'[i]?=some x->K.El w (fun g=>P g/\v.ownBlock≠some g) ((news.drop (i*K.sz)).take K.sz) x):GL K P w' base v' (L++L') (xs++news):=by
 have hl:=h.len;have m:∀ {c x},K.El w (fun g=>P g/\v.ownBlock≠some g) c x->K.El w' (fun g=>P g/\v'.ownBlock≠some g) c x:=fun {c x} r=>by
  have p:K.El w (fun g=>(P g/\v.ownBlock≠some g)/\v'.ownBlock≠some g) c x:=d.imp r (fun j l a=>⟨a,fun e=>by
   rcases n with h | h
   . exact a.2 (h.symm.trans e)
   . rw[e] at h;simp at h;omega⟩)
  exact d.imp (d.move p f.size (fun j l a=>f.block j l (fun e=>a.1.2 e.symm))) (fun _ _ a=>⟨a.1.1,a.2⟩)
 refine⟨by rw[aT];exact own,fun i x b=> ?_⟩;by_cases k:i<L.length
 . rw[bJ k] at b;have q:i*K.sz+K.sz<=xs.length:=(by rw[hl,<-Nat.succ_mul];exact aP _ k);rw[List.drop_append_of_le_length om,mE (by simp;omega)];exact m (h.at_ i x b)
 . rw[bK om] at b;have e:i*K.sz=xs.length+(i-L.length)*K.sz:=(by rw[hl,<-bI];congr 1;omega);rw[e,List.drop_append,List.drop_of_length_le (Nat.le_add_right _ _),mM,pT];exact m (o _ x b)
def Apd{α:Type}(K:LK α)(P:Nat->Prop)(w:World)(base g n m:Nat)(L:List α)(g' cap':Nat)(w':World):Prop:=
 (∃xs',GL K P w' base (.slice (some ⟨g',0,none⟩) (n+m) cap') L xs')/\w.grownBy w' (some g)/\(g'=g∨g'=w.heap.size)/\g'<w'.heap.size
theorem aiC(d:K.Ok)(G:GL K P w base (.s g n cap) L xs)(y:L.length=n)(M:ML K w (fun q=>P q/\q≠g) (jp b off) b off L')(v:L'.length=m)(C:n+m<=1099511627776)(c:Nat)(p:TypeId):
 ∃f h V,(Builtin.append_ #[K.S,K.S] p #[.s g n cap,.slice (jp b off) m c]).run Tryz.prog w=.ok (.s f (n+m) h) V/\Apd K P w base g n m (L++L') f h V:=by
 obtain⟨i,D,E,F,H⟩:=d.info;obtain⟨R,I,N,O,Q⟩:=M.row d;have T:=G.lt;have hb:=d.b;subst y v
 obtain⟨U,V,z,k,l,t,a⟩:=run_append_own_at (P:=Tryz.prog) w base K.S p K.T i K.z K.sz K.bt d.und D E F H d.zs d.pos (.s g L.length cap) L.length xs G.own (jj b off) L'.length c R I (fun j u A=>by rw[Go.WideShapes.add_plain];exact N j u A) O (by unfold maxLen;omega)
  (aU (dF C hb) qd) om
 have s:=k;obtain⟨-,⟨r,-⟩ | ⟨f,h,S,rfl,-⟩⟩:=s
 . have:=(t.1 r).1;simp at this
 . refine⟨f,h,V,z,⟨_,G.app d l k a (fun i x B=>d.imp (Q i x B) (fun q _ o=>⟨o.1,fun e=>by simp[Value.ownBlock] at e;exact o.2 e.symm⟩))⟩,l, ?_,(k.lt f rfl).2⟩;rcases a with a | a
   . simp[Value.ownBlock] at a;exact Or.inl a
   . simp[Value.ownBlock] at a;exact Or.inr a
variable{ops:Array Oper}{rest:List Oper}{o:Oper}{ac:Act}{Q:Exit->Act->World->Prop}
theorem jg(v:K.Ok)(G:GL K P w base (.s g n cap) L xs)(k:L.length=n)(M:ML K w (fun q=>P q/\q≠g) (jp b off) b off L')(j:L'.length=m)(i:o.guard=none)(s x:Operand)(l:o.op=.call { callee:=.builtin .append,args:= #[s,x],argTypes:= #[K.S,K.S] })
 (r:ac.eval s=.s g n cap)(t:ac.eval x=.l (jp b off) m c)(u:n+m<=1099511627776)
 (h:∀d a e,Apd K P w base g n m (L++L') d a e->wpList Tryz.prog ops Q rest (ac.put o.dst (.s d (n+m) a)) e):wpList Tryz.prog ops Q (o::rest) ac w:=by
 refine wpList_plain i fun y f=> ?_;obtain⟨d,a,e,p,A⟩:=aiC v G k M j u c o.type;unfold Oper.wp execOp;simp only[l,resolve,invoke,builtin,Sem.run_bind,Sem.run_pure,tG,tN,dG,kC,r,t,p];exact f _ _ (h d a e A)
theorem mr(v:K.Ok)(G:GL K P w base (.s g n cap) L xs)(j:L.length=n)(M:ML K w (fun q=>P q/\q≠g) (jp b off) b off L')(i:L'.length=m){E:Prop}{y:Act->World->Prop}(f:o.guard=none)(s x:Operand)(k:o.op=.call { callee:=.builtin .append,args:= #[s,x],argTypes:= #[K.S,K.S] })
 (p:ac.eval s=.s g n cap)(t:ac.eval x=.l (jp b off) m c)(u:n+m<=1099511627776)
 (h:∀d a e,Apd K P w base g n m (L++L') d a e->y (ac.put o.dst (.s d (n+m) a)) e):if Region.wanted o (yielded ops ac.tmps)=true then Oper.wp Tryz.prog o ac w y Q else E:=by
 have r:Region.wanted o (yielded ops ac.tmps)=true:=by simp[Region.wanted,f]
 rw[aY r];obtain⟨d,a,e,l,A⟩:=aiC v G j M i u c o.type;unfold Oper.wp execOp;simp only[k,resolve,invoke,builtin,Sem.run_bind,Sem.run_pure,tG,tN,dG,kC,p,t,l];exact h d a e A
end
theorem GL.new{α:Type}(K:LK α)(P:Nat->Prop)(w:World):GL K P (w.alloc (.cells #[] K.T)) w.heap.size (.s w.heap.size 0 0) [] []:=
 ⟨iP w #[] 0 zR (aJ _) qz,fun i x a=>by simp at a⟩
end Go.Proofs.YtaeieekkddndhaaGreat
