import Derived.Test.YtinihjgnnlemmaaGreatDoorOwnP31
set_option maxHeartbeats 6400000
set_option maxRecDepth 100000
set_option linter.unusedVariables false
namespace Go.Proofs.YtinihjgnnlemmaaGreatDoor
open Tryz Go.RowKit
variable{v W V:World}{n m c d k i j l o b p q t r s g h e:Nat}{a A B:Option Addr}{X Y Z:Nat->Nat}{u U:Value}{f F:Bool}{z y:Int}{P:Nat->Prop}
theorem eS.but{w:World}{z:Value}(h:eS w m u U z)(s:jt n w v)(a:m≠n):eS v m u U z:=by
 have k:=s.block m h.lt (by simpa using a);refine⟨(aO (a:=jj m 0) k).trans h.c0,(aO (a:=jj m 1) k).trans h.c1,(aO (a:=jj m 2) k).trans h.c2,fun j=> ?_⟩;have:=h.f j;unfold World.frozen? at this⊢;rw[k];exact this
theorem jt.marked{w:World}(h:jt n w v)(b:eM v W m)(f:w.heap.size<=m):jt n w W:=by
 have s:=b.since (B:=w.heap.size) f;exact⟨s.os.trans h.os,s.tape.trans h.tape,s.output.trans h.output,aU h.size s.size,fun q a g=>(s.block q a).trans (h.block q a g)⟩
theorem jt.marked'{w:World}(h:jt n w v)(m:eM v W n):jt n w W:=by
 refine h.trans ?_;exact⟨m.os,m.tape,m.output,Nat.le_of_eq m.size.symm,fun q e c=>m.other q (by simpa using c)⟩
theorem jt.dN{w:World}(h:jt n w v)(s:v.S W):jt n w W:=h.trans (jt.of s)
def NumE(w w':World)(c bl wb t:Nat)(L ws:List ByteArray)(e:Ending):Prop:=
 ((∀x r,ws=x::r->(eP x).2.2.2≠0)/\e=jl t)∨
 ∃x r v,ws=x::r/\(eP x).2.2.2=0/\e=.returned v/\jM w' v (eP x).1 (eP x).2.1 (eP x).2.2.1 w.heap.size 67108864/\ql w' c bl wb L t r
theorem adr{n bl m c:Nat}{L t:List ByteArray}{w:World}(h:ql w n bl m L c t):
 Cl 86 #[.p n 0] w fun e O=>jt n w O/\NumE w O n bl m c L t e:=by
 have S:=eI h.wz;have v:=fA w yJ;have rA:=eS.new w (.bool false) (.n) (.n) 70;have zA:Hid ((w.alloc yJ).heap.size=w.heap.size+1):=eI qz;have ac:=h.lt;have ab:=h.lb;have ad:=h.lw;go_enter func86,ntmps86;go_wp2_with fail;generalize w.alloc _=wA at*;refine (xt (h.aA v)).mono ?_;rintro e w1 ⟨B,⟨p,rfl⟩ | ⟨x,r,p,rfl,R⟩⟩
 . unfold jl
   go_wp2;exact⟨rfl,(jt.of v).trans B,Or.inl ⟨fun x r e=>by rw[p] at e;simp at e,rfl⟩⟩
 . have ae:=S.out x (by rw[p];simp)
   have A:=eI p;have P:=(jt.of v).trans B;have Y:=rA.but B om;have z1:=B.size;have J:=@aap x w1 om (aJ _) trivial;obtain⟨a,N⟩:∃a,(eP x).1=a:=⟨_,rfl⟩;obtain⟨X,K⟩:∃g,(eP x).2.1=g:=⟨_,rfl⟩;obtain⟨nD,I⟩:∃g,(eP x).2.2.1=g:=⟨_,rfl⟩;obtain⟨G,H⟩:∃g,(eP x).2.2.2=g:=⟨_,rfl⟩;rw[N,K,I,H] at J;have C:=eI H;have q:Hid ((eP x).1=a/\(eP x).2.1=X/\(eP x).2.2.1=nD):=eI ⟨N,K,I⟩;go_wp2_with fail;refine J.mono ?_;rintro e y ⟨ai,rfl,⟨v1,v2,aj,W,rfl,D,E,b1,b2,V⟩,o⟩;have T:=D;have U:=E;obtain⟨d,k,i,Y1,rfl,-⟩:=D;obtain⟨f,l,j,Y2,rfl,-⟩:=E;have Z:=Y.aA o;have F:=R.aA o;have b:=fA y (.o #[.bool a,.l d k i,.l f l j] 70);have bx:=eS.new y (.bool a) (.l d k i) (.l f l j) 70;have z:=(P.dN o).dN b;have z2:=o.size
   by_cases s:G=0
   . subst s
     have u:=Z.aA b;obtain⟨u0,u1,u2⟩:=u.g;obtain⟨af,ag,ah⟩:=u.k;go_wp2;have rC:=((u.bE (.bool a)).bH (.l d k i)).bF (.l f l j);refine bO (qi rfl _ _ _ _ _ _ rfl rC) rfl ?_;have M:eM (y.alloc (.o #[.bool a,.l d k i,.l f l j] 70)) _ w.heap.size:=(((eM.refl _ _).setCell 0 (.bool a)).setCell 1 (.l d k i)).setCell 2 (.l f l j);have zz:=zA.out;refine⟨z.marked M zR,Or.inr ⟨x,r,_,A.out,C.out,rfl,⟨_,_,aj,W,by rw[q.out.1], ?_, ?_,om,om,V⟩, ?_⟩⟩
     . rw[q.out.2.1];exact (T.aA b).marked M om
     . rw[q.out.2.2];exact (U.aA b).marked M om
     . exact (F.aA b).bR (d:=w.heap.size) ((jt.refl _ _).marked' M) om om om
   . have aa:(G != 0)=true:=by simpa using s
     have Q:=eI s;go_wp2_with fail;refine (xD (F.aA b)).mono ?_;rintro _ _ ⟨rfl,rfl⟩;unfold jl;go_wp2;exact⟨rfl,z,Or.inl ⟨fun x' r' e=>by rw[A.out] at e;simp at e;rw[<-e.1,C.out];exact Q.out,rfl⟩⟩
def mH(w:World)(p:Nat->Prop)(u:Value)(neg:Bool)(N D M:Nat):Prop:=
 ∃v1 v2 g h,u=.agg #[.bool neg,v1,v2]/\gE w v1 g N M/\gE w v2 h D M/\(N≠0->p g/\g<w.heap.size)/\(D≠0->p h/\h<w.heap.size)/\(N≠0->D≠0->g≠h)
theorem gE.lt'{w:World}(h:gE w u n m c)(d:m≠0):n<w.heap.size:=by
 obtain⟨a,q,f,Y,i,j,k,l,b,r,o,p,g⟩:=h;rcases cQ q with e | e
 . subst e;exact absurd g.symm d
 . exact aG _ _ (b 0 e).2
theorem gE.cA{w w':World}{N:Nat}(h:gE w u n N m)(k:N≠0->w'.heap[n]?=w.heap[n]?):gE w' u n N m:=by
 obtain⟨a,g,d,Y,f,i,l,v,p,t,q,c,r⟩:=h;rcases cQ g with e | e
 . subst e;exact⟨a,0,d,Y,f,i,l,v,fun j b=>absurd b om,fun h=>absurd h om,q,c,r⟩
 . have x:N≠0:=by
    have:=rj Y g e (c e);have:=Nat.two_pow_pos (32*(g-1));omega
   have s:=k x;refine⟨a,g,d,Y,f,i,l,v,fun j b=>⟨(p j b).1,(aO (a:=jj n (0+j)) s).trans (p j b).2⟩,fun h o=> ?_,q,c,r⟩;have:=t h o;unfold World.frozen? at this⊢;rw[s];exact this
theorem jM.w{w:World}{v:Value}{d:Bool}{M:Nat}(h:jM w v d n m c M):mH w (fun g=>c<=g) v d n m M:=by
 obtain⟨l,p,g,k,e,b,o,f,i,j⟩:=h;exact⟨l,p,g,k,e,b,o,fun a=>⟨f,b.lt' a⟩,fun a=>⟨i,o.lt' a⟩,fun _ _=>j⟩
theorem mH.imp{w:World}{P p':Nat->Prop}(h:mH w P u f n m c)(o:∀g,g<w.heap.size->P g->p' g):mH w p' u f n m c:=by
 obtain⟨p,q,g,d,e,j,k,b,i,l⟩:=h;exact⟨p,q,g,d,e,j,k,fun a=>⟨o g (b a).2 (b a).1,(b a).2⟩,fun a=>⟨o d (i a).2 (i a).1,(i a).2⟩,l⟩
theorem mH.blocks{w w':World}(h:mH w P u f n m c)(o:w.heap.size<=w'.heap.size)(hb:∀g,g<w.heap.size->P g->w'.heap[g]?=w.heap[g]?):mH w' P u f n m c:=by
 obtain⟨p,q,g,d,e,j,k,b,i,l⟩:=h;exact⟨p,q,g,d,e,j.cA (fun a=>hb g (b a).2 (b a).1),k.cA (fun a=>hb d (i a).2 (i a).1),fun a=>⟨(b a).1,aS (b a).2 o⟩,fun a=>⟨(i a).1,aS (i a).2 o⟩,l⟩
theorem mH.aA{w w':World}(h:mH w P u f n m c)(s:w.S w'):mH w' P u f n m c:=h.blocks s.size (fun g b _=>s.block g b)
def q9(x:ByteArray):fZ:=yk (eP x).1 (eP x).2.1 (eP x).2.2.1
def ry(w:World)(p:Nat->Prop)(u:Value)(x:ByteArray):Prop:=mH w p u (eP x).1 (eP x).2.1 (eP x).2.2.1 67108864
structure ji(w:World)(lo:Nat)(v:Value)(k:Nat)(x:Nat->ByteArray)(p:Nat->Nat->Prop)(xs:List Value):Prop where
 own:w.ownsRow lo 70 3 v k xs
 at_:∀i,i<k->∃u1 u2,xs[i*3]?=some (.bool (eP (x i)).1)/\xs[i*3+1]?=some u1/\xs[i*3+2]?=some u2/\ry w (fun g=>p i g/\v.ownBlock≠some g) (.agg #[.bool (eP (x i)).1,u1,u2]) (x i)
section
variable{w w' w1:World}{lo k:Nat}{v v':Value}{x:Nat->ByteArray}{p:Nat->Nat->Prop}{xs:List Value}
theorem ji.blocks(h:ji w lo v k x p xs)(s:w.heap.size<=w'.heap.size)(o:∀g,v.ownBlock=some g->w'.heap[g]?=w.heap[g]?)(hb:∀i g,i<k->g<w.heap.size->p i g->w'.heap[g]?=w.heap[g]?):ji w' lo v k x p xs:=by
 refine⟨?_,fun i b=> ?_⟩
 . obtain⟨hl,a | ⟨g,c,d,rfl,l,n,r⟩⟩:=h.own
   . exact⟨hl,Or.inl a⟩
   . exact⟨hl,Or.inr ⟨g,c,d,rfl,l,(o g (by simp[Value.ownBlock])).trans n,r⟩⟩
 . obtain⟨t,u,a,e,f,j⟩:=h.at_ i b;exact⟨t,u,a,e,f,mH.blocks j s (fun g m q=>hb i g b m q.1)⟩
theorem ji.aA(h:ji w lo v k x p xs)(s:w.S w'):ji w' lo v k x p xs:=
 h.blocks s.size (fun g a=>s.block g (h.own.lt g a).2) (fun _ g _ a _=>s.block g a)
theorem ji.but(h:ji w lo v k x p xs)(s:jt n w w')(e:n<lo)(b:∀i g,p i g->lo<=g):ji w' lo v k x p xs:=
 h.blocks s.size (fun g a=>s.block g (h.own.lt g a).2 (by have:=(h.own.lt g a).1;simp;omega)) (fun i g _ a d=>s.block g a (by have:=b i g d;simp;omega))
theorem ji.snoc(h:ji w lo v k x p xs)(z:w.S w1)(D:w.heap.size<w1.heap.size)(g:w1.grownBy w' v.ownBlock)(own:w'.ownsRow lo 70 3 v' (k+1) (xs++[.bool (eP (x k)).1,u,U]))
 (o:v'.ownBlock=v.ownBlock∨v'.ownBlock=some w1.heap.size)(R:ry w (fun q=>p k q/\v.ownBlock≠some q) (.agg #[.bool (eP (x k)).1,u,U]) (x k)):ji w' lo v' (k+1) x p (xs++[.bool (eP (x k)).1,u,U]):=by
 have hl:=h.own.1;have d:∀ {i:Nat} {b:Value} {y:ByteArray},ry w (fun q=>p i q/\v.ownBlock≠some q) b y->ry w' (fun q=>p i q/\v'.ownBlock≠some q) b y:=fun {i b y} r=>by
  have s:mH w (fun q=>(p i q/\v.ownBlock≠some q)/\v'.ownBlock≠some q) b _ _ _ _:=mH.imp r (fun j c a=>⟨a,fun e=>by
   rcases o with h | h
   . exact a.2 (h.symm.trans e)
   . rw[e] at h;simp at h;omega⟩)
  have t:=s.blocks (w':=w') (by have:=g.size;omega) (fun j c a=>(g.block j om (fun e=>a.1.2 e.symm)).trans (z.block j c));exact t.imp (fun _ _ a=>⟨a.1.1,a.2⟩)
 refine⟨own,fun i C=> ?_⟩;by_cases e:i=k
 . subst e;refine⟨u,U, ?_, ?_, ?_,d R⟩
   . rw[bK om,hl];simp
   . rw[bK om,hl];simp
   . rw[bK om,hl];simp
 . obtain⟨A,B,f,l,m,n⟩:=h.at_ i om;exact⟨A,B,by rw[bJ om];exact f,by rw[bJ om];exact l,by rw[bJ om];exact m,d n⟩
end
def sliceLen:Value->Nat
 | .slice _ n _=>n
 | _=>0
def wd(ws:List ByteArray)(i:Nat):ByteArray:=ws.getD i ⟨#[]⟩
def js(x:ByteArray):Prop:=(eP x).2.2.2=0
def bw(ws:List ByteArray)(n:Nat):Prop:=n<=ws.length/\∀i,i<n->js (wd ws i)
theorem aiF{c:List ByteArray}{x:ByteArray}{r:List ByteArray}(h:c.drop n=x::r):n<c.length/\wd c n=x/\c.drop (n+1)=r:=by
 have b:n<c.length:=by
  rcases jI n c.length with a | a
  . exact a
  . rw[List.drop_of_length_le a] at h;cases h
 rw[List.drop_eq_getElem_cons b] at h;simp only[List.cons.injEq] at h;refine⟨b, ?_,h.2⟩;unfold wd;rw[fP,aK b];exact h.1
theorem ji.imp{w:World}{x:Nat->ByteArray}{p p':Nat->Nat->Prop}{c:List Value}(h:ji w n u k x p c)(l:∀i g,i<k->p i g->p' i g):ji w n u k x p' c:=
 ⟨h.own,fun i a=>by
   obtain⟨m,o,d,e,f,j⟩:=h.at_ i a;exact⟨m,o,d,e,f,mH.imp j (fun g _ b=>⟨l i g a b.1,b.2⟩)⟩⟩
structure b6(w:World)(lo:Nat)(v:Value)(k:Nat)(x:Nat->ByteArray)(F:Nat->Nat)(xs:List Value):Prop where
 out:ji w lo v k x (fun i q=>F i<=q/\q<F (i+1)) xs
 mono:∀i,F i<=F (i+1)
 lo:lo<=F 0
 hi:F k<=w.heap.size
theorem cH(h:∀n,X n<=X (n+1))(a:n<=m):X n<=X m:=by
 induction m with
 | zero=>have:n=0:=om
         subst this;exact aC _
 | succ m ih=>
   by_cases e:n=m+1
   . subst e;exact aC _
   . exact aU (ih om) (h m)
theorem pr:∃i,Tryz.prog.info? 70=some i/\i.zero=some (.agg #[.bool false,.n,.n])/\i.size=3/\i.bytes=56:=by
 have h:(Tryz.prog.info? 70).map (fun i=>(i.zero,i.size,i.bytes))=some (some (.agg #[.bool false,.n,.n]),3,56):=by kernel_rfl
 obtain⟨i,a,h⟩:=eE.1 h;simp only[Prod.mk.injEq] at h;exact⟨i,a,h.1,h.2.1,h.2.2⟩
theorem bW(w:World)(u U z:Value)(t:TypeId):∀j b,([u,U,z]:List Value)[j]?=some b->(w.alloc (.cells #[u,U,z] t)).cell? (((jj w.heap.size 0):Addr).add j)=some b:=fun j b a=>by
 rw[Go.WideShapes.add_plain,aZ]
 rcases j with _ | _ | _ | j
 . simp at a;subst a;exact (eS.new w u U z t).c0
 . simp at a;subst a;exact (eS.new w u U z t).c1
 . simp at a;subst a;exact (eS.new w u U z t).c2
 . simp at a
theorem bV(f:Bool)(a A:Option Addr)(n m c d:Nat):∀u∈([.bool f,.slice a n m,.slice A c d]:List Value),u.oneCell'=true:=by
 intro u e;simp at e;rcases e with rfl | rfl | rfl<;>rfl
theorem jt.low{w:World}(h:jt n w v)(s:v.Since w.heap.size W):jt n w W:=
 ⟨s.os.trans h.os,s.tape.trans h.tape,s.output.trans h.output,aU h.size s.size,fun q a e=>(s.block q a).trans (h.block q a e)⟩
def aqp(w w':World)(c bl wb t n:Nat)(L ws:List ByteArray)(e:Ending):Prop:=
 (¬bw ws n/\e=jl t)∨
 (bw ws n/\∃v F xs,e=.returned v/\b6 w' w.heap.size v n (wd ws) F xs/\v≠ .slice none 0 0/\ql w' c bl wb L t (ws.drop n))
theorem agF{n m bl c d:Nat}{L t:List ByteArray}{w:World}(h:ql w m bl c L d t)(ad:z=(n:Int)∨(z=-1/\n=t.length))(hn:n<=9223372036854775807):
 Cl 85 #[.p m 0,.i z] w fun e w'=>jt m w w'/\aqp w w' m bl c d n L t e:=by
 obtain⟨i0,b,av,ax,ay⟩:=pr;have a8:=h.wl;have ac:=h.lt;have am:=h.lb;have au:=h.lw;have sA:=fA w (.o #[] 70);have oA:(w.alloc (.o #[] 70)).ownsRow w.heap.size 70 3 (.s w.heap.size 0 0) 0 []:=iP w #[] 0 zR (aJ _) rfl;go_enter func85,ntmps85;go_wp2_with fail;go_loopw [5] (fun a1 wr=>∃(k g H:Nat) (M:List Value) (F:Nat->Nat),a1=.s g k H/\k<=n/\k<=t.length/\jt m w wr/\Hid (b6 wr w.heap.size (.s g k H) k (wd t) F M)/\Hid (∀i,i<k->js (wd t i))/\ql wr m bl c L d (t.drop k)) (fun a1 _=>n-sliceLen a1)
 case atStart=>exact⟨0,w.heap.size,0,[],fun _=>w.heap.size,rfl,aJ _,aJ _,jt.of sA,eI ⟨⟨oA,fun i b=>absurd b om⟩,fun _=>aC _,aC _,qz⟩,eI (fun i b=>absurd b om),by rw[List.drop_zero];exact h.aA sA⟩
 case round=>
  obtain⟨k,g,H,M,F,rfl,a5,a6,B,O,P,R⟩:=hrel;have N:Hid ((∀x af,t.drop k=x::af->(eP x).2.2.2≠0)->k<n->¬bw t n):=eI (fun U an ha=>by
   have V:k<t.length:=(by have:=ha.1;omega);refine U (wd t k) (t.drop (k+1)) ?_ (ha.2 k an);rw[List.drop_eq_getElem_cons V];unfold wd;rw[fP,aK V];rfl)
  by_cases ao:k<n
  . have N:=eI (fun U=>N.out U ao);rcases ad with u | ⟨u,v⟩
    focus
     subst u;have Z:(k:Int)<n:=om
    rotate_left
    focus
     subst u;have Z:¬((k:Int)< -1):=om;obtain⟨vw,I,aw,ow,pw,rfl,-,-⟩:=R.c2;rw[List.length_drop] at I;obtain⟨mw,aq⟩:∃az,t.length-k=az:=⟨_,rfl⟩;rw[aq] at I;have a7:(0:Int)<mw:=om;have ah:=eI v;clear v
    all_goals
     go_wp2_with fail;refine (adr R).mono ?_;rintro e a ⟨C,⟨s,rfl⟩ | ⟨x,af,bc,s,h2,rfl,RV,E⟩⟩
     . have aj:=eI (N.out s);clear s;unfold jl;go_wp2;exact⟨rfl,B.trans C,Or.inl ⟨aj.out,rfl⟩⟩
     . obtain⟨V,Y,hr⟩:=aiF s;have HR:=eI hr;have G:=RV.w;obtain⟨v1,v2,g1,g2,rfl,N1,N2,-,-,-⟩:=RV;obtain⟨A,y,p,Y1,rfl,-⟩:=N1;obtain⟨o,S,r,Y2,rfl,-⟩:=N2;have G:ry a (fun q=>wr.heap.size<=q) (.agg #[.bool (eP (wd t k)).1,.l A y p,.l o S r]) (wd t k):=(by rw[Y];exact G);have HX:=eI Y;have ak:=eI h2;have z1:=C.size;have D:=O.out.out.but C ac (fun i q f=>aU (aU O.out.lo (cH O.out.mono (aJ i))) f.1);have lg:=O.out.out.own.lt g rfl;have a0:=O.out.hi;obtain⟨nb,W⟩:∃al,(eP x).1=al:=⟨_,rfl⟩;have ai:Hid ((eP (wd t k)).1=nb):=eI (by rw[HX.out];exact W);rw[W];clear s h2 Y hr W;go_wp2_with (at_builtin;refine wpList_append_own_at _ rfl _ _ 50 rfl w.heap.size 70 i0 _ 3 56 underlying50 b av ax ay rfl qd _ _ _ rfl (D.own.alloc _) (jj a.heap.size 0) 1 1 [.bool nb,.l A y p,.l o S r] rfl rfl (bW _ _ _ _ _) (bV _ _ _ _ _ _ _) (by unfold maxLen;omega) om (by have:=B.size;simp;omega) ?_);intro v' l X j ar ab;replace j:(a.alloc (.o #[.bool nb,.l A y p,.l o S r] 70)).grownBy l (Value.s g k H).ownBlock:=j;obtain⟨g',aa,rfl,a3,a4⟩:=X.form om;have sW:=fA a (.o #[.bool nb,.l A y p,.l o S r] 70);have zW:(a.alloc (.o #[.bool nb,.l A y p,.l o S r] 70)).heap.size=a.heap.size+1:=(by simp);have z2:=j.size;have hB:=B.size;have K:a.Since w.heap.size l:=(sM sW (show w.heap.size<=a.heap.size by omega)).grown j om (fun q f=>(D.own.lt q f).1);have B2:jt m w l:=(B.trans C).low K;have HF:∀i q,i<k->(F i<=q/\q<F (i+1))->((if i<=k then F i else a.heap.size)<=q/\q<(if i+1<=k then F (i+1) else a.heap.size)):=fun i q b f=>by
        rw[aY om,aY om];exact f
       have O2:=(D.imp HF).snoc sW om j (by rw[ai.out];exact X) (by rw[zW];exact ab) (mH.imp G (fun q f hp=>⟨⟨by rw[aY zR];omega,by rw[aM om];exact f⟩,fun e=>by simp[Value.ownBlock] at e;omega⟩));have OF:Hid (b6 l w.heap.size (.s g' (k+1) aa) (k+1) (wd t) (fun ae=>if ae<=k then F ae else a.heap.size) _):=eI ⟨O2,fun i=>by
        show (if i<=k then F i else a.heap.size)<=(if i+1<=k then F (i+1) else a.heap.size);by_cases e1:i+1<=k
        . rw[aY om,aY e1];exact O.out.mono i
        . rw[aM e1];by_cases T:i<=k
          . rw[aY T];have:=cH O.out.mono T;omega
          . rw[aM T];exact aC _,by show w.heap.size<=(if 0<=k then F 0 else a.heap.size);rw[aY (aJ _)];exact O.out.lo,by show (if k+1<=k then F (k+1) else a.heap.size)<=l.heap.size;rw[aM om];omega⟩
       have lR:=E.lt;have ba:=E.lb;have bb:=E.lw;have R2:ql l m bl c L d (t.drop (k+1)):=by rw[HR.out];exact E.blks om (K.block m ac) (K.block bl am) (K.block c au)
       have ag:Hid (∀i,i<k+1->js (wd t i)):=eI (fun i b=>by
        by_cases e:i=k
        . subst e;unfold js;rw[HX.out];exact ak.out
        . exact P.out i om)
       clear ar ab X j O2 D G;go_wp2;go_roundw
       case rel=>exact⟨k+1,g',aa,_,_,rfl,om,om,B2,OF,ag,R2⟩
       case measure=>simp[sliceLen];omega
  . have e:k=n:=om;subst e;rcases ad with u | ⟨u,v⟩
    . subst u;have Z:¬((k:Int)<k):=om;have a9:((k:Int)== -1)=false:=(by simp);have Q:=O;go_wp2;go_ret;exact⟨B,Or.inr ⟨⟨om,fun i b=>P.out i om⟩,_,F,M,rfl,Q.out,qz,R⟩⟩
    . subst u;have Z:¬((k:Int)< -1):=om;obtain⟨vw,I,aw,ow,pw,rfl,-,-⟩:=R.c2;rw[List.length_drop,show t.length-k=0 by omega] at I;have ah:=eI v;clear v;have Q:=O;go_wp2;go_ret;exact⟨B,Or.inr ⟨⟨om,fun i b=>P.out i om⟩,_,F,M,rfl,Q.out,qz,R⟩⟩
theorem ji.imp'{w:World}{x:Nat->ByteArray}{p p':Nat->Nat->Prop}{c:List Value}(h:ji w n u m x p c)(k:∀i g,i<m->g<w.heap.size->p i g->p' i g):ji w n u m x p' c:=
 ⟨h.own,fun i a=>by
   obtain⟨q,o,d,e,f,j⟩:=h.at_ i a;exact⟨q,o,d,e,f,mH.imp j (fun g l b=>⟨k i g a l b.1,b.2⟩)⟩⟩
def eb:Value->Option Nat
 | .slice (some a) (_+1) _=>some a.block
 | _=>none
theorem bf(h:eb u=some n):u.ownBlock=some n:=by
 unfold eb at h;split at h
 . exact h
 . cases h
def zH(lo hi:Nat)(xs:List Value):Prop:=(∀u∈xs,∀g,eb u=some g->lo<=g/\g<hi)/\xs.Pairwise fun u v=>∀g,eb u=some g->eb v≠some g
theorem zH.nil(n m:Nat):zH n m []:=⟨fun u a=>by simp at a,List.Pairwise.nil⟩
theorem zH.append{i p:List Value}(h:zH n m i)(k:zH c d p)(q:m<=c)(r:n<=c)(o:m<=d):zH n d (i++p):=by
 refine⟨fun u f g e=> ?_,List.pairwise_append.2 ⟨h.2,k.2,fun a l b hb g e j=> ?_⟩⟩
 . rcases iX.1 f with f | f
   . have:=h.1 u f g e;omega
   . have:=k.1 u f g e;omega
 . have:=h.1 a l g e;have:=k.1 b hb g j;omega
theorem zH.perm{a c:List Value}(h:zH n m a)(p:a.Perm c):zH n m c:=
 ⟨fun u b=>h.1 u (p.symm.mem_iff.1 b),h.2.perm p (fun {_ _} hab g e e'=>hab g e' e)⟩
theorem zH.wide{a:List Value}(h:zH n m a)(f:c<=n)(i:m<=d):zH c d a:=
 ⟨fun u b g e=>by have:=h.1 u b g e;omega,h.2⟩
theorem gE.eb{w:World}(h:gE w u n m c)(e:eb u=some d):m≠0/\d=n:=by
 obtain⟨a,g,f,Y,rfl,i,j,k,p,l,r,q,o⟩:=h;rcases g with _ | g
 . cases a<;>simp[Go.Proofs.YtinihjgnnlemmaaGreatDoor.eb] at e
 . obtain⟨b,-⟩:=p 0 om;subst b;have e:n=d:=(by simpa [Go.Proofs.YtinihjgnnlemmaaGreatDoor.eb] using e);refine⟨?_,e.symm⟩;have:=rj Y (g+1) om (q om);have:=Nat.two_pow_pos (32*(g+1-1));omega
theorem mH.apt{w:World}{n m c lo hi:Nat}(h:mH w P (.agg #[.bool f,u,U]) F n m c)(k:∀g,g<w.heap.size->P g->lo<=g/\g<hi):zH lo hi [.bool f,u,U]:=by
 obtain⟨x,y,g,t,e,d,p,i,j,s⟩:=h;simp only[Value.agg.injEq,Array.mk.injEq,List.cons.injEq,fI] at e;obtain⟨-,rfl,rfl⟩:=e;refine⟨fun z l q e=> ?_, ?_⟩
 . simp only[fW,jA,qO] at l;rcases l with rfl | rfl | rfl
   . simp[eb] at e
   . obtain⟨a,rfl⟩:=d.eb e;exact k _ (i a).2 (i a).1
   . obtain⟨a,rfl⟩:=p.eb e;exact k _ (j a).2 (j a).1
 . refine List.Pairwise.cons (fun v _ q e=>by simp[eb] at e) (List.Pairwise.cons (fun v b q e o=> ?_) (List.Pairwise.cons (fun v b=>by simp at b) List.Pairwise.nil));simp at b;subst b;obtain⟨a,rfl⟩:=d.eb e;obtain⟨r,rfl⟩:=p.eb o;exact s a r rfl
theorem ji.mem{w:World}{x:Nat->ByteArray}{p:Nat->Nat->Prop}{q:List Value}(h:ji w n u m x p q)(C:U∈q)(e:eb U=some c):∃i,i<m/\p i c/\u.ownBlock≠some c/\c<w.heap.size:=by
 obtain⟨j,B,s⟩:=List.getElem_of_mem C;have hl:=h.own.1;have l:j/3<m:=om;obtain⟨E,F,t,y,z,A⟩:=h.at_ (j/3) l;have a:q[j]?=some U:=by rw[aK B,s]
 obtain⟨G,H,g,D,v,o,r,d,f,-⟩:=A;simp only[ag3,fM] at v;obtain⟨rfl,rfl⟩:=v;have:j=j/3*3∨j=j/3*3+1∨j=j/3*3+2:=om;rcases this with k | k | k
 . rw[k,t] at a;simp at a;subst a;simp[eb] at e
 . rw[k,y] at a;simp at a;subst a;obtain⟨b,rfl⟩:=o.eb e;exact⟨_,l,(d b).1.1,(d b).1.2,(d b).2⟩
 . rw[k,z] at a;simp at a;subst a;obtain⟨b,rfl⟩:=r.eb e;exact⟨_,l,(f b).1.1,(f b).1.2,(f b).2⟩
theorem agC{d:List Value}{c:Value}(e:d[n*3]?=some u)(f:d[n*3+1]?=some U)(g:d[n*3+2]?=some c):d.take ((n+1)*3)=d.take (n*3)++[u,U,c]:=by
 rw[show (n+1)*3=n*3+1+1+1 by omega,jE,jE,jE,e,f,g];simp
theorem b6.apt{w:World}{lo n:Nat}{x:Nat->ByteArray}{a:List Value}(h:b6 w lo u n x X a):zH lo w.heap.size a:=by
 have hl:=h.out.own.1;have i:∀m,m<=n->zH (X 0) (X m) (a.take (m*3)):=by
  intro m
  induction m with
  | zero=>intro _;simp;exact zH.nil _ _
  | succ m ih=>
    intro j;obtain⟨l,k,b,c,d,e⟩:=h.out.at_ m om;rw[agC b c d];exact (ih om).append (mH.apt (lo:=X m) (hi:=X (m+1)) e (fun g _ f=>f.1)) zR (cH h.mono (aJ _)) (h.mono m)
 have:=i n zR;rw[dV om] at this;exact this.wide h.lo h.hi
structure Chg(R:Nat->Prop)(w w':World):Prop where
 os:w'.os=w.os
 tape:w'.tape=w.tape
 output:w'.output=w.output
 size:w.heap.size<=w'.heap.size
 block:∀q,q<w.heap.size->¬R q->w'.heap[q]?=w.heap[q]?
theorem ji.append{w:World}{I:Value}{x y:Nat->ByteArray}{p M:Nat->Nat->Prop}{b t:List Value}(h:ji w n u m x p b)(r:ji w n I c y M t)(g:w.grownBy v u.ownBlock)(own:v.ownsRow n 70 3 U (m+c) (b++t))
 (D:U.ownBlock=u.ownBlock∨U.ownBlock=some w.heap.size)(a:∀i q,i<c->q<w.heap.size->M i q->p (m+i) q/\u.ownBlock≠some q):ji v n U (m+c) (fun i=>if i<m then x i else y (i-m)) p (b++t):=by
 have hl:=h.own.1;have B:∀ {i:Nat} {k:Value} {z:ByteArray},ry w (fun q=>p i q/\u.ownBlock≠some q) k z->ry v (fun q=>p i q/\U.ownBlock≠some q) k z:=fun {i k z} r=>by
  have G:mH w (fun q=>(p i q/\u.ownBlock≠some q)/\U.ownBlock≠some q) k _ _ _ _:=mH.imp r (fun j A a=>⟨a,fun e=>by
   rcases D with h | h
   . exact a.2 (h.symm.trans e)
   . rw[e] at h;simp at h;omega⟩)
  have H:=G.blocks (w':=v) g.size (fun j A a=>g.block j A (fun e=>a.1.2 e.symm));exact H.imp (fun _ _ a=>⟨a.1.1,a.2⟩)
 refine⟨own,fun i K=> ?_⟩;by_cases e:i<m
 . obtain⟨o,s,d,f,l,L⟩:=h.at_ i e;simp only[aY e];exact⟨o,s,by rw[bJ om];exact d,by rw[bJ om];exact f,by rw[bJ om];exact l,B L⟩
 . obtain⟨o,s,d,f,l,L⟩:=r.at_ (i-m) om;simp only[aM e];have C:i*3-b.length=(i-m)*3:=om;refine⟨o,s, ?_, ?_, ?_,B (mH.imp L (fun q F E=>by
    have:=a (i-m) q om F E.1;rw[show m+(i-m)=i by omega] at this;exact this))⟩
   . rw[bK om,C];exact d
   . rw[bK om,show i*3+1-b.length=(i-m)*3+1 by omega];exact f
   . rw[bK om,show i*3+2-b.length=(i-m)*3+2 by omega];exact l
theorem ji.oneCell{w:World}{x:Nat->ByteArray}{p:Nat->Nat->Prop}{b:List Value}(h:ji w n u m x p b):∀k∈b,k.oneCell'=true:=fun k q=>by
 obtain⟨j,I,e⟩:=List.getElem_of_mem q;have hl:=h.own.1;have o:j/3<m:=om
 obtain⟨E,F,i,l,v,G,H,g,B,c,d,f,-⟩:=h.at_ (j/3) o;simp only[ag3,fM] at c;obtain⟨rfl,rfl⟩:=c;obtain⟨t,C,z,r,rfl,-⟩:=d;obtain⟨y,D,A,s,rfl,-⟩:=f;have a:b[j]?=some k:=by rw[aK I,e]
 have:j=j/3*3∨j=j/3*3+1∨j=j/3*3+2:=om
 rcases this with e | e | e
 . rw[e,i] at a;simp at a;subst a;rfl
 . rw[e,l] at a;simp at a;subst a;rfl
 . rw[e,v] at a;simp at a;subst a;rfl
theorem am8{x y:Nat->ByteArray}{p Z:Nat->Nat->Prop}{L v:List Value}{w:World}(hj:k<=1000000)(hk:c+d<=1000000000000)(B:eS w n (.i (k:Int)) (.i z) u)(O:ji w m u c x p L)(o:ji w m (.s i d j) d y Z v)
 (H:u.ownBlock≠some n)(ak:m<=w.heap.size)(ab:∀a q,p a q->q≠n)(hp:∀a q,a<d->q<w.heap.size->Z a q->p (c+a) q/\u.ownBlock≠some q):
 Cl 84 #[.p n 0,.s i d j] w fun e D=>e=.returned (.tuple #[])/\∃C,eS D n (.i ((k+1:Nat):Int)) (.i z) C/\ji D m C (c+d) (fun a=>if a<c then x a else y (a-c)) p (L++v)/\(C.ownBlock=u.ownBlock∨C.ownBlock=some w.heap.size)/\Chg (fun q=>q=n∨u.ownBlock=some q) w D:=by
 obtain⟨i0,Y,ad,ae,af⟩:=pr;have R:=B.c0;have S:=B.c2;have W:= @World.ownsRow.cells _ _ _ _ _ _ _ o.own;have ac:=o.own.1;have aa:=o.oneCell;have P:=eI (W (g:=i) rfl);go_enter func84,ntmps84;go_wp2_with (at_builtin;refine wpList_append_own_at _ rfl _ _ 50 rfl m 70 i0 _ 3 56 underlying50 Y ad ae af rfl qd _ _ _ rfl O.own (jj i 0) d _ v rfl ac P.out aa (by unfold maxLen;omega) om ak ?_);intro K l I b aj G;have A:=O.append o b I G hp;have V:=B.lt;have X:some n≠u.ownBlock:=fun e=>H e.symm;have t:=b.block n V X;have g:eS l n (.i (k:Int)) (.i z) u:=⟨(aO (a:=jj n 0) t).trans B.c0,(aO (a:=jj n 1) t).trans B.c1,(aO (a:=jj n 2) t).trans B.c2,fun q=>by
  have:=B.f q;unfold World.frozen? at this⊢;rw[t];exact this⟩
 have R:=g.c0;have S:=g.c2;have f0:=g.f 0;have f2:=g.f 2;have F:=g.bF K;have d0:=F.c0;have e0:=F.f 0;have N:=F.bE (.i ((k:Int)+1));obtain⟨Q,nv,cv,U⟩:∃al ag T,K=.l al ag T:=by
  obtain⟨-,⟨e,-⟩ | ⟨g',ah,ai,e,-⟩⟩:=I
  . exact⟨_,_,_,e⟩
  . exact⟨_,_,_,e⟩
 subst U;have z1:=b.size;have h:Hid (Chg (fun q=>q=n∨u.ownBlock=some q) w l):=eI ⟨b.os,b.tape,b.output,b.size,fun q f s=>b.block q f (fun e=>s (Or.inr e.symm))⟩;have M:eM l ((l.setCell (jj n 2) (.l Q nv cv)).setCell (jj n 0) (.i ((k:Int)+1))) n:=((eM.refl _ _).setCell 2 _).setCell 0 _;have A:=eI A;have E:=eI G;go_wp2;go_end0;refine⟨rfl,_,by rw[show ((k+1:Nat):Int)=k+1 by omega];exact N,A.out.blocks (Nat.le_of_eq M.size.symm) (fun q f=>M.other q (fun e=>by
  subst e;rcases E.out with r | r
  . exact H (r.symm.trans f)
  . rw[f] at r;simp at r;omega)) (fun a q _ _ f=>M.other q (ab a q f)),E.out,⟨M.os.trans h.out.os,M.tape.trans h.out.tape,M.output.trans h.out.output,by rw[M.size];exact h.out.size,fun q f s=>(M.other q (fun e=>s (Or.inl e))).trans (h.out.block q f s)⟩⟩
theorem afi:(Tryz.prog.info? 52).map (·.size)=some 4:=by kernel_rfl
theorem ahP{w:World}:
 Cl 87 #[.agg #[.i z,.i y,.slice a n m],.slice A c d] w fun e f=>e=.returned (.agg #[.i z,.i y,.slice a n m,.slice A c d])/\w.S f:=by
 have g:w.S ((w.alloc (.o #[.i z,.i y,.l a n m] 64)).alloc (.o #[.i z,.i y,.l a n m,.l A c d] 52)):=(fA _ _).alloc qz _;have b:=ie.new (w.alloc (.o #[.i z,.i y,.l a n m] 64)) (.i z) (.i y) (.l a n m) (.l A c d) 52;go_enter func87,ntmps87;go_wp2;rw[show (w.alloc (.o #[.i z,.i y,.l a n m] 64)).heap.size=w.heap.size+1 by simp] at b;refine bO (pl rfl underlying52 rfl afi _ _ _ _ _ _ _ rfl b) rfl ?_;exact⟨rfl,g⟩
theorem ie.but{w:World}{z b:Value}(h:ie w m u U z b)(s:jt n w v)(a:m≠n):ie v m u U z b:=by
 have k:=s.block m (aG _ _ h.c0) (by simpa using a);refine⟨(aO (a:=jj m 0) k).trans h.c0,(aO (a:=jj m 1) k).trans h.c1,(aO (a:=jj m 2) k).trans h.c2,(aO (a:=jj m 3) k).trans h.c3,fun j=> ?_⟩;have:=h.f j;unfold World.frozen? at this⊢;rw[k];exact this
theorem vF(a b:List ByteArray)(n:Nat):wd (a++b) n=if n<a.length then wd a n else wd b (n-a.length):=by
 unfold wd;simp only[fP];split
 . rename_i h;rw[bJ h]
 . rename_i h;rw[bK om]
theorem eB{l:List ByteArray}(h:m<n):wd (l.take n) m=wd l m:=by
 unfold wd;simp only[fP,oS h]
theorem ji.congr{w:World}{x b:Nat->ByteArray}{p:Nat->Nat->Prop}{c:List Value}(h:ji w n u m x p c)(d:∀i,i<m->x i=b i):ji w n u m b p c:=
 ⟨h.own,fun i a=>by rw[<-d i a];exact h.at_ i a⟩
theorem ji.lower{w:World}{x:Nat->ByteArray}{p:Nat->Nat->Prop}{b:List Value}(h:ji w n u c x p b)(hl:m<=n):ji w m u c x p b:=by
 refine⟨?_,h.at_⟩;obtain⟨e,i | ⟨g,a,d,f,hb,r⟩⟩:=h.own
 . exact⟨e,Or.inl i⟩
 . exact⟨e,Or.inr ⟨g,a,d,f,aU hl hb,r⟩⟩
def bB:ByteArray:=⟨#[109,97,112]⟩
def mQ(C:Nat)(l:List ByteArray):Prop:=l.length=C+1/\bw l (C+1)
structure mI(rest:List (Nat×List ByteArray))(R C:Nat)(rs rest':List (Nat×List ByteArray)):Prop where
 ex:∃n0 x1 x2,rest=(n0,[bB,x1,x2])::(rs++rest')/\isInt x1/\isInt x2/\dv x1 x1.size=R/\dv x2 x2.size=C
 len:rs.length=R
 rows:∀r∈rs,mQ C r.2
theorem mI.head{l:List ByteArray}{d o k:pR}(h:mI ((n,l)::d) m c o k):∃a b,l=[bB,a,b]/\isInt a/\isInt b/\dv a a.size=m/\dv b b.size=c/\d=o++k:=by
 obtain⟨p,a,b,e,f,g,i,j⟩:=h.ex;simp only[List.cons.injEq,Prod.mk.injEq] at e;exact⟨a,b,e.1.2,f,g,i,j,e.2⟩
theorem mI.row{o s:ByteArray}{l:List ByteArray}{b t p a u:pR}(h:mI ((n,[bB,o,s])::b) c d t p)(e:b=a++(m,l)::u)(hl:a.length<dv o o.size):mQ (dv s s.size) l:=by
 obtain⟨q,r,f,-,-,g,i,j⟩:=h.head;simp only[List.cons.injEq,fI,fM] at f;obtain⟨rfl,rfl⟩:=f;have k:t[a.length]?=some (m,l):=by
  have:b[a.length]?=some (m,l):=by rw[e,bK zR,uD];rfl
  rw[j,bJ (by rw[h.len,<-g];exact hl)] at this;exact this
 rw[i];exact h.rows _ (cO k)
theorem mI.short{a i:ByteArray}{f l g:pR}(h:mI ((n,[bB,a,i])::f) m c l g):dv a a.size<=f.length:=by
 obtain⟨j,k,b,-,-,d,-,e⟩:=h.head;simp only[List.cons.injEq,fI,fM] at b;obtain⟨rfl,rfl⟩:=b;rw[e,aT,h.len,d];omega
def WL(C:Nat)(rs:List (Nat×List ByteArray)):List ByteArray:=rs.flatMap fun r=>r.2.take C
def BL(C:Nat)(rs:List (Nat×List ByteArray)):List ByteArray:=rs.map fun r=>wd r.2 C
theorem cI(n:Nat)(a:pR)(r:Nat×List ByteArray):WL n (a++[r])=WL n a++r.2.take n:=by simp[WL]
theorem eG(n:Nat)(a:pR)(r:Nat×List ByteArray):BL n (a++[r])=BL n a++[wd r.2 n]:=by simp[BL]
theorem eX{f:pR}(h:∀r∈f,mQ n r.2):(WL n f).length=f.length*n:=by
 induction f with
 | nil=>simp[WL]
 | cons r f ih=>
   have a:=ih (fun d c=>h d (by simp[c]));have b:=(h r qz).1;have e:WL n (r::f)=r.2.take n++WL n f:=(by simp[WL]);rw[e,aT,jR,a,b,fS,bI];omega
theorem dA(n:Nat)(a:pR):(BL n a).length=a.length:=by simp[BL]
structure uL(w:World)(lo d:Nat)(vW vB:Value)(C:Nat)(rs:List (Nat×List ByteArray))(xW xB:List Value):Prop where
 W:ji w lo vW (WL C rs).length (wd (WL C rs)) (fun _ q=>lo<=q/\q≠d/\vB.ownBlock≠some q) xW
 B:ji w lo vB (BL C rs).length (wd (BL C rs)) (fun _ q=>lo<=q/\q≠d/\vW.ownBlock≠some q) xB
 sep:∀g,vW.ownBlock=some g->vB.ownBlock≠some g
 dW:vW.ownBlock≠some d
 dB:vB.ownBlock≠some d
theorem uL.but{w:World}{e:pR}{g f:List Value}(h:uL w n m u U d e g f)(s:jt c w v)(b:c<n):uL v n m u U d e g f:=
 ⟨h.W.but s b (fun _ _ a=>a.1),h.B.but s b (fun _ _ a=>a.1),h.sep,h.dW,h.dB⟩
section
variable{w w':World}{R:Nat->Prop}
theorem Chg.cR{r:Option Nat}(g:w.grownBy w' r):Chg (fun q=>r=some q) w w':=⟨g.os,g.tape,g.output,g.size,fun q b a=>g.block q b (fun e=>a e.symm)⟩
theorem ql.dL{n bl m c:Nat}{L a:List ByteArray}(h:ql w n bl m L c a)(k:Chg R w w')(b:¬R n)(d:¬R bl)(e:¬R m):ql w' n bl m L c a:=h.blks k.size (k.block n h.lt b) (k.block bl h.lb d) (k.block m h.lw e)
theorem eS.dL{z:Value}(h:eS w n u U z)(k:Chg R w w')(b:¬R n):eS w' n u U z:=by
 have a:=k.block n h.lt b;refine⟨(aO (a:=jj n 0) a).trans h.c0,(aO (a:=jj n 1) a).trans h.c1,(aO (a:=jj n 2) a).trans h.c2,fun j=> ?_⟩;have:=h.f j;unfold World.frozen? at this⊢;rw[a];exact this
theorem ie.dL{z c:Value}(h:ie w n u U z c)(k:Chg R w w')(b:¬R n):ie w' n u U z c:=by
 have a:=k.block n (aG _ _ h.c0) b;refine⟨(aO (a:=jj n 0) a).trans h.c0,(aO (a:=jj n 1) a).trans h.c1,(aO (a:=jj n 2) a).trans h.c2,(aO (a:=jj n 3) a).trans h.c3,fun j=> ?_⟩;have:=h.f j;unfold World.frozen? at this⊢;rw[a];exact this
theorem ji.dL{x:Nat->ByteArray}{p:Nat->Nat->Prop}{c:List Value}(h:ji w n u m x p c)(b:Chg R w w')(d:∀g,u.ownBlock=some g->¬R g)(e:∀i g,p i g->¬R g):ji w' n u m x p c:=
 h.blocks b.size (fun g a=>b.block g (h.own.lt g a).2 (d g a)) (fun i g _ a f=>b.block g a (e i g f))
theorem jt.dL(h:jt n v w)(k:Chg R w w')(b:∀q,R q->v.heap.size<=q):jt n v w':=
 ⟨k.os.trans h.os,k.tape.trans h.tape,k.output.trans h.output,aU h.size k.size,fun q a d=>(k.block q (aS a h.size) (fun e=>by have:=b q e;omega)).trans (h.block q a d)⟩
end
def MapE(w w':World)(c bl t:Nat)(L:List ByteArray)(e:Ending):Prop:=
 ((∀R C rs rest',¬mI (ip t (L.drop t)) R C rs rest')/\∃n,e=jl n)∨
 ∃(R C:Nat) (rs rest':List (Nat×List ByteArray)) (vW vB:Value) (xW xB:List Value) (d wb n:Nat),mI (ip t (L.drop t)) R C rs rest'/\e=.returned (.agg #[.int .i64 (R:Int),.int .i64 (C:Int),vW,vB])/\uL w' w.heap.size d vW vB C rs xW xB/\ql w' c bl wb L n []/\w.heap.size<=wb/\ip n (L.drop n)=rest'/\zH w.heap.size w'.heap.size (xW++xB)
theorem af7(n:Nat)(L:List ByteArray):(ip n L).length<=L.length:=by
 induction L generalizing n with
 | nil=>simp[ip]
 | cons x xs ih=>
   have:=ih (n+1);rw[ip];split
   . simp;omega
   . simp;omega
theorem mQ.first{l:List ByteArray}(h:mQ n l):bw l n:=⟨by have:=h.1;omega,fun i a=>h.2.2 i om⟩
theorem ajb{n bl m c:Nat}{L ws:List ByteArray}{w:World}(aq:ql w n bl m L c ws):
 Cl 54 #[.p n 0] w fun e w'=>jt n w w'/\MapE w w' n bl c L e:=by
 obtain⟨i0,K,dh,di,dj⟩:=pr;have dy:=aq.lt;have dx:=aq.lb;have d2:=aq.ll;have sA:=fA w (.o #[.i 0,.i 0,.n,.n] 52);have rA:=ie.new w (.i 0) (.i 0) (.n) (.n) 52;have ZA:=eI (show (w.alloc (.o #[.i 0,.i 0,.n,.n] 52)).heap.size=w.heap.size+1 by simp);go_enter func54,ntmps54;go_wp2_with fail;generalize w.alloc _=wA at*;refine (@xI n bl m c L ws wA (aq.aA sA)).mono ?_;rintro e w1 ⟨B1,⟨H,rfl⟩ | ⟨n0,dl,bf,ce,H,rfl,R1,d4,e2,d0⟩⟩
 . have u:Hid (∀R C a h,¬mI (ip c (L.drop c)) R C a h):=eI (fun R C a h t=>by
    obtain⟨_,_,_,e,_⟩:=t.ex;rw[H] at e;cases e)
   clear H;unfold jl;go_wp2;exact⟨rfl,(jt.of sA).trans B1,Or.inl ⟨u.out,_,rfl⟩⟩
 have X:=eI H;have E2:=eI e2;have C1:jt n w w1:=(jt.of sA).trans B1;have ed:w.heap.size≠n:=om;have r1:=rA.but B1 ed;have z1:=B1.size;clear H e2;go_wp2_with fail;refine (@adq bB n bl ce n0 L dl w1 R1).mono ?_;rintro e w2 ⟨U,⟨P,rfl⟩ | ⟨l1,P,rfl,R2⟩⟩
 . have u:Hid (∀R C a h,¬mI (ip c (L.drop c)) R C a h):=eI (fun R C a h t=>by
    rw[X.out] at t;obtain⟨x1,x2,e,_⟩:=t.head;exact P _ e)
   clear P;unfold jl;go_wp2;exact⟨rfl,C1.trans U,Or.inl ⟨u.out,_,rfl⟩⟩
 subst P;go_wp2_with fail;refine (zT R2).mono ?_;rintro e w3 ⟨B3,⟨h3,rfl⟩ | ⟨x1,l2,h3,i1,rfl,R3⟩⟩
 . have u:Hid (∀R C a h,¬mI (ip c (L.drop c)) R C a h):=eI (fun R C a h t=>by
    rw[X.out] at t;obtain⟨x1,x2,e,j1,_⟩:=t.head;simp only[List.cons.injEq,fM] at e;exact h3 _ _ e j1)
   clear h3;unfold jl;go_wp2;exact⟨rfl,(C1.trans U).trans B3,Or.inl ⟨u.out,_,rfl⟩⟩
 subst h3;go_wp2_with fail;refine (zT R3).mono ?_;rintro e w4 ⟨B4,⟨h4,rfl⟩ | ⟨x2,l3,h4,i2,rfl,R4⟩⟩
 . have u:Hid (∀R C a h,¬mI (ip c (L.drop c)) R C a h):=eI (fun R C a h t=>by
    rw[X.out] at t;obtain⟨y1,y2,e,_,j2,_⟩:=t.head;simp only[List.cons.injEq,fM] at e;exact h4 _ _ e.2 j2)
   clear h4;unfold jl;go_wp2;exact⟨rfl,((C1.trans U).trans B3).trans B4,Or.inl ⟨u.out,_,rfl⟩⟩
 subst h4;go_wp2_with fail;refine (dO R4).mono ?_;rintro e p ⟨rfl,⟨h5,rfl⟩ | ⟨h5,rfl⟩⟩;rotate_left
 . have u:Hid (∀R C a h,¬mI (ip c (L.drop c)) R C a h):=eI (fun R C a h t=>by
    rw[X.out] at t;obtain⟨y1,y2,e,_⟩:=t.head;simp only[List.cons.injEq,fM] at e;exact h5 e.2.2)
   clear h5;unfold jl;go_wp2;exact⟨rfl,((C1.trans U).trans B3).trans B4,Or.inl ⟨u.out,_,rfl⟩⟩
 subst h5;have hR:=mF i1;have hC:=mF i2;obtain⟨R,eR⟩:∃R,dv x1 x1.size=R:=⟨_,rfl⟩;obtain⟨C,eC⟩:∃C,dv x2 x2.size=C:=⟨_,rfl⟩;rw[eR] at hR⊢;rw[eC] at hC⊢;have ER:=eI eR;have EC:=eI eC;have I1:=eI i1;have I2:=eI i2;clear eR eC i1 i2;have C5:jt n w p:=((C1.trans U).trans B3).trans B4;have r5:=(((r1.but U ed).but B3 ed).but B4 ed);have z2:=U.size;have z3:=B3.size;have z4:=B4.size;have sB:p.S ((p.alloc (.o #[] 70)).alloc (.o #[.i 0,.i (C:Int),.n] 64)):=(fA _ _).alloc qz _;have bx:=eS.new (p.alloc (.o #[] 70)) (.i 0) (.i (C:Int)) (.n) 64;rw[show (p.alloc (.o #[] 70)).heap.size=p.heap.size+1 by simp] at bx;have oB:((p.alloc (.o #[] 70)).alloc (.o #[.i 0,.i (C:Int),.n] 64)).ownsRow p.heap.size 70 3 (.s p.heap.size 0 0) 0 []:=(iP p #[] 0 zR (aJ _) rfl).alloc _;have ZB:=eI (show ((p.alloc (.o #[] 70)).alloc (.o #[.i 0,.i (C:Int),.n] 64)).heap.size=p.heap.size+1+1 by simp);go_wp2_with fail;have CB:=C5.dN sB;have RB:=R4.aA sB;have rB:=r5.aA sB;have d3:w.heap.size+1<=p.heap.size:=by have:=ZA.out;omega
 have A0:uL ((p.alloc (.o #[] 70)).alloc (.o #[.i 0,.i (C:Int),.n] 64)) p.heap.size (p.heap.size+1) (.n) (.s p.heap.size 0 0) C [] [] []:=
  ⟨⟨World.ownsRow_nil _ _ _ _,fun i K=>absurd K (by simp[WL])⟩,⟨oB,fun i K=>absurd K (by simp[BL])⟩,fun g e=>by simp[Value.ownBlock] at e,by simp[Value.ownBlock],by simp[Value.ownBlock]⟩
 generalize (p.alloc _).alloc _=wB at*;generalize p.heap.size=b at*;clear sB oB;go_loopw [6,21] (fun dp i wr=>∃(j nj ay o s:Nat) (r:Option Addr) (x:Option Addr) (D z:Nat) (a:pR) (v G:List Value),j<=R/\i=.i (j:Int)/\dp=.l r o s/\jt n w wr/\b+1<wr.heap.size/\Hid (ie wr w.heap.size (.i 0) (.i 0) (.n) (.n))/\Hid (eS wr (b+1) (.i (j:Int)) (.i (C:Int)) (.l x D z))/\Hid (uL wr b (b+1) (.l x D z) (.l r o s) C a v G)/\Hid (ql wr n bl ay L nj [])/\Hid (bf=a++ip nj (L.drop nj))/\Hid (a.length=j)/\Hid (∀ae∈a,mQ C ae.2)/\w.heap.size<ay/\Hid (zH b wr.heap.size (v++G))) (fun _ i _=>R-(intOf i).toNat)
 case atStart=>exact⟨0,n0,ce,0,0,jp b 0,none,0,0,[],[],[],aJ _,rfl,rfl,CB,by have:=ZB.out;omega,eI rB,eI bx,eI A0,eI RB,eI E2.out.symm,eI rfl,eI (fun ae S=>by simp at S),by have:=ZA.out;omega,eI (zH.nil _ _)⟩
 case round=>
  obtain⟨j,nj,ay,o,s,r,x,D,z,a,v,G,hj,rfl,rfl,CR,d6,BR,BX,A,RD,EL,Y,a3,du,bo⟩:=hrel;by_cases de:j<R
  . have dk:(j:Int)<R:=om;have a8:b+1≠n:=om;have ac:n<b:=om;go_wp2_with fail;refine (xI RD.out).mono ?_;rintro e w6 ⟨V,⟨e6,rfl⟩ | ⟨Z,k,dn,bh,e6,rfl,R6,d5,b4,d1⟩⟩
    . have u:Hid (∀R C a h,¬mI (ip c (L.drop c)) R C a h):=eI (fun R' C' ax h t=>by
       rw[X.out] at t;have:=t.short;rw[ER.out,EL.out,e6,iJ,Y.out] at this;omega)
      clear e6;unfold jl;go_wp2;exact⟨rfl,CR.trans V,Or.inl ⟨u.out,_,rfl⟩⟩
    have a0:Hid (bf=a++(Z,k)::dn):=eI (by rw[EL.out,e6]);have aj:Hid (∀R C a h,mI (ip c (L.drop c)) R C a h->mQ (dv x2 x2.size) k):=eI (fun R' C' ax h t=>by
     rw[X.out] at t;exact t.row a0.out (by rw[Y.out,ER.out];exact de))
    rw[EC.out] at aj;have cj:=eI b4;clear e6 b4;have z6:=V.size;have c7:C<=9223372036854775807:=om;go_wp2_with fail;refine (agF R6 (Or.inl rfl) c7).mono ?_;rintro e w7 ⟨B7,⟨h7,rfl⟩ | ⟨h7,v7,F7,x7,rfl,O7,dg,R7⟩⟩
    . have u:Hid (∀R C a h,¬mI (ip c (L.drop c)) R C a h):=eI (fun R' C' ax h t=>h7 (aj.out _ _ _ _ t).first);clear h7;unfold jl;go_wp2;exact⟨rfl,(CR.trans V).trans B7,Or.inl ⟨u.out,_,rfl⟩⟩
    have H7:=eI h7;have b6:C<=k.length:=h7.1;have c8:C<=100001:=aU b6 R6.wl;clear h7;obtain⟨gr,cr,rfl⟩:∃gr cr,v7=.s gr C cr:=by
     obtain⟨-,⟨e,-⟩ | ⟨g',ao,a6,e,-⟩⟩:=O7.out.own
     . exact absurd e dg
     . exact⟨g',ao,e⟩
    have z7:=B7.size;have ch:=eI O7.apt;have O:=(A.out.but V ac).but B7 ac;have bj:=(BX.out.but V a8).but B7 a8;have aw:∀g,(Value.slice x D z).ownBlock=some g->b<=g/\g<wr.heap.size:=fun g e=>A.out.W.own.lt g e;have ad:∀g,(Value.slice r o s).ownBlock=some g->b<=g/\g<wr.heap.size:=fun g e=>A.out.B.own.lt g e;have c9:∀i,w6.heap.size<=F7 i:=fun i=>aU O7.lo (cH O7.mono (aJ i));have dc:j<=100001:=(by have e9:=congrArg List.length EL.out;rw[<-E2.out,aT,Y.out] at e9;have:=af7 n0 (L.drop n0);rw[List.length_drop] at this;omega);have db:(WL C a).length=j*C:=(by rw[eX a3.out,Y.out]);have dd:(WL C a).length+C<=1000000000000:=by rw[db];have:=dF dc c8;omega
    have J8:=am8 om dd bj O.W (O7.out.lower om) O.dW om (fun i q d=>d.2.1) (fun i q _ _ d=>by
     have:=c9 i;exact⟨⟨om,om,fun e=>by have:=ad q e;omega⟩,fun e=>by have:=aw q e;omega⟩)
    go_wp2_with fail;refine mo J8 fun w8⟨dq,bm,al,ar,ab⟩=> ?_;clear J8;obtain⟨y,E,B,c6⟩:∃a5 bc cc,dq=.l a5 bc cc:=by
     obtain⟨-,⟨e,-⟩ | ⟨g',ao,a6,e,-⟩⟩:=al.own
     . exact⟨_,_,_,e⟩
     . exact⟨_,_,_,e⟩
    subst c6;have bw:ji w8 b (.l y E B) (WL C (a++[(Z,k)])).length (wd (WL C (a++[(Z,k)]))) (fun _ q=>b<=q/\q≠b+1/\(Value.slice r o s).ownBlock≠some q) (v++x7):=by
     have H:(WL C (a++[(Z,k)])).length=(WL C a).length+C:=(by rw[cI,aT,jR,uA b6]);rw[H];refine al.congr (fun i K=> ?_);rw[cI,vF];show (if i<(WL C a).length then wd (WL C a) i else wd k (i-(WL C a).length))=_;split
     . rfl
     . exact (eB om).symm
    have z8:=ab.size;have N:∀q,q<b->¬(q=b+1∨(Value.slice x D z).ownBlock=some q):=fun q d e=>by
     rcases e with e | e
     . omega
     . have:=aw q e;omega
    have ah:∀q,wr.heap.size<=q->¬(q=b+1∨(Value.slice x D z).ownBlock=some q):=fun q d e=>by
     rcases e with e | e
     . omega
     . have:=aw q e;omega
    have ca:∀g,(Value.slice y E B).ownBlock=some g->b<=g/\g<w8.heap.size:=fun g e=>al.own.lt g e;have cb:∀g,(Value.slice y E B).ownBlock=some g->(Value.slice r o s).ownBlock≠some g:=fun g e l=>by
     rcases ar with f | f
     . exact O.sep g (f.symm.trans e) l
     . rw[e] at f;simp at f;have:=ad g l;omega
    have b3:(Value.slice y E B).ownBlock≠some (b+1):=fun e=>by
     rcases ar with f | f
     . exact O.dW (f.symm.trans e)
     . rw[e] at f;simp at f;omega
    have bs:ji w8 b (.l r o s) (BL C a).length (wd (BL C a)) (fun _ q=>b<=q/\q≠b+1/\(Value.slice y E B).ownBlock≠some q) G:=by
     have h1:=O.B.imp' (p':=fun _ q=>(b<=q/\q≠b+1/\(Value.slice x D z).ownBlock≠some q)/\(Value.slice y E B).ownBlock≠some q) (fun i q _ d Q=>⟨Q,fun e=>by
      rcases ar with f | f
      . exact Q.2.2 (f.symm.trans e)
      . rw[e] at f;simp at f;omega⟩)
     have P:=h1.dL ab (fun g e l=>by
      rcases l with l | l
      . subst l;exact O.dB e
      . exact O.sep g l e) (fun i q d l=>by
      rcases l with l | l
      . exact d.1.2.1 l
      . exact d.1.2.2 l)
     exact P.imp' (fun i q _ _ d=>⟨d.1.1,d.1.2.1,d.2⟩)
    have R8:=R7.dL ab (N n ac) (N bl om) (ah bh om);have bi:=(((BR.out.but V ed).but B7 ed).dL ab (N _ om));have C8:jt n w w8:=((CR.trans V).trans B7).dL ab (fun q e=>by
     rcases e with e | e
     . omega
     . have:=aw q e;omega)
    have cp:=eI bm;have cy:=eI bw;have cx:=eI bs;have bq:=eI cb;have cq:=eI b3;have cz:=eI R8;have cn:=eI bi;clear al bw bs ab O bj bm ar N ah cb b3 R8 bi O7;go_wp2_with fail;refine (adr cz.out).mono ?_;rintro e F ⟨W,⟨f,rfl⟩ | ⟨cf,r9,v9,f,k9,rfl,RV,R9⟩⟩
    . have u:Hid (∀R C a h,¬mI (ip c (L.drop c)) R C a h):=eI (fun R' C' ax h t=>by
       have au:=aj.out _ _ _ _ t;have hk:C<k.length:=(by rw[au.1];omega);refine f (wd k C) (k.drop (C+1)) ?_ (au.2.2 C om);rw[List.drop_eq_getElem_cons hk];unfold wd;rw[fP,aK hk];rfl)
      clear f;unfold jl;go_wp2;exact⟨rfl,C8.trans W,Or.inl ⟨u.out,_,rfl⟩⟩
    obtain⟨dz,bb,b9⟩:=aiF f;have W9:=RV.w;obtain⟨v1,v2,g1,g2,rfl,N1,N2,-,-,-⟩:=RV;obtain⟨a1,q1,c1,Y1,rfl,-⟩:=N1;obtain⟨a2,q2,c2,Y2,rfl,-⟩:=N2;have a7:wd (BL C (a++[(Z,k)])) (BL C a).length=cf:=by rw[eG,vF,aM om,uD];exact bb
    have W9:ry F (fun q=>w8.heap.size<=q) (.agg #[.bool (eP (wd (BL C (a++[(Z,k)])) (BL C a).length)).1,.l a1 q1 c1,.l a2 q2 c2]) (wd (BL C (a++[(Z,k)])) (BL C a).length):=(by rw[a7];exact W9);obtain⟨nb,a9⟩:∃c4,(eP cf).1=c4:=⟨_,rfl⟩;have cw:Hid ((eP (wd (BL C (a++[(Z,k)])) (BL C a).length)).1=nb):=eI (by rw[a7];exact a9);rw[a9];have bp:=eI b9;have HY:=eI bb;have ct:=eI k9;have z9:=W.size;have ci:=eI (mH.apt (lo:=w8.heap.size) (hi:=F.heap.size) W9 (fun g hg Q=>⟨Q,hg⟩));have b5:(BL C a).length=j:=(by rw[dA,Y.out]);have ak:ji F b (.l r o s) (BL C a).length (wd (BL C (a++[(Z,k)]))) (fun _ q=>b<=q/\q≠b+1/\(Value.slice y E B).ownBlock≠some q) G:=((cx.out.but W ac (fun _ _ d=>d.1))).congr (fun i K=>by rw[eG,vF,aY K]);have b8:o=(BL C a).length:=by
     obtain⟨hl,⟨e,e2⟩ | ⟨g',ao,a6,e,-⟩⟩:=ak.own
     . simp only[Value.slice.injEq] at e;omega
     . simp only[Value.slice.injEq] at e;exact e.2.1
    have dt:=eI b8;have ds:=eI b5;have dw:(BL C a).length<=100001:=om;clear f k9 bb b9 a9 a7 b8 b5;go_wp2_with (at_builtin;refine wpList_append_own_at _ rfl _ _ 50 rfl b 70 i0 _ 3 56 underlying50 K dh di dj rfl qd _ (BL C a).length _ rfl (ak.own.alloc _) (jj F.heap.size 0) 1 1 [.bool nb,.l a1 q1 c1,.l a2 q2 c2] rfl rfl (bW _ _ _ _ _) (bV _ _ _ _ _ _ _) (by unfold maxLen;omega) om (by simp;omega) ?_);intro v' ai ba I df b7;replace I:(F.alloc (.o #[.bool nb,.l a1 q1 c1,.l a2 q2 c2] 70)).grownBy ai (Value.slice r o s).ownBlock:=I;have sW:=fA F (.o #[.bool nb,.l a1 q1 c1,.l a2 q2 c2] 70);have zW:(F.alloc (.o #[.bool nb,.l a1 q1 c1,.l a2 q2 c2] 70)).heap.size=F.heap.size+1:=(by simp);have ec:=I.size;have ag:v'.ownBlock=(Value.slice r o s).ownBlock∨v'.ownBlock=some (F.heap.size+1):=b7;have br:=ak.snoc sW om I (by rw[cw.out];exact ba) (by rw[zW];exact ag) (mH.imp W9 (fun q d Q=>⟨⟨om,om,fun e=>by have:=ca q e;omega⟩,fun e=>by have:=ad q e;omega⟩));obtain⟨am,av,an,c5⟩:∃a5 bc cc,v'=.l a5 bc cc:=by
     obtain⟨-,⟨e,-⟩ | ⟨g',ao,a6,e,-⟩⟩:=ba
     . exact⟨_,_,_,e⟩
     . exact⟨_,_,_,e⟩
    subst c5;have aa:Chg (fun q=>(Value.slice r o s).ownBlock=some q) F ai:=⟨I.os.trans sW.os,I.tape.trans sW.tape,I.output.trans sW.output,om,fun q d hn=>(I.block q om (fun e=>hn e.symm)).trans (sW.block q d)⟩;have N:∀q,q<b->¬((Value.slice r o s).ownBlock=some q):=fun q d e=>by have:=ad q e;omega
    have ah:∀q,wr.heap.size<=q->¬((Value.slice r o s).ownBlock=some q):=fun q d e=>by have:=ad q e;omega
    have bz:(Value.slice r o s).ownBlock≠some (b+1):=A.out.dB;have bu:ji ai b (.l y E B) (WL C (a++[(Z,k)])).length (wd (WL C (a++[(Z,k)]))) (fun _ q=>b<=q/\q≠b+1/\(Value.slice am av an).ownBlock≠some q) (v++x7):=by
     have h1:=(cy.out.but W ac (fun _ _ d=>d.1)).imp' (p':=fun _ q=>(b<=q/\q≠b+1/\(Value.slice r o s).ownBlock≠some q)/\(Value.slice am av an).ownBlock≠some q) (fun i q _ d Q=>⟨Q,fun e=>by
      rcases ag with f | f
      . exact Q.2.2 (f.symm.trans e)
      . rw[e] at f;simp at f;omega⟩)
     have P:=h1.dL aa (fun g e l=>bq.out g e l) (fun i q d l=>d.1.2.2 l);exact P.imp' (fun i q _ _ d=>⟨d.1.1,d.1.2.1,d.2⟩)
    have cg:Hid (uL ai b (b+1) (.l y E B) (.l am av an) C (a++[(Z,k)]) (v++x7) _):=eI ⟨bu,by rw[show (BL C (a++[(Z,k)])).length=(BL C a).length+1 by simp[BL]];exact br,fun g e l=>by
     rcases ag with f | f
     . exact bq.out g e (f.symm.trans l)
     . rw[l] at f;simp at f;have:=ca g e;omega,cq.out,fun e=>by
     rcases ag with f | f
     . exact bz (f.symm.trans e)
     . rw[e] at f;simp at f;omega⟩
    have a4:=R9.dL aa (N n ac) (N bl om) (ah bh om);have co:=eI ((cp.out.but W a8).dL aa bz);have cm:=eI ((cn.out.but W ed).dL aa (N _ om));have bn:jt n w ai:=(C8.trans W).dL aa (fun q e=>by have:=ad q e;omega);clear df b7 ag ba I bu br ak aa N ah W9;go_wp2_with fail;refine (dO a4).mono ?_;rintro e cd ⟨rfl,⟨af,rfl⟩ | ⟨af,rfl⟩⟩;rotate_left
    . have u:Hid (∀R C a h,¬mI (ip c (L.drop c)) R C a h):=eI (fun R' C' ax h t=>by
       have au:=aj.out _ _ _ _ t;refine af ?_;rw[<-bp.out];exact List.drop_of_length_le (by rw[au.1];exact aC _))
      clear af;unfold jl;go_wp2;exact⟨rfl,bn,Or.inl ⟨u.out,_,rfl⟩⟩
    have c0:Hid (mQ C k):=eI ⟨by
     have H:(k.drop (C+1)).length=0:=(by rw[bp.out,af];rfl);rw[List.length_drop] at H;omega,om,fun i K=>by
     by_cases e:i=C
     . subst e;unfold js;rw[HY.out];exact ct.out
     . exact H7.out.2 i om⟩
    subst af
    have cl:Hid (zH b cd.heap.size ((v++x7)++(G++[.bool (eP (wd (BL C (a++[(Z,k)])) (BL C a).length)).1,.l a1 q1 c1,.l a2 q2 c2]))):=eI (by
     have h1:=(bo.out.append ch.out om om om).append ci.out om om om;refine (h1.wide zR om).perm ?_;rw[dZ v G x7,<-dZ (v++x7) G];refine List.Perm.append_right _ ?_;rw[dZ];exact List.Perm.append_left _ List.perm_append_comm)
    have cu:Hid ((a++[(Z,k)]).length=j+1):=eI (by simp;exact Y.out);have c3:Hid (∀ae∈a++[(Z,k)],mQ C ae.2):=eI (fun ae S=>by
     rcases iX.1 S with S | S
     . exact a3.out ae S
     . simp at S;subst S;exact c0.out)
    have ck:Hid (bf=(a++[(Z,k)])++ip Z (L.drop Z)):=eI (by rw[a0.out,cj.out];simp);have da:=eI a4;have dr:b+1<cd.heap.size:=om;clear a4 EL a0;go_wp2;go_roundw
    case rel=>exact⟨j+1,Z,bh,av,an,am,y,E,B,a++[(Z,k)],v++x7,_,om,by go_num,rfl,bn,dr,cm,co,cg,da,ck,cu,c3,om,cl⟩
    case measure=>exact yI
  . have e:j=R:=om;subst e;have dk:¬((j:Int)<j):=om;obtain⟨b0,b1,b2⟩:=BX.out.g;go_wp2_with fail;refine mo (ahP) fun w6 s6=> ?_;clear b0 b1 b2;have az:=BR.out.aA s6;obtain⟨u0,u1,u2,u3⟩:=az.g;obtain⟨d7,d8,d9,ea⟩:=az.k;go_wp2;have rC:=(((az.bE (.i (j:Int))).bH (.i (C:Int))).bF (.l x D z)).bX (.l r o s);refine bO (pl rfl underlying52 rfl afi _ _ _ _ _ _ _ rfl rC) rfl ?_;have M:eM w6 _ w.heap.size:=((((eM.refl w6 _).setCell 0 (.i (j:Int))).setCell 1 (.i (C:Int))).setCell 2 (.l x D z)).setCell 3 (.l r o s);have CH:Chg (fun q=>q=w.heap.size) w6 _:=⟨M.os,M.tape,M.output,Nat.le_of_eq M.size.symm,fun q _ hn=>M.other q hn⟩;have T:uL w6 b (b+1) (.l x D z) (.l r o s) C a v G:=⟨A.out.W.aA s6,A.out.B.aA s6,A.out.sep,A.out.dW,A.out.dB⟩;refine⟨(CR.dN s6).marked M zR,Or.inr ⟨j,C,a,ip nj (L.drop nj),_,_,v,G,b+1,ay,nj,⟨⟨n0,x1,x2,by rw[X.out,EL.out],I1.out,I2.out,ER.out,EC.out⟩,Y.out,a3.out⟩,rfl,⟨?_, ?_,T.sep,T.dW,T.dB⟩, ?_,om,rfl,bo.out.wide om (by have:=s6.size;rw[M.size];exact this)⟩⟩
    . exact ((T.W.dL CH (fun g e l=>by have:=(T.W.own.lt g e).1;omega) (fun i q d l=>by have:=d.1;omega)).lower om).imp' (fun i q _ _ d=>⟨by have:=d.1;omega,d.2⟩)
    . exact ((T.B.dL CH (fun g e l=>by have:=(T.B.own.lt g e).1;omega) (fun i q d l=>by have:=d.1;omega)).lower om).imp' (fun i q _ _ d=>⟨by have:=d.1;omega,d.2⟩)
    . exact (RD.out.aA s6).dL CH om om om
structure zI(w:World)(p:Nat->Prop)(vW vB:Value)(C:Nat)(rs:List (Nat×List ByteArray))(xW xB:List Value):Prop where
 W:ji w 0 vW (WL C rs).length (wd (WL C rs)) (fun _ q=>p q) xW
 B:ji w 0 vB (BL C rs).length (wd (BL C rs)) (fun _ q=>p q) xB
 pW:∀g,vW.ownBlock=some g->p g
 pB:∀g,vB.ownBlock=some g->p g
section
variable{w w':World}{p p':Nat->Prop}{vW vB:Value}{C:Nat}{rs:pR}{xW xB:List Value}
theorem uL.x(h:uL w n m vW vB C rs xW xB):zI w (fun q=>n<=q) vW vB C rs xW xB:=
 ⟨(h.W.lower (aJ _)).imp' (fun _ _ _ _ a=>a.1),(h.B.lower (aJ _)).imp' (fun _ _ _ _ a=>a.1),fun g e=>(h.W.own.lt g e).1,fun g e=>(h.B.own.lt g e).1⟩
theorem uL.apt{lo n:Nat}(h:uL w lo n vW vB C rs xW xB)(a:zH lo w.heap.size (xW++xB)):zH lo w.heap.size (vW::vB::(xW++xB)):=by
 have j:∀u∈xW++xB,∀g,eb u=some g->vW.ownBlock≠some g/\vB.ownBlock≠some g:=fun u b g e=>by
  rcases iX.1 b with b | b
  . obtain⟨i,-,d,f,-⟩:=h.W.mem b e;exact⟨f,d.2.2⟩
  . obtain⟨i,-,d,f,-⟩:=h.B.mem b e;exact⟨d.2.2,f⟩
 refine⟨fun u b g e=> ?_,List.Pairwise.cons (fun u b g e c=> ?_) (List.Pairwise.cons (fun u b g e c=>(j u b g c).2 (bf e)) a.2)⟩
 . rcases fW.1 b with rfl | b
   . exact h.W.own.lt g (bf e)
   . rcases fW.1 b with rfl | b
     . exact h.B.own.lt g (bf e)
     . exact a.1 u b g e
 . rcases fW.1 b with rfl | b
   . exact h.sep g (bf e) (bf c)
   . exact (j u b g c).1 (bf e)
theorem zI.imp(h:zI w p vW vB C rs xW xB)(a:∀g,g<w.heap.size->p g->p' g):zI w p' vW vB C rs xW xB:=
 ⟨h.W.imp' (fun _ g _ b c=>a g b c),h.B.imp' (fun _ g _ b c=>a g b c),fun g e=>a g (h.W.own.lt g e).2 (h.pW g e),fun g e=>a g (h.B.own.lt g e).2 (h.pB g e)⟩
theorem zI.blocks(h:zI w p vW vB C rs xW xB)(c:w.heap.size<=w'.heap.size)(hb:∀g,g<w.heap.size->p g->w'.heap[g]?=w.heap[g]?):zI w' p vW vB C rs xW xB:=
 ⟨h.W.blocks c (fun g e=>hb g (h.W.own.lt g e).2 (h.pW g e)) (fun _ g _ a b=>hb g a b),h.B.blocks c (fun g e=>hb g (h.B.own.lt g e).2 (h.pB g e)) (fun _ g _ a b=>hb g a b),h.pW,h.pB⟩
theorem zI.aA(h:zI w p vW vB C rs xW xB)(s:w.S w'):zI w' p vW vB C rs xW xB:=h.blocks s.size (fun g a _=>s.block g a)
end
structure iQ where
 R:Nat
 C:Nat
 rs:List (Nat×List ByteArray)
def iQ.nul:iQ:=⟨0,0,[]⟩
structure pP(w:World)(lo:Nat)(v:Value)(k:Nat)(D:Nat->iQ)(xs:List Value)(zs:List (List Value)):Prop where
 zl:zs.length=k
 own:w.ownsRow lo 52 4 v k xs
 at_:∀i,i<k->∃vW vB xW xB,xs[i*4]?=some (.int .i64 ((D i).R:Int))/\xs[i*4+1]?=some (.int .i64 ((D i).C:Int))/\xs[i*4+2]?=some vW/\xs[i*4+3]?=some vB/\zI w (fun q=>lo<=q/\v.ownBlock≠some q) vW vB (D i).C (D i).rs xW xB/\zs[i]?=some (vW::vB::(xW++xB))
section
variable{w w' w1:World}{lo k:Nat}{v v':Value}{D:Nat->iQ}{xs:List Value}{zs:List (List Value)}
theorem pP.but(h:pP w lo v k D xs zs)(s:jt n w w')(A:n<lo):pP w' lo v k D xs zs:=by
 refine⟨h.zl, ?_,fun i q=> ?_⟩
 . obtain⟨hl,a | ⟨g,d,e,rfl,o,b,t⟩⟩:=h.own
   . exact⟨hl,Or.inl a⟩
   . exact⟨hl,Or.inr ⟨g,d,e,rfl,o,(s.block g (dM.1 b).1 (by simp;omega)).trans b,t⟩⟩
 . obtain⟨x,u,z,y,a,f,j,l,m,c⟩:=h.at_ i q;exact⟨x,u,z,y,a,f,j,l,m.blocks s.size (fun g p r=>s.block g p (by have:=r.1;simp;omega)),c⟩
theorem pP.aA(h:pP w lo v k D xs zs)(s:w.S w'):pP w' lo v k D xs zs:=by
 refine⟨h.zl, ?_,fun i o=> ?_⟩
 . obtain⟨hl,a | ⟨g,c,d,rfl,n,b,p⟩⟩:=h.own
   . exact⟨hl,Or.inl a⟩
   . exact⟨hl,Or.inr ⟨g,c,d,rfl,n,(s.block g (dM.1 b).1).trans b,p⟩⟩
 . obtain⟨r,q,u,t,a,e,f,j,l,m⟩:=h.at_ i o;exact⟨r,q,u,t,a,e,f,j,l.aA s,m⟩
theorem pP.congr{D':Nat->iQ}(h:pP w lo v k D xs zs)(b:∀i,i<k->D i=D' i):pP w lo v k D' xs zs:=
 ⟨h.zl,h.own,fun i a=>by rw[<-b i a];exact h.at_ i a⟩
theorem pP.snoc(h:pP w lo v k D xs zs)(B:w.S w1)(K:w.heap.size<w1.heap.size)(g:w1.grownBy w' v.ownBlock){xW xB:List Value}(own:w'.ownsRow lo 52 4 v' (k+1) (xs++[.i ((D k).R:Int),.i ((D k).C:Int),u,U]))
 (x:v'.ownBlock=v.ownBlock∨v'.ownBlock=some w1.heap.size)(A:zI w (fun q=>lo<=q/\v.ownBlock≠some q) u U (D k).C (D k).rs xW xB):pP w' lo v' (k+1) D (xs++[.i ((D k).R:Int),.i ((D k).C:Int),u,U]) (zs++[u::U::(xW++xB)]):=by
 have l:=h.zl;have hl:=h.own.1;have m:∀ {u U:Value} {C:Nat} {d:pR} {xW xB:List Value},zI w (fun q=>lo<=q/\v.ownBlock≠some q) u U C d xW xB->zI w' (fun q=>lo<=q/\v'.ownBlock≠some q) u U C d xW xB:=fun {u U C d xW xB} r=>by
  have y:=r.imp (p':=fun q=>(lo<=q/\v.ownBlock≠some q)/\v'.ownBlock≠some q) (fun j f c=>⟨c,fun e=>by
   rcases x with h | h
   . exact c.2 (h.symm.trans e)
   . rw[e] at h;simp at h;omega⟩)
  have z:=y.blocks (w':=w') (by have:=g.size;omega) (fun j f c=>(g.block j om (fun e=>c.1.2 e.symm)).trans (B.block j f));exact z.imp (fun _ _ c=>⟨c.1.1,c.2⟩)
 refine⟨by simp[l],own,fun i I=> ?_⟩;by_cases e:i=k
 . subst e;refine⟨u,U,xW,xB, ?_, ?_, ?_, ?_,m A,by rw[bK om,l];simp⟩
   . rw[bK om,hl];simp
   . rw[bK om,hl];simp
   . rw[bK om,hl];simp
   . rw[bK om,hl];simp
 . obtain⟨F,E,H,G,n,o,p,s,t,a⟩:=h.at_ i om;exact⟨F,E,H,G,by rw[bJ om];exact n,by rw[bJ om];exact o,by rw[bJ om];exact p,by rw[bJ om];exact s,m t,by rw[bJ om];exact a⟩
end
def kn:List iQ->List (Nat×List ByteArray)->List (Nat×List ByteArray)->Prop
 | [],rest,rest'=>rest=rest'
 | m::ms,rest,rest'=>∃r,mI rest m.R m.C m.rs r/\kn ms r rest'
theorem kn.snoc{f:List iQ}{m:iQ}{a c b:pR}(h:kn f a c)(k:mI c m.R m.C m.rs b):kn (f++[m]) a b:=by
 induction f generalizing a with
 | nil=>subst h;exact⟨b,k,rfl⟩
 | cons x xs ih=>
   obtain⟨r,d,e⟩:=h;exact⟨r,d,ih e⟩
theorem mI.only{i r g:pR}{u b:pR}(h:mI i n m u r)(k:mI i d c b g):n=d/\m=c/\u=b/\r=g:=by
 obtain⟨x,p,s,e,-,-,v,l⟩:=h.ex;obtain⟨o,q,t,a,-,-,f,w⟩:=k.ex;rw[e] at a;simp only[List.cons.injEq,Prod.mk.injEq,fI,fM] at a;obtain⟨⟨-,rfl,rfl⟩,j⟩:=a;have hl:u.length=b.length:=by rw[h.len,k.len,<-v,<-f]
 have:=List.append_inj j hl;exact⟨v.symm.trans f,l.symm.trans w,this.1,this.2⟩
theorem kn.next{g a:List iQ}{c r f:pR}(h:kn g c r)(k:kn a c f)(hl:g.length<a.length):∃(m:iQ) (q:pR),mI r m.R m.C m.rs q:=by
 induction g generalizing c a with
 | nil=>
   subst h
   match a,k,hl with
   | m::_,⟨q,b,_⟩,_=>exact⟨m,q,b⟩
 | cons x xs ih=>
   obtain⟨q,b,d⟩:=h
   match a,k,hl with
   | m::ms'',⟨q',k1,k2⟩,hl=>
     obtain⟨-,-,-,e⟩:=b.only k1;subst e;exact ih d k2 (by simpa using hl)
theorem kn.only{o a:List iQ}{b r g:pR}(h:kn o b r)(k:kn a b g)(hl:o.length=a.length):o=a/\r=g:=by
 induction o generalizing b a with
 | nil=>
   match a,k,hl with
   | [],k,_=>exact⟨rfl,h.symm.trans k⟩
 | cons x xs ih=>
   obtain⟨q,l,n⟩:=h
   match a,k,hl with
   | m::ms'',⟨q',k1,k2⟩,hl=>
     obtain⟨c,d,f,e⟩:=l.only k1;subst e;obtain⟨i,j⟩:=ih n k2 (by simpa using hl);refine⟨?_,j⟩;cases x;cases m;simp only at c d f;subst c d f i;rfl
def cr:ByteArray:=⟨#[110,101,116]⟩
def lO(rest:List (Nat×List ByteArray))(ms:List iQ):Prop:=∃n0 x1 r,rest=(n0,[cr,x1])::r/\isInt x1/\ms.length=dv x1 x1.size/\kn ms r []
end Go.Proofs.YtinihjgnnlemmaaGreatDoor
