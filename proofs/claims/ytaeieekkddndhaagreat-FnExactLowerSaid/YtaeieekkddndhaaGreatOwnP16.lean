import Derived.Test.YtaeieekkddndhaaGreatOwnP15
set_option maxHeartbeats 6400000
set_option maxRecDepth 100000
namespace Go.Proofs.YtaeieekkddndhaaGreat
open Tryz Go.RowKit
variable{w v W V:World}{n m c d i j l o b p q t r s h e:Nat}{a A B:Option Addr}{X Y Z:Nat->Nat}{u U:Value}{f F:Bool}
theorem ym{P:Program}{e:Region.Mode}{c:Array Oper}{Q:Exit->Act->World->Prop}(I:Nat->Array Bool->Act->World->Prop)
 (j:∀b l a w,I (b+1) l a w->∀i∈Region.ready e c l,∃o,c[i]?=some o/\∀d:Act->World->Prop,(∀a w,I b (l.setIfInBounds i true) a w->d a w)->if Region.wanted o (yielded c a.tmps)=true then Oper.wp P o a w d Q else d (a.put o.dst undef) w)
 (f:∀l a w,I 0 l a w->Region.ready e c l=[])
 (g:∀b l a w,I b l a w->Region.ready e c l=[]->Q .normal a w):
 ∀b l a w,I b l a w->wpAny P e c Q b l a w
 | 0,l,a,w,h=>⟨f l a w h,g 0 l a w h (f l a w h)⟩
 | b+1,l,a,w,h=>⟨g _ l a w h,fun i n=>by
    obtain⟨o,q,p⟩:=j b l a w h i n;exact wpOp_step q fun d m=>p d fun a w k=>m a w (ym I j f g b _ a w k)⟩
theorem ac9{B a:Nat}{w w':World}(s:w.Since B w')(h:a<=B):w.Since a w':=⟨s.os,s.tape,s.output,s.size,fun k b=>s.block k om⟩
def bk:Value->Option Nat
 | .pointer (some a)=>some a.block
 | .slice (some a) _ _=>some a.block
 | _=>none
def Bd(lo:Nat)(w:World)(v:Value):Prop:=∀g,bk v=some g->lo<=g/\g<w.heap.size
def Ap(u v:Value):Prop:=∀g,bk u=some g->bk v=some g->False
theorem Bd.undef(lo:Nat)(w:World):Bd lo w undef:=fun g h=>by cases h
theorem Bd.grow{lo:Nat}{w w':World}{v:Value}(h:Bd lo w v)(a:w.heap.size<=w'.heap.size):Bd lo w' v:=fun g e=>⟨(h g e).1,aS (h g e).2 a⟩
theorem Ap.symm{v:Value}(h:Ap u v):Ap v u:=fun g a b=>h g b a
theorem Ap.undef(v:Value):Ap undef v:=fun g h=>by cases h
theorem Ap.fresh{lo:Nat}{w w':World}{v:Value}(h:Bd lo w u)(c:Bd w.heap.size w' v):Ap u v:=fun g a b=>by have:=(h g a).2;have:=(c g b).1;omega
def Ow(w:World)(v:Value)(m:Nat)(X:Nat->Nat):Prop:=
 (v=.slice none 0 0/\m=0)∨∃g cp,v=.slice (some ⟨g,0,none⟩) m cp/\g<w.heap.size/\m<=cp/\bE w (some ⟨g,0,none⟩) g 0 m X/\(∀x,w.frozen? ⟨g,x,none⟩=false)/\Shape w g 135 cp/\cp<=maxLen
theorem Ow.since{w w':World}{v:Value}(h:Ow w v m X)(s:w.S w'):Ow w' v m X:=by
 rcases h with h | ⟨g,f,e,b,i,L,F,c,d⟩
 . exact Or.inl h
 . exact Or.inr ⟨g,f,e,aS b s.size,i,L.bH s,fun x=>by rw[s.frozen (a:=jj g x) b];exact F x,c.since s b,d⟩
theorem Ow.set{v:Value}(h:Ow w v m X){t:Value}(k:t=.p c 0)(f:Ap t v)(u:Value):Ow (w.setCell ⟨c,0,none⟩ u) v m X:=by
 subst k;rcases h with h | ⟨g,d,rfl,j,i,L,F,a,b⟩
 . exact Or.inl h
 . have:c≠g:=fun e=>f g (by rw[e];rfl) rfl;exact Or.inr ⟨g,d,rfl,by simpa using j,i,L.setOther this _,fun x=>by simp[F x],a.setCell _ _ _,b⟩
theorem xF{base:Nat}{v:Value}(h:w.ownsRow base 135 1 v m (ll X m)):Ow w v m X/\Bd base w v:=by
 have f:= @World.ownsRow.cells _ _ _ _ _ _ _ h;rcases h.2 with ⟨rfl,rfl⟩ | ⟨g,c,d,rfl,hb,a,k,l,n,_⟩
 . exact⟨Or.inl ⟨rfl,rfl⟩,fun g e=>by cases e⟩
 . have b:=(dM.1 a).1;refine⟨Or.inr ⟨g,c,rfl,b,k,fun j i=>⟨rfl, ?_⟩,fun o=>by simp[World.frozen?,a],⟨d,a,by simpa using n⟩,l⟩,fun p e=> ?_⟩
   . have:=f (g:=g) rfl j _ (vL X m j i);rw[mT] at this;exact this
   . cases e;exact⟨hb,b⟩
def Bx(w:World)(t:Value)(u:Value):Prop:=∃c,t=.pointer (some ⟨c,0,none⟩)/\w.cell? ⟨c,0,none⟩=some u/\w.frozen? ⟨c,0,none⟩=false/\c<w.heap.size
theorem Bx.since{w w':World}{t:Value}(h:Bx w t u)(s:w.S w'):Bx w' t u:=by
 obtain⟨c,e,d,f,b⟩:=h;exact⟨c,e,by rw[s.cell (a:=jj c 0) b];exact d,by rw[s.frozen (a:=jj c 0) b];exact f,aS b s.size⟩
theorem Bx.other{t a:Value}(h:Bx w t u)(e:a=.p c 0)(i:Ap a t)(x:Value):Bx (w.setCell ⟨c,0,none⟩ x) t u:=by
 obtain⟨d,rfl,b,f,g⟩:=h;subst e;have:c≠d:=fun e=>i d (by rw[e];rfl) rfl;exact⟨d,rfl,by rw[qi (by exact this)];exact b,by simp[f],by simpa using g⟩
theorem Bx.fill{t:Value}(h:Bx w t u)(e:t=.p c 0)(x:Value):Bx (w.setCell ⟨c,0,none⟩ x) t x:=by
 obtain⟨d,rfl,a,b,f⟩:=h;cases e;exact⟨_,rfl,aQ _ _ _ a,by simp[b],by simpa using f⟩
theorem Bx.new(w:World)(u:Value)(a:TypeId):Bx (w.alloc (.cells #[u] a)) (.p w.heap.size 0) u:=⟨_,rfl,by simp[go_sem],by simp[go_sem],qz⟩
structure J(wA:World)(sa sb:Value)(n m:Nat)(X Y:Nat->Nat)(l0 l1 l2 l3 l4 l5 l6 l7:Bool)(t5 t6 t20 t21 t22 t23:Value)(w:World):Prop where
 S:wA.Since wA.heap.size w
 B5:Bd wA.heap.size w t5
 B6:Bd wA.heap.size w t6
 B21:Bd wA.heap.size w t21
 B23:Bd wA.heap.size w t23
 A56:Ap t5 t6
 A51:Ap t5 t21
 A53:Ap t5 t23
 A61:Ap t6 t21
 A63:Ap t6 t23
 A13:Ap t21 t23
 h0:l0=true->t20=sa
 h2:l2=true->t22=sb
 h1:l1=true->Ow w t21 n X
 h3:l3=true->Ow w t23 m Y
 h4:l4=true->Bx w t5 (if l6=true then t21 else .slice none 0 0)
 h5:l5=true->Bx w t6 (if l7=true then t23 else .slice none 0 0)
section
variable{wA:World}{sa sb:Value}{n m:Nat}{X Y:Nat->Nat}{l0 l1 l2 l3 l4 l5 l6 l7:Bool}{t5 t6 t20 t21 t22 t23:Value}{w w':World}
theorem J.grow(h:J wA sa sb n m X Y l0 l1 l2 l3 l4 l5 l6 l7 t5 t6 t20 t21 t22 t23 w)(s:w.S w'):J wA sa sb n m X Y l0 l1 l2 l3 l4 l5 l6 l7 t5 t6 t20 t21 t22 t23 w':=
 ⟨h.S.trans (ac9 s h.S.size),h.B5.grow s.size,h.B6.grow s.size,h.B21.grow s.size,h.B23.grow s.size,h.A56,h.A51,h.A53,h.A61,h.A63,h.A13,h.h0,h.h2,fun e=>(h.h1 e).since s,fun e=>(h.h3 e).since s,fun e=>(h.h4 e).since s,fun e=>(h.h5 e).since s⟩
theorem J.start(wA:World)(a b:Value)(n m:Nat)(X Y:Nat->Nat)(c d:Value):J wA a b n m X Y false false false false false false false false undef undef c undef d undef wA:=
 ⟨.refl _ _,.undef _ _,.undef _ _,.undef _ _,.undef _ _,.undef _,.undef _,.undef _,.undef _,.undef _,.undef _,fun h=>(by cases h),fun h=>(by cases h),fun h=>(by cases h),fun h=>(by cases h),fun h=>(by cases h),fun h=>(by cases h)⟩
theorem J.op0(h:J wA sa sb n m X Y l0 l1 l2 l3 l4 l5 l6 l7 t5 t6 t20 t21 t22 t23 w):J wA sa sb n m X Y true l1 l2 l3 l4 l5 l6 l7 t5 t6 sa t21 t22 t23 w:={ h with h0:=fun _=>rfl }
theorem J.op2(h:J wA sa sb n m X Y l0 l1 l2 l3 l4 l5 l6 l7 t5 t6 t20 t21 t22 t23 w):J wA sa sb n m X Y l0 l1 true l3 l4 l5 l6 l7 t5 t6 t20 t21 sb t23 w:={ h with h2:=fun _=>rfl }
theorem J.op1(h:J wA sa sb n m X Y l0 l1 l2 l3 l4 l5 false l7 t5 t6 t20 t21 t22 t23 w)(s:w.S w'){v:Value}(o:Ow w' v n X)(b:Bd w.heap.size w' v):J wA sa sb n m X Y l0 true l2 l3 l4 l5 false l7 t5 t6 t20 v t22 t23 w':=
 have g:=h.grow s;have a:Bd wA.heap.size w' v:=fun x e=>⟨aU h.S.size (b x e).1,(b x e).2⟩
 { g with B21:=a,A51:=.fresh h.B5 b,A61:=.fresh h.B6 b,A13:=(Ap.fresh h.B23 b).symm,h1:=fun _=>o }
theorem J.op3(h:J wA sa sb n m X Y l0 l1 l2 l3 l4 l5 l6 false t5 t6 t20 t21 t22 t23 w)(s:w.S w'){v:Value}(o:Ow w' v m Y)(b:Bd w.heap.size w' v):J wA sa sb n m X Y l0 l1 l2 true l4 l5 l6 false t5 t6 t20 t21 t22 v w':=
 have g:=h.grow s;have a:Bd wA.heap.size w' v:=fun x e=>⟨aU h.S.size (b x e).1,(b x e).2⟩
 { g with B23:=a,A53:=.fresh h.B5 b,A63:=.fresh h.B6 b,A13:=.fresh h.B21 b,h3:=fun _=>o }
theorem alP(w:World)(u:Value)(a:TypeId):Bd w.heap.size (w.alloc (.cells #[u] a)) (.p w.heap.size 0):=fun g e=>by cases e;simp
theorem J.op4(h:J wA sa sb n m X Y l0 l1 l2 l3 l4 l5 false l7 t5 t6 t20 t21 t22 t23 w)(a:TypeId):J wA sa sb n m X Y l0 l1 l2 l3 true l5 false l7 (.p w.heap.size 0) t6 t20 t21 t22 t23 (w.alloc (.cells #[.n] a)):=
 have g:=h.grow (yD.alloc zR (.cells #[.n] a));have b:=alP w (.n) a
 { g with B5:=fun x e=>⟨aU h.S.size (b x e).1,(b x e).2⟩,A56:=(Ap.fresh h.B6 b).symm,A51:=(Ap.fresh h.B21 b).symm,A53:=(Ap.fresh h.B23 b).symm,h4:=fun _=>Bx.new _ _ _ }
theorem J.op5(h:J wA sa sb n m X Y l0 l1 l2 l3 l4 l5 l6 false t5 t6 t20 t21 t22 t23 w)(a:TypeId):J wA sa sb n m X Y l0 l1 l2 l3 l4 true l6 false t5 (.p w.heap.size 0) t20 t21 t22 t23 (w.alloc (.cells #[.n] a)):=
 have g:=h.grow (yD.alloc zR (.cells #[.n] a));have b:=alP w (.n) a
 { g with B6:=fun x e=>⟨aU h.S.size (b x e).1,(b x e).2⟩,A56:=Ap.fresh h.B5 b,A61:=(Ap.fresh h.B21 b).symm,A63:=(Ap.fresh h.B23 b).symm,h5:=fun _=>Bx.new _ _ _ }
theorem xZ{lo c:Nat}{x:Value}(h:Bd lo w u):Bd lo (w.setCell ⟨c,0,none⟩ x) u:=h.grow qz
theorem J.op6(h:J wA sa sb n m X Y l0 l1 l2 l3 true l5 l6 l7 t5 t6 t20 t21 t22 t23 w)(e:t5=.p c 0):J wA sa sb n m X Y l0 l1 l2 l3 true l5 true l7 t5 t6 t20 t21 t22 t23 (w.setCell ⟨c,0,none⟩ t21):=
 ⟨h.S.setCell (h.B5 c (by rw[e];rfl)).1 _,xZ h.B5,xZ h.B6,xZ h.B21,xZ h.B23,h.A56,h.A51,h.A53,h.A61,h.A63,h.A13,h.h0,h.h2,fun k=>(h.h1 k).set e h.A51 _,fun k=>(h.h3 k).set e h.A53 _,fun _=>(h.h4 rfl).fill e _,fun k=>(h.h5 k).other e h.A56 _⟩
theorem J.op7(h:J wA sa sb n m X Y l0 l1 l2 l3 l4 true l6 l7 t5 t6 t20 t21 t22 t23 w)(e:t6=.p c 0):J wA sa sb n m X Y l0 l1 l2 l3 l4 true l6 true t5 t6 t20 t21 t22 t23 (w.setCell ⟨c,0,none⟩ t23):=
 ⟨h.S.setCell (h.B6 c (by rw[e];rfl)).1 _,xZ h.B5,xZ h.B6,xZ h.B21,xZ h.B23,h.A56,h.A51,h.A53,h.A61,h.A63,h.A13,h.h0,h.h2,fun k=>(h.h1 k).set e h.A61 _,fun k=>(h.h3 k).set e h.A63 _,fun k=>(h.h4 k).other e h.A56.symm _,fun _=>(h.h5 rfl).fill e _⟩
theorem uR{lo:Nat}{v:Value}(h:Ow w v m X)(b:Bd lo w v)(far:Nat)(hf:lo<=far)(_hw:w.heap.size<=far):∃a g cp,v=.slice a m cp/\m<=cp/\(a=none->cp=0)/\bE w a g 0 m X/\(0<m->∀x,w.frozen? (jj g x)=false)/\lo<=g/\(g=far∨bk v=some g)/\lp w v g:=by
 rcases h with ⟨rfl,rfl⟩ | ⟨g,cp,rfl,hg,hc,L,F,H⟩
 . exact⟨none,far,0,rfl,aC _,fun _=>rfl,fun j hj=>absurd hj om,fun h=>absurd h om,hf,Or.inl rfl,fun a _ _ h ha=>by cases h;exact absurd rfl ha⟩
 . exact⟨_,g,cp,rfl,hc,fun h=>(by cases h),L,fun _=>F,(b g rfl).1,Or.inr rfl,fun _ _ _ h _=>by cases h;exact H⟩
theorem J.gd(h:J wA sa sb n m X Y true true true true true true true true t5 t6 t20 t21 t22 t23 w)(D:∀j,j<n->X j<4294967296)(E:∀j,j<m->Y j<4294967296)(F:0<n->X (n-1)≠0)(G:0<m->Y (m-1)≠0):
 ∃c d a r o l q p,t5=.p c 0/\t6=.p d 0/\Gd wA.heap.size wA w c d a r o l n m q p X Y:=by
 obtain⟨c,v,y,z,W⟩:=h.h4 rfl;obtain⟨d,x,A,B,Z⟩:=h.h5 rfl;have C:=h.S.size;obtain⟨o,a,q,t,H,I,K,L,M,g,N⟩:=uR (h.h1 rfl) h.B21 w.heap.size C zR;obtain⟨l,r,p,u,O,P,Q,R,S,i,T⟩:=uR (h.h3 rfl) h.B23 (w.heap.size+1) om om;have b:bk t5=some c:=by rw[v];rfl
 have f:bk t6=some d:=by rw[x];rfl
 have V:=g.elim Or.inr fun e=>Or.inl (h.B21 _ e).2;have U:=i.elim Or.inr fun e=>Or.inl (h.B23 _ e).2;refine⟨c,d,a,r,o,l,q,p,v,x,h.S,by rw[y,aY rfl,t],by rw[A,aY rfl,u],z,B,K,Q,L,R,H,O,I,P,D,E,F,G,(h.B5 c b).1,(h.B6 d f).1,M,S, ?_, ?_, ?_, ?_, ?_, ?_,by rw[<-t];exact N,by rw[<-u];exact T⟩
 . exact fun e=>h.A56 c b (by rw[f,e])
 . rcases g with e | e
   . omega
   . rcases i with s | s
     . have:=(h.B21 _ e).2;omega
     . exact fun k=>h.A13 a e (by rw[s,k])
 . rcases g with e | e
   . omega
   . exact fun k=>h.A51 c b (by rw[e,k])
 . rcases g with e | e
   . omega
   . exact fun k=>h.A61 d f (by rw[e,k])
 . rcases i with e | e
   . omega
   . exact fun k=>h.A53 c b (by rw[e,k])
 . rcases i with e | e
   . omega
   . exact fun k=>h.A63 d f (by rw[e,k])
end
def rdy(l0 l1 l2 l3 l4 l5 l6 l7:Bool):Nat->Bool
 | 0=> !l0
 | 1=>l0&& !l1&& !l6&& !l3
 | 2=> !l2
 | 3=>l1&&l2&& !l3&& !l7
 | 4=> !l4&& !l6
 | 5=> !l5&& !l7
 | 6=>l4&&l1&&l3&&l5&& !l6
 | 7=>l6&&l5&&l3&& !l7
 | _=>false
def mm(l0 l1 l2 l3 l4 l5 l6 l7:Bool):Nat:=(!l0).toNat+(!l1).toNat+(!l2).toNat+(!l3).toNat+(!l4).toNat+(!l5).toNat+(!l6).toNat+(!l7).toNat
def okl(l1 l3 l4 l5 l6 l7:Bool):Bool:=(!l6 ||(l1&&l3&&l4&&l5))&&(!l7 ||l6)&&(!l3 ||l1)
theorem ako{b:Option Addr}{ba oa n ca bb ob m cb:Nat}(_hw:0<=w.heap.size)(hn:n<=16777216)(hm:m<=16777216)(hnc:n<=ca)(hmc:m<=cb)(hac:a=none->ca=0)(hbc:b=none->cb=0)
 (hX:bE w a ba oa n X)(hY:bE w b bb ob m Y)(hXl:∀j,j<n->X j<4294967296)(hYl:∀j,j<m->Y j<4294967296)(pX:0<n->X (n-1)≠0)(pY:0<m->Y (m-1)≠0)(_hT:xe w)
 (h1:lv X n≠1)(h2:lv Y m≠1)(h3:2<n∨2<m):
 Cl 166 #[.slice a n ca,.slice b m cb] w fun e w'=>∃v g,e=.returned v/\fp w' v g (Nat.gcd (lv X n) (lv Y m)) 67108864/\w.heap.size<=g/\w.S w':=by
 have d1:decide (lv X n=1)=false:=by simp[h1]
 have d2:decide (lv Y m=1)=false:=by simp[h2]
 have sA:w.S ((w.alloc (.o #[.l a n ca] 138)).alloc (.o #[.l b m cb] 138)):=(cV _ _).alloc qz _;have bx1:((w.alloc (.o #[.l a n ca] 138)).alloc (.o #[.l b m cb] 138)).cell? (jj w.heap.size 0)=some (.l a n ca):=by rw[iE _ _ _ qz];simp[go_sem]
 have bx2:((w.alloc (.o #[.l a n ca] 138)).alloc (.o #[.l b m cb] 138)).cell? (jj (w.heap.size+1) 0)=some (.l b m cb):=by simp[go_sem]
 have zA:w.heap.size+2<=((w.alloc (.o #[.l a n ca] 138)).alloc (.o #[.l b m cb] 138)).heap.size:=by simp
 have XA:=hX.bH sA;have YA:=hY.bH sA;go_enter func166,ntmps166;go_wp2_with fail;generalize (w.alloc _).alloc _=wA at*;have I1:=js bx1 XA hXl pX;have I2:=js bx2 YA hYl pY;rw[d1] at I1;rw[d2] at I2;refine I1.mono ?_;clear I1;rintro e w1 ⟨rfl,hw1⟩;rw[hw1];clear hw1;have I2:=aR I2;go_wp2_with fail;refine I2.out.mono ?_;clear I2;rintro e w1 ⟨rfl,hw1⟩;rw[hw1];clear hw1;by_cases h4:2<n
 . go_wp2_with fail;refine (ty h4 bx1).mono ?_;rintro e w1 ⟨rfl,hw1⟩;rw[hw1];clear hw1 d1 d2 h1 h2 hX hY;go_wp2;refine wp_region_any kr ?_;change wpAny _ _ _ _ _ _ _ (World.drew _);have bx1:wA.drew.cell? (jj w.heap.size 0)=some (.l a n ca):=bx1;have bx2:wA.drew.cell? (jj (w.heap.size+1) 0)=some (.l b m cb):=bx2;have XA:bE wA.drew a ba oa n X:=XA;have YA:bE wA.drew b bb ob m Y:=YA;have zA:w.heap.size+2<=wA.drew.heap.size:=zA;have sA:w.S wA.drew:=⟨sA.os,sA.tape,sA.output,sA.size,sA.block⟩;generalize wA.drew=wD at*
   refine ym (fun fuel l ac wx=>∃l0 l1 l2 l3 l4 l5 l6 l7 t5 t6 t20 t21 t22 t23,l= #[l0,l1,l2,l3,l4,l5,l6,l7]/\fuel=mm l0 l1 l2 l3 l4 l5 l6 l7/\okl l1 l3 l4 l5 l6 l7=true/\
    ac={ tmps:= #[Value.slice a n ca,Value.slice b m cb,Value.pointer (some { block:=w.heap.size,off:=0 }),Value.pointer (some { block:=w.heap.size+1,off:=0 }),Value.n,t5,t6,
     Value.bool false,Value.bool false,Value.bool false,Value.bool false,undef,Value.bool false,Value.bool false,undef,Value.bool false,undef,undef,undef,undef,t20,t21,t22,t23,undef,undef],defers:=[] }/\
    J wD (.l a n ca) (.l b m cb) (gi (nz X) n) (gi (nz Y) m) X Y l0 l1 l2 l3 l4 l5 l6 l7 t5 t6 t20 t21 t22 t23 wx) ?_ ?_ ?_ _ _ _ _ ⟨_,_,_,_,_,_,_,_,_,_,_,_,_,_,rfl,rfl,rfl,rfl,J.start _ _ _ _ _ _ _ _ _⟩
   . rintro fuel l ac wx ⟨l0,l1,l2,l3,l4,l5,l6,l7,t5,t6,t20,t21,t22,t23,rfl,hf,hk,rfl,j⟩ i hi;have hr:rdy l0 l1 l2 l3 l4 l5 l6 l7 i=true:=by
      revert i;refine tO.1 ?_;revert hk;clear hf j;revert l0 l1 l2 l3 l4 l5 l6 l7;exact iD kr
     have k1:wx.cell? (jj w.heap.size 0)=some (.l a n ca):=(by rw[j.S.cell (a:=jj w.heap.size 0) (by show w.heap.size<_;omega)];exact bx1);have k2:wx.cell? (jj (w.heap.size+1) 0)=some (.l b m cb):=(by rw[j.S.cell (a:=jj (w.heap.size+1) 0) (by show w.heap.size+1<_;omega)];exact bx2);have kX:=XA.bH j.S;have kY:=YA.bH j.S;clear hi;rcases i with _ | _ | _ | _ | _ | _ | _ | _ | i
     . simp[rdy] at hr;subst hr;refine⟨_,rfl,fun K hK=> ?_⟩;go_simp;refine hK _ _ ⟨true,l1,l2,l3,l4,l5,l6,l7,t5,t6,_,t21,t22,t23,rfl, ?_,hk,rfl,j.op0⟩;simp[mm] at hf⊢;omega
     . simp[rdy] at hr;obtain⟨⟨⟨rfl,rfl⟩,rfl⟩,rfl⟩:=hr;have e:=j.h0 rfl;subst e;refine⟨_,rfl,fun K hK=> ?_⟩;go_simp;refine (rq om hnc hac kX).mono ?_;rintro e w' ⟨v,rfl,o,s⟩;refine hK _ _ ⟨true,true,l2,false,l4,l5,false,l7,t5,t6,_,v,t22,t23,rfl, ?_, ?_,rfl,j.op1 s (xF o).1 (xF o).2⟩
       . simp[mm] at hf⊢;omega
       . simpa [okl] using hk
     . simp[rdy] at hr;subst hr;refine⟨_,rfl,fun K hK=> ?_⟩;go_simp;refine hK _ _ ⟨l0,l1,true,l3,l4,l5,l6,l7,t5,t6,t20,t21,_,t23,rfl, ?_,hk,rfl,j.op2⟩;simp[mm] at hf⊢;omega
     . simp[rdy] at hr;obtain⟨⟨⟨rfl,rfl⟩,rfl⟩,rfl⟩:=hr;have e:=j.h2 rfl;subst e;refine⟨_,rfl,fun K hK=> ?_⟩;go_simp;refine (rq om hmc hbc kY).mono ?_;rintro e w' ⟨v,rfl,o,s⟩;refine hK _ _ ⟨l0,true,true,true,l4,l5,l6,false,t5,t6,t20,t21,_,v,rfl, ?_, ?_,rfl,j.op3 s (xF o).1 (xF o).2⟩
       . simp[mm] at hf⊢;omega
       . revert hk;cases l6<;>cases l4<;>cases l5<;>decide
     . simp[rdy] at hr;obtain⟨rfl,rfl⟩:=hr;refine⟨_,rfl,fun K hK=> ?_⟩;go_simp;refine hK _ _ ⟨l0,l1,l2,l3,true,l5,false,l7,_,t6,t20,t21,t22,t23,rfl, ?_, ?_,rfl,j.op4 138⟩
       . simp[mm] at hf⊢;omega
       . simpa [okl] using hk
     . simp[rdy] at hr;obtain⟨rfl,rfl⟩:=hr;refine⟨_,rfl,fun K hK=> ?_⟩;go_simp;refine hK _ _ ⟨l0,l1,l2,l3,l4,true,l6,false,t5,_,t20,t21,t22,t23,rfl, ?_, ?_,rfl,j.op5 138⟩
       . simp[mm] at hf⊢;omega
       . revert hk;cases l6<;>cases l4<;>cases l1<;>cases l3<;>decide
     . simp[rdy] at hr;obtain⟨⟨⟨⟨rfl,rfl⟩,rfl⟩,rfl⟩,rfl⟩:=hr;obtain⟨c,e5,c1,c2,c3⟩:=j.h4 rfl;obtain⟨xa,xg,xc,e21,-⟩:=uR (j.h1 rfl) j.B21 wx.heap.size j.S.size zR;subst e5 e21;rw[aM qz] at c1;refine⟨_,rfl,fun K hK=> ?_⟩;go_simp;refine hK _ _ ⟨l0,true,l2,true,true,true,true,l7,_,t6,t20,_,t22,t23,rfl, ?_, ?_,rfl,j.op6 rfl⟩
       . simp[mm] at hf⊢;omega
       . simp[okl]
     . simp[rdy] at hr;obtain⟨⟨⟨rfl,rfl⟩,rfl⟩,rfl⟩:=hr;obtain⟨c,e5,c1,c2,c3⟩:=j.h5 rfl;obtain⟨xa,xg,xc,e21,-⟩:=uR (j.h3 rfl) j.B23 wx.heap.size j.S.size zR;subst e5 e21;rw[aM qz] at c1;refine⟨_,rfl,fun K hK=> ?_⟩;go_simp;refine hK _ _ ⟨l0,l1,l2,true,l4,true,true,true,t5,_,t20,t21,t22,_,rfl, ?_, ?_,rfl,j.op7 rfl⟩
       . simp[mm] at hf⊢;omega
       . simpa [okl] using hk
     . cases hr
   . rintro l ac wx ⟨l0,l1,l2,l3,l4,l5,l6,l7,t5,t6,t20,t21,t22,t23,rfl,hf,hk,rfl,j⟩;revert hf;clear hk j;revert l0 l1 l2 l3 l4 l5 l6 l7;exact iD kr
   . rintro fuel l ac wx ⟨l0,l1,l2,l3,l4,l5,l6,l7,t5,t6,t20,t21,t22,t23,rfl,hf,hk,rfl,j⟩ he;have hall:(l0&&(l1&&(l2&&(l3&&(l4&&(l5&&(l6&&l7)))))))=true:=by
      revert he;clear hf j;revert hk;revert l0 l1 l2 l3 l4 l5 l6 l7;exact iD kr
     simp only[fT] at hall;obtain⟨rfl,rfl,rfl,rfl,rfl,rfl,rfl,rfl⟩:=hall;have htX:=gh (nz X) n;have htY:=gh (nz Y) m;obtain⟨c,d,gn,gm,an,am,cn,cm,rfl,rfl,G⟩:=j.gd (fun q hq=>hXl q om) (fun q hq=>hYl q om) (fun h=>by have:=h8 (nz X) n h;simpa [nz] using this) (fun h=>by have:=h8 (nz Y) m h;simpa [nz] using this);have HL:=aR (And.intro (ji X n) (ji Y m));have hTD:xe wD:=trivial;clear j he hk hf hXl hYl pX pY;go_wp2_with fail;refine (aah om om om G hTD).mono ?_;rintro e w3 ⟨rfl,ra,rg,rk,rc,Z,z1,z2,z3,z4,z5,z6,z7,z8,z9,z10,z11⟩;have Z7:=aR (And.intro z7 (And.intro z8 z9));clear z7 z8 z9;go_wp2_with fail;go_ret;refine⟨_,rg,rfl,⟨ra,rk,rc,Z,rfl,z2,z3,z4,z5,z6,Z7.out.1,Z7.out.2.1, ?_⟩,om,sA.trans (sM z11 om)⟩;rw[Z7.out.2.2,HL.out.1,HL.out.2]
 . go_wp2_with fail;refine (ny om bx1).mono ?_;rintro e w1 ⟨rfl,hw1⟩;rw[hw1];clear hw1;go_wp2_with fail;refine (ty om bx2).mono ?_;rintro e w1 ⟨rfl,hw1⟩;rw[hw1];clear hw1 d1 d2 h1 h2 hX hY;go_wp2;refine wp_region_any kr ?_;change wpAny _ _ _ _ _ _ _ (World.drew _);have bx1:wA.drew.cell? (jj w.heap.size 0)=some (.l a n ca):=bx1;have bx2:wA.drew.cell? (jj (w.heap.size+1) 0)=some (.l b m cb):=bx2;have XA:bE wA.drew a ba oa n X:=XA;have YA:bE wA.drew b bb ob m Y:=YA;have zA:w.heap.size+2<=wA.drew.heap.size:=zA;have sA:w.S wA.drew:=⟨sA.os,sA.tape,sA.output,sA.size,sA.block⟩;generalize wA.drew=wD at*
   refine ym (fun fuel l ac wx=>∃l0 l1 l2 l3 l4 l5 l6 l7 t5 t6 t20 t21 t22 t23,l= #[l0,l1,l2,l3,l4,l5,l6,l7]/\fuel=mm l0 l1 l2 l3 l4 l5 l6 l7/\okl l1 l3 l4 l5 l6 l7=true/\
    ac={ tmps:= #[Value.slice a n ca,Value.slice b m cb,Value.pointer (some { block:=w.heap.size,off:=0 }),Value.pointer (some { block:=w.heap.size+1,off:=0 }),Value.n,t5,t6,
     Value.bool false,Value.bool false,Value.bool false,Value.bool false,undef,Value.bool true,Value.bool true,Value.bool false,Value.bool false,undef,undef,undef,undef,t20,t21,t22,t23,undef,undef],defers:=[] }/\
    J wD (.l a n ca) (.l b m cb) (gi (nz X) n) (gi (nz Y) m) X Y l0 l1 l2 l3 l4 l5 l6 l7 t5 t6 t20 t21 t22 t23 wx) ?_ ?_ ?_ _ _ _ _ ⟨_,_,_,_,_,_,_,_,_,_,_,_,_,_,rfl,rfl,rfl,rfl,J.start _ _ _ _ _ _ _ _ _⟩
   . rintro fuel l ac wx ⟨l0,l1,l2,l3,l4,l5,l6,l7,t5,t6,t20,t21,t22,t23,rfl,hf,hk,rfl,j⟩ i hi;have hr:rdy l0 l1 l2 l3 l4 l5 l6 l7 i=true:=by
      revert i;refine tO.1 ?_;revert hk;clear hf j;revert l0 l1 l2 l3 l4 l5 l6 l7;exact iD kr
     have k1:wx.cell? (jj w.heap.size 0)=some (.l a n ca):=(by rw[j.S.cell (a:=jj w.heap.size 0) (by show w.heap.size<_;omega)];exact bx1);have k2:wx.cell? (jj (w.heap.size+1) 0)=some (.l b m cb):=(by rw[j.S.cell (a:=jj (w.heap.size+1) 0) (by show w.heap.size+1<_;omega)];exact bx2);have kX:=XA.bH j.S;have kY:=YA.bH j.S;clear hi;rcases i with _ | _ | _ | _ | _ | _ | _ | _ | i
     . simp[rdy] at hr;subst hr;refine⟨_,rfl,fun K hK=> ?_⟩;go_simp;refine hK _ _ ⟨true,l1,l2,l3,l4,l5,l6,l7,t5,t6,_,t21,t22,t23,rfl, ?_,hk,rfl,j.op0⟩;simp[mm] at hf⊢;omega
     . simp[rdy] at hr;obtain⟨⟨⟨rfl,rfl⟩,rfl⟩,rfl⟩:=hr;have e:=j.h0 rfl;subst e;refine⟨_,rfl,fun K hK=> ?_⟩;go_simp;refine (rq om hnc hac kX).mono ?_;rintro e w' ⟨v,rfl,o,s⟩;refine hK _ _ ⟨true,true,l2,false,l4,l5,false,l7,t5,t6,_,v,t22,t23,rfl, ?_, ?_,rfl,j.op1 s (xF o).1 (xF o).2⟩
       . simp[mm] at hf⊢;omega
       . simpa [okl] using hk
     . simp[rdy] at hr;subst hr;refine⟨_,rfl,fun K hK=> ?_⟩;go_simp;refine hK _ _ ⟨l0,l1,true,l3,l4,l5,l6,l7,t5,t6,t20,t21,_,t23,rfl, ?_,hk,rfl,j.op2⟩;simp[mm] at hf⊢;omega
     . simp[rdy] at hr;obtain⟨⟨⟨rfl,rfl⟩,rfl⟩,rfl⟩:=hr;have e:=j.h2 rfl;subst e;refine⟨_,rfl,fun K hK=> ?_⟩;go_simp;refine (rq om hmc hbc kY).mono ?_;rintro e w' ⟨v,rfl,o,s⟩;refine hK _ _ ⟨l0,true,true,true,l4,l5,l6,false,t5,t6,t20,t21,_,v,rfl, ?_, ?_,rfl,j.op3 s (xF o).1 (xF o).2⟩
       . simp[mm] at hf⊢;omega
       . revert hk;cases l6<;>cases l4<;>cases l5<;>decide
     . simp[rdy] at hr;obtain⟨rfl,rfl⟩:=hr;refine⟨_,rfl,fun K hK=> ?_⟩;go_simp;refine hK _ _ ⟨l0,l1,l2,l3,true,l5,false,l7,_,t6,t20,t21,t22,t23,rfl, ?_, ?_,rfl,j.op4 138⟩
       . simp[mm] at hf⊢;omega
       . simpa [okl] using hk
     . simp[rdy] at hr;obtain⟨rfl,rfl⟩:=hr;refine⟨_,rfl,fun K hK=> ?_⟩;go_simp;refine hK _ _ ⟨l0,l1,l2,l3,l4,true,l6,false,t5,_,t20,t21,t22,t23,rfl, ?_, ?_,rfl,j.op5 138⟩
       . simp[mm] at hf⊢;omega
       . revert hk;cases l6<;>cases l4<;>cases l1<;>cases l3<;>decide
     . simp[rdy] at hr;obtain⟨⟨⟨⟨rfl,rfl⟩,rfl⟩,rfl⟩,rfl⟩:=hr;obtain⟨c,e5,c1,c2,c3⟩:=j.h4 rfl;obtain⟨xa,xg,xc,e21,-⟩:=uR (j.h1 rfl) j.B21 wx.heap.size j.S.size zR;subst e5 e21;rw[aM qz] at c1;refine⟨_,rfl,fun K hK=> ?_⟩;go_simp;refine hK _ _ ⟨l0,true,l2,true,true,true,true,l7,_,t6,t20,_,t22,t23,rfl, ?_, ?_,rfl,j.op6 rfl⟩
       . simp[mm] at hf⊢;omega
       . simp[okl]
     . simp[rdy] at hr;obtain⟨⟨⟨rfl,rfl⟩,rfl⟩,rfl⟩:=hr;obtain⟨c,e5,c1,c2,c3⟩:=j.h5 rfl;obtain⟨xa,xg,xc,e21,-⟩:=uR (j.h3 rfl) j.B23 wx.heap.size j.S.size zR;subst e5 e21;rw[aM qz] at c1;refine⟨_,rfl,fun K hK=> ?_⟩;go_simp;refine hK _ _ ⟨l0,l1,l2,true,l4,true,true,true,t5,_,t20,t21,t22,_,rfl, ?_, ?_,rfl,j.op7 rfl⟩
       . simp[mm] at hf⊢;omega
       . simpa [okl] using hk
     . cases hr
   . rintro l ac wx ⟨l0,l1,l2,l3,l4,l5,l6,l7,t5,t6,t20,t21,t22,t23,rfl,hf,hk,rfl,j⟩;revert hf;clear hk j;revert l0 l1 l2 l3 l4 l5 l6 l7;exact iD kr
   . rintro fuel l ac wx ⟨l0,l1,l2,l3,l4,l5,l6,l7,t5,t6,t20,t21,t22,t23,rfl,hf,hk,rfl,j⟩ he;have hall:(l0&&(l1&&(l2&&(l3&&(l4&&(l5&&(l6&&l7)))))))=true:=by
      revert he;clear hf j;revert hk;revert l0 l1 l2 l3 l4 l5 l6 l7;exact iD kr
     simp only[fT] at hall;obtain⟨rfl,rfl,rfl,rfl,rfl,rfl,rfl,rfl⟩:=hall;have htX:=gh (nz X) n;have htY:=gh (nz Y) m;obtain⟨c,d,gn,gm,an,am,cn,cm,rfl,rfl,G⟩:=j.gd (fun q hq=>hXl q om) (fun q hq=>hYl q om) (fun h=>by have:=h8 (nz X) n h;simpa [nz] using this) (fun h=>by have:=h8 (nz Y) m h;simpa [nz] using this);have HL:=aR (And.intro (ji X n) (ji Y m));have hTD:xe wD:=trivial;clear j he hk hf hXl hYl pX pY;go_wp2_with fail;refine (aah om om om G hTD).mono ?_;rintro e w3 ⟨rfl,ra,rg,rk,rc,Z,z1,z2,z3,z4,z5,z6,z7,z8,z9,z10,z11⟩;have Z7:=aR (And.intro z7 (And.intro z8 z9));clear z7 z8 z9;go_wp2_with fail;go_ret;refine⟨_,rg,rfl,⟨ra,rk,rc,Z,rfl,z2,z3,z4,z5,z6,Z7.out.1,Z7.out.2.1, ?_⟩,om,sA.trans (sM z11 om)⟩;rw[Z7.out.2.2,HL.out.1,HL.out.2]
theorem mO(w:World):fp (w.alloc (.cells #[.int .u32 1] 135)) (.s w.heap.size 1 1) w.heap.size 1 67108864:=by
 refine⟨_,1,1,fun _=>1,rfl,om,om,fun h=>(by cases h),fun j a=> ?_,fun _ o=>by simp[go_sem],fun _ _=>(by show 1<4294967296;omega),fun _=>by decide,by simp[lv]⟩;have e:j=0:=om;subst e;exact⟨rfl,by simp[go_sem]⟩
theorem sL{a b:Option Addr}{ba oa n ca bb ob m cb:Nat}{X Y:Nat->Nat}{w:World}(hw:0<=w.heap.size)(hn:n<=16777216)(hm:m<=16777216)(hnc:n<=ca)(hmc:m<=cb)(hac:a=none->ca=0)(hbc:b=none->cb=0)
 (hX:bE w a ba oa n X)(hY:bE w b bb ob m Y)(hXl:∀j,j<n->X j<4294967296)(hYl:∀j,j<m->Y j<4294967296)(pX:0<n->X (n-1)≠0)(pY:0<m->Y (m-1)≠0)(hT:xe w):
 Cl 166 #[.slice a n ca,.slice b m cb] w fun e w'=>∃v g,e=.returned v/\fp w' v g (Nat.gcd (lv X n) (lv Y m)) 67108864/\w.heap.size<=g/\w.S w':=by
 by_cases hbig:lv X n≠1/\lv Y m≠1/\(2<n∨2<m)
 . exact ako hw hn hm hnc hmc hac hbc hX hY hXl hYl pX pY hT hbig.1 hbig.2.1 hbig.2.2
 have sA:w.S ((w.alloc (.o #[.l a n ca] 138)).alloc (.o #[.l b m cb] 138)):=(cV _ _).alloc qz _;have bx1:((w.alloc (.o #[.l a n ca] 138)).alloc (.o #[.l b m cb] 138)).cell? (jj w.heap.size 0)=some (.l a n ca):=by rw[iE _ _ _ qz];simp[go_sem]
 have bx2:((w.alloc (.o #[.l a n ca] 138)).alloc (.o #[.l b m cb] 138)).cell? (jj (w.heap.size+1) 0)=some (.l b m cb):=by simp[go_sem]
 have zA:w.heap.size+2<=((w.alloc (.o #[.l a n ca] 138)).alloc (.o #[.l b m cb] 138)).heap.size:=by simp
 have XA:=hX.bH sA;have YA:=hY.bH sA;by_cases h1:lv X n=1
 . have eG:Nat.gcd (lv X n) (lv Y m)=1:=(by rw[h1];exact Nat.gcd_one_left _);rw[eG];have d1:decide (lv X n=1)=true:=(by simp[h1]);go_enter func166,ntmps166;go_wp2_with fail;generalize (w.alloc _).alloc _=wA at*;have I1:=js bx1 XA hXl pX;rw[d1] at I1;refine I1.mono ?_;rintro e w1 ⟨rfl,hw1⟩;rw[hw1];go_wp2;go_ret;exact⟨_,wA.heap.size,rfl,mO wA,om,sA.alloc om _⟩
 by_cases h2:lv Y m=1
 . have eG:Nat.gcd (lv X n) (lv Y m)=1:=(by rw[h2];exact Nat.gcd_one_right _);rw[eG];have d1:decide (lv X n=1)=false:=(by simp[h1]);have d2:decide (lv Y m=1)=true:=(by simp[h2]);go_enter func166,ntmps166;go_wp2_with fail;generalize (w.alloc _).alloc _=wA at*;have I1:=js bx1 XA hXl pX;have I2:=js bx2 YA hYl pY;rw[d1] at I1;rw[d2] at I2;refine I1.mono ?_;rintro e w1 ⟨rfl,hw1⟩;rw[hw1];have I2:=aR I2;go_wp2_with fail;refine I2.out.mono ?_;rintro e w1 ⟨rfl,hw1⟩;rw[hw1];go_wp2;go_ret;exact⟨_,wA.heap.size,rfl,mO wA,om,sA.alloc om _⟩
 . have h3:n<=2:=by rcases jI 2 n with h | h; · exact absurd ⟨h1,h2,Or.inl h⟩ hbig
                    . exact h
   have h4:m<=2:=by rcases jI 2 m with h | h; · exact absurd ⟨h1,h2,Or.inr h⟩ hbig
                    . exact h
   have d1:decide (lv X n=1)=false:=(by simp[h1]);have d2:decide (lv Y m=1)=false:=(by simp[h2]);have vX:=uK h3 hXl;have vY:=uK h4 hYl;have vG:Nat.gcd (lv X n) (lv Y m)<18446744073709551616:=by
    rcases cQ (lv X n) with e | e
    . rw[e,oQ];exact vY
    . exact dD (rK _ e) vX
   go_enter func166,ntmps166;go_wp2_with fail;generalize (w.alloc _).alloc _=wA at*;have I1:=js bx1 XA hXl pX;have I2:=js bx2 YA hYl pY;rw[d1] at I1;rw[d2] at I2;refine I1.mono ?_;rintro e w1 ⟨rfl,hw1⟩;rw[hw1];have I2:=aR I2;go_wp2_with fail;refine I2.out.mono ?_;rintro e w1 ⟨rfl,hw1⟩;rw[hw1];go_wp2_with fail;refine (ny h3 bx1).mono ?_;rintro e w1 ⟨rfl,hw1⟩;rw[hw1];go_wp2_with fail;refine (ny h4 bx2).mono ?_;rintro e w1 ⟨rfl,hw1⟩;rw[hw1];go_wp2_with fail;refine (sw h3 bx1 XA hXl).mono ?_;rintro e w1 ⟨rfl,hw1⟩;rw[hw1];go_wp2_with fail;refine (sw h4 bx2 YA hYl).mono ?_;rintro e w1 ⟨rfl,hw1⟩;rw[hw1];go_wp2_with fail;refine (vI vX vY).mono ?_;rintro e w1 ⟨rfl,s1⟩;go_wp2_with fail;refine (tn vG).mono ?_;rintro e w2 ⟨S,rfl,r2,l2,e2,s2⟩;go_wp2_with fail;go_ret;have t2:=gh (nz S) 2;have z1:=(s1.since wA.heap.size).size;have L2:=ip r2;refine⟨_,w1.heap.size,rfl,⟨_,_,_,S,rfl,t2,om,fun h=>(by cases h),L2.take t2,fun _ o=>r2.frozen o,fun j _=>l2 j,fun h=>by have:=h8 (nz S) 2 h;simpa [nz] using this,by rw[ji];exact e2⟩,om, ?_⟩;exact (sA.trans (sM (s1.since wA.heap.size) om)).trans (sM s2 om)
def jx(X:Nat->Nat)(n:Nat):Bool:=n==0 ||X (n-1) != 0
theorem nm:jx X n=true↔(0<n->X (n-1)≠0):=by
 unfold jx;rcases cQ n with h | h
 . simp[h]
 . have:n≠0:=om;simp[this,h]
theorem pc{a:Option Addr}{n m c d:Nat}{X:Nat->Nat}{w:World}(l:c<=16777216)(g:bE w a n m c X):
 Cl 121 #[.slice a c d] w fun e i=>e=.returned (.bool (jx X c))/\i=w:=by
 by_cases f:c=0
 . subst f;go_enter func121,ntmps121;go_wp2;go_ret;exact⟨rfl,rfl⟩
 . obtain⟨k,rfl⟩:∃k,c=k+1:=⟨c-1,om⟩;obtain⟨rfl,j⟩:=g k om;have b:Ending.returned (.bool ((k:Int)+1==0 ||(X k:Int) != 0))=.returned (.bool (jx X (k+1))):=by
    have h:((k:Int)+1==0 ||(X k:Int) != 0)=jx X (k+1):=(by rw[gG];simp[jx];omega);rw[h]
   have b:=aR b;go_enter func121,ntmps121;go_wp2;go_ret;exact⟨b.out,rfl⟩
theorem acd{a:Option Addr}{n m c d:Nat}{X:Nat->Nat}{w:World}(l:c<=16777216)(g:bE w a n m c X):
 Cl 165 #[.slice a c d] w fun e i=>e=.returned (.bool (jx X c))/\i=w:=by
 by_cases f:c=0
 . subst f;go_enter func165,ntmps165;go_wp2;go_ret;exact⟨rfl,rfl⟩
 . obtain⟨k,rfl⟩:∃k,c=k+1:=⟨c-1,om⟩;obtain⟨rfl,j⟩:=g k om;have b:Ending.returned (.bool ((k:Int)+1==0 ||(X k:Int) != 0))=.returned (.bool (jx X (k+1))):=by
    have h:((k:Int)+1==0 ||(X k:Int) != 0)=jx X (k+1):=(by rw[gG];simp[jx];omega);rw[h]
   have b:=aR b;go_enter func165,ntmps165;go_wp2;go_ret;exact⟨b.out,rfl⟩
theorem gu{a:Option Addr}{n m c d:Nat}{X:Nat->Nat}{w:World}(l:c<=1)(f:bE w a n m c X)(g:∀j,j<c->X j<4294967296):
 Cl 124 #[.slice a c d] w fun e k=>e=.returned (.int .u64 (lv X c:Nat))/\k=w:=by
 by_cases b:c=0
 . subst b;go_enter func124,ntmps124;go_wp2;go_ret;exact⟨rfl,rfl⟩
 . have e:c=1:=om;subst e;obtain⟨rfl,h⟩:=f 0 om;have hl:=g 0 om;rw[fV] at h;have i:lv X 1=X 0:=(by simp[lv]);rw[i];go_enter func124,ntmps124;go_wp2;go_ret;exact⟨rfl,rfl⟩
theorem xJ{n m:Nat}{w:World}(g:n<18446744073709551616)(i:m<18446744073709551616):
 Cl 123 #[.int .u64 n,.int .u64 m] w fun e j=>e=.returned (.int .u64 (Nat.gcd n m))/\j=w:=by
 go_enter func123,ntmps123;go_wp2;go_loopw [0,1] (fun p q wr=>∃s t:Nat,p=.int .u64 s/\q=.int .u64 t/\s<18446744073709551616/\t<18446744073709551616/\Hid (Nat.gcd s t=Nat.gcd n m)/\wr=w) (fun _ q _=>(intOf q).toNat)
 case atStart=>exact⟨n,m,rfl,rfl,g,i,rfl,rfl⟩
 case round=>
  obtain⟨s,t,rfl,rfl,v,f,b,rfl⟩:=hrel;by_cases d:t=0
  . subst d;go_wp2;go_ret;exact⟨gL (congrArg (fun n:Nat=>(n:Int)) (by have:=b.out;rwa[rR] at this)),rfl⟩
  . have k:((t:Int)==0)=false:=(by simp;omega);have l:¬(t:Int)=0:=om;obtain⟨r,a⟩:∃r,r=s % t:=⟨_,rfl⟩;have u:r<t:=(by rw[a];exact iS _ om);have o:IntKind.u64.wrap ((s:Int) % (t:Int))=(r:Int):=(by rw[<-lK,<-a];exact fB r om);have c:=aR a;go_wp2;go_roundw
    case rel=>
     refine⟨t,r,rfl, ?_,f,om, ?_,by trivial⟩
     . first | rfl | exact congrArg (Value.int .u64) (by rw[c.out,lK])
     . have h:=b.out;rw[jN,Nat.gcd_rec,<-c.out,jN] at h;exact h
    case measure=>simp[intOf];have:=Int.emod_lt_of_pos (s:Int) (show (0:Int)<t by omega);omega
def fF(neg:Bool)(X:Nat->Nat)(n:Nat)(Y:Nat->Nat)(m:Nat):Bool:=
 jx X n&&jx Y m&&m != 0&& !(neg&&n==0)&&Nat.gcd (lv X n) (lv Y m)==1
theorem adQ{neg:Bool}{a b:Option Addr}{ba oa n ca bb ob m cb:Nat}{X Y:Nat->Nat}{w:World}(_hw:0<=w.heap.size)(hn:n<=16777216)(hm:m<=16777216)(hnc:n<=ca)(hmc:m<=cb)(hac:a=none->ca=0)(hbc:b=none->cb=0)
 (hX:bE w a ba oa n X)(hY:bE w b bb ob m Y)(hXl:∀j,j<n->X j<4294967296)(hYl:∀j,j<m->Y j<4294967296)(_hT:xe w):
 Cl 140 #[.agg #[.bool neg,.slice a n ca,.slice b m cb]] w fun e w'=>e=.returned (.bool (fF neg X n Y m))/\w.S w':=by
 have sA:=cV w (.o #[.bool neg,.l a n ca,.l b m cb] 83);have I1:=@acd a ba oa n ca X _ hn (hX.bH sA);have I2:=@acd b bb ob m cb Y _ hm (hY.bH sA);by_cases h1:jx X n=false
 . have HR:=aR (show false=fF neg X n Y m by simp[fF,h1]);rw[h1] at I1;go_enter func140,ntmps140;go_wp2_with fail;refine I1.mono ?_;rintro e w1 ⟨rfl,rfl⟩;go_wp2;go_ret;exact⟨jk HR.out,sA⟩
 have h1:jx X n=true:=by simpa using h1
 rw[h1] at I1;by_cases h2:jx Y m=false
 . have HR:=aR (show false=fF neg X n Y m by simp[fF,h2]);rw[h2] at I2;go_enter func140,ntmps140;go_wp2_with fail;refine I1.mono ?_;rintro e w1 ⟨rfl,rfl⟩;go_wp2_with fail;refine I2.mono ?_;rintro e w1 ⟨rfl,rfl⟩;go_wp2;go_ret;exact⟨jk HR.out,sA⟩
 have h2:jx Y m=true:=by simpa using h2
 rw[h2] at I2;have pX:=aR (nm.1 h1);have pY:=aR (nm.1 h2);by_cases h3:m=0
 . have HR:=aR (show false=fF neg X n Y m by simp[fF,h3]);subst h3;go_enter func140,ntmps140;go_wp2_with fail;refine I1.mono ?_;rintro e w1 ⟨rfl,rfl⟩;go_wp2_with fail;refine I2.mono ?_;rintro e w1 ⟨rfl,rfl⟩;go_wp2;go_ret;exact⟨jk HR.out,sA⟩
 have q3:((m:Int)==0)=false:=by simp;omega
 by_cases h4:neg=true/\n=0
 . obtain⟨rfl,rfl⟩:=h4;have HR:=aR (show false=fF true X 0 Y m by simp[fF]);go_enter func140,ntmps140;go_wp2_with fail;refine I1.mono ?_;rintro e w1 ⟨rfl,rfl⟩;go_wp2_with fail;refine I2.mono ?_;rintro e w1 ⟨rfl,rfl⟩;go_wp2;go_ret;exact⟨jk HR.out,sA⟩
 have HR:=aR (show (decide (Nat.gcd (lv X n) (lv Y m)=1))=fF neg X n Y m by
  have e3:(m != 0)=true:=by simp[h3]
  have e4:(neg&&n==0)=false:=by cases neg<;>simp at h4⊢;exact h4
  rw[gG];simp[fF,h1,h2,e3,e4])
 have q4:(neg&&(n:Int)==0)=false:=by
  cases neg
  . rfl
  . simp at h4⊢;omega
 have tA:=trivial;have I3:=sL (aJ _) hn hm hnc hmc hac hbc (hX.bH sA) (hY.bH sA) hXl hYl pX.out pY.out tA;go_enter func140,ntmps140;go_wp2_with fail;refine I1.mono ?_;rintro e w1 ⟨rfl,rfl⟩;go_wp2_with fail;refine I2.mono ?_;rintro e w1 ⟨rfl,rfl⟩;cases neg
 . clear q4;go_wp2_with fail;refine I3.mono ?_;rintro e w3 ⟨v,g,rfl,⟨a3,k,c3,Z,rfl,k1,k2,k3,L,F,l,p,e3⟩,hg,s3⟩;have E:=aR e3;clear e3 I1 I2 I3;go_wp2_with fail;refine (@js w3.heap.size 0 a3 g 0 k c3 Z _ (by simp[go_sem]) (L.bH (cV _ _)) l p).mono ?_;rintro e w4 ⟨rfl,rfl⟩;go_wp2;go_ret;exact⟨jk (by rw[E.out];exact HR.out),(sA.trans (sM s3 qz)).alloc (aU qz s3.size) _⟩
 . have q5:((n:Int)==0)=false:=(by simpa using q4);go_wp2_with fail;refine I3.mono ?_;rintro e w3 ⟨v,g,rfl,⟨a3,k,c3,Z,rfl,k1,k2,k3,L,F,l,p,e3⟩,hg,s3⟩;have E:=aR e3;clear e3 I1 I2 I3;go_wp2_with fail;refine (@js w3.heap.size 0 a3 g 0 k c3 Z _ (by simp[go_sem]) (L.bH (cV _ _)) l p).mono ?_;rintro e w4 ⟨rfl,rfl⟩;go_wp2;go_ret;exact⟨jk (by rw[E.out];exact HR.out),(sA.trans (sM s3 qz)).alloc (aU qz s3.size) _⟩
def nb(v j:Nat):Bool:=v/2^j % 2==1
theorem aou(n m:Nat):bv (nb n) m=n % 2^m:=by
 induction m with
 | zero=>simp[bv,rX]
 | succ m ih=>
   have h:bv (nb n) (m+1)=bv (nb n) m+(nb n m).toNat*2^m:=rfl;rw[h,ih];unfold nb;rw[dt,iH,Nat.mod_mul,cJ (2^m)]
theorem aeY{n:Nat}{w:World}(r:n<18446744073709551616):
 Cl 128 #[.int .u64 n] w fun e S=>∃x t B,e=.returned x/\t<=64/\Tr S x t B/\bv B t=n/\w.S S:=by
 obtain⟨M,E,I,K,L⟩:=kT bj;go_enter func128,ntmps128;go_wp2;go_loopw [0,3] (fun p o wr=>∃k q:Nat,k<=64/\p=.int .u64 q/\q<18446744073709551616/\Hid (q=n/2^k)/\Hid (0<k->0<n/2^(k-1))/\wr.ownsRow w.heap.size 4 1 o k (bl (nb n) k)/\w.S wr) (fun p _ _=>(intOf p).toNat)
 case atStart=>exact⟨0,n,om,rfl,r,aR qz,aR (fun h=>absurd h om),iP w #[] 0 zR qd rfl,cV _ _⟩
 case round=>
  obtain⟨k,q,c,rfl,P,a,u,d,b⟩:=hrel;by_cases f:q=0
  . subst f;obtain⟨y,g,z,rfl,F,N,C⟩:=afT d;go_wp2;go_ret;have m:n<2^k:=by
     have:=a.out;have i:0<2^k:=fX om;rcases jI n (2^k) with h | h
     . exact h
     . have:=tS h i;omega
    refine⟨_,k,nb n,rfl,c,⟨y,g,0,z,rfl,F,C,fun h=> ?_⟩,(aou n k).trans (iC m),b⟩;have A:=u.out h;obtain⟨j,rfl⟩:∃j,k=j+1:=⟨k-1,om⟩;have i:n/2^j<2:=(by rw[gJ (fX om)];rw[iH] at m;omega);simp only[cF] at A⊢;unfold nb;rw[show n/2^j=1 by omega];rfl
  . have O:k<64:=by
     rcases jI k 64 with h | h
     . exact h
     . have e:k=64:=om;subst e;have:=a.out;rw[iI r] at this;omega
    have G:0<q:=om;have l:((q:Int) % 2==1)=nb n k:=(by rw[gG];simp only[nb,jJ,<-a.out];omega);have s:=aR l;clear l f;go_wp2_with (at_builtin;refine gK _ rfl _ _ 47 rfl w.heap.size 4 M (.bool false) 1 1 underlying47 E I K L rfl qd _ _ _ rfl (d.alloc _) (jj wr.heap.size 0) 1 1 [.bool ((q:Int) % 2==1)] rfl rfl (kh _ _ _) (one_one _ rfl) (by unfold maxLen;omega) om (by have:=b.size;simp;omega) ?_);intro Q R v D _;have H:=(b.alloc b.size _).grown D (by have:=b.size;simp;omega) (fun k c=>(d.lt k c).1);rw[s.out,<-eT] at v;go_wp2;go_roundw
    case rel=>exact⟨k+1,q/2,om,by go_num,om,aR (by rw[a.out,mU,iH]),aR (fun _=>by rw[cF,<-a.out];exact G),v,H⟩
    case measure=>exact yI
def jh(X:Nat->Nat)(n:Nat)(Y:Nat->Nat)(m:Nat):Bool:=decide (n<=1/\m<=1/\lv X n<2147483648/\lv Y m<2147483648)
theorem oH:jh X n Y m=true↔n<=1/\m<=1/\lv X n<2147483648/\lv Y m<2147483648:=by unfold jh;exact jU
theorem ac8(h:¬(n<=1/\m<=1/\lv X n<2147483648/\lv Y m<2147483648)):false=jh X n Y m:=by
 cases e:jh X n Y m
 . rfl
 . exact absurd (oH.1 e) h
theorem iq{f:Bool}{a A:Option Addr}{n m c d k i j l:Nat}{X Y:Nat->Nat}{w:World}(F:c<=16777216)(E:j<=16777216)
 (p:bE w a n m c X)(r:bE w A k i j Y)(q:∀h,h<c->X h<4294967296)(s:∀h,h<j->Y h<4294967296):
 Cl 122 #[.agg #[.bool f,.slice a c d,.slice A j l]] w fun e G=>e=.returned (.bool (jh X c Y j))/\w.S G:=by
 have g:=cV w (.o #[.bool f,.l a c d,.l A j l] 83);by_cases C:1<c
 . have b:=aR (ac8 (X:=X) (Y:=Y) (n:=c) (m:=j) om);go_enter func122,ntmps122;go_wp2;go_ret;exact⟨jk b.out,g⟩
 by_cases D:1<j
 . have b:=aR (ac8 (X:=X) (Y:=Y) (n:=c) (m:=j) om);go_enter func122,ntmps122;go_wp2;go_ret;exact⟨jk b.out,g⟩
 have v:=@gu a n m c d X _ om (p.bH g) q;have z:=@gu A k i j l Y _ om (r.bH g) s;have C:c<=1:=om;have D:j<=1:=om;obtain⟨x,t⟩:∃x:Int,x=((lv X c:Nat):Int):=⟨_,rfl⟩;obtain⟨y,u⟩:∃y:Int,y=((lv Y j:Nat):Int):=⟨_,rfl⟩;rw[<-t] at v;rw[<-u] at z;have b:Hid ((decide (x<2147483648)&&decide (y<2147483648))=jh X c Y j):=by show _=_;rw[gG,fT,jU,jU,oH];omega
 clear p r q s t u;by_cases o:x<2147483648
 . have b:Hid (decide (y<2147483648)=jh X c Y j):=(by rw[<-b.out];simp[Hid,o]);go_enter func122,ntmps122;go_wp2_with fail;refine v.mono ?_;rintro e B ⟨rfl,rfl⟩;go_wp2_with fail;refine z.mono ?_;rintro e B ⟨rfl,rfl⟩;go_wp2;go_ret;exact⟨jk b.out,g⟩
 . have b:Hid (false=jh X c Y j):=(by rw[<-b.out];simp[Hid,o]);go_enter func122,ntmps122;go_wp2_with fail;refine v.mono ?_;rintro e B ⟨rfl,rfl⟩;go_wp2;go_ret;exact⟨jk b.out,g⟩
theorem cA(w:World)(u U z:Value)(t:TypeId):(w.alloc (.cells #[u,U,z] t)).cell? (jj w.heap.size 0)=some u/\(w.alloc (.cells #[u,U,z] t)).cell? (jj w.heap.size 1)=some U/\(w.alloc (.cells #[u,U,z] t)).cell? (jj w.heap.size 2)=some z:=by
 simp[go_sem]
theorem alH(n:Nat):(li n 1==0)=decide (n=1):=by
 rw[gG];simp only[jJ,mG];constructor
 . intro h;rcases kD n 1 with a | a | a
   . rw[vV a] at h;cases h
   . exact a
   . rw[bu a] at h;cases h
 . intro h;exact eR h
theorem afM{p:Prop}(h:p:=by
 go_wp2_with fail;refine I3.mono ?_;rintro e w1 ⟨rfl,s1⟩;clear I3;have zA:w.heap.size<wA.heap.size:=aG _ _ c0;have d1:w1.cell? (jj w.heap.size 1)=some (.l a n ca):=(s1.cell (a:=jj w.heap.size 1) zA).trans c1;have d2:w1.cell? (jj w.heap.size 2)=some (.l b m cb):=(s1.cell (a:=jj w.heap.size 2) zA).trans c2;have S1:w.S w1.drew:=by have h:=sA.trans (sM s1 sA.size);exact⟨h.os,h.tape,h.output,h.size,h.block⟩
 have z1:w.heap.size<w1.drew.heap.size:=aS zA s1.size;have X0:=XA.bH s1;have Y0:=YA.bH s1;have X1:bE w1.drew a ba oa n X:=X0;have Y1:bE w1.drew b bb ob m Y:=Y0;have XL:=aR hXl;have YL:=aR hYl;clear hXl hYl XA YA s1 c0 c1 c2 X0 Y0;go_wp2;have J1:=@gu a ba oa n ca X w1.drew y1 X1 XL.out;have J2:=@gu b bb ob m cb Y w1.drew y2 Y1 YL.out;have J3:=@xJ (lv X n) (lv Y m) w1.drew V.out.1 V.out.2;clear V XL YL X1 Y1;obtain⟨gg,hgg⟩:∃gg,gg=Nat.gcd (lv X n) (lv Y m):=⟨_,rfl⟩;obtain⟨xx,hxx⟩:∃xx,xx=lv X n:=⟨_,rfl⟩;obtain⟨yy,hyy⟩:∃yy,yy=lv Y m:=⟨_,rfl⟩;have HR:=aR ((show decide (gg=1)=decide (Nat.gcd (lv X n) (lv Y m)=1) by rw[hgg]).trans HR.out);rw[<-hgg,<-hxx,<-hyy] at J3;rw[<-hxx] at J1;rw[<-hyy] at J2;clear hgg hxx hyy
 go_region_held3 (fun w'=>w'.cell? (jj w.heap.size 1)=some (.l a n ca)/\w'.cell? (jj w.heap.size 2)=some (.l b m cb)) (go_keep)
  (first | (go_at_call 123;with_reducible refine J3.mono ?_;rintro e w' ⟨rfl,rfl⟩) | (go_at_call 124;first | (with_reducible refine J1.mono ?_;rintro e w' ⟨rfl,rfl⟩) | (with_reducible refine J2.mono ?_;rintro e w' ⟨rfl,rfl⟩)))
 all_goals go_wp2
 all_goals go_ret
 all_goals exact⟨jk (by rw[<-HR.out,gG];simp only[jJ,mG];omega),S1⟩):p:=h
theorem ack{b:Option Addr}{ba oa n ca bb ob m cb:Nat}(s:n<=16777216)(r:m<=16777216)
 (l:bE w a ba oa n X)(o:bE w b bb ob m Y)(hXl:∀j,j<n->X j<4294967296)(hYl:∀j,j<m->Y j<4294967296)(i:jx X n=true)(k:jx Y m=true)(A:¬m=0)(d:¬(n=0/\f=true))(q:jh X n Y m=true):
 Cl 77 #[.agg #[.bool f,.slice a n ca,.slice b m cb]] w fun e w'=>e=.returned (.bool (fF f X n Y m))/\w.S w':=by
 have sA:=cV w (.o #[.bool f,.l a n ca,.l b m cb] 83);have c:=@pc a ba oa n ca X _ s (l.bH sA);have g:=@pc b bb ob m cb Y _ r (o.bH sA);rw[i] at c;rw[k] at g;have E:((m:Int)==0)=false:=by simp;omega
 have HR:=aR (show (decide (Nat.gcd (lv X n) (lv Y m)=1))=fF f X n Y m by
  have y:(m != 0)=true:=by simp[A]
  have z:(f&&n==0)=false:=by cases f<;>simp at d⊢;exact d
  rw[gG];simp[fF,i,k,y,z])
 obtain⟨c0,c1,c2⟩:=cA w (.bool f) (.l a n ca) (.l b m cb) 83;have I3:=@iq f a b ba oa n ca bb ob m cb X Y _ s r (l.bH sA) (o.bH sA) hXl hYl;have v:Hid (n=0->f=false):=fun h=>by cases f;rfl;exact absurd ⟨h,rfl⟩ d
 clear i k d;have XA:=l.bH sA;have YA:=o.bH sA;obtain⟨y1,y2,C,D⟩:=oH.1 q;have t:lv X n<18446744073709551616:=om;have u:lv Y m<18446744073709551616:=om;have V:=aR (And.intro t u);rw[q] at I3;clear q C D t u;go_enter func77,ntmps77;go_wp2_with fail;refine c.mono ?_;rintro e w1 ⟨rfl,rfl⟩;go_wp2_with fail;refine g.mono ?_;rintro e w1 ⟨rfl,rfl⟩;clear c g;generalize w.alloc _=wA at*;obtain⟨x,B⟩:∃b,((n:Int)==0)=b:=⟨_,rfl⟩;cases x
 . exact afM
 . obtain rfl:f=false:=v.out (by simpa using B);exact afM
theorem akQ{p:Prop}(h:p:=by
 go_wp2_with fail;refine I3.mono ?_;rintro e w1 ⟨rfl,s1⟩;clear I3;have zA:w.heap.size<wA.heap.size:=aG _ _ c0;have d1:w1.cell? (jj w.heap.size 1)=some (.l a n ca):=(s1.cell (a:=jj w.heap.size 1) zA).trans c1;have d2:w1.cell? (jj w.heap.size 2)=some (.l b m cb):=(s1.cell (a:=jj w.heap.size 2) zA).trans c2;have S1:w.S w1.drew:=by have h:=sA.trans (sM s1 sA.size);exact⟨h.os,h.tape,h.output,h.size,h.block⟩
 have z1:w.heap.size<w1.drew.heap.size:=aS zA s1.size;have X0:=XA.bH s1;have Y0:=YA.bH s1;have X1:bE w1.drew a ba oa n X:=X0;have Y1:bE w1.drew b bb ob m Y:=Y0;have XL:=aR hXl;have YL:=aR hYl;clear hXl hYl XA YA s1 c0 c1 c2 X0 Y0;go_wp2;have J1:=@im a ba oa n ca X w1.drew om X1 XL.out
 go_region_held3 (fun w'=>w'.cell? (jj w.heap.size 1)=some (.l a n ca)/\w'.cell? (jj w.heap.size 2)=some (.l b m cb)) (go_keep)
  (first
    | (go_at_call 127
       first
        | (with_reducible refine J1.mono ?_
           rintro e w2 ⟨a1,g1,m1,t1,B1,rfl,k1,k2,L1,-,p1,e1,s2⟩;have T1:Tr w2 (.l a1 m1 t1) m1 B1:=⟨a1,g1,0,t1,rfl,k1,L1,p1⟩;have E1:=aR e1;clear L1 p1 e1;have z2:=s2.size;have J2:=@im b bb ob m cb Y w2 om (Y1.bH s2) YL.out;have f1:w2.cell? (jj w.heap.size 1)=some (.l a n ca):=(s2.cell (a:=jj w.heap.size 1) z1).trans d1;have f2:w2.cell? (jj w.heap.size 2)=some (.l b m cb):=(s2.cell (a:=jj w.heap.size 2) z1).trans d2)
        | (with_reducible refine J2.mono ?_
           rintro e w3 ⟨a2,g2,m2,t2,B2,rfl,q1,q2,L2,-,p2,e2,s3⟩;have T2:Tr w3 (.l a2 m2 t2) m2 B2:=⟨a2,g2,0,t2,rfl,q1,L2,p2⟩;have E2:=aR e2;clear L2 p2 e2;have T1':=T1.bH s3;have J3:=@aaa _ _ m1 m2 B1 B2 w3 om om T1' T2;have S3:=(S1.trans (sM s2 S1.size)).trans (sM s3 (aU S1.size s2.size));have f3:w3.cell? (jj w.heap.size 1)=some (.l a n ca):=(s3.cell (a:=jj w.heap.size 1) (aS z1 z2)).trans f1;have f4:w3.cell? (jj w.heap.size 2)=some (.l b m cb):=(s3.cell (a:=jj w.heap.size 2) (aS z1 z2)).trans f2;have z3:=s3.size))
    | (go_at_call 126;(with_reducible refine J3.mono ?_);rintro e w4 ⟨v,t,O,rfl,ht,T3,e3,s4⟩;have E3:=aR e3;have J4:Cl 128 #[.int .u64 1] w4 _:=@aeY 1 w4 om;clear e3;have f5:w4.cell? (jj w.heap.size 1)=some (.l a n ca):=(s4.cell (a:=jj w.heap.size 1) (aS z1 (aU z2 z3))).trans f3;have f6:w4.cell? (jj w.heap.size 2)=some (.l b m cb):=(s4.cell (a:=jj w.heap.size 2) (aS z1 (aU z2 z3))).trans f4;have z4:=s4.size)
    | (go_at_call 128;(with_reducible refine J4.mono ?_);rintro e w5 ⟨x,t5,B5,rfl,ht5,T5,e5,s5⟩;have E5:=aR e5;clear e5;obtain⟨a3,b3,o3,c3,rfl,-,L3,p3⟩:=T3.bH s5;obtain⟨a5,b5,o5,c5,rfl,-,L5,p5⟩:=T5;have S5:=(S3.trans (sM s4 S3.size)).trans (sM s5 (aU S3.size s4.size));have f7:w5.cell? (jj w.heap.size 1)=some (.l a n ca):=(s5.cell (a:=jj w.heap.size 1) (aS z1 (aU (aU z2 z3) z4))).trans f5;have f8:w5.cell? (jj w.heap.size 2)=some (.l b m cb):=(s5.cell (a:=jj w.heap.size 2) (aS z1 (aU (aU z2 z3) z4))).trans f6;have J:=@rj a3 a5 b3 o3 t c3 b5 o5 t5 c5 O B5 w5 om om L3 L5 p3 p5;rw[E5.out,E3.out,E1.out,E2.out] at J;clear T3 L3 L5 p3 p5)
    | (go_at_call 125;(with_reducible refine J.mono ?_);rintro e w6 ⟨rfl,s6⟩;have f9:w6.cell? (jj w.heap.size 1)=some (.l a n ca):=(by rw[s6.cell];exact f7);have f10:w6.cell? (jj w.heap.size 2)=some (.l b m cb):=by rw[s6.cell];exact f8))
 all_goals go_wp2
 all_goals go_ret
 all_goals exact⟨jk ((alH (Nat.gcd (lv X n) (lv Y m))).trans HR.out),S5.trans (s6.since _)⟩):p:=h
theorem adB{b:Option Addr}{ba oa n ca bb ob m cb:Nat}(r:n<=16777216)(q:m<=16777216)
 (l:bE w a ba oa n X)(o:bE w b bb ob m Y)(hXl:∀j,j<n->X j<4294967296)(hYl:∀j,j<m->Y j<4294967296)(i:jx X n=true)(k:jx Y m=true)(A:¬m=0)(d:¬(n=0/\f=true))(s:¬jh X n Y m=true):
 Cl 77 #[.agg #[.bool f,.slice a n ca,.slice b m cb]] w fun e w'=>e=.returned (.bool (fF f X n Y m))/\w.S w':=by
 have sA:=cV w (.o #[.bool f,.l a n ca,.l b m cb] 83);have c:=@pc a ba oa n ca X _ r (l.bH sA);have g:=@pc b bb ob m cb Y _ q (o.bH sA);rw[i] at c;rw[k] at g;have C:((m:Int)==0)=false:=by simp;omega
 have HR:=aR (show (decide (Nat.gcd (lv X n) (lv Y m)=1))=fF f X n Y m by
  have e3:(m != 0)=true:=by simp[A]
  have z:(f&&n==0)=false:=by cases f<;>simp at d⊢;exact d
  rw[gG];simp[fF,i,k,e3,z])
 obtain⟨c0,c1,c2⟩:=cA w (.bool f) (.l a n ca) (.l b m cb) 83;have I3:=@iq f a b ba oa n ca bb ob m cb X Y _ r q (l.bH sA) (o.bH sA) hXl hYl;have u:Hid (n=0->f=false):=fun h=>by cases f;rfl;exact absurd ⟨h,rfl⟩ d
 clear i k d;have XA:=l.bH sA;have YA:=o.bH sA;rw[show jh X n Y m=false by simpa using s] at I3;clear s;go_enter func77,ntmps77;go_wp2_with fail;refine c.mono ?_;rintro e w1 ⟨rfl,rfl⟩;go_wp2_with fail;refine g.mono ?_;rintro e w1 ⟨rfl,rfl⟩;clear c g;generalize w.alloc _=wA at*;obtain⟨y,B⟩:∃b,((n:Int)==0)=b:=⟨_,rfl⟩;cases y
 . exact akQ
 . obtain rfl:f=false:=u.out (by simpa using B);exact akQ
theorem adC{f:Bool}{a A:Option Addr}{n m c d k i j l:Nat}{X Y:Nat->Nat}{w:World}(u:c<=16777216)(z:j<=16777216)
 (x:bE w a n m c X)(y:bE w A k i j Y)(B:∀r,r<c->X r<4294967296)(C:∀r,r<j->Y r<4294967296):
 Cl 77 #[.agg #[.bool f,.slice a c d,.slice A j l]] w fun e F=>e=.returned (.bool (fF f X c Y j))/\w.S F:=by
 have p:=cV w (.o #[.bool f,.l a c d,.l A j l] 83);have h:=@pc a n m c d X _ u (x.bH p);have t:=@pc A k i j l Y _ z (y.bH p);by_cases b:jx X c=false
 . have g:=aR (show false=fF f X c Y j by simp[fF,b]);rw[b] at h;clear b;go_enter func77,ntmps77;go_wp2_with fail;refine h.mono ?_;rintro e q ⟨rfl,rfl⟩;go_wp2;go_ret;exact⟨jk g.out,p⟩
 have b:jx X c=true:=by simpa using b
 rw[b] at h;by_cases o:jx Y j=false
 . have g:=aR (show false=fF f X c Y j by simp[fF,o]);rw[o] at t;clear b o;go_enter func77,ntmps77;go_wp2_with fail;refine h.mono ?_;rintro e q ⟨rfl,rfl⟩;go_wp2_with fail;refine t.mono ?_;rintro e q ⟨rfl,rfl⟩;go_wp2;go_ret;exact⟨jk g.out,p⟩
 have o:jx Y j=true:=by simpa using o
 rw[o] at t;by_cases s:j=0
 . have g:=aR (show false=fF f X c Y j by simp[fF,s]);clear b o;subst s;go_enter func77,ntmps77;go_wp2_with fail;refine h.mono ?_;rintro e q ⟨rfl,rfl⟩;go_wp2_with fail;refine t.mono ?_;rintro e q ⟨rfl,rfl⟩;go_wp2;go_ret;exact⟨jk g.out,p⟩
 have E:((j:Int)==0)=false:=by simp;omega
 by_cases v:c=0/\f=true
 . obtain⟨rfl,rfl⟩:=v;have g:=aR (show false=fF true X 0 Y j by simp[fF]);clear b o;go_enter func77,ntmps77;go_wp2_with fail;refine h.mono ?_;rintro e q ⟨rfl,rfl⟩;go_wp2_with fail;refine t.mono ?_;rintro e q ⟨rfl,rfl⟩;go_wp2;go_ret;exact⟨jk g.out,p⟩
 by_cases D:jh X c Y j=true
 . exact ack u z x y B C b o s v D
 . exact adB u z x y B C b o s v D
theorem eW(d:c<=16777216)(f:n<=c):
 Cl 76 #[.slice a n m,.i c] w fun e b=>e=.returned (.i ((c-n:Nat):Int))/\b=w:=by
 have h:(c:Int)-n=((c-n:Nat):Int):=om;have H:=aR h;clear h;go_enter func76,ntmps76;go_wp2;go_ret;exact⟨gL H.out,rfl⟩
theorem akD(d:c<=16777216)(g:c<n)(f:n<=9223372036854775807):
 Cl 76 #[.slice a n m,.i c] w fun e b=>e=.returned (.i (-1))/\b=w:=by
 go_enter func76,ntmps76;go_wp2;go_ret;exact⟨rfl,rfl⟩
theorem akE{k:Nat}(g:k<=16777216)(j:n+c<=k):
 Cl 38 #[.agg #[.bool f,.slice a n m,.slice A c d],.i k] w fun e b=>e=.returned (.i ((k-n-c:Nat):Int))/\w.S b:=by
 have h:=cV w (.o #[.bool f,.l a n m,.l A c d] 76);go_enter func38,ntmps38;go_wp2_with fail;refine (eW g om).mono ?_;rintro e i ⟨rfl,rfl⟩;go_wp2_with fail;refine (eW om om).mono ?_;rintro e i ⟨rfl,rfl⟩;go_wp2;go_ret;exact⟨rfl,h⟩
theorem akF{k:Nat}(b:k<=16777216)(o:k<n+c)(l:n<=9223372036854775807)(g:c<=9223372036854775807):
 Cl 38 #[.agg #[.bool f,.slice a n m,.slice A c d],.i k] w fun e p=>e=.returned (.i (-1))/\w.S p:=by
 have i:=cV w (.o #[.bool f,.l a n m,.l A c d] 76);by_cases h:k<n
 . go_enter func38,ntmps38;go_wp2_with fail;refine (akD b h l).mono ?_;rintro e j ⟨rfl,rfl⟩;go_wp2;go_ret;exact⟨rfl,i⟩
 . go_enter func38,ntmps38;go_wp2_with fail;refine (eW b om).mono ?_;rintro e j ⟨rfl,rfl⟩;go_wp2_with fail;refine (akD om om g).mono ?_;rintro e j ⟨rfl,rfl⟩;go_wp2;go_ret;exact⟨rfl,i⟩
theorem ajo{k:Nat}(hn:c<=16777216)(hm:j<=16777216)(al:bE w a n m c X)(hY:bE w A k i j Y):
 Cl 53 #[.agg #[.bool f,.slice a c d,.slice A j l]] w fun e q=>∃g h,e=.returned (.agg #[.bool f,.s g c c,.s h j j])/\w.S q/\w.heap.size<=g/\g<h/\
  h<q.heap.size/\bE q (jp g 0) g 0 c X/\bE q (jp h 0) h 0 j Y/\(∀o,q.frozen? (jj g o)=false)/\(∀o,q.frozen? (jj h o)=false):=by
 have O:w.S (((w.alloc (.o #[.bool f,.l a c d,.l A j l] 76)).alloc yJ).alloc (.o #[.bool f,.n,.n] 83)):=
  ((cV _ _).alloc qz _).alloc (by simp;omega) _
 have zA:(((w.alloc (.o #[.bool f,.l a c d,.l A j l] 76)).alloc yJ).alloc (.o #[.bool f,.n,.n] 83)).heap.size=w.heap.size+1+1+1:=by simp
 have G:cR (((w.alloc (.o #[.bool f,.l a c d,.l A j l] 76)).alloc yJ).alloc (.o #[.bool f,.n,.n] 83)) w.heap.size (.bool f) (.l a c d) (.l A j l):=((cR.new w _ _ _ _).bH (cV _ _)).bH (cV _ _);have N:cR (((w.alloc (.o #[.bool f,.l a c d,.l A j l] 76)).alloc yJ).alloc (.o #[.bool f,.n,.n] 83)) (w.heap.size+1) (.bool false) (.n) (.n):=by have:=(cR.new (w.alloc (.o #[.bool f,.l a c d,.l A j l] 76)) (.bool false) (.n) (.n) 83).bH (yD.alloc zR (.o #[.bool f,.n,.n] 83));simpa using this
 have K:cR (((w.alloc (.o #[.bool f,.l a c d,.l A j l] 76)).alloc yJ).alloc (.o #[.bool f,.n,.n] 83)) (w.heap.size+1+1) (.bool f) (.n) (.n):=by have:=cR.new ((w.alloc (.o #[.bool f,.l a c d,.l A j l] 76)).alloc yJ) (.bool f) (.n) (.n) 83;simpa using this
 go_enter func53,ntmps53;go_wp2_with fail;generalize (((w.alloc _).alloc _).alloc _)=Q at*;refine (ak9 hn (al.bH O)).mono ?_;rintro e b ⟨rfl,s,u⟩;have z1:=s.size;have F:=G.bH s;have L:=N.bH s;have t:=K.bH s;have T:=O.tr s;have y:=ip u;have x:∀o,b.frozen? (jj Q.heap.size o)=false:=fun o=>u.frozen o;have t1:Q.heap.size<b.heap.size:=u.lt;rw[zA] at y x t1;clear u G N K;have k1:=F.c2;have k2:=t.c1;have k3:=t.f 1;go_wp2_with fail;clear k1 k2 k3;have r:aV b (b.setCell (jj (w.heap.size+1+1) 1) (.s (w.heap.size+1+1+1) c c)) (w.heap.size+1+1):=(aV.refl b _).setCell _ _;have H:=t.gM (.s (w.heap.size+1+1+1) c c);have M:=L.marked r om;have E:w.S (b.setCell (jj (w.heap.size+1+1) 1) (.s (w.heap.size+1+1+1) c c)):=T.trans (r.since om);have D:=y.marked r (fun _=>by omega);have Z:∀o,(b.setCell (jj (w.heap.size+1+1) 1) (.s (w.heap.size+1+1+1) c c)).frozen? (jj (w.heap.size+1+1+1) o)=false:=fun o=>by rw[r.hU (a:=jj (w.heap.size+1+1+1) o) (by show w.heap.size+1+1+1≠_;omega)];exact x o
 have z2:=r.size;generalize b.setCell (jj (w.heap.size+1+1) 1) (.s (w.heap.size+1+1+1) c c)=P at*;refine (ak9 hm (hY.bH E)).mono ?_;rintro e V ⟨rfl,p,v⟩;have z3:=p.size;have z:=M.bH p;have I:=H.bH p;have ak:=E.tr p;have S:=D.bH p;have R:∀o,V.frozen? (jj (w.heap.size+1+1+1) o)=false:=fun o=>by rw[p.frozen (a:=jj (w.heap.size+1+1+1) o) (by show w.heap.size+1+1+1<_;omega)];exact Z o
 have C:=ip v;have B:∀o,V.frozen? (jj P.heap.size o)=false:=fun o=>v.frozen o;have t3:P.heap.size<V.heap.size:=v.lt;clear v y D x Z F L t M H;obtain⟨ae,af,ag⟩:=z.g;obtain⟨ah,ai,aj⟩:=z.k;obtain⟨aa,ab,ac⟩:=I.g;have ad:=I.f 2;have U:aV V (V.setCell (jj (w.heap.size+1+1) 2) (.s b.heap.size j j)) (w.heap.size+1+1):=(aV.refl V _).setCell _ _;rw[z2] at C B t3;go_wp2;have q4:=(((z.marked U om).gH (.bool f)).gM (.s (w.heap.size+1+1+1) c c)).gZ (.s b.heap.size j j);refine bO (re rfl _ _ _ _ _ _ rfl q4) rfl ?_;have W:aV (V.setCell (jj (w.heap.size+1+1) 2) (.s b.heap.size j j)) _ (w.heap.size+1):=(((aV.refl _ _).setCell 0 (.bool f)).setCell 1 (.s (w.heap.size+1+1+1) c c)).setCell 2 (.s b.heap.size j j)
 refine⟨w.heap.size+1+1+1,b.heap.size,rfl,(ak.trans (U.since om)).trans (W.since om),om,om,by rw[W.size,U.size];omega,
  (S.marked U (fun _=>by omega)).marked W (fun _=>by omega),(C.marked U (fun _=>by omega)).marked W (fun _=>by omega),fun o=> ?_,fun o=> ?_⟩
 . rw[W.hU (a:=jj (w.heap.size+1+1+1) o) (by show w.heap.size+1+1+1≠_;omega),U.hU (a:=jj (w.heap.size+1+1+1) o) (by show w.heap.size+1+1+1≠_;omega)];exact R o
 . rw[W.hU (a:=jj b.heap.size o) (by show b.heap.size≠_;omega),U.hU (a:=jj b.heap.size o) (by show b.heap.size≠_;omega)];exact B o
theorem adq{f:Bool}{a A B g:Option Addr}{n m c d k i j l o b p q t r:Nat}{X Y:Nat->Nat}{w:World}(C:k<=67108864)(z:q<=67108864)
 (u:bE w a n m k X)(v:bE w A c d k X)(x:bE w B l o q Y)(y:bE w g b p q Y):
 Cl 72 #[.agg #[.bool f,.slice a k i,.slice B q t],.agg #[.bool f,.slice A k j,.slice g q r]] w fun e N=>e=.returned (.bool true)/\w.S N:=by
 have s:w.S ((w.alloc (.o #[.bool f,.l a k i,.l B q t] 83)).alloc (.o #[.bool f,.l A k j,.l g q r] 83)):=(cV _ _).alloc qz _;have D:cR ((w.alloc (.o #[.bool f,.l a k i,.l B q t] 83)).alloc (.o #[.bool f,.l A k j,.l g q r] 83)) w.heap.size (.bool f) (.l a k i) (.l B q t):=(cR.new w _ _ _ _).bH (cV _ _);have E:cR ((w.alloc (.o #[.bool f,.l a k i,.l B q t] 83)).alloc (.o #[.bool f,.l A k j,.l g q r] 83)) (w.heap.size+1) (.bool f) (.l A k j) (.l g q r):=by have:=cR.new (w.alloc (.o #[.bool f,.l a k i,.l B q t] 83)) (.bool f) (.l A k j) (.l g q r) 83;simpa using this
 go_enter func72,ntmps72;go_wp2_with fail;generalize ((w.alloc _).alloc _)=H at*;refine (eq_true C (u.bH s) (v.bH s)).mono ?_;rintro e L ⟨rfl,F⟩;have h:=F.since H.heap.size;have I:=(D.bH h).c2;have K:=(E.bH h).c2;go_wp2_with fail;refine (eq_true z ((x.bH s).bH h) ((y.bH s).bH h)).mono ?_;rintro e M ⟨rfl,G⟩;go_wp2;go_ret;exact⟨rfl,(s.tr h).trans (G.since _)⟩
structure jd where
 neg:Bool
 n:Nat
 X:Nat->Nat
 m:Nat
 Y:Nat->Nat
variable{R:jd}
def jd.nul:jd:=⟨false,0,fun _=>0,0,fun _=>0⟩
def jd.ok(r:jd):Bool:=fF r.neg r.X r.n r.Y r.m
structure ah(w:World)(lo:Nat)(r:jd)(a b:Option Addr)(ca cb:Nat):Prop where
 nc:r.n<=ca
 mc:r.m<=cb
 ac:a=none->ca=0
 bc:b=none->cb=0
 LX:∃ba oa,(0<r.n->lo<=ba)/\bE w a ba oa r.n r.X
 LY:∃bb ob,(0<r.m->lo<=bb)/\bE w b bb ob r.m r.Y
 lX:∀j,j<r.n->r.X j<4294967296
 lY:∀j,j<r.m->r.Y j<4294967296
 n63:r.n<=9223372036854775807
 m63:r.m<=9223372036854775807
section
variable{w w':World}{lo lo' b off n c:Nat}{r:jd}{a a1 a2:Option Addr}{k1 k2:Nat}{R:Nat->jd}
theorem ah.bH(h:ah w lo r a1 a2 k1 k2)(s:w.S w'):ah w' lo r a1 a2 k1 k2:=by
 obtain⟨c,g,e,a⟩:=h.LX;obtain⟨d,i,f,b⟩:=h.LY;exact⟨h.nc,h.mc,h.ac,h.bc,⟨c,g,e,a.bH s⟩,⟨d,i,f,b.bH s⟩,h.lX,h.lY,h.n63,h.m63⟩
theorem ah.down(h:ah w lo r a1 a2 k1 k2)(hl:lo'<=lo):ah w lo' r a1 a2 k1 k2:=by
 obtain⟨c,g,e,a⟩:=h.LX;obtain⟨d,i,f,b⟩:=h.LY;exact⟨h.nc,h.mc,h.ac,h.bc,⟨c,g,fun h=>aU hl (e h),a⟩,⟨d,i,fun h=>aU hl (f h),b⟩,h.lX,h.lY,h.n63,h.m63⟩
theorem ah.marked(h:ah w lo r a1 a2 k1 k2)(s:aV w w' c)(k:c<lo):ah w' lo r a1 a2 k1 k2:=by
 obtain⟨f,i,a,d⟩:=h.LX;obtain⟨g,j,b,e⟩:=h.LY;exact⟨h.nc,h.mc,h.ac,h.bc,⟨f,i,a,d.marked s (fun h=>by have:=a h;omega)⟩,⟨g,j,b,e.marked s (fun h=>by have:=b h;omega)⟩,h.lX,h.lY,h.n63,h.m63⟩
structure ae(w:World)(lo b off:Nat)(r:jd)(a1 a2:Option Addr)(k1 k2:Nat):Prop where
 c0:w.cell? ⟨b,off,none⟩=some (.bool r.neg)
 c1:w.cell? ⟨b,off+1,none⟩=some (.slice a1 r.n k1)
 c2:w.cell? ⟨b,off+2,none⟩=some (.slice a2 r.m k2)
 L:ah w lo r a1 a2 k1 k2
theorem ae.g{R:jd}{c:Option Addr}{k:Nat}(h:ae w n b m R a c d k):w.cell? (jj b m)=some (.bool R.neg)/\w.cell? (jj b (m+1))=some (.slice a R.n d)/\w.cell? (jj b (m+2))=some (.slice c R.m k):=⟨h.c0,h.c1,h.c2⟩
theorem ae.lt(h:ae w lo b off r a1 a2 k1 k2):b<w.heap.size:=aG _ _ h.c0
theorem ae.bH(h:ae w lo b off r a1 a2 k1 k2)(s:w.S w'):ae w' lo b off r a1 a2 k1 k2:=
 ⟨(s.cell (a:=jj b off) h.lt).trans h.c0,(s.cell (a:=jj b (off+1)) h.lt).trans h.c1,(s.cell (a:=jj b (off+2)) h.lt).trans h.c2,h.L.bH s⟩
theorem ae.down(h:ae w lo b off r a1 a2 k1 k2)(hl:lo'<=lo):ae w lo' b off r a1 a2 k1 k2:=⟨h.c0,h.c1,h.c2,h.L.down hl⟩
theorem ae.marked(h:ae w lo b off r a1 a2 k1 k2)(s:aV w w' c)(d:c<lo)(hb:b≠c):ae w' lo b off r a1 a2 k1 k2:=
 ⟨(s.cell (a:=jj b off) hb).trans h.c0,(s.cell (a:=jj b (off+1)) hb).trans h.c1,(s.cell (a:=jj b (off+2)) hb).trans h.c2,h.L.marked s d⟩
def pG(w:World)(lo:Nat)(a:Option Addr)(b off n:Nat)(R:Nat->jd):Prop:=
 ∀i,i<n->a=some ⟨b,off,none⟩/\∃a1 a2 k1 k2,ae w lo b (off+i*3) (R i) a1 a2 k1 k2
theorem pG.bH(h:pG w lo a b off n R)(s:w.S w'):pG w' lo a b off n R:=fun i g=>by
 obtain⟨e,c,d,j,k,f⟩:=h i g;exact⟨e,c,d,j,k,f.bH s⟩
theorem pG.down(h:pG w lo a b off n R)(hl:lo'<=lo):pG w lo' a b off n R:=fun i g=>by
 obtain⟨e,c,d,j,k,f⟩:=h i g;exact⟨e,c,d,j,k,f.down hl⟩
theorem pG.marked(h:pG w lo a b off n R)(s:aV w w' c)(j:c<lo)(hb:0<n->b≠c):pG w' lo a b off n R:=fun i k=>by
 obtain⟨f,d,e,l,m,g⟩:=h i k;exact⟨f,d,e,l,m,g.marked s j (hb om)⟩
end
def pi(R:Nat->jd):Nat->Nat
 | 0=>0
 | n+1=>pi R n+((R n).n+(R n).m)
theorem b9(R:Nat->jd)(n:Nat):pi R (n+1)=pi R n+((R n).n+(R n).m):=rfl
theorem af7{R:Nat->jd}(h:n<=m):pi R n<=pi R m:=by
 induction m with
 | zero=>simp at h;subst h;exact aC _
 | succ m ih=>
   rcases jI m n with a | a
   . have:n=m+1:=om;subst this;exact aC _
   . have:=ih a;rw[b9];omega
theorem uu{R:Nat->jd}{k:Nat}(h:k<n):(R k).n+(R k).m<=pi R n:=by
 have:=af7 (R:=R) (show k+1<=n from h);rw[b9] at this;omega
def pz(R:Nat->jd)(n:Nat):Prop:=∀i,i<n->(R i).ok=true
structure b7 where
 rows:Int
 cols:Int
 nw:Nat
 W:Nat->jd
 nb:Nat
 B:Nat->jd
section
variable{w w':World}{lo lo' b off n c:Nat}{d:b7}{a a1 a2:Option Addr}{k1 k2:Nat}{A:Nat->b7}
end
def szl(L t:Nat):Int:=if t<=L then ((L-t:Nat):Int) else-1
theorem ut(h:m<=n):szl n m=((n-m:Nat):Int):=by simp[szl,h]
theorem ph(h:n<m):szl n m=-1:=by simp[szl];omega
theorem dh{a:Option Addr}{n m c d k i:Nat}{R:Nat->jd}{w:World}(C:i<=16777216)(E:d<=9223372036854775807)(H:pG w n a m c d R):
 Cl 13 #[.slice a d k,.i i] w fun e O=>e=.returned (.i (szl i (d+pi R d)))/\w.S O:=by
 by_cases h:i<d
 . rw[ph (show i<d+pi R d by omega)];go_enter func13,ntmps13;go_wp2;go_ret;exact⟨rfl,aF _ _⟩
 have g:(i:Int)-d=((i-d:Nat):Int):=om;have l:=aR g;clear g;go_enter func13,ntmps13;go_wp2;go_loopw [1,5] (fun q L wr=>∃b:Nat,b<=d/\L=.i b/\d+pi R b<=i/\q=.i ((i-d-pi R b:Nat):Int)/\w.S wr) (fun _ L _=>d-(intOf L).toNat)
 case atStart=>exact⟨0,aJ _,rfl,by unfold pi;omega,by simp only[pi,Nat.sub_zero];rw[<-l.out],aF _ _⟩
 case round=>
  obtain⟨b,D,rfl,u,rfl,s⟩:=hrel;by_cases j:b<d
  . obtain⟨rfl,x,y,I,K,M⟩:=H b j;have o:=M.bH s;obtain⟨z,A,B⟩:=o.g;have G:(b:Int)<d:=om;have r:=b9 R b;by_cases t:d+pi R (b+1)<=i
    . have p:=aR r;clear r;go_wp2_with fail;refine (akE om (by have:=p.out;omega)).mono ?_;rintro e v ⟨rfl,f⟩;go_wp2;go_roundw
      case rel=>exact⟨b+1,om,by go_num,t,by rw[p.out];congr 2;omega,s.tr f⟩
      case measure=>exact yI
    . have F:=af7 (R:=R) (show b+1<=d from j);have N:=aR (ph (show i<d+pi R d by omega)).symm;have p:=aR r;clear r;go_wp2_with fail;refine (akF om (by have:=p.out;omega) M.L.n63 M.L.m63).mono ?_;rintro e v ⟨rfl,f⟩;go_wp2;go_ret;exact⟨gL N.out,s.tr f⟩
  . have e:b=d:=om;subst e;go_wp2;go_ret;exact⟨gL (by rw[ut u];congr 1;omega),s⟩
theorem qy{P:Program}(t e:TypeId)(u:Value)(n m:Nat)(l:P.underlying t=some (.slice e))(j:(P.info? e).map (fun i=>(i.zero,i.size,i.bytes))=some (some u,n,m))
 (d q:IntKind)(c:Nat)(p:m*c<=281474976710656)(o:c<=9223372036854775807)(w:World):
 (Instr.makeSlice t (.int d (c:Int)) (.int q (c:Int))).run P w=.ok (.s w.heap.size c c) (w.alloc (.cells (madeCells u.cells (c*n)) e)):=by
 obtain⟨i,g,a⟩:=eE.1 j;simp only[Prod.mk.injEq] at a;obtain⟨r,k,hb⟩:=a;have f:(i.bytes:Int)*(c:Int)<=281474976710656:=by
  have h:((i.bytes*c:Nat):Int)<=281474976710656:=by rw[hb];omega
  rwa[dR] at h
 have b:=run_make (P:=P) w t e i u l g r d q c c om (Int.le_refl _) f om;simp only[iL,k] at b;exact b
structure rZ(w:World)(c N:Nat):Prop where
 lt:c<w.heap.size
 cell:∀o,o<N->∃v,w.cell? ⟨c,o,none⟩=some v
 f:∀o,w.frozen? ⟨c,o,none⟩=false
theorem rZ.new(w:World)(z:Array Value)(n:Nat)(t:TypeId):rZ (w.alloc (.cells (madeCells z n) t)) w.heap.size n:=
 ⟨qz,fun o a=>⟨_,by simp[go_sem,madeCells,a];rfl⟩,fun o=>by simp[go_sem]⟩
theorem rZ.bH{w w':World}(h:rZ w n m)(s:w.S w'):rZ w' n m:=
 ⟨aS h.lt s.size,fun o b=>by obtain⟨v,d⟩:=h.cell o b;exact⟨v,(s.cell (a:=jj n o) h.lt).trans d⟩,fun o=>(s.frozen (a:=jj n o) h.lt).trans (h.f o)⟩
theorem rZ.set(h:rZ w n m)(q:Nat)(u:Value):rZ (w.setCell ⟨n,q,none⟩ u) n m:=by
 have M:aV w (w.setCell (jj n q) u) n:=(aV.refl w n).setCell q u;refine⟨by rw[M.size];exact h.lt,fun o b=> ?_,fun o=>by rw[M.frozen];exact h.f o⟩;obtain⟨c,a⟩:=h.cell o b;by_cases e:o=q
 . subst e;exact⟨u,aQ _ _ _ a⟩
 . exact⟨c,(aI _ _ _ _ (fun h=>e (congrArg Addr.off h).symm)).trans a⟩
theorem pr(h:rZ w n m)(a:c<m)(u:Value):(w.setCell ⟨n,c,none⟩ u).cell? (jj n c)=some u:=by
 obtain⟨d,b⟩:=h.cell c a;exact aQ _ _ _ b
theorem bR(w:World)(n:Nat)(h:c≠m)(u:Value):(w.setCell ⟨n,m,none⟩ u).cell? (jj n c)=w.cell? (jj n c):=
 aI _ _ _ _ (fun e=>h (congrArg Addr.off e).symm)
theorem cr(h:rZ w n m)(d:q+2<m)(u U z:Value):
 ∃a,a=((w.setCell ⟨n,q,none⟩ u).setCell ⟨n,q+1,none⟩ U).setCell ⟨n,q+2,none⟩ z/\aV w a n/\rZ a n m/\a.cell? (jj n q)=some u/\a.cell? (jj n (q+1))=some U/\a.cell? (jj n (q+2))=some z/\
  ∀o,o<q∨q+2<o->a.cell? (jj n o)=w.cell? (jj n o):=by
 refine⟨_,rfl,(((aV.refl w n).setCell _ _).setCell _ _).setCell _ _,((h.set _ _).set _ _).set _ _, ?_, ?_, ?_,fun o b=> ?_⟩
 . rw[bR _ _ om,bR _ _ om];exact pr h om u
 . rw[bR _ _ om];exact pr (h.set _ _) om U
 . exact pr ((h.set _ _).set _ _) om z
 . rw[bR _ _ om,bR _ _ om,bR _ _ om]
theorem pG.put{R:Nat->jd}{b:Option Addr}{k:Nat}(h:pG w (m+1) (jp m 0) m 0 c R)(M:aV w v m)(g:∀o,o<c*3->v.cell? (jj m o)=w.cell? (jj m o))
 (L:ah w (m+1) (R c) a b d k)(n:v.cell? (jj m (c*3))=some (.bool (R c).neg))(p:v.cell? (jj m (c*3+1))=some (.l a (R c).n d))(q:v.cell? (jj m (c*3+2))=some (.l b (R c).m k)):
 pG v (m+1) (jp m 0) m 0 (c+1) R:=fun i t=>by
 refine⟨rfl, ?_⟩
 by_cases e:i=c
 . subst e
   exact⟨a,b,d,k,by rw[aZ];exact n,by rw[aZ];exact p,by rw[aZ];exact q,L.marked M om⟩
 . obtain⟨-,j,l,r,s,f⟩:=h i om
   exact⟨j,l,r,s,(g _ om).trans f.c0,(g _ om).trans f.c1,(g _ om).trans f.c2,f.L.marked M om⟩
theorem ck:(Tryz.prog.info? 83).map (fun i=>(i.zero,i.size,i.bytes))=some (some (.agg #[.bool false,.n,.n]),3,56):=by kernel_rfl
structure dL(w:World)(c:Nat)(x y z u v t:Value):Prop where
 c0:w.cell? ⟨c,0,none⟩=some x
 c1:w.cell? ⟨c,1,none⟩=some y
 c2:w.cell? ⟨c,2,none⟩=some z
 c3:w.cell? ⟨c,3,none⟩=some u
 c4:w.cell? ⟨c,4,none⟩=some v
 c5:w.cell? ⟨c,5,none⟩=some t
 f:∀k,w.frozen? ⟨c,k,none⟩=false
theorem dL.g{x y z t:Value}(h:dL w c x y z u U t):w.cell? (jj c 0)=some x/\w.cell? (jj c 1)=some y/\w.cell? (jj c 2)=some z/\w.cell? (jj c 3)=some u/\w.cell? (jj c 4)=some U/\w.cell? (jj c 5)=some t:=⟨h.c0,h.c1,h.c2,h.c3,h.c4,h.c5⟩
theorem dL.k{x y z v:Value}(h:dL w c x y z u v U):w.frozen? (jj c 0)=false/\w.frozen? (jj c 1)=false/\w.frozen? (jj c 2)=false/\w.frozen? (jj c 3)=false/\w.frozen? (jj c 4)=false/\w.frozen? (jj c 5)=false:=⟨h.f 0,h.f 1,h.f 2,h.f 3,h.f 4,h.f 5⟩
section
variable{w w':World}{c d B:Nat}{x y z u v t:Value}
theorem dL.lt(h:dL w c x y z u v t):c<w.heap.size:=aG _ _ h.c0
theorem dL.new(w:World)(u U z a v t:Value)(T:TypeId):dL (w.alloc (.cells #[u,U,z,a,v,t] T)) w.heap.size u U z a v t:=⟨by simp[go_sem],by simp[go_sem],by simp[go_sem],by simp[go_sem],by simp[go_sem],by simp[go_sem],fun k=>by simp[go_sem]⟩
theorem dL.since(h:dL w c x y z u v t)(s:w.Since B w')(b:c<B):dL w' c x y z u v t:=
 ⟨(s.cell (a:=jj c 0) b).trans h.c0,(s.cell (a:=jj c 1) b).trans h.c1,(s.cell (a:=jj c 2) b).trans h.c2,(s.cell (a:=jj c 3) b).trans h.c3,(s.cell (a:=jj c 4) b).trans h.c4,(s.cell (a:=jj c 5) b).trans h.c5,fun k=>(s.frozen (a:=jj c k) b).trans (h.f k)⟩
theorem dL.bH(h:dL w c x y z u v t)(s:w.S w'):dL w' c x y z u v t:=h.since s h.lt
theorem dL.marked(h:dL w c x y z u v t)(s:aV w w' d)(b:c≠d):dL w' c x y z u v t:=
 ⟨(s.cell (a:=jj c 0) b).trans h.c0,(s.cell (a:=jj c 1) b).trans h.c1,(s.cell (a:=jj c 2) b).trans h.c2,(s.cell (a:=jj c 3) b).trans h.c3,(s.cell (a:=jj c 4) b).trans h.c4,(s.cell (a:=jj c 5) b).trans h.c5,fun k=>(s.hU (a:=jj c k) b).trans (h.f k)⟩
theorem dL.gH(h:dL w c x y z u v t)(U:Value):dL (w.setCell ⟨c,0,none⟩ U) c U y z u v t:=
 ⟨aQ _ _ _ h.c0,(nV).trans h.c1,(nV).trans h.c2,(nV).trans h.c3,(nV).trans h.c4,(nV).trans h.c5,fun k=>by rw[((aV.refl w c).setCell 0 U).frozen];exact h.f k⟩
theorem dL.gM(h:dL w c x y z u v t)(U:Value):dL (w.setCell ⟨c,1,none⟩ U) c x U z u v t:=
 ⟨(nV).trans h.c0,aQ _ _ _ h.c1,(nV).trans h.c2,(nV).trans h.c3,(nV).trans h.c4,(nV).trans h.c5,fun k=>by rw[((aV.refl w c).setCell 1 U).frozen];exact h.f k⟩
theorem dL.gZ(h:dL w c x y z u v t)(U:Value):dL (w.setCell ⟨c,2,none⟩ U) c x y U u v t:=
 ⟨(nV).trans h.c0,(nV).trans h.c1,aQ _ _ _ h.c2,(nV).trans h.c3,(nV).trans h.c4,(nV).trans h.c5,fun k=>by rw[((aV.refl w c).setCell 2 U).frozen];exact h.f k⟩
theorem dL.rL(h:dL w c x y z u v t)(U:Value):dL (w.setCell ⟨c,3,none⟩ U) c x y z U v t:=
 ⟨(nV).trans h.c0,(nV).trans h.c1,(nV).trans h.c2,aQ _ _ _ h.c3,(nV).trans h.c4,(nV).trans h.c5,fun k=>by rw[((aV.refl w c).setCell 3 U).frozen];exact h.f k⟩
theorem dL.set4(h:dL w c x y z u v t)(U:Value):dL (w.setCell ⟨c,4,none⟩ U) c x y z u U t:=
 ⟨(nV).trans h.c0,(nV).trans h.c1,(nV).trans h.c2,(nV).trans h.c3,aQ _ _ _ h.c4,(nV).trans h.c5,fun k=>by rw[((aV.refl w c).setCell 4 U).frozen];exact h.f k⟩
theorem dL.set5(h:dL w c x y z u v t)(U:Value):dL (w.setCell ⟨c,5,none⟩ U) c x y z u v U:=
 ⟨(nV).trans h.c0,(nV).trans h.c1,(nV).trans h.c2,(nV).trans h.c3,(nV).trans h.c4,aQ _ _ _ h.c5,fun k=>by rw[((aV.refl w c).setCell 5 U).frozen];exact h.f k⟩
end
theorem ol{e:Func}{p:Tmp}{T:TypeId}{d:TypeDesc}(h:e.results= #[.cell p T])(l:Tryz.prog.underlying T=some d)(f:d.isRow=true)(g:(Tryz.prog.info? T).map (·.size)=some 6)(b:Array Value)(w:World)(n:Nat)(u U z c v t:Value)
 (i:b.getD p undef=.p n 0)(B:dL w n u U z c v t):(results e b).run Tryz.prog w=.ok (.agg #[u,U,z,c,v,t]) w:=by
 have k:b[p]?.getD undef=.p n 0:=by simpa using i
 have hl:=run_loadVar_mid (P:=Tryz.prog) w n 0 T [u,U,z,c,v,t] d (fun j q a=>by
  rcases j with _ | _ | _ | _ | _ | _ | j
  . simp at a;subst a;exact B.c0
  . simp at a;subst a;exact B.c1
  . simp at a;subst a;exact B.c2
  . simp at a;subst a;exact B.c3
  . simp at a;subst a;exact B.c4
  . simp at a;subst a;exact B.c5
  . simp at a) l f g
 simp[results,h,k,asAddr,hl]
theorem put6(h:rZ w n m)(d:q+5<m)(u U z c v t:Value):
 ∃a,a=(((((w.setCell ⟨n,q,none⟩ u).setCell ⟨n,q+1,none⟩ U).setCell ⟨n,q+2,none⟩ z).setCell ⟨n,q+3,none⟩ c).setCell ⟨n,q+4,none⟩ v).setCell ⟨n,q+5,none⟩ t/\aV w a n/\rZ a n m/\a.cell? (jj n q)=some u/\a.cell? (jj n (q+1))=some U/\a.cell? (jj n (q+2))=some z/\a.cell? (jj n (q+3))=some c/\a.cell? (jj n (q+4))=some v/\a.cell? (jj n (q+5))=some t/\
  ∀o,o<q∨q+5<o->a.cell? (jj n o)=w.cell? (jj n o):=by
 refine⟨_,rfl,((((((aV.refl w n).setCell _ _).setCell _ _).setCell _ _).setCell _ _).setCell _ _).setCell _ _,(((((h.set _ _).set _ _).set _ _).set _ _).set _ _).set _ _, ?_, ?_, ?_, ?_, ?_, ?_,fun o b=> ?_⟩
 . rw[bR _ _ om,bR _ _ om,bR _ _ om,bR _ _ om,bR _ _ om];exact pr h om u
 . rw[bR _ _ om,bR _ _ om,bR _ _ om,bR _ _ om];exact pr (h.set _ _) om U
 . rw[bR _ _ om,bR _ _ om,bR _ _ om];exact pr ((h.set _ _).set _ _) om z
 . rw[bR _ _ om,bR _ _ om];exact pr (((h.set _ _).set _ _).set _ _) om c
 . rw[bR _ _ om];exact pr ((((h.set _ _).set _ _).set _ _).set _ _) om v
 . exact pr (((((h.set _ _).set _ _).set _ _).set _ _).set _ _) om t
 . rw[bR _ _ om,bR _ _ om,bR _ _ om,bR _ _ om,bR _ _ om,bR _ _ om]
structure dA where
 op:Int
 a:Int
 b:Int
 k:Int
 s:Int
 nv:Nat
 V:Nat->jd
def dA.nul:dA:=⟨0,0,0,0,0,0,fun _=>jd.nul⟩
def dA.size(d:dA):Nat:=d.nv+pi d.V d.nv
def I64(z:Int):Prop:=-9223372036854775808<=z/\z<=9223372036854775807
structure tW(w:World)(lo:Nat)(d:dA)(a:Option Addr)(ca:Nat):Prop where
 nc:d.nv<=ca
 LV:∃ba oa,(0<d.nv->lo<=ba)/\pG w lo a ba oa d.nv d.V
 iop:I64 d.op
 ia:I64 d.a
 ib:I64 d.b
 ik:I64 d.k
 is:I64 d.s
 n63:d.nv<=9223372036854775807
section
variable{w w':World}{lo lo' b off n c:Nat}{d:dA}{a a1:Option Addr}{k1:Nat}{A:Nat->dA}
theorem tW.bH(h:tW w lo d a1 k1)(s:w.S w'):tW w' lo d a1 k1:=by
 obtain⟨b,e,c,a⟩:=h.LV;exact⟨h.nc,⟨b,e,c,a.bH s⟩,h.iop,h.ia,h.ib,h.ik,h.is,h.n63⟩
theorem tW.down(h:tW w lo d a1 k1)(hl:lo'<=lo):tW w lo' d a1 k1:=by
 obtain⟨b,e,c,a⟩:=h.LV;exact⟨h.nc,⟨b,e,fun h=>aU hl (c h),a.down hl⟩,h.iop,h.ia,h.ib,h.ik,h.is,h.n63⟩
theorem tW.marked(h:tW w lo d a1 k1)(s:aV w w' c)(f:c<lo):tW w' lo d a1 k1:=by
 obtain⟨e,g,a,b⟩:=h.LV;exact⟨h.nc,⟨e,g,a,b.marked s f (fun h=>by have:=a h;omega)⟩,h.iop,h.ia,h.ib,h.ik,h.is,h.n63⟩
structure ad(w:World)(lo b off:Nat)(d:dA)(a1:Option Addr)(k1:Nat):Prop where
 c0:w.cell? ⟨b,off,none⟩=some (.int .i64 d.op)
 c1:w.cell? ⟨b,off+1,none⟩=some (.int .i64 d.a)
 c2:w.cell? ⟨b,off+2,none⟩=some (.int .i64 d.b)
 c3:w.cell? ⟨b,off+3,none⟩=some (.int .i64 d.k)
 c4:w.cell? ⟨b,off+4,none⟩=some (.int .i64 d.s)
 c5:w.cell? ⟨b,off+5,none⟩=some (.slice a1 d.nv k1)
 L:tW w lo d a1 k1
theorem ad.g{d:dA}(h:ad w n b m d a c):w.cell? (jj b m)=some (.i d.op)/\w.cell? (jj b (m+1))=some (.i d.a)/\w.cell? (jj b (m+2))=some (.i d.b)/\w.cell? (jj b (m+3))=some (.i d.k)/\w.cell? (jj b (m+4))=some (.i d.s)/\w.cell? (jj b (m+5))=some (.slice a d.nv c):=⟨h.c0,h.c1,h.c2,h.c3,h.c4,h.c5⟩
theorem ad.lt(h:ad w lo b off d a1 k1):b<w.heap.size:=aG _ _ h.c0
theorem ad.bH(h:ad w lo b off d a1 k1)(s:w.S w'):ad w' lo b off d a1 k1:=
 ⟨(s.cell (a:=jj b off) h.lt).trans h.c0,(s.cell (a:=jj b (off+1)) h.lt).trans h.c1,(s.cell (a:=jj b (off+2)) h.lt).trans h.c2,(s.cell (a:=jj b (off+3)) h.lt).trans h.c3,(s.cell (a:=jj b (off+4)) h.lt).trans h.c4,(s.cell (a:=jj b (off+5)) h.lt).trans h.c5,h.L.bH s⟩
theorem ad.down(h:ad w lo b off d a1 k1)(hl:lo'<=lo):ad w lo' b off d a1 k1:=⟨h.c0,h.c1,h.c2,h.c3,h.c4,h.c5,h.L.down hl⟩
theorem ad.marked(h:ad w lo b off d a1 k1)(s:aV w w' c)(e:c<lo)(hb:b≠c):ad w' lo b off d a1 k1:=
 ⟨(s.cell (a:=jj b off) hb).trans h.c0,(s.cell (a:=jj b (off+1)) hb).trans h.c1,(s.cell (a:=jj b (off+2)) hb).trans h.c2,(s.cell (a:=jj b (off+3)) hb).trans h.c3,(s.cell (a:=jj b (off+4)) hb).trans h.c4,(s.cell (a:=jj b (off+5)) hb).trans h.c5,h.L.marked s e⟩
def vv(w:World)(lo:Nat)(a:Option Addr)(b off n:Nat)(A:Nat->dA):Prop:=
 ∀i,i<n->a=some ⟨b,off,none⟩/\∃a1 k1,ad w lo b (off+i*6) (A i) a1 k1
theorem vv.bH(h:vv w lo a b off n A)(s:w.S w'):vv w' lo a b off n A:=fun i f=>by
 obtain⟨d,c,g,e⟩:=h i f;exact⟨d,c,g,e.bH s⟩
theorem vv.down(h:vv w lo a b off n A)(hl:lo'<=lo):vv w lo' a b off n A:=fun i f=>by
 obtain⟨d,c,g,e⟩:=h i f;exact⟨d,c,g,e.down hl⟩
theorem vv.marked(h:vv w lo a b off n A)(s:aV w w' c)(g:c<lo)(hb:0<n->b≠c):vv w' lo a b off n A:=fun i j=>by
 obtain⟨e,d,k,f⟩:=h i j;exact⟨e,d,k,f.marked s g (hb om)⟩
theorem vv.put(h:vv w (c+1) (jp c 0) c 0 m A)(M:aV w w' c)(a:∀o,o<m*6->w'.cell? (jj c o)=w.cell? (jj c o))
 (L:tW w (c+1) (A m) a1 k1)(d:w'.cell? (jj c (m*6))=some (.i (A m).op))(f:w'.cell? (jj c (m*6+1))=some (.i (A m).a))(g:w'.cell? (jj c (m*6+2))=some (.i (A m).b))
 (j:w'.cell? (jj c (m*6+3))=some (.i (A m).k))(l:w'.cell? (jj c (m*6+4))=some (.i (A m).s))(n:w'.cell? (jj c (m*6+5))=some (.l a1 (A m).nv k1)):
 vv w' (c+1) (jp c 0) c 0 (m+1) A:=fun i q=>by
 refine⟨rfl, ?_⟩
 by_cases e:i=m
 . subst e
   exact⟨a1,k1,by rw[aZ];exact d,by rw[aZ];exact f,by rw[aZ];exact g,by rw[aZ];exact j,by rw[aZ];exact l,by rw[aZ];exact n,L.marked M om⟩
 . obtain⟨-,b,p,k⟩:=h i om
   exact⟨b,p,(a _ om).trans k.c0,(a _ om).trans k.c1,(a _ om).trans k.c2,(a _ om).trans k.c3,(a _ om).trans k.c4,(a _ om).trans k.c5,k.L.marked M om⟩
end
def xd(A:Nat->dA):Nat->Nat
 | 0=>0
 | n+1=>xd A n+(A n).size
theorem uG(A:Nat->dA)(n:Nat):xd A (n+1)=xd A n+(A n).size:=rfl
theorem og{A:Nat->dA}(h:n<=m):xd A n<=xd A m:=by
 induction m with
 | zero=>simp at h;subst h;exact aC _
 | succ m ih=>
   rcases jI m n with a | a
   . have:n=m+1:=om;subst this;exact aC _
   . have:=ih a;rw[uG];omega
theorem bM{A:Nat->dA}(h:n<m):(A n).size<=xd A m:=by
 have:=og (A:=A) (show n+1<=m from h);rw[uG] at this;omega
structure be where
 inn:Int
 rounds:Int
 nl:Nat
 Lo:Nat->jd
 nh:Nat
 Hi:Nat->jd
 nn:Nat
 N:Nat->dA
 out:Int
abbrev gV(g:be)(aL aH aN:Option Addr)(kL kH kN:Nat):Array Value:= #[.i g.inn,.i g.rounds,.slice aL g.nl kL,.slice aH g.nh kH,.slice aN g.nn kN,.i g.out]
def be.size(g:be):Nat:=(g.nl+pi g.Lo g.nl)+(g.nh+pi g.Hi g.nh)+(g.nn+xd g.N g.nn)
structure rH(w:World)(lo:Nat)(g:be)(aL aH aN:Option Addr)(kL kH kN:Nat):Prop where
 lc:g.nl<=kL
 hc:g.nh<=kH
 nc:g.nn<=kN
 LL:∃b o,(0<g.nl->lo<=b)/\pG w lo aL b o g.nl g.Lo
 LH:∃b o,(0<g.nh->lo<=b)/\pG w lo aH b o g.nh g.Hi
 LN:∃b o,(0<g.nn->lo<=b)/\vv w lo aN b o g.nn g.N
 ii:I64 g.inn
 ir:I64 g.rounds
 io:I64 g.out
 l63:g.nl<=9223372036854775807
 h63:g.nh<=9223372036854775807
 n63:g.nn<=9223372036854775807
section
variable{w w':World}{lo lo' c:Nat}{g:be}{aL aH aN:Option Addr}{kL kH kN:Nat}
theorem rH.bH(h:rH w lo g aL aH aN kL kH kN)(s:w.S w'):rH w' lo g aL aH aN kL kH kN:=by
 obtain⟨d,l,i,a⟩:=h.LL;obtain⟨e,m,j,b⟩:=h.LH;obtain⟨f,n,k,c⟩:=h.LN;exact⟨h.lc,h.hc,h.nc,⟨d,l,i,a.bH s⟩,⟨e,m,j,b.bH s⟩,⟨f,n,k,c.bH s⟩,h.ii,h.ir,h.io,h.l63,h.h63,h.n63⟩
end
def pe(w:World)(v:Value)(neg:Bool)(N D B M:Nat):Prop:=
 ∃v1 v2 g h,v=.agg #[.bool neg,v1,v2]/\fp w v1 g N M/\fp w v2 h D M/\B<=g/\B<=h/\g≠h
theorem aek(w:World)(n m:Nat):fp w (.n) n 0 m:=
 ⟨none,0,0,fun _=>0,rfl,aC _,aJ _,fun _=>rfl,fun j a=>absurd a om,fun h=>absurd h om,fun j a=>absurd a om,fun h=>absurd h om,rfl⟩
theorem agi(w:World)(a:Addr)(n m c:Nat):fp w (.slice (some a) 0 n) m 0 c:=
 ⟨some a,0,n,fun _=>0,rfl,aJ _,aJ _,fun h=>(by cases h),fun j b=>absurd b om,fun h=>absurd h om,fun j b=>absurd b om,fun h=>absurd h om,rfl⟩
theorem fp.bH{w w':World}(h:fp w u n m c)(s:w.S w'):fp w' u n m c:=by
 obtain⟨a,q,d,Y,e,f,i,j,g,k,l,r,p⟩:=h;exact⟨a,q,d,Y,e,f,i,j,g.bH s,fun b o=>by rw[s.frozen (a:=jj n o) (g.lt b)];exact k b o,l,r,p⟩
theorem fp.marked(h:fp w u n m c)(s:aV w v d)(b:n≠d):fp v u n m c:=by
 obtain⟨a,t,g,Y,f,i,j,k,l,x,p,q,r⟩:=h;exact⟨a,t,g,Y,f,i,j,k,l.marked s (fun _=>b),fun e o=>by rw[s.hU (a:=jj n o) b];exact x e o,p,q,r⟩
theorem fp.more(h:fp w u n m c)(i:c<=d):fp w u n m d:=by
 obtain⟨a,k,b,Y,g,j,e,f⟩:=h;exact⟨a,k,b,Y,g,j,aU e i,f⟩
theorem af1:Cl 156 #[] w fun e d=>∃v,e=.returned v/\pe d v false 0 1 w.heap.size 67108864/\w.S d:=by
 have c:w.S ((w.alloc (.o #[.bool false,.n,.s (w.heap.size+1) 1 1] 83)).alloc (.o #[.int .u32 1] 135)):=(cV _ _).alloc qz _;have b:cR ((w.alloc (.o #[.bool false,.n,.s (w.heap.size+1) 1 1] 83)).alloc (.o #[.int .u32 1] 135)) w.heap.size (.bool false) (.n) (.s (w.heap.size+1) 1 1):=
  (cR.new w _ _ _ _).bH (cV _ _)
 have a:=mO (w.alloc (.o #[.bool false,.n,.s (w.heap.size+1) 1 1] 83));rw[show (w.alloc (.o #[.bool false,.n,.s (w.heap.size+1) 1 1] 83)).heap.size=w.heap.size+1 by simp] at a;go_enter func156,ntmps156;go_wp2;refine bO (re rfl _ _ _ _ _ _ rfl b) rfl ?_;exact⟨_,rfl,⟨_,_,w.heap.size+2,w.heap.size+1,rfl,aek _ _ _,a,om,om,om⟩,c⟩
theorem vM{w:World}:Cl 50 #[] w fun e d=>∃v,e=.returned v/\pe d v false 0 1 w.heap.size 67108864/\w.S d:=by
 have c:w.S (((w.alloc (.o #[.bool false,.s (w.heap.size+1) 0 0,.s (w.heap.size+1+1) 1 1] 83)).alloc (.o #[] 135)).alloc (.o #[.int .u32 1] 135)):=
  ((cV _ _).alloc qz _).alloc (by simp;omega) _
 have b:cR (((w.alloc (.o #[.bool false,.s (w.heap.size+1) 0 0,.s (w.heap.size+1+1) 1 1] 83)).alloc (.o #[] 135)).alloc (.o #[.int .u32 1] 135)) w.heap.size (.bool false) (.s (w.heap.size+1) 0 0) (.s (w.heap.size+1+1) 1 1):=
  ((cR.new w _ _ _ _).bH (cV _ _)).bH (cV _ _)
 have a:=mO ((w.alloc (.o #[.bool false,.s (w.heap.size+1) 0 0,.s (w.heap.size+1+1) 1 1] 83)).alloc (.o #[] 135));rw[show ((w.alloc (.o #[.bool false,.s (w.heap.size+1) 0 0,.s (w.heap.size+1+1) 1 1] 83)).alloc (.o #[] 135)).heap.size=w.heap.size+1+1 by simp] at a;go_enter func50,ntmps50;go_wp2;refine bO (re rfl _ _ _ _ _ _ rfl b) rfl ?_;exact⟨_,rfl,⟨_,_,w.heap.size+1,w.heap.size+1+1,rfl,agi _ _ _ _ _,a,om,om,om⟩,c⟩
theorem df(p:0<n->X (n-1)≠0):gi (nz X) n=n:=by
 cases n with
 | zero=>rfl
 | succ n=>simp[gi,nz];exact fun h=>absurd h (p om)
theorem iu{k:Nat}(aa:c<=16777216)(W:j<=16777216)(F:c<=d)(E:j<=l)
 (C:bE w a n m c X)(D:bE w A k i j Y)(N:0<c->X (c-1)≠0)(O:0<j->Y (j-1)≠0):
 Cl 92 #[.agg #[.bool f,.slice a c d,.slice A j l]] w fun e y=>e=.returned (.agg #[.bool f,.slice a c d,.slice A j l,.n])/\w.S y:=by
 have Z:=df N;have B:=df O;have b:w.S ((w.alloc (.o #[.bool f,.l a c d,.l A j l] 83)).alloc (.o #[.bool false,.n,.n,.n] 140)):=(cV _ _).alloc qz _;have g:cR ((w.alloc (.o #[.bool f,.l a c d,.l A j l] 83)).alloc (.o #[.bool false,.n,.n,.n] 140)) w.heap.size (.bool f) (.l a c d) (.l A j l):=(cR.new w _ _ _ _).bH (cV _ _);have h:fZ ((w.alloc (.o #[.bool f,.l a c d,.l A j l] 83)).alloc (.o #[.bool false,.n,.n,.n] 140)) (w.heap.size+1) (.bool false) (.n) (.n) (.n):=by have:=fZ.new (w.alloc (.o #[.bool f,.l a c d,.l A j l] 83)) (.bool false) (.n) (.n) (.n) 140;simpa using this
 go_enter func92,ntmps92;go_wp2;generalize ((w.alloc _).alloc _)=o at*;have s:w.S o.drew:=⟨b.os,b.tape,b.output,b.size,b.block⟩;have bD:cR o.drew w.heap.size (.bool f) (.l a c d) (.l A j l):=⟨g.c0,g.c1,g.c2,g.f⟩;have R:fZ o.drew (w.heap.size+1) (.bool false) (.n) (.n) (.n):=⟨h.c0,h.c1,h.c2,h.c3,h.f⟩;obtain⟨k0,k1,k2⟩:=g.g;have p:=sf om F (C.bH s);rw[Z] at p
 go_region_held3 (fun y=>y.cell? (jj w.heap.size 0)=some (.bool f)/\y.cell? (jj w.heap.size 1)=some (.l a c d)/\y.cell? (jj w.heap.size 2)=some (.l A j l)) (go_keep)
  (first
    | (go_at_call 141
       first
        | (with_reducible refine p.mono ?_
           rintro e w1 ⟨rfl,K⟩;have r:=s.tr K;have t:=bD.bH K;have P:=R.bH K;obtain⟨G,H,I⟩:=t.g;have q:=sf om E (D.bH r);rw[B] at q)
        | (with_reducible refine q.mono ?_
           rintro e u ⟨rfl,L⟩;have v:=r.tr L;have x:=t.bH L;have z:=P.bH L;obtain⟨G,H,I⟩:=x.g;obtain⟨j0,j1,j2,j3⟩:=z.g;obtain⟨S,T,U,V⟩:=z.k)))
 all_goals go_wp2
 all_goals
  have Q:=(((z.gH (.bool f)).gM (.l a c d)).gZ (.l A j l)).rL (.n);refine bO (qI rfl underlying140 rfl alA _ _ _ _ _ _ _ rfl Q) rfl ?_;have M:aV u _ (w.heap.size+1):=((((aV.refl u _).setCell 0 (.bool f)).setCell 1 (.l a c d)).setCell 2 (.l A j l)).setCell 3 (.n);exact⟨rfl,v.trans (M.since om)⟩
structure od(c:Nat)(w w':World):Prop where
 os:w'.os=w.os
 tape:w'.tape=w.tape
 output:w'.output=w.output
 size:w.heap.size<=w'.heap.size
 block:∀k,k<w.heap.size->k≠c->w'.heap[k]?=w.heap[k]?
section
variable{c d n g N M off:Nat}{w w' w1 w2:World}{a:Option Addr}{X:Nat->Nat}{v x y z:Value}
theorem od.trans(h:od c w w1)(k:od c w1 w2):od c w w2:=⟨k.os.trans h.os,k.tape.trans h.tape,k.output.trans h.output,aU h.size k.size,fun i a b=>(k.block i (aS a h.size) b).trans (h.block i a b)⟩
theorem od.mK(n:Nat)(h:w.S w'):od n w w':=⟨h.os,h.tape,h.output,h.size,fun k a _=>h.block k a⟩
theorem od.i8(h:aV w w' c):od c w w':=⟨h.os,h.tape,h.output,by rw[h.size];exact aC _,fun k _ a=>h.other k a⟩
theorem od.since(h:od c w w')(a:c<=w.heap.size):w.Since c w':=⟨h.os,h.tape,h.output,h.size,fun k b=>h.block k om om⟩
theorem od.cell(h:od c w w'){a:Addr}(hl:a.block<w.heap.size)(b:a.block≠c):w'.cell? a=w.cell? a:=aO (w:=w) (h.block _ hl b)
theorem od.frozen(h:od c w w'){a:Addr}(hl:a.block<w.heap.size)(b:a.block≠c):w'.frozen? a=w.frozen? a:=dK (w:=w) (h.block _ hl b)
theorem bE.rD(h:bE w a g off n X)(s:od c w w')(d:0<n->g≠c):bE w' a g off n X:=fun j b=>⟨(h j b).1,by rw[s.cell (a:=jj g (off+j)) (h.lt om) (d om)];exact (h j b).2⟩
theorem fp.rD(h:fp w v g N M)(s:od c w w')(e:g≠c):fp w' v g N M:=by
 obtain⟨a,m,f,Y,i,j,k,l,d,n,p,q,r⟩:=h;exact⟨a,m,f,Y,i,j,k,l,d.rD s (fun _=>e),fun b o=>by rw[s.frozen (a:=jj g o) (d.lt b) e];exact n b o,p,q,r⟩
theorem cR.rD(h:cR w d x y z)(s:od c w w')(b:d≠c):cR w' d x y z:=
 ⟨(s.cell (a:=jj d 0) h.lt b).trans h.c0,(s.cell (a:=jj d 1) h.lt b).trans h.c1,(s.cell (a:=jj d 2) h.lt b).trans h.c2,fun k=>(s.frozen (a:=jj d k) h.lt b).trans (h.f k)⟩
end
theorem cR.drew{z:Value}(h:cR w n u U z):cR w.drew n u U z:=⟨h.c0,h.c1,h.c2,h.f⟩
theorem od.drew(h:od n w v):od n w v.drew:=⟨h.os,h.tape,h.output,h.size,h.block⟩
theorem bE.drew(h:bE w a n m c X):bE w.drew a n m c X:=h
theorem fp.drew(h:fp w u n m c):fp w.drew u n m c:=h
theorem fq(h:w.Since n v):w.Since n v.drew:=⟨h.os,h.tape,h.output,h.size,h.block⟩
theorem dy(r:w.rowIs n 135 m (fun j=>.int .u32 (X j:Nat)))(a:∀k,X k<4294967296)(b:lv X m=c):fp w (.s n (gi (nz X) m) m) n c m:=
 ⟨_,_,_,X,rfl,gh _ _,gh _ _,fun h=>(by cases h),(ip r).take (gh _ _),fun _ o=>r.frozen o,fun j _=>a j,fun h=>by have:=h8 (nz X) m h;simpa [nz] using this,by rw[ji];exact b⟩
theorem fZ.rD{z a:Value}(h:fZ w n u U z a)(s:od c w v)(b:n≠c):fZ v n u U z a:=
 ⟨(s.cell (a:=jj n 0) h.lt b).trans h.c0,(s.cell (a:=jj n 1) h.lt b).trans h.c1,(s.cell (a:=jj n 2) h.lt b).trans h.c2,(s.cell (a:=jj n 3) h.lt b).trans h.c3,fun k=>(dK (w:=w) (a:=jj n k) (s.block n h.lt b)).trans (h.f k)⟩
theorem fZ.drew{z a:Value}(h:fZ w n u U z a):fZ w.drew n u U z a:=⟨h.c0,h.c1,h.c2,h.c3,h.f⟩
theorem cw{F:Nat->Value}(h:w.rowIs n m c F)(s:od d w v)(a:n≠d):v.rowIs n m c F:=h.of_block (s.block n h.lt a)
theorem od.up(x:od n w v)(y:od m v W)(f:w.heap.size<=m):od n w W:=
 ⟨y.os.trans x.os,y.tape.trans x.tape,y.output.trans x.output,aU x.size y.size,fun k a e=>(y.block k (aS a x.size) om).trans (x.block k a e)⟩
theorem anM{n:Nat}{u U g:Value}{a A:Option Addr}{m c d k i j l o:Nat}{X Y:Nat->Nat}{w:World}(y:d<=67108864)(t:l<=67108864)(z:bE w a m c d X)(p:bE w A i j l Y)
 (C:∀f,f<d->X f<4294967296)(q:∀f,f<l->Y f<4294967296)(B:fZ w n u (.l a d k) U g):
 Cl 142 #[.p n 1,.slice A l o] w fun e b=>e=.returned (.tuple #[])/\∃v,fZ b n u v U g/\fp b v w.heap.size (lv X d*lv Y l) (d+l)/\od n w b/\w.heap.size<b.heap.size:=by
 refine (pn y t z p C q B.c1 (B.f 1)).mono ?_;rintro e b ⟨rfl,D,P,s,r,x,h,rfl⟩;have M:=(aV.refl D n).setCell 1 (.s w.heap.size (gi (nz P) (d+l)) (d+l));exact⟨rfl,_,(B.bH s).gM _,(dy r x h).marked M (qY B.lt),(od.mK n s).trans (od.i8 M),by rw[M.size];exact r.lt⟩
theorem alk{n:Nat}{u U g:Value}{a A:Option Addr}{m c d k i j l o:Nat}{X Y:Nat->Nat}{w:World}(y:d<=67108864)(t:l<=67108864)(z:bE w a m c d X)(p:bE w A i j l Y)
 (C:∀f,f<d->X f<4294967296)(q:∀f,f<l->Y f<4294967296)(B:fZ w n u U (.l a d k) g):
 Cl 142 #[.p n 2,.slice A l o] w fun e b=>e=.returned (.tuple #[])/\∃v,fZ b n u U v g/\fp b v w.heap.size (lv X d*lv Y l) (d+l)/\od n w b/\w.heap.size<b.heap.size:=by
 refine (pn y t z p C q B.c2 (B.f 2)).mono ?_;rintro e b ⟨rfl,D,P,s,r,x,h,rfl⟩;have M:=(aV.refl D n).setCell 2 (.s w.heap.size (gi (nz P) (d+l)) (d+l));exact⟨rfl,_,(B.bH s).gZ _,(dy r x h).marked M (qY B.lt),(od.mK n s).trans (od.i8 M),by rw[M.size];exact r.lt⟩
theorem am7{g:Value}{k:Nat}(y:d<=67108864)(v:l<=67108864)(C:bE w a m c d X)(q:bE w A i j l Y)
 (p:∀b,b<d->X b<4294967296)(t:∀b,b<l->Y b<4294967296)(B:fZ w n u (.l a d k) U g):
 Cl 142 #[.p n 1,.slice A l o] w fun e f=>e=.returned (.tuple #[])/\∃P:Nat->Nat,fZ f n u (.s w.heap.size (gi (nz P) (d+l)) (d+l)) U g/\f.rowIs w.heap.size 135 (d+l) (fun b=>.int .u32 (P b:Nat))/\
  (∀x,P x<4294967296)/\lv P (d+l)=lv X d*lv Y l/\od n w f/\w.heap.size<f.heap.size:=by
 refine (pn y v C q p t B.c1 (B.f 1)).mono ?_;rintro e f ⟨rfl,D,P,s,r,z,h,rfl⟩;have M:=(aV.refl D n).setCell 1 (.s w.heap.size (gi (nz P) (d+l)) (d+l));exact⟨rfl,P,(B.bH s).gM _,r.of_block (M.other _ (qY B.lt)),z,h,(od.mK n s).trans (od.i8 M),by rw[M.size];exact r.lt⟩
theorem e3{k:Nat}(B:d<=67108864)(D:l<=67108864)(v:bE w a m c d X)(y:bE w A i j l Y)
 (x:∀b,b<d->X b<4294967296)(z:∀b,b<l->Y b<4294967296)(f:w.cell? (jj n 0)=some (.l a d k))(p:w.frozen? (jj n 0)=false):
 Cl 142 #[.p n 0,.slice A l o] w fun e h=>e=.returned (.tuple #[])/\∃P:Nat->Nat,h.cell? (jj n 0)=some (.s w.heap.size (gi (nz P) (d+l)) (d+l))/\h.frozen? (jj n 0)=false/\h.rowIs w.heap.size 135 (d+l) (fun b=>.int .u32 (P b:Nat))/\
  (∀E,P E<4294967296)/\lv P (d+l)=lv X d*lv Y l/\od n w h/\w.heap.size<h.heap.size:=by
 have g:=aG _ _ f;refine (pn B D v y x z f p).mono ?_;rintro e h ⟨rfl,q,P,s,r,u,C,rfl⟩;have M:=(aV.refl q n).setCell 0 (.s w.heap.size (gi (nz P) (d+l)) (d+l));have t:q.cell? (jj n 0)=some (.l a d k):=by rw[s.cell (a:=jj n 0) g];exact f
 exact⟨rfl,P,aQ _ _ _ t,by rw[M.frozen,s.frozen (a:=jj n 0) g];exact p,r.of_block (M.other _ (qY g)),u,C,(od.mK n s).trans (od.i8 M),by rw[M.size];exact r.lt⟩
theorem vA:0<gi (nz X) n->X (gi (nz X) n-1)≠0:=fun h=>by have:=h8 (nz X) n h;simpa [nz] using this
structure At1(c o:Nat)(r:Option Nat)(w w':World):Prop where
 os:w'.os=w.os
 tape:w'.tape=w.tape
 output:w'.output=w.output
 size:w.heap.size<=w'.heap.size
 block:∀k,k<w.heap.size->k≠c->some k≠r->w'.heap[k]?=w.heap[k]?
 cell:∀x,x≠o->w'.cell? ⟨c,x,none⟩=w.cell? ⟨c,x,none⟩
 frozen:∀x,w'.frozen? ⟨c,x,none⟩=w.frozen? ⟨c,x,none⟩
section
variable{c o:Nat}{r:Option Nat}{w w' w'':World}
theorem At1.refl(n m:Nat)(r:Option Nat)(w:World):At1 n m r w w:=⟨rfl,rfl,rfl,aC _,fun _ _ _ _=>rfl,fun _ _=>rfl,fun _=>rfl⟩
theorem At1.alloc(h:At1 c o r w w')(g:c<w.heap.size)(b:Obj):At1 c o r w (w'.alloc b):=by
 have s:w'.S (w'.alloc b):=cV _ _;have hl:=h.size;exact⟨h.os,h.tape,h.output,aU h.size s.size,fun k a d e=>(s.block k om).trans (h.block k a d e),fun x f=>(s.cell (a:=jj c x) (by show c<_;omega)).trans (h.cell x f),fun x=>(s.frozen (a:=jj c x) (by show c<_;omega)).trans (h.frozen x)⟩
theorem At1.grown{a:Option Nat}(h:At1 c o r w w')(g:w'.grownBy w'' a)(m:c<w.heap.size)(b:a=r∨∀k,a=some k->w.heap.size<=k)(f:some c≠a):At1 c o r w w'':=by
 have hl:=h.size;refine⟨g.os.trans h.os,g.tape.trans h.tape,g.output.trans h.output,aU h.size g.size,fun k i j d=>(g.block k om ?_).trans (h.block k i j d),fun x l=>(aO (w:=w') (a:=jj c x) (g.block c om f)).trans (h.cell x l),fun x=>(dK (w:=w') (a:=jj c x) (g.block c om f)).trans (h.frozen x)⟩;rcases b with rfl | b
 . exact d
 . intro e;have:=b k e.symm;omega
theorem At1.setRow(h:At1 c o r w w')(n m:Nat)(u:Value)(f:some n=r∨w.heap.size<=n)(d:n≠c):At1 c o r w (w'.setCell ⟨n,m,none⟩ u):=by
 have M:=(aV.refl w' n).setCell m u;refine⟨M.os.trans h.os,M.tape.trans h.tape,M.output.trans h.output,by rw[M.size];exact h.size,fun k j l b=>(M.other k ?_).trans (h.block k j l b),fun x a=>(M.cell (a:=jj c x) (fL d)).trans (h.cell x a),fun x=>(M.hU (a:=jj c x) (fL d)).trans (h.frozen x)⟩;rcases f with rfl | f
 . intro e;exact b (by rw[e])
 . omega
theorem At1.setC(h:At1 c o r w w')(u:Value):At1 c o r w (w'.setCell ⟨c,o,none⟩ u):=by
 have M:=(aV.refl w' c).setCell o u;refine⟨M.os.trans h.os,M.tape.trans h.tape,M.output.trans h.output,by rw[M.size];exact h.size,fun k b a d=>(M.other k a).trans (h.block k b a d),fun x e=> ?_,fun x=>(M.frozen x).trans (h.frozen x)⟩;rw[<-h.cell x e];exact nV
end
def b8(X V Y:Nat->Nat)(n m i c:Nat):Prop:=lv V i+c*2^(32*i)=lv (gw X n) i+lv (gw Y m) i/\c<=1/\(∀k,i<=k->V k=gw X n k)/\∀k,k<i->V k<4294967296
theorem akx{n m c d s c' k i:Nat}(h:b8 X Y Z n m c d)(l:Y c=k)(p:gw Z m c=i)(j:s<4294967296)(f:c'<=1)(e:s+c'*4294967296=k+i+d):b8 X (pf Y c s) Z n m (c+1) c':=by
 obtain⟨q,r,b,u⟩:=h;have o:gw X n c=k:=by rw[<-l];exact (b c zR).symm
 refine⟨?_,f,fun t g=>by rw[dI _ _ _ _ om];exact b t om,fun t g=> ?_⟩
 . simp only[lv,fy,bV Y c s c zR,o,p];rw[ro];generalize 2^(32*c)=P at*;have a:s*P+c'*(4294967296*P)=k*P+i*P+d*P:=(by rw[<-cS,<-bI,<-bI,<-bI,e]);omega
 . by_cases a:t=c
   . subst a;rw[fy];exact j
   . rw[dI _ _ _ _ a];exact u t om
theorem alR(h:b8 X Y Z n m c d)(b:n<=c)(a:m<=c):lv Y c+d*2^(32*c)=lv X n+lv Z m:=by
 have:=h.1;rw[ri X n c b,ri Z m c a] at this;exact this
theorem bE.at1{r:Option Nat}{k:Nat}(h:bE w a c d k X)(s:At1 n m r w v)(f:0<k->c≠n)(g:0<k->r≠some c):bE v a c d k X:=
 fun j b=>⟨(h j b).1,(aO (w:=w) (a:=jj c (d+j)) (s.block c (h.lt om) (f om) (fun e=>g om e.symm))).trans (h j b).2⟩
theorem ane{k:Nat}(hn:d<=67108864)(hm:j<=67108864)(ak:w.cell? (jj n m)=some u)(ac:w.frozen? (jj n m)=false)
 (S:w.ownsRow c 135 1 u d (ll X d))(bd:n<c)(bb:c<=w.heap.size)(a6:0<j->u.ownBlock≠some k)(a0:0<j->k≠n)(hY:bE w a k i j Y)(ai:∀p,p<d->X p<4294967296)(aj:∀p,p<j->Y p<4294967296):
 Cl 203 #[.p n m,.slice a j l] w fun e w'=>e=.returned (.tuple #[])/\∃v o V,w'.cell? (jj n m)=some v/\w'.ownsRow c 135 1 v o (ll V o)/\(∀q,v.ownBlock=some q->u.ownBlock=some q∨w.heap.size<=q)/\
  At1 n m u.ownBlock w w'/\(∀p,p<o->V p<4294967296)/\lv V o=lv X d+lv Y j/\o<=max d j+1/\(o=d∨o=j∨V (o-1)≠0):=by
 obtain⟨i0,hi,am,an,ao⟩:=kT fI;have P:n<w.heap.size:=om;have av:=aR ai;have aw:=aR aj;clear ai aj;have ar:Hid (ll (gw X d) d=ll X d):=by simp only[Hid,ll];exact fG fun p M=>by simp[gw,dU.1 M]
 go_enter func203,ntmps203;go_wp2;go_loopg [] (j-d) (fun g wr=>∃(o:Nat) (v:Value),d<=o/\(o=d∨o<=j)/\Hid (g=j-o)/\wr.cell? (jj n m)=some v/\wr.ownsRow c 135 1 v o (ll (gw X d) o)/\Hid (∀q,v.ownBlock=some q->u.ownBlock=some q∨w.heap.size<=q)/\At1 n m u.ownBlock w wr)
 case atStart=>exact⟨d,u,aC _,Or.inl rfl,aR rfl,ak,by rw[ar.out];exact S,aR (fun q C=>Or.inl C),At1.refl _ _ _ _⟩
 case round=>
  obtain⟨o,v,al,a4,HG,bp,F,W,G⟩:=hrel;obtain⟨T,s,rfl,bm,ba,ay⟩:=qq F;have qf:wr.frozen? (jj n m)=false:=by rw[G.frozen];exact ac
  have bn:=G.size;by_cases z:o<j
  . have HO:=aR S;clear S;have A:some n≠(Value.slice T o s).ownBlock:=fun e=>by have:=(F.lt n e.symm).1;omega
    go_wp2_with (at_builtin;refine wpList_append_own_at _ rfl _ _ 138 rfl c 135 i0 (.int .u32 0) 1 4 underlying138 hi am an ao rfl qd _ _ _ rfl (F.alloc _) (jj wr.heap.size 0) 1 1 [.int .u32 0] rfl rfl (kh _ _ _) (one_one _ rfl) (by unfold maxLen;omega) om (by simp;omega) ?_);intro v' Z r B ad K;rw[aeR X d o al] at r;have O:=cV wr (.o #[.int .u32 0] 135);have I:(Value.slice T o s).ownBlock=u.ownBlock∨∀q,(Value.slice T o s).ownBlock=some q->w.heap.size<=q:=by
     cases e:(Value.slice T o s).ownBlock with
     | none=>exact Or.inr (fun q h=>by cases h)
     | some q=>
       rcases W.out q e with h | h
       . exact Or.inl h.symm
       . exact Or.inr (fun q' h'=>by cases h';exact h)
    have N:At1 n m u.ownBlock w Z:=(G.alloc P _).grown B P I A;have q1:Z.cell? (jj n m)=some (.l T o s):=B.cell ((O.cell (a:=jj n m) (show n<wr.heap.size by omega)).trans bp) A;have f1:Z.frozen? (jj n m)=false:=by rw[N.frozen];exact ac
    have bs:=aR (fun q (C:v'.ownBlock=some q)=>show u.ownBlock=some q∨w.heap.size<=q by
     rcases K with h | h
     . exact W.out q (h.symm.trans C)
     . rw[C] at h;simp at h;omega)
    obtain⟨a1,aa,rfl,a3,ax,az⟩:=qq r;have ab:(Value.slice a1 (o+1) aa).ownBlock≠some n:=fun e=>by have:=(r.lt n e).1;omega
    clear B ad K O I F G W bp qf A;go_wp2;go_roundg (j-(o+1))
    case rel=>exact⟨o+1,_,om,Or.inr om,aR rfl,aQ _ _ _ q1,ownsRow_setCell_other r ab _,bs,N.setC _⟩
    case measure=>have:=HG.out;omega
  . have a5:j<=o:=om;have bj:o<=67108864:=om;have aq:Hid (o=d∨o=j):=aR om;have ag:Hid (b8 X (gw X d) Y d j 0 0):=aR ⟨by simp[lv],om,fun _ _=>rfl,fun p M=>absurd M om⟩;have HK:Hid (o<=max d j):=aR om;clear S ak z a4 HG;go_wp2;go_loopw [4,26] (fun q ae wr=>∃(b f:Nat) (V:Nat->Nat),b<=o/\ae=.i b/\q=.int .u64 f/\f<=1/\wr.cell? (jj n m)=some (.l T o s)/\wr.ownsRow c 135 1 (.l T o s) o (ll V o)/\At1 n m u.ownBlock w wr/\Hid (b8 X V Y d j b f)) (fun _ ae _=>o-(intOf ae).toNat)
    case atStart=>exact⟨0,0,gw X d,aJ _,rfl,rfl,om,bp,F,G,ag⟩
    case round=>
     obtain⟨b,f,V,bh,rfl,rfl,bf,bq,U,t,E⟩:=hrel;clear F G bp qf ag;by_cases z:b<o
     . obtain⟨g,rfl⟩:=ay b z;obtain⟨g',l,e,-,bc,bg,LV,FV⟩:=kg U qz;cases e;have g1:wr.cell? (jj g b)=some (.int .u32 (V b)):=(by simpa using (LV b z).2);have g2:wr.frozen? (jj g b)=false:=FV b;have Q:some g=u.ownBlock∨w.heap.size<=g:=by
        rcases W.out g rfl with h | h
        . exact Or.inl h.symm
        . exact Or.inr h
       have a7:V b<4294967296:=by
        rw[E.out.2.2.1 b zR];unfold gw;split
        . exact av.out b yE
        . omega
       have H:=aR (fun (bu c':Nat) (y:Nat) (hy:gw Y j b=y)=>akx (s:=bu) (c':=c') E.out rfl hy);obtain⟨x,ex⟩:∃y,y=V b:=⟨_,rfl⟩;rw[<-ex] at g1 a7 H;clear ex LV FV;have bi:(b:Int)<o:=om;have L:g≠n:=om;have br:∀af,(wr.setCell (jj g b) af).cell? (jj n m)=some (.s g o s):=fun af=>by rw[((aV.refl wr g).setCell b af).cell (a:=jj n m) (fL L)];exact bq
       by_cases R:b<j
       . obtain⟨rfl,ky⟩:=(hY.at1 t a0 a6) b R;have a8:=aw.out b R;have D:Hid (gw Y j b=Y b):=(by simp[Hid,gw,R]);obtain⟨y,ey⟩:∃y,y=Y b:=⟨_,rfl⟩;rw[<-ey] at ky a8 D;clear ey;by_cases hb:x+f+y<4294967296
         . go_wp2;go_roundw
           case rel=>go_light;exact⟨b+1,0,_,om,by go_num,congrArg (Value.int .u64) om,om,br _,ch U b (x+f+y) z _ om,t.setRow g b _ Q L,H.out _ _ y D.out om om om⟩
           case measure=>exact yI
         . go_wp2;go_roundw
           case rel=>go_light;exact⟨b+1,1,_,om,by go_num,congrArg (Value.int .u64) om,om,br _,ch U b (x+f+y-4294967296) z _ om,t.setRow g b _ Q L,H.out _ _ y D.out om om om⟩
           case measure=>exact yI
       . have D:Hid (gw Y j b=0):=(by simp[Hid,gw,R]);by_cases hb:x+f<4294967296
         . go_wp2;go_roundw
           case rel=>go_light;exact⟨b+1,0,_,om,by go_num,congrArg (Value.int .u64) om,om,br _,ch U b (x+f) z _ om,t.setRow g b _ Q L,H.out _ _ 0 D.out om om om⟩
           case measure=>exact yI
         . go_wp2;go_roundw
           case rel=>go_light;exact⟨b+1,1,_,om,by go_num,congrArg (Value.int .u64) om,om,br _,ch U b (x+f-4294967296) z _ om,t.setRow g b _ Q L,H.out _ _ 0 D.out om om om⟩
           case measure=>exact yI
     . have e:b=o:=om;subst e;have HE:=aR (alR E.out al a5);have a2:f=0∨f=1:=om;rcases a2 with rfl | rfl
       . go_wp2;go_end0;exact⟨rfl,_,b,V,bq,U,W.out,t,E.out.2.2.2,by have:=HE.out;omega,by have:=HK.out;omega,by rcases aq.out with h | h<;>simp[h]⟩
       . have A:some n≠(Value.slice T b s).ownBlock:=fun e=>by have:=(U.lt n e.symm).1;omega
         have bo:=t.size;go_wp2_with (at_builtin;refine wpList_append_own_at _ rfl _ _ 138 rfl c 135 i0 (.int .u32 0) 1 4 underlying138 hi am an ao rfl qd _ _ _ rfl (U.alloc _) (jj wr.heap.size 0) 1 1 [.int .u32 1] rfl rfl (kh _ _ _) (one_one _ rfl) (by unfold maxLen;omega) om (by simp;omega) ?_);intro v' Z r B ad K;rw[show ll V b++[.int .u32 1]=ll (pf V b 1) (b+1) from by rw[cD,fy,agq (fun p M=>dI _ _ _ _ (show p≠b by omega))];rfl] at r;have O:=cV wr (.o #[.int .u32 1] 135);have I:(Value.slice T b s).ownBlock=u.ownBlock∨∀q,(Value.slice T b s).ownBlock=some q->w.heap.size<=q:=by
          cases e:(Value.slice T b s).ownBlock with
          | none=>exact Or.inr (fun q h=>by cases h)
          | some q=>
            rcases W.out q e with h | h
            . exact Or.inl h.symm
            . exact Or.inr (fun q' h'=>by cases h';exact h)
         have N:At1 n m u.ownBlock w Z:=(t.alloc P _).grown B P I A;have q1:Z.cell? (jj n m)=some (.l T b s):=B.cell ((O.cell (a:=jj n m) (show n<wr.heap.size by omega)).trans bq) A;have f1:Z.frozen? (jj n m)=false:=by rw[N.frozen];exact ac
         have bs:=aR (fun q (C:v'.ownBlock=some q)=>show u.ownBlock=some q∨w.heap.size<=q by
          rcases K with h | h
          . exact W.out q (h.symm.trans C)
          . rw[C] at h;simp at h;omega)
         obtain⟨a1,aa,rfl,a3,ax,az⟩:=qq r;have ab:(Value.slice a1 (b+1) aa).ownBlock≠some n:=fun e=>by have:=(r.lt n e).1;omega
         have au:=aR E.out.2.2.2;clear B ad K O I U t W bq A E;go_wp2;go_end0;refine⟨rfl,_,b+1,pf V b 1,aQ _ _ _ q1,ownsRow_setCell_other r ab _,bs.out,N.setC _,fun p M=> ?_, ?_,by have:=HK.out;omega,Or.inr (Or.inr (by rw[show b+1-1=b by omega,fy];omega))⟩
         . by_cases e2:p=b
           . subst e2;rw[fy];omega
           . rw[dI _ _ _ _ e2];exact au.out p om
         . have:=HE.out;simp only[lv,fy,bV V b 1 b zR];exact this
structure wT(c g h:Nat)(w w':World):Prop where
 os:w'.os=w.os
 tape:w'.tape=w.tape
 output:w'.output=w.output
 size:w.heap.size<=w'.heap.size
 block:∀k,k<w.heap.size->k≠c->k≠g->k≠h->w'.heap[k]?=w.heap[k]?
theorem wT.trans(x:wT c n m w v)(y:wT c n m v W):wT c n m w W:=
 ⟨y.os.trans x.os,y.tape.trans x.tape,y.output.trans x.output,aU x.size y.size,fun k a b d e=>(y.block k (aS a x.size) b d e).trans (x.block k a b d e)⟩
theorem wT.i8{g:Nat}(m:aV w v n)(hb:n=c∨n=g∨n=h):wT c g h w v:=
 ⟨m.os,m.tape,m.output,by rw[m.size];exact aC _,fun k _ a d e=>m.other k om⟩
theorem wT.ofAt1(e:At1 n m (some c) w v):wT n c d w v:=
 ⟨e.os,e.tape,e.output,e.size,fun k a b f _=>e.block k a b (by simp;exact f)⟩
def gj(f f':Bool)(x y:Nat):Bool:=if f=f' then f else if x<y then f' else f
def cH(f f':Bool)(x y:Nat):Nat:=if f=f' then x+y else if x<y then y-x else x-y
theorem ahf(b:∀j,j<c->Z j<4294967296)(e:lv Z c=lv X n+lv Y m)(d:c=n∨c=m∨Z (c-1)≠0)(f:0<n->X (n-1)≠0)(g:0<m->Y (m-1)≠0)(l:0<c):Z (c-1)≠0:=by
 intro a;have i:lv Z c=lv Z (c-1):=yN Z (c-1) c om (fun j o p=>by rw[show j=c-1 by omega];exact a);rcases d with rfl | rfl | h
 . have:=tt (A:=Z) (B:=X) (n:=c-1) (m:=c) (fun j k=>b j om) om f;omega
 . have:=tt (A:=Z) (B:=Y) (n:=c-1) (m:=c) (fun j k=>b j om) om g;omega
 . exact h a
theorem akI{n:Nat}{u U A:Value}{m c d:Nat}{a:Option Addr}{k i j l:Nat}{X Y:Nat->Nat}{w:World}(N:c<=268435456)(r:c<=d)(B:fZ w n u (.s m c d) U A)
 (q:∀u,w.frozen? (jj m u)=false)(f:n≠m)(G:k≠m)(D:bE w (jp m 0) m 0 c X)(E:bE w a k i j Y)(p:∀g,g<c->X g<4294967296)(F:∀g,g<j->Y g<4294967296)(Q:0<j->Y (j-1)≠0)(I:lv Y j<=lv X c){o b:Nat}(hb:m=o∨m=b):
 Cl 204 #[.p n 1,.slice a j l] w fun e h=>e=.returned (.tuple #[])/\∃v,fZ h n u v U A/\fp h v m (lv X c-lv Y j) c/\wT n o b w h:=by
 have K:j<=c:=by
  rcases jI c j with x | x
  . have:=tt (A:=X) (B:=Y) (n:=c) (m:=j) p x Q;omega
  . exact x
 refine (ae6 N r K B.c1 (B.f 1) q f G D E p F I).mono ?_;rintro e h ⟨rfl,s,V,M,L,O,C,rfl⟩;have y:=(aV.refl s n).setCell 1 (.s m (gi (nz V) c) d);have t:fp s (.s m (gi (nz V) c) d) m (lv X c-lv Y j) c:=
  ⟨_,_,_,V,rfl,aU (gh _ _) r,gh _ _,fun b=>(by cases b),L.take (gh _ _),fun _ z=>by rw[M.frozen z];exact q z,fun g H=>O g (aS H (gh _ _)),vA,by rw[ji];exact C⟩
 exact⟨rfl,_,(B.marked M f).gM _,t.marked y (fL f),(wT.i8 M om).trans (wT.i8 y (Or.inl rfl))⟩
theorem aiy{k:Nat}(ai:d<=16777215)(aj:k<=16777215)(B:fZ w n (.bool f) (.s m (gi (nz X) d) d) u U)
 (D:w.rowIs m 135 d (fun j=>.int .u32 (X j:Nat)))(L:w.rowIs c 135 k (fun j=>.int .u32 (Y j:Nat)))(A:∀o,X o<4294967296)(C:∀o,Y o<4294967296)(ab:n<m)(W:c≠m)(H:n≠c):
 Cl 195 #[.p n 0,.bool F,.s c (gi (nz Y) k) k] w fun e M=>e=.returned (.tuple #[])/\∃v z,fZ M n (.bool (gj f F (lv X d) (lv Y k))) v u U/\
  fp M v z (cH f F (lv X d) (lv Y k)) 16777216/\(z=m∨z=c∨w.heap.size<=z)/\z<M.heap.size/\wT n m c w M:=by
 have Z:=gh (nz X) d;have tQ:=gh (nz Y) k;have E:=(ip D).take Z;have LQ:=(ip L).take tQ;have I:0<gi (nz X) d->X (gi (nz X) d-1)≠0:=vA;have K:0<gi (nz Y) k->Y (gi (nz Y) k-1)≠0:=vA;have p:=ji X d;have q:=ji Y k;have oP:w.ownsRow m 135 1 (.s m (gi (nz X) d) d) (gi (nz X) d) (ll X (gi (nz X) d)):=aiD D Z (by unfold maxLen;omega) (Nat.le_refl _);have fg:=D.frozen;have fh:=L.frozen;have gl:=D.lt;have hl:=L.lt;clear D L;generalize gi (nz X) d=g at*;generalize gi (nz Y) k=l at*;have ag:=B.lt;by_cases i:f=F
 . have r:gj f F (lv X d) (lv Y k)=f:=(by simp[gj,i]);have s:cH f F (lv X d) (lv Y k)=lv X g+lv Y l:=(by simp[cH,i,p,q]);rw[r,s];clear r s p q;subst i;have k0:=B.c0;go_enter func195,ntmps195;go_wp2_with fail;refine (ane om om B.c1 (B.f 1) oP ab om (fun _ e=>W (by simpa [Value.ownBlock] using e.symm)) (fun _=>Ne.symm H) LQ (fun j _=>A j) (fun j _=>C j)).mono ?_;rintro e h ⟨rfl,v,o,V,c1,o1,b1,y,lV,S,kk,tk⟩;go_wp2;refine bodyPost_ret (results_none rfl _ _ _) rfl ?_;have ad:=ahf lV S tk I K;have Bx:fZ h n (.bool f) v u U:=⟨by rw[y.cell 0 om];exact B.c0,c1,by rw[y.cell 2 om];exact B.c2,by rw[y.cell 3 om];exact B.c3,fun x=>by rw[y.frozen];exact B.f x⟩;have hs:=y.size;have hk:o<=16777216:=om;have O:wT n m c w h:=wT.ofAt1 y;have hc:= @World.ownsRow.cells _ _ _ _ _ _ _ o1;rcases o1.2 with ⟨rfl,rfl⟩ | ⟨T,aa,af,rfl,hb,hg,hm,_⟩
   . exact⟨rfl,_,m,Bx,by rw[<-S];exact aek _ _ _,Or.inl rfl,om,O⟩
   . have b:=(Array.getElem?_eq_some_iff.1 hg).1;refine⟨rfl,_,T,Bx,⟨_,o,aa,V,rfl,hm,hk,fun c=>(by cases c),fun j hj=>⟨rfl, ?_⟩,fun _ am=>by simp[World.frozen?,hg],lV,ad,S⟩, ?_,b,O⟩
     . have:=hc (g:=T) rfl j _ (vL V o j hj);rw[Addr.add_lit] at this;exact this
     . rcases b1 T rfl with e | e
       . simp[Value.ownBlock] at e;exact Or.inl e.symm
       . exact Or.inr (Or.inr e)
 . have k0:=B.c0;have ae:=aR i;have ah:(f==F)=false:=(by simp[i]);by_cases b:lv X g<lv Y l
   . have r:gj f F (lv X d) (lv Y k)=F:=(by rw[<-p,<-q];simp[gj,i,b]);have s:cH f F (lv X d) (lv Y k)=lv Y l-lv X g:=(by rw[<-p,<-q];simp[cH,i,b]);rw[r,s];clear r s p q i;have ac:=aex b;have P:=aR b;clear b;go_enter func195,ntmps195;go_wp2_with fail;refine (mq om om B.c1 E LQ (fun j _=>A j) (fun j _=>C j) I K).mono ?_;rintro e h ⟨rfl,a⟩;have t:fZ h n (.bool f) (.s m g d) u U:=⟨by rw[a.cell];exact B.c0,by rw[a.cell];exact B.c1,by rw[a.cell];exact B.c2,by rw[a.cell];exact B.c3,fun x=>by rw[a.frozen];exact B.f x⟩;have j1:=t.c1;have j0:=t.c0;have ak:=t.f 0;have al:=t.f 1;go_wp2_with fail;have G:aV h ((h.setCell (jj n 1) (.s c l k)).setCell (jj n 0) (.bool F)) n:=((aV.refl h n).setCell 1 _).setCell 0 _;have N:=(t.gM (.s c l k)).gH (.bool F);have Q:wT n m c w h:=⟨a.os,a.tape,a.output,by rw[a.size];exact Nat.le_refl _,fun o _ _ _ _=>by rw[a.heap]⟩;have R:=Q.trans (wT.i8 (c:=n) (g:=m) (h:=c) G (Or.inl rfl));refine (@akI n _ _ _ c l k (jp m 0) m 0 g d Y X _ om tQ N (fun x=>by rw[G.hU (a:=jj c x) (Ne.symm H),a.frozen];exact fh x) H (Ne.symm W) ((LQ.same a).marked G (fun _=>Ne.symm H)) ((E.same a).marked G (fun _=>by omega)) (fun j _=>C j) (fun j _=>A j) I (Nat.le_of_lt P.out) m c (Or.inr rfl)).mono ?_;rintro e w2 ⟨rfl,v,B3,N3,O3⟩;have O:=R.trans O3;go_wp2;go_end0;exact⟨rfl,v,c,B3,N3.more om,Or.inr (Or.inl rfl),Nat.lt_of_lt_of_le hl O.size,O⟩
   . have r:gj f F (lv X d) (lv Y k)=f:=(by rw[<-p,<-q];simp[gj,i,b]);have s:cH f F (lv X d) (lv Y k)=lv X g-lv Y l:=(by rw[<-p,<-q];simp[cH,i,b]);rw[r,s];clear r s p q i;have ac:=aba (Nat.le_of_not_lt b);have P:=aR (Nat.le_of_not_lt b);clear b;go_enter func195,ntmps195;go_wp2_with fail;refine (mq om om B.c1 E LQ (fun j _=>A j) (fun j _=>C j) I K).mono ?_;rintro e h ⟨rfl,a⟩;have t:fZ h n (.bool f) (.s m g d) u U:=⟨by rw[a.cell];exact B.c0,by rw[a.cell];exact B.c1,by rw[a.cell];exact B.c2,by rw[a.cell];exact B.c3,fun x=>by rw[a.frozen];exact B.f x⟩;go_wp2_with fail;refine (@akI n _ _ _ m g d (jp c 0) c 0 l k X Y h om Z t (fun x=>by rw[a.frozen];exact fg x) om W (E.same a) (LQ.same a) (fun j _=>A j) (fun j _=>C j) K P.out m c (Or.inl rfl)).mono ?_;rintro e w2 ⟨rfl,v,N,N2,R⟩;have Q:wT n m c w h:=⟨a.os,a.tape,a.output,by rw[a.size];exact Nat.le_refl _,fun o _ _ _ _=>by rw[a.heap]⟩;have O:=Q.trans R;go_wp2;go_end0;exact⟨rfl,v,m,N,N2.more om,Or.inl rfl,Nat.lt_of_lt_of_le gl O.size,O⟩
theorem afg{g:Option Addr}{k:Nat}(q:fZ w n (.bool f) (.l a m c) (.l A d k) (.n))(h:f≠F):
 Cl 93 #[.p n 0,.agg #[.bool F,.slice B i j,.slice g l o,.n]] w fun e r=>e=.returned (.i (if f then-1 else 1))/\w.S r:=by
 have b:=cV w (.o #[.bool F,.l B i j,.l g l o,.n] 140);have p:=q.bH b;have s:=fZ.new w (.bool F) (.l B i j) (.l g l o) (.n) 140;have u:=p.c0;have t:=s.c0;cases f<;>cases F
 . exact absurd rfl h
 . go_enter func93,ntmps93;go_wp2;go_quiet (fail);go_wp2;go_ret;exact⟨rfl,⟨b.os,b.tape,b.output,b.size,b.block⟩⟩
 . go_enter func93,ntmps93;go_wp2;go_quiet (fail);go_wp2;go_ret;exact⟨rfl,⟨b.os,b.tape,b.output,b.size,b.block⟩⟩
 . exact absurd rfl h
theorem afh{N:Option Addr}{k g:Nat}{D:Nat->Nat}(hn:d+q+l+g<=16777216)
 (hX:bE w a m c d X)(hY:bE w A i j l Y)(ah:bE w B b p q Z)(ak:bE w N r s g D)(ai:∀M,M<d->X M<4294967296)(al:∀M,M<l->Y M<4294967296)(aj:∀M,M<q->Z M<4294967296)(am:∀M,M<g->D M<4294967296)
 (a8:fZ w n (.bool f) (.l a d k) (.l A l o) (.n)):
 Cl 93 #[.p n 0,.agg #[.bool f,.slice B q t,.slice N g h,.n]] w fun ax w'=>ax=.returned (.i (if f then li (lv Z q*lv Y l) (lv X d*lv D g) else li (lv X d*lv D g) (lv Z q*lv Y l)))/\w.S w':=by
 have U:=cV w (.o #[.bool f,.l B q t,.l N g h,.n] 140);have S:=a8.bH U;have T:=fZ.new w (.bool f) (.l B q t) (.l N g h) (.n) 140;have ao:=a8.lt;have zA:(w.alloc (.o #[.bool f,.l B q t,.l N g h,.n] 140)).heap.size=w.heap.size+1:=by simp
 have k0:=S.c0;have k1:=S.c1;have g0:=T.c0;have g1:=T.c1;go_enter func93,ntmps93;go_wp2;go_quiet (fail);go_wp2;have a6:w.S ((w.alloc (.o #[.bool f,.l B q t,.l N g h,.n] 140)).drewN nq):=⟨U.os,U.tape,U.output,U.size,U.block⟩;have ay:fZ ((w.alloc (.o #[.bool f,.l B q t,.l N g h,.n] 140)).drewN nq) n (.bool f) (.l a d k) (.l A l o) (.n):=⟨S.c0,S.c1,S.c2,S.c3,S.f⟩;have az:fZ ((w.alloc (.o #[.bool f,.l B q t,.l N g h,.n] 140)).drewN nq) w.heap.size (.bool f) (.l B q t) (.l N g h) (.n):=⟨T.c0,T.c1,T.c2,T.c3,T.f⟩;have zl:w.heap.size+1<=((w.alloc (.o #[.bool f,.l B q t,.l N g h,.n] 140)).drewN nq).heap.size:=Nat.le_of_eq zA.symm;clear U S T zA k0 k1 g0 g1;generalize (w.alloc _).drewN nq=e at*;have n1:e.heap.size≠n:=om;have n2:e.heap.size≠w.heap.size:=om;have n3:e.heap.size+1≠n:=om;have n4:e.heap.size+1≠w.heap.size:=om;have kk:=And.intro ay.c1 az.c1;have tZ:(e.drew.alloc (.o #[.n] 138)).Since (e.drew.alloc (.o #[.n] 138)).heap.size ((e.drew.alloc (.o #[.n] 138)).alloc (.o #[.n] 138)):=cV _ _;have a1:((e.drew.alloc (.o #[.n] 138)).alloc (.o #[.n] 138)).cell? (jj e.heap.size 0)=some (.n):=by rw[tZ.cell (a:=jj e.heap.size 0) (by show e.drew.heap.size<_;simp)];exact nU e.drew _ _ 0
 clear tZ;go_region_held3 (fun w'=>w'.cell? (jj n 1)=some (.l a d k)/\w'.cell? (jj w.heap.size 1)=some (.l B q t)) (go_keep) (fail)
 all_goals
  first
  | (with_reducible show Exit.then _ _ Exit.normal _ ((e.alloc (.o #[.l a d k] 138)).alloc (.o #[.l B q t] 138)).drew
     have K:=cV e (.o #[.l a d k] 138);have O:(e.alloc (.o #[.l a d k] 138)).Since (e.alloc (.o #[.l a d k] 138)).heap.size ((e.alloc (.o #[.l a d k] 138)).alloc (.o #[.l B q t] 138)):=cV _ _;have P:e.S ((e.alloc (.o #[.l a d k] 138)).alloc (.o #[.l B q t] 138)).drew:=fq (K.tr O);have u:(e.alloc (.o #[.l a d k] 138)).heap.size=e.heap.size+1:=(by simp);have zW:((e.alloc (.o #[.l a d k] 138)).alloc (.o #[.l B q t] 138)).drew.heap.size=e.heap.size+2:=(by show ((e.alloc (.o #[.l a d k] 138)).alloc (.o #[.l B q t] 138)).heap.size=_;simp);have H:((e.alloc (.o #[.l a d k] 138)).alloc (.o #[.l B q t] 138)).drew.cell? (jj e.heap.size 0)=some (.l a d k):=(O.cell (a:=jj e.heap.size 0) (by show e.heap.size<_;omega)).trans (nU e _ _ 0);have E:((e.alloc (.o #[.l a d k] 138)).alloc (.o #[.l B q t] 138)).drew.frozen? (jj e.heap.size 0)=false:=(O.frozen (a:=jj e.heap.size 0) (by show e.heap.size<_;omega)).trans qz;have I:((e.alloc (.o #[.l a d k] 138)).alloc (.o #[.l B q t] 138)).drew.cell? (jj (e.heap.size+1) 0)=some (.l B q t):=(by have:=nU (e.alloc (.o #[.l a d k] 138)) #[.l B q t] 138 0;rw[u] at this;exact this);have F:((e.alloc (.o #[.l a d k] 138)).alloc (.o #[.l B q t] 138)).drew.frozen? (jj (e.heap.size+1) 0)=false:=(by have G:((e.alloc (.o #[.l a d k] 138)).alloc (.o #[.l B q t] 138)).frozen? ⟨(e.alloc (.o #[.l a d k] 138)).heap.size,0,none⟩=false:=qz;rw[u] at G;exact G);have a0:=a6.tr P;have a2:=ay.bH P;have a4:=az.bH P;obtain⟨L,x⟩:∃L,L=e.heap.size:=⟨_,rfl⟩;obtain⟨R,z⟩:∃R,R=e.heap.size+1:=⟨_,rfl⟩;have y:L≠R/\w.heap.size<L/\w.heap.size<R/\L<((e.alloc (.o #[.l a d k] 138)).alloc (.o #[.l B q t] 138)).drew.heap.size/\R<((e.alloc (.o #[.l a d k] 138)).alloc (.o #[.l B q t] 138)).drew.heap.size:=om;rw[<-z,<-x];rw[<-x] at H E;rw[<-z] at I F;clear K O P u zW;generalize ((e.alloc (.o #[.l a d k] 138)).alloc (.o #[.l B q t] 138)).drew=W at*)
  | (with_reducible show Exit.then _ _ Exit.normal _ ((e.alloc (.o #[.l B q t] 138)).alloc (.o #[.l a d k] 138)).drew
     have K:=cV e (.o #[.l B q t] 138);have O:(e.alloc (.o #[.l B q t] 138)).Since (e.alloc (.o #[.l B q t] 138)).heap.size ((e.alloc (.o #[.l B q t] 138)).alloc (.o #[.l a d k] 138)):=cV _ _;have P:e.S ((e.alloc (.o #[.l B q t] 138)).alloc (.o #[.l a d k] 138)).drew:=fq (K.tr O);have u:(e.alloc (.o #[.l B q t] 138)).heap.size=e.heap.size+1:=(by simp);have zW:((e.alloc (.o #[.l B q t] 138)).alloc (.o #[.l a d k] 138)).drew.heap.size=e.heap.size+2:=(by show ((e.alloc (.o #[.l B q t] 138)).alloc (.o #[.l a d k] 138)).heap.size=_;simp);have I:((e.alloc (.o #[.l B q t] 138)).alloc (.o #[.l a d k] 138)).drew.cell? (jj e.heap.size 0)=some (.l B q t):=(O.cell (a:=jj e.heap.size 0) (by show e.heap.size<_;omega)).trans (nU e _ _ 0);have F:((e.alloc (.o #[.l B q t] 138)).alloc (.o #[.l a d k] 138)).drew.frozen? (jj e.heap.size 0)=false:=(O.frozen (a:=jj e.heap.size 0) (by show e.heap.size<_;omega)).trans qz;have H:((e.alloc (.o #[.l B q t] 138)).alloc (.o #[.l a d k] 138)).drew.cell? (jj (e.heap.size+1) 0)=some (.l a d k):=(by have:=nU (e.alloc (.o #[.l B q t] 138)) #[.l a d k] 138 0;rw[u] at this;exact this);have E:((e.alloc (.o #[.l B q t] 138)).alloc (.o #[.l a d k] 138)).drew.frozen? (jj (e.heap.size+1) 0)=false:=(by have G:((e.alloc (.o #[.l B q t] 138)).alloc (.o #[.l a d k] 138)).frozen? ⟨(e.alloc (.o #[.l B q t] 138)).heap.size,0,none⟩=false:=qz;rw[u] at G;exact G);have a0:=a6.tr P;have a2:=ay.bH P;have a4:=az.bH P;obtain⟨L,x⟩:∃L,L=e.heap.size+1:=⟨_,rfl⟩;obtain⟨R,z⟩:∃R,R=e.heap.size:=⟨_,rfl⟩;have y:L≠R/\w.heap.size<L/\w.heap.size<R/\L<((e.alloc (.o #[.l B q t] 138)).alloc (.o #[.l a d k] 138)).drew.heap.size/\R<((e.alloc (.o #[.l B q t] 138)).alloc (.o #[.l a d k] 138)).drew.heap.size:=om;rw[<-x,<-z];rw[<-x] at H E;rw[<-z] at I F;clear K O P u zW;generalize ((e.alloc (.o #[.l B q t] 138)).alloc (.o #[.l a d k] 138)).drew=W at*)
 all_goals
  obtain⟨y,ar,au,an,ae⟩:=y;clear x z a1 n1 n2 n3 n4 kk zl a6 ay az;have k2:=a4.c2;go_wp2_with fail;refine (e3 om om (hX.bH a0) (ak.bH a0) ai am H E).mono ?_;rintro ax Q ⟨rfl,av,q3,f3,r3,hP,eP,v,z3⟩;have aa:od w.heap.size w Q:=(od.mK _ a0).up v om;have a7:w.S Q:=aa.since zR;have a3:=a2.rD v om;have q4:Q.cell? (jj R 0)=some (.l B q t):=(v.cell (a:=jj R 0) ae (fL y)).trans I;have f4:Q.frozen? (jj R 0)=false:=(v.frozen (a:=jj R 0) ae (fL y)).trans F;clear k2 a4 H E I F aa;have k2:=a3.c2;go_wp2_with fail;refine (e3 om om (ah.bH a7) (hY.bH a7) aj al q4 f4).mono ?_;rintro ax V ⟨rfl,aw,q5,f5,r5,hQ,eQ,C,z4⟩;have aq:=v.size;have ab:od w.heap.size w V:=(od.mK _ a7).up C om;have S4:w.S V:=ab.since zR;have B4:=a3.rD C om;have q6:V.cell? (jj L 0)=_:=(C.cell (a:=jj L 0) (show L<_ by omega) y).trans q3;have r6:=cw r3 C om;clear k2 a3 q3 f3 q4 f4 r3 ab a2 v C;have k0:=B4.c0;have tP:=gh (nz av) (d+g);have tQ:=gh (nz aw) (q+l);have a5:=(ip r6).take tP;have LQ:=(ip r5).take tQ;have JA:=@mq R 0 (jp Q.heap.size 0) (jp W.heap.size 0) Q.heap.size 0 (gi (nz aw) (q+l)) (q+l) W.heap.size 0 (gi (nz av) (d+g)) (d+g) aw av V om om q5 LQ a5 (fun M _=>hQ M) (fun M _=>hP M) vA vA;have JB:=@mq L 0 (jp W.heap.size 0) (jp Q.heap.size 0) W.heap.size 0 (gi (nz av) (d+g)) (d+g) Q.heap.size 0 (gi (nz aw) (q+l)) (q+l) av aw V om om q6 a5 LQ (fun M _=>hP M) (fun M _=>hQ M) vA vA;rw[ji,ji,eP,eQ] at JA JB;clear r5 r6 a5 LQ hP hQ eP eQ tP tQ;cases f
  . go_wp2_with fail;refine JB.mono ?_;rintro ax w5 ⟨rfl,s5⟩;go_wp2;go_ret;exact⟨rfl,S4.tr (s5.since V.heap.size)⟩
  . go_wp2_with fail;refine JA.mono ?_;rintro ax w5 ⟨rfl,s5⟩;go_wp2;go_ret;exact⟨rfl,S4.tr (s5.since V.heap.size)⟩
theorem xK{a:Option Addr}{n m c d k:Nat}{R:Nat->jd}{w:World}(I:d<=16777216)(K:pi R d<=16777216)(H:pG w n a m c d R):
 Cl 41 #[.slice a d k] w fun e Q=>∃r:Bool,e=.returned (.bool r)/\(r=true↔pz R d)/\w.S Q:=by
 go_enter func41,ntmps41;go_wp2;go_loopw [3] (fun i wr=>∃b:Nat,b<=d/\i=.i b/\w.S wr/\pz R b) (fun i _=>d-(intOf i).toNat)
 case atStart=>exact⟨0,aJ _,rfl,aF _ _,fun i l=>absurd l om⟩
 case round=>
  obtain⟨b,G,rfl,s,O⟩:=hrel;by_cases g:b<d
  . obtain⟨rfl,q,t,y,z,M⟩:=H b g;have f:=M.bH s;obtain⟨D,E,F⟩:=f.g;have N:(b:Int)<d:=om;have L:=uu (R:=R) g;obtain⟨u,A,-,P⟩:=f.L.LX;obtain⟨v,B,-,o⟩:=f.L.LY;have p:=@adC (R b).neg q t u A (R b).n y v B (R b).m z (R b).X (R b).Y wr om om P o M.L.lX M.L.lY;rw[show fF (R b).neg (R b).X (R b).n (R b).Y (R b).m=(R b).ok from rfl] at p;cases hok:(R b).ok
    . have x:=aR hok;rw[hok] at p;go_wp2_with fail;refine p.mono ?_;rintro e C ⟨rfl,j⟩;go_wp2;go_ret;refine⟨false,rfl,⟨(fun h=>by cases h),fun h=> ?_⟩,s.tr j⟩;have:=h b g;rw[x.out] at this;cases this
    . have x:=aR hok;rw[hok] at p;go_wp2_with fail;refine p.mono ?_;rintro e C ⟨rfl,j⟩;go_wp2;go_roundw
      case rel=>
       refine⟨b+1,om,by go_num,s.tr j,fun i l=> ?_⟩;by_cases e:i=b
       . subst e;exact x.out
       . exact O i om
      case measure=>exact yI
  . have e:b=d:=om;subst e;go_wp2;go_ret;exact⟨true,rfl,⟨fun _=>O,fun _=>rfl⟩,s⟩
theorem xR{a A:Option Addr}{n m c d k i j l o:Nat}{R:Nat->jd}{w:World}(hn:o<=16777216)(hs:pi R o<=16777216)(H:pG w n a m c o R)(E:pG w k A i j o R):
 Cl 32 #[.slice a o d,.slice A o l] w fun e f=>e=.returned (.bool true)/\w.S f:=by
 go_enter func32,ntmps32;go_wp2;go_loopw [5] (fun p wr=>∃b:Nat,b<=o/\p=.i b/\w.S wr) (fun p _=>o-(intOf p).toNat)
 case atStart=>exact⟨0,aJ _,rfl,aF _ _⟩
 case round=>
  obtain⟨b,hk,rfl,s⟩:=hrel;by_cases O:b<o
  . obtain⟨rfl,v,y,P,C,M⟩:=H b O;obtain⟨rfl,x,z,B,D,h⟩:=E b O;have g:w.S wr.drew:=⟨s.os,s.tape,s.output,s.size,s.block⟩;have N:=M.bH s;have t:=h.bH s;obtain⟨X,ag,g2⟩:=N.g;obtain⟨Y,aa,ab⟩:=t.g;have ac:=uu (R:=R) O;have hz:(b:Int)<o:=om;obtain⟨G,S,-,Q⟩:=(M.L.bH g).LX;obtain⟨K,U,-,q⟩:=(M.L.bH g).LY;obtain⟨I,T,-,Z⟩:=(h.L.bH g).LX;obtain⟨L,V,-,r⟩:=(h.L.bH g).LY;have F:=@adq (R b).neg v x y z G S I T (R b).n P B K U L V (R b).m C D (R b).X (R b).Y wr.drew om om Q Z q r;clear Q q Z r N t;go_wp2_with fail
    go_region_held3 (fun f=>f.cell? (jj m (c+b*3))=some (.bool (R b).neg)/\f.cell? (jj m (c+b*3+1))=some (.l v (R b).n P)/\f.cell? (jj m (c+b*3+2))=some (.l y (R b).m C)/\f.cell? (jj i (j+b*3))=some (.bool (R b).neg)/\f.cell? (jj i (j+b*3+1))=some (.l x (R b).n B)/\f.cell? (jj i (j+b*3+2))=some (.l z (R b).m D)) (go_keep)
     (first
       | (go_at_call 72;(with_reducible refine F.mono ?_);rintro e w1 ⟨rfl,W⟩;have u:=g.tr W;obtain⟨i0,i1,i2⟩:=(M.bH u).g;obtain⟨ad,ae,af⟩:=(h.bH u).g))
    all_goals go_wp2
    all_goals go_roundw
    case rel=>exact⟨b+1,om,by go_num,u⟩
    case measure=>exact yI
  . go_wp2;go_ret;exact⟨rfl,s⟩
theorem xe.keepN{w w':World}(_h:xe w)(_hw:0<=w.heap.size)(_s:w.S w'):xe w':=trivial
theorem we{a:Option Addr}{n m c d k:Nat}{R:Nat->jd}{w:World}(C:0<=w.heap.size)(B:xe w)(N:d<=16777216)(P:pi R d<=16777216)(H:pG w n a m c d R):
 Cl 91 #[.slice a d k] w fun e U=>∃r:Bool,e=.returned (.bool r)/\(r=true↔pz R d)/\w.S U:=by
 go_enter func91,ntmps91;go_wp2;go_loopw [7] (fun i wr=>∃b:Nat,b<=d/\i=.i b/\w.S wr/\pz R b) (fun i _=>d-(intOf i).toNat)
 case atStart=>exact⟨0,aJ _,rfl,aF _ _,fun i o=>absurd o om⟩
 case round=>
  obtain⟨b,L,rfl,s,O⟩:=hrel;by_cases g:b<d
  . obtain⟨rfl,l,T,q,t,M⟩:=H b g;have x:=M.bH s;obtain⟨G,I,K⟩:=x.g;have S:(b:Int)<d:=om;have Q:=uu (R:=R) g;have A:w.S (wr.alloc (.o #[.bool (R b).neg,.l l (R b).n q,.l T (R b).m t] 83)):=s.alloc s.size _;obtain⟨y,D,-,u⟩:=(M.L.bH A).LX;obtain⟨z,E,-,v⟩:=(M.L.bH A).LY;have p:=@adQ (R b).neg l T y D (R b).n q z E (R b).m t (R b).X (R b).Y _ (aJ _) om om M.L.nc M.L.mc M.L.ac M.L.bc u v M.L.lX M.L.lY (B.keepN C A);rw[show fF (R b).neg (R b).X (R b).n (R b).Y (R b).m=(R b).ok from rfl] at p;cases hok:(R b).ok
    . have f:=aR hok;rw[hok] at p;go_wp2_with fail;refine p.mono ?_;rintro e F ⟨rfl,j⟩;go_wp2;go_ret;refine⟨false,rfl,⟨(fun h=>by cases h),fun h=> ?_⟩,A.tr j⟩;have:=h b g;rw[f.out] at this;cases this
    . have f:=aR hok;rw[hok] at p;go_wp2_with fail;refine p.mono ?_;rintro e F ⟨rfl,j⟩;go_wp2;go_roundw
      case rel=>
       refine⟨b+1,om,by go_num,A.tr j,fun i o=> ?_⟩;by_cases e:i=b
       . subst e;exact f.out
       . exact O i om
      case measure=>exact yI
  . have e:b=d:=om;subst e;go_wp2;go_ret;exact⟨true,rfl,⟨fun _=>O,fun _=>rfl⟩,s⟩
theorem ahn{D:dA}{a:Option Addr}{n m c:Nat}{w:World}(p:c<=1048576)(H:tW w n D a m):
 Cl 39 #[.agg #[.i D.op,.i D.a,.i D.b,.i D.k,.i D.s,.slice a D.nv m],.i c] w fun e o=>e=.returned (.i (szl c D.size))/\w.S o:=by
 have i:=cV w (.o #[.i D.op,.i D.a,.i D.b,.i D.k,.i D.s,.l a D.nv m] 79);obtain⟨k,l,-,j⟩:=(H.bH i).LV;have b:=@dh a n k l D.nv m c D.V _ om H.n63 j;have E:=aR (show szl c D.size=szl c (D.nv+pi D.V D.nv) from rfl);by_cases h:D.nv+pi D.V D.nv<=c
 . rw[ut h] at b;have f:=aR (ut h);go_enter func39,ntmps39;go_wp2_with fail;refine b.mono ?_;rintro e d ⟨rfl,g⟩;go_wp2;go_ret;exact⟨gL (by rw[E.out,f.out]),i.tr g⟩
 . rw[ph (show c<D.nv+pi D.V D.nv by omega)] at b;have f:=aR (ph (show c<D.nv+pi D.V D.nv by omega));go_enter func39,ntmps39;go_wp2_with fail;refine b.mono ?_;rintro e d ⟨rfl,g⟩;go_wp2;go_ret;exact⟨gL (by rw[E.out,f.out]),i.tr g⟩
theorem af8{a:Option Addr}{n m c d k i:Nat}{A:Nat->dA}{w:World}(K:i<=1048576)(O:d<=9223372036854775807)(H:vv w n a m c d A):
 Cl 14 #[.slice a d k,.i i] w fun e S=>e=.returned (.i (szl i (d+xd A d)))/\w.S S:=by
 by_cases h:i<d
 . rw[ph (show i<d+xd A d by omega)];go_enter func14,ntmps14;go_wp2;go_ret;exact⟨rfl,aF _ _⟩
 have j:(i:Int)-d=((i-d:Nat):Int):=om;have R:=aR j;clear j;go_enter func14,ntmps14;go_wp2;go_loopw [1,5] (fun q L wr=>∃b:Nat,b<=d/\L=.i b/\d+xd A b<=i/\q=.i ((i-d-xd A b:Nat):Int)/\w.S wr) (fun _ L _=>d-(intOf L).toNat)
 case atStart=>exact⟨0,aJ _,rfl,by unfold xd;omega,by simp only[xd,Nat.sub_zero];rw[<-R.out],aF _ _⟩
 case round=>
  obtain⟨b,N,rfl,y,rfl,s⟩:=hrel;by_cases l:b<d
  . obtain⟨rfl,t,z,M⟩:=H b l;have g:=M.bH s;obtain⟨C,D,E,F,G,I⟩:=g.g;have Q:(b:Int)<d:=om;have u:=uG A b;have p:=@ahn (A b) t n z (i-d-xd A b) wr om g.L;by_cases v:d+xd A (b+1)<=i
    . have x:(A b).size<=i-d-xd A b:=om;rw[ut x] at p;have o:=aR u;clear u;go_wp2_with fail;refine p.mono ?_;rintro e B ⟨rfl,f⟩;go_wp2;go_roundw
      case rel=>exact⟨b+1,om,by go_num,v,by rw[o.out];congr 2;omega,s.tr f⟩
      case measure=>exact yI
    . have P:=og (A:=A) (show b+1<=d from l);have r:=aR (ph (show i<d+xd A d by omega)).symm;rw[ph (show i-d-xd A b<(A b).size by omega)] at p;clear u;go_wp2_with fail;refine p.mono ?_;rintro e B ⟨rfl,f⟩;go_wp2;go_ret;exact⟨gL r.out,s.tr f⟩
  . have e:b=d:=om;subst e;go_wp2;go_ret;exact⟨gL (by rw[ut y];congr 1;omega),s⟩
theorem abP{G:be}{a A B:Option Addr}{n m c d k:Nat}{w:World}(T:k<=1048576)(H:rH w n G a A B m c d):
 Cl 4 #[.agg (gV G a A B m c d),.i k] w fun e X=>e=.returned (.i (szl k G.size))/\w.S X:=by
 have l:=cV w (.o (gV G a A B m c d) 25);have D:=dL.new w (.i G.inn) (.i G.rounds) (.l a G.nl m) (.l A G.nh c) (.l B G.nn d) (.i G.out) 25;have q:=H.bH l;obtain⟨j,O,-,x⟩:=q.LL;obtain⟨L,P,-,y⟩:=q.LH;obtain⟨C,Q,-,z⟩:=q.LN;have M:=H.l63;have K:=H.h63;have N:=H.n63;have i:G.size=(G.nl+pi G.Lo G.nl)+(G.nh+pi G.Hi G.nh)+(G.nn+xd G.N G.nn):=rfl;have b:=@dh a n j O G.nl m k G.Lo _ om M x;by_cases F:(G.nl+pi G.Lo G.nl)<=k
 . rw[ut F] at b;go_enter func4,ntmps4;go_wp2_with fail;generalize w.alloc _=V at*;refine b.mono ?_;rintro e t ⟨rfl,f⟩;have s:=D.bH f;have R:=s.c3;have g:=@dh A n L P G.nh c (k-(G.nl+pi G.Lo G.nl)) G.Hi t om K (y.bH f);clear b;by_cases W:(G.nh+pi G.Hi G.nh)<=k-(G.nl+pi G.Lo G.nl)
   . rw[ut W] at g;go_wp2_with fail;refine g.mono ?_;rintro e u ⟨rfl,p⟩;have v:=s.bH p;have U:=v.c4;have h:=f.tr p;have o:=@af8 B n C Q G.nn d (k-(G.nl+pi G.Lo G.nl)-(G.nh+pi G.Hi G.nh)) G.N u om N (z.bH h);clear g R;by_cases I:(G.nn+xd G.N G.nn)<=k-(G.nl+pi G.Lo G.nl)-(G.nh+pi G.Hi G.nh)
     . rw[ut I] at o;have E:=aR (show szl k G.size=((k-(G.nl+pi G.Lo G.nl)-(G.nh+pi G.Hi G.nh)-(G.nn+xd G.N G.nn):Nat):Int) by rw[ut om];congr 1;omega);clear i;go_wp2_with fail;refine o.mono ?_;rintro e S ⟨rfl,r⟩;go_wp2;go_ret;exact⟨gL E.out.symm,l.tr (h.trans (sM r h.size))⟩
     . rw[ph (show k-(G.nl+pi G.Lo G.nl)-(G.nh+pi G.Hi G.nh)<(G.nn+xd G.N G.nn) by omega)] at o;have E:=aR (show szl k G.size=-1 by rw[ph om]);clear i;go_wp2_with fail;refine o.mono ?_;rintro e S ⟨rfl,r⟩;go_wp2;go_ret;exact⟨gL E.out.symm,l.tr (h.trans (sM r h.size))⟩
   . rw[ph (show k-(G.nl+pi G.Lo G.nl)<(G.nh+pi G.Hi G.nh) by omega)] at g;have E:=aR (show szl k G.size=-1 by rw[ph om]);clear i;go_wp2_with fail;refine g.mono ?_;rintro e u ⟨rfl,p⟩;go_wp2;go_ret;exact⟨gL E.out.symm,l.tr (f.trans (sM p f.size))⟩
 . rw[ph (show k<(G.nl+pi G.Lo G.nl) by omega)] at b;have E:=aR (show szl k G.size=-1 by rw[ph om]);clear i;go_enter func4,ntmps4;go_wp2_with fail;refine b.mono ?_;rintro e t ⟨rfl,f⟩;go_wp2;go_ret;exact⟨gL E.out.symm,l.tr f⟩
end Go.Proofs.YtaeieekkddndhaaGreat
