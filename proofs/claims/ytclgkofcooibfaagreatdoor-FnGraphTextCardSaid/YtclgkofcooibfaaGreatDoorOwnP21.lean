import Derived.Test.YtclgkofcooibfaaGreatDoorOwnP20
set_option maxHeartbeats 6400000
set_option maxRecDepth 100000
namespace Go.Proofs.YtclgkofcooibfaaGreatDoor
open Go.RowKit
theorem ko{P:Program}{md:Region.Mode}{ops:Array Oper}{Q:Exit->Act->World->Prop}(I:Nat->Array Bool->Act->World->Prop)
 (hs:∀fuel l a w,I (fuel+1) l a w->∀i∈Region.ready md ops l,∃o,ops[i]?=some o/\∀K':Act->World->Prop,(∀a w,I fuel (l.setIfInBounds i true) a w->K' a w)->if Region.wanted o (yielded ops a.tmps)=true then Oper.wp P o a w K' Q else K' (a.put o.dst undef) w)
 (h0:∀l a w,I 0 l a w->Region.ready md ops l=[])
 (he:∀fuel l a w,I fuel l a w->Region.ready md ops l=[]->Q .normal a w):
 ∀fuel l a w,I fuel l a w->wpAny P md ops Q fuel l a w
 | 0,l,a,w,h=>⟨h0 l a w h,he 0 l a w h (h0 l a w h)⟩
 | fuel+1,l,a,w,h=>⟨he _ l a w h,fun i hi=>by
    obtain⟨o,ho,hk⟩:=hs fuel l a w h i hi;exact wpOp_step ho fun K' hK=>hk K' fun a w hI=>hK a w (ko I hs h0 he fuel _ a w hI)⟩
theorem aaQ{B B':Nat}{w w':World}(s:w.Since B w')(h:B'<=B):w.Since B' w':=⟨s.os,s.tape,s.output,s.size,fun k hk=>s.block k om⟩
def bk:Value->Option Nat
 | .pointer (some a)=>some a.block
 | .slice (some a) _ _=>some a.block
 | _=>none
def Bd(lo:Nat)(w:World)(v:Value):Prop:=∀g,bk v=some g->lo<=g/\g<w.heap.size
def Ap(u v:Value):Prop:=∀g,bk u=some g->bk v=some g->False
theorem Bd.undef(lo:Nat)(w:World):Bd lo w undef:=fun g h=>by cases h
theorem Bd.grow{lo:Nat}{w w':World}{v:Value}(h:Bd lo w v)(hs:w.heap.size<=w'.heap.size):Bd lo w' v:=fun g e=>⟨(h g e).1,Nat.lt_of_lt_of_le (h g e).2 hs⟩
theorem Ap.symm{u v:Value}(h:Ap u v):Ap v u:=fun g a b=>h g b a
theorem Ap.undef(v:Value):Ap undef v:=fun g h=>by cases h
theorem Ap.fresh{lo:Nat}{w w':World}{u v:Value}(h:Bd lo w u)(hv:Bd w.heap.size w' v):Ap u v:=fun g a b=>by have:=(h g a).2;have:=(hv g b).1;omega
def Ow(w:World)(v:Value)(m:Nat)(X:Nat->Nat):Prop:=
 (v=.slice none 0 0/\m=0)∨∃g cp,v=.slice (some ⟨g,0,none⟩) m cp/\g<w.heap.size/\m<=cp/\ag w (some ⟨g,0,none⟩) g 0 m X/\(∀x,w.frozen? ⟨g,x,none⟩=false)/\Shape w g 129 cp/\cp<=maxLen
theorem Ow.since{w w':World}{v:Value}{m:Nat}{X:Nat->Nat}(h:Ow w v m X)(s:w.S w'):Ow w' v m X:=by
 rcases h with h | ⟨g,cp,e,hg,hc,L,F,H1,H2⟩
 . exact Or.inl h
 . exact Or.inr ⟨g,cp,e,Nat.lt_of_lt_of_le hg s.size,hc,L.aA s,fun x=>by rw[s.frozen (a:=jj g x) hg];exact F x,H1.since s hg,H2⟩
theorem Ow.set{w:World}{v:Value}{m:Nat}{X:Nat->Nat}(h:Ow w v m X){c:Nat}{t:Value}(ht:t=.p c 0)(ha:Ap t v)(u:Value):Ow (w.setCell ⟨c,0,none⟩ u) v m X:=by
 subst ht
 rcases h with h | ⟨g,cp,rfl,hg,hc,L,F,H1,H2⟩
 . exact Or.inl h
 . have:c≠g:=fun e=>ha g (by rw[e];rfl) rfl
   exact Or.inr ⟨g,cp,rfl,by simpa using hg,hc,L.setOther this _,fun x=>by simp[F x],H1.setCell _ _ _,H2⟩
theorem gv{w:World}{base:Nat}{v:Value}{m:Nat}{X:Nat->Nat}(h:w.ownsRow base 129 1 v m (ll X m)):Ow w v m X/\Bd base w v:=by
 have hc:= @World.ownsRow.cells _ _ _ _ _ _ _ h
 rcases h.2 with ⟨rfl,rfl⟩ | ⟨g,cap,cur,rfl,hb,hg,hm,hml,hsz,_⟩
 . exact⟨Or.inl ⟨rfl,rfl⟩,fun g e=>by cases e⟩
 . have hlt:=(Array.getElem?_eq_some_iff.1 hg).1
   refine⟨Or.inr ⟨g,cap,rfl,hlt,hm,fun j hj=>⟨rfl, ?_⟩,fun o=>by simp[World.frozen?,hg],⟨cur,hg,by simpa using hsz⟩,hml⟩,fun g' e=> ?_⟩
   . have:=hc (g:=g) rfl j _ (mD X m j hj)
     rw[Addr.add_lit] at this;exact this
   . cases e;exact⟨hb,hlt⟩
def Bx(w:World)(t:Value)(u:Value):Prop:=∃c,t=.pointer (some ⟨c,0,none⟩)/\w.cell? ⟨c,0,none⟩=some u/\w.frozen? ⟨c,0,none⟩=false/\c<w.heap.size
theorem Bx.since{w w':World}{t u:Value}(h:Bx w t u)(s:w.S w'):Bx w' t u:=by
 obtain⟨c,e,h1,h2,h3⟩:=h;exact⟨c,e,by rw[s.cell (a:=jj c 0) h3];exact h1,by rw[s.frozen (a:=jj c 0) h3];exact h2,Nat.lt_of_lt_of_le h3 s.size⟩
theorem Bx.other{w:World}{t u t':Value}(h:Bx w t u){c:Nat}(e:t'=.p c 0)(ha:Ap t' t)(x:Value):Bx (w.setCell ⟨c,0,none⟩ x) t u:=by
 obtain⟨d,rfl,h1,h2,h3⟩:=h;subst e;have:c≠d:=fun e=>ha d (by rw[e];rfl) rfl
 exact⟨d,rfl,by rw[iO (by exact this)];exact h1,by simp[h2],by simpa using h3⟩
theorem Bx.fill{w:World}{t u:Value}{c:Nat}(h:Bx w t u)(e:t=.p c 0)(x:Value):Bx (w.setCell ⟨c,0,none⟩ x) t x:=by
 obtain⟨d,rfl,h1,h2,h3⟩:=h;cases e;exact⟨_,rfl,j6 _ _ _ h1,by simp[h2],by simpa using h3⟩
theorem Bx.new(w:World)(u:Value)(ty:TypeId):Bx (w.alloc (.cells #[u] ty)) (.p w.heap.size 0) u:=⟨_,rfl,by simp[go_sem],by simp[go_sem],qz⟩
structure J(wA:World)(sa sb:Value)(n m:Nat)(X Y:Nat->Nat)(l0 l1 l2 l3 l4 l5 l6 l7:Bool)(t5 t6 t20 t21 t22 t23:Value)(w:World):Prop where
 S:wA.Since wA.heap.size w
 B5:Bd wA.heap.size w t5
 B6:Bd wA.heap.size w t6
 B21:Bd wA.heap.size w t21
 B23:Bd wA.heap.size w t23
 A56:Ap t5 t6
 A51:Ap t5 t21
 A53:Ap t5 t23
 A61:Ap t6 t21
 A63:Ap t6 t23
 A13:Ap t21 t23
 h0:l0=true->t20=sa
 h2:l2=true->t22=sb
 h1:l1=true->Ow w t21 n X
 h3:l3=true->Ow w t23 m Y
 h4:l4=true->Bx w t5 (if l6=true then t21 else .slice none 0 0)
 h5:l5=true->Bx w t6 (if l7=true then t23 else .slice none 0 0)
section
variable{wA:World}{sa sb:Value}{n m:Nat}{X Y:Nat->Nat}{l0 l1 l2 l3 l4 l5 l6 l7:Bool}{t5 t6 t20 t21 t22 t23:Value}{w w':World}
theorem J.grow(h:J wA sa sb n m X Y l0 l1 l2 l3 l4 l5 l6 l7 t5 t6 t20 t21 t22 t23 w)(s:w.S w'):J wA sa sb n m X Y l0 l1 l2 l3 l4 l5 l6 l7 t5 t6 t20 t21 t22 t23 w':=
 ⟨h.S.trans (aaQ s h.S.size),h.B5.grow s.size,h.B6.grow s.size,h.B21.grow s.size,h.B23.grow s.size,h.A56,h.A51,h.A53,h.A61,h.A63,h.A13,h.h0,h.h2,fun e=>(h.h1 e).since s,fun e=>(h.h3 e).since s,fun e=>(h.h4 e).since s,fun e=>(h.h5 e).since s⟩
theorem J.start(wA:World)(sa sb:Value)(n m:Nat)(X Y:Nat->Nat)(u20 u22:Value):J wA sa sb n m X Y false false false false false false false false undef undef u20 undef u22 undef wA:=
 ⟨.refl _ _,.undef _ _,.undef _ _,.undef _ _,.undef _ _,.undef _,.undef _,.undef _,.undef _,.undef _,.undef _,fun h=>(by cases h),fun h=>(by cases h),fun h=>(by cases h),fun h=>(by cases h),fun h=>(by cases h),fun h=>(by cases h)⟩
theorem J.op0(h:J wA sa sb n m X Y l0 l1 l2 l3 l4 l5 l6 l7 t5 t6 t20 t21 t22 t23 w):J wA sa sb n m X Y true l1 l2 l3 l4 l5 l6 l7 t5 t6 sa t21 t22 t23 w:={ h with h0:=fun _=>rfl }
theorem J.op2(h:J wA sa sb n m X Y l0 l1 l2 l3 l4 l5 l6 l7 t5 t6 t20 t21 t22 t23 w):J wA sa sb n m X Y l0 l1 true l3 l4 l5 l6 l7 t5 t6 t20 t21 sb t23 w:={ h with h2:=fun _=>rfl }
theorem J.op1(h:J wA sa sb n m X Y l0 l1 l2 l3 l4 l5 false l7 t5 t6 t20 t21 t22 t23 w)(s:w.S w'){v:Value}(o:Ow w' v n X)(b:Bd w.heap.size w' v):J wA sa sb n m X Y l0 true l2 l3 l4 l5 false l7 t5 t6 t20 v t22 t23 w':=
 have g:=h.grow s;have b':Bd wA.heap.size w' v:=fun x e=>⟨Nat.le_trans h.S.size (b x e).1,(b x e).2⟩
 { g with B21:=b',A51:=.fresh h.B5 b,A61:=.fresh h.B6 b,A13:=(Ap.fresh h.B23 b).symm,h1:=fun _=>o }
theorem J.op3(h:J wA sa sb n m X Y l0 l1 l2 l3 l4 l5 l6 false t5 t6 t20 t21 t22 t23 w)(s:w.S w'){v:Value}(o:Ow w' v m Y)(b:Bd w.heap.size w' v):J wA sa sb n m X Y l0 l1 l2 true l4 l5 l6 false t5 t6 t20 t21 t22 v w':=
 have g:=h.grow s;have b':Bd wA.heap.size w' v:=fun x e=>⟨Nat.le_trans h.S.size (b x e).1,(b x e).2⟩
 { g with B23:=b',A53:=.fresh h.B5 b,A63:=.fresh h.B6 b,A13:=.fresh h.B21 b,h3:=fun _=>o }
theorem afE(w:World)(u:Value)(ty:TypeId):Bd w.heap.size (w.alloc (.cells #[u] ty)) (.p w.heap.size 0):=fun g e=>by cases e;simp
theorem J.op4(h:J wA sa sb n m X Y l0 l1 l2 l3 l4 l5 false l7 t5 t6 t20 t21 t22 t23 w)(ty:TypeId):J wA sa sb n m X Y l0 l1 l2 l3 true l5 false l7 (.p w.heap.size 0) t6 t20 t21 t22 t23 (w.alloc (.cells #[.n] ty)):=
 have g:=h.grow ((eg _ _).alloc (Nat.le_refl _) (.cells #[.n] ty));have b:=afE w (.n) ty
 { g with B5:=fun x e=>⟨Nat.le_trans h.S.size (b x e).1,(b x e).2⟩,A56:=(Ap.fresh h.B6 b).symm,A51:=(Ap.fresh h.B21 b).symm,A53:=(Ap.fresh h.B23 b).symm,h4:=fun _=>Bx.new _ _ _ }
theorem J.op5(h:J wA sa sb n m X Y l0 l1 l2 l3 l4 l5 l6 false t5 t6 t20 t21 t22 t23 w)(ty:TypeId):J wA sa sb n m X Y l0 l1 l2 l3 l4 true l6 false t5 (.p w.heap.size 0) t20 t21 t22 t23 (w.alloc (.cells #[.n] ty)):=
 have g:=h.grow ((eg _ _).alloc (Nat.le_refl _) (.cells #[.n] ty));have b:=afE w (.n) ty
 { g with B6:=fun x e=>⟨Nat.le_trans h.S.size (b x e).1,(b x e).2⟩,A56:=Ap.fresh h.B5 b,A61:=(Ap.fresh h.B21 b).symm,A63:=(Ap.fresh h.B23 b).symm,h5:=fun _=>Bx.new _ _ _ }
theorem mX{lo c:Nat}{u x:Value}(h:Bd lo w u):Bd lo (w.setCell ⟨c,0,none⟩ x) u:=h.grow qz
theorem J.op6(h:J wA sa sb n m X Y l0 l1 l2 l3 true l5 l6 l7 t5 t6 t20 t21 t22 t23 w){c:Nat}(e:t5=.p c 0):J wA sa sb n m X Y l0 l1 l2 l3 true l5 true l7 t5 t6 t20 t21 t22 t23 (w.setCell ⟨c,0,none⟩ t21):=
 ⟨h.S.setCell (h.B5 c (by rw[e];rfl)).1 _,mX h.B5,mX h.B6,mX h.B21,mX h.B23,h.A56,h.A51,h.A53,h.A61,h.A63,h.A13,h.h0,h.h2,fun k=>(h.h1 k).set e h.A51 _,fun k=>(h.h3 k).set e h.A53 _,fun _=>(h.h4 rfl).fill e _,fun k=>(h.h5 k).other e h.A56 _⟩
theorem J.op7(h:J wA sa sb n m X Y l0 l1 l2 l3 l4 true l6 l7 t5 t6 t20 t21 t22 t23 w){c:Nat}(e:t6=.p c 0):J wA sa sb n m X Y l0 l1 l2 l3 l4 true l6 true t5 t6 t20 t21 t22 t23 (w.setCell ⟨c,0,none⟩ t23):=
 ⟨h.S.setCell (h.B6 c (by rw[e];rfl)).1 _,mX h.B5,mX h.B6,mX h.B21,mX h.B23,h.A56,h.A51,h.A53,h.A61,h.A63,h.A13,h.h0,h.h2,fun k=>(h.h1 k).set e h.A61 _,fun k=>(h.h3 k).set e h.A63 _,fun k=>(h.h4 k).other e h.A56.symm _,fun _=>(h.h5 rfl).fill e _⟩
theorem gJ{lo:Nat}{v:Value}(h:Ow w v m X)(b:Bd lo w v)(far:Nat)(hf:lo<=far)(_hw:w.heap.size<=far):∃a g cp,v=.slice a m cp/\m<=cp/\(a=none->cp=0)/\ag w a g 0 m X/\(0<m->∀x,w.frozen? (jj g x)=false)/\lo<=g/\(g=far∨bk v=some g)/\fg w v g:=by
 rcases h with ⟨rfl,rfl⟩ | ⟨g,cp,rfl,hg,hc,L,F,H⟩
 . exact⟨none,far,0,rfl,Nat.le_refl _,fun _=>rfl,fun j hj=>absurd hj om,fun h=>absurd h om,hf,Or.inl rfl,fun a _ _ h ha=>by cases h;exact absurd rfl ha⟩
 . exact⟨_,g,cp,rfl,hc,fun h=>(by cases h),L,fun _=>F,(b g rfl).1,Or.inr rfl,fun _ _ _ h _=>by cases h;exact H⟩
theorem J.gd(h:J wA sa sb n m X Y true true true true true true true true t5 t6 t20 t21 t22 t23 w)(lX:∀j,j<n->X j<4294967296)(lY:∀j,j<m->Y j<4294967296)(pX:0<n->X (n-1)≠0)(pY:0<m->Y (m-1)≠0):
 ∃c d gn gm an am cn cm,t5=.p c 0/\t6=.p d 0/\Gd wA.heap.size wA w c d gn gm an am n m cn cm X Y:=by
 obtain⟨c,e5,c1,c2,c3⟩:=h.h4 rfl;obtain⟨d,e6,d1,d2,d3⟩:=h.h5 rfl;have hs:=h.S.size;obtain⟨an,gn,cn,e21,q1,q2,q3,q4,q5,q6,q7⟩:=gJ (h.h1 rfl) h.B21 w.heap.size hs (Nat.le_refl _);obtain⟨am,gm,cm,e23,r1,r2,r3,r4,r5,r6,r7⟩:=gJ (h.h3 rfl) h.B23 (w.heap.size+1) om om;have kc:bk t5=some c:=by rw[e5];rfl
 have kd:bk t6=some d:=by rw[e6];rfl
 have bn:=q6.elim Or.inr fun e=>Or.inl (h.B21 _ e).2
 have bm:=r6.elim Or.inr fun e=>Or.inl (h.B23 _ e).2
 refine⟨c,d,gn,gm,an,am,cn,cm,e5,e6,h.S,by rw[c1,if_pos rfl,e21],by rw[d1,if_pos rfl,e23],c2,d2,q3,r3,q4,r4,q1,r1,q2,r2,lX,lY,pX,pY,(h.B5 c kc).1,(h.B6 d kd).1,q5,r5, ?_, ?_, ?_, ?_, ?_, ?_,by rw[<-e21];exact q7,by rw[<-e23];exact r7⟩
 . exact fun e=>h.A56 c kc (by rw[kd,e])
 . rcases q6 with e | e
   . omega
   . rcases r6 with e' | e'
     . have:=(h.B21 _ e).2;omega
     . exact fun k=>h.A13 gn e (by rw[e',k])
 . rcases q6 with e | e
   . omega
   . exact fun k=>h.A51 c kc (by rw[e,k])
 . rcases q6 with e | e
   . omega
   . exact fun k=>h.A61 d kd (by rw[e,k])
 . rcases r6 with e | e
   . omega
   . exact fun k=>h.A53 c kc (by rw[e,k])
 . rcases r6 with e | e
   . omega
   . exact fun k=>h.A63 d kd (by rw[e,k])
end
def yJ(l0 l1 l2 l3 l4 l5 l6 l7:Bool):Nat->Bool
 | 0=> !l0
 | 1=>l0&& !l1&& !l6&& !l3
 | 2=> !l2
 | 3=>l1&&l2&& !l3&& !l7
 | 4=> !l4&& !l6
 | 5=> !l5&& !l7
 | 6=>l4&&l1&&l3&&l5&& !l6
 | 7=>l6&&l5&&l3&& !l7
 | _=>false
def iM(l0 l1 l2 l3 l4 l5 l6 l7:Bool):Nat:=(!l0).toNat+(!l1).toNat+(!l2).toNat+(!l3).toNat+(!l4).toNat+(!l5).toNat+(!l6).toNat+(!l7).toNat
def wI(l1 l3 l4 l5 l6 l7:Bool):Bool:=(!l6 ||(l1&&l3&&l4&&l5))&&(!l7 ||l6)&&(!l3 ||l1)
theorem ad3{a b:Option Addr}{ba oa n ca bb ob m cb:Nat}{X Y:Nat->Nat}{w:World}(_hw:0<=w.heap.size)(hn:n<=16777216)(hm:m<=16777216)(hnc:n<=ca)(hmc:m<=cb)(hac:a=none->ca=0)(hbc:b=none->cb=0)
 (hX:ag w a ba oa n X)(hY:ag w b bb ob m Y)(hXl:∀j,j<n->X j<4294967296)(hYl:∀j,j<m->Y j<4294967296)(pX:0<n->X (n-1)≠0)(pY:0<m->Y (m-1)≠0)(_hT:rI w)
 (h1:lv X n≠1)(h2:lv Y m≠1)(h3:2<n∨2<m):
 Cl 190 #[.slice a n ca,.slice b m cb] w fun e w'=>∃v g,e=.returned v/\bU w' v g (Nat.gcd (lv X n) (lv Y m)) 67108864/\w.heap.size<=g/\w.S w':=by
 have d1:decide (lv X n=1)=false:=by simp[h1]
 have d2:decide (lv Y m=1)=false:=by simp[h2]
 have sA:w.S ((w.alloc (.cells #[.slice a n ca] 98)).alloc (.cells #[.slice b m cb] 98)):=(bJ _ _).alloc qz _;have bx1:((w.alloc (.cells #[.slice a n ca] 98)).alloc (.cells #[.slice b m cb] 98)).cell? (jj w.heap.size 0)=some (.slice a n ca):=by rw[World.cell?_alloc_old _ _ _ qz];simp[go_sem]
 have bx2:((w.alloc (.cells #[.slice a n ca] 98)).alloc (.cells #[.slice b m cb] 98)).cell? (jj (w.heap.size+1) 0)=some (.slice b m cb):=by simp[go_sem]
 have zA:w.heap.size+2<=((w.alloc (.cells #[.slice a n ca] 98)).alloc (.cells #[.slice b m cb] 98)).heap.size:=by simp
 have XA:=hX.aA sA;have YA:=hY.aA sA;go_enter Tryz.func190,Tryz.ntmps190;go_wp2_with fail;generalize (w.alloc _).alloc _=wA at*;have I1:=dx bx1 XA hXl pX;have I2:=dx bx2 YA hYl pY;rw[d1] at I1;rw[d2] at I2;refine I1.mono ?_;clear I1;rintro e w1 ⟨rfl,hw1⟩;rw[hw1];clear hw1;have I2:=ae I2;go_wp2_with fail;refine I2.out.mono ?_;clear I2;rintro e w1 ⟨rfl,hw1⟩;rw[hw1];clear hw1
 by_cases h4:2<n
 . go_wp2_with fail
   refine (jC h4 bx1).mono ?_;rintro e w1 ⟨rfl,hw1⟩;rw[hw1];clear hw1 d1 d2 h1 h2 hX hY;go_wp2;refine wp_region_any kr ?_
   change wpAny _ _ _ _ _ _ _ (World.drew _)
   have bx1:wA.drew.cell? (jj w.heap.size 0)=some (.slice a n ca):=bx1;have bx2:wA.drew.cell? (jj (w.heap.size+1) 0)=some (.slice b m cb):=bx2;have XA:ag wA.drew a ba oa n X:=XA;have YA:ag wA.drew b bb ob m Y:=YA;have zA:w.heap.size+2<=wA.drew.heap.size:=zA;have sA:w.S wA.drew:=⟨sA.os,sA.tape,sA.output,sA.size,sA.block⟩;generalize wA.drew=wD at*
   refine ko (fun fuel l ac wx=>∃l0 l1 l2 l3 l4 l5 l6 l7 t5 t6 t20 t21 t22 t23,l= #[l0,l1,l2,l3,l4,l5,l6,l7]/\fuel=iM l0 l1 l2 l3 l4 l5 l6 l7/\wI l1 l3 l4 l5 l6 l7=true/\
    ac={ tmps:= #[Value.slice a n ca,Value.slice b m cb,Value.pointer (some { block:=w.heap.size,off:=0 }),Value.pointer (some { block:=w.heap.size+1,off:=0 }),Value.n,t5,t6,
     Value.bool false,Value.bool false,Value.bool false,Value.bool false,undef,Value.bool false,Value.bool false,undef,Value.bool false,undef,undef,undef,undef,t20,t21,t22,t23,undef,undef],defers:=[] }/\
    J wD (.slice a n ca) (.slice b m cb) (ce (nz X) n) (ce (nz Y) m) X Y l0 l1 l2 l3 l4 l5 l6 l7 t5 t6 t20 t21 t22 t23 wx) ?_ ?_ ?_ _ _ _ _ ⟨_,_,_,_,_,_,_,_,_,_,_,_,_,_,rfl,rfl,rfl,rfl,J.start _ _ _ _ _ _ _ _ _⟩
   . rintro fuel l ac wx ⟨l0,l1,l2,l3,l4,l5,l6,l7,t5,t6,t20,t21,t22,t23,rfl,hf,hk,rfl,j⟩ i hi
     have hr:yJ l0 l1 l2 l3 l4 l5 l6 l7 i=true:=by
      revert i
      refine List.all_eq_true.1 ?_
      revert hk
      clear hf j
      revert l0 l1 l2 l3 l4 l5 l6 l7
      exact of_decide_eq_true kr
     have k1:wx.cell? (jj w.heap.size 0)=some (.slice a n ca):=by rw[j.S.cell (a:=jj w.heap.size 0) (by show w.heap.size<_;omega)];exact bx1
     have k2:wx.cell? (jj (w.heap.size+1) 0)=some (.slice b m cb):=by rw[j.S.cell (a:=jj (w.heap.size+1) 0) (by show w.heap.size+1<_;omega)];exact bx2
     have kX:=XA.aA j.S;have kY:=YA.aA j.S;clear hi
     rcases i with _ | _ | _ | _ | _ | _ | _ | _ | i
     . simp[yJ] at hr
       subst hr;refine⟨_,rfl,fun K hK=> ?_⟩;go_simp;refine hK _ _ ⟨true,l1,l2,l3,l4,l5,l6,l7,t5,t6,_,t21,t22,t23,rfl, ?_,hk,rfl,j.op0⟩
       simp[iM] at hf⊢;omega
     . simp[yJ] at hr
       obtain⟨⟨⟨rfl,rfl⟩,rfl⟩,rfl⟩:=hr;have e:=j.h0 rfl;subst e;refine⟨_,rfl,fun K hK=> ?_⟩;go_simp;refine (fi om hnc hac kX).mono ?_;rintro e w' ⟨v,rfl,o,s⟩;refine hK _ _ ⟨true,true,l2,false,l4,l5,false,l7,t5,t6,_,v,t22,t23,rfl, ?_, ?_,rfl,j.op1 s (gv o).1 (gv o).2⟩
       . simp[iM] at hf⊢;omega
       . simpa [wI] using hk
     . simp[yJ] at hr
       subst hr;refine⟨_,rfl,fun K hK=> ?_⟩;go_simp;refine hK _ _ ⟨l0,l1,true,l3,l4,l5,l6,l7,t5,t6,t20,t21,_,t23,rfl, ?_,hk,rfl,j.op2⟩
       simp[iM] at hf⊢;omega
     . simp[yJ] at hr
       obtain⟨⟨⟨rfl,rfl⟩,rfl⟩,rfl⟩:=hr;have e:=j.h2 rfl;subst e;refine⟨_,rfl,fun K hK=> ?_⟩;go_simp;refine (fi om hmc hbc kY).mono ?_;rintro e w' ⟨v,rfl,o,s⟩;refine hK _ _ ⟨l0,true,true,true,l4,l5,l6,false,t5,t6,t20,t21,_,v,rfl, ?_, ?_,rfl,j.op3 s (gv o).1 (gv o).2⟩
       . simp[iM] at hf⊢;omega
       . revert hk;cases l6<;>cases l4<;>cases l5<;>decide
     . simp[yJ] at hr
       obtain⟨rfl,rfl⟩:=hr;refine⟨_,rfl,fun K hK=> ?_⟩;go_simp;refine hK _ _ ⟨l0,l1,l2,l3,true,l5,false,l7,_,t6,t20,t21,t22,t23,rfl, ?_, ?_,rfl,j.op4 98⟩
       . simp[iM] at hf⊢;omega
       . simpa [wI] using hk
     . simp[yJ] at hr
       obtain⟨rfl,rfl⟩:=hr;refine⟨_,rfl,fun K hK=> ?_⟩;go_simp;refine hK _ _ ⟨l0,l1,l2,l3,l4,true,l6,false,t5,_,t20,t21,t22,t23,rfl, ?_, ?_,rfl,j.op5 98⟩
       . simp[iM] at hf⊢;omega
       . revert hk;cases l6<;>cases l4<;>cases l1<;>cases l3<;>decide
     . simp[yJ] at hr
       obtain⟨⟨⟨⟨rfl,rfl⟩,rfl⟩,rfl⟩,rfl⟩:=hr;obtain⟨c,e5,c1,c2,c3⟩:=j.h4 rfl;obtain⟨xa,xg,xc,e21,-⟩:=gJ (j.h1 rfl) j.B21 wx.heap.size j.S.size (Nat.le_refl _);subst e5 e21;rw[if_neg qz] at c1;refine⟨_,rfl,fun K hK=> ?_⟩;go_simp;refine hK _ _ ⟨l0,true,l2,true,true,true,true,l7,_,t6,t20,_,t22,t23,rfl, ?_, ?_,rfl,j.op6 rfl⟩
       . simp[iM] at hf⊢;omega
       . simp[wI]
     . simp[yJ] at hr
       obtain⟨⟨⟨rfl,rfl⟩,rfl⟩,rfl⟩:=hr;obtain⟨c,e5,c1,c2,c3⟩:=j.h5 rfl;obtain⟨xa,xg,xc,e21,-⟩:=gJ (j.h3 rfl) j.B23 wx.heap.size j.S.size (Nat.le_refl _);subst e5 e21;rw[if_neg qz] at c1;refine⟨_,rfl,fun K hK=> ?_⟩;go_simp;refine hK _ _ ⟨l0,l1,l2,true,l4,true,true,true,t5,_,t20,t21,t22,_,rfl, ?_, ?_,rfl,j.op7 rfl⟩
       . simp[iM] at hf⊢;omega
       . simpa [wI] using hk
     . cases hr
   . rintro l ac wx ⟨l0,l1,l2,l3,l4,l5,l6,l7,t5,t6,t20,t21,t22,t23,rfl,hf,hk,rfl,j⟩
     revert hf
     clear hk j
     revert l0 l1 l2 l3 l4 l5 l6 l7
     exact of_decide_eq_true kr
   . rintro fuel l ac wx ⟨l0,l1,l2,l3,l4,l5,l6,l7,t5,t6,t20,t21,t22,t23,rfl,hf,hk,rfl,j⟩ he
     have hall:(l0&&(l1&&(l2&&(l3&&(l4&&(l5&&(l6&&l7)))))))=true:=by
      revert he
      clear hf j
      revert hk
      revert l0 l1 l2 l3 l4 l5 l6 l7
      exact of_decide_eq_true kr
     simp only[Bool.and_eq_true] at hall;obtain⟨rfl,rfl,rfl,rfl,rfl,rfl,rfl,rfl⟩:=hall;have htX:=co (nz X) n;have htY:=co (nz Y) m;obtain⟨c,d,gn,gm,an,am,cn,cm,rfl,rfl,G⟩:=j.gd (fun q hq=>hXl q om) (fun q hq=>hYl q om) (fun h=>by have:=cI (nz X) n h;simpa [nz] using this) (fun h=>by have:=cI (nz Y) m h;simpa [nz] using this);have HL:=ae (And.intro (dP X n) (dP Y m));have hTD:rI wD:=trivial;clear j he hk hf hXl hYl pX pY;go_wp2_with fail;refine (oT om om om G hTD).mono ?_;rintro e w3 ⟨rfl,ra,rg,rk,rc,Z,z1,z2,z3,z4,z5,z6,z7,z8,z9,z10,z11⟩;have Z7:=ae (And.intro z7 (And.intro z8 z9));clear z7 z8 z9;go_wp2_with fail;go_ret;refine⟨_,rg,rfl,⟨ra,rk,rc,Z,rfl,z2,z3,z4,z5,z6,Z7.out.1,Z7.out.2.1, ?_⟩,om,sA.trans (sM z11 om)⟩;rw[Z7.out.2.2,HL.out.1,HL.out.2]
 . go_wp2_with fail
   refine (fU om bx1).mono ?_;rintro e w1 ⟨rfl,hw1⟩;rw[hw1];clear hw1;go_wp2_with fail;refine (jC om bx2).mono ?_;rintro e w1 ⟨rfl,hw1⟩;rw[hw1];clear hw1 d1 d2 h1 h2 hX hY;go_wp2;refine wp_region_any kr ?_
   change wpAny _ _ _ _ _ _ _ (World.drew _)
   have bx1:wA.drew.cell? (jj w.heap.size 0)=some (.slice a n ca):=bx1;have bx2:wA.drew.cell? (jj (w.heap.size+1) 0)=some (.slice b m cb):=bx2;have XA:ag wA.drew a ba oa n X:=XA;have YA:ag wA.drew b bb ob m Y:=YA;have zA:w.heap.size+2<=wA.drew.heap.size:=zA;have sA:w.S wA.drew:=⟨sA.os,sA.tape,sA.output,sA.size,sA.block⟩;generalize wA.drew=wD at*
   refine ko (fun fuel l ac wx=>∃l0 l1 l2 l3 l4 l5 l6 l7 t5 t6 t20 t21 t22 t23,l= #[l0,l1,l2,l3,l4,l5,l6,l7]/\fuel=iM l0 l1 l2 l3 l4 l5 l6 l7/\wI l1 l3 l4 l5 l6 l7=true/\
    ac={ tmps:= #[Value.slice a n ca,Value.slice b m cb,Value.pointer (some { block:=w.heap.size,off:=0 }),Value.pointer (some { block:=w.heap.size+1,off:=0 }),Value.n,t5,t6,
     Value.bool false,Value.bool false,Value.bool false,Value.bool false,undef,Value.bool true,Value.bool true,Value.bool false,Value.bool false,undef,undef,undef,undef,t20,t21,t22,t23,undef,undef],defers:=[] }/\
    J wD (.slice a n ca) (.slice b m cb) (ce (nz X) n) (ce (nz Y) m) X Y l0 l1 l2 l3 l4 l5 l6 l7 t5 t6 t20 t21 t22 t23 wx) ?_ ?_ ?_ _ _ _ _ ⟨_,_,_,_,_,_,_,_,_,_,_,_,_,_,rfl,rfl,rfl,rfl,J.start _ _ _ _ _ _ _ _ _⟩
   . rintro fuel l ac wx ⟨l0,l1,l2,l3,l4,l5,l6,l7,t5,t6,t20,t21,t22,t23,rfl,hf,hk,rfl,j⟩ i hi
     have hr:yJ l0 l1 l2 l3 l4 l5 l6 l7 i=true:=by
      revert i
      refine List.all_eq_true.1 ?_
      revert hk
      clear hf j
      revert l0 l1 l2 l3 l4 l5 l6 l7
      exact of_decide_eq_true kr
     have k1:wx.cell? (jj w.heap.size 0)=some (.slice a n ca):=by rw[j.S.cell (a:=jj w.heap.size 0) (by show w.heap.size<_;omega)];exact bx1
     have k2:wx.cell? (jj (w.heap.size+1) 0)=some (.slice b m cb):=by rw[j.S.cell (a:=jj (w.heap.size+1) 0) (by show w.heap.size+1<_;omega)];exact bx2
     have kX:=XA.aA j.S;have kY:=YA.aA j.S;clear hi
     rcases i with _ | _ | _ | _ | _ | _ | _ | _ | i
     . simp[yJ] at hr
       subst hr;refine⟨_,rfl,fun K hK=> ?_⟩;go_simp;refine hK _ _ ⟨true,l1,l2,l3,l4,l5,l6,l7,t5,t6,_,t21,t22,t23,rfl, ?_,hk,rfl,j.op0⟩
       simp[iM] at hf⊢;omega
     . simp[yJ] at hr
       obtain⟨⟨⟨rfl,rfl⟩,rfl⟩,rfl⟩:=hr;have e:=j.h0 rfl;subst e;refine⟨_,rfl,fun K hK=> ?_⟩;go_simp;refine (fi om hnc hac kX).mono ?_;rintro e w' ⟨v,rfl,o,s⟩;refine hK _ _ ⟨true,true,l2,false,l4,l5,false,l7,t5,t6,_,v,t22,t23,rfl, ?_, ?_,rfl,j.op1 s (gv o).1 (gv o).2⟩
       . simp[iM] at hf⊢;omega
       . simpa [wI] using hk
     . simp[yJ] at hr
       subst hr;refine⟨_,rfl,fun K hK=> ?_⟩;go_simp;refine hK _ _ ⟨l0,l1,true,l3,l4,l5,l6,l7,t5,t6,t20,t21,_,t23,rfl, ?_,hk,rfl,j.op2⟩
       simp[iM] at hf⊢;omega
     . simp[yJ] at hr
       obtain⟨⟨⟨rfl,rfl⟩,rfl⟩,rfl⟩:=hr;have e:=j.h2 rfl;subst e;refine⟨_,rfl,fun K hK=> ?_⟩;go_simp;refine (fi om hmc hbc kY).mono ?_;rintro e w' ⟨v,rfl,o,s⟩;refine hK _ _ ⟨l0,true,true,true,l4,l5,l6,false,t5,t6,t20,t21,_,v,rfl, ?_, ?_,rfl,j.op3 s (gv o).1 (gv o).2⟩
       . simp[iM] at hf⊢;omega
       . revert hk;cases l6<;>cases l4<;>cases l5<;>decide
     . simp[yJ] at hr
       obtain⟨rfl,rfl⟩:=hr;refine⟨_,rfl,fun K hK=> ?_⟩;go_simp;refine hK _ _ ⟨l0,l1,l2,l3,true,l5,false,l7,_,t6,t20,t21,t22,t23,rfl, ?_, ?_,rfl,j.op4 98⟩
       . simp[iM] at hf⊢;omega
       . simpa [wI] using hk
     . simp[yJ] at hr
       obtain⟨rfl,rfl⟩:=hr;refine⟨_,rfl,fun K hK=> ?_⟩;go_simp;refine hK _ _ ⟨l0,l1,l2,l3,l4,true,l6,false,t5,_,t20,t21,t22,t23,rfl, ?_, ?_,rfl,j.op5 98⟩
       . simp[iM] at hf⊢;omega
       . revert hk;cases l6<;>cases l4<;>cases l1<;>cases l3<;>decide
     . simp[yJ] at hr
       obtain⟨⟨⟨⟨rfl,rfl⟩,rfl⟩,rfl⟩,rfl⟩:=hr;obtain⟨c,e5,c1,c2,c3⟩:=j.h4 rfl;obtain⟨xa,xg,xc,e21,-⟩:=gJ (j.h1 rfl) j.B21 wx.heap.size j.S.size (Nat.le_refl _);subst e5 e21;rw[if_neg qz] at c1;refine⟨_,rfl,fun K hK=> ?_⟩;go_simp;refine hK _ _ ⟨l0,true,l2,true,true,true,true,l7,_,t6,t20,_,t22,t23,rfl, ?_, ?_,rfl,j.op6 rfl⟩
       . simp[iM] at hf⊢;omega
       . simp[wI]
     . simp[yJ] at hr
       obtain⟨⟨⟨rfl,rfl⟩,rfl⟩,rfl⟩:=hr;obtain⟨c,e5,c1,c2,c3⟩:=j.h5 rfl;obtain⟨xa,xg,xc,e21,-⟩:=gJ (j.h3 rfl) j.B23 wx.heap.size j.S.size (Nat.le_refl _);subst e5 e21;rw[if_neg qz] at c1;refine⟨_,rfl,fun K hK=> ?_⟩;go_simp;refine hK _ _ ⟨l0,l1,l2,true,l4,true,true,true,t5,_,t20,t21,t22,_,rfl, ?_, ?_,rfl,j.op7 rfl⟩
       . simp[iM] at hf⊢;omega
       . simpa [wI] using hk
     . cases hr
   . rintro l ac wx ⟨l0,l1,l2,l3,l4,l5,l6,l7,t5,t6,t20,t21,t22,t23,rfl,hf,hk,rfl,j⟩
     revert hf
     clear hk j
     revert l0 l1 l2 l3 l4 l5 l6 l7
     exact of_decide_eq_true kr
   . rintro fuel l ac wx ⟨l0,l1,l2,l3,l4,l5,l6,l7,t5,t6,t20,t21,t22,t23,rfl,hf,hk,rfl,j⟩ he
     have hall:(l0&&(l1&&(l2&&(l3&&(l4&&(l5&&(l6&&l7)))))))=true:=by
      revert he
      clear hf j
      revert hk
      revert l0 l1 l2 l3 l4 l5 l6 l7
      exact of_decide_eq_true kr
     simp only[Bool.and_eq_true] at hall;obtain⟨rfl,rfl,rfl,rfl,rfl,rfl,rfl,rfl⟩:=hall;have htX:=co (nz X) n;have htY:=co (nz Y) m;obtain⟨c,d,gn,gm,an,am,cn,cm,rfl,rfl,G⟩:=j.gd (fun q hq=>hXl q om) (fun q hq=>hYl q om) (fun h=>by have:=cI (nz X) n h;simpa [nz] using this) (fun h=>by have:=cI (nz Y) m h;simpa [nz] using this);have HL:=ae (And.intro (dP X n) (dP Y m));have hTD:rI wD:=trivial;clear j he hk hf hXl hYl pX pY;go_wp2_with fail;refine (oT om om om G hTD).mono ?_;rintro e w3 ⟨rfl,ra,rg,rk,rc,Z,z1,z2,z3,z4,z5,z6,z7,z8,z9,z10,z11⟩;have Z7:=ae (And.intro z7 (And.intro z8 z9));clear z7 z8 z9;go_wp2_with fail;go_ret;refine⟨_,rg,rfl,⟨ra,rk,rc,Z,rfl,z2,z3,z4,z5,z6,Z7.out.1,Z7.out.2.1, ?_⟩,om,sA.trans (sM z11 om)⟩;rw[Z7.out.2.2,HL.out.1,HL.out.2]
theorem il(w:World):bU (w.alloc (.cells #[.int .u32 1] 129)) (.s w.heap.size 1 1) w.heap.size 1 67108864:=by
 refine⟨_,1,1,fun _=>1,rfl,om,om,fun h=>(by cases h),fun j hj=> ?_,fun _ o=>by simp[go_sem],fun _ _=>(by show 1<4294967296;omega),fun _=>by decide,by simp[lv]⟩;have e:j=0:=om
 subst e;exact⟨rfl,by simp[go_sem]⟩
theorem ru{a b:Option Addr}{ba oa n ca bb ob m cb:Nat}{X Y:Nat->Nat}{w:World}(hw:0<=w.heap.size)(hn:n<=16777216)(hm:m<=16777216)(hnc:n<=ca)(hmc:m<=cb)(hac:a=none->ca=0)(hbc:b=none->cb=0)
 (hX:ag w a ba oa n X)(hY:ag w b bb ob m Y)(hXl:∀j,j<n->X j<4294967296)(hYl:∀j,j<m->Y j<4294967296)(pX:0<n->X (n-1)≠0)(pY:0<m->Y (m-1)≠0)(hT:rI w):
 Cl 190 #[.slice a n ca,.slice b m cb] w fun e w'=>∃v g,e=.returned v/\bU w' v g (Nat.gcd (lv X n) (lv Y m)) 67108864/\w.heap.size<=g/\w.S w':=by
 by_cases hbig:lv X n≠1/\lv Y m≠1/\(2<n∨2<m)
 . exact ad3 hw hn hm hnc hmc hac hbc hX hY hXl hYl pX pY hT hbig.1 hbig.2.1 hbig.2.2
 have sA:w.S ((w.alloc (.cells #[.slice a n ca] 98)).alloc (.cells #[.slice b m cb] 98)):=(bJ _ _).alloc qz _;have bx1:((w.alloc (.cells #[.slice a n ca] 98)).alloc (.cells #[.slice b m cb] 98)).cell? (jj w.heap.size 0)=some (.slice a n ca):=by rw[World.cell?_alloc_old _ _ _ qz];simp[go_sem]
 have bx2:((w.alloc (.cells #[.slice a n ca] 98)).alloc (.cells #[.slice b m cb] 98)).cell? (jj (w.heap.size+1) 0)=some (.slice b m cb):=by simp[go_sem]
 have zA:w.heap.size+2<=((w.alloc (.cells #[.slice a n ca] 98)).alloc (.cells #[.slice b m cb] 98)).heap.size:=by simp
 have XA:=hX.aA sA;have YA:=hY.aA sA
 by_cases h1:lv X n=1
 . have eG:Nat.gcd (lv X n) (lv Y m)=1:=by rw[h1];exact Nat.gcd_one_left _
   rw[eG];have d1:decide (lv X n=1)=true:=by simp[h1]
   go_enter Tryz.func190,Tryz.ntmps190;go_wp2_with fail;generalize (w.alloc _).alloc _=wA at*;have I1:=dx bx1 XA hXl pX;rw[d1] at I1;refine I1.mono ?_;rintro e w1 ⟨rfl,hw1⟩;rw[hw1];go_wp2;go_ret;exact⟨_,wA.heap.size,rfl,il wA,om,sA.alloc om _⟩
 by_cases h2:lv Y m=1
 . have eG:Nat.gcd (lv X n) (lv Y m)=1:=by rw[h2];exact Nat.gcd_one_right _
   rw[eG];have d1:decide (lv X n=1)=false:=by simp[h1]
   have d2:decide (lv Y m=1)=true:=by simp[h2]
   go_enter Tryz.func190,Tryz.ntmps190;go_wp2_with fail;generalize (w.alloc _).alloc _=wA at*;have I1:=dx bx1 XA hXl pX;have I2:=dx bx2 YA hYl pY;rw[d1] at I1;rw[d2] at I2;refine I1.mono ?_;rintro e w1 ⟨rfl,hw1⟩;rw[hw1];have I2:=ae I2;go_wp2_with fail;refine I2.out.mono ?_;rintro e w1 ⟨rfl,hw1⟩;rw[hw1];go_wp2;go_ret;exact⟨_,wA.heap.size,rfl,il wA,om,sA.alloc om _⟩
 . have h3:n<=2:=by rcases Nat.lt_or_ge 2 n with h | h; · exact absurd ⟨h1,h2,Or.inl h⟩ hbig
                    . exact h
   have h4:m<=2:=by rcases Nat.lt_or_ge 2 m with h | h; · exact absurd ⟨h1,h2,Or.inr h⟩ hbig
                    . exact h
   have d1:decide (lv X n=1)=false:=by simp[h1]
   have d2:decide (lv Y m=1)=false:=by simp[h2]
   have vX:=kC h3 hXl;have vY:=kC h4 hYl
   have vG:Nat.gcd (lv X n) (lv Y m)<18446744073709551616:=by
    rcases Nat.eq_zero_or_pos (lv X n) with e | e
    . rw[e,Nat.gcd_zero_left];exact vY
    . exact Nat.lt_of_le_of_lt (Nat.gcd_le_left _ e) vX
   go_enter Tryz.func190,Tryz.ntmps190;go_wp2_with fail;generalize (w.alloc _).alloc _=wA at*;have I1:=dx bx1 XA hXl pX;have I2:=dx bx2 YA hYl pY;rw[d1] at I1;rw[d2] at I2;refine I1.mono ?_;rintro e w1 ⟨rfl,hw1⟩;rw[hw1];have I2:=ae I2;go_wp2_with fail;refine I2.out.mono ?_;rintro e w1 ⟨rfl,hw1⟩;rw[hw1];go_wp2_with fail;refine (fU h3 bx1).mono ?_;rintro e w1 ⟨rfl,hw1⟩;rw[hw1];go_wp2_with fail;refine (fU h4 bx2).mono ?_;rintro e w1 ⟨rfl,hw1⟩;rw[hw1];go_wp2_with fail;refine (jw h3 bx1 XA hXl).mono ?_;rintro e w1 ⟨rfl,hw1⟩;rw[hw1];go_wp2_with fail;refine (jw h4 bx2 YA hYl).mono ?_;rintro e w1 ⟨rfl,hw1⟩;rw[hw1];go_wp2_with fail;refine (kT vX vY).mono ?_;rintro e w1 ⟨rfl,s1⟩;go_wp2_with fail;refine (jB vG).mono ?_;rintro e w2 ⟨S,rfl,r2,l2,e2,s2⟩;go_wp2_with fail;go_ret;have t2:=co (nz S) 2;have z1:=(s1.since wA.heap.size).size;have L2:=dT r2;refine⟨_,w1.heap.size,rfl,⟨_,_,_,S,rfl,t2,om,fun h=>(by cases h),L2.take t2,fun _ o=>r2.frozen o,fun j _=>l2 j,fun h=>by have:=cI (nz S) 2 h;simpa [nz] using this,by rw[dP];exact e2⟩,om, ?_⟩;exact (sA.trans (sM (s1.since wA.heap.size) om)).trans (sM s2 om)
def dO(X:Nat->Nat)(n:Nat):Bool:=n==0 ||X (n-1) != 0
theorem dX{X:Nat->Nat}{n:Nat}:dO X n=true↔(0<n->X (n-1)≠0):=by
 unfold dO
 rcases Nat.eq_zero_or_pos n with h | h
 . simp[h]
 . have:n≠0:=om
   simp[this,h]
theorem iq{a:Option Addr}{b off n cap:Nat}{X:Nat->Nat}{w:World}(hn:n<=16777216)(hX:ag w a b off n X):
 Cl 99 #[.slice a n cap] w fun e w'=>e=.returned (.bool (dO X n))/\w'=w:=by
 by_cases h0:n=0
 . subst h0
   go_enter Tryz.func99,Tryz.ntmps99;go_wp2;go_ret;exact⟨rfl,rfl⟩
 . obtain⟨k,rfl⟩:∃k,n=k+1:=⟨n-1,om⟩
   obtain⟨rfl,hc⟩:=hX k om
   have hp:Ending.returned (.bool ((k:Int)+1==0 ||(X k:Int) != 0))=.returned (.bool (dO X (k+1))):=by
    have h:((k:Int)+1==0 ||(X k:Int) != 0)=dO X (k+1):=by
     rw[Bool.eq_iff_iff];simp[dO];omega
    rw[h]
   have hp:=ae hp;go_enter Tryz.func99,Tryz.ntmps99;go_wp2;go_ret;exact⟨hp.out,rfl⟩
theorem sy{a:Option Addr}{b off n cap:Nat}{X:Nat->Nat}{w:World}(hn:n<=16777216)(hX:ag w a b off n X):
 Cl 189 #[.slice a n cap] w fun e w'=>e=.returned (.bool (dO X n))/\w'=w:=by
 by_cases h0:n=0
 . subst h0
   go_enter Tryz.func189,Tryz.ntmps189;go_wp2;go_ret;exact⟨rfl,rfl⟩
 . obtain⟨k,rfl⟩:∃k,n=k+1:=⟨n-1,om⟩
   obtain⟨rfl,hc⟩:=hX k om
   have hp:Ending.returned (.bool ((k:Int)+1==0 ||(X k:Int) != 0))=.returned (.bool (dO X (k+1))):=by
    have h:((k:Int)+1==0 ||(X k:Int) != 0)=dO X (k+1):=by
     rw[Bool.eq_iff_iff];simp[dO];omega
    rw[h]
   have hp:=ae hp;go_enter Tryz.func189,Tryz.ntmps189;go_wp2;go_ret;exact⟨hp.out,rfl⟩
theorem cJ{a:Option Addr}{b off n cap:Nat}{X:Nat->Nat}{w:World}(hn:n<=1)(hX:ag w a b off n X)(hXl:∀j,j<n->X j<4294967296):
 Cl 102 #[.slice a n cap] w fun e w'=>e=.returned (.int .u64 (lv X n:Nat))/\w'=w:=by
 by_cases h0:n=0
 . subst h0
   go_enter Tryz.func102,Tryz.ntmps102;go_wp2;go_ret;exact⟨rfl,rfl⟩
 . have e:n=1:=om
   subst e;obtain⟨rfl,hc⟩:=hX 0 om;have hl:=hXl 0 om;rw[Nat.add_zero] at hc;have he:lv X 1=X 0:=by simp[lv]
   rw[he];go_enter Tryz.func102,Tryz.ntmps102;go_wp2;go_ret;exact⟨rfl,rfl⟩
theorem mG{x y:Nat}{w:World}(hx:x<18446744073709551616)(hy:y<18446744073709551616):
 Cl 101 #[.int .u64 x,.int .u64 y] w fun e w'=>e=.returned (.int .u64 (Nat.gcd x y))/\w'=w:=by
 go_enter Tryz.func101,Tryz.ntmps101;go_wp2
 go_loopw [0,1] (fun p q wr=>∃s t:Nat,p=.int .u64 s/\q=.int .u64 t/\s<18446744073709551616/\t<18446744073709551616/\Hid (Nat.gcd s t=Nat.gcd x y)/\wr=w) (fun _ q _=>(intOf q).toNat)
 case atStart=>exact⟨x,y,rfl,rfl,hx,hy,rfl,rfl⟩
 case round=>
  obtain⟨s,t,rfl,rfl,hs,ht,HG,rfl⟩:=hrel
  by_cases h0:t=0
  . subst h0
    go_wp2;go_ret;exact⟨di (congrArg (fun x:Nat=>(x:Int)) (by have:=HG.out;rwa[Nat.gcd_zero_right] at this)),rfl⟩
  . have hne:((t:Int)==0)=false:=by simp;omega
    have hne2:¬(t:Int)=0:=om
    obtain⟨r,hr⟩:∃r,r=s % t:=⟨_,rfl⟩;have hrl:r<t:=by rw[hr];exact Nat.mod_lt _ om
    have w1:IntKind.u64.wrap ((s:Int) % (t:Int))=(r:Int):=by rw[<-Int.natCast_emod,<-hr];exact bT r om
    have HR:=ae hr;go_wp2;go_roundw
    case rel=>
     refine⟨t,r,rfl, ?_,ht,om, ?_,by trivial⟩
     . first | rfl | exact congrArg (Value.int .u64) (by rw[HR.out,Int.natCast_emod])
     . have h:=HG.out
       rw[Nat.gcd_comm,Nat.gcd_rec,<-HR.out,Nat.gcd_comm] at h;exact h
    case measure=>simp[intOf];have:=Int.emod_lt_of_pos (s:Int) (show (0:Int)<t by omega);omega
def bM(neg:Bool)(X:Nat->Nat)(n:Nat)(Y:Nat->Nat)(m:Nat):Bool:=
 dO X n&&dO Y m&&m != 0&& !(neg&&n==0)&&Nat.gcd (lv X n) (lv Y m)==1
theorem vS{neg:Bool}{a b:Option Addr}{ba oa n ca bb ob m cb:Nat}{X Y:Nat->Nat}{w:World}(_hw:0<=w.heap.size)(hn:n<=16777216)(hm:m<=16777216)(hnc:n<=ca)(hmc:m<=cb)(hac:a=none->ca=0)(hbc:b=none->cb=0)
 (hX:ag w a ba oa n X)(hY:ag w b bb ob m Y)(hXl:∀j,j<n->X j<4294967296)(hYl:∀j,j<m->Y j<4294967296)(_hT:rI w):
 Cl 167 #[.agg #[.bool neg,.slice a n ca,.slice b m cb]] w fun e w'=>e=.returned (.bool (bM neg X n Y m))/\w.S w':=by
 have sA:=bJ w (.cells #[.bool neg,.slice a n ca,.slice b m cb] 44);have I1:=@sy a ba oa n ca X _ hn (hX.aA sA);have I2:=@sy b bb ob m cb Y _ hm (hY.aA sA)
 by_cases h1:dO X n=false
 . have HR:=ae (show false=bM neg X n Y m by simp[bM,h1])
   rw[h1] at I1;go_enter Tryz.func167,Tryz.ntmps167;go_wp2_with fail;refine I1.mono ?_;rintro e w1 ⟨rfl,rfl⟩;go_wp2;go_ret;exact⟨dw HR.out,sA⟩
 have h1:dO X n=true:=by simpa using h1
 rw[h1] at I1
 by_cases h2:dO Y m=false
 . have HR:=ae (show false=bM neg X n Y m by simp[bM,h2])
   rw[h2] at I2;go_enter Tryz.func167,Tryz.ntmps167;go_wp2_with fail;refine I1.mono ?_;rintro e w1 ⟨rfl,rfl⟩;go_wp2_with fail;refine I2.mono ?_;rintro e w1 ⟨rfl,rfl⟩;go_wp2;go_ret;exact⟨dw HR.out,sA⟩
 have h2:dO Y m=true:=by simpa using h2
 rw[h2] at I2;have pX:=ae (dX.1 h1);have pY:=ae (dX.1 h2)
 by_cases h3:m=0
 . have HR:=ae (show false=bM neg X n Y m by simp[bM,h3])
   subst h3;go_enter Tryz.func167,Tryz.ntmps167;go_wp2_with fail;refine I1.mono ?_;rintro e w1 ⟨rfl,rfl⟩;go_wp2_with fail;refine I2.mono ?_;rintro e w1 ⟨rfl,rfl⟩;go_wp2;go_ret;exact⟨dw HR.out,sA⟩
 have q3:((m:Int)==0)=false:=by simp;omega
 by_cases h4:neg=true/\n=0
 . obtain⟨rfl,rfl⟩:=h4
   have HR:=ae (show false=bM true X 0 Y m by simp[bM]);go_enter Tryz.func167,Tryz.ntmps167;go_wp2_with fail;refine I1.mono ?_;rintro e w1 ⟨rfl,rfl⟩;go_wp2_with fail;refine I2.mono ?_;rintro e w1 ⟨rfl,rfl⟩;go_wp2;go_ret;exact⟨dw HR.out,sA⟩
 have HR:=ae (show (decide (Nat.gcd (lv X n) (lv Y m)=1))=bM neg X n Y m by
  have e3:(m != 0)=true:=by simp[h3]
  have e4:(neg&&n==0)=false:=by cases neg<;>simp at h4⊢;exact h4
  rw[Bool.eq_iff_iff]
  simp[bM,h1,h2,e3,e4])
 have q4:(neg&&(n:Int)==0)=false:=by
  cases neg
  . rfl
  . simp at h4⊢;omega
 have tA:=trivial;have I3:=@ru a b ba oa n ca bb ob m cb X Y _ (Nat.zero_le _) hn hm hnc hmc hac hbc (hX.aA sA) (hY.aA sA) hXl hYl pX.out pY.out tA;go_enter Tryz.func167,Tryz.ntmps167;go_wp2_with fail;refine I1.mono ?_;rintro e w1 ⟨rfl,rfl⟩;go_wp2_with fail;refine I2.mono ?_;rintro e w1 ⟨rfl,rfl⟩;cases neg
 . clear q4
   go_wp2_with fail;refine I3.mono ?_;rintro e w3 ⟨v,g,rfl,⟨a3,k,c3,Z,rfl,k1,k2,k3,L,F,l,p,e3⟩,hg,s3⟩;have E:=ae e3;clear e3 I1 I2 I3;go_wp2_with fail;refine (@dx w3.heap.size 0 a3 g 0 k c3 Z _ (by simp[go_sem]) (L.aA (bJ _ _)) l p).mono ?_;rintro e w4 ⟨rfl,rfl⟩;go_wp2;go_ret;exact⟨dw (by rw[E.out];exact HR.out),(sA.trans (sM s3 qz)).alloc (Nat.le_trans qz s3.size) _⟩
 . have q5:((n:Int)==0)=false:=by simpa using q4
   go_wp2_with fail;refine I3.mono ?_;rintro e w3 ⟨v,g,rfl,⟨a3,k,c3,Z,rfl,k1,k2,k3,L,F,l,p,e3⟩,hg,s3⟩;have E:=ae e3;clear e3 I1 I2 I3;go_wp2_with fail;refine (@dx w3.heap.size 0 a3 g 0 k c3 Z _ (by simp[go_sem]) (L.aA (bJ _ _)) l p).mono ?_;rintro e w4 ⟨rfl,rfl⟩;go_wp2;go_ret;exact⟨dw (by rw[E.out];exact HR.out),(sA.trans (sM s3 qz)).alloc (Nat.le_trans qz s3.size) _⟩
def nb(v j:Nat):Bool:=v/2^j % 2==1
theorem aiJ(v k:Nat):bv (nb v) k=v % 2^k:=by
 induction k with
 | zero=>simp[bv,Nat.mod_one]
 | succ k ih=>
   have h:bv (nb v) (k+1)=bv (nb v) k+(nb v k).toNat*2^k:=rfl;rw[h,ih];unfold nb;rw[qM,Nat.pow_succ,Nat.mod_mul,Nat.mul_comm (2^k)]
theorem eJ{v:Nat}{w:World}(hv:v<18446744073709551616):
 Cl 74 #[.int .u64 v] w fun e w'=>∃x t B,e=.returned x/\t<=64/\Tr w' x t B/\bv B t=v/\w.S w':=by
 obtain⟨i0,hi,hz0,hz1,hz2⟩:=info_parts Tryz.info4;go_enter Tryz.func74,Tryz.ntmps74;go_wp2
 go_loopw [0,3] (fun p o wr=>∃k q:Nat,k<=64/\p=.int .u64 q/\q<18446744073709551616/\Hid (q=v/2^k)/\Hid (0<k->0<v/2^(k-1))/\wr.ownsRow w.heap.size 4 1 o k (bl (nb v) k)/\w.S wr) (fun p _ _=>(intOf p).toNat)
 case atStart=>exact⟨0,v,om,rfl,hv,ae qz,ae (fun h=>absurd h om),pv w #[] 0 (Nat.le_refl _) qd rfl,bJ _ _⟩
 case round=>
  obtain⟨k,q,hk,rfl,hq,HQ,HP,hown,hs⟩:=hrel
  by_cases h0:q=0
  . subst h0
    obtain⟨a',g,cap',rfl,hmc,hg,hB⟩:=zv hown;go_wp2;go_ret
    have hlt:v<2^k:=by
     have:=HQ.out;have h2:0<2^k:=Nat.pow_pos om
     rcases Nat.lt_or_ge v (2^k) with h | h
     . exact h
     . have:=Nat.div_pos h h2;omega
    refine⟨_,k,nb v,rfl,hk,⟨a',g,0,cap',rfl,hmc,hB,fun h=> ?_⟩,(aiJ v k).trans (Nat.mod_eq_of_lt hlt),hs⟩;have h1:=HP.out h;obtain⟨j,rfl⟩:∃j,k=j+1:=⟨k-1,om⟩;have h2:v/2^j<2:=by rw[Nat.div_lt_iff_lt_mul (Nat.pow_pos om)];rw[Nat.pow_succ] at hlt;omega
    simp only[Nat.add_sub_cancel] at h1⊢;unfold nb;rw[show v/2^j=1 by omega]
    rfl
  . have hk2:k<64:=by
     rcases Nat.lt_or_ge k 64 with h | h
     . exact h
     . have e:k=64:=om
       subst e;have:=HQ.out;rw[Nat.div_eq_of_lt hv] at this;omega
    have hne:0<q:=om
    have hbit:((q:Int) % 2==1)=nb v k:=by
     rw[Bool.eq_iff_iff];simp only[nb,beq_iff_eq,<-HQ.out];omega
    have HB:=ae hbit;clear hbit h0
    go_wp2_with (at_builtin;refine wpList_append_own _ rfl _ _ 125 rfl w.heap.size 4 i0 (.bool false) 1 1 Tryz.underlying125 hi hz0 hz1 hz2 rfl qd _ _ _ rfl (hown.alloc _) (jj wr.heap.size 0) 1 1 [.bool ((q:Int) % 2==1)] rfl rfl (bO _ _ _) (bZ _ rfl) (by unfold maxLen;omega) om (by have:=hs.size;simp;omega) ?_)
    intro v' w1 hown' hgrow _;have hs1:=(hs.alloc hs.size _).grown hgrow (by have:=hs.size;simp;omega) (fun k hk=>(hown.lt k hk).1);rw[HB.out,<-yx] at hown';go_wp2;go_roundw
    case rel=>exact⟨k+1,q/2,om,by go_num,om,ae (by rw[HQ.out,Nat.div_div_eq_div_mul,Nat.pow_succ]),ae (fun _=>by rw[Nat.add_sub_cancel,<-HQ.out];exact hne),hown',hs1⟩
    case measure=>simp[intOf];omega
def fj(X:Nat->Nat)(n:Nat)(Y:Nat->Nat)(m:Nat):Bool:=decide (n<=1/\m<=1/\lv X n<2147483648/\lv Y m<2147483648)
theorem jA{X Y:Nat->Nat}{n m:Nat}:fj X n Y m=true↔n<=1/\m<=1/\lv X n<2147483648/\lv Y m<2147483648:=by unfold fj;exact decide_eq_true_iff
theorem ul{X Y:Nat->Nat}{n m:Nat}(h:¬(n<=1/\m<=1/\lv X n<2147483648/\lv Y m<2147483648)):false=fj X n Y m:=by
 cases e:fj X n Y m
 . rfl
 . exact absurd (jA.1 e) h
theorem fH{neg:Bool}{a b:Option Addr}{ba oa n ca bb ob m cb:Nat}{X Y:Nat->Nat}{w:World}(hn:n<=16777216)(hm:m<=16777216)
 (hX:ag w a ba oa n X)(hY:ag w b bb ob m Y)(hXl:∀j,j<n->X j<4294967296)(hYl:∀j,j<m->Y j<4294967296):
 Cl 100 #[.agg #[.bool neg,.slice a n ca,.slice b m cb]] w fun e w'=>e=.returned (.bool (fj X n Y m))/\w.S w':=by
 have sA:=bJ w (.cells #[.bool neg,.slice a n ca,.slice b m cb] 44)
 by_cases h1:1<n
 . have HR:=ae (ul (X:=X) (Y:=Y) (n:=n) (m:=m) om)
   go_enter Tryz.func100,Tryz.ntmps100;go_wp2;go_ret;exact⟨dw HR.out,sA⟩
 by_cases h2:1<m
 . have HR:=ae (ul (X:=X) (Y:=Y) (n:=n) (m:=m) om)
   go_enter Tryz.func100,Tryz.ntmps100;go_wp2;go_ret;exact⟨dw HR.out,sA⟩
 have I1:=@cJ a ba oa n ca X _ om (hX.aA sA) hXl;have I2:=@cJ b bb ob m cb Y _ om (hY.aA sA) hYl;have h1:n<=1:=om
 have h2:m<=1:=om
 obtain⟨x,hx⟩:∃x:Int,x=((lv X n:Nat):Int):=⟨_,rfl⟩;obtain⟨y,hy⟩:∃y:Int,y=((lv Y m:Nat):Int):=⟨_,rfl⟩;rw[<-hx] at I1;rw[<-hy] at I2
 have HR:Hid ((decide (x<2147483648)&&decide (y<2147483648))=fj X n Y m):=by
  show _=_
  rw[Bool.eq_iff_iff,Bool.and_eq_true,decide_eq_true_iff,decide_eq_true_iff,jA];omega
 clear hX hY hXl hYl hx hy
 by_cases h3:x<2147483648
 . have HR:Hid (decide (y<2147483648)=fj X n Y m):=by rw[<-HR.out];simp[Hid,h3]
   go_enter Tryz.func100,Tryz.ntmps100;go_wp2_with fail;refine I1.mono ?_;rintro e w1 ⟨rfl,rfl⟩;go_wp2_with fail;refine I2.mono ?_;rintro e w1 ⟨rfl,rfl⟩;go_wp2;go_ret;exact⟨dw HR.out,sA⟩
 . have HR:Hid (false=fj X n Y m):=by rw[<-HR.out];simp[Hid,h3]
   go_enter Tryz.func100,Tryz.ntmps100;go_wp2_with fail;refine I1.mono ?_;rintro e w1 ⟨rfl,rfl⟩;go_wp2;go_ret;exact⟨dw HR.out,sA⟩
theorem afA(w:World)(x y z:Value)(t:TypeId):(w.alloc (.cells #[x,y,z] t)).cell? (jj w.heap.size 0)=some x/\(w.alloc (.cells #[x,y,z] t)).cell? (jj w.heap.size 1)=some y/\(w.alloc (.cells #[x,y,z] t)).cell? (jj w.heap.size 2)=some z:=by
 simp[go_sem]
theorem af4(x:Nat):(fd x 1==0)=decide (x=1):=by
 rw[Bool.eq_iff_iff];simp only[beq_iff_eq,decide_eq_true_eq]
 constructor
 . intro h
   rcases Nat.lt_trichotomy x 1 with h1 | h1 | h1
   . rw[lD h1] at h;cases h
   . exact h1
   . rw[qw h1] at h;cases h
 . intro h;exact yj h
theorem zu{p:Prop}(h:p:=by
 go_wp2_with fail;refine I3.mono ?_;rintro e w1 ⟨rfl,s1⟩;clear I3;have zA:w.heap.size<wA.heap.size:=gz _ _ c0;have d1:w1.cell? (jj w.heap.size 1)=some (.slice a n ca):=(s1.cell (a:=jj w.heap.size 1) zA).trans c1;have d2:w1.cell? (jj w.heap.size 2)=some (.slice b m cb):=(s1.cell (a:=jj w.heap.size 2) zA).trans c2;have S1:w.S w1.drew:=by have h:=sA.trans (sM s1 sA.size);exact⟨h.os,h.tape,h.output,h.size,h.block⟩
 have z1:w.heap.size<w1.drew.heap.size:=Nat.lt_of_lt_of_le zA s1.size;have X0:=XA.aA s1;have Y0:=YA.aA s1;have X1:ag w1.drew a ba oa n X:=X0;have Y1:ag w1.drew b bb ob m Y:=Y0;have XL:=ae hXl;have YL:=ae hYl;clear hXl hYl XA YA s1 c0 c1 c2 X0 Y0;go_wp2;have J1:=@cJ a ba oa n ca X w1.drew y1 X1 XL.out;have J2:=@cJ b bb ob m cb Y w1.drew y2 Y1 YL.out;have J3:=@mG (lv X n) (lv Y m) w1.drew V.out.1 V.out.2;clear V XL YL X1 Y1;obtain⟨gg,hgg⟩:∃gg,gg=Nat.gcd (lv X n) (lv Y m):=⟨_,rfl⟩;obtain⟨xx,hxx⟩:∃xx,xx=lv X n:=⟨_,rfl⟩;obtain⟨yy,hyy⟩:∃yy,yy=lv Y m:=⟨_,rfl⟩;have HR:=ae ((show decide (gg=1)=decide (Nat.gcd (lv X n) (lv Y m)=1) by rw[hgg]).trans HR.out);rw[<-hgg,<-hxx,<-hyy] at J3;rw[<-hxx] at J1;rw[<-hyy] at J2;clear hgg hxx hyy
 go_region_held3 (fun w'=>w'.cell? (jj w.heap.size 1)=some (.slice a n ca)/\w'.cell? (jj w.heap.size 2)=some (.slice b m cb)) (go_keep)
  (first | (go_at_call 101;with_reducible refine J3.mono ?_;rintro e w' ⟨rfl,rfl⟩) | (go_at_call 102;first | (with_reducible refine J1.mono ?_;rintro e w' ⟨rfl,rfl⟩) | (with_reducible refine J2.mono ?_;rintro e w' ⟨rfl,rfl⟩)))
 all_goals go_wp2
 all_goals go_ret
 all_goals exact⟨dw (by rw[<-HR.out,Bool.eq_iff_iff];simp only[beq_iff_eq,decide_eq_true_eq];omega),S1⟩):p:=h
theorem sR{neg:Bool}{a b:Option Addr}{ba oa n ca bb ob m cb:Nat}{X Y:Nat->Nat}{w:World}(hn:n<=16777216)(hm:m<=16777216)
 (hX:ag w a ba oa n X)(hY:ag w b bb ob m Y)(hXl:∀j,j<n->X j<4294967296)(hYl:∀j,j<m->Y j<4294967296)(h1:dO X n=true)(h2:dO Y m=true)(h3:¬m=0)(h4:¬(n=0/\neg=true))(hs:fj X n Y m=true):
 Cl 45 #[.agg #[.bool neg,.slice a n ca,.slice b m cb]] w fun e w'=>e=.returned (.bool (bM neg X n Y m))/\w.S w':=by
 have sA:=bJ w (.cells #[.bool neg,.slice a n ca,.slice b m cb] 44);have I1:=@iq a ba oa n ca X _ hn (hX.aA sA);have I2:=@iq b bb ob m cb Y _ hm (hY.aA sA);rw[h1] at I1;rw[h2] at I2;have q3:((m:Int)==0)=false:=by simp;omega
 have HR:=ae (show (decide (Nat.gcd (lv X n) (lv Y m)=1))=bM neg X n Y m by
  have e3:(m != 0)=true:=by simp[h3]
  have e4:(neg&&n==0)=false:=by cases neg<;>simp at h4⊢;exact h4
  rw[Bool.eq_iff_iff]
  simp[bM,h1,h2,e3,e4])
 obtain⟨c0,c1,c2⟩:=afA w (.bool neg) (.slice a n ca) (.slice b m cb) 44;have I3:=@fH neg a b ba oa n ca bb ob m cb X Y _ hn hm (hX.aA sA) (hY.aA sA) hXl hYl;have HN:Hid (n=0->neg=false):=fun h=>by cases neg;rfl;exact absurd ⟨h,rfl⟩ h4
 clear h1 h2 h4;have XA:=hX.aA sA;have YA:=hY.aA sA;obtain⟨y1,y2,z3,z4⟩:=jA.1 hs;have v1:lv X n<18446744073709551616:=om
 have v2:lv Y m<18446744073709551616:=om
 have V:=ae (And.intro v1 v2);rw[hs] at I3;clear hs z3 z4 v1 v2;go_enter Tryz.func45,Tryz.ntmps45;go_wp2_with fail;refine I1.mono ?_;rintro e w1 ⟨rfl,rfl⟩;go_wp2_with fail;refine I2.mono ?_;rintro e w1 ⟨rfl,rfl⟩;clear I1 I2;generalize w.alloc _=wA at*;obtain⟨b0,h6⟩:∃b,((n:Int)==0)=b:=⟨_,rfl⟩;cases b0
 . exact zu
 . obtain rfl:neg=false:=HN.out (by simpa using h6)
   exact zu
theorem aek{p:Prop}(h:p:=by
 go_wp2_with fail;refine I3.mono ?_;rintro e w1 ⟨rfl,s1⟩;clear I3;have zA:w.heap.size<wA.heap.size:=gz _ _ c0;have d1:w1.cell? (jj w.heap.size 1)=some (.slice a n ca):=(s1.cell (a:=jj w.heap.size 1) zA).trans c1;have d2:w1.cell? (jj w.heap.size 2)=some (.slice b m cb):=(s1.cell (a:=jj w.heap.size 2) zA).trans c2;have S1:w.S w1.drew:=by have h:=sA.trans (sM s1 sA.size);exact⟨h.os,h.tape,h.output,h.size,h.block⟩
 have z1:w.heap.size<w1.drew.heap.size:=Nat.lt_of_lt_of_le zA s1.size;have X0:=XA.aA s1;have Y0:=YA.aA s1;have X1:ag w1.drew a ba oa n X:=X0;have Y1:ag w1.drew b bb ob m Y:=Y0;have XL:=ae hXl;have YL:=ae hYl;clear hXl hYl XA YA s1 c0 c1 c2 X0 Y0;go_wp2;have J1:=@cO a ba oa n ca X w1.drew om X1 XL.out
 go_region_held3 (fun w'=>w'.cell? (jj w.heap.size 1)=some (.slice a n ca)/\w'.cell? (jj w.heap.size 2)=some (.slice b m cb)) (go_keep)
  (first
    | (go_at_call 75
       first
        | (with_reducible refine J1.mono ?_
           rintro e w2 ⟨a1,g1,m1,t1,B1,rfl,k1,k2,L1,-,p1,e1,s2⟩;have T1:Tr w2 (.slice a1 m1 t1) m1 B1:=⟨a1,g1,0,t1,rfl,k1,L1,p1⟩;have E1:=ae e1;clear L1 p1 e1;have z2:=s2.size;have J2:=@cO b bb ob m cb Y w2 om (Y1.aA s2) YL.out;have f1:w2.cell? (jj w.heap.size 1)=some (.slice a n ca):=(s2.cell (a:=jj w.heap.size 1) z1).trans d1;have f2:w2.cell? (jj w.heap.size 2)=some (.slice b m cb):=(s2.cell (a:=jj w.heap.size 2) z1).trans d2)
        | (with_reducible refine J2.mono ?_
           rintro e w3 ⟨a2,g2,m2,t2,B2,rfl,q1,q2,L2,-,p2,e2,s3⟩;have T2:Tr w3 (.slice a2 m2 t2) m2 B2:=⟨a2,g2,0,t2,rfl,q1,L2,p2⟩;have E2:=ae e2;clear L2 p2 e2;have T1':=T1.aA s3;have J3:=@oJ _ _ m1 m2 B1 B2 w3 om om T1' T2;have S3:=(S1.trans (sM s2 S1.size)).trans (sM s3 (Nat.le_trans S1.size s2.size));have f3:w3.cell? (jj w.heap.size 1)=some (.slice a n ca):=(s3.cell (a:=jj w.heap.size 1) (Nat.lt_of_lt_of_le z1 z2)).trans f1;have f4:w3.cell? (jj w.heap.size 2)=some (.slice b m cb):=(s3.cell (a:=jj w.heap.size 2) (Nat.lt_of_lt_of_le z1 z2)).trans f2;have z3:=s3.size))
    | (go_at_call 104
       with_reducible refine J3.mono ?_
       rintro e w4 ⟨v,t,O,rfl,ht,T3,e3,s4⟩;have E3:=ae e3;have J4:Cl 74 #[.int .u64 1] w4 _:=@eJ 1 w4 om;clear e3;have f5:w4.cell? (jj w.heap.size 1)=some (.slice a n ca):=(s4.cell (a:=jj w.heap.size 1) (Nat.lt_of_lt_of_le z1 (Nat.le_trans z2 z3))).trans f3;have f6:w4.cell? (jj w.heap.size 2)=some (.slice b m cb):=(s4.cell (a:=jj w.heap.size 2) (Nat.lt_of_lt_of_le z1 (Nat.le_trans z2 z3))).trans f4;have z4:=s4.size)
    | (go_at_call 74
       with_reducible refine J4.mono ?_
       rintro e w5 ⟨x,t5,B5,rfl,ht5,T5,e5,s5⟩;have E5:=ae e5;clear e5;obtain⟨a3,b3,o3,c3,rfl,-,L3,p3⟩:=T3.aA s5;obtain⟨a5,b5,o5,c5,rfl,-,L5,p5⟩:=T5;have S5:=(S3.trans (sM s4 S3.size)).trans (sM s5 (Nat.le_trans S3.size s4.size));have f7:w5.cell? (jj w.heap.size 1)=some (.slice a n ca):=(s5.cell (a:=jj w.heap.size 1) (Nat.lt_of_lt_of_le z1 (Nat.le_trans (Nat.le_trans z2 z3) z4))).trans f5;have f8:w5.cell? (jj w.heap.size 2)=some (.slice b m cb):=(s5.cell (a:=jj w.heap.size 2) (Nat.lt_of_lt_of_le z1 (Nat.le_trans (Nat.le_trans z2 z3) z4))).trans f6;have J:=@jb a3 a5 b3 o3 t c3 b5 o5 t5 c5 O B5 w5 om om L3 L5 p3 p5;rw[E5.out,E3.out,E1.out,E2.out] at J;clear T3 L3 L5 p3 p5)
    | (go_at_call 103
       with_reducible refine J.mono ?_
       rintro e w6 ⟨rfl,s6⟩;have f9:w6.cell? (jj w.heap.size 1)=some (.slice a n ca):=by rw[s6.cell];exact f7
       have f10:w6.cell? (jj w.heap.size 2)=some (.slice b m cb):=by rw[s6.cell];exact f8))
 all_goals go_wp2
 all_goals go_ret
 all_goals exact⟨dw ((af4 (Nat.gcd (lv X n) (lv Y m))).trans HR.out),S5.trans (s6.since _)⟩):p:=h
theorem vz{neg:Bool}{a b:Option Addr}{ba oa n ca bb ob m cb:Nat}{X Y:Nat->Nat}{w:World}(hn:n<=16777216)(hm:m<=16777216)
 (hX:ag w a ba oa n X)(hY:ag w b bb ob m Y)(hXl:∀j,j<n->X j<4294967296)(hYl:∀j,j<m->Y j<4294967296)(h1:dO X n=true)(h2:dO Y m=true)(h3:¬m=0)(h4:¬(n=0/\neg=true))(hs:¬fj X n Y m=true):
 Cl 45 #[.agg #[.bool neg,.slice a n ca,.slice b m cb]] w fun e w'=>e=.returned (.bool (bM neg X n Y m))/\w.S w':=by
 have sA:=bJ w (.cells #[.bool neg,.slice a n ca,.slice b m cb] 44);have I1:=@iq a ba oa n ca X _ hn (hX.aA sA);have I2:=@iq b bb ob m cb Y _ hm (hY.aA sA);rw[h1] at I1;rw[h2] at I2;have q3:((m:Int)==0)=false:=by simp;omega
 have HR:=ae (show (decide (Nat.gcd (lv X n) (lv Y m)=1))=bM neg X n Y m by
  have e3:(m != 0)=true:=by simp[h3]
  have e4:(neg&&n==0)=false:=by cases neg<;>simp at h4⊢;exact h4
  rw[Bool.eq_iff_iff]
  simp[bM,h1,h2,e3,e4])
 obtain⟨c0,c1,c2⟩:=afA w (.bool neg) (.slice a n ca) (.slice b m cb) 44;have I3:=@fH neg a b ba oa n ca bb ob m cb X Y _ hn hm (hX.aA sA) (hY.aA sA) hXl hYl;have HN:Hid (n=0->neg=false):=fun h=>by cases neg;rfl;exact absurd ⟨h,rfl⟩ h4
 clear h1 h2 h4;have XA:=hX.aA sA;have YA:=hY.aA sA;rw[show fj X n Y m=false by simpa using hs] at I3;clear hs;go_enter Tryz.func45,Tryz.ntmps45;go_wp2_with fail;refine I1.mono ?_;rintro e w1 ⟨rfl,rfl⟩;go_wp2_with fail;refine I2.mono ?_;rintro e w1 ⟨rfl,rfl⟩;clear I1 I2;generalize w.alloc _=wA at*;obtain⟨b0,h6⟩:∃b,((n:Int)==0)=b:=⟨_,rfl⟩;cases b0
 . exact aek
 . obtain rfl:neg=false:=HN.out (by simpa using h6)
   exact aek
theorem vA{neg:Bool}{a b:Option Addr}{ba oa n ca bb ob m cb:Nat}{X Y:Nat->Nat}{w:World}(hn:n<=16777216)(hm:m<=16777216)
 (hX:ag w a ba oa n X)(hY:ag w b bb ob m Y)(hXl:∀j,j<n->X j<4294967296)(hYl:∀j,j<m->Y j<4294967296):
 Cl 45 #[.agg #[.bool neg,.slice a n ca,.slice b m cb]] w fun e w'=>e=.returned (.bool (bM neg X n Y m))/\w.S w':=by
 have sA:=bJ w (.cells #[.bool neg,.slice a n ca,.slice b m cb] 44);have I1:=@iq a ba oa n ca X _ hn (hX.aA sA);have I2:=@iq b bb ob m cb Y _ hm (hY.aA sA)
 by_cases h1:dO X n=false
 . have HR:=ae (show false=bM neg X n Y m by simp[bM,h1])
   rw[h1] at I1;clear h1;go_enter Tryz.func45,Tryz.ntmps45;go_wp2_with fail;refine I1.mono ?_;rintro e w1 ⟨rfl,rfl⟩;go_wp2;go_ret;exact⟨dw HR.out,sA⟩
 have h1:dO X n=true:=by simpa using h1
 rw[h1] at I1
 by_cases h2:dO Y m=false
 . have HR:=ae (show false=bM neg X n Y m by simp[bM,h2])
   rw[h2] at I2;clear h1 h2;go_enter Tryz.func45,Tryz.ntmps45;go_wp2_with fail;refine I1.mono ?_;rintro e w1 ⟨rfl,rfl⟩;go_wp2_with fail;refine I2.mono ?_;rintro e w1 ⟨rfl,rfl⟩;go_wp2;go_ret;exact⟨dw HR.out,sA⟩
 have h2:dO Y m=true:=by simpa using h2
 rw[h2] at I2
 by_cases h3:m=0
 . have HR:=ae (show false=bM neg X n Y m by simp[bM,h3])
   clear h1 h2;subst h3;go_enter Tryz.func45,Tryz.ntmps45;go_wp2_with fail;refine I1.mono ?_;rintro e w1 ⟨rfl,rfl⟩;go_wp2_with fail;refine I2.mono ?_;rintro e w1 ⟨rfl,rfl⟩;go_wp2;go_ret;exact⟨dw HR.out,sA⟩
 have q3:((m:Int)==0)=false:=by simp;omega
 by_cases h4:n=0/\neg=true
 . obtain⟨rfl,rfl⟩:=h4
   have HR:=ae (show false=bM true X 0 Y m by simp[bM]);clear h1 h2;go_enter Tryz.func45,Tryz.ntmps45;go_wp2_with fail;refine I1.mono ?_;rintro e w1 ⟨rfl,rfl⟩;go_wp2_with fail;refine I2.mono ?_;rintro e w1 ⟨rfl,rfl⟩;go_wp2;go_ret;exact⟨dw HR.out,sA⟩
 by_cases hs:fj X n Y m=true
 . exact @sR neg a b ba oa n ca bb ob m cb X Y w hn hm hX hY hXl hYl h1 h2 h3 h4 hs
 . exact @vz neg a b ba oa n ca bb ob m cb X Y w hn hm hX hY hXl hYl h1 h2 h3 h4 hs
def dM(w:World)(v:Value)(neg:Bool)(N D B M:Nat):Prop:=
 ∃v1 v2 g h,v=.agg #[.bool neg,v1,v2]/\bU w v1 g N M/\bU w v2 h D M/\B<=g/\B<=h/\g≠h
theorem wN(w:World)(g M:Nat):bU w (.n) g 0 M:=
 ⟨none,0,0,fun _=>0,rfl,Nat.le_refl _,Nat.zero_le _,fun _=>rfl,fun j hj=>absurd hj om,fun h=>absurd h om,fun j hj=>absurd hj om,fun h=>absurd h om,rfl⟩
theorem zJ(w:World)(a:Addr)(cap g M:Nat):bU w (.slice (some a) 0 cap) g 0 M:=
 ⟨some a,0,cap,fun _=>0,rfl,Nat.zero_le _,Nat.zero_le _,fun h=>(by cases h),fun j hj=>absurd hj om,fun h=>absurd h om,fun j hj=>absurd hj om,fun h=>absurd h om,rfl⟩
theorem bU.aA{w w':World}{v:Value}{g N M:Nat}(h:bU w v g N M)(s:w.S w'):bU w' v g N M:=by
 obtain⟨a,m,cap,Y,h1,h2,h3,h4,h5,h6,h7,h8,h9⟩:=h;exact⟨a,m,cap,Y,h1,h2,h3,h4,h5.aA s,fun h0 o=>by rw[s.frozen (a:=jj g o) (h5.lt h0)];exact h6 h0 o,h7,h8,h9⟩
theorem bU.marked{w w':World}{v:Value}{g N M c:Nat}(h:bU w v g N M)(s:af w w' c)(hne:g≠c):bU w' v g N M:=by
 obtain⟨a,m,cap,Y,h1,h2,h3,h4,h5,h6,h7,h8,h9⟩:=h;exact⟨a,m,cap,Y,h1,h2,h3,h4,h5.marked s (fun _=>hne),fun h0 o=>by rw[s.aQ (a:=jj g o) hne];exact h6 h0 o,h7,h8,h9⟩
theorem bU.more{w:World}{v:Value}{g N M M':Nat}(h:bU w v g N M)(hM:M<=M'):bU w v g N M':=by
 obtain⟨a,m,cap,Y,h1,h2,h3,h4⟩:=h;exact⟨a,m,cap,Y,h1,h2,Nat.le_trans h3 hM,h4⟩
theorem je{w:World}:Cl 186 #[] w fun e w'=>∃v,e=.returned v/\dM w' v false 0 1 w.heap.size 67108864/\w.S w':=by
 have sA:w.S ((w.alloc (.cells #[.bool false,.n,.s (w.heap.size+1) 1 1] 44)).alloc (.cells #[.int .u32 1] 129)):=(bJ _ _).alloc qz _
 have bA:bj ((w.alloc (.cells #[.bool false,.n,.s (w.heap.size+1) 1 1] 44)).alloc (.cells #[.int .u32 1] 129)) w.heap.size (.bool false) (.n) (.s (w.heap.size+1) 1 1):=
  (bj.new w _ _ _ _).aA (bJ _ _)
 have n1:=il (w.alloc (.cells #[.bool false,.n,.s (w.heap.size+1) 1 1] 44));rw[show (w.alloc (.cells #[.bool false,.n,.s (w.heap.size+1) 1 1] 44)).heap.size=w.heap.size+1 by simp] at n1;go_enter Tryz.func186,Tryz.ntmps186;go_wp2;refine bodyPost_ret (mu rfl _ _ _ _ _ _ rfl bA) rfl ?_;exact⟨_,rfl,⟨_,_,w.heap.size+2,w.heap.size+1,rfl,wN _ _ _,n1,om,om,om⟩,sA⟩
theorem dY{w:World}:Cl 90 #[] w fun e w'=>∃v,e=.returned v/\dM w' v false 0 1 w.heap.size 67108864/\w.S w':=by
 have sA:w.S (((w.alloc (.cells #[.bool false,.s (w.heap.size+1) 0 0,.s (w.heap.size+1+1) 1 1] 44)).alloc (.cells #[] 129)).alloc (.cells #[.int .u32 1] 129)):=
  ((bJ _ _).alloc qz _).alloc (by simp;omega) _
 have bA:bj (((w.alloc (.cells #[.bool false,.s (w.heap.size+1) 0 0,.s (w.heap.size+1+1) 1 1] 44)).alloc (.cells #[] 129)).alloc (.cells #[.int .u32 1] 129)) w.heap.size (.bool false) (.s (w.heap.size+1) 0 0) (.s (w.heap.size+1+1) 1 1):=
  ((bj.new w _ _ _ _).aA (bJ _ _)).aA (bJ _ _)
 have n1:=il ((w.alloc (.cells #[.bool false,.s (w.heap.size+1) 0 0,.s (w.heap.size+1+1) 1 1] 44)).alloc (.cells #[] 129));rw[show ((w.alloc (.cells #[.bool false,.s (w.heap.size+1) 0 0,.s (w.heap.size+1+1) 1 1] 44)).alloc (.cells #[] 129)).heap.size=w.heap.size+1+1 by simp] at n1;go_enter Tryz.func90,Tryz.ntmps90;go_wp2;refine bodyPost_ret (mu rfl _ _ _ _ _ _ rfl bA) rfl ?_;exact⟨_,rfl,⟨_,_,w.heap.size+1,w.heap.size+1+1,rfl,zJ _ _ _ _ _,n1,om,om,om⟩,sA⟩
theorem iP{X:Nat->Nat}{n:Nat}(p:0<n->X (n-1)≠0):ce (nz X) n=n:=by
 cases n with
 | zero=>rfl
 | succ n=>simp[ce,nz];exact fun h=>absurd h (p om)
theorem mM{neg:Bool}{a b:Option Addr}{ba oa n ca bb ob m cb:Nat}{X Y:Nat->Nat}{w:World}(hn:n<=16777216)(hm:m<=16777216)(hnc:n<=ca)(hmc:m<=cb)
 (hX:ag w a ba oa n X)(hY:ag w b bb ob m Y)(pX:0<n->X (n-1)≠0)(pY:0<m->Y (m-1)≠0):
 Cl 146 #[.agg #[.bool neg,.slice a n ca,.slice b m cb]] w fun e w'=>e=.returned (.agg #[.bool neg,.slice a n ca,.slice b m cb,.n])/\w.S w':=by
 have eX:=iP pX;have eY:=iP pY;have sA:w.S ((w.alloc (.cells #[.bool neg,.slice a n ca,.slice b m cb] 44)).alloc (.cells #[.bool false,.n,.n,.n] 182)):=(bJ _ _).alloc qz _;have bA:bj ((w.alloc (.cells #[.bool neg,.slice a n ca,.slice b m cb] 44)).alloc (.cells #[.bool false,.n,.n,.n] 182)) w.heap.size (.bool neg) (.slice a n ca) (.slice b m cb):=(bj.new w _ _ _ _).aA (bJ _ _)
 have qA:dG ((w.alloc (.cells #[.bool neg,.slice a n ca,.slice b m cb] 44)).alloc (.cells #[.bool false,.n,.n,.n] 182)) (w.heap.size+1) (.bool false) (.n) (.n) (.n):=by
  have:=dG.new (w.alloc (.cells #[.bool neg,.slice a n ca,.slice b m cb] 44)) (.bool false) (.n) (.n) (.n) 182
  simpa using this
 go_enter Tryz.func146,Tryz.ntmps146;go_wp2;generalize ((w.alloc _).alloc _)=wA at*;have SD:w.S wA.drew:=⟨sA.os,sA.tape,sA.output,sA.size,sA.block⟩;have bD:bj wA.drew w.heap.size (.bool neg) (.slice a n ca) (.slice b m cb):=⟨bA.c0,bA.c1,bA.c2,bA.f⟩;have qD:dG wA.drew (w.heap.size+1) (.bool false) (.n) (.n) (.n):=⟨qA.c0,qA.c1,qA.c2,qA.c3,qA.f⟩;obtain⟨k0,k1,k2⟩:=bA.g;have J1:=jt om hnc (hX.aA SD);rw[eX] at J1
 go_region_held3 (fun w'=>w'.cell? (jj w.heap.size 0)=some (.bool neg)/\w'.cell? (jj w.heap.size 1)=some (.slice a n ca)/\w'.cell? (jj w.heap.size 2)=some (.slice b m cb)) (go_keep)
  (first
    | (go_at_call 115
       first
        | (with_reducible refine J1.mono ?_
           rintro e w1 ⟨rfl,s1⟩;have S1:=SD.tr s1;have b1:=bD.aA s1;have q1:=qD.aA s1;obtain⟨i0,i1,i2⟩:=b1.g;have J2:=jt om hmc (hY.aA S1);rw[eY] at J2)
        | (with_reducible refine J2.mono ?_
           rintro e w2 ⟨rfl,s2⟩;have S2:=S1.tr s2;have b2:=b1.aA s2;have q2:=q1.aA s2;obtain⟨i0,i1,i2⟩:=b2.g;obtain⟨j0,j1,j2,j3⟩:=q2.g;obtain⟨f0,f1,f2,f3⟩:=q2.k)))
 all_goals go_wp2
 all_goals
  have q3:=(((q2.aE (.bool neg)).aG (.slice a n ca)).aF (.slice b m cb)).aK (.n);refine bodyPost_ret (vD rfl Tryz.underlying182 rfl afe _ _ _ _ _ _ _ rfl q3) rfl ?_;have M:af w2 _ (w.heap.size+1):=((((af.refl w2 _).setCell 0 (.bool neg)).setCell 1 (.slice a n ca)).setCell 2 (.slice b m cb)).setCell 3 (.n);exact⟨rfl,S2.trans (M.since om)⟩
structure cu(c:Nat)(w w':World):Prop where
 os:w'.os=w.os
 tape:w'.tape=w.tape
 output:w'.output=w.output
 size:w.heap.size<=w'.heap.size
 block:∀k,k<w.heap.size->k≠c->w'.heap[k]?=w.heap[k]?
section
variable{c d n g N M off:Nat}{w w' w1 w2:World}{a:Option Addr}{X:Nat->Nat}{v x y z:Value}
theorem cu.trans(h:cu c w w1)(k:cu c w1 w2):cu c w w2:=⟨k.os.trans h.os,k.tape.trans h.tape,k.output.trans h.output,Nat.le_trans h.size k.size,fun i h1 h2=>(k.block i (Nat.lt_of_lt_of_le h1 h.size) h2).trans (h.block i h1 h2)⟩
theorem cu.aC(c:Nat)(h:w.S w'):cu c w w':=⟨h.os,h.tape,h.output,h.size,fun k hk _=>h.block k hk⟩
theorem cu.aP(h:af w w' c):cu c w w':=⟨h.os,h.tape,h.output,by rw[h.size];exact Nat.le_refl _,fun k _ hk=>h.other k hk⟩
theorem cu.since(h:cu c w w')(hc:c<=w.heap.size):w.Since c w':=⟨h.os,h.tape,h.output,h.size,fun k hk=>h.block k om om⟩
theorem cu.cell(h:cu c w w'){a:Addr}(hl:a.block<w.heap.size)(hne:a.block≠c):w'.cell? a=w.cell? a:=fa (w:=w) (h.block _ hl hne)
theorem cu.frozen(h:cu c w w'){a:Addr}(hl:a.block<w.heap.size)(hne:a.block≠c):w'.frozen? a=w.frozen? a:=wW (w:=w) (h.block _ hl hne)
theorem bj.aI(h:bj w d x y z)(s:cu c w w')(hne:d≠c):bj w' d x y z:=
 ⟨(s.cell (a:=jj d 0) h.lt hne).trans h.c0,(s.cell (a:=jj d 1) h.lt hne).trans h.c1,(s.cell (a:=jj d 2) h.lt hne).trans h.c2,fun k=>(s.frozen (a:=jj d k) h.lt hne).trans (h.f k)⟩
end
theorem bj.drew{w:World}{c:Nat}{x y z:Value}(h:bj w c x y z):bj w.drew c x y z:=⟨h.c0,h.c1,h.c2,h.f⟩
theorem ag.drew{w:World}{a:Option Addr}{b off n:Nat}{X:Nat->Nat}(h:ag w a b off n X):ag w.drew a b off n X:=h
theorem bU.drew{w:World}{v:Value}{g N M:Nat}(h:bU w v g N M):bU w.drew v g N M:=h
theorem ao{w w':World}{B:Nat}(h:w.Since B w'):w.Since B w'.drew:=⟨h.os,h.tape,h.output,h.size,h.block⟩
theorem dG.aI{c d:Nat}{w w':World}{x y z u:Value}(h:dG w d x y z u)(s:cu c w w')(hne:d≠c):dG w' d x y z u:=
 ⟨(s.cell (a:=jj d 0) h.lt hne).trans h.c0,(s.cell (a:=jj d 1) h.lt hne).trans h.c1,(s.cell (a:=jj d 2) h.lt hne).trans h.c2,(s.cell (a:=jj d 3) h.lt hne).trans h.c3,fun k=>(wW (w:=w) (a:=jj d k) (s.block d h.lt hne)).trans (h.f k)⟩
theorem dG.drew{w:World}{c:Nat}{x y z u:Value}(h:dG w c x y z u):dG w.drew c x y z u:=⟨h.c0,h.c1,h.c2,h.c3,h.f⟩
theorem afQ{w w':World}{g t n c:Nat}{F:Nat->Value}(h:w.rowIs g t n F)(s:cu c w w')(hne:g≠c):w'.rowIs g t n F:=h.of_block (s.block g h.lt hne)
theorem cu.up{c d:Nat}{w w1 w2:World}(x:cu c w w1)(y:cu d w1 w2)(hd:w.heap.size<=d):cu c w w2:=
 ⟨y.os.trans x.os,y.tape.trans x.tape,y.output.trans x.output,Nat.le_trans x.size y.size,fun k h1 h2=>(y.block k (Nat.lt_of_lt_of_le h1 x.size) om).trans (x.block k h1 h2)⟩
theorem ae5{c:Nat}{a a':Option Addr}{b off n cap b' off' m cap':Nat}{X Y:Nat->Nat}{w:World}(hn:n<=67108864)(hm:m<=67108864)(hX:ag w a b off n X)(hY:ag w a' b' off' m Y)
 (hXl:∀j,j<n->X j<4294967296)(hYl:∀j,j<m->Y j<4294967296)(hc0:w.cell? (jj c 0)=some (.slice a n cap))(hf0:w.frozen? (jj c 0)=false):
 Cl 168 #[.p c 0,.slice a' m cap'] w fun e w'=>e=.returned (.tuple #[])/\∃P:Nat->Nat,w'.cell? (jj c 0)=some (.s w.heap.size (ce (nz P) (n+m)) (n+m))/\w'.frozen? (jj c 0)=false/\w'.rowIs w.heap.size 129 (n+m) (fun j=>.int .u32 (P j:Nat))/\
  (∀k,P k<4294967296)/\lv P (n+m)=lv X n*lv Y m/\cu c w w'/\w.heap.size<w'.heap.size:=by
 have hcl:=gz _ _ hc0;refine (xG hn hm hX hY hXl hYl hc0 hf0).mono ?_;rintro e w' ⟨rfl,w2,P,s,r,hP,hv,rfl⟩;have M:=(af.refl w2 c).setCell 0 (.s w.heap.size (ce (nz P) (n+m)) (n+m));have h2:w2.cell? (jj c 0)=some (.slice a n cap):=by rw[s.cell (a:=jj c 0) hcl];exact hc0
 exact⟨rfl,P,j6 _ _ _ h2,by rw[M.frozen,s.frozen (a:=jj c 0) hcl];exact hf0,r.of_block (M.other _ (Nat.ne_of_gt hcl)),hP,hv,(cu.aC c s).trans (cu.aP M),by rw[M.size];exact r.lt⟩
theorem tz{P:Nat->Nat}{q:Nat}:0<ce (nz P) q->P (ce (nz P) q-1)≠0:=fun h=>by have:=cI (nz P) q h;simpa [nz] using this
structure yI(c o:Nat)(r:Option Nat)(w w':World):Prop where
 os:w'.os=w.os
 tape:w'.tape=w.tape
 output:w'.output=w.output
 size:w.heap.size<=w'.heap.size
 block:∀k,k<w.heap.size->k≠c->some k≠r->w'.heap[k]?=w.heap[k]?
 cell:∀x,x≠o->w'.cell? (jj c x)=w.cell? (jj c x)
 frozen:∀x,w'.frozen? (jj c x)=w.frozen? (jj c x)
section
variable{c o:Nat}{r:Option Nat}{w w' w'':World}
theorem yI.refl(c o:Nat)(r:Option Nat)(w:World):yI c o r w w:=⟨rfl,rfl,rfl,Nat.le_refl _,fun _ _ _ _=>rfl,fun _ _=>rfl,fun _=>rfl⟩
theorem yI.alloc(h:yI c o r w w')(hc:c<w.heap.size)(b:Obj):yI c o r w (w'.alloc b):=by
 have s:w'.S (w'.alloc b):=(eg _ _).alloc (Nat.le_refl _) _;have hl:=h.size;exact⟨h.os,h.tape,h.output,Nat.le_trans h.size s.size,fun k h1 h2 h3=>(s.block k om).trans (h.block k h1 h2 h3),fun x hx=>(s.cell (a:=jj c x) (by show c<_;omega)).trans (h.cell x hx),fun x=>(s.frozen (a:=jj c x) (by show c<_;omega)).trans (h.frozen x)⟩
theorem yI.grown{row:Option Nat}(h:yI c o r w w')(g:w'.grownBy w'' row)(hc:c<w.heap.size)(hr:row=r∨∀k,row=some k->w.heap.size<=k)(hrc:some c≠row):yI c o r w w'':=by
 have hl:=h.size;refine⟨g.os.trans h.os,g.tape.trans h.tape,g.output.trans h.output,Nat.le_trans h.size g.size,fun k h1 h2 h3=>(g.block k om ?_).trans (h.block k h1 h2 h3),fun x hx=>(fa (w:=w') (a:=jj c x) (g.block c om hrc)).trans (h.cell x hx),fun x=>(wW (w:=w') (a:=jj c x) (g.block c om hrc)).trans (h.frozen x)⟩
 rcases hr with rfl | hr
 . exact h3
 . intro e;have:=hr k e.symm;omega
theorem yI.setRow(h:yI c o r w w')(g i:Nat)(v:Value)(hr:some g=r∨w.heap.size<=g)(hc:g≠c):yI c o r w (w'.setCell ⟨g,i,none⟩ v):=by
 have M:=(af.refl w' g).setCell i v;refine⟨M.os.trans h.os,M.tape.trans h.tape,M.output.trans h.output,by rw[M.size];exact h.size,fun k h1 h2 h3=>(M.other k ?_).trans (h.block k h1 h2 h3),fun x hx=>(M.cell (a:=jj c x) (Ne.symm hc)).trans (h.cell x hx),fun x=>(M.aQ (a:=jj c x) (Ne.symm hc)).trans (h.frozen x)⟩
 rcases hr with rfl | hr
 . intro e;exact h3 (by rw[e])
 . omega
theorem yI.setC(h:yI c o r w w')(v:Value):yI c o r w (w'.setCell ⟨c,o,none⟩ v):=by
 have M:=(af.refl w' c).setCell o v;refine⟨M.os.trans h.os,M.tape.trans h.tape,M.output.trans h.output,by rw[M.size];exact h.size,fun k h1 h2 h3=>(M.other k h2).trans (h.block k h1 h2 h3),fun x hx=> ?_,fun x=>(M.frozen x).trans (h.frozen x)⟩;rw[<-h.cell x hx];exact World.cell?_setCell_other _ _ _ _ (fun e=>hx (by cases e;rfl))
end
def agK(X V:Nat->Nat)(F E i c:Nat):Prop:=lv V i+c*2^(32*i)=lv X i*F+E/\c<4294967296/\(∀k,i<=k->V k=X k)/\∀k,k<i->V k<4294967296
theorem adg{X V:Nat->Nat}{F E i c s c' x:Nat}(h:agK X V F E i c)(hx:V i=x)(hs:s<4294967296)(hc:c'<4294967296)(e:s+c'*4294967296=x*F+c):agK X (fX V i s) F E (i+1) c':=by
 obtain⟨h1,h2,h3,h4⟩:=h;have hx0:X i=x:=by rw[<-hx];exact (h3 i (Nat.le_refl _)).symm
 refine⟨?_,hc,fun k hk=>by rw[az _ _ _ _ om];exact h3 k om,fun k hk=> ?_⟩
 . simp only[lv,bK,xM V i s i (Nat.le_refl _),hx0]
   rw[jq];generalize 2^(32*i)=P at*
   have e2:s*P+c'*(4294967296*P)=x*P*F+c*P:=by
    rw[<-Nat.mul_assoc,<-Nat.add_mul,e,Nat.add_mul,Nat.mul_assoc x F P,Nat.mul_comm F P,<-Nat.mul_assoc]
   rw[Nat.add_mul (lv X i)];omega
 . by_cases e2:k=i
   . subst e2;rw[bK];exact hs
   . rw[az _ _ _ _ e2];exact h4 k om
theorem sV{c o base n:Nat}{v0:Value}{E:Nat}{X:Nat->Nat}{w:World}(hn:n<=67108864)(hE:E<4294967296)(hc0:w.cell? (jj c o)=some v0)(hf0:w.frozen? (jj c o)=false)
 (hown:w.ownsRow base 129 1 v0 n (ll X n))(hne:v0.ownBlock≠some c)(hcl:c<w.heap.size)(hbase:base<=w.heap.size)(hXl:∀j,j<n->X j<4294967296):
 Cl 202 #[.p c o,.int .u32 1000000000,.int .u32 E] w fun e w'=>e=.returned (.tuple #[])/\∃v k V,w'.cell? (jj c o)=some v/\w'.ownsRow base 129 1 v k (ll V k)/\(v=.n->v0=.n)/\v.ownBlock≠some c/\
  yI c o v0.ownBlock w w'/\(∀j,j<k->V j<4294967296)/\lv V k=lv X n*1000000000+E/\k<=n+1/\(k=n∨V (k-1)≠0):=by
 obtain⟨i0,hi,hz0,hz1,hz2⟩:=info_parts Tryz.info129;have HXl:=ae hXl;obtain⟨a,cap,rfl,hkc,hac,hag⟩:=jx hown;go_enter Tryz.func202,Tryz.ntmps202;have HV0:Hid (agK X X 1000000000 E 0 E):=ae ⟨by simp[lv],hE,fun _ _=>rfl,fun j hj=>absurd hj om⟩;go_wp2
 go_loopw [6,16] (fun q t wr=>∃(i cb:Nat) (V:Nat->Nat),i<=n/\t=.i i/\q=.int .u64 cb/\cb<4294967296/\wr.cell? (jj c o)=some (.slice a n cap)/\wr.ownsRow base 129 1 (.slice a n cap) n (ll V n)/\yI c o (Value.slice a n cap).ownBlock w wr/\Hid (agK X V 1000000000 E i cb)) (fun _ t _=>n-(intOf t).toNat)
 case atStart=>exact⟨0,E,X,Nat.zero_le _,rfl,rfl,hE,hc0,hown,yI.refl _ _ _ _,HV0⟩
 case round=>
  obtain⟨i,cb,V,hik,rfl,rfl,hcb1,q2,ho2,hs2,HR⟩:=hrel
  by_cases hlt:i<n
  . obtain⟨g,rfl⟩:=hag i hlt
    obtain⟨g',cap',e,-,hbg,hgl,LV,FV⟩:=bX ho2 qz;cases e;have g1:wr.cell? (jj g i)=some (.int .u32 (V i)):=by simpa using (LV i hlt).2
    have g2:=FV i
    have hxl:V i<4294967296:=by
     rw[HR.out.2.2.1 i (Nat.le_refl _)];exact HXl.out i hlt
    have STEP:=ae (fun (s c':Nat)=>adg (s:=s) (c':=c') HR.out rfl);obtain⟨x,ex⟩:∃y,y=V i:=⟨_,rfl⟩;rw[<-ex] at g1 hxl STEP;have hin:(i:Int)<n:=om
    have hcg:g≠c:=fun e=>hne (by rw[e];rfl)
    have q3:∀u,(wr.setCell (jj g i) u).cell? (jj c o)=some (.s g n cap):=fun u=>by rw[((af.refl wr g).setCell i u).cell (a:=jj c o) (Ne.symm hcg)];exact q2
    go_wp2;go_roundw
    case rel=>go_light;exact⟨i+1,(x*1000000000+cb)/4294967296,_,om,by go_num,congrArg (Value.int .u64) om,om,q3 _,aet ho2 i ((x*1000000000+cb) % 4294967296) hlt _ om,hs2.setRow g i _ (Or.inl rfl) hcg,STEP.out _ _ om om om⟩
    case measure=>simp[intOf];omega
  . have e:i=n:=om
    subst e;have HE:=ae HR.out.1;have HV1:=ae HR.out.2.2.2
    rcases Nat.eq_zero_or_pos cb with hc2 | hc2
    . subst hc2
      go_wp2
      go_end0
      exact⟨rfl,_,i,V,q2,ho2,fun h=>h,hne,hs2,HV1.out,by have:=HE.out;omega,om,Or.inl rfl⟩
    . have hC:some c≠(Value.slice a i cap).ownBlock:=fun e=>hne e.symm
      have hsz2:=hs2.size;have hcf:((cb:Int)==0)=false:=by simp;omega
      go_wp2_with (at_builtin;refine wpList_append_own_at _ rfl _ _ 98 rfl base 129 i0 (.int .u32 0) 1 4 Tryz.underlying98 hi hz0 hz1 hz2 rfl qd _ _ _ rfl (ho2.alloc _) (jj wr.heap.size 0) 1 1 [.int .u32 cb] rfl rfl (bO _ _ _) (bZ _ rfl) (by unfold maxLen;omega) om (by simp;omega) ?_)
      intro v' w1 hown' hgrow hnn hat;rw[show ll V i++[.int .u32 cb]=ll (fX V i cb) (i+1) from by rw[jV,bK,pN (fun j hj=>az _ _ _ _ (show j≠i by omega))]] at hown';have sW:=bJ wr (.cells #[.int .u32 cb] 129);have hs1:=(hs2.alloc hcl _).grown hgrow hcl (Or.inl rfl) hC;have q1:=hgrow.cell ((sW.cell (a:=jj c o) (show c<wr.heap.size by omega)).trans q2) hC;have f1:w1.frozen? (jj c o)=false:=by rw[hs1.frozen];exact hf0
      have hCv:v'.ownBlock≠some c:=fun e=>by
       rcases hat with h | h
       . exact hne (h.symm.trans e)
       . rw[e] at h;simp at h;omega
      obtain⟨a1,cap1,rfl,hkc1,hac1,hag1⟩:=jx hown';go_wp2
      go_end0
      refine⟨rfl,_,i+1,fX V i cb,j6 _ _ _ q1,ownsRow_setCell_other hown' hCv _,fun h=>by simp at h,hCv,hs1.setC _,fun j hj=> ?_, ?_,om,Or.inr (by rw[show i+1-1=i by omega,bK];omega)⟩
      . by_cases e2:j=i
        . subst e2;rw[bK];omega
        . rw[az _ _ _ _ e2];exact HV1.out j om
      . have:=HE.out
        simp only[lv,bK,xM V i cb i (Nat.le_refl _)];exact this
structure br where
 neg:Bool
 n:Nat
 X:Nat->Nat
 m:Nat
 Y:Nat->Nat
def br.nul:br:=⟨false,0,fun _=>0,0,fun _=>0⟩
def br.ok(r:br):Bool:=bM r.neg r.X r.n r.Y r.m
structure nu(w:World)(lo:Nat)(r:br)(a b:Option Addr)(ca cb:Nat):Prop where
 nc:r.n<=ca
 mc:r.m<=cb
 ac:a=none->ca=0
 bc:b=none->cb=0
 LX:∃ba oa,(0<r.n->lo<=ba)/\ag w a ba oa r.n r.X
 LY:∃bb ob,(0<r.m->lo<=bb)/\ag w b bb ob r.m r.Y
 lX:∀j,j<r.n->r.X j<4294967296
 lY:∀j,j<r.m->r.Y j<4294967296
 n63:r.n<=9223372036854775807
 m63:r.m<=9223372036854775807
section
variable{w w':World}{lo lo' b off n c:Nat}{r:br}{a a1 a2:Option Addr}{k1 k2:Nat}{R:Nat->br}
theorem nu.aA(h:nu w lo r a1 a2 k1 k2)(s:w.S w'):nu w' lo r a1 a2 k1 k2:=by
 obtain⟨ba,oa,l1,LX⟩:=h.LX;obtain⟨bb,ob,l2,LY⟩:=h.LY;exact⟨h.nc,h.mc,h.ac,h.bc,⟨ba,oa,l1,LX.aA s⟩,⟨bb,ob,l2,LY.aA s⟩,h.lX,h.lY,h.n63,h.m63⟩
theorem nu.down(h:nu w lo r a1 a2 k1 k2)(hl:lo'<=lo):nu w lo' r a1 a2 k1 k2:=by
 obtain⟨ba,oa,l1,LX⟩:=h.LX;obtain⟨bb,ob,l2,LY⟩:=h.LY;exact⟨h.nc,h.mc,h.ac,h.bc,⟨ba,oa,fun h=>Nat.le_trans hl (l1 h),LX⟩,⟨bb,ob,fun h=>Nat.le_trans hl (l2 h),LY⟩,h.lX,h.lY,h.n63,h.m63⟩
theorem nu.marked(h:nu w lo r a1 a2 k1 k2)(s:af w w' c)(hc:c<lo):nu w' lo r a1 a2 k1 k2:=by
 obtain⟨ba,oa,l1,LX⟩:=h.LX;obtain⟨bb,ob,l2,LY⟩:=h.LY;exact⟨h.nc,h.mc,h.ac,h.bc,⟨ba,oa,l1,LX.marked s (fun h=>by have:=l1 h;omega)⟩,⟨bb,ob,l2,LY.marked s (fun h=>by have:=l2 h;omega)⟩,h.lX,h.lY,h.n63,h.m63⟩
structure jM(w:World)(lo b off:Nat)(r:br)(a1 a2:Option Addr)(k1 k2:Nat):Prop where
 c0:w.cell? ⟨b,off,none⟩=some (.bool r.neg)
 c1:w.cell? ⟨b,off+1,none⟩=some (.slice a1 r.n k1)
 c2:w.cell? ⟨b,off+2,none⟩=some (.slice a2 r.m k2)
 L:nu w lo r a1 a2 k1 k2
theorem jM.g{w:World}{lo b off:Nat}{r:br}{a1 a2:Option Addr}{k1 k2:Nat}(h:jM w lo b off r a1 a2 k1 k2):w.cell? (jj b off)=some (.bool r.neg)/\w.cell? (jj b (off+1))=some (.slice a1 r.n k1)/\w.cell? (jj b (off+2))=some (.slice a2 r.m k2):=⟨h.c0,h.c1,h.c2⟩
theorem jM.lt(h:jM w lo b off r a1 a2 k1 k2):b<w.heap.size:=gz _ _ h.c0
theorem jM.aA(h:jM w lo b off r a1 a2 k1 k2)(s:w.S w'):jM w' lo b off r a1 a2 k1 k2:=
 ⟨(s.cell (a:=jj b off) h.lt).trans h.c0,(s.cell (a:=jj b (off+1)) h.lt).trans h.c1,(s.cell (a:=jj b (off+2)) h.lt).trans h.c2,h.L.aA s⟩
theorem jM.down(h:jM w lo b off r a1 a2 k1 k2)(hl:lo'<=lo):jM w lo' b off r a1 a2 k1 k2:=⟨h.c0,h.c1,h.c2,h.L.down hl⟩
theorem jM.marked(h:jM w lo b off r a1 a2 k1 k2)(s:af w w' c)(hc:c<lo)(hb:b≠c):jM w' lo b off r a1 a2 k1 k2:=
 ⟨(s.cell (a:=jj b off) hb).trans h.c0,(s.cell (a:=jj b (off+1)) hb).trans h.c1,(s.cell (a:=jj b (off+2)) hb).trans h.c2,h.L.marked s hc⟩
def fw(w:World)(lo:Nat)(a:Option Addr)(b off n:Nat)(R:Nat->br):Prop:=
 ∀i,i<n->a=some ⟨b,off,none⟩/\∃a1 a2 k1 k2,jM w lo b (off+i*3) (R i) a1 a2 k1 k2
theorem fw.aA(h:fw w lo a b off n R)(s:w.S w'):fw w' lo a b off n R:=fun i hi=>by
 obtain⟨h1,a1,a2,k1,k2,h2⟩:=h i hi;exact⟨h1,a1,a2,k1,k2,h2.aA s⟩
theorem fw.down(h:fw w lo a b off n R)(hl:lo'<=lo):fw w lo' a b off n R:=fun i hi=>by
 obtain⟨h1,a1,a2,k1,k2,h2⟩:=h i hi;exact⟨h1,a1,a2,k1,k2,h2.down hl⟩
theorem fw.marked(h:fw w lo a b off n R)(s:af w w' c)(hc:c<lo)(hb:0<n->b≠c):fw w' lo a b off n R:=fun i hi=>by
 obtain⟨h1,a1,a2,k1,k2,h2⟩:=h i hi;exact⟨h1,a1,a2,k1,k2,h2.marked s hc (hb om)⟩
end
def mj(R:Nat->br):Nat->Nat
 | 0=>0
 | n+1=>mj R n+((R n).n+(R n).m)
theorem ky(R:Nat->br)(n:Nat):mj R (n+1)=mj R n+((R n).n+(R n).m):=rfl
theorem pz{R:Nat->br}{k n:Nat}(h:k<=n):mj R k<=mj R n:=by
 induction n with
 | zero=>simp at h;subst h;exact Nat.le_refl _
 | succ n ih=>
   rcases Nat.lt_or_ge n k with h1 | h1
   . have:k=n+1:=om
     subst this;exact Nat.le_refl _
   . have:=ih h1
     rw[ky];omega
theorem gY{R:Nat->br}{k n:Nat}(h:k<n):(R k).n+(R k).m<=mj R n:=by
 have:=pz (R:=R) (show k+1<=n from h);rw[ky] at this;omega
def gD(R:Nat->br)(n:Nat):Prop:=∀i,i<n->(R i).ok=true
structure aja where
 rows:Int
 cols:Int
 nw:Nat
 W:Nat->br
 nb:Nat
 B:Nat->br
section
variable{w w':World}{lo lo' b off n c:Nat}{d:aja}{a a1 a2:Option Addr}{k1 k2:Nat}{A:Nat->aja}
end
def tU(N:Nat)(p:Nat×(Nat->Nat)):Prop:=(∀j,j<p.1->p.2 j<4294967296)/\(0<p.1->p.2 (p.1-1)≠0)/\lv p.2 p.1=N
def tg:Nat->Nat->Nat
 | 0,_=>0
 | f+1,N=>if N=0 then 0 else tg f (N/4294967296)+1
def iE(N:Nat):Nat×(Nat->Nat):=(tg N N,fun j=>N/2^(32*j) % 4294967296)
theorem ac8:∀f N,N<=f->N<2^(32*tg f N)/\(0<tg f N->2^(32*(tg f N-1))<=N)
 | 0,N,h=>by
   obtain rfl:N=0:=om
   exact⟨by simp[tg],fun h=>by simp[tg] at h⟩
 | f+1,N,h=>by
   unfold tg
   split
   . rename_i e;subst e;exact⟨qz,fun h=>absurd h om⟩
   . rename_i e
     obtain⟨h1,h2⟩:=ac8 f (N/4294967296) om;generalize tg f (N/4294967296)=c at*;have p1:∀c,2^(32*(c+1))=2^(32*c)*4294967296:=fun c=>by rw[Nat.mul_add,Nat.pow_add]
     refine⟨by rw[p1];exact (Nat.div_lt_iff_lt_mul om).1 h1,fun _=> ?_⟩;rw[Nat.add_sub_cancel]
     rcases Nat.eq_zero_or_pos c with rfl | hc
     . simp;omega
     . obtain⟨b,rfl⟩:∃b,c=b+1:=⟨c-1,om⟩
       have:=h2 hc;rw[Nat.add_sub_cancel] at this;rw[p1];exact (Nat.le_div_iff_mul_le om).1 this
theorem aeG(N:Nat):∀n,lv (fun j=>N/2^(32*j) % 4294967296) n=N % 2^(32*n)
 | 0=>by simp[lv,Nat.mod_one]
 | n+1=>by
   have p1:2^(32*(n+1))=2^(32*n)*4294967296:=by rw[Nat.mul_add,Nat.pow_add]
   rw[lv,aeG N n,p1,Nat.mod_mul,Nat.mul_comm (2^(32*n))]
theorem gh(N:Nat):tU N (iE N):=by
 obtain⟨h1,h2⟩:=ac8 N N (Nat.le_refl _);refine⟨fun j _=>Nat.mod_lt _ om,fun h=> ?_,(aeG N _).trans (Nat.mod_eq_of_lt h1)⟩;have h3:=h2 h
 show N/2^(32*(tg N N-1)) % 4294967296≠0
 have h:0<tg N N:=h;generalize tg N N=c at*;obtain⟨b,rfl⟩:∃b,c=b+1:=⟨c-1,om⟩;rw[Nat.add_sub_cancel] at*;rw[show 2^(32*(b+1))=2^(32*b)*4294967296 by rw[Nat.mul_add,Nat.pow_add]] at h1;have h4:N/2^(32*b)<4294967296:=(Nat.div_lt_iff_lt_mul (Nat.pow_pos om)).2 (by rw[Nat.mul_comm];exact h1);have h5:=Nat.div_pos h3 (Nat.pow_pos om);rw[Nat.mod_eq_of_lt h4];omega
theorem qx{N:Nat}{p:Nat×(Nat->Nat)}(h:tU N p):(iE N).1=p.1/\(∀j,j<p.1->(iE N).2 j=p.2 j)/\tU N (iE N):=by
 have hc:=gh N;obtain⟨e1,e2⟩:=aeF hc.1 h.1 hc.2.1 h.2.1 (hc.2.2.trans h.2.2.symm);exact⟨e1,fun j hj=>e2 j om,hc⟩
theorem bU.can{w:World}{v:Value}{g N M:Nat}(h:bU w v g N M):∃a cap,v=.slice a (iE N).1 cap/\(iE N).1<=cap/\(iE N).1<=M/\(a=none->cap=0)/\ag w a g 0 (iE N).1 (iE N).2/\(∀j,j<(iE N).1->(iE N).2 j<4294967296):=by
 obtain⟨a,m,cap,Y,rfl,h1,h2,h3,h4,h5,h6,h7,h8⟩:=h;obtain⟨e1,e2,hc⟩:=qx (N:=N) (p:=(m,Y)) ⟨h6,h7,h8⟩;have e1:=e1;have e2:=e2;refine⟨a,cap,by rw[e1],om,om,h3,fun j hj=> ?_,hc.1⟩;rw[e2 j om];exact h4 j om
def mx(neg:Bool)(N D:Nat):br:=⟨neg,(iE N).1,(iE N).2,(iE D).1,(iE D).2⟩
theorem dM.can{w:World}{v:Value}{neg:Bool}{N D B M:Nat}(h:dM w v neg N D B M)(hM:M<=9223372036854775807):∃a1 a2 k1 k2,v=.agg #[.bool (mx neg N D).neg,.slice a1 (mx neg N D).n k1,.slice a2 (mx neg N D).m k2]/\nu w B (mx neg N D) a1 a2 k1 k2/\(mx neg N D).n<=M/\(mx neg N D).m<=M:=by
 obtain⟨v1,v2,g,h',rfl,h1,h2,b1,b2,-⟩:=h;obtain⟨a1,k1,rfl,p1,p2,p3,p4,p5⟩:=h1.can;obtain⟨a2,k2,rfl,q1,q2,q3,q4,q5⟩:=h2.can;exact⟨a1,a2,k1,k2,rfl,⟨p1,q1,p3,q3,⟨g,0,fun _=>b1,p4⟩,⟨h',0,fun _=>b2,q4⟩,p5,q5,Nat.le_trans p2 hM,Nat.le_trans q2 hM⟩,p2,q2⟩
structure au(w:World)(c:Nat)(x y z u v t:Value):Prop where
 c0:w.cell? ⟨c,0,none⟩=some x
 c1:w.cell? ⟨c,1,none⟩=some y
 c2:w.cell? ⟨c,2,none⟩=some z
 c3:w.cell? ⟨c,3,none⟩=some u
 c4:w.cell? ⟨c,4,none⟩=some v
 c5:w.cell? ⟨c,5,none⟩=some t
 f:∀k,w.frozen? ⟨c,k,none⟩=false
theorem au.g{w:World}{c:Nat}{x y z u v t:Value}(h:au w c x y z u v t):w.cell? (jj c 0)=some x/\w.cell? (jj c 1)=some y/\w.cell? (jj c 2)=some z/\w.cell? (jj c 3)=some u/\w.cell? (jj c 4)=some v/\w.cell? (jj c 5)=some t:=⟨h.c0,h.c1,h.c2,h.c3,h.c4,h.c5⟩
theorem au.k{w:World}{c:Nat}{x y z u v t:Value}(h:au w c x y z u v t):w.frozen? (jj c 0)=false/\w.frozen? (jj c 1)=false/\w.frozen? (jj c 2)=false/\w.frozen? (jj c 3)=false/\w.frozen? (jj c 4)=false/\w.frozen? (jj c 5)=false:=⟨h.f 0,h.f 1,h.f 2,h.f 3,h.f 4,h.f 5⟩
section
variable{w w':World}{c d B:Nat}{x y z u v t:Value}
theorem au.lt(h:au w c x y z u v t):c<w.heap.size:=gz _ _ h.c0
theorem au.new(w:World)(x y z u v t:Value)(T:TypeId):au (w.alloc (.cells #[x,y,z,u,v,t] T)) w.heap.size x y z u v t:=⟨by simp[go_sem],by simp[go_sem],by simp[go_sem],by simp[go_sem],by simp[go_sem],by simp[go_sem],fun k=>by simp[go_sem]⟩
theorem au.since(h:au w c x y z u v t)(s:w.Since B w')(hc:c<B):au w' c x y z u v t:=
 ⟨(s.cell (a:=jj c 0) hc).trans h.c0,(s.cell (a:=jj c 1) hc).trans h.c1,(s.cell (a:=jj c 2) hc).trans h.c2,(s.cell (a:=jj c 3) hc).trans h.c3,(s.cell (a:=jj c 4) hc).trans h.c4,(s.cell (a:=jj c 5) hc).trans h.c5,fun k=>(s.frozen (a:=jj c k) hc).trans (h.f k)⟩
theorem au.aA(h:au w c x y z u v t)(s:w.S w'):au w' c x y z u v t:=h.since s h.lt
theorem au.marked(h:au w c x y z u v t)(s:af w w' d)(hc:c≠d):au w' c x y z u v t:=
 ⟨(s.cell (a:=jj c 0) hc).trans h.c0,(s.cell (a:=jj c 1) hc).trans h.c1,(s.cell (a:=jj c 2) hc).trans h.c2,(s.cell (a:=jj c 3) hc).trans h.c3,(s.cell (a:=jj c 4) hc).trans h.c4,(s.cell (a:=jj c 5) hc).trans h.c5,fun k=>(s.aQ (a:=jj c k) hc).trans (h.f k)⟩
theorem au.aE(h:au w c x y z u v t)(q:Value):au (w.setCell ⟨c,0,none⟩ q) c q y z u v t:=
 ⟨j6 _ _ _ h.c0,(fJ).trans h.c1,(fJ).trans h.c2,(fJ).trans h.c3,(fJ).trans h.c4,(fJ).trans h.c5,fun k=>by rw[((af.refl w c).setCell 0 q).frozen];exact h.f k⟩
theorem au.aG(h:au w c x y z u v t)(q:Value):au (w.setCell ⟨c,1,none⟩ q) c x q z u v t:=
 ⟨(fJ).trans h.c0,j6 _ _ _ h.c1,(fJ).trans h.c2,(fJ).trans h.c3,(fJ).trans h.c4,(fJ).trans h.c5,fun k=>by rw[((af.refl w c).setCell 1 q).frozen];exact h.f k⟩
theorem au.aF(h:au w c x y z u v t)(q:Value):au (w.setCell ⟨c,2,none⟩ q) c x y q u v t:=
 ⟨(fJ).trans h.c0,(fJ).trans h.c1,j6 _ _ _ h.c2,(fJ).trans h.c3,(fJ).trans h.c4,(fJ).trans h.c5,fun k=>by rw[((af.refl w c).setCell 2 q).frozen];exact h.f k⟩
theorem au.aK(h:au w c x y z u v t)(q:Value):au (w.setCell ⟨c,3,none⟩ q) c x y z q v t:=
 ⟨(fJ).trans h.c0,(fJ).trans h.c1,(fJ).trans h.c2,j6 _ _ _ h.c3,(fJ).trans h.c4,(fJ).trans h.c5,fun k=>by rw[((af.refl w c).setCell 3 q).frozen];exact h.f k⟩
theorem au.aS(h:au w c x y z u v t)(q:Value):au (w.setCell ⟨c,4,none⟩ q) c x y z u q t:=
 ⟨(fJ).trans h.c0,(fJ).trans h.c1,(fJ).trans h.c2,(fJ).trans h.c3,j6 _ _ _ h.c4,(fJ).trans h.c5,fun k=>by rw[((af.refl w c).setCell 4 q).frozen];exact h.f k⟩
theorem au.aO(h:au w c x y z u v t)(q:Value):au (w.setCell ⟨c,5,none⟩ q) c x y z u v q:=
 ⟨(fJ).trans h.c0,(fJ).trans h.c1,(fJ).trans h.c2,(fJ).trans h.c3,(fJ).trans h.c4,j6 _ _ _ h.c5,fun k=>by rw[((af.refl w c).setCell 5 q).frozen];exact h.f k⟩
end
theorem dn{fn:Func}{p:Tmp}{T:TypeId}{d:TypeDesc}(h:fn.results= #[.cell p T])(hu:Tryz.prog.underlying T=some d)(hd:d.isRow=true)(hi:(Tryz.prog.info? T).map (·.size)=some 6)(tmps:Array Value)(w:World)(c:Nat)(x y z u v t:Value)
 (hp:tmps.getD p undef=.p c 0)(B:au w c x y z u v t):(results fn tmps).run Tryz.prog w=.ok (.agg #[x,y,z,u,v,t]) w:=by
 have hp':tmps[p]?.getD undef=.p c 0:=by simpa using hp
 have hl:=run_loadVar_mid (P:=Tryz.prog) w c 0 T [x,y,z,u,v,t] d (fun j q hv=>by
  rcases j with _ | _ | _ | _ | _ | _ | j
  . simp at hv;subst hv;exact B.c0
  . simp at hv;subst hv;exact B.c1
  . simp at hv;subst hv;exact B.c2
  . simp at hv;subst hv;exact B.c3
  . simp at hv;subst hv;exact B.c4
  . simp at hv;subst hv;exact B.c5
  . simp at hv) hu hd hi
 simp[results,h,hp',asAddr,hl]
structure ay where
 op:Int
 a:Int
 b:Int
 k:Int
 s:Int
 nv:Nat
 V:Nat->br
def ay.size(d:ay):Nat:=d.nv+mj d.V d.nv
def ef(z:Int):Prop:=-9223372036854775808<=z/\z<=9223372036854775807
structure ov(w:World)(lo:Nat)(d:ay)(a:Option Addr)(ca:Nat):Prop where
 nc:d.nv<=ca
 LV:∃ba oa,(0<d.nv->lo<=ba)/\fw w lo a ba oa d.nv d.V
 iop:ef d.op
 ia:ef d.a
 ib:ef d.b
 ik:ef d.k
 is:ef d.s
 n63:d.nv<=9223372036854775807
section
variable{w w':World}{lo lo' b off n c:Nat}{d:ay}{a a1:Option Addr}{k1:Nat}{A:Nat->ay}
theorem ov.aA(h:ov w lo d a1 k1)(s:w.S w'):ov w' lo d a1 k1:=by
 obtain⟨ba,oa,l1,LV⟩:=h.LV;exact⟨h.nc,⟨ba,oa,l1,LV.aA s⟩,h.iop,h.ia,h.ib,h.ik,h.is,h.n63⟩
theorem ov.down(h:ov w lo d a1 k1)(hl:lo'<=lo):ov w lo' d a1 k1:=by
 obtain⟨ba,oa,l1,LV⟩:=h.LV;exact⟨h.nc,⟨ba,oa,fun h=>Nat.le_trans hl (l1 h),LV.down hl⟩,h.iop,h.ia,h.ib,h.ik,h.is,h.n63⟩
theorem ov.marked(h:ov w lo d a1 k1)(s:af w w' c)(hc:c<lo):ov w' lo d a1 k1:=by
 obtain⟨ba,oa,l1,LV⟩:=h.LV;exact⟨h.nc,⟨ba,oa,l1,LV.marked s hc (fun h=>by have:=l1 h;omega)⟩,h.iop,h.ia,h.ib,h.ik,h.is,h.n63⟩
structure mb(w:World)(lo b off:Nat)(d:ay)(a1:Option Addr)(k1:Nat):Prop where
 c0:w.cell? ⟨b,off,none⟩=some (.int .i64 d.op)
 c1:w.cell? ⟨b,off+1,none⟩=some (.int .i64 d.a)
 c2:w.cell? ⟨b,off+2,none⟩=some (.int .i64 d.b)
 c3:w.cell? ⟨b,off+3,none⟩=some (.int .i64 d.k)
 c4:w.cell? ⟨b,off+4,none⟩=some (.int .i64 d.s)
 c5:w.cell? ⟨b,off+5,none⟩=some (.slice a1 d.nv k1)
 L:ov w lo d a1 k1
theorem mb.g{w:World}{lo b off:Nat}{d:ay}{a1:Option Addr}{k1:Nat}(h:mb w lo b off d a1 k1):w.cell? (jj b off)=some (.i d.op)/\w.cell? (jj b (off+1))=some (.i d.a)/\w.cell? (jj b (off+2))=some (.i d.b)/\w.cell? (jj b (off+3))=some (.i d.k)/\w.cell? (jj b (off+4))=some (.i d.s)/\w.cell? (jj b (off+5))=some (.slice a1 d.nv k1):=⟨h.c0,h.c1,h.c2,h.c3,h.c4,h.c5⟩
theorem mb.lt(h:mb w lo b off d a1 k1):b<w.heap.size:=gz _ _ h.c0
theorem mb.aA(h:mb w lo b off d a1 k1)(s:w.S w'):mb w' lo b off d a1 k1:=
 ⟨(s.cell (a:=jj b off) h.lt).trans h.c0,(s.cell (a:=jj b (off+1)) h.lt).trans h.c1,(s.cell (a:=jj b (off+2)) h.lt).trans h.c2,(s.cell (a:=jj b (off+3)) h.lt).trans h.c3,(s.cell (a:=jj b (off+4)) h.lt).trans h.c4,(s.cell (a:=jj b (off+5)) h.lt).trans h.c5,h.L.aA s⟩
theorem mb.down(h:mb w lo b off d a1 k1)(hl:lo'<=lo):mb w lo' b off d a1 k1:=⟨h.c0,h.c1,h.c2,h.c3,h.c4,h.c5,h.L.down hl⟩
theorem mb.marked(h:mb w lo b off d a1 k1)(s:af w w' c)(hc:c<lo)(hb:b≠c):mb w' lo b off d a1 k1:=
 ⟨(s.cell (a:=jj b off) hb).trans h.c0,(s.cell (a:=jj b (off+1)) hb).trans h.c1,(s.cell (a:=jj b (off+2)) hb).trans h.c2,(s.cell (a:=jj b (off+3)) hb).trans h.c3,(s.cell (a:=jj b (off+4)) hb).trans h.c4,(s.cell (a:=jj b (off+5)) hb).trans h.c5,h.L.marked s hc⟩
def qG(w:World)(lo:Nat)(a:Option Addr)(b off n:Nat)(A:Nat->ay):Prop:=
 ∀i,i<n->a=some ⟨b,off,none⟩/\∃a1 k1,mb w lo b (off+i*6) (A i) a1 k1
theorem qG.aA(h:qG w lo a b off n A)(s:w.S w'):qG w' lo a b off n A:=fun i hi=>by
 obtain⟨h1,a1,k1,h2⟩:=h i hi;exact⟨h1,a1,k1,h2.aA s⟩
theorem qG.down(h:qG w lo a b off n A)(hl:lo'<=lo):qG w lo' a b off n A:=fun i hi=>by
 obtain⟨h1,a1,k1,h2⟩:=h i hi;exact⟨h1,a1,k1,h2.down hl⟩
theorem qG.marked(h:qG w lo a b off n A)(s:af w w' c)(hc:c<lo)(hb:0<n->b≠c):qG w' lo a b off n A:=fun i hi=>by
 obtain⟨h1,a1,k1,h2⟩:=h i hi;exact⟨h1,a1,k1,h2.marked s hc (hb om)⟩
end
def vt(A:Nat->ay):Nat->Nat
 | 0=>0
 | n+1=>vt A n+(A n).size
theorem i8(A:Nat->ay)(n:Nat):vt A (n+1)=vt A n+(A n).size:=rfl
theorem uh{A:Nat->ay}{k n:Nat}(h:k<=n):vt A k<=vt A n:=by
 induction n with
 | zero=>simp at h;subst h;exact Nat.le_refl _
 | succ n ih=>
   rcases Nat.lt_or_ge n k with h1 | h1
   . have:k=n+1:=om
     subst this;exact Nat.le_refl _
   . have:=ih h1
     rw[i8];omega
theorem qQ{A:Nat->ay}{k n:Nat}(h:k<n):(A k).size<=vt A n:=by
 have:=uh (A:=A) (show k+1<=n from h);rw[i8] at this;omega
structure ax where
 inn:Int
 rounds:Int
 nl:Nat
 Lo:Nat->br
 nh:Nat
 Hi:Nat->br
 nn:Nat
 N:Nat->ay
 out:Int
def ax.size(g:ax):Nat:=(g.nl+mj g.Lo g.nl)+(g.nh+mj g.Hi g.nh)+(g.nn+vt g.N g.nn)
structure gj(w:World)(lo:Nat)(g:ax)(aL aH aN:Option Addr)(kL kH kN:Nat):Prop where
 lc:g.nl<=kL
 hc:g.nh<=kH
 nc:g.nn<=kN
 LL:∃b o,(0<g.nl->lo<=b)/\fw w lo aL b o g.nl g.Lo
 LH:∃b o,(0<g.nh->lo<=b)/\fw w lo aH b o g.nh g.Hi
 LN:∃b o,(0<g.nn->lo<=b)/\qG w lo aN b o g.nn g.N
 ii:ef g.inn
 ir:ef g.rounds
 io:ef g.out
 l63:g.nl<=9223372036854775807
 h63:g.nh<=9223372036854775807
 n63:g.nn<=9223372036854775807
section
variable{w w':World}{lo lo' c:Nat}{g:ax}{aL aH aN:Option Addr}{kL kH kN:Nat}
theorem gj.aA(h:gj w lo g aL aH aN kL kH kN)(s:w.S w'):gj w' lo g aL aH aN kL kH kN:=by
 obtain⟨b1,o1,l1,L1⟩:=h.LL;obtain⟨b2,o2,l2,L2⟩:=h.LH;obtain⟨b3,o3,l3,L3⟩:=h.LN;exact⟨h.lc,h.hc,h.nc,⟨b1,o1,l1,L1.aA s⟩,⟨b2,o2,l2,L2.aA s⟩,⟨b3,o3,l3,L3.aA s⟩,h.ii,h.ir,h.io,h.l63,h.h63,h.n63⟩
theorem gj.down(h:gj w lo g aL aH aN kL kH kN)(hl:lo'<=lo):gj w lo' g aL aH aN kL kH kN:=by
 obtain⟨b1,o1,l1,L1⟩:=h.LL;obtain⟨b2,o2,l2,L2⟩:=h.LH;obtain⟨b3,o3,l3,L3⟩:=h.LN;exact⟨h.lc,h.hc,h.nc,⟨b1,o1,fun h=>Nat.le_trans hl (l1 h),L1.down hl⟩,⟨b2,o2,fun h=>Nat.le_trans hl (l2 h),L2.down hl⟩,⟨b3,o3,fun h=>Nat.le_trans hl (l3 h),L3.down hl⟩,h.ii,h.ir,h.io,h.l63,h.h63,h.n63⟩
theorem gj.marked(h:gj w lo g aL aH aN kL kH kN)(s:af w w' c)(hc:c<lo):gj w' lo g aL aH aN kL kH kN:=by
 obtain⟨b1,o1,l1,L1⟩:=h.LL;obtain⟨b2,o2,l2,L2⟩:=h.LH;obtain⟨b3,o3,l3,L3⟩:=h.LN;exact⟨h.lc,h.hc,h.nc,⟨b1,o1,l1,L1.marked s hc (fun h=>by have:=l1 h;omega)⟩,⟨b2,o2,l2,L2.marked s hc (fun h=>by have:=l2 h;omega)⟩,⟨b3,o3,l3,L3.marked s hc (fun h=>by have:=l3 h;omega)⟩,h.ii,h.ir,h.io,h.l63,h.h63,h.n63⟩
end
def du(f f':Bool)(x y:Nat):Bool:=if f=f' then f else if x<y then f' else f
def bz(f f':Bool)(x y:Nat):Nat:=if f=f' then x+y else if x<y then y-x else x-y
theorem yc{c:Nat}{f f':Bool}{a b a' b':Option Addr}{n ca m cb n' ca' m' cb':Nat}{w:World}(B:dG w c (.bool f) (.slice a n ca) (.slice b m cb) (.n))(hne:f≠f'):
 Cl 147 #[.p c 0,.agg #[.bool f',.slice a' n' ca',.slice b' m' cb',.n]] w fun e w'=>e=.returned (.i (if f then-1 else 1))/\w.S w':=by
 have sA:=bJ w (.cells #[.bool f',.slice a' n' ca',.slice b' m' cb',.n] 182);have BA:=B.aA sA;have gA:=dG.new w (.bool f') (.slice a' n' ca') (.slice b' m' cb') (.n) 182;have k0:=BA.c0;have g0:=gA.c0;cases f<;>cases f'
 . exact absurd rfl hne
 . go_enter Tryz.func147,Tryz.ntmps147
   go_wp2
   go_quiet (fail)
   go_wp2;go_ret;exact⟨rfl,⟨sA.os,sA.tape,sA.output,sA.size,sA.block⟩⟩
 . go_enter Tryz.func147,Tryz.ntmps147
   go_wp2
   go_quiet (fail)
   go_wp2;go_ret;exact⟨rfl,⟨sA.os,sA.tape,sA.output,sA.size,sA.block⟩⟩
 . exact absurd rfl hne
theorem yd{c:Nat}{f:Bool}{a b a' b':Option Addr}{ba oa n ca bb ob m cb ba' oa' n' ca' bb' ob' m' cb':Nat}{X Y X' Y':Nat->Nat}{w:World}(hn:n+n'+m+m'<=16777216)
 (hX:ag w a ba oa n X)(hY:ag w b bb ob m Y)(hX':ag w a' ba' oa' n' X')(hY':ag w b' bb' ob' m' Y')(hXl:∀j,j<n->X j<4294967296)(hYl:∀j,j<m->Y j<4294967296)(hXl':∀j,j<n'->X' j<4294967296)(hYl':∀j,j<m'->Y' j<4294967296)
 (B:dG w c (.bool f) (.slice a n ca) (.slice b m cb) (.n)):
 Cl 147 #[.p c 0,.agg #[.bool f,.slice a' n' ca',.slice b' m' cb',.n]] w fun e w'=>e=.returned (.i (if f then fd (lv X' n'*lv Y m) (lv X n*lv Y' m') else fd (lv X n*lv Y' m') (lv X' n'*lv Y m)))/\w.S w':=by
 have sA:=bJ w (.cells #[.bool f,.slice a' n' ca',.slice b' m' cb',.n] 182);have BA:=B.aA sA;have gA:=dG.new w (.bool f) (.slice a' n' ca') (.slice b' m' cb') (.n) 182;have hcl:=B.lt;have zA:(w.alloc (.cells #[.bool f,.slice a' n' ca',.slice b' m' cb',.n] 182)).heap.size=w.heap.size+1:=by simp
 have k0:=BA.c0;have k1:=BA.c1;have g0:=gA.c0;have g1:=gA.c1;go_enter Tryz.func147,Tryz.ntmps147;go_wp2
 go_quiet (fail)
 go_wp2;have S1:w.S ((w.alloc (.cells #[.bool f,.slice a' n' ca',.slice b' m' cb',.n] 182)).drewN nq):=⟨sA.os,sA.tape,sA.output,sA.size,sA.block⟩;have B1:dG ((w.alloc (.cells #[.bool f,.slice a' n' ca',.slice b' m' cb',.n] 182)).drewN nq) c (.bool f) (.slice a n ca) (.slice b m cb) (.n):=⟨BA.c0,BA.c1,BA.c2,BA.c3,BA.f⟩;have G1:dG ((w.alloc (.cells #[.bool f,.slice a' n' ca',.slice b' m' cb',.n] 182)).drewN nq) w.heap.size (.bool f) (.slice a' n' ca') (.slice b' m' cb') (.n):=⟨gA.c0,gA.c1,gA.c2,gA.c3,gA.f⟩;have zl:w.heap.size+1<=((w.alloc (.cells #[.bool f,.slice a' n' ca',.slice b' m' cb',.n] 182)).drewN nq).heap.size:=Nat.le_of_eq zA.symm;clear sA BA gA zA k0 k1 g0 g1;generalize (w.alloc _).drewN nq=w1 at*;have n1:w1.heap.size≠c:=om
 have n2:w1.heap.size≠w.heap.size:=om
 have n3:w1.heap.size+1≠c:=om
 have n4:w1.heap.size+1≠w.heap.size:=om
 have kk:=And.intro B1.c1 G1.c1;have tZ:(w1.drew.alloc (.cells #[.n] 98)).Since (w1.drew.alloc (.cells #[.n] 98)).heap.size ((w1.drew.alloc (.cells #[.n] 98)).alloc (.cells #[.n] 98)):=bJ _ _;have a1:((w1.drew.alloc (.cells #[.n] 98)).alloc (.cells #[.n] 98)).cell? (jj w1.heap.size 0)=some (.n):=by rw[tZ.cell (a:=jj w1.heap.size 0) (by show w1.drew.heap.size<_;simp)];exact World.cell?_alloc_new w1.drew _ _ 0
 clear tZ
 go_region_held3 (fun w'=>w'.cell? (jj c 1)=some (.slice a n ca)/\w'.cell? (jj w.heap.size 1)=some (.slice a' n' ca')) (go_keep) (fail)
 all_goals
  first
  | (with_reducible show Exit.then _ _ Exit.normal _ ((w1.alloc (.cells #[.slice a n ca] 98)).alloc (.cells #[.slice a' n' ca'] 98)).drew
     have tV:=bJ w1 (.cells #[.slice a n ca] 98);have tW:(w1.alloc (.cells #[.slice a n ca] 98)).Since (w1.alloc (.cells #[.slice a n ca] 98)).heap.size ((w1.alloc (.cells #[.slice a n ca] 98)).alloc (.cells #[.slice a' n' ca'] 98)):=bJ _ _;have tt:w1.S ((w1.alloc (.cells #[.slice a n ca] 98)).alloc (.cells #[.slice a' n' ca'] 98)).drew:=ao (tV.tr tW);have zV:(w1.alloc (.cells #[.slice a n ca] 98)).heap.size=w1.heap.size+1:=by simp
     have zW:((w1.alloc (.cells #[.slice a n ca] 98)).alloc (.cells #[.slice a' n' ca'] 98)).drew.heap.size=w1.heap.size+2:=by show ((w1.alloc (.cells #[.slice a n ca] 98)).alloc (.cells #[.slice a' n' ca'] 98)).heap.size=_;simp
     have ql:((w1.alloc (.cells #[.slice a n ca] 98)).alloc (.cells #[.slice a' n' ca'] 98)).drew.cell? (jj w1.heap.size 0)=some (.slice a n ca):=(tW.cell (a:=jj w1.heap.size 0) (by show w1.heap.size<_;omega)).trans (World.cell?_alloc_new w1 _ _ 0);have fl:((w1.alloc (.cells #[.slice a n ca] 98)).alloc (.cells #[.slice a' n' ca'] 98)).drew.frozen? (jj w1.heap.size 0)=false:=(tW.frozen (a:=jj w1.heap.size 0) (by show w1.heap.size<_;omega)).trans qz;have qr:((w1.alloc (.cells #[.slice a n ca] 98)).alloc (.cells #[.slice a' n' ca'] 98)).drew.cell? (jj (w1.heap.size+1) 0)=some (.slice a' n' ca'):=by have:=World.cell?_alloc_new (w1.alloc (.cells #[.slice a n ca] 98)) #[.slice a' n' ca'] 98 0;rw[zV] at this;exact this
     have fr:((w1.alloc (.cells #[.slice a n ca] 98)).alloc (.cells #[.slice a' n' ca'] 98)).drew.frozen? (jj (w1.heap.size+1) 0)=false:=by have h9:((w1.alloc (.cells #[.slice a n ca] 98)).alloc (.cells #[.slice a' n' ca'] 98)).frozen? ⟨(w1.alloc (.cells #[.slice a n ca] 98)).heap.size,0,none⟩=false:=qz;rw[zV] at h9;exact h9
     have S2:=S1.tr tt;have B2:=B1.aA tt;have G2:=G1.aA tt;obtain⟨L,hL⟩:∃L,L=w1.heap.size:=⟨_,rfl⟩;obtain⟨R,hR⟩:∃R,R=w1.heap.size+1:=⟨_,rfl⟩;have hLR:L≠R/\w.heap.size<L/\w.heap.size<R/\L<((w1.alloc (.cells #[.slice a n ca] 98)).alloc (.cells #[.slice a' n' ca'] 98)).drew.heap.size/\R<((w1.alloc (.cells #[.slice a n ca] 98)).alloc (.cells #[.slice a' n' ca'] 98)).drew.heap.size:=om
     rw[<-hR,<-hL];rw[<-hL] at ql fl;rw[<-hR] at qr fr;clear tV tW tt zV zW;generalize ((w1.alloc (.cells #[.slice a n ca] 98)).alloc (.cells #[.slice a' n' ca'] 98)).drew=w2 at*)
  | (with_reducible show Exit.then _ _ Exit.normal _ ((w1.alloc (.cells #[.slice a' n' ca'] 98)).alloc (.cells #[.slice a n ca] 98)).drew
     have tV:=bJ w1 (.cells #[.slice a' n' ca'] 98);have tW:(w1.alloc (.cells #[.slice a' n' ca'] 98)).Since (w1.alloc (.cells #[.slice a' n' ca'] 98)).heap.size ((w1.alloc (.cells #[.slice a' n' ca'] 98)).alloc (.cells #[.slice a n ca] 98)):=bJ _ _;have tt:w1.S ((w1.alloc (.cells #[.slice a' n' ca'] 98)).alloc (.cells #[.slice a n ca] 98)).drew:=ao (tV.tr tW);have zV:(w1.alloc (.cells #[.slice a' n' ca'] 98)).heap.size=w1.heap.size+1:=by simp
     have zW:((w1.alloc (.cells #[.slice a' n' ca'] 98)).alloc (.cells #[.slice a n ca] 98)).drew.heap.size=w1.heap.size+2:=by show ((w1.alloc (.cells #[.slice a' n' ca'] 98)).alloc (.cells #[.slice a n ca] 98)).heap.size=_;simp
     have qr:((w1.alloc (.cells #[.slice a' n' ca'] 98)).alloc (.cells #[.slice a n ca] 98)).drew.cell? (jj w1.heap.size 0)=some (.slice a' n' ca'):=(tW.cell (a:=jj w1.heap.size 0) (by show w1.heap.size<_;omega)).trans (World.cell?_alloc_new w1 _ _ 0);have fr:((w1.alloc (.cells #[.slice a' n' ca'] 98)).alloc (.cells #[.slice a n ca] 98)).drew.frozen? (jj w1.heap.size 0)=false:=(tW.frozen (a:=jj w1.heap.size 0) (by show w1.heap.size<_;omega)).trans qz;have ql:((w1.alloc (.cells #[.slice a' n' ca'] 98)).alloc (.cells #[.slice a n ca] 98)).drew.cell? (jj (w1.heap.size+1) 0)=some (.slice a n ca):=by have:=World.cell?_alloc_new (w1.alloc (.cells #[.slice a' n' ca'] 98)) #[.slice a n ca] 98 0;rw[zV] at this;exact this
     have fl:((w1.alloc (.cells #[.slice a' n' ca'] 98)).alloc (.cells #[.slice a n ca] 98)).drew.frozen? (jj (w1.heap.size+1) 0)=false:=by have h9:((w1.alloc (.cells #[.slice a' n' ca'] 98)).alloc (.cells #[.slice a n ca] 98)).frozen? ⟨(w1.alloc (.cells #[.slice a' n' ca'] 98)).heap.size,0,none⟩=false:=qz;rw[zV] at h9;exact h9
     have S2:=S1.tr tt;have B2:=B1.aA tt;have G2:=G1.aA tt;obtain⟨L,hL⟩:∃L,L=w1.heap.size+1:=⟨_,rfl⟩;obtain⟨R,hR⟩:∃R,R=w1.heap.size:=⟨_,rfl⟩;have hLR:L≠R/\w.heap.size<L/\w.heap.size<R/\L<((w1.alloc (.cells #[.slice a' n' ca'] 98)).alloc (.cells #[.slice a n ca] 98)).drew.heap.size/\R<((w1.alloc (.cells #[.slice a' n' ca'] 98)).alloc (.cells #[.slice a n ca] 98)).drew.heap.size:=om
     rw[<-hL,<-hR];rw[<-hL] at ql fl;rw[<-hR] at qr fr;clear tV tW tt zV zW;generalize ((w1.alloc (.cells #[.slice a' n' ca'] 98)).alloc (.cells #[.slice a n ca] 98)).drew=w2 at*)
 all_goals
  obtain⟨hLR,hwL,hwR,hL2,hR2⟩:=hLR;clear hL hR a1 n1 n2 n3 n4 kk zl S1 B1 G1;have k2:=G2.c2;go_wp2_with fail;refine (@ae5 L a b' ba oa n ca bb' ob' m' cb' X Y' w2 om om (hX.aA S2) (hY'.aA S2) hXl hYl' ql fl).mono ?_;rintro e w3 ⟨rfl,P,q3,f3,r3,hP,eP,O3,z3⟩;have O03:cu w.heap.size w w3:=(cu.aC _ S2).up O3 om;have S3:w.S w3:=O03.since (Nat.le_refl _);have B3:=B2.aI O3 om;have q4:w3.cell? (jj R 0)=some (.slice a' n' ca'):=(O3.cell (a:=jj R 0) hR2 (Ne.symm hLR)).trans qr;have f4:w3.frozen? (jj R 0)=false:=(O3.frozen (a:=jj R 0) hR2 (Ne.symm hLR)).trans fr;clear k2 G2 ql fl qr fr O03;have k2:=B3.c2;go_wp2_with fail;refine (@ae5 R a' b ba' oa' n' ca' bb ob m cb X' Y w3 om om (hX'.aA S3) (hY.aA S3) hXl' hYl q4 f4).mono ?_;rintro e w4 ⟨rfl,Q,q5,f5,r5,hQ,eQ,O4,z4⟩;have hs3:=O3.size;have O04:cu w.heap.size w w4:=(cu.aC _ S3).up O4 om;have S4:w.S w4:=O04.since (Nat.le_refl _);have B4:=B3.aI O4 om;have q6:w4.cell? (jj L 0)=_:=(O4.cell (a:=jj L 0) (show L<_ by omega) hLR).trans q3;have r6:=afQ r3 O4 om;clear k2 B3 q3 f3 q4 f4 r3 O04 B2 O3 O4;have k0:=B4.c0;have tP:=co (nz P) (n+m');have tQ:=co (nz Q) (n'+m);have LP:=(dT r6).take tP;have LQ:=(dT r5).take tQ;have JA:=@iv R 0 (jp w3.heap.size 0) (jp w2.heap.size 0) w3.heap.size 0 (ce (nz Q) (n'+m)) (n'+m) w2.heap.size 0 (ce (nz P) (n+m')) (n+m') Q P w4 om om q5 LQ LP (fun j _=>hQ j) (fun j _=>hP j) tz tz;have JB:=@iv L 0 (jp w2.heap.size 0) (jp w3.heap.size 0) w2.heap.size 0 (ce (nz P) (n+m')) (n+m') w3.heap.size 0 (ce (nz Q) (n'+m)) (n'+m) P Q w4 om om q6 LP LQ (fun j _=>hP j) (fun j _=>hQ j) tz tz;rw[dP,dP,eP,eQ] at JA JB;clear r5 r6 LP LQ hP hQ eP eQ tP tQ;cases f
  . go_wp2_with fail
    refine JB.mono ?_;rintro e w5 ⟨rfl,s5⟩;go_wp2;go_ret;exact⟨rfl,S4.tr (s5.since w4.heap.size)⟩
  . go_wp2_with fail
    refine JA.mono ?_;rintro e w5 ⟨rfl,s5⟩;go_wp2;go_ret;exact⟨rfl,S4.tr (s5.since w4.heap.size)⟩
theorem mI{a:Option Addr}{lo b off n cap:Nat}{R:Nat->br}{w:World}(hn:n<=16777216)(hs:mj R n<=16777216)(H:fw w lo a b off n R):
 Cl 14 #[.slice a n cap] w fun e w'=>∃r:Bool,e=.returned (.bool r)/\(r=true↔gD R n)/\w.S w':=by
 go_enter Tryz.func14,Tryz.ntmps14;go_wp2
 go_loopw [3] (fun i wr=>∃k:Nat,k<=n/\i=.i k/\w.S wr/\gD R k) (fun i _=>n-(intOf i).toNat)
 case atStart=>exact⟨0,Nat.zero_le _,rfl,eg _ _,fun i hi=>absurd hi om⟩
 case round=>
  obtain⟨k,hk,rfl,s,O⟩:=hrel
  by_cases hlt:k<n
  . obtain⟨rfl,a1,a2,k1,k2,M⟩:=H k hlt
    have M':=M.aA s;obtain⟨g0,g1,g2⟩:=M'.g;have hz:(k:Int)<n:=om
    have hsz:=gY (R:=R) hlt;obtain⟨ba,oa,-,LX⟩:=M'.L.LX;obtain⟨bb,ob,-,LY⟩:=M'.L.LY;have J1:=@vA (R k).neg a1 a2 ba oa (R k).n k1 bb ob (R k).m k2 (R k).X (R k).Y wr om om LX LY M.L.lX M.L.lY;rw[show bM (R k).neg (R k).X (R k).n (R k).Y (R k).m=(R k).ok from rfl] at J1;cases hok:(R k).ok
    . have HK:=ae hok
      rw[hok] at J1;go_wp2_with fail;refine J1.mono ?_;rintro e w2 ⟨rfl,s2⟩;go_wp2;go_ret;refine⟨false,rfl,⟨(fun h=>by cases h),fun h=> ?_⟩,s.tr s2⟩;have:=h k hlt;rw[HK.out] at this;cases this
    . have HK:=ae hok
      rw[hok] at J1;go_wp2_with fail;refine J1.mono ?_;rintro e w2 ⟨rfl,s2⟩;go_wp2;go_roundw
      case rel=>
       refine⟨k+1,om,by go_num,s.tr s2,fun i hi=> ?_⟩
       by_cases e:i=k
       . subst e;exact HK.out
       . exact O i om
      case measure=>simp[intOf];omega
  . have e:k=n:=om
    subst e;go_wp2;go_ret;exact⟨true,rfl,⟨fun _=>O,fun _=>rfl⟩,s⟩
theorem rI.keepN{w w':World}(_h:rI w)(_hw:0<=w.heap.size)(_s:w.S w'):rI w':=trivial
theorem lG{a:Option Addr}{lo b off n cap:Nat}{R:Nat->br}{w:World}(hw:0<=w.heap.size)(hT:rI w)(hn:n<=16777216)(hs:mj R n<=16777216)(H:fw w lo a b off n R):
 Cl 145 #[.slice a n cap] w fun e w'=>∃r:Bool,e=.returned (.bool r)/\(r=true↔gD R n)/\w.S w':=by
 go_enter Tryz.func145,Tryz.ntmps145;go_wp2
 go_loopw [7] (fun i wr=>∃k:Nat,k<=n/\i=.i k/\w.S wr/\gD R k) (fun i _=>n-(intOf i).toNat)
 case atStart=>exact⟨0,Nat.zero_le _,rfl,eg _ _,fun i hi=>absurd hi om⟩
 case round=>
  obtain⟨k,hk,rfl,s,O⟩:=hrel
  by_cases hlt:k<n
  . obtain⟨rfl,a1,a2,k1,k2,M⟩:=H k hlt
    have M':=M.aA s;obtain⟨g0,g1,g2⟩:=M'.g;have hz:(k:Int)<n:=om
    have hsz:=gY (R:=R) hlt;have sA:w.S (wr.alloc (.cells #[.bool (R k).neg,.slice a1 (R k).n k1,.slice a2 (R k).m k2] 44)):=s.alloc s.size _;obtain⟨ba,oa,-,LX⟩:=(M.L.aA sA).LX;obtain⟨bb,ob,-,LY⟩:=(M.L.aA sA).LY;have J1:=@vS (R k).neg a1 a2 ba oa (R k).n k1 bb ob (R k).m k2 (R k).X (R k).Y _ (Nat.zero_le _) om om M.L.nc M.L.mc M.L.ac M.L.bc LX LY M.L.lX M.L.lY (hT.keepN hw sA);rw[show bM (R k).neg (R k).X (R k).n (R k).Y (R k).m=(R k).ok from rfl] at J1;cases hok:(R k).ok
    . have HK:=ae hok
      rw[hok] at J1;go_wp2_with fail;refine J1.mono ?_;rintro e w2 ⟨rfl,s2⟩;go_wp2;go_ret;refine⟨false,rfl,⟨(fun h=>by cases h),fun h=> ?_⟩,sA.tr s2⟩;have:=h k hlt;rw[HK.out] at this;cases this
    . have HK:=ae hok
      rw[hok] at J1;go_wp2_with fail;refine J1.mono ?_;rintro e w2 ⟨rfl,s2⟩;go_wp2;go_roundw
      case rel=>
       refine⟨k+1,om,by go_num,sA.tr s2,fun i hi=> ?_⟩
       by_cases e:i=k
       . subst e;exact HK.out
       . exact O i om
      case measure=>simp[intOf];omega
  . have e:k=n:=om
    subst e;go_wp2;go_ret;exact⟨true,rfl,⟨fun _=>O,fun _=>rfl⟩,s⟩
def Code(w:World)(a:Option Addr)(b off n:Nat)(X:Nat->Nat):Prop:=∀j,j<n->X j<256/\a=some ⟨b,off,none⟩/\w.cell? ⟨b,off+j,none⟩=some (.int .u8 (X j))
structure Rd(w:World)(c:Nat)(a:Option Addr)(b off n cap:Nat)(X:Nat->Nat):Prop where
 c0:w.cell? ⟨c,0,none⟩=some (.slice a n cap)
 c1:∃p:Nat,p<=n/\w.cell? ⟨c,1,none⟩=some (.int .i64 p)
 f:∀k,w.frozen? ⟨c,k,none⟩=false
 code:Code w a b off n X
 ne:0<n->b≠c
theorem Code.lt{w:World}{a:Option Addr}{b off n:Nat}{X:Nat->Nat}(h:Code w a b off n X)(h0:0<n):b<w.heap.size:=gz _ _ (h 0 h0).2.2
theorem Code.aI{w w':World}{a:Option Addr}{b off n c:Nat}{X:Nat->Nat}(h:Code w a b off n X)(s:cu c w w')(hne:0<n->b≠c):Code w' a b off n X:=
 fun j hj=>⟨(h j hj).1,(h j hj).2.1,(s.cell (a:=jj b (off+j)) (h.lt om) (hne om)).trans (h j hj).2.2⟩
theorem Code.aA{w w':World}{a:Option Addr}{b off n:Nat}{X:Nat->Nat}(h:Code w a b off n X)(s:w.S w'):Code w' a b off n X:=
 fun j hj=>⟨(h j hj).1,(h j hj).2.1,(s.cell (a:=jj b (off+j)) (h.lt om)).trans (h j hj).2.2⟩
theorem Rd.lt{w:World}{c:Nat}{a:Option Addr}{b off n cap:Nat}{X:Nat->Nat}(h:Rd w c a b off n cap X):c<w.heap.size:=gz _ _ h.c0
theorem Rd.aA{w w':World}{c:Nat}{a:Option Addr}{b off n cap:Nat}{X:Nat->Nat}(h:Rd w c a b off n cap X)(s:w.S w'):Rd w' c a b off n cap X:=by
 obtain⟨p,hp,h1⟩:=h.c1;exact⟨(s.cell (a:=jj c 0) h.lt).trans h.c0,⟨p,hp,(s.cell (a:=jj c 1) h.lt).trans h1⟩,fun k=>(s.frozen (a:=jj c k) h.lt).trans (h.f k),h.code.aA s,h.ne⟩
theorem cu.bG{w w':World}(c:Nat)(s:Same w w'):cu c w w':=cu.aC c (s.since _)
theorem Rd.step{w w1:World}{c:Nat}{a:Option Addr}{b off n cap p:Nat}{X:Nat->Nat}(h:Rd w c a b off n cap X)(hp:p<n)(k1:w.cell? (jj c 1)=some (.i p))(s:Same w w1):
 Rd (w1.setCell ⟨c,1,none⟩ (.i ((p:Int)+1))) c a b off n cap X/\cu c w (w1.setCell ⟨c,1,none⟩ (.i ((p:Int)+1))):=by
 have M:=(af.refl w1 c).setCell 1 (.i ((p:Int)+1));have O:=(cu.bG c s).trans (cu.aP M);refine⟨⟨?_,⟨p+1,hp, ?_⟩,fun k=> ?_,h.code.aI O h.ne,h.ne⟩,O⟩
 . rw[fJ,s.cell];exact h.c0
 . exact j6 _ _ _ (by rw[s.cell];exact k1)
 . rw[M.frozen,s.frozen];exact h.f k
end Go.Proofs.YtclgkofcooibfaaGreatDoor
