import Derived.Test.YtclgkofcooibfaaGreatDoorOwnP33
import Derived.Test.YtclgkofcooibfaaGreatDoorOwnP29
set_option maxHeartbeats 6400000
set_option maxRecDepth 100000
namespace Go.Proofs.YtclgkofcooibfaaGreatDoor
open Go.RowKit
structure dZ(w:World)(p:Nat->Prop)(r:br)(a b:Option Addr)(ca cb:Nat):Prop where
 nc:r.n<=ca
 mc:r.m<=cb
 ac:a=none->ca=0
 bc:b=none->cb=0
 LX:∃ba oa,(0<r.n->p ba)/\ag w a ba oa r.n r.X
 LY:∃bb ob,(0<r.m->p bb)/\ag w b bb ob r.m r.Y
 lX:∀j,j<r.n->r.X j<4294967296
 lY:∀j,j<r.m->r.Y j<4294967296
 n63:r.n<=9223372036854775807
 m63:r.m<=9223372036854775807
section
variable{w w' w1:World}{p p':Nat->Prop}{r:br}{a b:Option Addr}{ca cb lo k:Nat}{v v':Value}{R R':Nat->br}{xs:List Value}
theorem pP{n o c:Nat}{X:Nat->Nat}(L:ag w a c o n X)(h:0<n->w'.heap[c]?=w.heap[c]?):ag w' a c o n X:=
 fun j hj=>⟨(L j hj).1,(fa (w:=w) (a:=jj c (o+j)) (h om)).trans (L j hj).2⟩
theorem dZ.mv(h:dZ w p r a b ca cb)(hb:∀g,g<w.heap.size->p g->w'.heap[g]?=w.heap[g]?/\p' g):dZ w' p' r a b ca cb:=by
 obtain⟨ba,oa,l1,LX⟩:=h.LX;obtain⟨bb,ob,l2,LY⟩:=h.LY
 exact⟨h.nc,h.mc,h.ac,h.bc,⟨ba,oa,fun hn=>(hb ba (LX.lt hn) (l1 hn)).2,pP LX fun hn=>(hb ba (LX.lt hn) (l1 hn)).1⟩,
  ⟨bb,ob,fun hn=>(hb bb (LY.lt hn) (l2 hn)).2,pP LY fun hn=>(hb bb (LY.lt hn) (l2 hn)).1⟩,h.lX,h.lY,h.n63,h.m63⟩
theorem nu.rk(h:nu w lo r a b ca cb):dZ w (fun g=>lo<=g) r a b ca cb:=⟨h.nc,h.mc,h.ac,h.bc,h.LX,h.LY,h.lX,h.lY,h.n63,h.m63⟩
theorem dZ.l(h:dZ w p r a b ca cb):nu w 0 r a b ca cb:=by
 obtain⟨ba,oa,l1,LX⟩:=h.LX;obtain⟨bb,ob,l2,LY⟩:=h.LY;exact⟨h.nc,h.mc,h.ac,h.bc,⟨ba,oa,fun _=>Nat.zero_le _,LX⟩,⟨bb,ob,fun _=>Nat.zero_le _,LY⟩,h.lX,h.lY,h.n63,h.m63⟩
structure fP(w:World)(lo:Nat)(p:Nat->Prop)(v:Value)(k:Nat)(R:Nat->br)(xs:List Value):Prop where
 own:w.ownsRow lo 44 3 v k xs
 at_:∀i,i<k->∃a1 a2 k1 k2,xs[i*3]?=some (.bool (R i).neg)/\xs[i*3+1]?=some (.slice a1 (R i).n k1)/\xs[i*3+2]?=some (.slice a2 (R i).m k2)/\dZ w (fun g=>p g/\v.ownBlock≠some g) (R i) a1 a2 k1 k2
theorem fP.mv(h:fP w lo p v k R xs)(ho:∀g,v.ownBlock=some g->w'.heap[g]?=w.heap[g]?)(hb:∀g,g<w.heap.size->p g->w'.heap[g]?=w.heap[g]?/\p' g):fP w' lo p' v k R xs:=by
 refine⟨?_,fun i hi=> ?_⟩
 . obtain⟨hl,h1 | ⟨g,cap,cur,rfl,hb',hh,hr⟩⟩:=h.own
   . exact⟨hl,Or.inl h1⟩
   . exact⟨hl,Or.inr ⟨g,cap,cur,rfl,hb',(ho g (by simp[Value.ownBlock])).trans hh,hr⟩⟩
 . obtain⟨a1,a2,k1,k2,h1,h2,h3,h4⟩:=h.at_ i hi
   exact⟨a1,a2,k1,k2,h1,h2,h3,h4.mv fun g hg hp=>⟨(hb g hg hp.1).1,(hb g hg hp.1).2,hp.2⟩⟩
theorem fP.aA(h:fP w lo p v k R xs)(s:w.S w'):fP w' lo p v k R xs:=
 h.mv (fun g hg=>s.block g (h.own.lt g hg).2) (fun g hg hp=>⟨s.block g hg,hp⟩)
theorem fP.aI{c:Nat}(h:fP w lo p v k R xs)(s:cu c w w')(hc:v.ownBlock≠some c)(hp:∀g,p g->g≠c):fP w' lo p v k R xs:=
 h.mv (fun g hg=>s.block g (h.own.lt g hg).2 (fun e=>hc (e▸hg))) (fun g hg hp'=>⟨s.block g hg (hp g hp'),hp'⟩)
theorem fP.congr(h:fP w lo p v k R xs)(hR:∀i,i<k->R i=R' i):fP w lo p v k R' xs:=
 ⟨h.own,fun i hi=>by rw[<-hR i hi];exact h.at_ i hi⟩
theorem fP.snoc{a1 a2:Option Addr}{k1 k2:Nat}(h:fP w lo p v k R xs)(s1:w.S w1)(hs:w.heap.size<w1.heap.size)(g:w1.grownBy w' v.ownBlock)(own:w'.ownsRow lo 44 3 v' (k+1) (xs++[.bool (R k).neg,.slice a1 (R k).n k1,.slice a2 (R k).m k2]))
 (hat:v'.ownBlock=v.ownBlock∨v'.ownBlock=some w1.heap.size)(r:dZ w (fun q=>p q/\v.ownBlock≠some q) (R k) a1 a2 k1 k2):fP w' lo p v' (k+1) R (xs++[.bool (R k).neg,.slice a1 (R k).n k1,.slice a2 (R k).m k2]):=by
 have hl:=h.own.1
 have mv:∀ {r:br} {a b:Option Addr} {ca cb:Nat},dZ w (fun q=>p q/\v.ownBlock≠some q) r a b ca cb->dZ w' (fun q=>p q/\v'.ownBlock≠some q) r a b ca cb:=fun r=>r.mv fun q hq hp=>
  ⟨(g.block q om (fun e=>hp.2 e.symm)).trans (s1.block q hq),hp.1,fun e=>by
    rcases hat with h | h
    . exact hp.2 (h.symm.trans e)
    . rw[e] at h;simp at h;omega⟩
 refine⟨own,fun i hi=> ?_⟩
 by_cases e:i=k
 . subst e
   refine⟨a1,a2,k1,k2, ?_, ?_, ?_,mv r⟩
   . rw[List.getElem?_append_right om,hl];simp
   . rw[List.getElem?_append_right om,hl];simp
   . rw[List.getElem?_append_right om,hl];simp
 . obtain⟨b1,b2,l1,l2,h1,h2,h3,h4⟩:=h.at_ i om
   exact⟨b1,b2,l1,l2,by rw[List.getElem?_append_left om];exact h1,by rw[List.getElem?_append_left om];exact h2,by rw[List.getElem?_append_left om];exact h3,mv h4⟩
end
section
variable{w w':World}{p:Nat->Prop}{q:Rat}{v:Value}
theorem dM.kq{B M:Nat}(h:dM w v (qn q) q.num.natAbs q.den B M)(hM:M<=9223372036854775807):∃a1 a2 k1 k2,v=.agg #[.bool (rd q).neg,.slice a1 (rd q).n k1,.slice a2 (rd q).m k2]/\dZ w (fun g=>B<=g) (rd q) a1 a2 k1 k2:=by
 obtain⟨a1,a2,k1,k2,e,L,-,-⟩:=h.can hM;exact⟨a1,a2,k1,k2,e,L.rk⟩
theorem dZ.rr{a b:Option Addr}{ca cb:Nat}(h:dZ w p (rd q) a b ca cb):yD w (.agg #[.bool (rd q).neg,.slice a (rd q).n ca,.slice b (rd q).m cb]) q:=by
 obtain⟨ba,oa,-,LX⟩:=h.LX;obtain⟨bb,ob,-,LY⟩:=h.LY;refine⟨a,_,ca,b,_,cb,ba,oa,bb,ob,_,_,rfl,⟨h.nc,h.mc,h.ac,h.bc,LX,LY,h.lX,h.lY,(gh _).2.1,(gh _).2.1, ?_⟩,(gh _).2.2,(gh _).2.2⟩
 show 0<(iE q.den).1
 rcases Nat.eq_zero_or_pos (iE q.den).1 with e | e
 . have h2:=(gh q.den).2.2
   rw[e] at h2;exact absurd h2.symm q.den_nz
 . exact e
end
def rq(X:Nat->Nat)(n p:Nat):Rat:=tq (rt X n p).1
def rP(X:Nat->Nat)(n p:Nat):Nat:=(rt X n p).2
theorem Rp.hX{w:World}{c:Nat}{a:Option Addr}{b off n cap:Nat}{X:Nat->Nat}{p:Nat}(h:Rp w c a b off n cap X p):∀j,j<n->X j<256:=fun j hj=>(h.R.code j hj).1
theorem ael{c:Nat}{a:Option Addr}{b off n cap:Nat}{X:Nat->Nat}{p:Nat}{w:World}(hn:n<=16777216)(R:Rp w c a b off n cap X p):
 Cl 98 #[.p c 0] w fun e w'=>∃a1 a2 k1 k2,e=.returned (.agg #[.bool (rd (rq X n p)).neg,.slice a1 (rd (rq X n p)).n k1,.slice a2 (rd (rq X n p)).m k2])/\dZ w' (fun g=>w.heap.size<=g) (rd (rq X n p)) a1 a2 k1 k2/\Rp w' c a b off n cap X (rP X n p)/\cu c w w':=by
 refine (aiw hn R).mono ?_;rintro e w' ⟨v,rfl,RV,R',O⟩;rw[(kg R.hX p).1] at RV;obtain⟨a1,a2,k1,k2,rfl,K⟩:=dM.kq (q:=rq X n p) RV om;exact⟨a1,a2,k1,k2,rfl,K,R',O⟩
def jK(X:Nat->Nat)(n p:Nat):Nat->Nat
 | 0=>p
 | i+1=>rP X n (jK X n p i)
def nuQ(X:Nat->Nat)(n p i:Nat):Rat:=rq X n (jK X n p i)
def px(X:Nat->Nat)(n p i:Nat):br:=rd (nuQ X n p i)
theorem qZ{c:Nat}{a:Option Addr}{b off n cap:Nat}{X:Nat->Nat}{p N:Nat}{w:World}(hn:n<=16777216)(hN:N<=100000)(R:Rp w c a b off n cap X p):
 Cl 134 #[.p c 0,.i (N:Int)] w fun e w'=>∃g cp xs,e=.returned (.s g N cp)/\fP w' w.heap.size (fun q=>w.heap.size<=q) (.s g N cp) N (px X n p) xs/\Rp w' c a b off n cap X (jK X n p N)/\cu c w w':=by
 obtain⟨i0,hi,hz0,hz1,hz2⟩:=jY;have hcl:=R.R.lt;have sA:=bJ w (.cells #[] 44);have oA:(w.alloc (.cells #[] 44)).ownsRow w.heap.size 44 3 (.s w.heap.size 0 0) 0 []:=pv w #[] 0 (Nat.le_refl _) (Nat.zero_le _) rfl;go_enter Tryz.func134,Tryz.ntmps134;go_wp2_with fail
 go_loopw [5,6] (fun u i wr=>∃(k g cp:Nat) (xs:List Value),k<=N/\i=.i k/\u=.s g k cp/\Rp wr c a b off n cap X (jK X n p k)/\cu c w wr/\Hid (fP wr w.heap.size (fun q=>w.heap.size<=q) (.s g k cp) k (px X n p) xs)) (fun _ i _=>N-(intOf i).toNat)
 case atStart=>exact⟨0,w.heap.size,0,[],Nat.zero_le _,rfl,rfl,R.aA sA,cu.aC c sA,ae ⟨oA,fun i hi=>absurd hi om⟩⟩
 case round=>
  obtain⟨k,g,cp,xs,hk,rfl,rfl,R1,O1,O⟩:=hrel
  by_cases hlt:k<N
  . have hzk:(k:Int)<N:=om
    have JR:=ael hn R1;have HP:=ae (show rP X n (jK X n p k)=jK X n p (k+1) from rfl);obtain⟨r,hr⟩:∃r,rd (rq X n (jK X n p k))=r:=⟨_,rfl⟩;rw[hr] at JR;have HR:Hid (px X n p k=r):=ae hr;go_wp2_with fail;refine JR.mono ?_;rintro e w1 ⟨a1,a2,k1,k2,rfl,RK,R2,O2⟩;have RK:=ae RK;obtain⟨nb,q1,X1,q2,Y1⟩:=r;have z1:=O2.size;have z0:=O1.size;have lg:=O.out.own.lt g rfl;have L1:=O.out.aI O2 (fun e=>by simp[Value.ownBlock] at e;omega) (fun q hq=>by omega);have O3:=O1.trans O2
    go_wp2_with (at_builtin;refine wpList_append_own_at _ rfl _ _ 23 rfl w.heap.size 44 i0 _ 3 56 Tryz.underlying23 hi hz0 hz1 hz2 rfl qd _ _ _ rfl (L1.own.alloc _) (jj w1.heap.size 0) 1 1 [.bool nb,.slice a1 q1 k1,.slice a2 q2 k2] rfl rfl (rb _ _ _ _ _) (qY _ _ _ _ _ _ _) (by unfold maxLen;omega) om (by simp;omega) ?_)
    intro v' w2 hown' hgrow hnn hat;replace hgrow:(w1.alloc (.cells #[.bool nb,.slice a1 q1 k1,.slice a2 q2 k2] 44)).grownBy w2 (Value.s g k cp).ownBlock:=hgrow;obtain⟨g',capn,rfl,hg1,hg2⟩:=hown'.form om;have sW:=bJ w1 (.cells #[.bool nb,.slice a1 q1 k1,.slice a2 q2 k2] 44);have zW:(w1.alloc (.cells #[.bool nb,.slice a1 q1 k1,.slice a2 q2 k2] 44)).heap.size=w1.heap.size+1:=by simp
    have hlow:=fun q hq=>(L1.own.lt q hq).1
    have O4:=(O3.trans (cu.aC c sW)).grown hgrow hlow;have R4:=(R2.aA sW).grown hgrow (fun q e=>by have:=hlow q e;omega);rw[HP.out] at R4;have L2:=ae (L1.snoc (a1:=a1) (a2:=a2) (k1:=k1) (k2:=k2) sW om hgrow (by rw[HR.out];exact hown') (by rw[zW];exact hat) (by rw[HR.out];exact RK.out.mv fun q hq hp=>⟨rfl,om,fun e=>by simp[Value.ownBlock] at e;omega⟩));go_wp2;go_roundw
    case rel=>exact⟨k+1,g',capn,_,om,by go_num,rfl,R4,O4,L2⟩
    case measure=>simp[intOf];omega
  . have e:k=N:=om
    subst e;have hzk:¬((k:Int)<k):=om
    go_wp2;go_ret;exact⟨g,cp,rfl,⟨xs,O.out⟩,R1,O1⟩
theorem iC{z d0:Int}{w:World}(h1:-100000<=z)(h2:z<=100000)(hd:0<d0)(hd2:d0<=100000):
 Cl 92 #[.i z,.i d0] w fun e w'=>∃a1 a2 k1 k2,e=.returned (.agg #[.bool (rd (mkRat z d0.toNat)).neg,.slice a1 (rd (mkRat z d0.toNat)).n k1,.slice a2 (rd (mkRat z d0.toNat)).m k2])/\dZ w' (fun g=>w.heap.size<=g) (rd (mkRat z d0.toNat)) a1 a2 k1 k2/\w.S w':=by
 refine (pm h1 h2 hd hd2).mono ?_;rintro e w' ⟨v,rfl,RV,s⟩;rw[ac0 _ _ om] at RV;obtain⟨a1,a2,k1,k2,rfl,K⟩:=dM.kq (q:=mkRat z d0.toNat) RV om;exact⟨a1,a2,k1,k2,rfl,K,s⟩
def sdA(k:Nat):Rat×Rat:=
 if k % 6=0 then (mkRat (-1) 1,mkRat 1 1) else if k % 6=1 then (mkRat 0 1,mkRat 2 1) else if k % 6=2 then (mkRat 1 1,mkRat 3 1) else if k % 6=3 then (mkRat (-3) 2,mkRat (-1) 2)
 else (mkRat ((k:Int)/6 % 7-3) 1,mkRat ((k:Int)/6 % 7-3) 1)
def sd(X:Nat->Nat)(n p:Nat):(Rat×Rat)×Nat:=
 if nV X n p % 6=5 then ((rq X n (nP n p),rq X n (nP n p)+mkRat ((nV X n (rP X n (nP n p)):Int) % 9) (1+(nV X n p:Int)/6 % 3).toNat),nP n (rP X n (nP n p))) else (sdA (nV X n p),nP n p)
theorem dZ.marked{w w':World}{p:Nat->Prop}{r:br}{a b:Option Addr}{ca cb d:Nat}(h:dZ w p r a b ca cb)(M:af w w' d)(hd:∀g,p g->g≠d):dZ w' p r a b ca cb:=
 h.mv fun g _ hp=>⟨M.other g (hd g hp),hp⟩
theorem dZ.aA{w w':World}{p:Nat->Prop}{r:br}{a b:Option Addr}{ca cb:Nat}(h:dZ w p r a b ca cb)(s:w.S w'):dZ w' p r a b ca cb:=
 h.mv fun g hg hp=>⟨s.block g hg,hp⟩
theorem dZ.aI{w w':World}{p:Nat->Prop}{r:br}{a b:Option Addr}{ca cb d:Nat}(h:dZ w p r a b ca cb)(s:cu d w w')(hd:∀g,p g->g≠d):dZ w' p r a b ca cb:=
 h.mv fun g hg hp=>⟨s.block g hg (hd g hp),hp⟩
theorem dZ.imp{w:World}{p p':Nat->Prop}{r:br}{a b:Option Addr}{ca cb:Nat}(h:dZ w p r a b ca cb)(hp:∀g,g<w.heap.size->p g->p' g):dZ w p' r a b ca cb:=
 h.mv fun g hg h'=>⟨rfl,hp g hg h'⟩
theorem dZ.rq{w:World}{p:Nat->Prop}{q:Rat}{r:br}{a b:Option Addr}{ca cb:Nat}(e:rd q=r)(h:dZ w p r a b ca cb):yD w (.agg #[.bool r.neg,.slice a r.n ca,.slice b r.m cb]) q:=by
 subst e;exact h.rr
def yC(w:World)(B:Nat)(v:Value)(r:br):Prop:=∃a1 a2 k1 k2,v=.agg #[.bool r.neg,.slice a1 r.n k1,.slice a2 r.m k2]/\dZ w (fun g=>B<=g) r a1 a2 k1 k2
theorem ahz{c:Nat}{a:Option Addr}{b off n cap:Nat}{X:Nat->Nat}{p:Nat}{w:World}(hn:n<=16777216)(R:Rp w c a b off n cap X p):
 Cl 87 #[.p c 0] w fun e w'=>∃v u,e=.returned (.tuple #[v,u])/\yC w' w.heap.size v (rd (sd X n p).1.1)/\yC w' w.heap.size u (rd (sd X n p).1.2)/\Rp w' c a b off n cap X (sd X n p).2/\cu c w w':=by
 have hcl:=R.R.lt;obtain⟨wA,eA⟩:∃wA:World,wA=(w.alloc (.cells #[.bool false,.n,.n] 44)).alloc (.cells #[.bool false,.n,.n] 44):=⟨_,rfl⟩;have sA:w.S wA:=by rw[eA];exact (bJ _ _).alloc qz _
 have rA:bj wA w.heap.size (.bool false) (.n) (.n):=by rw[eA];exact (bj.new w _ _ _ _).aA (bJ _ _)
 have rB:bj wA (w.heap.size+1) (.bool false) (.n) (.n):=by
  rw[eA];have h:=bj.new (w.alloc (.cells #[.bool false,.n,.n] 44)) (.bool false) (.n) (.n) 44;rw[show (w.alloc (.cells #[.bool false,.n,.n] 44)).heap.size=w.heap.size+1 by simp] at h;exact h
 have RA:=R.aA sA;obtain⟨SD,hSD⟩:∃x,sd X n p=x:=⟨_,rfl⟩;rw[hSD];have HSD:=ae hSD;clear hSD;go_enter Tryz.func87,Tryz.ntmps87;go_wp2_with fail;rw[<-eA];clear eA;have zb:=rB.lt;refine (@cT c a b off n cap X p wA hn RA).mono ?_;rintro e w1 ⟨k,ek,rfl,hk,R1,O1⟩;have rA1:=rA.aI O1 om;have rB1:=rB.aI O1 om;have O01:=(cu.aC c sA).trans O1;have z1:=O1.size;have zA:=sA.size;have HE:=HSD.out;unfold sd at HE;rw[ek] at HE;have EK:=ae ek;clear RA O1 sA ek HSD rA rB;have hcase:k % 6=0∨k % 6=1∨k % 6=2∨k % 6=3∨k % 6=4∨k % 6=5:=om
 rcases hcase with x | x | x | x | x | x
 focus
  rw[if_neg om] at HE;unfold sdA at HE;rw[if_pos x] at HE;have g0:((k:Int) % 6==0)=true:=by simp;omega
  have J1:=@iC (-1) 1 w1 om om om om;obtain⟨r1,hr1⟩:∃r,rd (mkRat (-1) ((1:Int)).toNat)=r:=⟨_,rfl⟩;obtain⟨r2,hr2⟩:∃r,rd (mkRat 1 ((1:Int)).toNat)=r:=⟨_,rfl⟩;have H1:Hid (rd SD.1.1=r1):=ae (by rw[<-HE];exact hr1);have H2:Hid (rd SD.1.2=r2):=ae (by rw[<-HE];exact hr2);have H3:Hid (nP n p=SD.2):=ae (by rw[<-HE]);have J2:=fun wX=>@iC 1 1 wX om om om om
  rw[hr1] at J1;rw[hr2] at J2;have HJ2:=ae J2;clear hr1 hr2 HE x EK J2;go_wp2_with fail;refine J1.mono ?_;clear J1;rintro e w2 ⟨a1,a2,k1,k2,rfl,K1,s2⟩;obtain⟨f1,n1,X1,m1,Y1⟩:=r1;go_wp2_with fail;refine (HJ2.out w2).mono ?_;clear HJ2;rintro e w7 ⟨b1,b2,l1,l2,rfl,K2,s7⟩;obtain⟨f2,n2,X2,m2,Y2⟩:=r2;have z2:=s2.size;have z7:=s7.size;have rA7:=(rA1.aA s2).aA s7;have rB7:=(rB1.aA s2).aA s7;have R7:=(R1.aA s2).aA s7;rw[H3.out] at R7;have O07:=(O01.trans (cu.aC c s2)).trans (cu.aC c s7);have K17:=(K1.aA s7).imp (p':=fun g=>w.heap.size+1<g) (fun g _ h=>by omega);have K27:=K2.imp (p':=fun g=>w.heap.size+1<g) (fun g _ h=>by omega);clear rA1 rB1 R1 O01 K1 K2 s2 s7 H3
 rotate_left
 focus
  rw[if_neg om] at HE;unfold sdA at HE;rw[if_neg om,if_pos x] at HE;have g0:((k:Int) % 6==0)=false:=by simp;omega
  have g1:((k:Int) % 6==1)=true:=by simp;omega
  have J1:=@iC 0 1 w1 om om om om;obtain⟨r1,hr1⟩:∃r,rd (mkRat 0 ((1:Int)).toNat)=r:=⟨_,rfl⟩;obtain⟨r2,hr2⟩:∃r,rd (mkRat 2 ((1:Int)).toNat)=r:=⟨_,rfl⟩;have H1:Hid (rd SD.1.1=r1):=ae (by rw[<-HE];exact hr1);have H2:Hid (rd SD.1.2=r2):=ae (by rw[<-HE];exact hr2);have H3:Hid (nP n p=SD.2):=ae (by rw[<-HE]);have J2:=fun wX=>@iC 2 1 wX om om om om
  rw[hr1] at J1;rw[hr2] at J2;have HJ2:=ae J2;clear hr1 hr2 HE x EK J2;go_wp2_with fail;refine J1.mono ?_;clear J1;rintro e w2 ⟨a1,a2,k1,k2,rfl,K1,s2⟩;obtain⟨f1,n1,X1,m1,Y1⟩:=r1;go_wp2_with fail;refine (HJ2.out w2).mono ?_;clear HJ2;rintro e w7 ⟨b1,b2,l1,l2,rfl,K2,s7⟩;obtain⟨f2,n2,X2,m2,Y2⟩:=r2;have z2:=s2.size;have z7:=s7.size;have rA7:=(rA1.aA s2).aA s7;have rB7:=(rB1.aA s2).aA s7;have R7:=(R1.aA s2).aA s7;rw[H3.out] at R7;have O07:=(O01.trans (cu.aC c s2)).trans (cu.aC c s7);have K17:=(K1.aA s7).imp (p':=fun g=>w.heap.size+1<g) (fun g _ h=>by omega);have K27:=K2.imp (p':=fun g=>w.heap.size+1<g) (fun g _ h=>by omega);clear rA1 rB1 R1 O01 K1 K2 s2 s7 H3
 rotate_left
 focus
  rw[if_neg om] at HE;unfold sdA at HE;rw[if_neg om,if_neg om,if_pos x] at HE;have g0:((k:Int) % 6==0)=false:=by simp;omega
  have g1:((k:Int) % 6==1)=false:=by simp;omega
  have g2:((k:Int) % 6==2)=true:=by simp;omega
  have J1:=@iC 1 1 w1 om om om om;obtain⟨r1,hr1⟩:∃r,rd (mkRat 1 ((1:Int)).toNat)=r:=⟨_,rfl⟩;obtain⟨r2,hr2⟩:∃r,rd (mkRat 3 ((1:Int)).toNat)=r:=⟨_,rfl⟩;have H1:Hid (rd SD.1.1=r1):=ae (by rw[<-HE];exact hr1);have H2:Hid (rd SD.1.2=r2):=ae (by rw[<-HE];exact hr2);have H3:Hid (nP n p=SD.2):=ae (by rw[<-HE]);have J2:=fun wX=>@iC 3 1 wX om om om om
  rw[hr1] at J1;rw[hr2] at J2;have HJ2:=ae J2;clear hr1 hr2 HE x EK J2;go_wp2_with fail;refine J1.mono ?_;clear J1;rintro e w2 ⟨a1,a2,k1,k2,rfl,K1,s2⟩;obtain⟨f1,n1,X1,m1,Y1⟩:=r1;go_wp2_with fail;refine (HJ2.out w2).mono ?_;clear HJ2;rintro e w7 ⟨b1,b2,l1,l2,rfl,K2,s7⟩;obtain⟨f2,n2,X2,m2,Y2⟩:=r2;have z2:=s2.size;have z7:=s7.size;have rA7:=(rA1.aA s2).aA s7;have rB7:=(rB1.aA s2).aA s7;have R7:=(R1.aA s2).aA s7;rw[H3.out] at R7;have O07:=(O01.trans (cu.aC c s2)).trans (cu.aC c s7);have K17:=(K1.aA s7).imp (p':=fun g=>w.heap.size+1<g) (fun g _ h=>by omega);have K27:=K2.imp (p':=fun g=>w.heap.size+1<g) (fun g _ h=>by omega);clear rA1 rB1 R1 O01 K1 K2 s2 s7 H3
 rotate_left
 focus
  rw[if_neg om] at HE;unfold sdA at HE;rw[if_neg om,if_neg om,if_neg om,if_pos x] at HE;have g0:((k:Int) % 6==0)=false:=by simp;omega
  have g1:((k:Int) % 6==1)=false:=by simp;omega
  have g2:((k:Int) % 6==2)=false:=by simp;omega
  have g3:((k:Int) % 6==3)=true:=by simp;omega
  have J1:=@iC (-3) 2 w1 om om om om;obtain⟨r1,hr1⟩:∃r,rd (mkRat (-3) ((2:Int)).toNat)=r:=⟨_,rfl⟩;obtain⟨r2,hr2⟩:∃r,rd (mkRat (-1) ((2:Int)).toNat)=r:=⟨_,rfl⟩;have H1:Hid (rd SD.1.1=r1):=ae (by rw[<-HE];exact hr1);have H2:Hid (rd SD.1.2=r2):=ae (by rw[<-HE];exact hr2);have H3:Hid (nP n p=SD.2):=ae (by rw[<-HE]);have J2:=fun wX=>@iC (-1) 2 wX om om om om
  rw[hr1] at J1;rw[hr2] at J2;have HJ2:=ae J2;clear hr1 hr2 HE x EK J2;go_wp2_with fail;refine J1.mono ?_;clear J1;rintro e w2 ⟨a1,a2,k1,k2,rfl,K1,s2⟩;obtain⟨f1,n1,X1,m1,Y1⟩:=r1;go_wp2_with fail;refine (HJ2.out w2).mono ?_;clear HJ2;rintro e w7 ⟨b1,b2,l1,l2,rfl,K2,s7⟩;obtain⟨f2,n2,X2,m2,Y2⟩:=r2;have z2:=s2.size;have z7:=s7.size;have rA7:=(rA1.aA s2).aA s7;have rB7:=(rB1.aA s2).aA s7;have R7:=(R1.aA s2).aA s7;rw[H3.out] at R7;have O07:=(O01.trans (cu.aC c s2)).trans (cu.aC c s7);have K17:=(K1.aA s7).imp (p':=fun g=>w.heap.size+1<g) (fun g _ h=>by omega);have K27:=K2.imp (p':=fun g=>w.heap.size+1<g) (fun g _ h=>by omega);clear rA1 rB1 R1 O01 K1 K2 s2 s7 H3
 rotate_left
 focus
  rw[if_neg om] at HE;unfold sdA at HE;rw[if_neg om,if_neg om,if_neg om,if_neg om] at HE;have g0:((k:Int) % 6==0)=false:=by simp;omega
  have g1:((k:Int) % 6==1)=false:=by simp;omega
  have g2:((k:Int) % 6==2)=false:=by simp;omega
  have g3:((k:Int) % 6==3)=false:=by simp;omega
  have g4:((k:Int) % 6==4)=true:=by simp;omega
  have J1:=@iC ((k:Int)/6 % 7-3) 1 w1 om om om om;obtain⟨r1,hr1⟩:∃r,rd (mkRat ((k:Int)/6 % 7-3) ((1:Int)).toNat)=r:=⟨_,rfl⟩;obtain⟨r2,hr2⟩:∃r,rd (mkRat ((k:Int)/6 % 7-3) ((1:Int)).toNat)=r:=⟨_,rfl⟩;have H1:Hid (rd SD.1.1=r1):=ae (by rw[<-HE];exact hr1);have H2:Hid (rd SD.1.2=r2):=ae (by rw[<-HE];exact hr2);have H3:Hid (nP n p=SD.2):=ae (by rw[<-HE]);have J2:=fun wX=>@iC ((k:Int)/6 % 7-3) 1 wX om om om om
  rw[hr1] at J1;rw[hr2] at J2;have HJ2:=ae J2;clear hr1 hr2 HE x EK J2;go_wp2_with fail;refine J1.mono ?_;clear J1;rintro e w2 ⟨a1,a2,k1,k2,rfl,K1,s2⟩;obtain⟨f1,n1,X1,m1,Y1⟩:=r1;go_wp2_with fail;refine (HJ2.out w2).mono ?_;clear HJ2;rintro e w7 ⟨b1,b2,l1,l2,rfl,K2,s7⟩;obtain⟨f2,n2,X2,m2,Y2⟩:=r2;have z2:=s2.size;have z7:=s7.size;have rA7:=(rA1.aA s2).aA s7;have rB7:=(rB1.aA s2).aA s7;have R7:=(R1.aA s2).aA s7;rw[H3.out] at R7;have O07:=(O01.trans (cu.aC c s2)).trans (cu.aC c s7);have K17:=(K1.aA s7).imp (p':=fun g=>w.heap.size+1<g) (fun g _ h=>by omega);have K27:=K2.imp (p':=fun g=>w.heap.size+1<g) (fun g _ h=>by omega);clear rA1 rB1 R1 O01 K1 K2 s2 s7 H3
 rotate_left
 focus
  rw[if_pos x] at HE;have g0:((k:Int) % 6==0)=false:=by simp;omega
  have g1:((k:Int) % 6==1)=false:=by simp;omega
  have g2:((k:Int) % 6==2)=false:=by simp;omega
  have g3:((k:Int) % 6==3)=false:=by simp;omega
  have g4:((k:Int) % 6==4)=false:=by simp;omega
  have JR:=@ael c a b off n cap X _ w1 hn R1;have HQ:=ae (kg R1.hX (nP n p)).2;obtain⟨q,hq⟩:∃q,rq X n (nP n p)=q:=⟨_,rfl⟩;have hQ:Hid (Qb q 11):=ae (by rw[<-hq];exact HQ.out);obtain⟨p2,hp2⟩:∃q,rP X n (nP n p)=q:=⟨_,rfl⟩;rw[hq,hp2] at HE JR;have H0:=ae HE;obtain⟨r1,hr1⟩:∃r,rd q=r:=⟨_,rfl⟩;rw[hr1] at JR;have HR1:=ae hr1;clear HE x EK HQ hq hp2 hr1;go_wp2_with fail;refine JR.mono ?_;clear JR;rintro e w2 ⟨a1,a2,k1,k2,rfl,K1,R2,O2⟩;obtain⟨f1,n1,X1,m1,Y1⟩:=r1;have z2:=O2.size;have t3:=bJ w2 (.cells #[.bool f1,.slice a1 n1 k1,.slice a2 m1 k2] 44);have A3:=bj.new w2 (.bool f1) (.slice a1 n1 k1) (.slice a2 m1 k2) 44;have rA3:=(rA1.aI O2 om).aA t3;have rB3:=(rB1.aI O2 om).aA t3;have R3:=R2.aA t3;have K3:=(K1.aA t3).imp (p':=fun g=>w.heap.size+1<g) (fun g _ h=>by omega);have O03:=(O01.trans O2).trans (cu.aC c t3);have z3:=t3.size;have al:=A3.lt;clear rA1 rB1 R1 O01 R2 O2 K1 t3;go_wp2_with fail;generalize (w2.alloc _)=w3 at*;generalize hcc:w2.heap.size=cc at*;have kk:=A3.cells;have hne1:cc≠w.heap.size:=om
  have hne2:cc≠w.heap.size+1:=om
  have hne3:w.heap.size≠cc:=om
  have hne4:w.heap.size+1≠cc:=om
  have hne5:w.heap.size+1≠w.heap.size:=om
  have hne6:w.heap.size≠w.heap.size+1:=om
  have J1:=@cT c a b off n cap X p2 w3.drew hn (R3.aA (ao (eg _ _)));have wr1:IntKind.i64.wrap ((k:Int)/6)=(k:Int)/6:=wrap64 om om
  go_region_held3 (fun w'=>w'.cell? (jj cc 0)=some (.bool f1)/\w'.cell? (jj cc 1)=some (.slice a1 n1 k1)/\w'.cell? (jj cc 2)=some (.slice a2 m1 k2)) (go_keep)
   (first
     | (go_at_call 41
        with_reducible refine J1.mono ?_
        rintro e w4 ⟨k4,ek4,rfl,hk4,R4,O4⟩;have E4:=ae ek4;clear ek4;have O34:cu c w3 w4:=⟨O4.os,O4.tape,O4.output,O4.size,O4.block⟩;have A4:=A3.aI O34 om;have rA4:=rA3.aI O34 om;have rB4:=rB3.aI O34 om;have K4:=K3.aI O34 (fun g h=>by omega);have O04:=O03.trans O34;have z4:=O34.size;have kk:=A4.cells
        have J2:∀z d0,z=(k4:Int) % 9->d0=1+(k:Int)/6 % 3->Cl 92 #[.i z,.i d0] w4 fun e w'=>∃a1 a2 k1 k2,e=.returned (.agg #[.bool (rd (mkRat ((k4:Int) % 9) (1+(k:Int)/6 % 3).toNat)).neg,.slice a1 (rd (mkRat ((k4:Int) % 9) (1+(k:Int)/6 % 3).toNat)).n k1,.slice a2 (rd (mkRat ((k4:Int) % 9) (1+(k:Int)/6 % 3).toNat)).m k2])/\dZ w' (fun g=>w4.heap.size<=g) (rd (mkRat ((k4:Int) % 9) (1+(k:Int)/6 % 3).toNat)) a1 a2 k1 k2/\w4.S w':=fun z d0 h1 h2=>by
         subst h1 h2;exact @iC _ _ w4 om om om om)
     | (go_at_call 92
        with_reducible refine (J2 _ _ (by rw[Int.tmod_eq_emod_of_nonneg om]) (by rw[Int.tmod_eq_emod_of_nonneg om];exact wrap64 om om)).mono ?_;rintro e w5 ⟨b1,b2,l1,l2,rfl,K5,s5⟩;have A5:=A4.aA s5;have rA5:=rA4.aA s5;have rB5:=rB4.aA s5;have R5:=R4.aA s5;have K15:=K4.aA s5;have O05:=O04.trans (cu.aC c s5);have z5:=s5.size;have kk:=A5.cells;have J3:=acs (q:=mkRat ((k4:Int) % 9) (1+(k:Int)/6 % 3).toNat) hQ.out (pJ (k:=1) om om om) om (dZ.rq HR1.out K15) K5.rr)
     | (go_at_call 96
        with_reducible refine J3.mono ?_
        rintro e w7 ⟨u,rfl,RV,s7⟩
        obtain⟨r2,hr2,b1,b2,l1,l2,rfl,K7⟩:∃r2,rd (q+mkRat ((k4:Int) % 9) (1+(k:Int)/6 % 3).toNat)=r2/\∃b1 b2 l1 l2,u=.agg #[.bool r2.neg,.slice b1 r2.n l1,.slice b2 r2.m l2]/\dZ w7 (fun g=>w5.heap.size<=g) r2 b1 b2 l1 l2:=by
         obtain⟨b1,b2,l1,l2,e,K⟩:=dM.kq RV om;exact⟨_,rfl,b1,b2,l1,l2,e,K⟩
        obtain⟨f2,n2,X2,m2,Y2⟩:=r2;have kk:=(A5.aA s7).cells;have rA7:=rA5.aA s7;have rB7:=rB5.aA s7;have R7:=R5.aA s7;have z7:=s7.size;have O07:=O05.trans (cu.aC c s7);have K17:=K15.aA s7;have K27:=K7.imp (p':=fun g=>w.heap.size+1<g) (fun g _ h=>by omega);have H0':=H0.out;rw[E4.out] at H0';have H1:Hid (rd SD.1.1=br.mk f1 n1 X1 m1 Y1):=ae (by rw[<-H0'];exact HR1.out);have H2:Hid (rd SD.1.2=br.mk f2 n2 X2 m2 Y2):=ae (by rw[<-H0'];exact hr2);have H3:nP n p2=SD.2:=by rw[<-H0']
        rw[H3] at R7;clear hr2 H0' H3 K7 RV;obtain⟨u0,u1,u2⟩:=rA7.g;obtain⟨uf0,uf1,uf2⟩:=rA7.k;obtain⟨v0,v1,v2⟩:=rB7.g;obtain⟨vf0,vf1,vf2⟩:=rB7.k))
 rotate_left
 all_goals
  obtain⟨u0,u1,u2⟩:=rA7.g;obtain⟨uf0,uf1,uf2⟩:=rA7.k;obtain⟨v0,v1,v2⟩:=rB7.g;obtain⟨vf0,vf1,vf2⟩:=rB7.k;go_wp2;have rC:=((rA7.aE (.bool f1)).aG (.slice a1 n1 k1)).aF (.slice a2 m1 k2);have M1:af w7 _ w.heap.size:=(((af.refl w7 _).setCell 0 (.bool f1)).setCell 1 (.slice a1 n1 k1)).setCell 2 (.slice a2 m1 k2);have rD:=(((rB7.marked M1 om).aE (.bool f2)).aG (.slice b1 n2 l1)).aF (.slice b2 m2 l2);have M2:af _ _ (w.heap.size+1):=(((af.refl (((w7.setCell (jj w.heap.size 0) (.bool f1)).setCell (jj w.heap.size 1) (.slice a1 n1 k1)).setCell (jj w.heap.size 2) (.slice a2 m1 k2)) _).setCell 0 (.bool f2)).setCell 1 (.slice b1 n2 l1)).setCell 2 (.slice b2 m2 l2);have rC':=rC.marked M2 om;refine bodyPost_ret (xt rfl _ _ _ _ _ _ _ _ _ _ rfl rfl rC' rD) rfl ?_;rw[H1.out,H2.out];exact⟨_,_,rfl,⟨a1,a2,k1,k2,rfl,((K17.marked M1 (fun g h=>by omega)).marked M2 (fun g h=>by omega)).imp (fun g _ h=>by omega)⟩,⟨b1,b2,l1,l2,rfl,((K27.marked M1 (fun g h=>by omega)).marked M2 (fun g h=>by omega)).imp (fun g _ h=>by omega)⟩,(R7.marked M1 om).marked M2 om,jl (jl O07 M1 (Nat.le_refl _)) M2 om⟩
def sp(r:br)(k:Nat):br:=
 if k % 7=0 then ⟨r.neg,r.n+1,fX r.X r.n 0,r.m,r.Y⟩ else if k % 7=1 then ⟨r.neg,r.n,r.X,r.m+1,fX r.Y r.m 0⟩ else if k % 7=2 then ⟨r.neg,r.n,r.X,0,fun _=>0⟩ else if k % 7=3 then ⟨r.neg,r.n,r.X,1,fun _=>0⟩
 else if k % 7=4 then ⟨true,0,fun _=>0,1,fun _=>1⟩ else if k % 7=5 then mx r.neg (lv r.X r.n*(2+k/7)) (lv r.Y r.m*(2+k/7)) else ⟨false,0,fun _=>0,1,fun _=>2+k/7⟩
theorem wQ{w:World}{a:Option Addr}{g m N:Nat}{Y:Nat->Nat}(L:ag w a g 0 m Y)(h1:∀j,Y j<4294967296)(h2:0<m->Y (m-1)≠0)(h3:lv Y m=N):(iE N).1=m/\ag w a g 0 m (iE N).2/\∀j,j<m->(iE N).2 j<4294967296:=by
 obtain⟨e,f,-⟩:=qx (p:=(m,Y)) ⟨fun j _=>h1 j,h2,h3⟩;exact⟨e,fun j hj=>by rw[f j hj];exact L j hj,fun j hj=>by rw[f j hj];exact h1 j⟩
theorem yC.of{w:World}{B:Nat}{p:Nat->Prop}{q r:br}{a b:Option Addr}{ca cb:Nat}(K:dZ w p r a b ca cb)(e:q=r)(hp:∀g,g<w.heap.size->p g->B<=g):yC w B (.agg #[.bool r.neg,.slice a r.n ca,.slice b r.m cb]) q:=by
 subst e;exact⟨a,b,ca,cb,rfl,K.imp hp⟩
theorem aiN{w2 w3:World}{B g n c1:Nat}{X:Nat->Nat}{v':Value}(P:w2.ownsRow B 129 1 (.s g n c1) n (ll X n))(own:w3.ownsRow B 129 1 v' (n+1) (ll X n++[.int .u32 0]))(gr:(w2.alloc (.cells #[.int .u32 0] 129)).grownBy w3 (Value.s g n c1).ownBlock)
 (hnn:v'≠ .n)(hat:v'.ownBlock=(Value.s g n c1).ownBlock∨v'.ownBlock=some (w2.alloc (.cells #[.int .u32 0] 129)).heap.size):
 ∃gg c3,v'=.s gg (n+1) c3/\n+1<=c3/\(gg=g∨gg=w2.heap.size+1)/\ag w3 (jp gg 0) gg 0 (n+1) (fX X n 0)/\(∀q,q<w2.heap.size->q≠g->w3.heap[q]?=w2.heap[q]?)/\w2.Since g w3:=by
 rw[show ll X n++[.int .u32 0]=ll (fX X n 0) (n+1) from by rw[jV,bK,pN (fun j hj=>az _ _ _ _ (show j≠n by omega))];rfl] at own;obtain⟨gg,c3,rfl,m1,-,-,L,-⟩:=bX own hnn;have t:=bJ w2 (.cells #[.int .u32 0] 129);have hg:=(P.lt g rfl).2;have zz:=gr.size;have zt:=t.size;have blk:∀q,q<w2.heap.size->q≠g->w3.heap[q]?=w2.heap[q]?:=fun q hq hne=>(gr.block q (by simp;omega) (by simp[Value.ownBlock];exact hne)).trans (t.block q hq)
 exact⟨gg,c3,rfl,m1,by simpa [Value.ownBlock] using hat,L,blk,⟨gr.os.trans t.os,gr.tape.trans t.tape,gr.output.trans t.output,om,fun q hq=>blk q om om⟩⟩
theorem uz(w:World)(z:Nat):ag (w.alloc (.cells #[.int .u32 (z:Int)] 129)) (jp w.heap.size 0) w.heap.size 0 1 (fun _=>z):=fun j hj=>⟨rfl,by
 obtain rfl:j=0:=om
 exact bO w (.int .u32 z) 129 0 _ rfl⟩
theorem agP{p:Prop}(h:p:=by
 refine bodyPost_ret (mu rfl _ _ _ _ _ _ rfl ((((r3.marked M1 hne).aE _).aG _).aF _)) rfl ?_;refine⟨_,rfl,yC.of ((K3.marked M1 (fun q h=>h.2)).marked ((((af.refl _ (w.heap.size+1)).setCell 0 _).setCell 1 _).setCell 2 _) (fun q h=>by omega)) ?_ (fun q _ h=>by omega),(S3.trans (M1.since om)).trans (((((af.refl _ (w.heap.size+1)).setCell 0 _).setCell 1 _).setCell 2 _).since om)⟩;rw[<-HQ.out];unfold sp;simp only[beq_iff_eq,beq_eq_false_iff_ne] at*
 repeat' split
 all_goals first | omega | rfl):p:=h
theorem aeb{p:Prop}(h:p:=by
 have sl:=fun (W:World) (o:Obj)=>(eg W.heap.size W).alloc (Nat.le_refl _) o
 refine bodyPost_ret (mu rfl _ _ _ _ _ _ rfl (((((r2.aE _).aG _).aF _).aA (sl _ _)).aA (sl _ _))) rfl ?_;refine⟨_,rfl,yC.of (p:=fun q=>w.heap.size<=q) (r:=⟨_,0,fun _=>0,1,_⟩) ⟨Nat.le_refl _,Nat.le_refl _,fun e=>(by cases e),fun e=>(by cases e),⟨0,0,fun h=>absurd h qz,fun j hj=>absurd hj qz⟩,⟨w2.heap.size+1,0,fun _=>by omega,LDf _ qz⟩,fun j hj=>absurd hj qz,fun _ _=>hd,by simp only;omega,by simp only;omega⟩ ?_ (fun _ _ h=>h),((S2.trans (((((af.refl _ (w.heap.size+1)).setCell 0 _).setCell 1 _).setCell 2 _).since om)).trans (sM (sl _ _) (by simp;omega))).trans (sM (sl _ _) (by simp;omega))⟩;rw[<-HQ.out];unfold sp;simp only[beq_iff_eq,beq_eq_false_iff_ne] at*
 repeat' split
 all_goals first | omega | rfl):p:=h
theorem aec{p:Prop}(h:p:=by
 refine bodyPost_ret (mu rfl _ _ _ _ _ _ rfl (((((r2.marked M1 hne).aE _).aG _).aF _).aA ((eg _ _).alloc (Nat.le_refl _) _))) rfl ?_;refine⟨_,rfl,yC.of (p:=fun q=>w.heap.size<=q) (r:=⟨f,n,X,_,fun _=>0⟩) ⟨m1,Nat.le_refl _,fun e=>(by cases e),fun e=>(by cases e),⟨g1,0,fun _=>by omega,((LN.marked M1 (fun _=>by omega)).marked ((((af.refl _ (w.heap.size+1)).setCell 0 _).setCell 1 _).setCell 2 _) (fun _=>by omega)).aA ((eg _ _).alloc (Nat.le_refl _) _)⟩,⟨w2.heap.size,0,fun _=>by omega,LDf _ qz⟩,hlX.out,fun j hj=>by simp,by simp only;omega,by simp only;omega⟩ ?_ (fun _ _ h=>h),((S2.trans (M1.since om)).trans (((((af.refl _ (w.heap.size+1)).setCell 0 _).setCell 1 _).setCell 2 _).since om)).trans (sM ((eg _ _).alloc (Nat.le_refl _) _) (by simp;omega))⟩;rw[<-HQ.out];unfold sp;simp only[beq_iff_eq,beq_eq_false_iff_ne] at*
 repeat' split
 all_goals first | omega | rfl):p:=h
theorem acb{r:br}{p:Nat->Prop}{a b:Option Addr}{ca cb k:Nat}{w:World}(hk:k<=1000)(hn:r.n<=20)(hm:r.m<=20)(K:dZ w p r a b ca cb):
 Cl 97 #[.agg #[.bool r.neg,.slice a r.n ca,.slice b r.m cb],.i k] w fun e w'=>∃u,e=.returned u/\yC w' w.heap.size u (sp r k)/\w.S w':=by
 obtain⟨i0,hi,hz0,hz1,hz2⟩:=info_parts Tryz.info129;obtain⟨f,n,X,m,Y⟩:=r;simp only at hn hm;obtain⟨ba,oa,-,LX⟩:=K.LX;obtain⟨bb,ob,-,LY⟩:=K.LY;obtain⟨q,hq⟩:∃q,sp ⟨f,n,X,m,Y⟩ k=q:=⟨_,rfl⟩;rw[hq];have HQ:=ae hq;clear hq;obtain⟨wA,eA⟩:∃x:World,x=(w.alloc (.cells #[.bool f,.slice a n ca,.slice b m cb] 44)).alloc (.cells #[.bool false,.n,.n] 44):=⟨_,rfl⟩;have sA:w.S wA:=by rw[eA];exact (bJ _ _).alloc qz _
 have zA:wA.heap.size=w.heap.size+1+1:=by rw[eA];simp
 have oA:bj wA w.heap.size (.bool f) (.slice a n ca) (.slice b m cb):=by rw[eA];exact (bj.new w _ _ _ _).aA (bJ _ _)
 have rA:bj wA (w.heap.size+1) (.bool false) (.n) (.n):=by
  rw[eA];have:=bj.new (w.alloc (.cells #[.bool f,.slice a n ca,.slice b m cb] 44)) (.bool false) (.n) (.n) 44
  simpa using this
 have JC:=@ph f a b ba oa n ca bb ob m cb X Y wA om om K.nc K.mc K.ac K.bc (LX.aA sA) (LY.aA sA);have hlX:Hid (∀j,j<n->X j<4294967296):=ae K.lX;have hlY:Hid (∀j,j<m->Y j<4294967296):=ae K.lY;obtain⟨o0,o1,o2⟩:=oA.g;rw[eA] at o0 o1 o2;go_enter Tryz.func97,Tryz.ntmps97;go_wp2_with fail;rw[<-eA];clear eA o0 o1 o2 K LX LY oA;refine JC.mono ?_;clear JC;rintro e w1 ⟨g1,h1,c1,c2,rfl,P1,P2,b1,b2,b3,s1⟩;obtain⟨w2,e2⟩:∃x:World,x=w1.alloc (.cells #[.bool f,.s g1 n c1,.s h1 m c2] 44):=⟨_,rfl⟩;have t2:w1.S w2:=by rw[e2];exact bJ _ _
 have z2:w2.heap.size=w1.heap.size+1:=by rw[e2];simp
 have C2:bj w2 w1.heap.size (.bool f) (.s g1 n c1) (.s h1 m c2):=by rw[e2];exact bj.new w1 _ _ _ _
 have S1:=sA.tr s1;have S2:=S1.tr t2;have r2:=(rA.aA s1).aA t2;have HP1:Hid (w2.ownsRow (wA.heap.size+1+1) 129 1 (.s g1 n c1) n (ll X n)):=ae (by rw[e2];exact P1.alloc _);have HP2:Hid (w2.ownsRow (wA.heap.size+1+1) 129 1 (.s h1 m c2) m (ll Y m)):=ae (by rw[e2];exact P2.alloc _);have rl:=(rA.aA s1).lt;clear P1 P2 rA s1 sA S1
 go_upto_if 11 with fail
 rw[<-e2];clear e2;have hne:w.heap.size+1≠w1.heap.size:=om
 have hne2:w1.heap.size≠w.heap.size+1:=om
 obtain⟨ec0,ec1,ec2⟩:=C2.g;have ef1:=C2.f 1;have ef2:=C2.f 2;obtain⟨u0,u1,u2⟩:=r2.g;obtain⟨uf0,uf1,uf2⟩:=r2.k;have HZ2:=ae z2;obtain⟨_,_,e9,m1,_,_,LN,_⟩:=bX HP1.out qz;cases e9;obtain⟨_,_,e9,m2,_,_,LD,_⟩:=bX HP2.out qz;cases e9;clear z2
 by_cases q5:k % 7=5
 . have q5':((k:Int) % 7==5)=true:=by simp;omega
   obtain⟨d,hd,hd2,hd3⟩:∃d:Nat,(2:Int)+(k:Int)/7=(d:Int)/\d<=200/\2+k/7=d:=⟨2+k/7,om,om,rfl⟩;have HQ2:Hid (q=mx f (lv X n*d) (lv Y m*d)):=ae (by rw[<-HQ.out,<-hd3];unfold sp;rw[if_neg om,if_neg om,if_neg om,if_neg om,if_neg om,if_pos q5]);clear ec0 ec1 ec2 ef1 ef2 u0 u1 u2 uf0 uf1 uf2 hd3 HQ;go_wp2_with fail;refine (@eJ d _ om).mono ?_;rintro e w3 ⟨x3,t3,B3,rfl,k3,⟨a3,b3',o3,c3,rfl,k31,LB3,p3'⟩,vd,s3⟩;have VD:=ae vd;have C3:=C2.aA s3;have r3:=r2.aA s3;have S3:=S2.tr s3;have z3:=s3.size;have LN3:=LN.aA s3;have LE3:=LD.aA s3;clear vd LN LD HP1 HP2 C2 r2 S2 t2 m1 m2;have kk:=C3.cells;have hcl:=C3.lt;have J1:=@cO (jp g1 0) g1 0 n c1 X w3.drew om LN3 hlX.out;have SDr:=ao S3;go_wp2_with fail
   go_region_held3 (fun w'=>w'.cell? (jj w1.heap.size 0)=some (.bool f)/\w'.cell? (jj w1.heap.size 1)=some (.s g1 n c1)/\w'.cell? (jj w1.heap.size 2)=some (.s h1 m c2)) (go_keep)
    (first
      | (go_at_call 75
         first
          | (with_reducible refine J1.mono ?_
             rintro e w4 ⟨a4,g4,m4,c4,B4,rfl,k41,k42,L4,-,-,v4,s4⟩;have V4:=ae v4;clear v4;have C4:=C3.drew.aA s4;have r4:=r3.drew.aA s4;have S4:=SDr.trans (sM s4 S3.size);have kk:=C4.cells;have LB4:dz w4 a3 b3' o3 t3 B3:=dz.aA (w:=w3.drew) LB3 s4;have LE4:ag w4 (jp h1 0) h1 0 m Y:=ag.aA (w:=w3.drew) LE3 s4;have J2:=@fG a4 a3 g4 0 m4 c4 b3' o3 t3 c3 B4 B3 w4 om om L4 LB4)
          | (with_reducible refine J4.mono ?_
             rintro e w7 ⟨a7,g7,m7,c7,B7,rfl,k71,k72,L7,-,-,v7,s7⟩;have V7:=ae v7;clear v7;have C7:=C6.aA s7;have r7:=r6.aA s7;have S7:=S6.tr s7;have kk:=C7.cells;have LB7:=LB6.aA s7;have LL7:=LL6.aA s7;have J5:=@fG a7 a3 g7 0 m7 c7 b3' o3 t3 c3 B7 B3 w7 om om L7 LB7))
      | (go_at_call 141
         first
          | (with_reducible refine J2.mono ?_
             rintro e w5 ⟨g5,t5,c5,B5,rfl,k51,k52,L5,-,-,v5,s5⟩;have V5:=ae v5;clear v5;have C5:=C4.aA s5;have r5:=r4.aA s5;have S5:=S4.tr s5;have kk:=C5.cells;have LB5:=LB4.aA s5;have LE5:=LE4.aA s5;have J3:=@lj (jp g5 0) g5 0 t5 c5 B5 w5 om k51 L5)
          | (with_reducible refine J5.mono ?_
             rintro e w8 ⟨g8,t8,c8,B8,rfl,k81,k82,L8,-,-,v8,s8⟩;have V8:=ae v8;clear v8;have C8:=C7.aA s8;have r8:=r7.aA s8;have S8:=S7.tr s8;have kk:=C8.cells;have LL8:=LL7.aA s8;have J6:=@lj (jp g8 0) g8 0 t8 c8 B8 w8 om k81 L8))
      | (go_at_call 138
         first
          | (with_reducible refine J3.mono ?_
             rintro e w6 ⟨a6,g6,m6,c6,Y6,rfl,k61,k62,k63,LL6,k64,-,k65,n6,v6,s6⟩;have V6:=ae v6;have N6:=ae n6;clear v6 n6;have C6:=C5.aA s6;have r6:=r5.aA s6;have S6:=S5.tr s6;have kk:=C6.cells;have LB6:=LB5.aA s6;have LE6:=LE5.aA s6;have J4:=@cO (jp h1 0) h1 0 m c2 Y w6 om LE6 hlY.out)
          | (with_reducible refine J6.mono ?_
             rintro e w9 ⟨a9,g9,m9,c9,Y9,rfl,k91,k92,k93,LM9,k94,-,k95,n9,v9,s9⟩;have V9:=ae v9;have N9:=ae n9;clear v9 n9;have C9:=C8.aA s9;have r9:=r8.aA s9;have S9:=S8.tr s9;have kk:=C9.cells;have LL9:=LL8.aA s9;obtain⟨u0,u1,u2⟩:=r9.g;obtain⟨uf0,uf1,uf2⟩:=r9.k)))
   all_goals go_wp2
   all_goals
    have zq:w1.heap.size<w5.heap.size:=C5.lt;have zr:w1.heap.size<w8.heap.size:=C8.lt;obtain⟨rfl,L6,l6⟩:=wQ LL9 (fun j=>k65 j) N6.out (V6.out.trans (V5.out.trans (by rw[V4.out,VD.out])));obtain⟨rfl,L9,l9⟩:=wQ LM9 (fun j=>k95 j) N9.out (V9.out.trans (V8.out.trans (by rw[V7.out,VD.out])));refine bodyPost_ret (mu rfl _ _ _ _ _ _ rfl (((r9.aE _).aG _).aF _)) rfl ?_;have M:=fun v v' v''=>(((af.refl w9 (w.heap.size+1)).setCell 0 v).setCell 1 v').setCell 2 v''
    exact⟨_,rfl,yC.of (p:=fun q=>w.heap.size<=q) (r:=mx f (lv X n*d) (lv Y m*d)) ⟨k61,k91,k62,k92,⟨g6,0,fun h=>by have:=k64 h;omega,L6.marked (M _ _ _) (fun h=>by have:=k64 h;omega)⟩,⟨g9,0,fun h=>by have:=k94 h;omega,L9.marked (M _ _ _) (fun h=>by have:=k94 h;omega)⟩,l6,l9,by show (iE _).1<=_;omega,by show (iE _).1<=_;omega⟩ HQ2.out (fun _ _ h=>h),S9.trans ((M _ _ _).since om)⟩
 have q5':((k:Int) % 7==5)=false:=by simp;omega
 have hl1:w1.heap.size<w2.heap.size:=C2.lt;have hl2:w.heap.size+1<w2.heap.size:=r2.lt;have hl3:w.heap.size+1<w2.heap.size+1:=om
 go_wp2_with (at_builtin;first
  | (refine wpList_append_own_at _ rfl _ _ 42 rfl (wA.heap.size+1+1) 129 i0 (.int .u32 0) 1 4 Tryz.underlying42 hi hz0 hz1 hz2 rfl qd _ _ _ rfl (HP1.out.alloc _) (jj w2.heap.size 0) 1 1 [.int .u32 0] rfl rfl (bO _ _ _) (bZ _ rfl) (by unfold maxLen;omega) om (by have:=HZ2.out;simp;omega) ?_
     intro v' w3 hown' hgrow hnn hat;obtain⟨gg,c3,rfl,m3,hgg,L3,blk,s3⟩:=aiN HP1.out hown' hgrow (fun h=>absurd (hnn.1 h).2 qd) hat;have S3:=S2.trans (sM s3 om)
     have K3:dZ w3 (fun q=>w.heap.size+1<q/\q≠w1.heap.size) ⟨f,n+1,fX X n 0,m,Y⟩ (jp gg 0) (jp h1 0) c3 c2:=⟨m3,m2,fun e=>(by cases e),fun e=>(by cases e),⟨gg,0,fun _=>by have:=HZ2.out;omega,L3⟩,⟨h1,0,fun _=>by omega,pP LD (fun _=>blk _ (by have:=HZ2.out;omega) om)⟩,fun j hj=>(by
      by_cases e:j=n
      . subst e;simp only[bK];omega
      . simp only[az _ _ _ _ e];exact hlX.out j (by simp only at hj;omega)),hlY.out,by simp only;omega,by simp only;omega⟩
     have C3:=C2.aT (blk _ (by have:=HZ2.out;omega) om);have r3:=r2.aT (blk _ (by have:=HZ2.out;omega) om);clear hown' hgrow hnn hat blk s3 L3 ec0 ec1 ec2 ef1 ef2 u0 u1 u2 uf0 uf1 uf2;obtain⟨ec0,ec1,ec2⟩:=C3.g;have ef1:=C3.f 1;have ef2:=C3.f 2;obtain⟨u0,u1,u2⟩:=r3.g;obtain⟨uf0,uf1,uf2⟩:=r3.k)
  | (refine wpList_append_own_at _ rfl _ _ 42 rfl (wA.heap.size+1+1) 129 i0 (.int .u32 0) 1 4 Tryz.underlying42 hi hz0 hz1 hz2 rfl qd _ _ _ rfl (HP2.out.alloc _) (jj w2.heap.size 0) 1 1 [.int .u32 0] rfl rfl (bO _ _ _) (bZ _ rfl) (by unfold maxLen;omega) om (by have:=HZ2.out;simp;omega) ?_
     intro v' w3 hown' hgrow hnn hat;obtain⟨gg,c3,rfl,m3,hgg,L3,blk,s3⟩:=aiN HP2.out hown' hgrow (fun h=>absurd (hnn.1 h).2 qd) hat;have S3:=S2.trans (sM s3 om)
     have K3:dZ w3 (fun q=>w.heap.size+1<q/\q≠w1.heap.size) ⟨f,n,X,m+1,fX Y m 0⟩ (jp g1 0) (jp gg 0) c1 c3:=⟨m1,m3,fun e=>(by cases e),fun e=>(by cases e),⟨g1,0,fun _=>by omega,pP LN (fun _=>blk _ (by have:=HZ2.out;omega) om)⟩,⟨gg,0,fun _=>by have:=HZ2.out;omega,L3⟩,hlX.out,fun j hj=>(by
      by_cases e:j=m
      . subst e;simp only[bK];omega
      . simp only[az _ _ _ _ e];exact hlY.out j (by simp only at hj;omega)),by simp only;omega,by simp only;omega⟩
     have C3:=C2.aT (blk _ (by have:=HZ2.out;omega) om);have r3:=r2.aT (blk _ (by have:=HZ2.out;omega) om);clear hown' hgrow hnn hat blk s3 L3 ec0 ec1 ec2 ef1 ef2 u0 u1 u2 uf0 uf1 uf2;obtain⟨ec0,ec1,ec2⟩:=C3.g;have ef1:=C3.f 1;have ef2:=C3.f 2;obtain⟨u0,u1,u2⟩:=r3.g;obtain⟨uf0,uf1,uf2⟩:=r3.k))
 . have M1:af w3 _ w1.heap.size:=(af.refl w3 w1.heap.size).setCell 1 (.s gg (n+1) c3)
   exact agP
 . have M1:af w3 _ w1.heap.size:=(af.refl w3 w1.heap.size).setCell 2 (.s gg (m+1) c3)
   exact agP
 . have M1:af w2 _ w1.heap.size:=(af.refl w2 w1.heap.size).setCell 2 (.s w2.heap.size 0 0)
   have LDf:∀W:World,W.heap.size=w2.heap.size->ag (W.alloc (.cells #[] 129)) (jp w2.heap.size 0) w2.heap.size 0 0 (fun _=>0):=fun W _ j hj=>absurd hj om
   exact aec
 . have M1:af w2 _ w1.heap.size:=(af.refl w2 w1.heap.size).setCell 2 (.s w2.heap.size 1 1)
   have LDf:∀W:World,W.heap.size=w2.heap.size->ag (W.alloc (.cells #[.int .u32 0] 129)) (jp w2.heap.size 0) w2.heap.size 0 1 (fun _=>0):=fun W h=>by rw[<-h];exact uz W 0
   exact aec
 . have LDf:∀W:World,W.heap.size=w2.heap.size+1->ag (W.alloc (.cells #[.int .u32 1] 129)) (jp (w2.heap.size+1) 0) (w2.heap.size+1) 0 1 (fun _=>1):=fun W h=>by rw[<-h];exact uz W 1
   have hd:1<4294967296:=om
   exact aeb
 . have LDf:∀W:World,W.heap.size=w2.heap.size+1->ag (W.alloc (.cells #[.int .u32 (2+(k:Int)/7)] 129)) (jp (w2.heap.size+1) 0) (w2.heap.size+1) 0 1 (fun _=>2+k/7):=fun W h=>by
    rw[<-h,show 2+(k:Int)/7=((2+k/7:Nat):Int) by omega];exact uz W (2+k/7)
   have hd:2+k/7<4294967296:=om
   exact aeb
end Go.Proofs.YtclgkofcooibfaaGreatDoor
