import Derived.Test.YtclgkofcooibfaaGreatDoorOwnP21
set_option maxHeartbeats 6400000
set_option maxRecDepth 100000
namespace Go.Proofs.YtclgkofcooibfaaGreatDoor
open Go.RowKit
theorem ab6{N D K:Nat}(h:Nat.gcd N D∣K):Nat.gcd (Nat.gcd K N) D=Nat.gcd N D:=by
 rw[Nat.gcd_assoc];exact Nat.gcd_eq_right h
theorem vc{c:Nat}{f:Bool}{v1 v2 v3:Value}{g h q N D K:Nat}{w:World}(Bx:dG w c (.bool f) v1 v2 v3)(H1:bU w v1 g N 16777216)(H2:bU w v2 h D 16777216)(H3:bU w v3 q K 16777216)(hK:Nat.gcd N D∣K):
 Cl 203 #[.p c 0] w fun e w'=>∃v g,e=.returned v/\bU w' v g (Nat.gcd N D) 67108864/\w.heap.size<=g/\w.S w':=by
 obtain⟨a,n,ca,X,rfl,n1,n2,n3,LX,FX,lX,pX,eX⟩:=H1;obtain⟨b,m,cb,Y,rfl,m1,m2,m3,LY,FY,lY,pY,eY⟩:=H2;obtain⟨d,k,cd,Z,rfl,k1,k2,k3,LZ,FZ,lZ,pZ,eZ⟩:=H3;have b1:=Bx.c1;have b2:=Bx.c2;have b3:=Bx.c3;have I2:=@dx c 2 b h 0 m cb Y w b2 LY lY pY;have I3:=@dx c 3 d q 0 k cd Z w b3 LZ lZ pZ;rw[eY] at I2;rw[eZ] at I3;have sA:=bJ w (.cells #[.int .u32 1] 129)
 by_cases hD:D=1
 . have hG:Nat.gcd N D=1:=by rw[hD];exact Nat.gcd_one_right N
   rw[hG];rw[show decide (D=1)=true by simp[hD]] at I2;go_enter Tryz.func203,Tryz.ntmps203;go_wp2_with fail;refine I2.mono ?_;rintro e w1 ⟨rfl,rfl⟩;go_wp2;go_ret;exact⟨_,_,rfl,il w1,Nat.le_refl _,sA⟩
 . rw[show decide (D=1)=false by simp[hD]] at I2
   by_cases hK1:K=1
   . have hG:Nat.gcd N D=1:=by rw[hK1] at hK;exact Nat.dvd_one.1 hK
     rw[hG];rw[show decide (K=1)=true by simp[hK1]] at I3;go_enter Tryz.func203,Tryz.ntmps203;go_wp2_with fail;refine I2.mono ?_;rintro e w1 ⟨rfl,hw1⟩;rw[hw1];go_wp2_with fail;refine I3.mono ?_;rintro e w1 ⟨rfl,rfl⟩;go_wp2;go_ret;exact⟨_,_,rfl,il w1,Nat.le_refl _,sA⟩
   . rw[show decide (K=1)=false by simp[hK1]] at I3
     have J1:=@ru d a q 0 k cd g 0 n ca Z X w.drew (Nat.zero_le _) k2 n2 k1 n1 k3 n3 LZ LX lZ lX pZ pX trivial;have HX:=ae (And.intro lX pX);have HY:=ae (And.intro lY pY);have HZ:=ae (And.intro lZ pZ);have HG:=ae (ab6 hK);have EX:=ae eX;have EY:=ae eY;have EZ:=ae eZ;have dr:w.S w.drew:=ao (eg _ _);go_enter Tryz.func203,Tryz.ntmps203;go_wp2_with fail;refine I2.mono ?_;rintro e w1 ⟨rfl,hw1⟩;rw[hw1];go_wp2_with fail;refine I3.mono ?_;rintro e w1 ⟨rfl,hw1⟩;rw[hw1];go_wp2
     go_region_held3 (fun w'=>w'.cell? (jj c 1)=some (.slice a n ca)/\w'.cell? (jj c 2)=some (.slice b m cb)/\w'.cell? (jj c 3)=some (.slice d k cd)) (go_keep)
      (first
        | (go_at_call 190
           with_reducible refine J1.mono ?_
           rintro e w2 ⟨v4,g4,rfl,⟨a4,n4,c4,Z4,rfl,y1,y2,y3,L4,F4,l4,p4,e4⟩,hg4,s4⟩;have S4:=dr.tr s4;have B4:=Bx.aA S4;have i1:=B4.c1;have i2:=B4.c2;have i3:=B4.c3
           have hn4:n4<=16777216:=by
            rw[EZ.out,EX.out] at e4
            by_cases hN0:N=0
            . have h5:lv Z4 n4<=lv Z k:=by rw[e4,EZ.out,hN0,Nat.gcd_zero_right];exact Nat.le_refl _
              have:=ip HZ.out.1 p4 h5;omega
            . have h5:lv Z4 n4<=lv X n:=by rw[e4,EX.out];exact Nat.gcd_le_right _ om
              have:=ip HX.out.1 p4 h5;omega
           have J2:=@ru a4 b g4 0 n4 c4 h 0 m cb Z4 Y w2 (Nat.zero_le _) hn4 m2 y1 m1 y3 m3 L4 (LY.aA S4) l4 HY.out.1 p4 HY.out.2 trivial)
        | (go_at_call 190
           with_reducible refine J2.mono ?_
           rintro e w3 ⟨v5,g5,rfl,N5,hg5,s5⟩;have S5:=S4.tr s5;have B5:=Bx.aA S5;have i1:=B5.c1;have i2:=B5.c2;have i3:=B5.c3))
     rw[e4,EY.out,EZ.out,EX.out,HG.out] at N5;go_wp2;go_ret;exact⟨_,g5,rfl,N5,Nat.le_trans S4.size hg5,S5⟩
theorem rI.aI{w w':World}{c:Nat}(_h:rI w)(_hw:0<=w.heap.size)(_hc:0<=c)(_s:cu c w w'):rI w':=trivial
theorem rI.stay{w w':World}(h:rI w)(hw:0<=w.heap.size)(s:w.S w'):rI w':=h.aI (c:=w.heap.size) hw om (cu.aC _ s)
theorem vI{c:Nat}{f:Bool}{v1 v2 v3:Value}{g h q N D K B:Nat}{w:World}(hw:0<=w.heap.size)(hT:rI w)(Bx:dG w c (.bool f) v1 v2 v3)(H1:bU w v1 g N 16777216)(H2:bU w v2 h D 16777216)(H3:bU w v3 q K 16777216)(hK:Nat.gcd N D∣K)
 (hgh:g≠h)(hgl:g<w.heap.size)(hhl:h<w.heap.size)(hg:B<=g)(hh:B<=h)(hB:B<=w.heap.size)(_hc:B<=c)(h1:Nat.gcd N D=1):
 Cl 188 #[.p c 0] w fun e w'=>∃v,e=.returned v/\dM w' v (f&&N != 0) N D B 16777218/\w.Since B w':=by
 have H1s:=H1;have H2s:=H2;obtain⟨a,n,ca,X,rfl,n1,n2,n3,LX,FX,lX,pX,eX⟩:=H1;obtain⟨b,m,cb,Y,rfl,m1,m2,m3,LY,FY,lY,pY,eY⟩:=H2;have hcl:=Bx.lt;have sA:=bJ w (.cells #[.bool false,.n,.n] 44);have rA:=bj.new w (.bool false) (.n) (.n) 44;have bA:=Bx.aA sA;have tA:=hT.stay hw sA;have wA:0<=(w.alloc (.cells #[.bool false,.n,.n] 44)).heap.size:=Nat.zero_le _;have XA:=LX.aA sA;have YA:=LY.aA sA;go_enter Tryz.func188,Tryz.ntmps188;go_wp2_with fail;generalize w.alloc _=w1 at*;have J1:=vc bA (H1s.aA sA) (H2s.aA sA) (H3.aA sA) hK;rw[h1] at J1;have k0:=bA.c1;have k1:=bA.c2;have z1:=rA.lt;have E:=ae (And.intro lX (And.intro pX (And.intro lY pY)));refine J1.mono ?_;rintro e w2 ⟨v4,g3,rfl,⟨a3,k3,c3,Z,rfl,y1,y2,y3,L3,F3,l3,p3,e3⟩,hg3,S2⟩;have b2:=bA.aA S2;have r2:=rA.aA S2;go_wp2_with fail;have t3:=bJ w2 (.cells #[.slice a3 k3 c3] 98);have b3:=b2.aA t3;have r3:=r2.aA t3;have L4:=L3.aA t3;have S3:=S2.tr t3;have Q0:(w2.alloc (.cells #[.slice a3 k3 c3] 98)).cell? (jj w2.heap.size 0)=some (.slice a3 k3 c3):=by simp[go_sem]
 generalize w2.alloc _=w3 at*;generalize w2.heap.size=q at*;have SW:=sA.trans (sM S3 (by have:=sA.size;omega));have N4:=(H1s.aA SW).more (show 16777216<=16777218 by omega);have D4:=(H2s.aA SW).more (show 16777216<=16777218 by omega);have S4:=ao (sM SW hB);have hg4:g≠w.heap.size:=om
 have hh4:h≠w.heap.size:=om
 have hnz:((n:Int)==0)= !(N != 0):=by
  have hN:n=0↔N=0:=by
   rw[<-eX]
   constructor
   . intro h;rw[h];rfl
   . intro h
     rcases Nat.eq_zero_or_pos n with e | e
     . exact e
     . have:=jU X n e (E.out.2.1 e);have:=Nat.pow_pos (n:=32*(n-1)) (show 0<2 by omega);omega
  rw[Bool.eq_iff_iff];simp;omega
 have HZ:=ae hnz;clear hnz;have e4:decide (lv Z k3=1)=true:=by simp[e3]
 have I1:=dx Q0 L4 l3 p3;rw[e4] at I1;refine I1.mono ?_;rintro e w4 ⟨rfl,rfl⟩;obtain⟨j0,j1,j2⟩:=b3.g;obtain⟨u0,u1,u2⟩:=r3.g;obtain⟨uf0,uf1,uf2⟩:=r3.k;have I2:=ic b3.drew.c1;have hne:=Nat.ne_of_gt hcl;cases f
 . go_wp2
   first | go_region_held (fun w'=>w'.cell? (jj c 0)=some (.bool false)/\w'.cell? (jj c 1)=some (.slice a n ca)/\w'.cell? (jj c 2)=some (.slice b m cb)) (go_keep) (fail) | fail
   all_goals go_wp2
   all_goals
    have r4:=((r3.drew.aE (.bool false)).aG (.slice a n ca)).aF (.slice b m cb);refine bodyPost_ret (mu rfl _ _ _ _ _ _ rfl r4) rfl ?_;have M:af w4.drew _ w.heap.size:=(((af.refl w4.drew _).setCell 0 (.bool false)).setCell 1 (.slice a n ca)).setCell 2 (.slice b m cb);exact⟨_,rfl,⟨_,_,g,h,rfl,N4.drew.marked M hg4,D4.drew.marked M hh4,hg,hh,hgh⟩,S4.trans (M.since hB)⟩
 . go_wp2
   go_region_held3 (fun w'=>w'.cell? (jj c 0)=some (.bool true)/\w'.cell? (jj c 1)=some (.slice a n ca)/\w'.cell? (jj c 2)=some (.slice b m cb)) (go_keep)
    (first | (go_at_call 116;with_reducible refine I2.mono ?_;rintro e w5 ⟨rfl,rfl⟩))
   all_goals go_wp2
   all_goals
    have r4:=((r3.drew.aE (.bool (!((n:Int)==0)))).aG (.slice a n ca)).aF (.slice b m cb);refine bodyPost_ret (mu rfl _ _ _ _ _ _ rfl r4) rfl ?_;have M:af w4.drew _ w.heap.size:=(((af.refl w4.drew _).setCell 0 (.bool (!((n:Int)==0)))).setCell 1 (.slice a n ca)).setCell 2 (.slice b m cb);rw[HZ.out] at M⊢;exact⟨_,rfl,⟨_,_,g,h,qz,N4.drew.marked M hg4,D4.drew.marked M hh4,hg,hh,hgh⟩,S4.trans (M.since hB)⟩
section
variable{w w':World}{a:Option Addr}{d g off n N M:Nat}{X:Nat->Nat}{v x y z:Value}
theorem bj.aT(h:bj w d x y z)(e:w'.heap[d]?=w.heap[d]?):bj w' d x y z:=
 ⟨(fa (w:=w) (a:=jj d 0) e).trans h.c0,(fa (w:=w) (a:=jj d 1) e).trans h.c1,(fa (w:=w) (a:=jj d 2) e).trans h.c2,fun k=>(wW (w:=w) (a:=jj d k) e).trans (h.f k)⟩
theorem ag.aT(h:ag w a g off n X)(e:0<n->w'.heap[g]?=w.heap[g]?):ag w' a g off n X:=
 fun j hj=>⟨(h j hj).1,(fa (w:=w) (a:=jj g (off+j)) (e om)).trans (h j hj).2⟩
theorem bU.aT(h:bU w v g N M)(e:g<w.heap.size->w'.heap[g]?=w.heap[g]?):bU w' v g N M:=by
 obtain⟨a,m,cap,Y,h1,h2,h3,h4,h5,h6,h7,h8,h9⟩:=h;exact⟨a,m,cap,Y,h1,h2,h3,h4,h5.aT (fun h0=>e (h5.lt h0)),fun h0 o=>(wW (w:=w) (a:=jj g o) (e (h5.lt h0))).trans (h6 h0 o),h7,h8,h9⟩
theorem bU.place(h:bU w v g N M)(g':Nat):g<w.heap.size∨bU w v g' N M:=by
 obtain⟨a,m,cap,Y,h1,h2,h3,h4,h5,h6,h7,h8,h9⟩:=h
 rcases Nat.eq_zero_or_pos m with e | e
 . subst e
   exact Or.inr ⟨a,0,cap,Y,h1,h2,h3,h4,fun j hj=>absurd hj om,fun h=>absurd h om,h7,h8,h9⟩
 . exact Or.inl (h5.lt e)
end
theorem gU{X:Nat->Nat}{n:Nat}(p:0<n->X (n-1)≠0):n=0↔lv X n=0:=by
 constructor
 . intro h;rw[h];rfl
 . intro h
   rcases Nat.eq_zero_or_pos n with e | e
   . exact e
   . have:=jU X n e (p e);have:=Nat.pow_pos (n:=32*(n-1)) (show 0<2 by omega);omega
theorem qm{N D:Nat}(hD:0<D):N/Nat.gcd N D=0↔N=0:=by
 have hG:=Nat.gcd_pos_of_pos_right N hD
 constructor
 . intro h
   rcases Nat.eq_zero_or_pos N with e | e
   . exact e
   . have:=Nat.div_pos (Nat.gcd_le_left D e) hG;omega
 . intro h;rw[h];exact Nat.zero_div _
theorem vJ{c:Nat}{f:Bool}{v1 v2 v3:Value}{g h q N D K B:Nat}{w:World}(hw:0<=w.heap.size)(hT:rI w)(Bx:dG w c (.bool f) v1 v2 v3)(H1:bU w v1 g N 16777216)(H2:bU w v2 h D 16777216)(H3:bU w v3 q K 16777216)(hK:Nat.gcd N D∣K)
 (hgh:g≠h)(hgl:g<w.heap.size)(hhl:h<w.heap.size)(hcg:c≠g)(hch:c≠h)(hg:B<=g)(hh:B<=h)(hB:B<=w.heap.size)(hc:B<=c)(hD:0<D)(h1:Nat.gcd N D≠1):
 Cl 188 #[.p c 0] w fun e w'=>∃v,e=.returned v/\dM w' v (f&&N != 0) (N/Nat.gcd N D) (D/Nat.gcd N D) B 16777218/\w.Since B w':=by
 have H1s:=H1;have H2s:=H2;obtain⟨a,n,ca,X,rfl,n1,n2,n3,LX,FX,lX,pX,eX⟩:=H1;obtain⟨b,m,cb,Y,rfl,m1,m2,m3,LY,FY,lY,pY,eY⟩:=H2;have hcl:=Bx.lt;have sA:=bJ w (.cells #[.bool false,.n,.n] 44);have rA:=bj.new w (.bool false) (.n) (.n) 44;have bA:=Bx.aA sA;have tA:=hT.stay hw sA;have wA:0<=(w.alloc (.cells #[.bool false,.n,.n] 44)).heap.size:=Nat.zero_le _;have XA:=LX.aA sA;have YA:=LY.aA sA;obtain⟨G,hG⟩:∃G,G=Nat.gcd N D:=⟨_,rfl⟩;have hG0:0<G:=by rw[hG];exact Nat.gcd_pos_of_pos_right N hD
 have hGD:G<=D:=by rw[hG];exact Nat.gcd_le_right N hD
 have hGz:=ae (qm (N:=N) hD);rw[<-hG] at hGz h1⊢;go_enter Tryz.func188,Tryz.ntmps188;go_wp2_with fail;generalize w.alloc _=w1 at*;have J1:=@vc c f _ _ v3 g h q N D K w1 bA (H1s.aA sA) (H2s.aA sA) (H3.aA sA) hK;rw[<-hG] at J1;have k0:=bA.c1;have k1:=bA.c2;have z1:=rA.lt;have E:=ae (And.intro lX (And.intro pX (And.intro lY pY)));clear lX pX lY pY hG;refine J1.mono ?_;rintro e w2 ⟨v4,g3,rfl,⟨a3,k3,c3,Z,rfl,y1,y2,y3,L3,F3,l3,p3,e3⟩,hg3,S2⟩;clear J1;have b2:=bA.aA S2;have r2:=rA.aA S2;go_wp2_with fail;have t3:=bJ w2 (.cells #[.slice a3 k3 c3] 98);have b3:=b2.aA t3;have r3:=r2.aA t3;have L4:=L3.aA t3;have S3:=S2.tr t3;have Q0:(w2.alloc (.cells #[.slice a3 k3 c3] 98)).cell? (jj w2.heap.size 0)=some (.slice a3 k3 c3):=by simp[go_sem]
 have hg1:w1.heap.size<=g3:=hg3;have hq1:w1.heap.size<=w2.heap.size:=S2.size;generalize w2.alloc _=w3 at*;generalize w2.heap.size=q at*;have z0:w.heap.size<w1.heap.size:=rA.lt;have SW:=sA.trans (sM S3 (by have:=sA.size;omega));have hq2:q<w3.heap.size:=gz _ _ Q0
 have hk3:0<k3:=by
  rcases Nat.eq_zero_or_pos k3 with e | e
  . subst e;rw[show lv Z 0=0 from rfl] at e3;omega
  . exact e
 have hkm:k3<=m:=by
  rcases Nat.lt_or_ge m k3 with hlt | hge
  . have:=mB (A:=Y) (B:=Z) E.out.2.2.1 hlt p3;omega
  . exact hge
 have hg3l:g3<w3.heap.size:=L4.lt hk3;have e4:decide (lv Z k3=1)=false:=by rw[e3];simp[h1]
 have I1:=@dx q 0 a3 g3 0 k3 c3 Z w3 Q0 L4 l3 p3;rw[e4] at I1;clear e4;have EZ:=ae (And.intro l3 (And.intro p3 e3));clear l3 p3 e3;refine I1.mono ?_;rintro e w4 ⟨rfl,rfl⟩;clear I1;have N4:=(H1s.aA SW).drew;have D4:=(H2s.aA SW).drew;have X4:ag w4.drew a g 0 n X:=LX.aA (ao SW);have F4:0<n->∀x,w4.drew.frozen? (jj g x)=false:=fun h0 x=>((ao SW).frozen (a:=jj g x) hgl).trans (FX h0 x)
 have JD:=@qk c 1 a a3 g n ca g3 k3 c3 X Z w4.drew om n1 n3 hk3 om b3.drew.c1 (b3.drew.f 1) X4 L4.drew E.out.1 EZ.out.1 F4 hcg (fun _=>by show g<w4.heap.size;omega) E.out.2.1 (EZ.out.2.1 hk3);rw[eX,EZ.out.2.2] at JD;have Q1:w4.drew.cell? (jj q 0)=some (.slice a3 k3 c3):=Q0;have hqc:q≠c:=om
 have hqg:q≠g:=om
 have Q2:=Q0;have zd:w4.drew.heap.size=w4.heap.size:=rfl;go_wp2
 go_region_held3 (fun w'=>w'.cell? (jj q 0)=some (.slice a3 k3 c3)) (go_keep)
  (first
    | (go_at_call 204
       with_reducible refine JD.mono ?_
       rintro e w5 ⟨vq,vr,gq,gr,rfl,cr,⟨aq,nq,cq,U,rfl,u1,u2,u3,LU,FU,lU,pU,eU⟩,Nr,hq3,hr3,d1,d2,d3,Fq⟩;have i1:w5.cell? (jj q 0)=some (.slice a3 k3 c3):=(fa (w:=w4.drew) (a:=jj q 0) (Fq.block q hq2 hqc hqg)).trans Q1;have fz:w5.frozen? (jj c 1)=false:=(Fq.frozen 1).trans (b3.f 1);have hcq:c≠q:=by omega))
 have z5:=Fq.size;have Nq:bU w5 (.slice aq nq cq) gq (N/G) 16777218:=⟨aq,nq,cq,U,rfl,u1,om,u3,LU,FU,lU,pU,eU⟩;have b5:dG w5 c (.bool f) vr (.slice b m cb) v3:=⟨(Fq.cell 0 qd).trans b3.c0,cr,(Fq.cell 2 qd).trans b3.c2,(Fq.cell 3 qd).trans b3.c3,fun k=>(Fq.frozen k).trans (b3.f k)⟩;have b6:=b5.aG (.slice aq nq cq);have M6:af w5 (w5.setCell (jj c 1) (.slice aq nq cq)) c:=(af.refl w5 _).setCell _ _;have r6:=(r3.drew.aT (Fq.block w.heap.size (by show w.heap.size<w4.heap.size;omega) om om)).marked M6 om;have N6:=Nq.marked M6 d2;have D6:=(D4.aT (fun _=>Fq.block h (by show h<w4.heap.size;omega) om om)).marked M6 om;have L6:=(L4.drew.aT (fun _=>Fq.block g3 hg3l om om)).marked M6 (fun _=>by omega);have Q6:(w5.setCell (jj c 1) (.slice aq nq cq)).cell? (jj q 0)=some (.slice a3 k3 c3):=(M6.cell (a:=jj q 0) hqc).trans i1;have z6:=M6.size
 have S6:w.Since B (w5.setCell (jj c 1) (.slice aq nq cq)):=by
  have s4:w.Since B w4.drew:=ao (sM SW hB);have s5:w4.drew.Since B w5:=⟨Fq.os,Fq.tape,Fq.output,Fq.size,fun k hk=>Fq.block k (by show k<w4.heap.size;omega) om om⟩;exact (s4.trans s5).trans (M6.since hc)
 clear LU FU lU pU u1 u2 u3 b5 cr Nr N4 D4 L4 Q0 Q1 Q2 i1 fz;go_wp2_with fail;generalize w5.setCell (jj c 1) (.slice aq nq cq)=w6 at*;obtain⟨b',m',cb',Y',ev,m1',m2',m3',LY6,FY6,lY6,pY6,eY6⟩:=D6;obtain⟨rfl,rfl,rfl⟩:b'=b/\m'=m/\cb'=cb:=by simp at ev;exact⟨ev.1.symm,ev.2.1.symm,ev.2.2.symm⟩
 have JE:=@qk c 2 b' a3 h m' cb' g3 k3 c3 Y' Z w6.drew om m1' m3' hk3 om b6.drew.c2 (b6.drew.f 2) LY6.drew L6.drew lY6 EZ.out.1 FY6 hch (fun _=>by show h<w6.heap.size;omega) pY6 (EZ.out.2.1 hk3);rw[eY6,EZ.out.2.2] at JE;clear lY6 pY6 eY6 ev LY6 FY6;have hqh:q≠h:=om
 have Q7:w6.drew.cell? (jj q 0)=some (.slice a3 k3 c3):=Q6;have hq6:q<w6.drew.heap.size:=by show q<w6.heap.size;omega
 go_wp2
 go_region_held3 (fun w'=>w'.cell? (jj q 0)=some (.slice a3 k3 c3)) (go_keep)
  (first
    | (go_at_call 204
       with_reducible refine JE.mono ?_
       rintro e w7 ⟨vq,vr,gp,gs,rfl,cr,⟨ap,np,cp,V,rfl,u1,u2,u3,LU,FU,lU,pU,eV⟩,Nr,hp3,hs3,d4,d5,d6,Fp⟩;have i1:w7.cell? (jj q 0)=some (.slice a3 k3 c3):=(fa (w:=w6.drew) (a:=jj q 0) (Fp.block q hq6 hqc hqh)).trans Q7;have fz:w7.frozen? (jj c 2)=false:=(Fp.frozen 2).trans (b6.f 2);have hcq:c≠q:=by omega))
 have z7:=Fp.size;have zd6:w6.drew.heap.size=w6.heap.size:=rfl;have Np:bU w7 (.slice ap np cp) gp (D/G) 16777218:=⟨ap,np,cp,V,rfl,u1,om,u3,LU,FU,lU,pU,eV⟩;have b7:dG w7 c (.bool f) (.slice aq nq cq) vr v3:=⟨(Fp.cell 0 qd).trans b6.c0,(Fp.cell 1 qd).trans b6.c1,cr,(Fp.cell 3 qd).trans b6.c3,fun k=>(Fp.frozen k).trans (b6.f k)⟩;have b8:=b7.aF (.slice ap np cp);have M8:af w7 (w7.setCell (jj c 2) (.slice ap np cp)) c:=(af.refl w7 _).setCell _ _;have r8:=(r6.drew.aT (Fp.block w.heap.size (by show w.heap.size<w6.heap.size;omega) om om)).marked M8 om;have hqh2:gq≠h:=om
 have N8:=(N6.drew.aT (fun hl=>Fp.block gq hl d2 hqh2)).marked M8 d2;have P8:=Np.marked M8 d5;have z8:=M8.size
 have S8:w.Since B (w7.setCell (jj c 2) (.slice ap np cp)):=by
  have s7:w6.drew.Since B w7:=⟨Fp.os,Fp.tape,Fp.output,Fp.size,fun k hk=>Fp.block k (by show k<w6.heap.size;omega) om om⟩;exact ((ao S6).trans s7).trans (M8.since hc)
 have hnz:((nq:Int)==0)= !(N != 0):=by
  obtain⟨a9,m9,c9,Y9,e9,-,-,-,-,-,-,p9,v9⟩:=N8;have:m9=nq:=by simp at e9;exact e9.2.1.symm
  subst this;have hN:=(gU p9);rw[v9,hGz.out] at hN;rw[Bool.eq_iff_iff];simp;omega
 have HZ:=ae hnz;clear hnz LU FU lU pU u1 u2 u3 b7 cr Nr Q6 Q7 i1 fz;have hpl:gp=h∨w6.heap.size<=gp:=hp3;have gq1:gq=g∨w4.heap.size<=gq:=hq3
 obtain⟨g',hg',hBg',hg'1,N9⟩:∃g',g'≠gp/\B<=g'/\g'≠w.heap.size/\bU (w7.setCell (jj c 2) (.slice ap np cp)) (.slice aq nq cq) g' (N/G) 16777218:=by
  rcases N6.place (gp+1+w.heap.size) with hl | hp
  . exact⟨gq,om,om,om,N8⟩
  . refine⟨gp+1+w.heap.size,om,om,om, ?_⟩
    rcases N8.place (gp+1+w.heap.size) with hl8 | hp8
    . obtain⟨a9,m9,c9,Y9,e9,q1,q2,q3,L9,-,q5,q6,q7⟩:=hp
      obtain⟨a8,m8,c8,Y8,e8,r1,r2,r3,L8,F8,r5,r6,r7⟩:=N8
      rcases Nat.eq_zero_or_pos m8 with e0 | e0
      . exact⟨a8,m8,c8,Y8,e8,r1,r2,r3,fun j hj=>absurd hj om,fun hj=>absurd hj om,r5,r6,r7⟩
      . have e89:m8=m9/\a8=a9:=by rw[e8] at e9;simp at e9;exact⟨e9.2.1,e9.1⟩
        have x8:=(L8 0 e0).1;have x9:=(L9 0 om).1;rw[e89.2,x9] at x8
        simp at x8
        rw[x8];exact⟨a8,m8,c8,Y8,e8,r1,r2,r3,L8,F8,r5,r6,r7⟩
    . exact hp8
 clear N6 N8 hq3 hp3;have hBp:B<=gp:=om
 have hgp1:gp≠w.heap.size:=om
 go_wp2_with fail;generalize w7.setCell (jj c 2) (.slice ap np cp)=w8 at*;obtain⟨j0,j1,j2⟩:=b8.g;obtain⟨u0,u1,u2⟩:=r8.g;obtain⟨uf0,uf1,uf2⟩:=r8.k;have I2:=@ic c 1 aq nq cq w8.drew b8.drew.c1;have hne:w.heap.size≠c:=Nat.ne_of_gt hcl;cases f
 . go_wp2
   first | go_region_held (fun w'=>w'.cell? (jj c 0)=some (.bool false)/\w'.cell? (jj c 1)=some (.slice aq nq cq)/\w'.cell? (jj c 2)=some (.slice ap np cp)) (go_keep) (fail) | fail
   all_goals go_wp2
   all_goals
    have r4:=((r8.drew.aE (.bool false)).aG (.slice aq nq cq)).aF (.slice ap np cp);refine bodyPost_ret (mu rfl _ _ _ _ _ _ rfl r4) rfl ?_;have M:af w8.drew _ w.heap.size:=(((af.refl w8.drew _).setCell 0 (.bool false)).setCell 1 (.slice aq nq cq)).setCell 2 (.slice ap np cp);exact⟨_,rfl,⟨_,_,g',gp,rfl,N9.drew.marked M hg'1,P8.drew.marked M hgp1,hBg',hBp,hg'⟩,(ao S8).trans (M.since hB)⟩
 . go_wp2
   go_region_held3 (fun w'=>w'.cell? (jj c 0)=some (.bool true)/\w'.cell? (jj c 1)=some (.slice aq nq cq)/\w'.cell? (jj c 2)=some (.slice ap np cp)) (go_keep)
    (first | (go_at_call 116;with_reducible refine I2.mono ?_;rintro e w9 ⟨rfl,rfl⟩))
   all_goals go_wp2
   all_goals
    have r4:=((r8.drew.aE (.bool (!((nq:Int)==0)))).aG (.slice aq nq cq)).aF (.slice ap np cp);refine bodyPost_ret (mu rfl _ _ _ _ _ _ rfl r4) rfl ?_;have M:af w8.drew _ w.heap.size:=(((af.refl w8.drew _).setCell 0 (.bool (!((nq:Int)==0)))).setCell 1 (.slice aq nq cq)).setCell 2 (.slice ap np cp);rw[HZ.out] at M⊢;exact⟨_,rfl,⟨_,_,g',gp,qz,N9.drew.marked M hg'1,P8.drew.marked M hgp1,hBg',hBp,hg'⟩,(ao S8).trans (M.since hB)⟩
theorem vK{c:Nat}{f:Bool}{v1 v2 v3:Value}{g h q N D K B:Nat}{w:World}(hw:0<=w.heap.size)(hT:rI w)(Bx:dG w c (.bool f) v1 v2 v3)(H1:bU w v1 g N 16777216)(H2:bU w v2 h D 16777216)(H3:bU w v3 q K 16777216)(hK:Nat.gcd N D∣K)
 (hgh:g≠h)(hgl:g<w.heap.size)(hhl:h<w.heap.size)(hcg:c≠g)(hch:c≠h)(hg:B<=g)(hh:B<=h)(hB:B<=w.heap.size)(hc:B<=c)(hD:0<D):
 Cl 188 #[.p c 0] w fun e w'=>∃v,e=.returned v/\dM w' v (f&&N != 0) (N/Nat.gcd N D) (D/Nat.gcd N D) B 16777218/\w.Since B w':=by
 by_cases h1:Nat.gcd N D=1
 . rw[h1,Nat.div_one,Nat.div_one]
   exact vI hw hT Bx H1 H2 H3 hK hgh hgl hhl hg hh hB hc h1
 . exact vJ hw hT Bx H1 H2 H3 hK hgh hgl hhl hcg hch hg hh hB hc hD h1
structure qJ(w:World)(a b:Option Addr)(ba oa n ca bb ob m cb:Nat)(X Y:Nat->Nat):Prop where
 nc:n<=ca
 mc:m<=cb
 ac:a=none->ca=0
 bc:b=none->cb=0
 LX:ag w a ba oa n X
 LY:ag w b bb ob m Y
 lX:∀j,j<n->X j<4294967296
 lY:∀j,j<m->Y j<4294967296
 pX:0<n->X (n-1)≠0
 pY:0<m->Y (m-1)≠0
 m0:0<m
theorem qJ.aA{w w':World}{a b:Option Addr}{ba oa n ca bb ob m cb:Nat}{X Y:Nat->Nat}(h:qJ w a b ba oa n ca bb ob m cb X Y)(s:w.S w'):qJ w' a b ba oa n ca bb ob m cb X Y:=
 ⟨h.nc,h.mc,h.ac,h.bc,h.LX.aA s,h.LY.aA s,h.lX,h.lY,h.pX,h.pY,h.m0⟩
theorem qJ.den{w:World}{a b:Option Addr}{ba oa n ca bb ob m cb:Nat}{X Y:Nat->Nat}(h:qJ w a b ba oa n ca bb ob m cb X Y):0<lv Y m:=by
 rcases Nat.eq_zero_or_pos (lv Y m) with e | e
 . have:=(gU h.pY).2 e;have:=h.m0;omega
 . exact e
def nl(v j:Nat):Nat:=v/4294967296^j % 4294967296
theorem aiD(v k:Nat):lv (nl v) k=v % 4294967296^k:=by
 induction k with
 | zero=>simp[lv,Nat.mod_one]
 | succ k ih=>
   have h:lv (nl v) (k+1)=lv (nl v) k+nl v k*2^(32*k):=rfl;rw[h,ih,Nat.pow_succ,Nat.mod_mul,show (2:Nat)^(32*k)=4294967296^k by rw[Nat.pow_mul],Nat.mul_comm (4294967296^k)]
   rfl
theorem aaX{w:World}{base:Nat}{v:Value}{m:Nat}{X:Nat->Nat}(h:w.ownsRow base 129 1 v m (ll X m))(hs:v≠ .n):
 ∃a g cap,v=.slice a m cap/\m<=cap/\(a=none->cap=0)/\base<=g/\g<w.heap.size/\ag w a g 0 m X/\(0<m->∀o,w.frozen? (jj g o)=false):=by
 have hc:= @World.ownsRow.cells _ _ _ _ _ _ _ h
 rcases h.2 with ⟨rfl,rfl⟩ | ⟨g,cap,cur,rfl,hb,hg,hm,_⟩
 . exact absurd rfl hs
 . refine⟨_,g,cap,rfl,hm,fun h=>(by cases h),hb,(Array.getElem?_eq_some_iff.1 hg).1,fun j hj=>⟨rfl, ?_⟩,fun _ o=>by simp[World.frozen?,hg]⟩
   have:=hc (g:=g) rfl j _ (mD X m j hj);rw[Addr.add_lit] at this;exact this
theorem oI{v:Nat}{w:World}(hv:v<18446744073709551616):
 Cl 166 #[.int .u64 v] w fun e w'=>∃x g,e=.returned x/\bU w' x g v 67108864/\w.heap.size<=g/\w.S w'/\g<w'.heap.size:=by
 obtain⟨i0,hi,hz0,hz1,hz2⟩:=info_parts Tryz.info129;go_enter Tryz.func166,Tryz.ntmps166;go_wp2
 go_loopw [0,3] (fun p o wr=>∃k q:Nat,k<=2/\p=.int .u64 q/\q<18446744073709551616/\Hid (q=v/4294967296^k)/\Hid (0<k->0<v/4294967296^(k-1))/\wr.ownsRow w.heap.size 129 1 o k (ll (nl v) k)/\w.S wr/\Hid (o≠ .n)) (fun p _ _=>(intOf p).toNat)
 case atStart=>exact⟨0,v,om,rfl,hv,ae qz,ae (fun h=>absurd h om),pv w #[] 0 (Nat.le_refl _) qd rfl,bJ _ _,ae qz⟩
 case round=>
  obtain⟨k,q,hk,rfl,hq,HQ,HP,hown,hs,hsz⟩:=hrel
  by_cases h0:q=0
  . subst h0
    obtain⟨a',g,cap',rfl,hmc,hac,hg,hgl,hL,hf⟩:=aaX hown hsz.out;go_wp2;go_ret
    have hlt:v<4294967296^k:=by
     have:=HQ.out;have h2:0<4294967296^k:=Nat.pow_pos om
     rcases Nat.lt_or_ge v (4294967296^k) with h | h
     . exact h
     . have:=Nat.div_pos h h2;omega
    refine⟨_,g,rfl,⟨a',k,cap',nl v,rfl,hmc,om,hac,hL,hf,fun j _=>Nat.mod_lt _ om,fun h=> ?_,(aiD v k).trans (Nat.mod_eq_of_lt hlt)⟩,hg,hs,hgl⟩;have h1:=HP.out h;obtain⟨j,rfl⟩:∃j,k=j+1:=⟨k-1,om⟩;have h2:v/4294967296^j<4294967296:=by rw[Nat.div_lt_iff_lt_mul (Nat.pow_pos om)];rw[Nat.pow_succ] at hlt;omega
    simp only[Nat.add_sub_cancel] at h1⊢;unfold nl;rw[Nat.mod_eq_of_lt h2];omega
  . have hk2:k<2:=by
     rcases Nat.lt_or_ge k 2 with h | h
     . exact h
     . have e:k=2:=om
       subst e;have:=HQ.out;rw[Nat.div_eq_of_lt (show v<4294967296^2 by omega)] at this;omega
    have hne:0<q:=om
    have hne2:((q:Int)==0)=false:=by simp;omega
    obtain⟨y,hy⟩:∃y,y=nl v k:=⟨_,rfl⟩;have hyq:(q:Int) % 4294967296=(y:Int):=by rw[hy];unfold nl;rw[<-HQ.out];omega
    have hyl:y<4294967296:=by rw[hy];exact Nat.mod_lt _ om
    have HY:=ae hy;clear hy h0
    go_wp2_with (at_builtin;refine wpList_append_own _ rfl _ _ 42 rfl w.heap.size 129 i0 (.int .u32 0) 1 4 Tryz.underlying42 hi hz0 hz1 hz2 rfl qd _ _ _ rfl (hown.alloc _) (jj wr.heap.size 0) 1 1 [.int .u32 _] rfl rfl (bO _ _ _) (bZ _ rfl) (by unfold maxLen;omega) om (by have:=hs.size;simp;omega) ?_)
    intro v' w1 hown' hgrow hnn;have hs1:=(hs.alloc hs.size _).grown hgrow (by have:=hs.size;simp;omega) (fun k hk=>(hown.lt k hk).1);have HN:=ae hnn;rw[HY.out,<-jV] at hown';go_wp2;go_roundw
    case rel=>exact⟨k+1,q/4294967296,om,by go_num,om,ae (by rw[HQ.out,Nat.div_div_eq_div_mul,Nat.pow_succ]),ae (fun _=>by rw[Nat.add_sub_cancel,<-HQ.out];exact hne),hown',hs1,HN⟩
    case measure=>simp[intOf];omega
theorem fE{neg:Bool}{n d:Nat}{w:World}(hn:n<18446744073709551616)(hd:d<18446744073709551616)(hd0:0<d):
 Cl 136 #[.bool neg,.int .u64 n,.int .u64 d] w fun e w'=>∃v,e=.returned v/\dM w' v (neg&&n != 0) (n/Nat.gcd n d) (d/Nat.gcd n d) w.heap.size 67108864/\w.S w':=by
 by_cases h0:n=0
 . subst h0
   have e1:d/Nat.gcd 0 d=1:=by rw[Nat.gcd_zero_left];exact Nat.div_self hd0
   rw[show (neg&&(0:Nat) != 0)=false by simp,Nat.zero_div,e1];have sA:=bJ w (.cells #[.bool false,.n,.n] 44);have rA:=bj.new w (.bool false) (.n) (.n) 44;go_enter Tryz.func136,Tryz.ntmps136;go_wp2_with fail;generalize (w.alloc _)=w1 at*;refine (@dY w1).mono ?_;rintro e w2 ⟨v,rfl,⟨v1,v2,g,h,rfl,N1,N2,b1,b2,ne⟩,s2⟩;have rB:=rA.aA s2;have hz:=rA.lt;have N1':=N1;have N2':=N2;obtain⟨a1,m1,c1,Y1,rfl,-⟩:=N1;obtain⟨a2,m2,c2,Y2,rfl,-⟩:=N2;obtain⟨u0,u1,u2⟩:=rB.g;obtain⟨uf0,uf1,uf2⟩:=rB.k;go_wp2;have r4:=((rB.aE (.bool false)).aG (.slice a1 m1 c1)).aF (.slice a2 m2 c2);refine bodyPost_ret (mu rfl _ _ _ _ _ _ rfl r4) rfl ?_;have M:af w2 _ w.heap.size:=(((af.refl w2 _).setCell 0 (.bool false)).setCell 1 (.slice a1 m1 c1)).setCell 2 (.slice a2 m2 c2);exact⟨_,rfl,⟨_,_,g,h,rfl,N1'.marked M om,N2'.marked M om,om,om,ne⟩,(sA.tr s2).trans (M.since (Nat.le_refl _))⟩
 . have hne:((n:Int)==0)=false:=by simp;omega
   obtain⟨G,hG⟩:∃G,G=Nat.gcd n d:=⟨_,rfl⟩;have hG0:0<G:=by rw[hG];exact Nat.gcd_pos_of_pos_right n hd0
   have hGl:G<18446744073709551616:=by rw[hG];exact Nat.lt_of_le_of_lt (Nat.gcd_le_right n hd0) hd
   have hb:(neg&&n != 0)=neg:=by simp[h0]
   rw[<-hG,hb];have sA:=bJ w (.cells #[.bool false,.n,.n] 44);have rA:=bj.new w (.bool false) (.n) (.n) 44;have JG:=@mG n d (w.alloc (.cells #[.bool false,.n,.n] 44)) hn hd;rw[<-hG] at JG;obtain⟨x,hx⟩:∃x,x=n/G:=⟨_,rfl⟩;obtain⟨y,hy⟩:∃y,y=d/G:=⟨_,rfl⟩;have hxl:x<18446744073709551616:=by rw[hx];exact Nat.lt_of_le_of_lt (Nat.div_le_self _ _) hn
   have hyl:y<18446744073709551616:=by rw[hy];exact Nat.lt_of_le_of_lt (Nat.div_le_self _ _) hd
   have hxd:IntKind.u64.wrap ((n:Int)/(G:Int))=(x:Int):=by rw[<-Int.natCast_ediv,<-hx];exact bT x hxl
   have hyd:IntKind.u64.wrap ((d:Int)/(G:Int))=(y:Int):=by rw[<-Int.natCast_ediv,<-hy];exact bT y hyl
   have hGz:((G:Int)==0)=false:=by simp;omega
   have hGz2:¬(G:Int)=0:=om
   rw[<-hx,<-hy];clear hx hy hG hn hd;go_enter Tryz.func136,Tryz.ntmps136;go_wp2_with fail;refine JG.mono ?_;rintro e w1 ⟨rfl,rfl⟩;generalize (w.alloc _)=w1 at*;have J1:=@oI x w1.drew hxl;go_wp2
   go_region_held (fun _=>True) (trivial)
    (first
      | (go_at_call 166
         first
          | (with_reducible refine J1.mono ?_
             rintro e w2 ⟨v1,g,rfl,N1,b1,s2,z2⟩;have J2:=@oI y w2 hyl;have rC:=rA.drew.aA s2;have N1':=N1;obtain⟨a1,m1,c1,Y1,rfl,-⟩:=N1)
          | (with_reducible refine J2.mono ?_
             rintro e w3 ⟨v2,h,rfl,N2,b2,s3,z3⟩;have N2':=N2;obtain⟨a2,m2,c2,Y2,rfl,-⟩:=N2;have rB:=rC.aA s3;obtain⟨u0,u1,u2⟩:=rB.g;obtain⟨uf0,uf1,uf2⟩:=rB.k)))
   all_goals go_wp2
   all_goals
    have hz:=rA.lt;have zd:w1.drew.heap.size=w1.heap.size:=rfl;have r4:=((rB.aE (.bool neg)).aG (.slice a1 m1 c1)).aF (.slice a2 m2 c2);refine bodyPost_ret (mu rfl _ _ _ _ _ _ rfl r4) rfl ?_;have M:af w3 _ w.heap.size:=(((af.refl w3 _).setCell 0 (.bool neg)).setCell 1 (.slice a1 m1 c1)).setCell 2 (.slice a2 m2 c2);have S1:=ao sA;exact⟨_,rfl,⟨_,_,g,h,rfl,(N1'.aA s3).marked M om,N2'.marked M om,om,om,om⟩,((S1.tr s2).trans (sM s3 (Nat.le_trans S1.size s2.size))).trans (M.since (Nat.le_refl _))⟩
theorem fT{neg:Bool}{v1 v2:Value}{n m:Nat}{A B:Nat->Bool}{w:World}(hn:n<=1073741824)(hm:m<=1073741824)(hA:Tr w v1 n A)(hB:Tr w v2 m B)(hD:0<bv B m):
 Cl 93 #[.bool neg,v1,v2] w fun e w'=>∃v,e=.returned v/\dM w' v (neg&&bv A n != 0) (bv A n/Nat.gcd (bv A n) (bv B m)) (bv B m/Nat.gcd (bv A n) (bv B m)) w.heap.size 67108864/\w.S w':=by
 have hA':=hA;have hB':=hB;obtain⟨a,ba,oa,ca,rfl,hca,LA,tA⟩:=hA;obtain⟨b,bb,ob,cb,rfl,hcb,LB,tB⟩:=hB;have sA:=bJ w (.cells #[.bool false,.n,.n] 44);have rA:=bj.new w (.bool false) (.n) (.n) 44
 by_cases h0:n=0
 . subst h0
   have e0:bv A 0=0:=rfl;rw[e0];have e1:bv B m/Nat.gcd 0 (bv B m)=1:=by rw[Nat.gcd_zero_left];exact Nat.div_self hD
   rw[show (neg&&(0:Nat) != 0)=false by simp,Nat.zero_div,e1];clear e1 e0 tA tB hD hA' hB';go_enter Tryz.func93,Tryz.ntmps93;go_wp2_with fail;generalize (w.alloc _)=w1 at*;refine (dY).mono ?_;rintro e w2 ⟨v,rfl,⟨v1,v2,g,h,rfl,N1,N2,b1,b2,ne⟩,s2⟩;have rB:=rA.aA s2;have hz:=rA.lt;have N1':=N1;have N2':=N2;obtain⟨a1,m1,c1,Y1,rfl,-⟩:=N1;obtain⟨a2,m2,c2,Y2,rfl,-⟩:=N2;obtain⟨u0,u1,u2⟩:=rB.g;obtain⟨uf0,uf1,uf2⟩:=rB.k;go_wp2;have r4:=((rB.aE (.bool false)).aG (.slice a1 m1 c1)).aF (.slice a2 m2 c2);refine bodyPost_ret (mu rfl _ _ _ _ _ _ rfl r4) rfl ?_;have M:af w2 _ w.heap.size:=(((af.refl w2 _).setCell 0 (.bool false)).setCell 1 (.slice a1 m1 c1)).setCell 2 (.slice a2 m2 c2);exact⟨_,rfl,⟨_,_,g,h,rfl,N1'.marked M om,N2'.marked M om,om,om,ne⟩,(sA.tr s2).trans (M.since (Nat.le_refl _))⟩
 . have hne:((n:Int)==0)=false:=by simp;omega
   have hpos:0<bv A n:=mU om (tA om)
   have hb:(neg&&bv A n != 0)=neg:=by
    have h9:bv A n≠0:=om
    simp[h9]
   rw[hb];obtain⟨G,hG⟩:∃G,G=Nat.gcd (bv A n) (bv B m):=⟨_,rfl⟩;have hG0:0<G:=by rw[hG];exact Nat.gcd_pos_of_pos_right _ hD
   have hGl:G<=bv B m:=by rw[hG];exact Nat.gcd_le_right _ hD
   have hGA:G<=bv A n:=by rw[hG];exact Nat.gcd_le_left _ hpos
   rw[<-hG];clear hb;go_enter Tryz.func93,Tryz.ntmps93;go_wp2_with fail;generalize (w.alloc _)=w1 at*;refine (oJ hn hm (hA'.aA sA) (hB'.aA sA)).mono ?_;rintro e w2 ⟨v3,t,O,rfl,ht,T3,e3,s2⟩;rw[<-hG] at e3;obtain⟨a3,b3,o3,c3,rfl,hc3,L3,p3⟩:=T3;have S2:=sA.tr s2;have htm:t<=m:=yv p3 (by rw[e3];exact hGl);clear hG hA' hB';go_wp2_with fail;refine (oK om om (LA.aA S2) L3 p3 (by rw[e3];exact hG0)).mono ?_;rintro e w3 ⟨gq,tq,cq,Q,gr,tr,cr,R,rfl,q1,q2,q3,q4,LQ,-,q5,q6,q7,q8,eQ,-,s3⟩;have S3:=S2.tr s3;go_wp2_with fail;refine (oK om om (LB.aA S3) (L3.aA s3) p3 (by rw[e3];exact hG0)).mono ?_;rintro e w4 ⟨gp,tp,cp,Q',gs,ts,cs,R',rfl,p1,p2,p3',p4,LP,-,p5,p6,p7,p8,eP,-,s4⟩;have S4:=S3.tr s4;have rB:=((rA.aA s2).aA s3).aA s4;rw[e3] at eQ eP;have EE:=ae (And.intro (eQ.trans rfl) (And.intro eP (And.intro (Nat.div_pos hGA hG0) (Nat.div_pos hGl hG0))));clear eQ eP e3 q7 q8 p7 p8 p3 hpos tA tB hD hG0 hGl hGA;go_wp2_with fail;refine (su om q1 (LQ.aA s4)).mono ?_;rintro e w5 ⟨a5,g5,m5,c5,Y5,rfl,x1,x2,L5,x3,F5,l5,y5,e5,s5⟩;go_wp2_with fail;refine (su om p1 (LP.aA s5)).mono ?_;rintro e w6 ⟨a6,g6,m6,c6,Y6,rfl,z1,z2,L6,z3,F6,l6,y6,e6,s6⟩;have rC:=(rB.aA s5).aA s6;obtain⟨u0,u1,u2⟩:=rC.g;obtain⟨uf0,uf1,uf2⟩:=rC.k;have hz:=rB.lt;have b5:=s5.size;have b6:=s6.size;have EF:=ae (And.intro l5 (And.intro y5 (And.intro e5 (And.intro l6 (And.intro y6 e6)))));clear l5 y5 e5 l6 y6 e6;go_wp2;obtain⟨l5,y5,e5,l6,y6,e6⟩:=EF.out;obtain⟨f1,f2,f3,f4⟩:=EE.out
   have k5:0<m5:=by
    rcases Nat.eq_zero_or_pos m5 with h | h
    . subst h;rw[show lv Y5 0=0 from rfl] at e5;omega
    . exact h
   have k6:0<m6:=by
    rcases Nat.eq_zero_or_pos m6 with h | h
    . subst h;rw[show lv Y6 0=0 from rfl] at e6;omega
    . exact h
   have N5:bU w5 (.slice a5 m5 c5) g5 (bv A n/G) 67108864:=⟨a5,m5,c5,Y5,rfl,x1,om,fun h=>(by rw[(L5 0 k5).1] at h;cases h),L5,F5,fun j _=>l5 j,y5,e5.trans f1⟩;have N6:bU w6 (.slice a6 m6 c6) g6 (bv B m/G) 67108864:=⟨a6,m6,c6,Y6,rfl,z1,om,fun h=>(by rw[(L6 0 k6).1] at h;cases h),L6,F6,fun j _=>l6 j,y6,e6.trans f2⟩;have g5l:=L5.lt k5;have x3':=x3 k5;have z3':=z3 k6;have r4:=((rC.aE (.bool neg)).aG (.slice a5 m5 c5)).aF (.slice a6 m6 c6);refine bodyPost_ret (mu rfl _ _ _ _ _ _ rfl r4) rfl ?_;have M:af w6 _ w.heap.size:=(((af.refl w6 _).setCell 0 (.bool neg)).setCell 1 (.slice a5 m5 c5)).setCell 2 (.slice a6 m6 c6);exact⟨_,rfl,⟨_,_,g5,g6,rfl,(N5.aA s6).marked M om,N6.marked M om,by have:=S4.size;omega,by have:=S4.size;omega,om⟩,((S4.tr s5).trans (sM s6 (Nat.le_trans S4.size b5))).trans (M.since (Nat.le_refl _))⟩
theorem oP{f:Bool}{a b:Option Addr}{n ca m cb:Nat}{w:World}:
 Cl 264 #[.agg #[.bool f,.slice a n ca,.slice b m cb]] w fun e w'=>e=.returned (.bool ((n:Int)==0))/\w.S w':=by
 have sA:=bJ w (.cells #[.bool f,.slice a n ca,.slice b m cb] 44);go_enter Tryz.func264,Tryz.ntmps264;go_wp2;go_ret;exact⟨rfl,sA⟩
def po(f f':Bool)(x y:Nat):Int:=if f=f' then (if f then fd y x else fd x y) else if f then-1 else 1
theorem aax{c:Nat}{f f':Bool}{a b a' b':Option Addr}{ba oa n ca bb ob m cb ba' oa' n' ca' bb' ob' m' cb':Nat}{X Y X' Y':Nat->Nat}{w:World}(hn:n+n'+m+m'<=16777216)
 (hX:ag w a ba oa n X)(hY:ag w b bb ob m Y)(hX':ag w a' ba' oa' n' X')(hY':ag w b' bb' ob' m' Y')(hXl:∀j,j<n->X j<4294967296)(hYl:∀j,j<m->Y j<4294967296)(hXl':∀j,j<n'->X' j<4294967296)(hYl':∀j,j<m'->Y' j<4294967296)
 (B:dG w c (.bool f) (.slice a n ca) (.slice b m cb) (.n)):
 Cl 147 #[.p c 0,.agg #[.bool f',.slice a' n' ca',.slice b' m' cb',.n]] w fun e w'=>e=.returned (.i (po f f' (lv X n*lv Y' m') (lv X' n'*lv Y m)))/\w.S w':=by
 by_cases hff:f=f'
 . subst hff
   rw[show po f f (lv X n*lv Y' m') (lv X' n'*lv Y m)=if f then fd (lv X' n'*lv Y m) (lv X n*lv Y' m') else fd (lv X n*lv Y' m') (lv X' n'*lv Y m) by simp[po]];exact yd hn hX hY hX' hY' hXl hYl hXl' hYl' B
 . rw[show po f f' (lv X n*lv Y' m') (lv X' n'*lv Y m)=if f then-1 else 1 by simp[po,hff]]
   exact yc B hff
theorem zy{f f':Bool}{a b a' b':Option Addr}{ba oa n ca bb ob m cb ba' oa' n' ca' bb' ob' m' cb':Nat}{X Y X' Y':Nat->Nat}{w:World}(hn:n+n'+m+m'<=16777216)
 (R:qJ w a b ba oa n ca bb ob m cb X Y)(R':qJ w a' b' ba' oa' n' ca' bb' ob' m' cb' X' Y'):
 Cl 110 #[.agg #[.bool f,.slice a n ca,.slice b m cb],.agg #[.bool f',.slice a' n' ca',.slice b' m' cb']] w fun e w'=>e=.returned (.i (po f f' (lv X n*lv Y' m') (lv X' n'*lv Y m)))/\w.S w':=by
 have sA:w.S ((w.alloc (.cells #[.bool f,.slice a n ca,.slice b m cb] 44)).alloc (.cells #[.bool f',.slice a' n' ca',.slice b' m' cb'] 44)):=(bJ _ _).alloc qz _;have zA:((w.alloc (.cells #[.bool f,.slice a n ca,.slice b m cb] 44)).alloc (.cells #[.bool f',.slice a' n' ca',.slice b' m' cb'] 44)).heap.size=w.heap.size+1+1:=by simp
 have oA:bj ((w.alloc (.cells #[.bool f,.slice a n ca,.slice b m cb] 44)).alloc (.cells #[.bool f',.slice a' n' ca',.slice b' m' cb'] 44)) w.heap.size (.bool f) (.slice a n ca) (.slice b m cb):=(bj.new w _ _ _ _).aA (bJ _ _)
 have pA:bj ((w.alloc (.cells #[.bool f,.slice a n ca,.slice b m cb] 44)).alloc (.cells #[.bool f',.slice a' n' ca',.slice b' m' cb'] 44)) (w.heap.size+1) (.bool f') (.slice a' n' ca') (.slice b' m' cb'):=by
  have:=bj.new (w.alloc (.cells #[.bool f,.slice a n ca,.slice b m cb] 44)) (.bool f') (.slice a' n' ca') (.slice b' m' cb') 44
  simpa using this
 have m1:=R.m0;have m1':=R'.m0;go_enter Tryz.func110,Tryz.ntmps110;go_wp2_with fail;generalize ((w.alloc _).alloc _)=w1 at*;refine (@mM f a b ba oa n ca bb ob m cb X Y w1 om om R.nc R.mc (R.aA sA).LX (R.aA sA).LY R.pX R.pY).mono ?_;rintro e w2 ⟨rfl,s2⟩;have S2:=sA.tr s2;have z2:=s2.size;have p2:=pA.aA s2;have t3:=bJ w2 (.cells #[.bool f,.slice a n ca,.slice b m cb,.n] 182);have c3:=dG.new w2 (.bool f) (.slice a n ca) (.slice b m cb) (.n) 182;have p3:=p2.aA t3;have S3:=S2.tr t3;obtain⟨k0,k1,k2⟩:=p3.g;go_wp2_with fail;generalize w2.alloc _=w3 at*;refine (@mM f' a' b' ba' oa' n' ca' bb' ob' m' cb' X' Y' w3 om om R'.nc R'.mc (R'.aA S3).LX (R'.aA S3).LY R'.pX R'.pY).mono ?_;rintro e w4 ⟨rfl,s4⟩;have S4:=S3.tr s4;have c4:=c3.aA s4;have R4:=R.aA S4;have R4':=R'.aA S4;have J:=@aax w2.heap.size f f' a b a' b' ba oa n ca bb ob m cb ba' oa' n' ca' bb' ob' m' cb' X Y X' Y' w4 hn R4.LX R4.LY R4'.LX R4'.LY R.lX R.lY R'.lX R'.lY c4;obtain⟨z,hz⟩:∃z,z=po f f' (lv X n*lv Y' m') (lv X' n'*lv Y m):=⟨_,rfl⟩;rw[<-hz] at J;have HZ:=ae hz;clear hz;go_wp2_with fail;refine J.mono ?_;rintro e w5 ⟨rfl,s5⟩;go_wp2;go_ret;exact⟨di HZ.out,S4.tr s5⟩
end Go.Proofs.YtclgkofcooibfaaGreatDoor
