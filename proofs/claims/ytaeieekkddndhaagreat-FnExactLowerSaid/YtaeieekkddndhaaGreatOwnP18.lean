import Derived.Test.YtaeieekkddndhaaGreatOwnP16
set_option maxHeartbeats 6400000
set_option maxRecDepth 100000
namespace Go.Proofs.YtaeieekkddndhaaGreat
open Tryz Go.RowKit
variable{w v W V:World}{n m c d k i j l o b p q t r s g h e:Nat}{a A B:Option Addr}{X Y Z:Nat->Nat}{u U:Value}{f F:Bool}
theorem aii(h:Nat.gcd n m∣c):Nat.gcd (Nat.gcd c n) m=Nat.gcd n m:=by
 rw[Nat.gcd_assoc];exact Nat.gcd_eq_right h
theorem ads{u U v3:Value}(Bx:fZ w n (.bool f) u U v3)(H1:fp w u m k 16777216)(H2:fp w U c i 16777216)(H3:fp w v3 d j 16777216)(F:Nat.gcd k i∣j):
 Cl 191 #[.p n 0] w fun e h=>∃aa m,e=.returned aa/\fp h aa m (Nat.gcd k i) 67108864/\w.heap.size<=m/\w.S h:=by
 obtain⟨ah,N,S,af,rfl,n1,n2,n3,LX,FX,V,pX,eX⟩:=H1;obtain⟨b,K,z,ag,rfl,m1,m2,m3,O,FY,W,pY,T⟩:=H2;obtain⟨D,q,A,Z,rfl,k1,k2,k3,P,FZ,H,L,Y⟩:=H3;have b1:=Bx.c1;have b2:=Bx.c2;have b3:=Bx.c3;have a:=js b2 O W pY;have l:=js b3 P H L;rw[T] at a;rw[Y] at l;have sA:=cV w (.o #[.int .u32 1] 135);by_cases C:i=1
 . have E:Nat.gcd k i=1:=(by rw[C];exact Nat.gcd_one_right k);rw[E];rw[show decide (i=1)=true by simp[C]] at a;go_enter func191,ntmps191;go_wp2_with fail;refine a.mono ?_;rintro e g ⟨rfl,rfl⟩;go_wp2;go_ret;exact⟨_,_,rfl,mO g,aC _,sA⟩
 . rw[show decide (i=1)=false by simp[C]] at a;by_cases G:j=1
   . have E:Nat.gcd k i=1:=(by rw[G] at F;exact Nat.dvd_one.1 F);rw[E];rw[show decide (j=1)=true by simp[G]] at l;go_enter func191,ntmps191;go_wp2_with fail;refine a.mono ?_;rintro e g ⟨rfl,o⟩;rw[o];go_wp2_with fail;refine l.mono ?_;rintro e g ⟨rfl,rfl⟩;go_wp2;go_ret;exact⟨_,_,rfl,mO g,aC _,sA⟩
   . rw[show decide (j=1)=false by simp[G]] at l;have J1:=@sL D ah d 0 q A m 0 N S Z af w.drew (aJ _) k2 n2 k1 n1 k3 n3 P LX H V L pX trivial;have HX:=aR (And.intro V pX);have M:=aR (And.intro W pY);have HZ:=aR (And.intro H L);have HG:=aR (aii F);have v:=aR eX;have EY:=aR T;have x:=aR Y;have dr:w.S w.drew:=fq yD;go_enter func191,ntmps191;go_wp2_with fail;refine a.mono ?_;rintro e g ⟨rfl,o⟩;rw[o];go_wp2_with fail;refine l.mono ?_;rintro e g ⟨rfl,o⟩;rw[o];go_wp2
     go_region_held3 (fun h=>h.cell? (jj n 1)=some (.l ah N S)/\h.cell? (jj n 2)=some (.l b K z)/\h.cell? (jj n 3)=some (.l D q A)) (go_keep)
      (first
        | (go_at_call 166;(with_reducible refine J1.mono ?_);rintro e w2 ⟨v4,g4,rfl,⟨a4,s,c4,y,rfl,y1,y2,y3,L4,F4,l4,I,r⟩,ae,s4⟩;have p:=dr.tr s4;have t:=Bx.bH p;have i1:=t.c1;have i2:=t.c2;have i3:=t.c3;have ad:s<=16777216:=by
            rw[x.out,v.out] at r;by_cases ab:k=0
            . have B:lv y s<=lv Z q:=(by rw[r,x.out,ab,rR];exact aC _);have:=lZ HZ.out.1 I B;omega
            . have B:lv y s<=lv af N:=(by rw[r,v.out];exact rE _ om);have:=lZ HX.out.1 I B;omega
           have J2:=@sL a4 b g4 0 s c4 c 0 K z y ag w2 (aJ _) ad m2 y1 m1 y3 m3 L4 (O.bH p) l4 M.out.1 I M.out.2 trivial)
        | (go_at_call 166;(with_reducible refine J2.mono ?_);rintro e w3 ⟨v5,g5,rfl,Q,ac,s5⟩;have R:=p.tr s5;have X:=Bx.bH R;have i1:=X.c1;have i2:=X.c2;have i3:=X.c3))
     rw[r,EY.out,x.out,v.out,HG.out] at Q;go_wp2;go_ret;exact⟨_,g5,rfl,Q,aU p.size ac,R⟩
theorem xe.rD{w w':World}(_h:xe w)(_hw:0<=w.heap.size)(_hc:0<=c)(_s:od c w w'):xe w':=trivial
theorem xe.stay(h:xe w)(a:0<=w.heap.size)(s:w.S v):xe v:=h.rD (c:=w.heap.size) a om (od.mK _ s)
theorem adH{v1 v2 v3:Value}{N D K B:Nat}(hw:0<=w.heap.size)(hT:xe w)(Bx:fZ w c (.bool f) v1 v2 v3)(H1:fp w v1 g N 16777216)(H2:fp w v2 h D 16777216)(H3:fp w v3 q K 16777216)(hK:Nat.gcd N D∣K)
 (hgh:g≠h)(hgl:g<w.heap.size)(hhl:h<w.heap.size)(hg:B<=g)(hh:B<=h)(hB:B<=w.heap.size)(_hc:B<=c)(h1:Nat.gcd N D=1):
 Cl 176 #[.p c 0] w fun e w'=>∃v,e=.returned v/\pe w' v (f&&N != 0) N D B 16777218/\w.Since B w':=by
 have H1s:=H1;have H2s:=H2;obtain⟨a,n,ca,X,rfl,n1,n2,n3,LX,FX,lX,pX,eX⟩:=H1;obtain⟨b,m,cb,Y,rfl,m1,m2,m3,LY,FY,lY,pY,eY⟩:=H2;have hcl:=Bx.lt;have sA:=cV w yJ;have rA:=cR.new w (.bool false) (.n) (.n) 83;have bA:=Bx.bH sA;have tA:=hT.stay hw sA;have wA:0<=(w.alloc yJ).heap.size:=aJ _;have XA:=LX.bH sA;have YA:=LY.bH sA;go_enter func176,ntmps176;go_wp2_with fail;generalize w.alloc _=w1 at*;have J1:=ads bA (H1s.bH sA) (H2s.bH sA) (H3.bH sA) hK;rw[h1] at J1;have k0:=bA.c1;have k1:=bA.c2;have z1:=rA.lt;have E:=aR (And.intro lX (And.intro pX (And.intro lY pY)));refine J1.mono ?_;rintro e w2 ⟨v4,g3,rfl,⟨a3,k3,c3,Z,rfl,y1,y2,y3,L3,F3,l3,p3,e3⟩,hg3,S2⟩;have b2:=bA.bH S2;have r2:=rA.bH S2;go_wp2_with fail;have t3:=cV w2 (.o #[.l a3 k3 c3] 138);have b3:=b2.bH t3;have r3:=r2.bH t3;have L4:=L3.bH t3;have S3:=S2.tr t3;have Q0:(w2.alloc (.o #[.l a3 k3 c3] 138)).cell? (jj w2.heap.size 0)=some (.l a3 k3 c3):=by simp[go_sem]
 generalize w2.alloc _=w3 at*;generalize w2.heap.size=q at*;have SW:=sA.trans (sM S3 (by have:=sA.size;omega));have N4:=(H1s.bH SW).more (show 16777216<=16777218 by omega);have D4:=(H2s.bH SW).more (show 16777216<=16777218 by omega);have S4:=fq (sM SW hB);have hg4:g≠w.heap.size:=om;have hh4:h≠w.heap.size:=om;have hnz:((n:Int)==0)= !(N != 0):=by
  have hN:n=0↔N=0:=by
   rw[<-eX];constructor
   . intro h;rw[h];rfl
   . intro h;rcases cQ n with e | e
     . exact e
     . have:=zy X n e (E.out.2.1 e);have:=fX (n:=32*(n-1)) (show 0<2 by omega);omega
  rw[gG];simp;omega
 have HZ:=aR hnz;clear hnz;have e4:decide (lv Z k3=1)=true:=by simp[e3]
 have I1:=js Q0 L4 l3 p3;rw[e4] at I1;refine I1.mono ?_;rintro e w4 ⟨rfl,rfl⟩;obtain⟨j0,j1,j2⟩:=b3.g;obtain⟨u0,u1,u2⟩:=r3.g;obtain⟨uf0,uf1,uf2⟩:=r3.k;have I2:=dp b3.drew.c1;have hne:=qY hcl;cases f
 . go_wp2;first | go_region_held (fun w'=>w'.cell? (jj c 0)=some (.bool false)/\w'.cell? (jj c 1)=some (.l a n ca)/\w'.cell? (jj c 2)=some (.l b m cb)) (go_keep) (fail) | fail
   all_goals go_wp2
   all_goals
    have r4:=((r3.drew.gH (.bool false)).gM (.l a n ca)).gZ (.l b m cb);refine bO (re rfl _ _ _ _ _ _ rfl r4) rfl ?_;have M:aV w4.drew _ w.heap.size:=(((aV.refl w4.drew _).setCell 0 (.bool false)).setCell 1 (.l a n ca)).setCell 2 (.l b m cb);exact⟨_,rfl,⟨_,_,g,h,rfl,N4.drew.marked M hg4,D4.drew.marked M hh4,hg,hh,hgh⟩,S4.trans (M.since hB)⟩
 . go_wp2
   go_region_held3 (fun w'=>w'.cell? (jj c 0)=some (.bool true)/\w'.cell? (jj c 1)=some (.l a n ca)/\w'.cell? (jj c 2)=some (.l b m cb)) (go_keep)
    (first | (go_at_call 193;with_reducible refine I2.mono ?_;rintro e w5 ⟨rfl,rfl⟩))
   all_goals go_wp2
   all_goals
    have r4:=((r3.drew.gH (.bool (!((n:Int)==0)))).gM (.l a n ca)).gZ (.l b m cb);refine bO (re rfl _ _ _ _ _ _ rfl r4) rfl ?_;have M:aV w4.drew _ w.heap.size:=(((aV.refl w4.drew _).setCell 0 (.bool (!((n:Int)==0)))).setCell 1 (.l a n ca)).setCell 2 (.l b m cb);rw[HZ.out] at M⊢;exact⟨_,rfl,⟨_,_,g,h,qz,N4.drew.marked M hg4,D4.drew.marked M hh4,hg,hh,hgh⟩,S4.trans (M.since hB)⟩
section
variable{w w':World}{a:Option Addr}{d g off n N M:Nat}{X:Nat->Nat}{v x y z:Value}
theorem cR.nH(h:cR w d x y z)(e:w'.heap[d]?=w.heap[d]?):cR w' d x y z:=
 ⟨(aO (w:=w) (a:=jj d 0) e).trans h.c0,(aO (w:=w) (a:=jj d 1) e).trans h.c1,(aO (w:=w) (a:=jj d 2) e).trans h.c2,fun k=>(dK (w:=w) (a:=jj d k) e).trans (h.f k)⟩
theorem bE.nH(h:bE w a g off n X)(e:0<n->w'.heap[g]?=w.heap[g]?):bE w' a g off n X:=
 fun j b=>⟨(h j b).1,(aO (w:=w) (a:=jj g (off+j)) (e om)).trans (h j b).2⟩
theorem fp.nH(h:fp w v g N M)(e:g<w.heap.size->w'.heap[g]?=w.heap[g]?):fp w' v g N M:=by
 obtain⟨a,m,d,Y,f,i,j,k,c,l,n,p,q⟩:=h;exact⟨a,m,d,Y,f,i,j,k,c.nH (fun b=>e (c.lt b)),fun b o=>(dK (w:=w) (a:=jj g o) (e (c.lt b))).trans (l b o),n,p,q⟩
theorem fp.place(h:fp w v g N M)(n:Nat):g<w.heap.size∨fp w v n N M:=by
 obtain⟨a,m,b,Y,d,f,i,k,l,r,c,o,p⟩:=h;rcases cQ m with e | e
 . subst e;exact Or.inr ⟨a,0,b,Y,d,f,i,k,fun j q=>absurd q om,fun h=>absurd h om,c,o,p⟩
 . exact Or.inl (l.lt e)
end
theorem jr(p:0<n->X (n-1)≠0):n=0↔lv X n=0:=by
 constructor
 . intro h;rw[h];rfl
 . intro h;rcases cQ n with e | e
   . exact e
   . have:=zy X n e (p e);have:=fX (n:=32*(n-1)) (show 0<2 by omega);omega
theorem aaY{N:Nat}(a:0<n):N/Nat.gcd N n=0↔N=0:=by
 have b:=lQ N a;constructor
 . intro h;rcases cQ N with e | e
   . exact e
   . have:=tS (rK n e) b;omega
 . intro h;rw[h];exact Nat.zero_div _
theorem adI{v1 v2 v3:Value}{N D K B:Nat}(hw:0<=w.heap.size)(hT:xe w)(Bx:fZ w c (.bool f) v1 v2 v3)(H1:fp w v1 g N 16777216)(H2:fp w v2 h D 16777216)(H3:fp w v3 q K 16777216)(hK:Nat.gcd N D∣K)
 (hgh:g≠h)(hgl:g<w.heap.size)(hhl:h<w.heap.size)(hcg:c≠g)(hch:c≠h)(hg:B<=g)(hh:B<=h)(hB:B<=w.heap.size)(hc:B<=c)(hD:0<D)(h1:Nat.gcd N D≠1):
 Cl 176 #[.p c 0] w fun e w'=>∃v,e=.returned v/\pe w' v (f&&N != 0) (N/Nat.gcd N D) (D/Nat.gcd N D) B 16777218/\w.Since B w':=by
 have H1s:=H1;have H2s:=H2;obtain⟨a,n,ca,X,rfl,n1,n2,n3,LX,FX,lX,pX,eX⟩:=H1;obtain⟨b,m,cb,Y,rfl,m1,m2,m3,LY,FY,lY,pY,eY⟩:=H2;have hcl:=Bx.lt;have sA:=cV w yJ;have rA:=cR.new w (.bool false) (.n) (.n) 83;have bA:=Bx.bH sA;have tA:=hT.stay hw sA;have wA:0<=(w.alloc yJ).heap.size:=aJ _;have XA:=LX.bH sA;have YA:=LY.bH sA;obtain⟨G,hG⟩:∃G,G=Nat.gcd N D:=⟨_,rfl⟩;have hG0:0<G:=by rw[hG];exact lQ N hD
 have hGD:G<=D:=by rw[hG];exact rE N hD
 have hGz:=aR (aaY (N:=N) hD);rw[<-hG] at hGz h1⊢;go_enter func176,ntmps176;go_wp2_with fail;generalize w.alloc _=w1 at*;have J1:=ads bA (H1s.bH sA) (H2s.bH sA) (H3.bH sA) hK;rw[<-hG] at J1;have k0:=bA.c1;have k1:=bA.c2;have z1:=rA.lt;have E:=aR (And.intro lX (And.intro pX (And.intro lY pY)));clear lX pX lY pY hG;refine J1.mono ?_;rintro e w2 ⟨v4,g3,rfl,⟨a3,k3,c3,Z,rfl,y1,y2,y3,L3,F3,l3,p3,e3⟩,hg3,S2⟩;clear J1;have b2:=bA.bH S2;have r2:=rA.bH S2;go_wp2_with fail;have t3:=cV w2 (.o #[.l a3 k3 c3] 138);have b3:=b2.bH t3;have r3:=r2.bH t3;have L4:=L3.bH t3;have S3:=S2.tr t3;have Q0:(w2.alloc (.o #[.l a3 k3 c3] 138)).cell? (jj w2.heap.size 0)=some (.l a3 k3 c3):=by simp[go_sem]
 have hg1:w1.heap.size<=g3:=hg3;have hq1:w1.heap.size<=w2.heap.size:=S2.size;generalize w2.alloc _=w3 at*;generalize w2.heap.size=q at*;have z0:w.heap.size<w1.heap.size:=rA.lt;have SW:=sA.trans (sM S3 (by have:=sA.size;omega));have hq2:q<w3.heap.size:=aG _ _ Q0;have hk3:0<k3:=by
  rcases cQ k3 with e | e
  . subst e;rw[show lv Z 0=0 from rfl] at e3;omega
  . exact e
 have hkm:k3<=m:=by
  rcases jI m k3 with hlt | hge
  . have:=tt (A:=Y) (B:=Z) E.out.2.2.1 hlt p3;omega
  . exact hge
 have hg3l:g3<w3.heap.size:=L4.lt hk3;have e4:decide (lv Z k3=1)=false:=by rw[e3];simp[h1]
 have I1:=js Q0 L4 l3 p3;rw[e4] at I1;clear e4;have EZ:=aR (And.intro l3 (And.intro p3 e3));clear l3 p3 e3;refine I1.mono ?_;rintro e w4 ⟨rfl,rfl⟩;clear I1;have N4:=(H1s.bH SW).drew;have D4:=(H2s.bH SW).drew;have X4:bE w4.drew a g 0 n X:=LX.bH (fq SW);have F4:0<n->∀x,w4.drew.frozen? (jj g x)=false:=fun h0 x=>((fq SW).frozen (a:=jj g x) hgl).trans (FX h0 x);have JD:=@sj c 1 a a3 g n ca g3 k3 c3 X Z w4.drew om n1 n3 hk3 om b3.drew.c1 (b3.drew.f 1) X4 L4.drew E.out.1 EZ.out.1 F4 hcg (fun _=>by show g<w4.heap.size;omega) E.out.2.1 (EZ.out.2.1 hk3);rw[eX,EZ.out.2.2] at JD;have Q1:w4.drew.cell? (jj q 0)=some (.l a3 k3 c3):=Q0;have hqc:q≠c:=om;have hqg:q≠g:=om;have Q2:=Q0;have zd:w4.drew.heap.size=w4.heap.size:=rfl;go_wp2
 go_region_held3 (fun w'=>w'.cell? (jj q 0)=some (.l a3 k3 c3)) (go_keep)
  (first
    | (go_at_call 192;(with_reducible refine JD.mono ?_);rintro e w5 ⟨vq,vr,gq,gr,rfl,cr,⟨aq,nq,cq,U,rfl,u1,u2,u3,LU,FU,lU,pU,eU⟩,Nr,hq3,hr3,d1,d2,d3,Fq⟩;have i1:w5.cell? (jj q 0)=some (.l a3 k3 c3):=(aO (w:=w4.drew) (a:=jj q 0) (Fq.block q hq2 hqc hqg)).trans Q1;have fz:w5.frozen? (jj c 1)=false:=(Fq.frozen 1).trans (b3.f 1);have hcq:c≠q:=by omega))
 have z5:=Fq.size;have Nq:fp w5 (.l aq nq cq) gq (N/G) 16777218:=⟨aq,nq,cq,U,rfl,u1,om,u3,LU,FU,lU,pU,eU⟩;have b5:fZ w5 c (.bool f) vr (.l b m cb) v3:=⟨(Fq.cell 0 qd).trans b3.c0,cr,(Fq.cell 2 qd).trans b3.c2,(Fq.cell 3 qd).trans b3.c3,fun k=>(Fq.frozen k).trans (b3.f k)⟩;have b6:=b5.gM (.l aq nq cq);have M6:aV w5 (w5.setCell (jj c 1) (.l aq nq cq)) c:=(aV.refl w5 _).setCell _ _;have r6:=(r3.drew.nH (Fq.block w.heap.size (by show w.heap.size<w4.heap.size;omega) om om)).marked M6 om;have N6:=Nq.marked M6 d2;have D6:=(D4.nH (fun _=>Fq.block h (by show h<w4.heap.size;omega) om om)).marked M6 om;have L6:=(L4.drew.nH (fun _=>Fq.block g3 hg3l om om)).marked M6 (fun _=>by omega);have Q6:(w5.setCell (jj c 1) (.l aq nq cq)).cell? (jj q 0)=some (.l a3 k3 c3):=(M6.cell (a:=jj q 0) hqc).trans i1;have z6:=M6.size;have S6:w.Since B (w5.setCell (jj c 1) (.l aq nq cq)):=by have s4:w.Since B w4.drew:=fq (sM SW hB);have s5:w4.drew.Since B w5:=⟨Fq.os,Fq.tape,Fq.output,Fq.size,fun k hk=>Fq.block k (by show k<w4.heap.size;omega) om om⟩;exact (s4.trans s5).trans (M6.since hc)
 clear LU FU lU pU u1 u2 u3 b5 cr Nr N4 D4 L4 Q0 Q1 Q2 i1 fz;go_wp2_with fail;generalize w5.setCell (jj c 1) (.l aq nq cq)=w6 at*;obtain⟨b',m',cb',Y',ev,m1',m2',m3',LY6,FY6,lY6,pY6,eY6⟩:=D6;obtain⟨rfl,rfl,rfl⟩:b'=b/\m'=m/\cb'=cb:=by simp at ev;exact⟨ev.1.symm,ev.2.1.symm,ev.2.2.symm⟩
 have JE:=@sj c 2 b' a3 h m' cb' g3 k3 c3 Y' Z w6.drew om m1' m3' hk3 om b6.drew.c2 (b6.drew.f 2) LY6.drew L6.drew lY6 EZ.out.1 FY6 hch (fun _=>by show h<w6.heap.size;omega) pY6 (EZ.out.2.1 hk3);rw[eY6,EZ.out.2.2] at JE;clear lY6 pY6 eY6 ev LY6 FY6;have hqh:q≠h:=om;have Q7:w6.drew.cell? (jj q 0)=some (.l a3 k3 c3):=Q6;have hq6:q<w6.drew.heap.size:=by show q<w6.heap.size;omega
 go_wp2
 go_region_held3 (fun w'=>w'.cell? (jj q 0)=some (.l a3 k3 c3)) (go_keep)
  (first
    | (go_at_call 192;(with_reducible refine JE.mono ?_);rintro e w7 ⟨vq,vr,gp,gs,rfl,cr,⟨ap,np,cp,V,rfl,u1,u2,u3,LU,FU,lU,pU,eV⟩,Nr,hp3,hs3,d4,d5,d6,Fp⟩;have i1:w7.cell? (jj q 0)=some (.l a3 k3 c3):=(aO (w:=w6.drew) (a:=jj q 0) (Fp.block q hq6 hqc hqh)).trans Q7;have fz:w7.frozen? (jj c 2)=false:=(Fp.frozen 2).trans (b6.f 2);have hcq:c≠q:=by omega))
 have z7:=Fp.size;have zd6:w6.drew.heap.size=w6.heap.size:=rfl;have Np:fp w7 (.l ap np cp) gp (D/G) 16777218:=⟨ap,np,cp,V,rfl,u1,om,u3,LU,FU,lU,pU,eV⟩;have b7:fZ w7 c (.bool f) (.l aq nq cq) vr v3:=⟨(Fp.cell 0 qd).trans b6.c0,(Fp.cell 1 qd).trans b6.c1,cr,(Fp.cell 3 qd).trans b6.c3,fun k=>(Fp.frozen k).trans (b6.f k)⟩;have b8:=b7.gZ (.l ap np cp);have M8:aV w7 (w7.setCell (jj c 2) (.l ap np cp)) c:=(aV.refl w7 _).setCell _ _;have r8:=(r6.drew.nH (Fp.block w.heap.size (by show w.heap.size<w6.heap.size;omega) om om)).marked M8 om;have hqh2:gq≠h:=om;have N8:=(N6.drew.nH (fun hl=>Fp.block gq hl d2 hqh2)).marked M8 d2;have P8:=Np.marked M8 d5;have z8:=M8.size;have S8:w.Since B (w7.setCell (jj c 2) (.l ap np cp)):=by have s7:w6.drew.Since B w7:=⟨Fp.os,Fp.tape,Fp.output,Fp.size,fun k hk=>Fp.block k (by show k<w6.heap.size;omega) om om⟩;exact ((fq S6).trans s7).trans (M8.since hc)
 have hnz:((nq:Int)==0)= !(N != 0):=by
  obtain⟨a9,m9,c9,Y9,e9,-,-,-,-,-,-,p9,v9⟩:=N8;have:m9=nq:=by simp at e9;exact e9.2.1.symm
  subst this;have hN:=(jr p9);rw[v9,hGz.out] at hN;rw[gG];simp;omega
 have HZ:=aR hnz;clear hnz LU FU lU pU u1 u2 u3 b7 cr Nr Q6 Q7 i1 fz;have hpl:gp=h∨w6.heap.size<=gp:=hp3;have gq1:gq=g∨w4.heap.size<=gq:=hq3;obtain⟨g',hg',hBg',hg'1,N9⟩:∃g',g'≠gp/\B<=g'/\g'≠w.heap.size/\fp (w7.setCell (jj c 2) (.l ap np cp)) (.l aq nq cq) g' (N/G) 16777218:=by
  rcases N6.place (gp+1+w.heap.size) with hl | hp
  . exact⟨gq,om,om,om,N8⟩
  . refine⟨gp+1+w.heap.size,om,om,om, ?_⟩;rcases N8.place (gp+1+w.heap.size) with hl8 | hp8
    . obtain⟨a9,m9,c9,Y9,e9,q1,q2,q3,L9,-,q5,q6,q7⟩:=hp;obtain⟨a8,m8,c8,Y8,e8,r1,r2,r3,L8,F8,r5,r6,r7⟩:=N8;rcases cQ m8 with e0 | e0
      . exact⟨a8,m8,c8,Y8,e8,r1,r2,r3,fun j hj=>absurd hj om,fun hj=>absurd hj om,r5,r6,r7⟩
      . have e89:m8=m9/\a8=a9:=(by rw[e8] at e9;simp at e9;exact⟨e9.2.1,e9.1⟩);have x8:=(L8 0 e0).1;have x9:=(L9 0 om).1;rw[e89.2,x9] at x8;simp at x8;rw[x8];exact⟨a8,m8,c8,Y8,e8,r1,r2,r3,L8,F8,r5,r6,r7⟩
    . exact hp8
 clear N6 N8 hq3 hp3;have hBp:B<=gp:=om;have hgp1:gp≠w.heap.size:=om;go_wp2_with fail;generalize w7.setCell (jj c 2) (.l ap np cp)=w8 at*;obtain⟨j0,j1,j2⟩:=b8.g;obtain⟨u0,u1,u2⟩:=r8.g;obtain⟨uf0,uf1,uf2⟩:=r8.k;have I2:=dp b8.drew.c1;have hne:w.heap.size≠c:=qY hcl;cases f
 . go_wp2;first | go_region_held (fun w'=>w'.cell? (jj c 0)=some (.bool false)/\w'.cell? (jj c 1)=some (.l aq nq cq)/\w'.cell? (jj c 2)=some (.l ap np cp)) (go_keep) (fail) | fail
   all_goals go_wp2
   all_goals
    have r4:=((r8.drew.gH (.bool false)).gM (.l aq nq cq)).gZ (.l ap np cp);refine bO (re rfl _ _ _ _ _ _ rfl r4) rfl ?_;have M:aV w8.drew _ w.heap.size:=(((aV.refl w8.drew _).setCell 0 (.bool false)).setCell 1 (.l aq nq cq)).setCell 2 (.l ap np cp);exact⟨_,rfl,⟨_,_,g',gp,rfl,N9.drew.marked M hg'1,P8.drew.marked M hgp1,hBg',hBp,hg'⟩,(fq S8).trans (M.since hB)⟩
 . go_wp2
   go_region_held3 (fun w'=>w'.cell? (jj c 0)=some (.bool true)/\w'.cell? (jj c 1)=some (.l aq nq cq)/\w'.cell? (jj c 2)=some (.l ap np cp)) (go_keep)
    (first | (go_at_call 193;with_reducible refine I2.mono ?_;rintro e w9 ⟨rfl,rfl⟩))
   all_goals go_wp2
   all_goals
    have r4:=((r8.drew.gH (.bool (!((nq:Int)==0)))).gM (.l aq nq cq)).gZ (.l ap np cp);refine bO (re rfl _ _ _ _ _ _ rfl r4) rfl ?_;have M:aV w8.drew _ w.heap.size:=(((aV.refl w8.drew _).setCell 0 (.bool (!((nq:Int)==0)))).setCell 1 (.l aq nq cq)).setCell 2 (.l ap np cp);rw[HZ.out] at M⊢;exact⟨_,rfl,⟨_,_,g',gp,qz,N9.drew.marked M hg'1,P8.drew.marked M hgp1,hBg',hBp,hg'⟩,(fq S8).trans (M.since hB)⟩
theorem uQ(y:c<=67108864)(t:c<=d)(l:a=none->d=0)(k:bE w a n m c X)(u:0<c->X (c-1)≠0):
 Cl 106 #[.slice a c d] w fun e f=>∃z b g,e=.returned (.slice z c b)/\c<=b/\(z=none->b=0)/\bE f z g 0 c X/\(0<c->w.heap.size<=g/\g<f.heap.size/\∀o,f.frozen? (jj g o)=false)/\w.S f:=by
 refine (rq om t l k).mono ?_;rintro e f ⟨v,rfl,o,s⟩;rw[df u] at o;have A:= @World.ownsRow.cells _ _ _ _ _ _ _ o;obtain⟨_,⟨rfl,rfl⟩ | ⟨g,b,x,rfl,p,hb,r,_⟩⟩:=o
 . exact⟨none,0,0,rfl,aC _,fun _=>rfl,fun j i=>absurd i om,fun h=>absurd h om,s⟩
 . refine⟨_,b,g,rfl,r,(fun h=>by cases h),fun j i=>⟨rfl, ?_⟩,fun h=>⟨p, ?_,fun o=>by simp[World.frozen?,hb]⟩,s⟩
   . have:=A (g:=g) rfl j (.int .u32 (X j)) (vL X c j i);rw[Go.WideShapes.add_plain] at this;exact this
   . obtain⟨q,_⟩:=dM.1 hb;exact q
theorem abL{n m:Nat}{a:Option Addr}{c d k i:Nat}{X:Nat->Nat}{A:Option Addr}{j l o:Nat}{Y:Nat->Nat}{w:World}(hm:k<=16777216)(hk:l<=16777216)(E:0<l)(ac:w.cell? (jj n m)=some (.l a k i))(ad:k<=i)(ab:a=none->i=0)(hY:bE w a c d k X)
 (V:∀g,g<k->X g<4294967296)(pY:0<k->X (k-1)≠0)(Q:bE w A j 0 l Y)(W:∀g,g<l->Y g<4294967296)(pZ:0<l->Y (l-1)≠0):
 Cl 194 #[.p n m,.slice A l o] w fun e w'=>∃(ai:Option Addr) (aa ag s L:Nat) (Z:Nat->Nat),e=.returned (.slice ai s L)/\s<=L/\s<=k/\(ai=none->L=0)/\bE w' ai aa ag s Z/\(∀g,g<s->Z g<4294967296)/\(0<s->Z (s-1)≠0)/\
  lv Z s=lv X k/lv Y l/\(0<s->(aa=c/\0<k)∨w.heap.size<=aa)/\w.S w':=by
 have C:=cV w (.o #[.l A l o] 138);have qA:(w.alloc (.o #[.l A l o] 138)).cell? (jj w.heap.size 0)=some (.l A l o):=by simp[go_sem]
 have ae:n<w.heap.size:=aG _ _ ac;have cA:(w.alloc (.o #[.l A l o] 138)).cell? (jj n m)=some (.l a k i):=(C.cell (a:=jj n m) ae).trans ac;have zA:w.heap.size<(w.alloc (.o #[.l A l o] 138)).heap.size:=by simp
 have YA:=hY.bH C;have ZA:=Q.bH C;have t:=js qA ZA W pZ;by_cases P:lv Y l=1
 . rw[show decide (lv Y l=1)=true by simp[P]] at t;rw[P,pI];go_enter func194,ntmps194;go_wp2_with fail;generalize w.alloc _=w1 at*;refine t.mono ?_;rintro e f ⟨rfl,u⟩;rw[u];clear u f t;go_wp2;go_ret;exact⟨a,c,d,k,i,X,rfl,ad,aC _,ab,YA,V,pY,rfl,fun h=>Or.inl ⟨rfl,h⟩,C⟩
 . rw[show decide (lv Y l=1)=false by simp[P]] at t;have G:=uQ om ad ab YA pY;go_enter func194,ntmps194;go_wp2_with fail;generalize w.alloc _=w1 at*;refine t.mono ?_;rintro e f ⟨rfl,u⟩;rw[u];clear u f t;go_wp2_with fail;refine G.mono ?_;rintro e f ⟨q,r,N,rfl,x1,x2,L2,x3,s2⟩;have S2:=C.tr s2;have q2:=(s2.cell (a:=jj w.heap.size 0) zA).trans qA;have z2:=s2.size;have F:=cV f (.o #[.l q k r] 138);have p:w.S (f.alloc (.o #[.l q k r] 138)):=S2.tr F;have q3:=(F.cell (a:=jj w.heap.size 0) (show w.heap.size<f.heap.size by omega)).trans q2;have b3:(f.alloc (.o #[.l q k r] 138)).cell? (jj f.heap.size 0)=some (.l q k r):=(by simp[go_sem]);have f3:(f.alloc (.o #[.l q k r] 138)).frozen? (jj f.heap.size 0)=false:=(by simp[go_sem]);have L3:=L2.bH F;have F3:0<k->∀x,(f.alloc (.o #[.l q k r] 138)).frozen? (jj N x)=false:=fun h x=>(F.frozen (a:=jj N x) (x3 h).2.1).trans ((x3 h).2.2 x);have z3:f.heap.size<(f.alloc (.o #[.l q k r] 138)).heap.size:=(by simp);by_cases af:0<k
   . have y3:=x3 af;have v:=@sj f.heap.size 0 q A N k r j l o X Y (f.alloc (.o #[.l q k r] 138)) om x1 x2 E om b3 f3 L3 (Q.bH p) V W F3 om (fun h=>by omega) pY (pZ E);go_wp2_with fail;generalize f.alloc _=w3 at*;refine v.mono ?_;rintro e w4 ⟨vq,vr,O,gr,rfl,S,⟨K,nq,M,U,rfl,u1,u2,u3,H,FU,T,B,y⟩,-,k4,-,-,-,-,b⟩;have I:w.S w4:=⟨b.os.trans p.os,b.tape.trans p.tape,b.output.trans p.output,aU p.size b.size,fun D R=>(b.block D om om om).trans (p.block D R)⟩;have hl:nq<=k:=lZ V B (by rw[y];exact iV _ _);clear v G S b;go_wp2;go_ret;exact⟨K,O,0,nq,M,U,rfl,u1,hl,u3,H,T,B,y,fun _=>Or.inr om,I⟩
   . have e0:k=0:=om;subst e0;have ah:lv X 0=0:=rfl;have v:=@sj f.heap.size 0 q A (f.heap.size+1) 0 r j l o X Y (f.alloc (.o #[.l q 0 r] 138)) om x1 x2 E om b3 f3 (fun g z=>absurd z om) (Q.bH p) (fun g z=>absurd z om) W (fun h=>absurd h om) om (fun h=>absurd h om) (fun h=>absurd h om) (pZ E);go_wp2_with fail;generalize f.alloc _=w3 at*;refine v.mono ?_;rintro e w4 ⟨vq,vr,O,gr,rfl,S,⟨K,nq,M,U,rfl,u1,u2,u3,H,FU,T,B,y⟩,-,k4,-,-,-,-,b⟩;have I:w.S w4:=⟨b.os.trans p.os,b.tape.trans p.tape,b.output.trans p.output,aU p.size b.size,fun D R=>(b.block D om om om).trans (p.block D R)⟩;have hl:nq<=0:=lZ (X:=U) (Y:=X) (m:=0) (fun g z=>absurd z om) B (by rw[y];exact iV _ _);clear v G S b;go_wp2;go_ret;exact⟨K,O,0,nq,M,U,rfl,u1,hl,u3,H,T,B,y,fun h=>absurd h om,I⟩
theorem aij(h:∀d,d∣c->(d∣n↔d∣m)):Nat.gcd n c=Nat.gcd m c:=by
 apply Nat.dvd_antisymm
 . exact Nat.dvd_gcd ((h _ (jD _ _)).1 (jQ _ _)) (jD _ _)
 . exact Nat.dvd_gcd ((h _ (jD _ _)).2 (jQ _ _)) (jD _ _)
theorem aeu(h:Nat.gcd n m=1)(e:Nat.gcd c d=1):Nat.gcd (n*c) (m*d)∣Nat.gcd n d*Nat.gcd c m:=by
 have b:=Nat.gcd_mul_right_dvd_mul_gcd (n*c) m d;have a:Nat.gcd (n*c) m=Nat.gcd c m:=Nat.Coprime.gcd_mul_left_cancel c h;have f:Nat.gcd (n*c) d=Nat.gcd n d:=Nat.Coprime.gcd_mul_right_cancel n e;rw[a,f,cJ (Nat.gcd c m)] at b;exact b
theorem anL{n:Nat}{u U g:Value}{a A:Option Addr}{m c d k i j l o:Nat}{X Y:Nat->Nat}{w:World}(y:d<=67108864)(t:l<=67108864)(z:bE w a m c d X)(p:bE w A i j l Y)
 (C:∀f,f<d->X f<4294967296)(q:∀f,f<l->Y f<4294967296)(B:fZ w n u U g (.l a d k)):
 Cl 142 #[.p n 3,.slice A l o] w fun e b=>e=.returned (.tuple #[])/\∃v,fZ b n u U g v/\fp b v w.heap.size (lv X d*lv Y l) (d+l)/\od n w b/\w.heap.size<b.heap.size:=by
 refine (pn y t z p C q B.c3 (B.f 3)).mono ?_;rintro e b ⟨rfl,D,P,s,r,x,h,rfl⟩;have M:=(aV.refl D n).setCell 3 (.s w.heap.size (gi (nz P) (d+l)) (d+l));exact⟨rfl,_,(B.bH s).rL _,(dy r x h).marked M (qY B.lt),(od.mK n s).trans (od.i8 M),by rw[M.size];exact r.lt⟩
theorem eP(h:fp w u n (Nat.gcd m c) d)(r:0<c)(l:∀j,j<k->X j<4294967296)(e:lv X k=c):fp w u n (Nat.gcd m c) k:=by
 obtain⟨a,x,v,t,rfl,f,s,i,o,p,q,b,g⟩:=h;exact⟨a,x,v,t,rfl,f,lZ l b (by rw[g,e];exact rE _ r),i,o,p,q,b,g⟩
theorem acf{n:Nat}{f F:Bool}{a A B M:Option Addr}{m c d k i j l o b p q t r s g h:Nat}{X Y Z P:Nat->Nat}{w:World}(hn:d<=16777216)(hm:l<=16777216)(bc:q<=16777216)(a7:g<=16777216)
 (hX:bE w a m c d X)(hY:bE w A i j l Y)(al:bE w B b p q Z)(ao:bE w M r s g P)(am:∀N,N<d->X N<4294967296)(ad:∀N,N<l->Y N<4294967296)(an:∀N,N<q->Z N<4294967296)(ae:∀N,N<g->P N<4294967296)
 (ea:0<d->m≠n)(eb:0<l->i≠n)(ak:0<q->b≠n)(av:0<g->r≠n)(pX:0<d->X (d-1)≠0)(pY:0<l->Y (l-1)≠0)(bg:0<q->Z (q-1)≠0)(bh:0<g->P (g-1)≠0)(bd:d<=k)(a8:l<=o)(bf:q<=t)(a9:g<=h)(ay:a=none->k=0)(a0:A=none->o=0)(az:B=none->t=0)(a1:M=none->h=0)
 (aw:0<lv Y l)(ax:0<lv P g){u U:Value}(b2:fZ w n (.bool f) (.l a d k) (.l A l o) u):
 Cl 178 #[.p n 0,.agg #[.bool F,.slice B q t,.slice M g h,U]] w fun e L=>e=.returned (.tuple #[])/\∃bz b0 T ab ac bi,fZ L n (.bool (f != F)) bz b0 T/\fp L T bi (Nat.gcd (lv X d) (lv P g)*Nat.gcd (lv Z q) (lv Y l)) (g+l)/\
  fp L bz ab (lv X d*lv Z q) (d+q)/\fp L b0 ac (lv Y l*lv P g) (l+g)/\w.heap.size<=ab/\ab<ac/\ac<L.heap.size/\od n w L:=by
 have sA:=cV w (.o #[.bool F,.l B q t,.l M g h,U] 140);have bs:=fZ.new w (.bool F) (.l B q t) (.l M g h) U 140;have BA:=b2.bH sA;have a2:=b2.lt;have bm:n≠w.heap.size:=om;have bn:w.heap.size≠n:=om;have k1:=BA.c1;have g2:=bs.c2;go_enter func178,ntmps178;go_wp2;have aq:w.heap.size<(w.alloc (.o #[.bool F,.l B q t,.l M g h,U] 140)).heap.size:=bs.lt;generalize w.alloc _=V at*;clear b2;have bb:w.S V.drew:=fq sA;have J1:=sL (aJ _) hn a7 bd a9 ay a1 (hX.bH bb) (ao.bH bb) am ae pX bh trivial;have B1:=BA.drew;have G1:=bs.drew;have d1:V.S V.drew:=fq yD;clear sA BA bs
 go_region_held3 (fun L=>L.cell? (jj n 1)=some (.l a d k)/\L.cell? (jj w.heap.size 2)=some (.l M g h)) (go_keep)
  (first
    | (go_at_call 166;(with_reducible refine J1.mono ?_);rintro e v ⟨v4,g4,rfl,N4,a3,bw⟩;have y:=B1.bH bw;have I:=G1.bH bw;have S2:=bb.tr bw;have ar:=eP N4 ax ae rfl;obtain⟨Q,R,S,Z4,rfl,y1,y2,y3,L4,F4,l4,p4,e4⟩:=ar;have W:=y.c1;have G:=I.c2;have i3:=y.c3;have i4:=y.f 3;have i5:=(y.rL (.l Q R S)).c1;have i6:=(I.marked ((aV.refl v n).setCell 3 (.l Q R S)) om).c2))
 have D:=(aV.refl v n).setCell 3 (.l Q R S);have H:=y.rL (.l Q R S);have G3:=I.marked D om;have bo:w.heap.size<v.heap.size:=aS aq bw.size;have a6:g4≠n:=by have bu:V.heap.size<=g4:=a3;have h2:n<V.heap.size:=Nat.lt_trans a2 aq;omega
 have ah:=L4.marked D (fun _=>a6);have O3:od n w (v.setCell (jj n 3) (.l Q R S)):=(od.mK n S2).trans (od.i8 D);have bp:(v.setCell (jj n 3) (.l Q R S)).heap.size=v.heap.size:=D.size;clear k1 g2 W G i3 i4 i5 i6 J1 y I N4 D L4 d1 bb B1 G1;go_wp2;generalize v.setCell (jj n 3) (.l Q R S)=b1 at*;have k2:=H.c2;have k3:=H.c3;have g1:=G3.c1;have a4:=O3.drew;have J2:=sL (aJ _) bc hm bf a8 az a0 (al.rD a4 ak) (hY.rD a4 eb) an ad bg pY trivial;have LD:bE b1.drew Q g4 0 R Z4:=ah;have BD:=H.drew;have GD:=G3.drew
 go_region_held3 (fun L=>L.cell? (jj n 2)=some (.l A l o)/\L.cell? (jj w.heap.size 1)=some (.l B q t)) (go_keep)
  (first
    | (go_at_call 166;(with_reducible refine J2.mono ?_);rintro e x ⟨v5,g5,rfl,N5,bj,z⟩;have B4:=BD.bH z;have G4:=GD.bH z;have au:=eP N5 aw ad rfl;obtain⟨a5,n5,c5,Z5,rfl,x1,x2,x3,L5,F5,l5,p5,e5⟩:=au;have W:=B4.c2;have G:=G4.c1;have J3:=@anL n _ _ _ Q a5 g4 0 R S g5 0 n5 c5 Z4 Z5 x om om (LD.bH z) L5 l4 l5 B4)
    | (go_at_call 142;(with_reducible refine J3.mono ?_);rintro e O ⟨rfl,T,C,N6,O5,z5⟩;have K:=G4.rD O5 om;have W:=C.c2;have G:=K.c1))
 have ai:fp O T x.heap.size (Nat.gcd (lv X d) (lv P g)*Nat.gcd (lv Z q) (lv Y l)) (g+l):=by rw[<-e4,<-e5];exact N6.more om
 have aj:od n w O:=(a4.trans (od.mK n z)).trans O5;have bq:w.heap.size<O.heap.size:=by have bu:=z.size;have h2:b1.heap.size<=x.heap.size:=bu;omega
 have hq:n<x.heap.size:=by have bu:=z.size;have h2:b1.heap.size<=x.heap.size:=bu;omega
 clear k2 k3 g1 J2 J3 LD BD GD H G3 B4 G4 W G N6 N5 ah L5 O3 a4 O5;have k0:=C.c0;have kf:=C.f 0;have g0:=K.c0;have E:=(aV.refl O n).setCell 0 (.bool (!(f==F)));have B6:fZ (O.setCell (jj n 0) (.bool (!(f==F)))).drew n (.bool (!(f==F))) (.l a d k) (.l A l o) T:=(C.gH _).drew;have G6:fZ (O.setCell (jj n 0) (.bool (!(f==F)))).drew w.heap.size (.bool F) (.l B q t) (.l M g h) U:=(K.marked E om).drew;have N7:fp (O.setCell (jj n 0) (.bool (!(f==F)))).drew T x.heap.size (Nat.gcd (lv X d) (lv P g)*Nat.gcd (lv Z q) (lv Y l)) (g+l):=(ai.marked E om).drew;have O6:od n w (O.setCell (jj n 0) (.bool (!(f==F)))).drew:=(aj.trans (od.i8 E)).drew;have br:(O.setCell (jj n 0) (.bool (!(f==F)))).drew.heap.size=O.heap.size:=E.size;go_wp2;go_region_with (fail)
 all_goals
  clear k0 kf g0 E C K ai aj;generalize (O.setCell (jj n 0) (.bool (!(f==F)))).drew=w6 at*;have k2:=G6.c1;have JA:=@anM n _ _ _ a B m c d k b p q t X Z w6.drew om om (hX.rD O6.drew ea) (al.rD O6.drew ak) am an B6.drew;go_wp2
  go_region_held3 (fun L=>L.cell? (jj w.heap.size 1)=some (.l B q t)) (go_keep)
   (first
     | (go_at_call 142;(with_reducible refine JA.mono ?_);rintro e w7 ⟨rfl,bz,B7,N1,O7,z7⟩;have G7:=G6.drew.rD O7 om;have aa:=O6.drew.trans O7;have W:=G7.c1))
  have k3:=G7.c2;have N8:=N7.drew.rD O7 om;have JB:=@alk n _ _ _ A M i j l o r s g h Y P w7.drew om om (hY.rD aa.drew eb) (ao.rD aa.drew av) ad ae B7.drew;go_wp2
  go_region_held3 (fun L=>L.cell? (jj w.heap.size 2)=some (.l M g h)) (go_keep)
   (first
     | (go_at_call 142;(with_reducible refine JB.mono ?_);rintro e w8 ⟨rfl,b0,B8,N2,ba,z8⟩;have G:=(G7.drew.rD ba om).c2))
  go_wp2;go_end0;exact⟨rfl,bz,b0,T,w6.heap.size,w7.heap.size,x.heap.size,B8,N8.drew.rD ba om,N1.drew.rD ba (by show w6.heap.size≠_;omega),N2,om,z7,z8,aa.drew.trans ba⟩
theorem od.up3(x:od n w v)(y:wT n m c v W)(e:w.heap.size<=m)(f:w.heap.size<=c):od n w W:=
 ⟨y.os.trans x.os,y.tape.trans x.tape,y.output.trans x.output,aU x.size y.size,fun k a b=>(y.block k (aS a x.size) b om om).trans (x.block k a b)⟩
theorem aaB(f F:Bool)(n m c:Nat)(b:0<c):cH f F (n*c) (m*c)=cH f F n m*c:=by
 unfold cH;split
 . rw[bI]
 . by_cases h:n<m
   . rw[aY h,aY (jX h b),Nat.sub_mul]
   . rw[aM h,aM (by have:=aP c (jV h);omega),Nat.sub_mul]
theorem aaC(f F:Bool)(n m c:Nat)(b:0<c):gj f F (n*c) (m*c)=gj f F n m:=by
 unfold gj;split
 . rfl
 . by_cases h:n<m
   . rw[aY h,aY (jX h b)]
   . rw[aM h,aM (by have:=aP c (jV h);omega)]
theorem aaV(f F:Bool)(h:c∣m):Nat.gcd (cH f F n m) c=Nat.gcd n c:=by
 refine aij (fun d e=> ?_);have b:d∣m:=oR e h;unfold cH;split
 . exact (Nat.dvd_add_iff_left b).symm
 . split
   . constructor
     . intro k;have a:=Nat.dvd_sub b k;rw[Nat.sub_sub_self om] at a;exact a
     . exact fun k=>Nat.dvd_sub b k
   . constructor
     . intro k;have a:=Nat.dvd_add k b;rw[Nat.sub_add_cancel om] at a;exact a
     . exact fun k=>Nat.dvd_sub k b
theorem af9(f F:Bool)(n m:Nat):cH f F n m=cH F f m n:=by
 unfold cH;by_cases h:f=F
 . simp[h,jO]
 . have b:¬F=f:=fun e=>h e.symm;simp only[h,b,iO];split<;>split<;>omega
theorem xQ(f F:Bool)(h:Nat.gcd n m=1)(r:Nat.gcd c d=1)(p:0<m):Nat.gcd (cH f F (n*(d/Nat.gcd m d)) (c*(m/Nat.gcd m d))) (m*(d/Nat.gcd m d))∣Nat.gcd m d:=by
 have q:0<Nat.gcd m d:=Nat.gcd_pos_of_pos_left _ p;have b:Nat.gcd (m/Nat.gcd m d) (d/Nat.gcd m d)=1:=Nat.coprime_div_gcd_div_gcd q;have j:m=m/Nat.gcd m d*Nat.gcd m d:=(nK (jQ m d)).symm;have l:d=d/Nat.gcd m d*Nat.gcd m d:=(nK (jD m d)).symm;generalize Nat.gcd m d=s at*;generalize m/s=a at*;generalize d/s=k at*;subst j;have o:Nat.gcd n a=1:=Nat.Coprime.coprime_mul_right_right h;have u:Nat.gcd c k=1:=by rw[l] at r;exact Nat.Coprime.coprime_mul_right_right r
 have e:Nat.gcd (cH f F (n*k) (c*a)) a=1:=by rw[aaV f F (kZ a c)];exact Nat.Coprime.mul_left o (by rw[Nat.Coprime,jN];exact b)
 have g:Nat.gcd (cH f F (n*k) (c*a)) k=1:=by rw[af9,aaV F f (kZ k n)];exact Nat.Coprime.mul_left u b
 generalize cH f F (n*k) (c*a)=t at*;have i:Nat.gcd t (a*s*k)=Nat.gcd t s:=by rw[Nat.Coprime.gcd_mul_right_cancel_right (a*s) (Nat.Coprime.symm g),Nat.Coprime.gcd_mul_left_cancel_right s (Nat.Coprime.symm e)]
 rw[i];exact jD _ _
theorem acg{c:Nat}{f f':Bool}{a b a' b':Option Addr}{ba oa n ca bb ob m cb ba' oa' n' ca' bb' ob' m' cb':Nat}{X Y X' Y':Nat->Nat}{w:World}(hn:n+n'+m+m'<=16777216)(hm0:0<m)(hm0':0<m')
 (hX:bE w a ba oa n X)(hY:bE w b bb ob m Y)(hX':bE w a' ba' oa' n' X')(hY':bE w b' bb' ob' m' Y')(hXl:∀j,j<n->X j<4294967296)(hYl:∀j,j<m->Y j<4294967296)(hXl':∀j,j<n'->X' j<4294967296)(hYl':∀j,j<m'->Y' j<4294967296)
 (ea:0<n->ba≠c)(eb:0<m->bb≠c)(_ea':0<n'->ba'≠c)(eb':0<m'->bb'≠c)(pY:0<m->Y (m-1)≠0)(pY':0<m'->Y' (m'-1)≠0)(hmc:m<=cb)(hmc':m'<=cb')(hbc:b=none->cb=0)(hbc':b'=none->cb'=0)
 (hY0:0<lv Y m)(hY0':0<lv Y' m'){s s':Value}(B:fZ w c (.bool f) (.l a n ca) (.l b m cb) s):
 Cl 177 #[.p c 0,.agg #[.bool f',.slice a' n' ca',.slice b' m' cb',s']] w fun e w'=>e=.returned (.tuple #[])/\∃v1 v2 v3 g h q,
  fZ w' c (.bool (gj f f' (lv X n*(lv Y' m'/Nat.gcd (lv Y m) (lv Y' m'))) (lv X' n'*(lv Y m/Nat.gcd (lv Y m) (lv Y' m'))))) v1 v2 v3/\fp w' v3 q (Nat.gcd (lv Y m) (lv Y' m')) 16777216/\
  fp w' v1 g (cH f f' (lv X n*(lv Y' m'/Nat.gcd (lv Y m) (lv Y' m'))) (lv X' n'*(lv Y m/Nat.gcd (lv Y m) (lv Y' m')))) 16777216/\fp w' v2 h (lv Y m*(lv Y' m'/Nat.gcd (lv Y m) (lv Y' m'))) 16777216/\w.heap.size<=g/\w.heap.size<=h/\g≠h/\g<w'.heap.size/\h<w'.heap.size/\od c w w':=by
 obtain⟨sv,hsv⟩:∃sv,sv=Nat.gcd (lv Y m) (lv Y' m'):=⟨_,rfl⟩;have HS:=aR hsv;rw[<-hsv];clear hsv;have sA:=cV w (.o #[.bool f',.l a' n' ca',.l b' m' cb',s'] 140);have gA:=fZ.new w (.bool f') (.l a' n' ca') (.l b' m' cb') s' 140;have BA:=B.bH sA;have hcl:=B.lt;have k1:=BA.c2;have g2:=gA.c2;go_enter func177,ntmps177;go_wp2;have hz0:w.heap.size<(w.alloc (.o #[.bool f',.l a' n' ca',.l b' m' cb',s'] 140)).heap.size:=gA.lt;generalize w.alloc _=w1 at*;clear B;have S1:w.S w1.drew:=fq sA;have J1:=sL (Nat.zero_le _) om om hmc hmc' hbc hbc' (hY.bH S1) (hY'.bH S1) hYl hYl' pY pY' trivial;have B1:=BA.drew;have G1:=gA.drew;clear sA BA gA
 go_region_held3 (fun w'=>w'.cell? (jj c 2)=some (.l b m cb)/\w'.cell? (jj w.heap.size 2)=some (.l b' m' cb')) (go_keep)
  (first
    | (go_at_call 166;(with_reducible refine J1.mono ?_);rintro e w2 ⟨v4,g4,rfl,N4,hg4,s4⟩;have B2:=B1.bH s4;have G2:=G1.bH s4;have S2:=S1.tr s4;have N4':=eP N4 hY0' hYl' rfl;have N4q:=N4';obtain⟨a4,n4,c4,Z4,rfl,y1,y2,y3,L4,F4,l4,p4,e4⟩:=N4';have i1:=B2.c2;have i2:=G2.c2))
 have hs0:0<Nat.gcd (lv Y m) (lv Y' m'):=Nat.gcd_pos_of_pos_left _ hY0;rw[<-HS.out] at e4 hs0 N4q;clear HS;have hn4:0<n4:=by
  rcases Nat.eq_zero_or_pos n4 with e | e
  . subst e;rw[show lv Z4 0=0 from rfl] at e4;omega
  . exact e
 have hz2:w1.heap.size<=w2.heap.size:=s4.size;have hg4':w1.heap.size<=g4:=hg4;have hg4l:g4<w2.heap.size:=L4.lt hn4;clear k1 g2 i1 i2 J1 B1 G1 S1;have J2:=@abL c 2 b bb ob m cb Y a4 g4 n4 c4 Z4 w2 om om hn4 B2.c2 hmc hbc (hY.bH S2) hYl pY L4 l4 p4;rw[e4] at J2;go_wp2_with fail;refine J2.mono ?_;rintro e w3 ⟨a5,q5,o5,n5,c5,Z5,rfl,x1,x2,x3,L5,l5,p5,e5,b5,s5⟩;have S3:=S2.tr s5;have B3:=B2.bH s5;have G3:=G2.bH s5;have hz3:=s5.size;have J3:=@abL w.heap.size 2 b' bb' ob' m' cb' Y' a4 g4 n4 c4 Z4 w3 om om hn4 G3.c2 hmc' hbc' (hY'.bH S3) hYl' pY' (L4.bH s5) l4 p4;rw[e4] at J3;clear J2 B2 G2;go_wp2_with fail;refine J3.mono ?_;rintro e w4 ⟨a6,q6,o6,n6,c6,Z6,rfl,u1,u2,u3,L6,l6,p6,e6,b6,s6⟩;have S4:=S3.tr s6;have B4:=B3.bH s6;have G4:=G3.bH s6;have hz4:=s6.size;have L5':=L5.bH s6;have N5:=(N4q.bH s5).bH s6;have t5:=cV w4 (.o #[.l a' n' ca'] 138);have B5:=B4.bH t5;have G5:=G4.bH t5;have S5:w.S (w4.alloc (.o #[.l a' n' ca'] 138)):=S4.tr t5;have qA:(w4.alloc (.o #[.l a' n' ca'] 138)).cell? (jj w4.heap.size 0)=some (.l a' n' ca'):=by simp[go_sem]
 have fA:(w4.alloc (.o #[.l a' n' ca'] 138)).frozen? (jj w4.heap.size 0)=false:=by simp[go_sem]
 have zA:(w4.alloc (.o #[.l a' n' ca'] 138)).heap.size=w4.heap.size+1:=by simp
 have L5a:=L5'.bH t5;have L6a:=L6.bH t5;have N5a:=N5.bH t5;have kk:=G4.c1;clear J3 B3 G3;go_wp2_with fail;generalize (w4.alloc _)=w5 at*;have zl:w4.heap.size+1<=w5.heap.size:=om;clear zA;have q5c:0<n5->q5≠c:=fun h=>by
  rcases b5 h with ⟨e,hm⟩ | e
  . rw[e];exact eb hm
  . omega
 have q6c:0<n6->q6≠c:=fun h=>by
  rcases b6 h with ⟨e,hm⟩ | e
  . rw[e];exact eb' hm
  . omega
 have q5l:0<n5->q5<w4.heap.size:=fun h=>L5'.lt h;have q6l:0<n6->q6<w4.heap.size:=fun h=>L6.lt h;refine (e3 om om (hX'.bH S5) L5a hXl' l5 qA fA).mono ?_;rintro e w6 ⟨rfl,P1,q2,qf2,r2,hP1,e1,O2,z2⟩;have O02:od c w w6:=(od.mK c S5).up O2 om;have B6:=B5.rD O2 om;have G6:=G5.rD O2 om;have L6b:=L6a.rD O2 (fun h=>by have:=q6l h;omega);have N6a:=N5a.rD O2 om;have hw6:w5.heap.size<w6.heap.size:=z2;clear B5 G5 qA fA L5a L6a N5a O2 kk;go_wp2_with fail;refine (am7 om om (hX.rD O02 ea) L6b hXl l6 B6).mono ?_;rintro e w7 ⟨rfl,P2,B7,r3,hP2,e2,O3,z3⟩;have O03:=O02.trans O3;have G7:=G6.rD O3 om;have q3:w7.cell? (jj w4.heap.size 0)=_:=(O3.cell (a:=jj w4.heap.size 0) (World.block_lt_of_cell? _ _ q2) (show w4.heap.size≠c by omega)).trans q2;have r23:=cw r2 O3 om;have L7b:=L6b.rD O3 q6c;have N7a:=N6a.rD O3 om;clear B6 G6 q2 qf2 r2 L6b N6a;go_wp2_with fail;refine (alk om om (hY.rD O03 eb) L7b hYl l6 B7).mono ?_;rintro e w8 ⟨rfl,v2,B8,N8,O4,z4⟩;have O04:=O03.trans O4;have G8:=G7.rD O4 om;have q4:w8.cell? (jj w4.heap.size 0)=_:=(O4.cell (a:=jj w4.heap.size 0) (World.block_lt_of_cell? _ _ q3) (show w4.heap.size≠c by omega)).trans q3;have r24:=cw r23 O4 om;have r34:=cw r3 O4 om;have N8a:=N7a.rD O4 om;clear B7 G7 q3 r23 r3 L7b N7a;have k1:=G8.c0;have k3:=q4;go_wp2_with fail;refine (aiy om om B8 r34 r24 hP2 hP1 om om om).mono ?_;rintro e w9 ⟨rfl,v,gg,B9,N9,hgg,hgl,O5⟩;rw[e1,e2,e5,e6] at B9 N9;rw[e6] at N8;have hs9:=O5.size;have ND:=N8.nH (fun _=>O5.block w7.heap.size om om om om);have NS:=N8a.nH (fun _=>O5.block g4 om om om om);have MS:=(aV.refl w9 c).setCell 3 (.l a4 n4 c4);have f3:=B9.f 3;have c3:=B9.c3;have O09:od c w w9:=O04.up3 O5 om om;clear k1 k3;go_wp2;go_end0;refine⟨rfl,v,v2,_,gg,w7.heap.size,g4,B9.rL _,(NS.marked MS om).more om,N9.marked MS om,(ND.marked MS om).more om,om,om,om,by rw[MS.size];exact hgl,by rw[MS.size];omega,O09.trans (od.i8 MS)⟩
theorem rh{n:Nat}{f:Bool}{u U x:Value}{m c d k i j l:Nat}{w:World}(t:0<=w.heap.size)(C:xe w)(Bx:fZ w n (.bool f) u U x)(b:fp w u m k 16777216)(g:fp w U c i 16777216)(h:fp w x d j 16777216)(B:Nat.gcd k i∣j)
 (o:m≠c)(p:m<w.heap.size)(s:c<w.heap.size)(z:n≠m)(A:n≠c)(E:l<=m)(r:l<=c)(q:l<=w.heap.size)(D:l<=n)(y:0<i):
 Cl 176 #[.p n 0] w fun e F=>∃v,e=.returned v/\pe F v (f&&k != 0) (k/Nat.gcd k i) (i/Nat.gcd k i) l 16777218/\w.Since l F:=by
 by_cases a:Nat.gcd k i=1
 . rw[a,pI,pI];exact adH t C Bx b g h B o p s E r q D a
 . exact adI t C Bx b g h B o p s z A E r q D y a
structure se(w:World)(a b:Option Addr)(ba oa n ca bb ob m cb:Nat)(X Y:Nat->Nat):Prop where
 nc:n<=ca
 mc:m<=cb
 ac:a=none->ca=0
 bc:b=none->cb=0
 LX:bE w a ba oa n X
 LY:bE w b bb ob m Y
 lX:∀j,j<n->X j<4294967296
 lY:∀j,j<m->Y j<4294967296
 pX:0<n->X (n-1)≠0
 pY:0<m->Y (m-1)≠0
 m0:0<m
theorem se.bH{w w':World}{b:Option Addr}(h:se w a b m c n k d i j l X Y)(s:w.S w'):se w' a b m c n k d i j l X Y:=
 ⟨h.nc,h.mc,h.ac,h.bc,h.LX.bH s,h.LY.bH s,h.lX,h.lY,h.pX,h.pY,h.m0⟩
theorem se.den(h:se w a A n m c d k i j l X Y):0<lv Y j:=by
 rcases cQ (lv Y j) with e | e
 . have:=(jr h.pY).2 e;have:=h.m0;omega
 . exact e
theorem adF{f F:Bool}{a A B z:Option Addr}{n m c d k i j l o b p q t r s g:Nat}{X Y Z x:Nat->Nat}{w:World}(hw:0<=w.heap.size)(hT:xe w)(hn:c+p<=16777216)(hm:j+s<=16777216)
 (R:se w a A n m c d k i j l X Y)(u:se w B z o b p q t r s g Z x)(co:Nat.gcd (lv X c) (lv Y j)=1)(aa:Nat.gcd (lv Z p) (lv x s)=1):
 Cl 155 #[.agg #[.bool f,.slice a c d,.slice A j l],.agg #[.bool F,.slice B p q,.slice z s g]] w fun e w'=>∃v,e=.returned v/\
  pe w' v ((f != F)&&lv X c*lv Z p != 0) (lv X c*lv Z p/Nat.gcd (lv X c*lv Z p) (lv Y j*lv x s)) (lv Y j*lv x s/Nat.gcd (lv X c*lv Z p) (lv Y j*lv x s)) w.heap.size 16777218/\w.S w':=by
 obtain⟨O,zA,-,pA,rA⟩:=bx w (.bool f) (.l a c d) (.l A j l) (.bool F) (.l B p q) (.l z s g) (.bool false) (.n) (.n);have ae:=aR (aeu co aa);clear co aa;have m1:=R.m0;have ak:=u.m0;go_enter func155,ntmps155;go_wp2_with fail;generalize (((w.alloc _).alloc _).alloc _)=w1 at*;refine (iu om om R.nc R.mc (R.bH O).LX (R.bH O).LY R.pX R.pY).mono ?_;rintro e y ⟨rfl,C⟩;have S2:=O.tr C;have z2:=C.size;have p2:=pA.bH C;have r2:=rA.bH C;clear pA rA C;have P:=cV y (.o #[.bool f,.l a c d,.l A j l,.n] 140);have c3:=fZ.new y (.bool f) (.l a c d) (.l A j l) (.n) 140;have p3:=p2.bH P;have r3:=r2.bH P;have K:w.S (y.alloc (.o #[.bool f,.l a c d,.l A j l,.n] 140)):=S2.tr P;obtain⟨k0,k1,k2⟩:=p3.g;go_wp2_with fail;generalize y.alloc _=w3 at*;refine (iu om om u.nc u.mc (u.bH K).LX (u.bH K).LY u.pX u.pY).mono ?_;rintro e w4 ⟨rfl,G⟩;have L:=K.tr G;have c4:=c3.bH G;have r4:=r3.bH G;have H:=R.bH L;have I:=u.bH L;have zc:w.heap.size<=y.heap.size:=om;have lX:0<c->n<w.heap.size:=R.LX.lt;have lY:0<j->k<w.heap.size:=R.LY.lt;have ab:0<p->o<w.heap.size:=u.LX.lt;have ac:0<s->t<w.heap.size:=u.LY.lt;have ah:0<lv Y j*lv x s:=Nat.mul_pos R.den u.den;clear k0 k1 k2 p3 p2 r2 c3 r3 G;go_wp2_with fail
 refine (@acf y.heap.size f F a A B z n m c d k i j l o b p q t r s g X Y Z x w4 om om om om H.LX H.LY I.LX I.LY R.lX R.lY u.lX u.lY
  (fun h=>by have:=lX h;omega) (fun h=>by have:=lY h;omega) (fun h=>by have:=ab h;omega) (fun h=>by have:=ac h;omega) R.pX R.pY u.pX u.pY R.nc R.mc u.nc u.mc R.ac R.bc u.ac u.bc R.den u.den _ _ c4).mono ?_
 rintro e w5 ⟨rfl,v1,v2,v3,ag,h,ai,c5,K5,N5,D5,b5,b6,b7,T⟩;have aj:=c4.lt;have r5:=r4.rD T om;have U:=L.trans (sM (T.since om) zc);have T5:=hT.stay hw U;clear H I R u lX lY ab ac;go_wp2_with fail;refine (@rh y.heap.size (f != F) v1 v2 v3 ag h ai (lv X c*lv Z p) (lv Y j*lv x s) _ (w.heap.size+1+1+1) w5 (Nat.zero_le _) T5 c5 (N5.more hn) (D5.more hm) (K5.more om) ae.out om om b7 om om om om om om ah).mono ?_;rintro e w6 ⟨v,rfl,⟨x1,x2,g6,h6,rfl,S,Q,y1,y2,y3⟩,s6⟩;have N:=r5.since s6 om;have af:=S;have ad:=Q;obtain⟨V,q1,c1,Y1,rfl,-⟩:=S;obtain⟨W,q2,c2,Y2,rfl,-⟩:=Q;have S6:=U.trans (sM s6 om);obtain⟨u0,u1,u2⟩:=N.g;obtain⟨al,am,an⟩:=N.k;obtain⟨E,D⟩:∃E,(f != F&&lv X c*lv Z p != 0)=E:=⟨_,rfl⟩;rw[D];have D:=aR D;go_wp2;have rC:=((N.gH (.bool E)).gM (.l V q1 c1)).gZ (.l W q2 c2);refine bodyPost_ret (re rfl _ _ _ _ _ _ rfl rC) rfl ?_;have M:aV w6 _ (w.heap.size+1+1):=(((aV.refl w6 _).setCell 0 (.bool E)).setCell 1 (.l V q1 c1)).setCell 2 (.l W q2 c2);exact⟨_,rfl,⟨_,_,g6,h6,by rw[D.out],af.marked M om,ad.marked M om,om,om,y3⟩,S6.trans (M.since om)⟩
theorem aju{f F:Bool}{a A B E:Option Addr}{n m c d k i j l o b p q t r s g:Nat}{X Y Z u:Nat->Nat}{w:World}(hw:0<=w.heap.size)(hT:xe w)(hn:c+p+j+s<=16777216)
 (R:se w a A n m c d k i j l X Y)(y:se w B E o b p q t r s g Z u)(co:Nat.gcd (lv X c) (lv Y j)=1)(ab:Nat.gcd (lv Z p) (lv u s)=1):
 Cl 186 #[.agg #[.bool f,.slice a c d,.slice A j l],.agg #[.bool F,.slice B p q,.slice E s g]] w fun e w'=>∃v,e=.returned v/\
  pe w' v (gj f F (lv X c*lv u s) (lv Z p*lv Y j)&&cH f F (lv X c*lv u s) (lv Z p*lv Y j) != 0) (cH f F (lv X c*lv u s) (lv Z p*lv Y j)/Nat.gcd (cH f F (lv X c*lv u s) (lv Z p*lv Y j)) (lv Y j*lv u s)) (lv Y j*lv u s/Nat.gcd (cH f F (lv X c*lv u s) (lv Z p*lv Y j)) (lv Y j*lv u s)) w.heap.size 16777218/\w.S w':=by
 have aa:=aR (xQ f F co ab R.den);obtain⟨x,C⟩:∃x,x=Nat.gcd (lv Y j) (lv u s):=⟨_,rfl⟩;have G:0<x:=by rw[C];exact Nat.gcd_pos_of_pos_left _ R.den
 have dY:lv Y j/x*x=lv Y j:=by rw[C];exact Nat.div_mul_cancel (Nat.gcd_dvd_left _ _)
 have I:lv u s/x*x=lv u s:=by rw[C];exact Nat.div_mul_cancel (Nat.gcd_dvd_right _ _)
 rw[<-C] at aa;have eP:lv X c*lv u s=lv X c*(lv u s/x)*x:=by rw[Nat.mul_assoc,I]
 have eR:lv Z p*lv Y j=lv Z p*(lv Y j/x)*x:=by rw[Nat.mul_assoc,dY]
 have eD:lv Y j*lv u s=lv Y j*(lv u s/x)*x:=by rw[Nat.mul_assoc,I]
 have ac:0<lv Y j*(lv u s/x):=Nat.mul_pos R.den (by rcases Nat.eq_zero_or_pos (lv u s/x) with e | e;(have h2:=y.den;rw[e] at I;omega);exact e);rw[eP,eR,eD,aaB _ _ _ _ _ G,aaC _ _ _ _ _ G,Nat.gcd_mul_right,Nat.mul_div_mul_right _ _ G,Nat.mul_div_mul_right _ _ G];have ad:∀D:Nat,(D*x != 0)=(D != 0):=fun D=>by
  rcases Nat.eq_zero_or_pos D with e | e
  . subst e;simp
  . have h2:=Nat.mul_pos e G;have h3:(D*x != 0)=true:=bne_iff_ne.2 om;have h4:(D != 0)=true:=bne_iff_ne.2 om;rw[h3,h4]
 rw[ad];have ai:=aR C;have ah:=aR ac;clear co ab C dY I eP eR eD ad ac;obtain⟨U,zA,-,pA,rA⟩:=bx w (.bool f) (.l a c d) (.l A j l) (.bool F) (.l B p q) (.l E s g) (.bool false) (.n) (.n);have m1:=R.m0;have al:=y.m0;go_enter func186,ntmps186;go_wp2_with fail;generalize (((w.alloc _).alloc _).alloc _)=w1 at*;refine (iu om om R.nc R.mc (R.bH U).LX (R.bH U).LY R.pX R.pY).mono ?_;rintro e z ⟨rfl,H⟩;have S2:=U.tr H;have z2:=H.size;have p2:=pA.bH H;have r2:=rA.bH H;clear pA rA H;have V:=cV z (.o #[.bool f,.l a c d,.l A j l,.n] 140);have c3:=fZ.new z (.bool f) (.l a c d) (.l A j l) (.n) 140;have p3:=p2.bH V;have r3:=r2.bH V;have Q:w.S (z.alloc (.o #[.bool f,.l a c d,.l A j l,.n] 140)):=S2.tr V;obtain⟨k0,k1,k2⟩:=p3.g;go_wp2_with fail;generalize z.alloc _=w3 at*;refine (iu om om y.nc y.mc (y.bH Q).LX (y.bH Q).LY y.pX y.pY).mono ?_;rintro e w4 ⟨rfl,N⟩;have S:=Q.tr N;have c4:=c3.bH N;have r4:=r3.bH N;have O:=R.bH S;have P:=y.bH S;have zc:w.heap.size<=z.heap.size:=om;have lX:0<c->n<w.heap.size:=R.LX.lt;have lY:0<j->k<w.heap.size:=R.LY.lt;have ae:0<p->o<w.heap.size:=y.LX.lt;have af:0<s->t<w.heap.size:=y.LY.lt;clear k0 k1 k2 p3 p2 r2 c3 r3 N;go_wp2_with fail
 refine (@acg z.heap.size f F a A B E n m c d k i j l o b p q t r s g X Y Z u w4 hn m1 al O.LX O.LY P.LX P.LY R.lX R.lY y.lX y.lY
  (fun h=>by have:=lX h;omega) (fun h=>by have:=lY h;omega) (fun h=>by have:=ae h;omega) (fun h=>by have:=af h;omega) R.pY y.pY R.mc y.mc R.bc y.bc R.den y.den _ _ c4).mono ?_
 rw[<-ai.out];rintro e w5 ⟨rfl,v1,v2,v3,ak,h,am,c5,K5,N5,D5,b5,b6,b7,b8,b9,O5⟩;have an:=c4.lt;have r5:=r4.rD O5 om;have S5:=S.trans (sM (O5.since om) zc);have T5:=hT.stay hw S5;clear O P R y lX lY ae af;go_wp2_with fail;refine (@rh z.heap.size _ v1 v2 v3 ak h am _ _ _ (w.heap.size+1+1+1) w5 (Nat.zero_le _) T5 c5 N5 D5 K5 aa.out b7 b8 b9 om om om om om om ah.out).mono ?_;rintro e w6 ⟨v,rfl,⟨x1,x2,g6,h6,rfl,N6,W,y1,y2,y3⟩,s6⟩;have T:=r5.since s6 om;have aj:=N6;have ag:=W;obtain⟨a1,q1,c1,Y1,rfl,-⟩:=N6;obtain⟨a2,q2,c2,Y2,rfl,-⟩:=W;have S6:=S5.trans (sM s6 om);obtain⟨u0,u1,u2⟩:=T.g;obtain⟨ao,aq,ar⟩:=T.k;obtain⟨L,K⟩:∃L,(gj f F (lv X c*(lv u s/x)) (lv Z p*(lv Y j/x))&&cH f F (lv X c*(lv u s/x)) (lv Z p*(lv Y j/x)) != 0)=L:=⟨_,rfl⟩;rw[K];have K:=aR K;go_wp2;have rC:=((T.gH (.bool L)).gM (.l a1 q1 c1)).gZ (.l a2 q2 c2);refine bodyPost_ret (re rfl _ _ _ _ _ _ rfl rC) rfl ?_;have M:aV w6 _ (w.heap.size+1+1):=(((aV.refl w6 _).setCell 0 (.bool L)).setCell 1 (.l a1 q1 c1)).setCell 2 (.l a2 q2 c2);exact⟨_,rfl,⟨_,_,g6,h6,by rw[K.out],aj.marked M om,ag.marked M om,om,om,y3⟩,S6.trans (M.since om)⟩
def nl(v j:Nat):Nat:=v/4294967296^j % 4294967296
theorem aol(n m:Nat):lv (nl n) m=n % 4294967296^m:=by
 induction m with
 | zero=>simp[lv,rX]
 | succ m ih=>
   have h:lv (nl n) (m+1)=lv (nl n) m+nl n m*2^(32*m):=rfl;rw[h,ih,iH,Nat.mod_mul,show (2:Nat)^(32*m)=4294967296^m by rw[Nat.pow_mul],cJ (4294967296^m)];rfl
theorem ahz(h:w.ownsRow n 135 1 u m (ll X m))(i:u≠ .n):
 ∃a g b,u=.slice a m b/\m<=b/\(a=none->b=0)/\n<=g/\g<w.heap.size/\bE w a g 0 m X/\(0<m->∀o,w.frozen? (jj g o)=false):=by
 have d:= @World.ownsRow.cells _ _ _ _ _ _ _ h;rcases h.2 with ⟨rfl,rfl⟩ | ⟨g,b,k,rfl,hb,c,f,_⟩
 . exact absurd rfl i
 . refine⟨_,g,b,rfl,f,fun h=>(by cases h),hb,(dM.1 c).1,fun j e=>⟨rfl, ?_⟩,fun _ o=>by simp[World.frozen?,c]⟩;have:=d (g:=g) rfl j _ (vL X m j e);rw[mT] at this;exact this
theorem zL{n:Nat}{w:World}(P:n<18446744073709551616):
 Cl 162 #[.int .u64 n] w fun e i=>∃x g,e=.returned x/\fp i x g n 67108864/\w.heap.size<=g/\w.S i/\g<i.heap.size:=by
 obtain⟨T,I,Q,R,S⟩:=kT fI;go_enter func162,ntmps162;go_wp2;go_loopw [0,3] (fun p o wr=>∃k q:Nat,k<=2/\p=.int .u64 q/\q<18446744073709551616/\Hid (q=n/4294967296^k)/\Hid (0<k->0<n/4294967296^(k-1))/\wr.ownsRow w.heap.size 135 1 o k (ll (nl n) k)/\w.S wr/\Hid (o≠ .n)) (fun p _ _=>(intOf p).toNat)
 case atStart=>exact⟨0,n,om,rfl,P,aR qz,aR (fun h=>absurd h om),iP w #[] 0 zR qd rfl,cV _ _,aR qz⟩
 case round=>
  obtain⟨k,q,m,rfl,W,a,t,f,b,O⟩:=hrel;by_cases l:q=0
  . subst l;obtain⟨z,g,A,rfl,K,D,F,G,C,E⟩:=ahz f O.out;go_wp2;go_ret;have v:n<4294967296^k:=by
     have:=a.out;have d:0<4294967296^k:=fX om;rcases jI n (4294967296^k) with h | h
     . exact h
     . have:=tS h d;omega
    refine⟨_,g,rfl,⟨z,k,A,nl n,rfl,K,om,D,C,E,fun j _=>iS _ om,fun h=> ?_,(aol n k).trans (iC v)⟩,F,b,G⟩;have B:=t.out h;obtain⟨j,rfl⟩:∃j,k=j+1:=⟨k-1,om⟩;have d:n/4294967296^j<4294967296:=(by rw[gJ (fX om)];rw[iH] at v;omega);simp only[cF] at B⊢;unfold nl;rw[iC d];omega
  . have U:k<2:=by
     rcases jI k 2 with h | h
     . exact h
     . have e:k=2:=om;subst e;have:=a.out;rw[iI (show n<4294967296^2 by omega)] at this;omega
    have L:0<q:=om;have V:((q:Int)==0)=false:=(by simp;omega);obtain⟨y,c⟩:∃y,y=nl n k:=⟨_,rfl⟩;have Y:(q:Int) % 4294967296=(y:Int):=(by rw[c];unfold nl;rw[<-a.out];omega);have X:y<4294967296:=(by rw[c];exact iS _ om);have u:=aR c;clear c l;go_wp2_with (at_builtin;refine gK _ rfl _ _ 74 rfl w.heap.size 135 T (.int .u32 0) 1 4 underlying74 I Q R S rfl qd _ _ _ rfl (f.alloc _) (jj wr.heap.size 0) 1 1 [.int .u32 _] rfl rfl (kh _ _ _) (one_one _ rfl) (by unfold maxLen;omega) om (by have:=b.size;simp;omega) ?_);intro Z w1 r H M;have N:=(b.alloc b.size _).grown H (by have:=b.size;simp;omega) (fun k m=>(f.lt k m).1);have s:=aR M;rw[u.out,<-cD] at r;go_wp2;go_roundw
    case rel=>exact⟨k+1,q/4294967296,om,by go_num,om,aR (by rw[a.out,mU,iH]),aR (fun _=>by rw[cF,<-a.out];exact L),r,N,s⟩
    case measure=>exact yI
theorem oF{f:Bool}{n m:Nat}{w:World}(E:n<18446744073709551616)(t:m<18446744073709551616)(D:0<m):
 Cl 135 #[.bool f,.int .u64 n,.int .u64 m] w fun e Q=>∃v,e=.returned v/\pe Q v (f&&n != 0) (n/Nat.gcd n m) (m/Nat.gcd n m) w.heap.size 67108864/\w.S Q:=by
 by_cases N:n=0
 . subst N;have Y:m/Nat.gcd 0 m=1:=(by rw[oQ];exact Nat.div_self D);rw[show (f&&(0:Nat) != 0)=false by simp,Nat.zero_div,Y];have I:=cV w yJ;have s:=cR.new w (.bool false) (.n) (.n) 83;go_enter func135,ntmps135;go_wp2_with fail;generalize (w.alloc _)=c at*;refine (@vM c).mono ?_;rintro e A ⟨v,rfl,⟨v1,v2,g,h,rfl,d,i,W,X,ne⟩,b⟩;have a:=s.bH b;have Z:=s.lt;have B:=d;have C:=i;obtain⟨j,q,l,U,rfl,-⟩:=d;obtain⟨k,r,o,V,rfl,-⟩:=i;obtain⟨u0,u1,u2⟩:=a.g;obtain⟨aa,ab,ac⟩:=a.k;go_wp2;have F:=((a.gH (.bool false)).gM (.l j q l)).gZ (.l k r o);refine bO (re rfl _ _ _ _ _ _ rfl F) rfl ?_;have M:aV A _ w.heap.size:=(((aV.refl A _).setCell 0 (.bool false)).setCell 1 (.l j q l)).setCell 2 (.l k r o);exact⟨_,rfl,⟨_,_,g,h,rfl,B.marked M om,C.marked M om,om,om,ne⟩,(I.tr b).trans (M.since zR)⟩
 . have ah:((n:Int)==0)=false:=(by simp;omega);obtain⟨G,p⟩:∃G,G=Nat.gcd n m:=⟨_,rfl⟩;have ad:0<G:=(by rw[p];exact lQ n D);have ae:G<18446744073709551616:=(by rw[p];exact dD (rE n D) t);have hb:(f&&n != 0)=f:=(by simp[N]);rw[<-p,hb];have I:=cV w yJ;have s:=cR.new w (.bool false) (.n) (.n) 83;have K:=@xJ n m (w.alloc yJ) E t;rw[<-p] at K;obtain⟨x,u⟩:∃x,x=n/G:=⟨_,rfl⟩;obtain⟨y,z⟩:∃y,y=m/G:=⟨_,rfl⟩;have O:x<18446744073709551616:=(by rw[u];exact dD (iV _ _) E);have P:y<18446744073709551616:=(by rw[z];exact dD (iV _ _) t);have ai:IntKind.u64.wrap ((n:Int)/(G:Int))=(x:Int):=(by rw[<-pE,<-u];exact fB x O);have aj:IntKind.u64.wrap ((m:Int)/(G:Int))=(y:Int):=(by rw[<-pE,<-z];exact fB y P);have af:((G:Int)==0)=false:=(by simp;omega);have ag:¬(G:Int)=0:=om;rw[<-u,<-z];clear u z p E t;go_enter func135,ntmps135;go_wp2_with fail;refine K.mono ?_;rintro e c ⟨rfl,rfl⟩;generalize (w.alloc _)=c at*;have S:=@zL x c.drew O;go_wp2
   go_region_held (fun _=>True) (trivial)
    (first
      | (go_at_call 162
         first
          | (with_reducible refine S.mono ?_
             rintro e A ⟨v1,g,rfl,d,W,b,z2⟩;have T:=@zL y A P;have rC:=s.drew.bH b;have B:=d;obtain⟨j,q,l,U,rfl,-⟩:=d)
          | (with_reducible refine T.mono ?_
             rintro e R ⟨v2,h,rfl,i,X,H,z3⟩;have C:=i;obtain⟨k,r,o,V,rfl,-⟩:=i;have a:=rC.bH H;obtain⟨u0,u1,u2⟩:=a.g;obtain⟨aa,ab,ac⟩:=a.k)))
   all_goals go_wp2
   all_goals
    have Z:=s.lt;have zd:c.drew.heap.size=c.heap.size:=rfl;have F:=((a.gH (.bool f)).gM (.l j q l)).gZ (.l k r o);refine bO (re rfl _ _ _ _ _ _ rfl F) rfl ?_;have M:aV R _ w.heap.size:=(((aV.refl R _).setCell 0 (.bool f)).setCell 1 (.l j q l)).setCell 2 (.l k r o);have L:=fq I;exact⟨_,rfl,⟨_,_,g,h,rfl,(B.bH H).marked M om,C.marked M om,om,om,om⟩,((L.tr b).trans (sM H (aU L.size b.size))).trans (M.since zR)⟩
theorem tx{neg:Bool}{v1 v2:Value}{n m:Nat}{A B:Nat->Bool}{w:World}(hn:n<=1073741824)(hm:m<=1073741824)(hA:Tr w v1 n A)(hB:Tr w v2 m B)(hD:0<bv B m):
 Cl 136 #[.bool neg,v1,v2] w fun e w'=>∃v,e=.returned v/\pe w' v (neg&&bv A n != 0) (bv A n/Nat.gcd (bv A n) (bv B m)) (bv B m/Nat.gcd (bv A n) (bv B m)) w.heap.size 67108864/\w.S w':=by
 have hA':=hA;have hB':=hB;obtain⟨a,ba,oa,ca,rfl,hca,LA,tA⟩:=hA;obtain⟨b,bb,ob,cb,rfl,hcb,LB,tB⟩:=hB;have sA:=cV w yJ;have rA:=cR.new w (.bool false) (.n) (.n) 83;by_cases h0:n=0
 . subst h0;have e0:bv A 0=0:=rfl;rw[e0];have e1:bv B m/Nat.gcd 0 (bv B m)=1:=(by rw[oQ];exact Nat.div_self hD);rw[show (neg&&(0:Nat) != 0)=false by simp,Nat.zero_div,e1];clear e1 e0 tA tB hD hA' hB';go_enter func136,ntmps136;go_wp2_with fail;generalize (w.alloc _)=w1 at*;refine (vM).mono ?_;rintro e w2 ⟨v,rfl,⟨v1,v2,g,h,rfl,N1,N2,b1,b2,ne⟩,s2⟩;have rB:=rA.bH s2;have hz:=rA.lt;have N1':=N1;have N2':=N2;obtain⟨a1,m1,c1,Y1,rfl,-⟩:=N1;obtain⟨a2,m2,c2,Y2,rfl,-⟩:=N2;obtain⟨u0,u1,u2⟩:=rB.g;obtain⟨uf0,uf1,uf2⟩:=rB.k;go_wp2;have r4:=((rB.gH (.bool false)).gM (.l a1 m1 c1)).gZ (.l a2 m2 c2);refine bO (re rfl _ _ _ _ _ _ rfl r4) rfl ?_;have M:aV w2 _ w.heap.size:=(((aV.refl w2 _).setCell 0 (.bool false)).setCell 1 (.l a1 m1 c1)).setCell 2 (.l a2 m2 c2);exact⟨_,rfl,⟨_,_,g,h,rfl,N1'.marked M om,N2'.marked M om,om,om,ne⟩,(sA.tr s2).trans (M.since zR)⟩
 . have hne:((n:Int)==0)=false:=(by simp;omega);have hpos:0<bv A n:=bW om (tA om);have hb:(neg&&bv A n != 0)=neg:=by
    have h9:bv A n≠0:=om;simp[h9]
   rw[hb];obtain⟨G,hG⟩:∃G,G=Nat.gcd (bv A n) (bv B m):=⟨_,rfl⟩;have hG0:0<G:=(by rw[hG];exact lQ _ hD);have hGl:G<=bv B m:=(by rw[hG];exact rE _ hD);have hGA:G<=bv A n:=(by rw[hG];exact rK _ hpos);rw[<-hG];clear hb;go_enter func136,ntmps136;go_wp2_with fail;generalize (w.alloc _)=w1 at*;refine (aaa hn hm (hA'.bH sA) (hB'.bH sA)).mono ?_;rintro e w2 ⟨v3,t,O,rfl,ht,T3,e3,s2⟩;rw[<-hG] at e3;obtain⟨a3,b3,o3,c3,rfl,hc3,L3,p3⟩:=T3;have S2:=sA.tr s2;have htm:t<=m:=c7 p3 (by rw[e3];exact hGl);clear hG hA' hB';go_wp2_with fail;refine (aab om om (LA.bH S2) L3 p3 (by rw[e3];exact hG0)).mono ?_;rintro e w3 ⟨gq,tq,cq,Q,gr,tr,cr,R,rfl,q1,q2,q3,q4,LQ,-,q5,q6,q7,q8,eQ,-,s3⟩;have S3:=S2.tr s3;go_wp2_with fail;refine (aab om om (LB.bH S3) (L3.bH s3) p3 (by rw[e3];exact hG0)).mono ?_;rintro e w4 ⟨gp,tp,cp,Q',gs,ts,cs,R',rfl,p1,p2,p3',p4,LP,-,p5,p6,p7,p8,eP,-,s4⟩;have S4:=S3.tr s4;have rB:=((rA.bH s2).bH s3).bH s4;rw[e3] at eQ eP;have EE:=aR (And.intro (eQ.trans rfl) (And.intro eP (And.intro (tS hGA hG0) (tS hGl hG0))));clear eQ eP e3 q7 q8 p7 p8 p3 hpos tA tB hD hG0 hGl hGA;go_wp2_with fail;refine (abZ om q1 (LQ.bH s4)).mono ?_;rintro e w5 ⟨a5,g5,m5,c5,Y5,rfl,x1,x2,L5,x3,F5,l5,y5,e5,s5⟩;go_wp2_with fail;refine (abZ om p1 (LP.bH s5)).mono ?_;rintro e w6 ⟨a6,g6,m6,c6,Y6,rfl,z1,z2,L6,z3,F6,l6,y6,e6,s6⟩;have rC:=(rB.bH s5).bH s6;obtain⟨u0,u1,u2⟩:=rC.g;obtain⟨uf0,uf1,uf2⟩:=rC.k;have hz:=rB.lt;have b5:=s5.size;have b6:=s6.size;have EF:=aR (And.intro l5 (And.intro y5 (And.intro e5 (And.intro l6 (And.intro y6 e6)))));clear l5 y5 e5 l6 y6 e6;go_wp2;obtain⟨l5,y5,e5,l6,y6,e6⟩:=EF.out;obtain⟨f1,f2,f3,f4⟩:=EE.out;have k5:0<m5:=by
    rcases cQ m5 with h | h
    . subst h;rw[show lv Y5 0=0 from rfl] at e5;omega
    . exact h
   have k6:0<m6:=by
    rcases cQ m6 with h | h
    . subst h;rw[show lv Y6 0=0 from rfl] at e6;omega
    . exact h
   have N5:fp w5 (.l a5 m5 c5) g5 (bv A n/G) 67108864:=⟨a5,m5,c5,Y5,rfl,x1,om,fun h=>(by rw[(L5 0 k5).1] at h;cases h),L5,F5,fun j _=>l5 j,y5,e5.trans f1⟩;have N6:fp w6 (.l a6 m6 c6) g6 (bv B m/G) 67108864:=⟨a6,m6,c6,Y6,rfl,z1,om,fun h=>(by rw[(L6 0 k6).1] at h;cases h),L6,F6,fun j _=>l6 j,y6,e6.trans f2⟩;have g5l:=L5.lt k5;have x3':=x3 k5;have z3':=z3 k6;have r4:=((rC.gH (.bool neg)).gM (.l a5 m5 c5)).gZ (.l a6 m6 c6);refine bO (re rfl _ _ _ _ _ _ rfl r4) rfl ?_;have M:aV w6 _ w.heap.size:=(((aV.refl w6 _).setCell 0 (.bool neg)).setCell 1 (.l a5 m5 c5)).setCell 2 (.l a6 m6 c6);exact⟨_,rfl,⟨_,_,g5,g6,rfl,(N5.bH s6).marked M om,N6.marked M om,by have:=S4.size;omega,by have:=S4.size;omega,om⟩,((S4.tr s5).trans (sM s6 (aU S4.size b5))).trans (M.since zR)⟩
theorem ov{f:Bool}{a A:Option Addr}{n m c d:Nat}{w:World}:
 Cl 146 #[.agg #[.bool f,.slice a n m,.slice A c d]] w fun e b=>e=.returned (.bool ((n:Int)==0))/\w.S b:=by
 have g:=cV w (.o #[.bool f,.l a n m,.l A c d] 83);go_enter func146,ntmps146;go_wp2;go_ret;exact⟨rfl,g⟩
theorem agG{n:Nat}{f F:Bool}{a A B S:Option Addr}{m c d k i j l o b p q t r s g h:Nat}{X Y Z R:Nat->Nat}{w:World}(hn:d<=16777216)(hm:l<=16777216)(al:q<=16777216)(ai:g<=16777216)
 (ay:bE w a m c d X)(hY:bE w A i j l Y)(az:bE w B b p q Z)(aa:bE w S r s g R)(a1:∀y,y<d->X y<4294967296)(ac:∀y,y<l->Y y<4294967296)(a2:∀y,y<q->Z y<4294967296)(ad:∀y,y<g->R y<4294967296)
 (P:0<d->m≠n)(eb:0<l->i≠n)(Q:0<q->b≠n)(aw:0<g->r≠n)(pX:0<d->X (d-1)≠0)(pY:0<l->Y (l-1)≠0)(ar:0<q->Z (q-1)≠0)(au:0<g->R (g-1)≠0)(am:d<=k)(aj:l<=o)(an:q<=t)(ak:g<=h)(ae:a=none->k=0)(ag:A=none->o=0)(af:B=none->t=0)(ah:S=none->h=0)
 (ab:0<lv Y l)(a0:0<lv Z q){u U:Value}(W:fZ w n (.bool f) (.l a d k) (.l A l o) u):
 Cl 175 #[.p n 0,.agg #[.bool F,.slice B q t,.slice S g h,U]] w fun e C=>e=.returned (.tuple #[])/\∃T v x D E V,fZ C n (.bool (f != F)) T v x/\fp C x V (Nat.gcd (lv X d) (lv Z q)*Nat.gcd (lv R g) (lv Y l)) (q+l)/\
  fp C T D (lv X d*lv R g) (d+g)/\fp C v E (lv Y l*lv Z q) (l+q)/\w.heap.size<=D/\D<E/\E<C.heap.size/\od n w C:=by
 have z:=cV w (.o #[.bool F,.l B q t,.l S g h,U] 140);have ax:=fZ.new w (.bool F) (.l B q t) (.l S g h) U 140;have av:=W.lt;have H:=W.bH z;have z1:=ax.lt;go_enter func175,ntmps175;go_wp2_with fail;generalize w.alloc _=w1 at*;refine (acf hn hm ai al (ay.bH z) (hY.bH z) (aa.bH z) (az.bH z) a1 ac ad a2 P eb aw Q pX pY au ar am aj ak an ae ag ah af ab a0 H).mono ?_;rintro e w2 ⟨rfl,T,v,x,D,E,V,G,K,L,I,b1,N,O,M⟩;go_wp2;go_end0;exact⟨rfl,T,v,x,D,E,V,G,K,L,I,om,N,O,(od.mK n z).trans M⟩
theorem acE{f F:Bool}{a A B z:Option Addr}{n m c d k i j l o b p q t r s g:Nat}{X Y Z x:Nat->Nat}{w:World}(hw:0<=w.heap.size)(hT:xe w)(hn:c+s<=16777216)(hm:j+p<=16777216)(h0:0<p)
 (R:se w a A n m c d k i j l X Y)(u:se w B z o b p q t r s g Z x)(co:Nat.gcd (lv X c) (lv Y j)=1)(aa:Nat.gcd (lv Z p) (lv x s)=1):
 Cl 153 #[.agg #[.bool f,.slice a c d,.slice A j l],.agg #[.bool F,.slice B p q,.slice z s g]] w fun e w'=>∃v,e=.returned v/\
  pe w' v ((f != F)&&lv X c*lv x s != 0) (lv X c*lv x s/Nat.gcd (lv X c*lv x s) (lv Y j*lv Z p)) (lv Y j*lv Z p/Nat.gcd (lv X c*lv x s) (lv Y j*lv Z p)) w.heap.size 16777218/\w.S w':=by
 obtain⟨O,zA,-,pA,rA⟩:=bx w (.bool f) (.l a c d) (.l A j l) (.bool F) (.l B p q) (.l z s g) (.bool false) (.n) (.n);have af:=aR (aeu co (show Nat.gcd (lv x s) (lv Z p)=1 by rw[Nat.gcd_comm];exact aa));clear co aa;have m1:=R.m0;have al:=u.m0;go_enter func153,ntmps153;go_wp2_with fail;generalize (((w.alloc _).alloc _).alloc _)=w1 at*;refine (iu om om R.nc R.mc (R.bH O).LX (R.bH O).LY R.pX R.pY).mono ?_;rintro e y ⟨rfl,C⟩;have S2:=O.tr C;have z2:=C.size;have p2:=pA.bH C;have r2:=rA.bH C;clear pA rA C;have P:=cV y (.o #[.bool f,.l a c d,.l A j l,.n] 140);have c3:=fZ.new y (.bool f) (.l a c d) (.l A j l) (.n) 140;have p3:=p2.bH P;have r3:=r2.bH P;have K:w.S (y.alloc (.o #[.bool f,.l a c d,.l A j l,.n] 140)):=S2.tr P;obtain⟨k0,k1,k2⟩:=p3.g;go_wp2_with fail;generalize y.alloc _=w3 at*;refine (iu om om u.nc u.mc (u.bH K).LX (u.bH K).LY u.pX u.pY).mono ?_;rintro e w4 ⟨rfl,G⟩;have L:=K.tr G;have c4:=c3.bH G;have r4:=r3.bH G;have H:=R.bH L;have I:=u.bH L;have zc:w.heap.size<=y.heap.size:=om;have lX:0<c->n<w.heap.size:=R.LX.lt;have lY:0<j->k<w.heap.size:=R.LY.lt;have ac:0<p->o<w.heap.size:=u.LX.lt;have ad:0<s->t<w.heap.size:=u.LY.lt;have ab:0<lv Z p:=by rcases Nat.eq_zero_or_pos (lv Z p) with e | e;exact absurd ((jr u.pX).2 e) om;exact e
 have ai:0<lv Y j*lv Z p:=Nat.mul_pos R.den ab;clear k0 k1 k2 p3 p2 r2 c3 r3 G;go_wp2_with fail
 refine (@agG y.heap.size f F a A B z n m c d k i j l o b p q t r s g X Y Z x w4 om om om om H.LX H.LY I.LX I.LY R.lX R.lY u.lX u.lY
  (fun h=>by have:=lX h;omega) (fun h=>by have:=lY h;omega) (fun h=>by have:=ac h;omega) (fun h=>by have:=ad h;omega) R.pX R.pY u.pX u.pY R.nc R.mc u.nc u.mc R.ac R.bc u.ac u.bc R.den ab _ _ c4).mono ?_
 rintro e w5 ⟨rfl,v1,v2,v3,ah,h,aj,c5,K5,N5,D5,b5,b6,b7,T⟩;have ak:=c4.lt;have r5:=r4.rD T om;have U:=L.trans (sM (T.since om) zc);have T5:=hT.stay hw U;clear H I R u lX lY ac ad;go_wp2_with fail;refine (@rh y.heap.size (f != F) v1 v2 v3 ah h aj (lv X c*lv x s) (lv Y j*lv Z p) _ (w.heap.size+1+1+1) w5 (Nat.zero_le _) T5 c5 (N5.more hn) (D5.more hm) (K5.more om) af.out om om b7 om om om om om om ai).mono ?_;rintro e w6 ⟨v,rfl,⟨x1,x2,g6,h6,rfl,S,Q,y1,y2,y3⟩,s6⟩;have N:=r5.since s6 om;have ag:=S;have ae:=Q;obtain⟨V,q1,c1,Y1,rfl,-⟩:=S;obtain⟨W,q2,c2,Y2,rfl,-⟩:=Q;have S6:=U.trans (sM s6 om);obtain⟨u0,u1,u2⟩:=N.g;obtain⟨am,an,ao⟩:=N.k;obtain⟨E,D⟩:∃E,(f != F&&lv X c*lv x s != 0)=E:=⟨_,rfl⟩;rw[D];have D:=aR D;go_wp2;have rC:=((N.gH (.bool E)).gM (.l V q1 c1)).gZ (.l W q2 c2);refine bodyPost_ret (re rfl _ _ _ _ _ _ rfl rC) rfl ?_;have M:aV w6 _ (w.heap.size+1+1):=(((aV.refl w6 _).setCell 0 (.bool E)).setCell 1 (.l V q1 c1)).setCell 2 (.l W q2 c2);exact⟨_,rfl,⟨_,_,g6,h6,by rw[D.out],ag.marked M om,ae.marked M om,om,om,y3⟩,S6.trans (M.since om)⟩
def af(f f':Bool)(x y:Nat):Int:=if f=f' then (if f then li y x else li x y) else if f then-1 else 1
theorem agH{n:Nat}{f F:Bool}{a A B K:Option Addr}{m c d k i j l o b p q t r s g h:Nat}{X Y Z v:Nat->Nat}{w:World}(G:d+q+l+g<=16777216)
 (x:bE w a m c d X)(C:bE w A i j l Y)(y:bE w B b p q Z)(D:bE w K r s g v)(z:∀u,u<d->X u<4294967296)(E:∀u,u<l->Y u<4294967296)(L:∀u,u<q->Z u<4294967296)(M:∀u,u<g->v u<4294967296)
 (I:fZ w n (.bool f) (.l a d k) (.l A l o) (.n)):
 Cl 93 #[.p n 0,.agg #[.bool F,.slice B q t,.slice K g h,.n]] w fun e N=>e=.returned (.i (af f F (lv X d*lv v g) (lv Z q*lv Y l)))/\w.S N:=by
 by_cases H:f=F
 . subst H;rw[show af f f (lv X d*lv v g) (lv Z q*lv Y l)=if f then li (lv Z q*lv Y l) (lv X d*lv v g) else li (lv X d*lv v g) (lv Z q*lv Y l) by simp[af]];exact afh G x C y D z E L M I
 . rw[show af f F (lv X d*lv v g) (lv Z q*lv Y l)=if f then-1 else 1 by simp[af,H]];exact afg I H
theorem afV{f F:Bool}{a A B u:Option Addr}{n m c d k i j l o b p q t r s g:Nat}{X Y Z v:Nat->Nat}{w:World}(P:c+p+j+s<=16777216)
 (R:se w a A n m c d k i j l X Y)(h:se w B u o b p q t r s g Z v):
 Cl 56 #[.agg #[.bool f,.slice a c d,.slice A j l],.agg #[.bool F,.slice B p q,.slice u s g]] w fun e w'=>e=.returned (.i (af f F (lv X c*lv v s) (lv Z p*lv Y j)))/\w.S w':=by
 have C:w.S ((w.alloc (.o #[.bool f,.l a c d,.l A j l] 83)).alloc (.o #[.bool F,.l B p q,.l u s g] 83)):=(cV _ _).alloc qz _;have zA:((w.alloc (.o #[.bool f,.l a c d,.l A j l] 83)).alloc (.o #[.bool F,.l B p q,.l u s g] 83)).heap.size=w.heap.size+1+1:=by simp
 have oA:cR ((w.alloc (.o #[.bool f,.l a c d,.l A j l] 83)).alloc (.o #[.bool F,.l B p q,.l u s g] 83)) w.heap.size (.bool f) (.l a c d) (.l A j l):=(cR.new w _ _ _ _).bH (cV _ _);have T:cR ((w.alloc (.o #[.bool f,.l a c d,.l A j l] 83)).alloc (.o #[.bool F,.l B p q,.l u s g] 83)) (w.heap.size+1) (.bool F) (.l B p q) (.l u s g):=by have:=cR.new (w.alloc (.o #[.bool f,.l a c d,.l A j l] 83)) (.bool F) (.l B p q) (.l u s g) 83;simpa using this
 have m1:=R.m0;have aa:=h.m0;go_enter func56,ntmps56;go_wp2_with fail;generalize ((w.alloc _).alloc _)=V at*;refine (iu om om R.nc R.mc (R.bH C).LX (R.bH C).LY R.pX R.pY).mono ?_;rintro e x ⟨rfl,E⟩;have M:=C.tr E;have z2:=E.size;have Q:=T.bH E;have K:=cV x (.o #[.bool f,.l a c d,.l A j l,.n] 140);have N:=fZ.new x (.bool f) (.l a c d) (.l A j l) (.n) 140;have S:=Q.bH K;have D:=M.tr K;obtain⟨k0,k1,k2⟩:=S.g;go_wp2_with fail;generalize x.alloc _=ab at*;refine (iu om om h.nc h.mc (h.bH D).LX (h.bH D).LY h.pX h.pY).mono ?_;rintro e ac ⟨rfl,I⟩;have W:=D.tr I;have O:=N.bH I;have G:=R.bH W;have H:=h.bH W;have J:=@agH x.heap.size f F a A B u n m c d k i j l o b p q t r s g X Y Z v ac P G.LX G.LY H.LX H.LY R.lX R.lY h.lX h.lY O;obtain⟨z,y⟩:∃z,z=af f F (lv X c*lv v s) (lv Z p*lv Y j):=⟨_,rfl⟩;rw[<-y] at J;have L:=aR y;clear y;go_wp2_with fail;refine J.mono ?_;rintro e w5 ⟨rfl,U⟩;go_wp2;go_ret;exact⟨gL L.out,W.tr U⟩
theorem aji(f F:Bool)(n m:Nat)(c:n=0)(b:0<m):(((f != F)&&n != 0)=false/\n/Nat.gcd n m=0)/\m/Nat.gcd n m=1:=by
 subst c;refine⟨⟨qz,Nat.zero_div _⟩, ?_⟩;rw[oQ];exact Nat.div_self b
theorem ahX{N:Option Addr}{K:Nat->Nat}(aa:c+p+j+s<=16777216)
 (af:se w a A n m c d k i j l X Y)(H:se w B N o b p q t r s g Z K)(O:c=0∨p=0):
 Cl 86 #[.agg #[.bool f,.slice a c d,.slice A j l],.agg #[.bool F,.slice B p q,.slice N s g]] w fun e V=>∃v,e=.returned v/\
  pe V v ((f != F)&&lv X c*lv Z p != 0) (lv X c*lv Z p/Nat.gcd (lv X c*lv Z p) (lv Y j*lv K s)) (lv Y j*lv K s/Nat.gcd (lv X c*lv Z p) (lv Y j*lv K s)) w.heap.size 67108864/\w.S V:=by
 have ab:w.heap.size+1+1≠w.heap.size:=om;obtain⟨sA,zA,oA,pA,rA⟩:=bx w (.bool f) (.l a c d) (.l A j l) (.bool F) (.l B p q) (.l N s g) (.bool false) (.n) (.n);have L:=aji f F (lv X c*lv Z p) (lv Y j*lv K s) (by rcases O with h | h<;>subst h<;>simp[lv]) (fE af.den H.den);rw[L.1.1,L.1.2,L.2];clear L;by_cases Q:c=0
 focus
  subst Q;clear O;go_enter func86,ntmps86;go_wp2_with fail;generalize (((w.alloc _).alloc _).alloc _)=w1 at*
 rotate_left
 focus
  have ag:p=0:=om;subst ag;clear O;have R:((c:Int)==0)=false:=by simp;omega
  go_enter func86,ntmps86;go_wp2_with fail;generalize (((w.alloc _).alloc _).alloc _)=w1 at*
 all_goals
  refine (vM).mono ?_;rintro e E ⟨v,rfl,⟨x1,x2,P,ah,rfl,x,u,y1,y2,y3⟩,D⟩;have S:=rA.bH D;have G:=x;have W:=u;obtain⟨y,R,T,Y1,rfl,-⟩:=x;obtain⟨z,C,U,Y2,rfl,-⟩:=u;have I:=sA.tr D;obtain⟨u0,u1,u2⟩:=S.g;obtain⟨ac,ad,ae⟩:=S.k;go_wp2;have rC:=((S.gH (.bool false)).gM (.l y R T)).gZ (.l z C U);refine bO (re rfl _ _ _ _ _ _ rfl rC) rfl ?_;have M:aV E _ (w.heap.size+1+1):=(((aV.refl E _).setCell 0 (.bool false)).setCell 1 (.l y R T)).setCell 2 (.l z C U);exact⟨_,rfl,⟨_,_,P,ah,rfl,G.marked M om,W.marked M om,om,om,y3⟩,I.trans (M.since om)⟩
theorem ag9{f f':Bool}{a b a' b':Option Addr}{ba oa n ca bb ob m cb ba' oa' n' ca' bb' ob' m' cb':Nat}{X Y X' Y':Nat->Nat}(_hn:n+n'+m+m'<=16777216)
 (R:se w a b ba oa n ca bb ob m cb X Y)(R':se w a' b' ba' oa' n' ca' bb' ob' m' cb' X' Y')(h1:0<n)(h2:0<n')(hs:jh X n Y m=true)(hs':jh X' n' Y' m'=true):
 Cl 86 #[.agg #[.bool f,.slice a n ca,.slice b m cb],.agg #[.bool f',.slice a' n' ca',.slice b' m' cb']] w fun e w'=>∃v,e=.returned v/\
  pe w' v ((f != f')&&lv X n*lv X' n' != 0) (lv X n*lv X' n'/Nat.gcd (lv X n*lv X' n') (lv Y m*lv Y' m')) (lv Y m*lv Y' m'/Nat.gcd (lv X n*lv X' n') (lv Y m*lv Y' m')) w.heap.size 67108864/\w.S w':=by
 have hne2:w.heap.size+1+1≠w.heap.size:=om;obtain⟨sA,zA,oA,pA,rA⟩:=bx w (.bool f) (.l a n ca) (.l b m cb) (.bool f') (.l a' n' ca') (.l b' m' cb') (.bool false) (.n) (.n);obtain⟨s1,s2',s3',s4'⟩:=oH.1 hs;obtain⟨t1,t2',t3',t4'⟩:=oH.1 hs';obtain⟨x,hx⟩:∃x,x=lv X n:=⟨_,rfl⟩;obtain⟨y,hy⟩:∃y,y=lv Y m:=⟨_,rfl⟩;obtain⟨x',hx'⟩:∃x',x'=lv X' n':=⟨_,rfl⟩;obtain⟨y',hy'⟩:∃y',y'=lv Y' m':=⟨_,rfl⟩;have hyp:0<y*y':=by rw[hy,hy'];exact Nat.mul_pos R.den R'.den
 rw[<-hx] at s3';rw[<-hy] at s4';rw[<-hx'] at t3';rw[<-hy'] at t4';obtain⟨p,hp⟩:∃p,p=x*x':=⟨_,rfl⟩;obtain⟨q,hq⟩:∃q,q=y*y':=⟨_,rfl⟩;have hpl:p<18446744073709551616:=by rw[hp];exact Nat.lt_of_le_of_lt (Nat.mul_le_mul (Nat.le_of_lt s3') (Nat.le_of_lt t3')) om
 have hql:q<18446744073709551616:=by rw[hq];exact Nat.lt_of_le_of_lt (Nat.mul_le_mul (Nat.le_of_lt s4') (Nat.le_of_lt t4')) om
 have hpw:IntKind.u64.wrap ((x:Int)*(x':Int))=(p:Int):=by rw[<-Int.natCast_mul,<-hp];exact fB p hpl
 have hqw:IntKind.u64.wrap ((y:Int)*(y':Int))=(q:Int):=by rw[<-Int.natCast_mul,<-hq];exact fB q hql
 rw[<-hq] at hyp;rw[<-hx,<-hx',<-hy,<-hy',<-hp,<-hq];clear s3' s4' t3' t4';have q1:((n:Int)==0)=false:=by simp;omega
 have q2:((n':Int)==0)=false:=by simp;omega
 obtain⟨j0,j1,j2⟩:=oA.g;go_enter func86,ntmps86;go_wp2_with fail;generalize (((w.alloc _).alloc _).alloc _)=w1 at*;have I1:=@iq f a b ba oa n ca bb ob m cb X Y w1 om om (R.bH sA).LX (R.bH sA).LY R.lX R.lY;rw[hs] at I1;refine I1.mono ?_;rintro e w2 ⟨rfl,s2⟩;have S2:=sA.tr s2;have o2:=oA.bH s2;have p2:=pA.bH s2;have r2:=rA.bH s2;have z2:=s2.size;clear I1 j0 j1 j2 oA pA rA;obtain⟨k0,k1,k2⟩:=p2.g;have I2:=@iq f' a' b' ba' oa' n' ca' bb' ob' m' cb' X' Y' w2 om om (R'.bH S2).LX (R'.bH S2).LY R'.lX R'.lY;rw[hs'] at I2;go_wp2_with fail;refine I2.mono ?_;rintro e w3 ⟨rfl,s3⟩;have S3:=S2.tr s3;have o3:=o2.bH s3;have p3:=p2.bH s3;have r3:=r2.bH s3;have z3:=s3.size;clear I2 k0 k1 k2 o2 p2 r2;have k:=And.intro o3.cells p3.cells;have J1:=@gu a ba oa n ca X w3.drew s1 (R.bH S3).LX R.lX;have J2:=@gu b bb ob m cb Y w3.drew s2' (R.bH S3).LY R.lY;have J3:=@gu a' ba' oa' n' ca' X' w3.drew t1 (R'.bH S3).LX R'.lX;have J4:=@gu b' bb' ob' m' cb' Y' w3.drew t2' (R'.bH S3).LY R'.lY;rw[<-hx] at J1;rw[<-hy] at J2;rw[<-hx'] at J3;rw[<-hy'] at J4;have J5:=@oF (!(f==f')) p q w3.drew hpl hql hyp;clear hx hy hx' hy' hp hq R R' hs hs';go_wp2
 go_region_held3 (fun w'=>w'.cell? (jj w.heap.size 0)=some (.bool f)/\w'.cell? (jj w.heap.size 1)=some (.l a n ca)/\w'.cell? (jj w.heap.size 2)=some (.l b m cb)/\w'.cell? (jj (w.heap.size+1) 0)=some (.bool f')/\w'.cell? (jj (w.heap.size+1) 1)=some (.l a' n' ca')/\w'.cell? (jj (w.heap.size+1) 2)=some (.l b' m' cb')) (go_keep)
  (first
    | (go_at_call 124
       first
        | (with_reducible refine J1.mono ?_;rintro e w4 ⟨rfl,rfl⟩)
        | (with_reducible refine J2.mono ?_;rintro e w4 ⟨rfl,rfl⟩)
        | (with_reducible refine J3.mono ?_;rintro e w4 ⟨rfl,rfl⟩)
        | (with_reducible refine J4.mono ?_;rintro e w4 ⟨rfl,rfl⟩))
    | (go_at_call 135;(with_reducible refine J5.mono ?_);rintro e w6 ⟨v,rfl,⟨x1,x2,g6,h6,rfl,N6,D6,y1,y2,y3⟩,s6⟩;have N6':=N6;have D6':=D6;obtain⟨a1,q1,c1,Y1,rfl,-⟩:=N6;obtain⟨a2,q2,c2,Y2,rfl,-⟩:=D6;have k9:=And.intro (o3.drew.bH s6).cells (p3.drew.bH s6).cells;have rB:=r3.drew.bH s6;obtain⟨u0,u1,u2⟩:=rB.g;obtain⟨uf0,uf1,uf2⟩:=rB.k))
 all_goals go_wp2
 all_goals
  have zd:w3.drew.heap.size=w3.heap.size:=rfl;have S6:w.S w6:=(fq S3).trans (sM s6 S3.size);have hb:(!(f==f')&&p != 0)=((f != f')&&p != 0):=rfl;have rC:=((rB.gH (.bool (!(f==f')&&p != 0))).gM (.l a1 q1 c1)).gZ (.l a2 q2 c2);refine bodyPost_ret (re rfl _ _ _ _ _ _ rfl rC) rfl ?_;have M:aV w6 _ (w.heap.size+1+1):=(((aV.refl w6 _).setCell 0 (.bool (!(f==f')&&p != 0))).setCell 1 (.l a1 q1 c1)).setCell 2 (.l a2 q2 c2);exact⟨_,rfl,⟨_,_,g6,h6,rfl,N6'.marked M om,D6'.marked M om,om,om,y3⟩,S6.trans (M.since om)⟩
theorem ahZ{P:Option Addr}{H:Nat->Nat}(hn:c+p+j+s<=16777216)
 (R:se w a A n m c d k i j l X Y)(G:se w B P o b p q t r s g Z H)(h1:0<c)(h2:0<p)(hs:¬jh X c Y j=true):
 Cl 86 #[.agg #[.bool f,.slice a c d,.slice A j l],.agg #[.bool F,.slice B p q,.slice P s g]] w fun e h=>∃v,e=.returned v/\
  pe h v ((f != F)&&lv X c*lv Z p != 0) (lv X c*lv Z p/Nat.gcd (lv X c*lv Z p) (lv Y j*lv H s)) (lv Y j*lv H s/Nat.gcd (lv X c*lv Z p) (lv Y j*lv H s)) w.heap.size 67108864/\w.S h:=by
 have aq:w.heap.size+1+1≠w.heap.size:=om;obtain⟨K,zA,V,pA,rA⟩:=bx w (.bool f) (.l a c d) (.l A j l) (.bool F) (.l B p q) (.l P s g) (.bool false) (.n) (.n);have ao:=fE R.den G.den;have q1:((c:Int)==0)=false:=by simp;omega
 have q2:((p:Int)==0)=false:=by simp;omega
 obtain⟨j0,j1,j2⟩:=V.g;go_enter func86,ntmps86;go_wp2_with fail;generalize (((w.alloc _).alloc _).alloc _)=w1 at*;have C:=@iq f a A n m c d k i j l X Y w1 om om (R.bH K).LX (R.bH K).LY R.lX R.lY;rw[show jh X c Y j=false by simpa using hs] at C;refine C.mono ?_;rintro e w3 ⟨rfl,z⟩;have x:=K.tr z;have o3:=V.bH z;have p3:=pA.bH z;have r3:=rA.bH z;clear C j0 j1 j2 V pA rA;have av:=And.intro o3.cells p3.cells;have J1:=@im a n m c d X w3.drew om (R.bH x).LX R.lX;go_wp2
 go_region_held3 (fun h=>h.cell? (jj w.heap.size 0)=some (.bool f)/\h.cell? (jj w.heap.size 1)=some (.l a c d)/\h.cell? (jj w.heap.size 2)=some (.l A j l)/\h.cell? (jj (w.heap.size+1) 0)=some (.bool F)/\h.cell? (jj (w.heap.size+1) 1)=some (.l B p q)/\h.cell? (jj (w.heap.size+1) 2)=some (.l P s g)) (go_keep)
  (first
    | (go_at_call 127
       first
        | (with_reducible refine J1.mono ?_
           rintro e w4 ⟨a1,g1,m1,t1,B1,rfl,k1,k2,L1,-,p1,e1,T⟩;have bb:w.S w4:=(fq x).trans (sM T x.size);have o4:=o3.drew.bH T;have p4:=p3.drew.bH T;have r4:=r3.drew.bH T;have D:=And.intro o4.cells p4.cells;have J2:=@im B o b p q Z w4 om (G.bH bb).LX G.lX)
        | (with_reducible refine J2.mono ?_
           rintro e w5 ⟨a2,g2,m2,t2,B2,rfl,l1,l2,L2,-,p2,e2,Q⟩;have S5:=bb.tr Q;have o5:=o4.bH Q;have p5:=p4.bH Q;have r5:=r4.bH Q;have D:=And.intro o5.cells p5.cells;have a7:=@kz a1 a2 g1 0 m1 t1 g2 0 m2 t2 B1 B2 w5 om om (L1.bH Q) L2;rw[e1,e2] at a7)
        | (with_reducible refine J4.mono ?_
           rintro e w7 ⟨a4,g4,m4,t4,B4,rfl,i1,i2,L4,-,aw,e4,S⟩;have bd:=bc.tr S;have o7:=o6.bH S;have p7:=p6.bH S;have r7:=r6.bH S;have D:=And.intro o7.cells p7.cells;have T7:=T6.bH S;have J5:=@im P t r s g H w7 om (G.bH bd).LY G.lY)
        | (with_reducible refine J5.mono ?_
           rintro e w8 ⟨a5,g5,m5,t5,B5,rfl,ar,au,L5,-,ax,e5,E⟩;have S8:=bd.tr E;have o8:=o7.bH E;have p8:=p7.bH E;have r8:=r7.bH E;have D:=And.intro o8.cells p8.cells;have T8:=T7.bH E;have a8:=@kz a4 a5 g4 0 m4 t4 g5 0 m5 t5 B4 B5 w8 om om (L4.bH E) L5;rw[e4,e5] at a8))
    | (go_at_call 137
       first
        | (with_reducible refine a7.mono ?_
           rintro e w6 ⟨g6,L,c6,W,rfl,f1,f2,L6,f3,f4,e6,U⟩;have bc:=S5.tr U;have o6:=o5.bH U;have p6:=p5.bH U;have r6:=r5.bH U;have D:=And.intro o6.cells p6.cells;have T6:Tr w6 (.s g6 L c6) L W:=⟨_,g6,0,c6,rfl,f1,L6,f4⟩;have J4:=@im A k i j l Y w6 om (R.bH bc).LY R.lY)
        | (with_reducible refine a8.mono ?_
           rintro e w9 ⟨g9,N,c9,O9,rfl,f5,f6,L9,f7,f8,e9,u⟩;have bf:=S8.tr u;have o9:=o8.bH u;have p9:=p8.bH u;have r9:=r8.bH u;have D:=And.intro o9.cells p9.cells;have T9:Tr w9 (.s g9 N c9) N O9:=⟨_,g9,0,c9,rfl,f5,L9,f8⟩;have a9:=@tx (!(f==F)) _ _ L N W O9 w9 om om (T8.bH u) T9 (by rw[e9];exact ao);rw[e6,e9] at a9))
    | (go_at_call 136;(with_reducible refine a9.mono ?_);rintro e ai ⟨v,rfl,⟨x1,x2,am,an,rfl,ba,O,y1,y2,y3⟩,y⟩;have ak:=ba;have aj:=O;obtain⟨aa,qa,ae,Ya,rfl,-⟩:=ba;obtain⟨ab,qb,af,Yb,rfl,-⟩:=O;have D:=And.intro (o9.bH y).cells (p9.bH y).cells;have I:=r9.bH y;obtain⟨u0,u1,u2⟩:=I.g;obtain⟨ay,az,a0⟩:=I.k))
 all_goals go_wp2
 all_goals
  have al:=bf.tr y;have z9:=bf.size;have a3:=x.size;have a6:=r9.lt;have rC:=((I.gH (.bool (!(f==F)&&lv X c*lv Z p != 0))).gM (.l aa qa ae)).gZ (.l ab qb af);refine bO (re rfl _ _ _ _ _ _ rfl rC) rfl ?_;have M:aV ai _ (w.heap.size+1+1):=(((aV.refl ai _).setCell 0 (.bool (!(f==F)&&lv X c*lv Z p != 0))).setCell 1 (.l aa qa ae)).setCell 2 (.l ab qb af);exact⟨_,rfl,⟨_,_,am,an,rfl,ak.marked M om,aj.marked M om,om,om,y3⟩,al.trans (M.since om)⟩
theorem ahY{I:Option Addr}{H:Nat->Nat}(hn:c+p+j+s<=16777216)
 (R:se w a A n m c d k i j l X Y)(h:se w B I o b p q t r s g Z H)(h1:0<c)(h2:0<p)(hs:jh X c Y j=true)(am:¬jh Z p H s=true):
 Cl 86 #[.agg #[.bool f,.slice a c d,.slice A j l],.agg #[.bool F,.slice B p q,.slice I s g]] w fun e v=>∃a6,e=.returned a6/\
  pe v a6 ((f != F)&&lv X c*lv Z p != 0) (lv X c*lv Z p/Nat.gcd (lv X c*lv Z p) (lv Y j*lv H s)) (lv Y j*lv H s/Nat.gcd (lv X c*lv Z p) (lv Y j*lv H s)) w.heap.size 67108864/\w.S v:=by
 have an:w.heap.size+1+1≠w.heap.size:=om;obtain⟨U,zA,N,pA,rA⟩:=bx w (.bool f) (.l a c d) (.l A j l) (.bool F) (.l B p q) (.l I s g) (.bool false) (.n) (.n);have al:=fE R.den h.den;have q1:((c:Int)==0)=false:=by simp;omega
 have q2:((p:Int)==0)=false:=by simp;omega
 obtain⟨j0,j1,j2⟩:=N.g;go_enter func86,ntmps86;go_wp2_with fail;generalize (((w.alloc _).alloc _).alloc _)=w1 at*;have E:=@iq f a A n m c d k i j l X Y w1 om om (R.bH U).LX (R.bH U).LY R.lX R.lY;rw[hs] at E;refine E.mono ?_;rintro e w2 ⟨rfl,O⟩;have G:=U.tr O;have o2:=N.bH O;have Q:=pA.bH O;have r2:=rA.bH O;have z2:=O.size;clear E j0 j1 j2 N pA rA;obtain⟨k0,k1,k2⟩:=Q.g;have W:=@iq F B I o b p q t r s g Z H w2 om om (h.bH G).LX (h.bH G).LY h.lX h.lY;rw[show jh Z p H s=false by simpa using am] at W;go_wp2_with fail;refine W.mono ?_;rintro e w3 ⟨rfl,P⟩;have z:=G.tr P;have o3:=o2.bH P;have p3:=Q.bH P;have r3:=r2.bH P;have z3:=P.size;clear W k0 k1 k2 o2 Q r2;have ar:=And.intro o3.cells p3.cells;have J1:=@im a n m c d X w3.drew om (R.bH z).LX R.lX;go_wp2
 go_region_held3 (fun v=>v.cell? (jj w.heap.size 0)=some (.bool f)/\v.cell? (jj w.heap.size 1)=some (.l a c d)/\v.cell? (jj w.heap.size 2)=some (.l A j l)/\v.cell? (jj (w.heap.size+1) 0)=some (.bool F)/\v.cell? (jj (w.heap.size+1) 1)=some (.l B p q)/\v.cell? (jj (w.heap.size+1) 2)=some (.l I s g)) (go_keep)
  (first
    | (go_at_call 127
       first
        | (with_reducible refine J1.mono ?_
           rintro e w4 ⟨a1,g1,m1,t1,B1,rfl,k1,k2,L1,-,p1,e1,C⟩;have S4:w.S w4:=(fq z).trans (sM C z.size);have o4:=o3.drew.bH C;have p4:=p3.drew.bH C;have r4:=r3.drew.bH C;have K:=And.intro o4.cells p4.cells;have J2:=@im B o b p q Z w4 om (h.bH S4).LX h.lX)
        | (with_reducible refine J2.mono ?_
           rintro e w5 ⟨a2,g2,m2,t2,B2,rfl,l1,l2,L2,-,Q,e2,u⟩;have S5:=S4.tr u;have o5:=o4.bH u;have p5:=p4.bH u;have r5:=r4.bH u;have K:=And.intro o5.cells p5.cells;have J3:=@kz a1 a2 g1 0 m1 t1 g2 0 m2 t2 B1 B2 w5 om om (L1.bH u) L2;rw[e1,e2] at J3)
        | (with_reducible refine J4.mono ?_
           rintro e w7 ⟨a4,g4,m4,t4,B4,rfl,i1,i2,L4,-,au,e4,x⟩;have S7:=S6.tr x;have o7:=o6.bH x;have p7:=p6.bH x;have r7:=r6.bH x;have K:=And.intro o7.cells p7.cells;have T7:=T6.bH x;have J5:=@im I t r s g H w7 om (h.bH S7).LY h.lY)
        | (with_reducible refine J5.mono ?_
           rintro e w8 ⟨a5,g5,m5,t5,B5,rfl,ao,aq,L5,-,av,e5,L⟩;have S8:=S7.tr L;have o8:=o7.bH L;have p8:=p7.bH L;have r8:=r7.bH L;have K:=And.intro o8.cells p8.cells;have T8:=T7.bH L;have J6:=@kz a4 a5 g4 0 m4 t4 g5 0 m5 t5 B4 B5 w8 om om (L4.bH L) L5;rw[e4,e5] at J6))
    | (go_at_call 137
       first
        | (with_reducible refine J3.mono ?_
           rintro e w6 ⟨g6,V,c6,O6,rfl,f1,f2,L6,f3,f4,e6,D⟩;have S6:=S5.tr D;have o6:=o5.bH D;have p6:=p5.bH D;have r6:=r5.bH D;have K:=And.intro o6.cells p6.cells;have T6:Tr w6 (.s g6 V c6) V O6:=⟨_,g6,0,c6,rfl,f1,L6,f4⟩;have J4:=@im A k i j l Y w6 om (R.bH S6).LY R.lY)
        | (with_reducible refine J6.mono ?_
           rintro e w9 ⟨g9,a3,c9,O9,rfl,f5,f6,L9,f7,f8,e9,y⟩;have S9:=S8.tr y;have o9:=o8.bH y;have p9:=p8.bH y;have r9:=r8.bH y;have K:=And.intro o9.cells p9.cells;have T9:Tr w9 (.s g9 a3 c9) a3 O9:=⟨_,g9,0,c9,rfl,f5,L9,f8⟩;have J7:=@tx (!(f==F)) _ _ V a3 O6 O9 w9 om om (T8.bH y) T9 (by rw[e9];exact al);rw[e6,e9] at J7))
    | (go_at_call 136;(with_reducible refine J7.mono ?_);rintro e af ⟨a6,rfl,⟨x1,x2,aj,ak,rfl,ac,a7,y1,y2,y3⟩,S⟩;have ah:=ac;have ag:=a7;obtain⟨aa,qa,ad,Ya,rfl,-⟩:=ac;obtain⟨ab,qb,ae,Yb,rfl,-⟩:=a7;have K:=And.intro (o9.bH S).cells (p9.bH S).cells;have T:=r9.bH S;obtain⟨u0,u1,u2⟩:=T.g;obtain⟨aw,ax,ay⟩:=T.k))
 all_goals go_wp2
 all_goals
  have ai:=S9.tr S;have z9:=S9.size;have az:=z.size;have a0:=r9.lt;have rC:=((T.gH (.bool (!(f==F)&&lv X c*lv Z p != 0))).gM (.l aa qa ad)).gZ (.l ab qb ae);refine bO (re rfl _ _ _ _ _ _ rfl rC) rfl ?_;have M:aV af _ (w.heap.size+1+1):=(((aV.refl af _).setCell 0 (.bool (!(f==F)&&lv X c*lv Z p != 0))).setCell 1 (.l aa qa ad)).setCell 2 (.l ab qb ae);exact⟨_,rfl,⟨_,_,aj,ak,rfl,ah.marked M om,ag.marked M om,om,om,y3⟩,ai.trans (M.since om)⟩
theorem akc{f F:Bool}{a A B D:Option Addr}{n m c d k i j l o b p q t r s g:Nat}{X Y Z h:Nat->Nat}{w:World}(x:c+p+j+s<=16777216)
 (R:se w a A n m c d k i j l X Y)(u:se w B D o b p q t r s g Z h):
 Cl 86 #[.agg #[.bool f,.slice a c d,.slice A j l],.agg #[.bool F,.slice B p q,.slice D s g]] w fun e G=>∃v,e=.returned v/\
  pe G v ((f != F)&&lv X c*lv Z p != 0) (lv X c*lv Z p/Nat.gcd (lv X c*lv Z p) (lv Y j*lv h s)) (lv Y j*lv h s/Nat.gcd (lv X c*lv Z p) (lv Y j*lv h s)) w.heap.size 67108864/\w.S G:=by
 by_cases H:c=0∨p=0
 . exact ahX x R u H
 have y:0<c:=om;have z:0<p:=om;by_cases C:jh X c Y j=true
 . by_cases E:jh Z p h s=true
   . exact ag9 x R u y z C E
   . exact ahY x R u y z C E
 . exact ahZ x R u y z C
end Go.Proofs.YtaeieekkddndhaaGreat
