import Derived.Test.YtinihjgnnlemmaaGreatDoorOwnP23
set_option maxHeartbeats 6400000
set_option maxRecDepth 100000
set_option linter.unusedVariables false
namespace Go.Proofs.YtinihjgnnlemmaaGreatDoor
open Tryz Go.RowKit
variable{w v W V:World}{n m c d k i j l o b p q t r s g h e:Nat}{a A B:Option Addr}{X Y Z:Nat->Nat}{u U:Value}{f F:Bool}
theorem ahB(h:Nat.gcd n m∣c):Nat.gcd (Nat.gcd c n) m=Nat.gcd n m:=by
 rw[Nat.gcd_assoc];exact Nat.gcd_eq_right h
theorem ac2{u U v3:Value}(Bx:ie w n (.bool f) u U v3)(H1:gE w u m k 16777216)(H2:gE w U c i 16777216)(H3:gE w v3 d j 16777216)(F:Nat.gcd k i∣j):
 Cl 210 #[.p n 0] w fun e h=>∃b m,e=.returned b/\gE h b m (Nat.gcd k i) 67108864/\w.heap.size<=m/\w.S h:=by
 obtain⟨ah,N,S,z,rfl,n1,n2,n3,LX,FX,V,pX,eX⟩:=H1;obtain⟨ai,K,aj,ag,rfl,m1,m2,m3,O,FY,W,pY,T⟩:=H2;obtain⟨D,q,A,Z,rfl,k1,k2,k3,P,FZ,H,L,Y⟩:=H3;have b1:=Bx.c1;have b2:=Bx.c2;have b3:=Bx.c3;have a:=jz b2 O W pY;have l:=jz b3 P H L;rw[T] at a;rw[Y] at l;have sA:=fA w (.o #[.int .u32 1] 133);by_cases C:i=1
 . have E:Nat.gcd k i=1:=(by rw[C];exact Nat.gcd_one_right k);rw[E];rw[show decide (i=1)=true by simp[C]] at a;go_enter func210,ntmps210;go_wp2_with fail;refine a.mono ?_;rintro e g ⟨rfl,rfl⟩;go_wp2;go_ret;exact⟨_,_,rfl,oo g,aC _,sA⟩
 . rw[show decide (i=1)=false by simp[C]] at a;by_cases G:j=1
   . have E:Nat.gcd k i=1:=(by rw[G] at F;exact Nat.dvd_one.1 F);rw[E];rw[show decide (j=1)=true by simp[G]] at l;go_enter func210,ntmps210;go_wp2_with fail;refine mo a fun g o=> ?_;rw[o];go_wp2_with fail;refine l.mono ?_;rintro e g ⟨rfl,rfl⟩;go_wp2;go_ret;exact⟨_,_,rfl,oo g,aC _,sA⟩
   . rw[show decide (j=1)=false by simp[G]] at l;have J1:=@dn D ah d 0 q A m 0 N S Z z w.drew (aJ _) k2 n2 k1 n1 k3 n3 P LX H V L pX trivial;have HX:=eI (And.intro V pX);have M:=eI (And.intro W pY);have HZ:=eI (And.intro H L);have HG:=eI (ahB F);have v:=eI eX;have EY:=eI T;have x:=eI Y;have dr:w.S w.drew:=gz yD;go_enter func210,ntmps210;go_wp2_with fail;refine mo a fun g o=> ?_;rw[o];go_wp2_with fail;refine mo l fun g o=> ?_;rw[o];go_wp2
     go_region_held3 (fun h=>h.cell? (jj n 1)=some (.l ah N S)/\h.cell? (jj n 2)=some (.l ai K aj)/\h.cell? (jj n 3)=some (.l D q A)) (go_keep)
      (first
        | (go_at_call 129;(with_reducible refine J1.mono ?_);rintro e w2 ⟨v4,g4,rfl,⟨a4,s,c4,y,rfl,y1,y2,y3,L4,F4,l4,I,r⟩,ae,s4⟩;have p:=dr.tr s4;have t:=Bx.aA p;have i1:=t.c1;have i2:=t.c2;have i3:=t.c3;have ad:s<=16777216:=by
            rw[x.out,v.out] at r;by_cases ab:k=0
            . have B:lv y s<=lv Z q:=(by rw[r,x.out,ab,rR];exact aC _);have:=ot HZ.out.1 I B;omega
            . have B:lv y s<=lv z N:=(by rw[r,v.out];exact rE _ om);have:=ot HX.out.1 I B;omega
           have J2:=@dn a4 ai g4 0 s c4 c 0 K aj y ag w2 (aJ _) ad m2 y1 m1 y3 m3 L4 (O.aA p) l4 M.out.1 I M.out.2 trivial)
        | (go_at_call 129;(with_reducible refine J2.mono ?_);rintro e w3 ⟨v5,g5,rfl,Q,ac,s5⟩;have R:=p.tr s5;have X:=Bx.aA R;have i1:=X.c1;have i2:=X.c2;have i3:=X.c3))
     rw[r,EY.out,x.out,v.out,HG.out] at Q;go_wp2;go_ret;exact⟨_,g5,rfl,Q,aU p.size ac,R⟩
theorem Tab.bR(a:Tab w)(d:0<=w.heap.size)(b:0<=c)(e:il c w v):Tab v:=trivial
theorem Tab.stay(h:Tab w)(a:0<=w.heap.size)(s:w.S v):Tab v:=h.bR (c:=w.heap.size) a om (il.aD _ s)
theorem acP{u U v3:Value}(hw:0<=w.heap.size)(hT:Tab w)(Bx:ie w n (.bool f) u U v3)(I:gE w u m k 16777216)(L:gE w U c i 16777216)(H3:gE w v3 d j 16777216)(hK:Nat.gcd k i∣j)
 (W:m≠c)(ai:m<w.heap.size)(aj:c<w.heap.size)(T:l<=m)(X:l<=c)(E:l<=w.heap.size)(ag:l<=n)(h1:Nat.gcd k i=1):
 Cl 173 #[.p n 0] w fun e h=>∃aa,e=.returned aa/\jM h aa (f&&k != 0) k i l 16777218/\w.Since l h:=by
 have K:=I;have N:=L;obtain⟨a,g,p,ac,rfl,n1,n2,n3,LX,FX,lX,pX,eX⟩:=I;obtain⟨b,r,q,af,rfl,m1,m2,m3,LY,FY,lY,pY,eY⟩:=L;have ae:=Bx.lt;have o:=fA w yJ;have rA:=eS.new w (.bool false) (.n) (.n) 70;have t:=Bx.aA o;have tA:=hT.stay hw o;have wA:0<=(w.alloc yJ).heap.size:=aJ _;have XA:=LX.aA o;have YA:=LY.aA o;go_enter func173,ntmps173;go_wp2_with fail;generalize w.alloc _=w1 at*;have P:=ac2 t (K.aA o) (N.aA o) (H3.aA o) hK;rw[h1] at P;have k0:=t.c1;have k1:=t.c2;have z1:=rA.lt;have ab:=eI (And.intro lX (And.intro pX (And.intro lY pY)));refine P.mono ?_;rintro e s ⟨v4,g3,rfl,⟨C,v,D,ad,rfl,y1,y2,y3,L3,F3,l3,p3,e3⟩,ah,A⟩;have b2:=t.aA A;have r2:=rA.aA A;go_wp2_with fail;have y:=fA s (.o #[.l C v D] 102);have S:=b2.aA y;have x:=r2.aA y;have L4:=L3.aA y;have S3:=A.tr y;have Q0:(s.alloc (.o #[.l C v D] 102)).cell? (jj s.heap.size 0)=some (.l C v D):=by simp[go_sem]
 generalize s.alloc _=w3 at*;generalize s.heap.size=d at*;have B:=o.trans (sM S3 (by have:=o.size;omega));have Q:=(K.aA B).more (show 16777216<=16777218 by omega);have H:=(N.aA B).more (show 16777216<=16777218 by omega);have R:=gz (sM B E);have V:m≠w.heap.size:=om;have Y:c≠w.heap.size:=om;have Z:((g:Int)==0)= !(k != 0):=by
  have hN:g=0↔k=0:=by
   rw[<-eX];constructor
   . intro c;rw[c];rfl
   . intro c;rcases cQ g with e | e
     . exact e
     . have:=rj ac g e (ab.out.2.1 e);have:=fX (n:=32*(g-1)) (show 0<2 by omega);omega
  rw[gG];simp;omega
 have HZ:=eI Z;clear Z;have e4:decide (lv ad v=1)=true:=by simp[e3]
 have O:=jz Q0 L4 l3 p3;rw[e4] at O;refine O.mono ?_;rintro e z ⟨rfl,rfl⟩;obtain⟨j0,j1,j2⟩:=S.g;obtain⟨u0,u1,u2⟩:=x.g;obtain⟨al,am,an⟩:=x.k;have I2:=nN S.drew.c1;have ak:=qY ae;cases f
 . go_wp2;first | go_region_held (fun h=>h.cell? (jj n 0)=some (.bool false)/\h.cell? (jj n 1)=some (.l a g p)/\h.cell? (jj n 2)=some (.l b r q)) (go_keep) (fail) | fail
   all_goals go_wp2
   all_goals
    have F:=((x.drew.bE (.bool false)).bH (.l a g p)).bF (.l b r q);refine bO (qi rfl _ _ _ _ _ _ rfl F) rfl ?_;have M:eM z.drew _ w.heap.size:=(((eM.refl z.drew _).setCell 0 (.bool false)).setCell 1 (.l a g p)).setCell 2 (.l b r q);exact⟨_,rfl,⟨_,_,m,c,rfl,Q.drew.marked M V,H.drew.marked M Y,T,X,W⟩,R.trans (M.since E)⟩
 . go_wp2
   go_region_held3 (fun h=>h.cell? (jj n 0)=some (.bool true)/\h.cell? (jj n 1)=some (.l a g p)/\h.cell? (jj n 2)=some (.l b r q)) (go_keep)
    (first | (go_at_call 96;with_reducible refine mp I2 ?_))
   all_goals go_wp2
   all_goals
    have F:=((x.drew.bE (.bool (!((g:Int)==0)))).bH (.l a g p)).bF (.l b r q);refine bO (qi rfl _ _ _ _ _ _ rfl F) rfl ?_;have M:eM z.drew _ w.heap.size:=(((eM.refl z.drew _).setCell 0 (.bool (!((g:Int)==0)))).setCell 1 (.l a g p)).setCell 2 (.l b r q);rw[HZ.out] at M⊢;exact⟨_,rfl,⟨_,_,m,c,qz,Q.drew.marked M V,H.drew.marked M Y,T,X,W⟩,R.trans (M.since E)⟩
section
variable{w w':World}{a:Option Addr}{d g off n N M:Nat}{X:Nat->Nat}{v x y z:Value}
theorem eS.cD(h:eS w d x y z)(e:w'.heap[d]?=w.heap[d]?):eS w' d x y z:=
 ⟨(aO (w:=w) (a:=jj d 0) e).trans h.c0,(aO (w:=w) (a:=jj d 1) e).trans h.c1,(aO (w:=w) (a:=jj d 2) e).trans h.c2,fun k=>(dK (w:=w) (a:=jj d k) e).trans (h.f k)⟩
theorem eO.cD(h:eO w a g off n X)(e:0<n->w'.heap[g]?=w.heap[g]?):eO w' a g off n X:=
 fun j b=>⟨(h j b).1,(aO (w:=w) (a:=jj g (off+j)) (e om)).trans (h j b).2⟩
theorem gE.cD(h:gE w v g N M)(e:g<w.heap.size->w'.heap[g]?=w.heap[g]?):gE w' v g N M:=by
 obtain⟨a,m,d,Y,f,i,j,k,c,l,n,p,q⟩:=h;exact⟨a,m,d,Y,f,i,j,k,c.cD (fun b=>e (c.lt b)),fun b o=>(dK (w:=w) (a:=jj g o) (e (c.lt b))).trans (l b o),n,p,q⟩
theorem gE.place(h:gE w v g N M)(n:Nat):g<w.heap.size∨gE w v n N M:=by
 obtain⟨a,m,b,Y,d,f,i,k,l,r,c,o,p⟩:=h;rcases cQ m with e | e
 . subst e;exact Or.inr ⟨a,0,b,Y,d,f,i,k,fun j q=>absurd q om,fun h=>absurd h om,c,o,p⟩
 . exact Or.inl (l.lt e)
end
theorem km(p:0<n->X (n-1)≠0):n=0↔lv X n=0:=by
 constructor
 . intro h;rw[h];rfl
 . intro h;rcases cQ n with e | e
   . exact e
   . have:=rj X n e (p e);have:=fX (n:=32*(n-1)) (show 0<2 by omega);omega
theorem yN{N:Nat}(a:0<n):N/Nat.gcd N n=0↔N=0:=by
 have b:=lQ N a;constructor
 . intro h;rcases cQ N with e | e
   . exact e
   . have:=tS (rK n e) b;omega
 . intro h;rw[h];exact Nat.zero_div _
theorem acQ{u U v3:Value}(hw:0<=w.heap.size)(hT:Tab w)(Bx:ie w n (.bool f) u U v3)(H1:gE w u m k 16777216)(H2:gE w U c i 16777216)(H3:gE w v3 d j 16777216)(hK:Nat.gcd k i∣j)
 (cf:m≠c)(bp:m<w.heap.size)(cg:c<w.heap.size)(bf:n≠m)(bh:n≠c)(hg:l<=m)(hh:l<=c)(hB:l<=w.heap.size)(hc:l<=n)(hD:0<i)(h1:Nat.gcd k i≠1):
 Cl 173 #[.p n 0] w fun e p=>∃a6,e=.returned a6/\jM p a6 (f&&k != 0) (k/Nat.gcd k i) (i/Nat.gcd k i) l 16777218/\w.Since l p:=by
 have ai:=H1;have aj:=H2;obtain⟨am,ag,ca,al,rfl,n1,n2,n3,LX,FX,lX,pX,eX⟩:=H1;obtain⟨an,ac,cb,bb,rfl,m1,m2,m3,LY,FY,lY,pY,eY⟩:=H2;have bi:=Bx.lt;have C:=fA w yJ;have rA:=eS.new w (.bool false) (.n) (.n) 70;have bA:=Bx.aA C;have tA:=hT.stay hw C;have wA:0<=(w.alloc yJ).heap.size:=aJ _;have XA:=LX.aA C;have YA:=LY.aA C;obtain⟨G,hG⟩:∃G,G=Nat.gcd k i:=⟨_,rfl⟩;have cc:0<G:=by rw[hG];exact lQ k hD
 have cd:G<=i:=by rw[hG];exact rE k hD
 have aw:=eI (yN (N:=k) hD);rw[<-hG] at aw h1⊢;go_enter func173,ntmps173;go_wp2_with fail;generalize w.alloc _=w1 at*;have J1:=ac2 bA (ai.aA C) (aj.aA C) (H3.aA C) hK;rw[<-hG] at J1;have k0:=bA.c1;have k1:=bA.c2;have z1:=rA.lt;have ae:=eI (And.intro lX (And.intro pX (And.intro lY pY)));clear lX pX lY pY hG;refine J1.mono ?_;rintro e O ⟨v4,g3,rfl,⟨t,a,v,Z,rfl,y1,y2,y3,L3,F3,l3,p3,e3⟩,bm,S2⟩;clear J1;have b2:=bA.aA S2;have r2:=rA.aA S2;go_wp2_with fail;have t3:=fA O (.o #[.l t a v] 102);have E:=b2.aA t3;have r3:=r2.aA t3;have Q:=L3.aA t3;have S3:=S2.tr t3;have V:(O.alloc (.o #[.l t a v] 102)).cell? (jj O.heap.size 0)=some (.l t a v):=by simp[go_sem]
 have ce:w1.heap.size<=g3:=bm;have cl:w1.heap.size<=O.heap.size:=S2.size;generalize O.alloc _=w3 at*;generalize O.heap.size=d at*;have z0:w.heap.size<w1.heap.size:=rA.lt;have W:=C.trans (sM S3 (by have:=C.size;omega));have bs:d<w3.heap.size:=aG _ _ V;have aa:0<a:=by
  rcases cQ a with e | e
  . subst e;rw[show lv Z 0=0 from rfl] at e3;omega
  . exact e
 have ch:a<=ac:=by
  rcases jI ac a with bq | bo
  . have:=ve (A:=bb) (B:=Z) ae.out.2.2.1 bq p3;omega
  . exact bo
 have bn:g3<w3.heap.size:=Q.lt aa;have e4:decide (lv Z a=1)=false:=by rw[e3];simp[h1]
 have I1:=jz V Q l3 p3;rw[e4] at I1;clear e4;have K:=eI (And.intro l3 (And.intro p3 e3));clear l3 p3 e3;refine I1.mono ?_;rintro e q ⟨rfl,rfl⟩;clear I1;have N4:=(ai.aA W).drew;have D4:=(aj.aA W).drew;have X4:eO q.drew am m 0 ag al:=LX.aA (gz W);have F4:0<ag->∀ad,q.drew.frozen? (jj m ad)=false:=fun h0 ad=>((gz W).frozen (a:=jj m ad) bp).trans (FX h0 ad);have JD:=@yM n 1 am t m ag ca g3 a v al Z q.drew om n1 n3 aa om E.drew.c1 (E.drew.f 1) X4 Q.drew ae.out.1 K.out.1 F4 bf (fun _=>by show m<q.heap.size;omega) ae.out.2.1 (K.out.2.1 aa);rw[eX,K.out.2.2] at JD;have Q1:q.drew.cell? (jj d 0)=some (.l t a v):=V;have af:d≠n:=om;have bw:d≠m:=om;have Q2:=V;have zd:q.drew.heap.size=q.heap.size:=rfl;go_wp2
 go_region_held3 (fun p=>p.cell? (jj d 0)=some (.l t a v)) (go_keep)
  (first
    | (go_at_call 211;(with_reducible refine JD.mono ?_);rintro e A ⟨vq,vr,L,gr,rfl,X,⟨g,nq,h,a7,rfl,N,u2,u3,R,P,lU,pU,eU⟩,Nr,a2,cm,d1,d2,d3,b⟩;have i1:A.cell? (jj d 0)=some (.l t a v):=(aO (w:=q.drew) (a:=jj d 0) (b.block d bs af bw)).trans Q1;have fz:A.frozen? (jj n 1)=false:=(b.frozen 1).trans (E.f 1);have bj:n≠d:=by omega))
 have z5:=b.size;have Nq:gE A (.l g nq h) L (k/G) 16777218:=⟨g,nq,h,a7,rfl,N,om,u3,R,P,lU,pU,eU⟩;have b5:ie A n (.bool f) vr (.l an ac cb) v3:=⟨(b.cell 0 qd).trans E.c0,X,(b.cell 2 qd).trans E.c2,(b.cell 3 qd).trans E.c3,fun z=>(b.frozen z).trans (E.f z)⟩;have F:=b5.bH (.l g nq h);have D:eM A (A.setCell (jj n 1) (.l g nq h)) n:=(eM.refl A _).setCell _ _;have r6:=(r3.drew.cD (b.block w.heap.size (by show w.heap.size<q.heap.size;omega) om om)).marked D om;have N6:=Nq.marked D d2;have D6:=(D4.cD (fun _=>b.block c (by show c<q.heap.size;omega) om om)).marked D om;have L6:=(Q.drew.cD (fun _=>b.block g3 bn om om)).marked D (fun _=>by omega);have Q6:(A.setCell (jj n 1) (.l g nq h)).cell? (jj d 0)=some (.l t a v):=(D.cell (a:=jj d 0) af).trans i1;have z6:=D.size;have S6:w.Since l (A.setCell (jj n 1) (.l g nq h)):=by have s4:w.Since l q.drew:=gz (sM W hB);have s5:q.drew.Since l A:=⟨b.os,b.tape,b.output,b.size,fun z hk=>b.block z (by show z<q.heap.size;omega) om om⟩;exact (s4.trans s5).trans (D.since hc)
 clear R P lU pU N u2 u3 b5 X Nr N4 D4 Q V Q1 Q2 i1 fz;go_wp2_with fail;generalize A.setCell (jj n 1) (.l g nq h)=x at*;obtain⟨b',m',ao,Y',Y,b1,ct,b4,ak,ah,a4,a5,ar⟩:=D6;obtain⟨rfl,rfl,rfl⟩:b'=an/\m'=ac/\ao=cb:=by simp at Y;exact⟨Y.1.symm,Y.2.1.symm,Y.2.2.symm⟩
 have JE:=@yM n 2 b' t c m' ao g3 a v Y' Z x.drew om b1 b4 aa om F.drew.c2 (F.drew.f 2) ak.drew L6.drew a4 K.out.1 ah bh (fun _=>by show c<x.heap.size;omega) a5 (K.out.2.1 aa);rw[ar,K.out.2.2] at JE;clear a4 a5 ar Y ak ah;have bz:d≠c:=om;have Q7:x.drew.cell? (jj d 0)=some (.l t a v):=Q6;have bu:d<x.drew.heap.size:=by show d<x.heap.size;omega
 go_wp2
 go_region_held3 (fun p=>p.cell? (jj d 0)=some (.l t a v)) (go_keep)
  (first
    | (go_at_call 211;(with_reducible refine JE.mono ?_);rintro e B ⟨vq,vr,y,gs,rfl,X,⟨ap,s,r,ba,rfl,N,u2,u3,R,P,lU,pU,eV⟩,Nr,a1,cn,d4,d5,d6,o⟩;have i1:B.cell? (jj d 0)=some (.l t a v):=(aO (w:=x.drew) (a:=jj d 0) (o.block d bu af bz)).trans Q7;have fz:B.frozen? (jj n 2)=false:=(o.frozen 2).trans (F.f 2);have bj:n≠d:=by omega))
 have z7:=o.size;have cy:x.drew.heap.size=x.heap.size:=rfl;have Np:gE B (.l ap s r) y (i/G) 16777218:=⟨ap,s,r,ba,rfl,N,om,u3,R,P,lU,pU,eV⟩;have b7:ie B n (.bool f) (.l g nq h) vr v3:=⟨(o.cell 0 qd).trans F.c0,(o.cell 1 qd).trans F.c1,X,(o.cell 3 qd).trans F.c3,fun z=>(o.frozen z).trans (F.f z)⟩;have b8:=b7.bF (.l ap s r);have S:eM B (B.setCell (jj n 2) (.l ap s r)) n:=(eM.refl B _).setCell _ _;have r8:=(r6.drew.cD (o.block w.heap.size (by show w.heap.size<x.heap.size;omega) om om)).marked S om;have b0:L≠c:=om;have T:=(N6.drew.cD (fun hl=>o.block L hl d2 b0)).marked S d2;have P8:=Np.marked S d5;have z8:=S.size;have S8:w.Since l (B.setCell (jj n 2) (.l ap s r)):=by have s7:x.drew.Since l B:=⟨o.os,o.tape,o.output,o.size,fun z hk=>o.block z (by show z<x.heap.size;omega) om om⟩;exact ((gz S6).trans s7).trans (S.since hc)
 have a0:((nq:Int)==0)= !(k != 0):=by
  obtain⟨a9,m9,c9,Y9,H,-,-,-,-,-,-,p9,v9⟩:=T;have:m9=nq:=by simp at H;exact H.2.1.symm
  subst this;have hN:=(km p9);rw[v9,aw.out] at hN;rw[gG];simp;omega
 have HZ:=eI a0;clear a0 R P lU pU N u2 u3 b7 X Nr Q6 Q7 i1 fz;have ck:y=c∨x.heap.size<=y:=a1;have b9:L=m∨q.heap.size<=L:=a2;obtain⟨I,ax,au,ay,N9⟩:∃I,I≠y/\l<=I/\I≠w.heap.size/\gE (B.setCell (jj n 2) (.l ap s r)) (.l g nq h) I (k/G) 16777218:=by
  rcases N6.place (y+1+w.heap.size) with hl | hp
  . exact⟨L,om,om,om,T⟩
  . refine⟨y+1+w.heap.size,om,om,om, ?_⟩;rcases T.place (y+1+w.heap.size) with ci | br
    . obtain⟨a9,m9,c9,Y9,H,q1,q2,q3,L9,-,q5,q6,q7⟩:=hp;obtain⟨a8,m8,c8,Y8,e8,r1,r2,r3,L8,F8,r5,r6,r7⟩:=T;rcases cQ m8 with e0 | e0
      . exact⟨a8,m8,c8,Y8,e8,r1,r2,r3,fun co hj=>absurd hj om,fun hj=>absurd hj om,r5,r6,r7⟩
      . have bc:m8=m9/\a8=a9:=(by rw[e8] at H;simp at H;exact⟨H.2.1,H.1⟩);have x8:=(L8 0 e0).1;have x9:=(L9 0 om).1;rw[bc.2,x9] at x8;simp at x8;rw[x8];exact⟨a8,m8,c8,Y8,e8,r1,r2,r3,L8,F8,r5,r6,r7⟩
    . exact br
 clear N6 T a2 a1;have av:l<=y:=om;have az:y≠w.heap.size:=om;go_wp2_with fail;generalize B.setCell (jj n 2) (.l ap s r)=w8 at*;obtain⟨j0,j1,j2⟩:=b8.g;obtain⟨u0,N,u2⟩:=r8.g;obtain⟨cu,cw,cx⟩:=r8.k;have I2:=nN b8.drew.c1;have cj:w.heap.size≠n:=qY bi;cases f
 . go_wp2;first | go_region_held (fun p=>p.cell? (jj n 0)=some (.bool false)/\p.cell? (jj n 1)=some (.l g nq h)/\p.cell? (jj n 2)=some (.l ap s r)) (go_keep) (fail) | fail
   all_goals go_wp2
   all_goals
    have r4:=((r8.drew.bE (.bool false)).bH (.l g nq h)).bF (.l ap s r);refine bO (qi rfl _ _ _ _ _ _ rfl r4) rfl ?_;have M:eM w8.drew _ w.heap.size:=(((eM.refl w8.drew _).setCell 0 (.bool false)).setCell 1 (.l g nq h)).setCell 2 (.l ap s r);exact⟨_,rfl,⟨_,_,I,y,rfl,N9.drew.marked M ay,P8.drew.marked M az,au,av,ax⟩,(gz S8).trans (M.since hB)⟩
 . go_wp2
   go_region_held3 (fun p=>p.cell? (jj n 0)=some (.bool true)/\p.cell? (jj n 1)=some (.l g nq h)/\p.cell? (jj n 2)=some (.l ap s r)) (go_keep)
    (first | (go_at_call 96;with_reducible refine mp I2 ?_))
   all_goals go_wp2
   all_goals
    have r4:=((r8.drew.bE (.bool (!((nq:Int)==0)))).bH (.l g nq h)).bF (.l ap s r);refine bO (qi rfl _ _ _ _ _ _ rfl r4) rfl ?_;have M:eM w8.drew _ w.heap.size:=(((eM.refl w8.drew _).setCell 0 (.bool (!((nq:Int)==0)))).setCell 1 (.l g nq h)).setCell 2 (.l ap s r);rw[HZ.out] at M⊢;exact⟨_,rfl,⟨_,_,I,y,qz,N9.drew.marked M ay,P8.drew.marked M az,au,av,ax⟩,(gz S8).trans (M.since hB)⟩
theorem acR{n:Nat}{f:Bool}{u U x:Value}{m c d k i j l:Nat}{w:World}(t:0<=w.heap.size)(C:Tab w)(Bx:ie w n (.bool f) u U x)(b:gE w u m k 16777216)(g:gE w U c i 16777216)(h:gE w x d j 16777216)(B:Nat.gcd k i∣j)
 (o:m≠c)(p:m<w.heap.size)(s:c<w.heap.size)(z:n≠m)(A:n≠c)(E:l<=m)(r:l<=c)(q:l<=w.heap.size)(D:l<=n)(y:0<i):
 Cl 173 #[.p n 0] w fun e F=>∃v,e=.returned v/\jM F v (f&&k != 0) (k/Nat.gcd k i) (i/Nat.gcd k i) l 16777218/\w.Since l F:=by
 by_cases a:Nat.gcd k i=1
 . rw[a,pI,pI];exact acP t C Bx b g h B o p s E r q D a
 . exact acQ t C Bx b g h B o p s z A E r q D y a
structure wv(w:World)(a b:Option Addr)(ba oa n ca bb ob m cb:Nat)(X Y:Nat->Nat):Prop where
 nc:n<=ca
 mc:m<=cb
 ac:a=none->ca=0
 bc:b=none->cb=0
 LX:eO w a ba oa n X
 LY:eO w b bb ob m Y
 lX:∀j,j<n->X j<4294967296
 lY:∀j,j<m->Y j<4294967296
 pX:0<n->X (n-1)≠0
 pY:0<m->Y (m-1)≠0
 m0:0<m
theorem wv.aA{w w':World}(h:wv w a A n m c k d i j l X Y)(s:w.S w'):wv w' a A n m c k d i j l X Y:=
 ⟨h.nc,h.mc,h.ac,h.bc,h.LX.aA s,h.LY.aA s,h.lX,h.lY,h.pX,h.pY,h.m0⟩
theorem wv.den(h:wv w a A n m c d k i j l X Y):0<lv Y j:=by
 rcases cQ (lv Y j) with e | e
 . have:=(km h.pY).2 e;have:=h.m0;omega
 . exact e
def nl(v j:Nat):Nat:=v/4294967296^j % 4294967296
theorem apZ(n m:Nat):lv (nl n) m=n % 4294967296^m:=by
 induction m with
 | zero=>simp[lv,rX]
 | succ m ih=>
   have h:lv (nl n) (m+1)=lv (nl n) m+nl n m*2^(32*m):=rfl;rw[h,ih,iH,Nat.mod_mul,show (2:Nat)^(32*m)=4294967296^m by rw[Nat.pow_mul],cJ (4294967296^m)];rfl
theorem agS(h:w.ownsRow n 133 1 u m (ll X m))(i:u≠ .n):
 ∃a g b,u=.slice a m b/\m<=b/\(a=none->b=0)/\n<=g/\g<w.heap.size/\eO w a g 0 m X/\(0<m->∀o,w.frozen? (jj g o)=false):=by
 have d:= @World.ownsRow.cells _ _ _ _ _ _ _ h;rcases h.2 with ⟨rfl,rfl⟩ | ⟨g,b,k,rfl,hb,c,f,_⟩
 . exact absurd rfl i
 . refine⟨_,g,b,rfl,f,fun h=>(by cases h),hb,(dM.1 c).1,fun j e=>⟨rfl, ?_⟩,fun _ o=>by simp[World.frozen?,c]⟩;have:=d (g:=g) rfl j _ (xK X m j e);rw[mT] at this;exact this
theorem wT{n:Nat}{w:World}(P:n<18446744073709551616):
 Cl 217 #[.int .u64 n] w fun e i=>∃x g,e=.returned x/\gE i x g n 67108864/\w.heap.size<=g/\w.S i/\g<i.heap.size:=by
 obtain⟨T,I,Q,R,S⟩:=kT nF;go_enter func217,ntmps217;go_wp2;go_loopw [0,3] (fun p o wr=>∃k q:Nat,k<=2/\p=.int .u64 q/\q<18446744073709551616/\Hid (q=n/4294967296^k)/\Hid (0<k->0<n/4294967296^(k-1))/\wr.ownsRow w.heap.size 133 1 o k (ll (nl n) k)/\w.S wr/\Hid (o≠ .n)) (fun p _ _=>(intOf p).toNat)
 case atStart=>exact⟨0,n,om,rfl,P,eI qz,eI (fun h=>absurd h om),iP w #[] 0 zR qd rfl,fA _ _,eI qz⟩
 case round=>
  obtain⟨k,q,m,rfl,W,a,t,f,b,O⟩:=hrel;by_cases l:q=0
  . subst l;obtain⟨z,g,A,rfl,K,D,F,G,C,E⟩:=agS f O.out;go_wp2;go_ret;have v:n<4294967296^k:=by
     have:=a.out;have d:0<4294967296^k:=fX om;rcases jI n (4294967296^k) with h | h
     . exact h
     . have:=tS h d;omega
    refine⟨_,g,rfl,⟨z,k,A,nl n,rfl,K,om,D,C,E,fun j _=>iS _ om,fun h=> ?_,(apZ n k).trans (iC v)⟩,F,b,G⟩;have B:=t.out h;obtain⟨j,rfl⟩:∃j,k=j+1:=⟨k-1,om⟩;have d:n/4294967296^j<4294967296:=(by rw[gJ (fX om)];rw[iH] at v;omega);simp only[cF] at B⊢;unfold nl;rw[iC d];omega
  . have U:k<2:=by
     rcases jI k 2 with h | h
     . exact h
     . have e:k=2:=om;subst e;have:=a.out;rw[iI (show n<4294967296^2 by omega)] at this;omega
    have L:0<q:=om;have V:((q:Int)==0)=false:=(by simp;omega);obtain⟨y,c⟩:∃y,y=nl n k:=⟨_,rfl⟩;have Y:(q:Int) % 4294967296=(y:Int):=(by rw[c];unfold nl;rw[<-a.out];omega);have X:y<4294967296:=(by rw[c];exact iS _ om);have u:=eI c;clear c l;go_wp2_with (at_builtin;refine gK _ rfl _ _ 68 rfl w.heap.size 133 T (.int .u32 0) 1 4 underlying68 I Q R S rfl qd _ _ _ rfl (f.alloc _) (jj wr.heap.size 0) 1 1 [.int .u32 _] rfl rfl (iq _ _ _) (one_one _ rfl) (by unfold maxLen;omega) om (by have:=b.size;simp;omega) ?_);intro Z w1 r H M;have N:=(b.alloc b.size _).grown H (by have:=b.size;simp;omega) (fun k m=>(f.lt k m).1);have s:=eI M;rw[u.out,<-tV] at r;go_wp2;go_roundw
    case rel=>exact⟨k+1,q/4294967296,om,by go_num,om,eI (by rw[a.out,mU,iH]),eI (fun _=>by rw[cF,<-a.out];exact L),r,N,s⟩
    case measure=>exact yI
theorem kj{f:Bool}{n m:Nat}{w:World}(E:n<18446744073709551616)(t:m<18446744073709551616)(D:0<m):
 Cl 189 #[.bool f,.int .u64 n,.int .u64 m] w fun e Q=>∃v,e=.returned v/\jM Q v (f&&n != 0) (n/Nat.gcd n m) (m/Nat.gcd n m) w.heap.size 67108864/\w.S Q:=by
 by_cases N:n=0
 . subst N;have Y:m/Nat.gcd 0 m=1:=(by rw[oQ];exact Nat.div_self D);rw[show (f&&(0:Nat) != 0)=false by simp,Nat.zero_div,Y];have I:=fA w yJ;have s:=eS.new w (.bool false) (.n) (.n) 70;go_enter func189,ntmps189;go_wp2_with fail;generalize (w.alloc _)=c at*;refine (@kv c).mono ?_;rintro e A ⟨v,rfl,⟨v1,v2,g,h,rfl,d,i,W,X,ne⟩,b⟩;have a:=s.aA b;have Z:=s.lt;have B:=d;have C:=i;obtain⟨j,q,l,U,rfl,-⟩:=d;obtain⟨k,r,o,V,rfl,-⟩:=i;obtain⟨u0,u1,u2⟩:=a.g;obtain⟨aa,ab,ac⟩:=a.k;go_wp2;have F:=((a.bE (.bool false)).bH (.l j q l)).bF (.l k r o);refine bO (qi rfl _ _ _ _ _ _ rfl F) rfl ?_;have M:eM A _ w.heap.size:=(((eM.refl A _).setCell 0 (.bool false)).setCell 1 (.l j q l)).setCell 2 (.l k r o);exact⟨_,rfl,⟨_,_,g,h,rfl,B.marked M om,C.marked M om,om,om,ne⟩,(I.tr b).trans (M.since zR)⟩
 . have ah:((n:Int)==0)=false:=(by simp;omega);obtain⟨G,p⟩:∃G,G=Nat.gcd n m:=⟨_,rfl⟩;have ad:0<G:=(by rw[p];exact lQ n D);have ae:G<18446744073709551616:=(by rw[p];exact dD (rE n D) t);have hb:(f&&n != 0)=f:=(by simp[N]);rw[<-p,hb];have I:=fA w yJ;have s:=eS.new w (.bool false) (.n) (.n) 70;have K:=@vk n m (w.alloc yJ) E t;rw[<-p] at K;obtain⟨x,u⟩:∃x,x=n/G:=⟨_,rfl⟩;obtain⟨y,z⟩:∃y,y=m/G:=⟨_,rfl⟩;have O:x<18446744073709551616:=(by rw[u];exact dD (iV _ _) E);have P:y<18446744073709551616:=(by rw[z];exact dD (iV _ _) t);have ai:IntKind.u64.wrap ((n:Int)/(G:Int))=(x:Int):=(by rw[<-pE,<-u];exact gv x O);have aj:IntKind.u64.wrap ((m:Int)/(G:Int))=(y:Int):=(by rw[<-pE,<-z];exact gv y P);have af:((G:Int)==0)=false:=(by simp;omega);have ag:¬(G:Int)=0:=om;rw[<-u,<-z];clear u z p E t;go_enter func189,ntmps189;go_wp2_with fail;refine K.mono ?_;rintro e c ⟨rfl,rfl⟩;generalize (w.alloc _)=c at*;have S:=@wT x c.drew O;go_wp2
   go_region_held (fun _=>True) (trivial)
    (first
      | (go_at_call 217
         first
          | (with_reducible refine S.mono ?_
             rintro e A ⟨v1,g,rfl,d,W,b,z2⟩;have T:=@wT y A P;have rC:=s.drew.aA b;have B:=d;obtain⟨j,q,l,U,rfl,-⟩:=d)
          | (with_reducible refine T.mono ?_
             rintro e R ⟨v2,h,rfl,i,X,H,z3⟩;have C:=i;obtain⟨k,r,o,V,rfl,-⟩:=i;have a:=rC.aA H;obtain⟨u0,u1,u2⟩:=a.g;obtain⟨aa,ab,ac⟩:=a.k)))
   all_goals go_wp2
   all_goals
    have Z:=s.lt;have zd:c.drew.heap.size=c.heap.size:=rfl;have F:=((a.bE (.bool f)).bH (.l j q l)).bF (.l k r o);refine bO (qi rfl _ _ _ _ _ _ rfl F) rfl ?_;have M:eM R _ w.heap.size:=(((eM.refl R _).setCell 0 (.bool f)).setCell 1 (.l j q l)).setCell 2 (.l k r o);have L:=gz I;exact⟨_,rfl,⟨_,_,g,h,rfl,(B.aA H).marked M om,C.marked M om,om,om,om⟩,((L.tr b).trans (sM H (aU L.size b.size))).trans (M.since zR)⟩
theorem me{f:Bool}{u U:Value}{n m:Nat}{A B:Nat->Bool}{w:World}(hn:n<=1073741824)(hm:m<=1073741824)(hA:Tr w u n A)(hB:Tr w U m B)(o:0<bv B m):
 Cl 104 #[.bool f,u,U] w fun e w'=>∃v,e=.returned v/\jM w' v (f&&bv A n != 0) (bv A n/Nat.gcd (bv A n) (bv B m)) (bv B m/Nat.gcd (bv A n) (bv B m)) w.heap.size 67108864/\w.S w':=by
 have P:=hA;have Q:=hB;obtain⟨am,ba,oa,ca,rfl,ar,LA,Z⟩:=hA;obtain⟨an,bb,ob,cb,rfl,au,LB,tB⟩:=hB;have H:=fA w yJ;have V:=eS.new w (.bool false) (.n) (.n) 70;by_cases h0:n=0
 . subst h0;have e0:bv A 0=0:=rfl;rw[e0];have e1:bv B m/Nat.gcd 0 (bv B m)=1:=(by rw[oQ];exact Nat.div_self o);rw[show (f&&(0:Nat) != 0)=false by simp,Nat.zero_div,e1];clear e1 e0 Z tB o P Q;go_enter func104,ntmps104;go_wp2_with fail;generalize (w.alloc _)=w1 at*;refine (kv).mono ?_;rintro e w2 ⟨v,rfl,⟨u,U,ae,h,rfl,N1,N2,b1,b2,ne⟩,q⟩;have i:=V.aA q;have hz:=V.lt;have ac:=N1;have ad:=N2;obtain⟨a1,m1,c1,Y1,rfl,-⟩:=N1;obtain⟨a2,m2,c2,Y2,rfl,-⟩:=N2;obtain⟨u0,u1,u2⟩:=i.g;obtain⟨ag,ah,ai⟩:=i.k;go_wp2;have T:=((i.bE (.bool false)).bH (.l a1 m1 c1)).bF (.l a2 m2 c2);refine bO (qi rfl _ _ _ _ _ _ rfl T) rfl ?_;have M:eM w2 _ w.heap.size:=(((eM.refl w2 _).setCell 0 (.bool false)).setCell 1 (.l a1 m1 c1)).setCell 2 (.l a2 m2 c2);exact⟨_,rfl,⟨_,_,ae,h,rfl,ac.marked M om,ad.marked M om,om,om,ne⟩,(H.tr q).trans (M.since zR)⟩
 . have av:((n:Int)==0)=false:=(by simp;omega);have ab:0<bv A n:=vu om (Z om);have hb:(f&&bv A n != 0)=f:=by
    have h9:bv A n≠0:=om;simp[h9]
   rw[hb];obtain⟨G,c⟩:∃G,G=Nat.gcd (bv A n) (bv B m):=⟨_,rfl⟩;have p:0<G:=(by rw[c];exact lQ _ o);have R:G<=bv B m:=(by rw[c];exact rE _ o);have aa:G<=bv A n:=(by rw[c];exact rK _ ab);rw[<-c];clear hb;go_enter func104,ntmps104;go_wp2_with fail;generalize (w.alloc _)=w1 at*;refine (wU hn hm (P.aA H) (Q.aA H)).mono ?_;rintro e w2 ⟨v3,af,aj,rfl,ht,T3,b,q⟩;rw[<-c] at b;obtain⟨a3,b3,o3,c3,rfl,aq,L3,D⟩:=T3;have S2:=H.tr q;have aw:af<=m:=cX D (by rw[b];exact R);clear c P Q;go_wp2_with fail;refine (wV om om (LA.aA S2) L3 D (by rw[b];exact p)).mono ?_;rintro e w3 ⟨gq,tq,cq,ak,gr,tr,cr,al,rfl,q1,q2,q3,q4,LQ,-,q5,q6,q7,q8,O,-,X⟩;have S3:=S2.tr X;go_wp2_with fail;refine (wV om om (LB.aA S3) (L3.aA X) D (by rw[b];exact p)).mono ?_;rintro e w4 ⟨gp,tp,cp,Q',gs,ts,cs,R',rfl,p1,p2,ax,p4,LP,-,p5,p6,p7,p8,N,-,Y⟩;have r:=S3.tr Y;have i:=((V.aA q).aA X).aA Y;rw[b] at O N;have EE:=eI (And.intro (O.trans rfl) (And.intro N (And.intro (tS aa p) (tS R p))));clear O N b q7 q8 p7 p8 D ab Z tB o p R aa;go_wp2_with fail;refine (aaA om q1 (LQ.aA Y)).mono ?_;rintro e w5 ⟨s,g5,d,x,Y5,rfl,x1,x2,L,x3,F5,z,I,k,E⟩;go_wp2_with fail;refine (aaA om p1 (LP.aA E)).mono ?_;rintro e w6 ⟨t,g6,g,y,Y6,rfl,z1,z2,L6,z3,F6,C,K,l,F⟩;have W:=(i.aA E).aA F;obtain⟨u0,u1,u2⟩:=W.g;obtain⟨ag,ah,ai⟩:=W.k;have hz:=i.lt;have b5:=E.size;have b6:=F.size;have EF:=eI (And.intro z (And.intro I (And.intro k (And.intro C (And.intro K l)))));clear z I k C K l;go_wp2;obtain⟨z,I,k,C,K,l⟩:=EF.out;obtain⟨f1,f2,f3,f4⟩:=EE.out;have S:0<d:=by
    rcases cQ d with h | h
    . subst h;rw[show lv Y5 0=0 from rfl] at k;omega
    . exact h
   have k6:0<g:=by
    rcases cQ g with h | h
    . subst h;rw[show lv Y6 0=0 from rfl] at l;omega
    . exact h
   have N5:gE w5 (.l s d x) g5 (bv A n/G) 67108864:=⟨s,d,x,Y5,rfl,x1,om,fun h=>(by rw[(L 0 S).1] at h;cases h),L,F5,fun j _=>z j,I,k.trans f1⟩;have N6:gE w6 (.l t g y) g6 (bv B m/G) 67108864:=⟨t,g,y,Y6,rfl,z1,om,fun h=>(by rw[(L6 0 k6).1] at h;cases h),L6,F6,fun j _=>C j,K,l.trans f2⟩;have ao:=L.lt S;have ay:=x3 S;have az:=z3 k6;have T:=((W.bE (.bool f)).bH (.l s d x)).bF (.l t g y);refine bO (qi rfl _ _ _ _ _ _ rfl T) rfl ?_;have M:eM w6 _ w.heap.size:=(((eM.refl w6 _).setCell 0 (.bool f)).setCell 1 (.l s d x)).setCell 2 (.l t g y);exact⟨_,rfl,⟨_,_,g5,g6,rfl,(N5.aA F).marked M om,N6.marked M om,by have:=r.size;omega,by have:=r.size;omega,om⟩,((r.tr E).trans (sM F (aU r.size b5))).trans (M.since zR)⟩
def au(f f':Bool)(x y:Nat):Int:=if f=f' then (if f then lq y x else lq x y) else if f then-1 else 1
theorem aiS(f F:Bool)(n m:Nat)(c:n=0)(b:0<m):(((f != F)&&n != 0)=false/\n/Nat.gcd n m=0)/\m/Nat.gcd n m=1:=by
 subst c;refine⟨⟨qz,Nat.zero_div _⟩, ?_⟩;rw[oQ];exact Nat.div_self b
theorem ah3{N:Option Addr}{K:Nat->Nat}(aa:c+p+j+s<=16777216)
 (af:wv w a A n m c d k i j l X Y)(H:wv w B N o b p q t r s g Z K)(O:c=0∨p=0):
 Cl 199 #[.agg #[.bool f,.slice a c d,.slice A j l],.agg #[.bool F,.slice B p q,.slice N s g]] w fun e V=>∃v,e=.returned v/\
  jM V v ((f != F)&&lv X c*lv Z p != 0) (lv X c*lv Z p/Nat.gcd (lv X c*lv Z p) (lv Y j*lv K s)) (lv Y j*lv K s/Nat.gcd (lv X c*lv Z p) (lv Y j*lv K s)) w.heap.size 67108864/\w.S V:=by
 have ab:w.heap.size+1+1≠w.heap.size:=om;obtain⟨sA,zA,oA,pA,rA⟩:=bx w (.bool f) (.l a c d) (.l A j l) (.bool F) (.l B p q) (.l N s g) (.bool false) (.n) (.n);have L:=aiS f F (lv X c*lv Z p) (lv Y j*lv K s) (by rcases O with h | h<;>subst h<;>simp[lv]) (fE af.den H.den);rw[L.1.1,L.1.2,L.2];clear L;by_cases Q:c=0
 focus
  subst Q;clear O;go_enter func199,ntmps199;go_wp2_with fail;generalize (((w.alloc _).alloc _).alloc _)=w1 at*
 rotate_left
 focus
  have ag:p=0:=om;subst ag;clear O;have R:((c:Int)==0)=false:=by simp;omega
  go_enter func199,ntmps199;go_wp2_with fail;generalize (((w.alloc _).alloc _).alloc _)=w1 at*
 all_goals
  refine (kv).mono ?_;rintro e E ⟨v,rfl,⟨x1,x2,P,ah,rfl,x,u,y1,y2,y3⟩,D⟩;have S:=rA.aA D;have G:=x;have W:=u;obtain⟨y,R,T,Y1,rfl,-⟩:=x;obtain⟨z,C,U,Y2,rfl,-⟩:=u;have I:=sA.tr D;obtain⟨u0,u1,u2⟩:=S.g;obtain⟨ac,ad,ae⟩:=S.k;go_wp2;have rC:=((S.bE (.bool false)).bH (.l y R T)).bF (.l z C U);refine bO (qi rfl _ _ _ _ _ _ rfl rC) rfl ?_;have M:eM E _ (w.heap.size+1+1):=(((eM.refl E _).setCell 0 (.bool false)).setCell 1 (.l y R T)).setCell 2 (.l z C U);exact⟨_,rfl,⟨_,_,P,ah,rfl,G.marked M om,W.marked M om,om,om,y3⟩,I.trans (M.since om)⟩
theorem afY{E:Option Addr}{z:Nat->Nat}(an:c+p+j+s<=16777216)
 (R:wv w a A n m c d k i j l X Y)(h:wv w B E o b p q t r s g Z z)(h1:0<c)(h2:0<p)(hs:jo X c Y j=true)(aa:jo Z p z s=true):
 Cl 199 #[.agg #[.bool f,.slice a c d,.slice A j l],.agg #[.bool F,.slice B p q,.slice E s g]] w fun e v=>∃af,e=.returned af/\
  jM v af ((f != F)&&lv X c*lv Z p != 0) (lv X c*lv Z p/Nat.gcd (lv X c*lv Z p) (lv Y j*lv z s)) (lv Y j*lv z s/Nat.gcd (lv X c*lv Z p) (lv Y j*lv z s)) w.heap.size 67108864/\w.S v:=by
 have ao:w.heap.size+1+1≠w.heap.size:=om;obtain⟨sA,zA,oA,pA,rA⟩:=bx w (.bool f) (.l a c d) (.l A j l) (.bool F) (.l B p q) (.l E s g) (.bool false) (.n) (.n);obtain⟨s1,al,ab,ac⟩:=nL.1 hs;obtain⟨t1,am,ad,ae⟩:=nL.1 aa;obtain⟨x,Q⟩:∃x,x=lv X c:=⟨_,rfl⟩;obtain⟨y,I⟩:∃y,y=lv Y j:=⟨_,rfl⟩;obtain⟨U,S⟩:∃U,U=lv Z p:=⟨_,rfl⟩;obtain⟨O,K⟩:∃O,O=lv z s:=⟨_,rfl⟩;have ai:0<y*O:=by rw[I,K];exact Nat.mul_pos R.den h.den
 rw[<-Q] at ab;rw[<-I] at ac;rw[<-S] at ad;rw[<-K] at ae;obtain⟨u,P⟩:∃u,u=x*U:=⟨_,rfl⟩;obtain⟨G,H⟩:∃G,G=y*O:=⟨_,rfl⟩;have ag:u<18446744073709551616:=by rw[P];exact Nat.lt_of_le_of_lt (Nat.mul_le_mul (Nat.le_of_lt ab) (Nat.le_of_lt ad)) om
 have ah:G<18446744073709551616:=by rw[H];exact Nat.lt_of_le_of_lt (Nat.mul_le_mul (Nat.le_of_lt ac) (Nat.le_of_lt ae)) om
 have aq:IntKind.u64.wrap ((x:Int)*(U:Int))=(u:Int):=by rw[<-Int.natCast_mul,<-P];exact gv u ag
 have ar:IntKind.u64.wrap ((y:Int)*(O:Int))=(G:Int):=by rw[<-Int.natCast_mul,<-H];exact gv G ah
 rw[<-H] at ai;rw[<-Q,<-S,<-I,<-K,<-P,<-H];clear ab ac ad ae;have q1:((c:Int)==0)=false:=by simp;omega
 have q2:((p:Int)==0)=false:=by simp;omega
 obtain⟨j0,j1,j2⟩:=oA.g;go_enter func199,ntmps199;go_wp2_with fail;generalize (((w.alloc _).alloc _).alloc _)=w1 at*;have V:=@jk f a A n m c d k i j l X Y w1 om om (R.aA sA).LX (R.aA sA).LY R.lX R.lY;rw[hs] at V;refine mo V fun w2 L=> ?_;have S2:=sA.tr L;have o2:=oA.aA L;have p2:=pA.aA L;have r2:=rA.aA L;have z2:=L.size;clear V j0 j1 j2 oA pA rA;obtain⟨k0,k1,k2⟩:=p2.g;have W:=@jk F B E o b p q t r s g Z z w2 om om (h.aA S2).LX (h.aA S2).LY h.lX h.lY;rw[aa] at W;go_wp2_with fail;refine mo W fun C N=> ?_;have D:=S2.tr N;have o3:=o2.aA N;have p3:=p2.aA N;have r3:=r2.aA N;have z3:=N.size;clear W k0 k1 k2 o2 p2 r2;have au:=And.intro o3.cells p3.cells;have J1:=@im a n m c d X C.drew s1 (R.aA D).LX R.lX;have J2:=@im A k i j l Y C.drew al (R.aA D).LY R.lY;have J3:=@im B o b p q Z C.drew t1 (h.aA D).LX h.lX;have J4:=@im E t r s g z C.drew am (h.aA D).LY h.lY;rw[<-Q] at J1;rw[<-I] at J2;rw[<-S] at J3;rw[<-K] at J4;have J5:=@kj (!(f==F)) u G C.drew ag ah ai;clear Q I S K P H R h hs aa;go_wp2
 go_region_held3 (fun v=>v.cell? (jj w.heap.size 0)=some (.bool f)/\v.cell? (jj w.heap.size 1)=some (.l a c d)/\v.cell? (jj w.heap.size 2)=some (.l A j l)/\v.cell? (jj (w.heap.size+1) 0)=some (.bool F)/\v.cell? (jj (w.heap.size+1) 1)=some (.l B p q)/\v.cell? (jj (w.heap.size+1) 2)=some (.l E s g)) (go_keep)
  (first
    | (go_at_call 150
       first
        | (with_reducible refine J1.mono ?_;rintro e w4 ⟨rfl,rfl⟩)
        | (with_reducible refine J2.mono ?_;rintro e w4 ⟨rfl,rfl⟩)
        | (with_reducible refine J3.mono ?_;rintro e w4 ⟨rfl,rfl⟩)
        | (with_reducible refine mp J4 ?_))
    | (go_at_call 189;(with_reducible refine J5.mono ?_);rintro e w6 ⟨af,rfl,⟨x1,x2,g6,h6,rfl,N6,D6,y1,y2,y3⟩,T⟩;have ak:=N6;have aj:=D6;obtain⟨a1,q1,c1,Y1,rfl,-⟩:=N6;obtain⟨a2,q2,c2,Y2,rfl,-⟩:=D6;have k9:=And.intro (o3.drew.aA T).cells (p3.drew.aA T).cells;have rB:=r3.drew.aA T;obtain⟨u0,u1,u2⟩:=rB.g;obtain⟨av,aw,ax⟩:=rB.k))
 all_goals go_wp2
 all_goals
  have zd:C.drew.heap.size=C.heap.size:=rfl;have S6:w.S w6:=(gz D).trans (sM T D.size);have hb:(!(f==F)&&u != 0)=((f != F)&&u != 0):=rfl;have rC:=((rB.bE (.bool (!(f==F)&&u != 0))).bH (.l a1 q1 c1)).bF (.l a2 q2 c2);refine bodyPost_ret (qi rfl _ _ _ _ _ _ rfl rC) rfl ?_;have M:eM w6 _ (w.heap.size+1+1):=(((eM.refl w6 _).setCell 0 (.bool (!(f==F)&&u != 0))).setCell 1 (.l a1 q1 c1)).setCell 2 (.l a2 q2 c2);exact⟨_,rfl,⟨_,_,g6,h6,rfl,ak.marked M om,aj.marked M om,om,om,y3⟩,S6.trans (M.since om)⟩
theorem ajT{S:Option Addr}{P:Nat->Nat}(hn:c+p+j+s<=16777216)
 (R:wv w a A n m c d k i j l X Y)(O:wv w B S o b p q t r s g Z P)(h1:0<c)(h2:0<p)(hs:¬(jo X c Y j=true/\jo Z p P s=true)):
 Cl 199 #[.agg #[.bool f,.slice a c d,.slice A j l],.agg #[.bool F,.slice B p q,.slice S s g]] w fun e h=>∃ac,e=.returned ac/\
  jM h ac ((f != F)&&lv X c*lv Z p != 0) (lv X c*lv Z p/Nat.gcd (lv X c*lv Z p) (lv Y j*lv P s)) (lv Y j*lv P s/Nat.gcd (lv X c*lv Z p) (lv Y j*lv P s)) w.heap.size 67108864/\w.S h:=by
 have ao:w.heap.size+1+1≠w.heap.size:=om;obtain⟨I,zA,x,D,E⟩:=bx w (.bool f) (.l a c d) (.l A j l) (.bool F) (.l B p q) (.l S s g) (.bool false) (.n) (.n);have an:=fE R.den O.den;have q1:((c:Int)==0)=false:=by simp;omega
 have q2:((p:Int)==0)=false:=by simp;omega
 obtain⟨j0,j1,j2⟩:=x.g;go_enter func199,ntmps199;go_wp2_with fail;generalize (((w.alloc _).alloc _).alloc _)=w1 at*;have Q:=@jk f a A n m c d k i j l X Y w1 om om (R.aA I).LX (R.aA I).LY R.lX R.lY;by_cases a6:jo X c Y j=true
 focus
  rw[a6] at Q;refine mo Q fun w2 y=> ?_;have L:=I.tr y;have o2:=x.aA y;have C:=D.aA y;have r2:=E.aA y;have z2:=y.size;clear Q j0 j1 j2 x D E;obtain⟨k0,k1,k2⟩:=C.g;have K:=@jk F B S o b p q t r s g Z P w2 om om (O.aA L).LX (O.aA L).LY O.lX O.lY;rw[show jo Z p P s=false by simpa [a6] using hs] at K;go_wp2_with fail;refine mo K fun w3 N=> ?_;have v:=L.tr N;have a7:=o2.aA N;have p3:=C.aA N;have r3:=r2.aA N;have z3:=N.size;clear K k0 k1 k2 o2 C r2
 rotate_left
 focus
  rw[show jo X c Y j=false by simpa using a6] at Q;refine mo Q fun w3 N=> ?_;have v:=I.tr N;have a7:=x.aA N;have p3:=D.aA N;have r3:=E.aA N;clear Q j0 j1 j2 x D E
 all_goals
  have au:=And.intro a7.cells p3.cells;have J1:=@i8 a n m c d X w3.drew om (R.aA v).LX R.lX;go_wp2
  go_region_held3 (fun h=>h.cell? (jj w.heap.size 0)=some (.bool f)/\h.cell? (jj w.heap.size 1)=some (.l a c d)/\h.cell? (jj w.heap.size 2)=some (.l A j l)/\h.cell? (jj (w.heap.size+1) 0)=some (.bool F)/\h.cell? (jj (w.heap.size+1) 1)=some (.l B p q)/\h.cell? (jj (w.heap.size+1) 2)=some (.l S s g)) (go_keep)
   (first
     | (go_at_call 101
        first
         | (with_reducible refine J1.mono ?_
            rintro e w4 ⟨a1,g1,m1,t1,B1,rfl,k1,k2,L1,-,p1,e1,G⟩;have S4:w.S w4:=(gz v).trans (sM G v.size);have o4:=a7.drew.aA G;have p4:=p3.drew.aA G;have r4:=r3.drew.aA G;have T:=And.intro o4.cells p4.cells;have J2:=@i8 B o b p q Z w4 om (O.aA S4).LX O.lX)
         | (with_reducible refine J2.mono ?_
            rintro e w5 ⟨a2,g2,m2,t2,B2,rfl,l1,l2,L2,-,C,e2,z⟩;have S5:=S4.tr z;have o5:=o4.aA z;have p5:=p4.aA z;have r5:=r4.aA z;have T:=And.intro o5.cells p5.cells;have J3:=@jK a1 a2 g1 0 m1 t1 g2 0 m2 t2 B1 B2 w5 om om (L1.aA z) L2;rw[e1,e2] at J3)
         | (with_reducible refine J4.mono ?_
            rintro e w7 ⟨a4,g4,m4,t4,B4,rfl,i1,i2,L4,-,av,e4,U⟩;have S7:=S6.tr U;have o7:=o6.aA U;have p7:=p6.aA U;have r7:=r6.aA U;have T:=And.intro o7.cells p7.cells;have T7:=T6.aA U;have J5:=@i8 S t r s g P w7 om (O.aA S7).LY O.lY)
         | (with_reducible refine J5.mono ?_
            rintro e w8 ⟨a5,g5,m5,t5,B5,rfl,aq,ar,L5,-,aw,e5,u⟩;have S8:=S7.tr u;have o8:=o7.aA u;have p8:=p7.aA u;have r8:=r7.aA u;have T:=And.intro o8.cells p8.cells;have T8:=T7.aA u;have J6:=@jK a4 a5 g4 0 m4 t4 g5 0 m5 t5 B4 B5 w8 om om (L4.aA u) L5;rw[e4,e5] at J6))
     | (go_at_call 143
        first
         | (with_reducible refine J3.mono ?_
            rintro e w6 ⟨g6,t6,c6,O6,rfl,f1,f2,L6,f3,f4,e6,H⟩;have S6:=S5.tr H;have o6:=o5.aA H;have p6:=p5.aA H;have r6:=r5.aA H;have T:=And.intro o6.cells p6.cells;have T6:Tr w6 (.s g6 t6 c6) t6 O6:=⟨_,g6,0,c6,rfl,f1,L6,f4⟩;have J4:=@i8 A k i j l Y w6 om (R.aA S6).LY R.lY)
         | (with_reducible refine J6.mono ?_
            rintro e w9 ⟨g9,t9,c9,O9,rfl,f5,f6,L9,f7,f8,e9,V⟩;have S9:=S8.tr V;have o9:=o8.aA V;have p9:=p8.aA V;have r9:=r8.aA V;have T:=And.intro o9.cells p9.cells;have T9:Tr w9 (.s g9 t9 c9) t9 O9:=⟨_,g9,0,c9,rfl,f5,L9,f8⟩;have J7:=@me (!(f==F)) _ _ t6 t9 O6 O9 w9 om om (T8.aA V) T9 (by rw[e9];exact an);rw[e6,e9] at J7))
     | (go_at_call 104;(with_reducible refine J7.mono ?_);rintro e ah ⟨ac,rfl,⟨x1,x2,al,am,rfl,ae,ad,y1,y2,y3⟩,W⟩;have aj:=ae;have ai:=ad;obtain⟨aa,qa,af,Ya,rfl,-⟩:=ae;obtain⟨ab,qb,ag,Yb,rfl,-⟩:=ad;have T:=And.intro (o9.aA W).cells (p9.aA W).cells;have rB:=r9.aA W;obtain⟨u0,u1,u2⟩:=rB.g;obtain⟨ax,ay,az⟩:=rB.k))
  all_goals go_wp2
  all_goals
   have ak:=S9.tr W;have z9:=S9.size;have a0:=v.size;have a3:=r9.lt;have rC:=((rB.bE (.bool (!(f==F)&&lv X c*lv Z p != 0))).bH (.l aa qa af)).bF (.l ab qb ag);refine bO (qi rfl _ _ _ _ _ _ rfl rC) rfl ?_;have M:eM ah _ (w.heap.size+1+1):=(((eM.refl ah _).setCell 0 (.bool (!(f==F)&&lv X c*lv Z p != 0))).setCell 1 (.l aa qa af)).setCell 2 (.l ab qb ag);exact⟨_,rfl,⟨_,_,al,am,rfl,aj.marked M om,ai.marked M om,om,om,y3⟩,ak.trans (M.since om)⟩
theorem ajU{f F:Bool}{a A B C:Option Addr}{n m c d k i j l o b p q t r s g:Nat}{X Y Z x:Nat->Nat}{w:World}(h:c+p+j+s<=16777216)
 (R:wv w a A n m c d k i j l X Y)(y:wv w B C o b p q t r s g Z x):
 Cl 199 #[.agg #[.bool f,.slice a c d,.slice A j l],.agg #[.bool F,.slice B p q,.slice C s g]] w fun e u=>∃v,e=.returned v/\
  jM u v ((f != F)&&lv X c*lv Z p != 0) (lv X c*lv Z p/Nat.gcd (lv X c*lv Z p) (lv Y j*lv x s)) (lv Y j*lv x s/Nat.gcd (lv X c*lv Z p) (lv Y j*lv x s)) w.heap.size 67108864/\w.S u:=by
 by_cases G:c=0∨p=0
 . exact ah3 h R y G
 have D:0<c:=om;have E:0<p:=om;by_cases z:jo X c Y j=true/\jo Z p x s=true
 . exact afY h R y D E z.1 z.2
 . exact ajT h R y D E z
end Go.Proofs.YtinihjgnnlemmaaGreatDoor
