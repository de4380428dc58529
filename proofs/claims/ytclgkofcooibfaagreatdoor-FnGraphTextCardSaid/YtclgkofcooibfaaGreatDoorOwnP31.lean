import Derived.Test.YtclgkofcooibfaaGreatDoorOwnP29
set_option maxHeartbeats 6400000
set_option maxRecDepth 100000
namespace Go.Proofs.YtclgkofcooibfaaGreatDoor
open Go.RowKit
def iI(e:Ending)(w:World)(lo:Nat)(g:ax):Prop:=∃n X c a ad cap b,e=.returned (.tuple #[.slice ad n cap,.int .i64 c,.int .i64 a])/\wh g n X c a/\mf w ad b 0 n X/\(0<n->lo<=b/\b<w.heap.size/\∀o,w.frozen? ⟨b,o,none⟩=false)
theorem iI.none{w:World}{lo:Nat}{g:ax}{c a:Int}{ad:Option Addr}{cap:Nat}(h:wh g 0 (fun _=>0) c a):iI (.returned (.tuple #[.slice ad 0 cap,.i c,.i a])) w lo g:=
 ⟨0,fun _=>0,c,a,ad,cap,0,rfl,h,fun j hj=>absurd hj om,fun h=>absurd h om⟩
theorem pl{g:ax}{aL aH aN:Option Addr}{lo kL kH kN:Nat}{w:World}(hw:0<=w.heap.size)(hT:rI w)(hd:g.size<=1048576)(H:gj w lo g aL aH aN kL kH kN):
 Cl 50 #[.agg #[.i g.inn,.i g.rounds,.slice aL g.nl kL,.slice aH g.nh kH,.slice aN g.nn kN,.i g.out]] w fun e w'=>iI e w' w.heap.size g/\w.S w':=by
 obtain⟨i0,hi,hz0,hz1,hz2⟩:=xX;have ts:=hd;unfold ax.size at ts;have sA:=bJ w (.cells #[.i g.inn,.i g.rounds,.slice aL g.nl kL,.slice aH g.nh kH,.slice aN g.nn kN,.i g.out] 26);have zA:(w.alloc (.cells #[.i g.inn,.i g.rounds,.slice aL g.nl kL,.slice aH g.nh kH,.slice aN g.nn kN,.i g.out] 26)).heap.size=w.heap.size+1:=by simp
 have bA:=au.new w (.i g.inn) (.i g.rounds) (.slice aL g.nl kL) (.slice aH g.nh kH) (.slice aN g.nn kN) (.i g.out) 26;go_enter Tryz.func50,Tryz.ntmps50;go_wp2_with fail;generalize w.alloc (.cells #[.i g.inn,.i g.rounds,.slice aL g.nl kL,.slice aH g.nh kH,.slice aN g.nn kN,.i g.out] 26)=wA at*;refine (@xZ g aL aH aN lo kL kH kN wA (Nat.zero_le _) (hT.stay hw sA) hd (H.aA sA)).mono ?_;rintro e w0 ⟨⟨r0,rfl,hr⟩,s0⟩;have S0:=sA.trans (sM s0 sA.size);have B0:=bA.aA s0;have z0:=s0.size;cases r0
 . have N:=ae (show ¬kO g from fun h=>by have:=hr.2 h;cases this)
   clear hr;go_wp2
   go_ret3
   exact⟨iI.none (.inl ⟨N.out,rfl,rfl,rfl⟩),S0⟩
 have P:=ae (hr.1 rfl);clear hr;obtain⟨bL,oL,-,LL⟩:=H.LL;obtain⟨bH,oH,-,LH⟩:=H.LH;obtain⟨bN,oN,-,LN⟩:=H.LN;have QL:=LL.qs P.out.okL;have QH:=LH.qs P.out.okH;have i1:=P.out.i1;have i2:=P.out.i2;have eL:=P.out.l;have eH:=P.out.h;obtain⟨I,hI⟩:∃I:Nat,g.inn=I:=⟨g.inn.toNat,om⟩;have nlI:g.nl=I:=om
 have nhI:g.nh=I:=om
 have HnlI:=ae nlI;have HnhI:=ae nhI;have HhI:=ae hI;have qa0:=B0.c0;rw[HhI.out] at qa0;clear eL eH nlI nhI hI bA;go_wp2_with fail
 go_loopw [17] (fun i wr=>∃k:Nat,k<=I/\i=.i k/\w.S wr/\w.heap.size<wr.heap.size/\au wr w.heap.size (.i g.inn) (.i g.rounds) (.slice aL g.nl kL) (.slice aH g.nh kH) (.slice aN g.nn kN) (.i g.out)/\Hid (∀j,j<k->¬fK g j)) (fun i _=>I-(intOf i).toNat)
 case atStart=>exact⟨0,Nat.zero_le _,rfl,S0,om,B0,ae (fun j hj=>absurd hj om)⟩
 case round=>
  obtain⟨k,hk,rfl,s,hsz,B,NB⟩:=hrel
  by_cases hlt:k<I
  . obtain⟨eaL,xl,yl,CL⟩:=QL k (by rw[HnlI.out];exact hlt)
    obtain⟨eaH,xh,yh,CH⟩:=QH k (by rw[HnhI.out];exact hlt);subst eaL eaH;have bl:=tG (P.out.okL k (by rw[HnlI.out];exact hlt)) (LL.aU k (by rw[HnlI.out];exact hlt)) (by have:=gY (R:=g.Lo) (n:=g.nl) (k:=k) (by rw[HnlI.out];exact hlt);omega);have bh:=tG (P.out.okH k (by rw[HnhI.out];exact hlt)) (LH.aU k (by rw[HnhI.out];exact hlt)) (by have:=gY (R:=g.Hi) (n:=g.nh) (k:=k) (by rw[HnhI.out];exact hlt);omega);obtain⟨al,nl,cl,bbl,ml,dl,-,-,-,-,-,-,el,-⟩:=CL.R;obtain⟨ah,nh,ch,bbh,mh,dh,-,-,-,-,-,-,eh,-⟩:=CH.R;simp only[Value.agg.injEq,Array.mk.injEq,List.cons.injEq,and_true,true_and] at el eh;obtain⟨rfl,rfl⟩:=el;obtain⟨rfl,rfl⟩:=eh;have dr:=sT wr;have S1:=s.trans (sM dr s.size);have J1:=adb bl bh om (CL.aA S1).R.read (CH.aA S1).R.read;obtain⟨c,hc⟩:∃c,aaV (g.Lo k).q (g.Hi k).q=c:=⟨_,rfl⟩;rw[hc] at J1;have HC:=ae hc;have C1:=CL.aA s;have C2:=CH.aA s;have q2:=B.c2;have q3:=B.c3;have g0:=C1.c0;have g1:=C1.c1;have g2:=C1.c2;have h0:=C2.c0;have h1:=C2.c1;have h2:=C2.c2;have hzI:(k:Int)<(I:Int):=om
    have hzl:(k:Int)<(g.nl:Int):=by rw[HnlI.out];exact hzI
    have hzh:(k:Int)<(g.nh:Int):=by rw[HnhI.out];exact hzI
    clear hc bl bh
    by_cases hb:0<c
    . have BB:=ae (show fK g k by unfold fK;rw[HC.out];exact hb)
      go_wp2_with fail
      go_region_held3 (fun w'=>w'.cell? (jj w.heap.size 2)=some (.slice (jp bL oL) g.nl kL)/\w'.cell? (jj w.heap.size 3)=some (.slice (jp bH oH) g.nh kH)/\w'.cell? (jj bL (oL+k*3))=some (.bool (qn (g.Lo k).q))/\w'.cell? (jj bL (oL+k*3+1))=some (.slice al nl cl)/\w'.cell? (jj bL (oL+k*3+2))=some (.slice bbl ml dl)/\
       w'.cell? (jj bH (oH+k*3))=some (.bool (qn (g.Hi k).q))/\w'.cell? (jj bH (oH+k*3+1))=some (.slice ah nh ch)/\w'.cell? (jj bH (oH+k*3+2))=some (.slice bbh mh dh)) (go_keep)
       (first
         | (go_at_call 110
            with_reducible refine J1.mono ?_
            rintro e w2 ⟨rfl,s2⟩;have u2:=dr.trans (sM s2 dr.size);have S2:=s.trans (sM u2 s.size);have B2:=B.aA u2;have j2:=B2.c2;have j3:=B2.c3;have k0:=(CL.aA S2).c0;have k1:=(CL.aA S2).c1;have k2:=(CL.aA S2).c2;have l0:=(CH.aA S2).c0;have l1:=(CH.aA S2).c1;have l2:=(CH.aA S2).c2))
      all_goals go_wp2
      all_goals go_ret3
      exact⟨iI.none (.inr (.inl ⟨P.out,k,by rw[HhI.out];exact hzI,NB.out,BB.out,rfl,rfl,rfl⟩)),S2⟩
    . have BB:=ae (show ¬fK g k by unfold fK;rw[HC.out];exact hb)
      go_wp2_with fail
      go_region_held3 (fun w'=>w'.cell? (jj w.heap.size 2)=some (.slice (jp bL oL) g.nl kL)/\w'.cell? (jj w.heap.size 3)=some (.slice (jp bH oH) g.nh kH)/\w'.cell? (jj bL (oL+k*3))=some (.bool (qn (g.Lo k).q))/\w'.cell? (jj bL (oL+k*3+1))=some (.slice al nl cl)/\w'.cell? (jj bL (oL+k*3+2))=some (.slice bbl ml dl)/\
       w'.cell? (jj bH (oH+k*3))=some (.bool (qn (g.Hi k).q))/\w'.cell? (jj bH (oH+k*3+1))=some (.slice ah nh ch)/\w'.cell? (jj bH (oH+k*3+2))=some (.slice bbh mh dh)) (go_keep)
       (first
         | (go_at_call 110
            with_reducible refine J1.mono ?_
            rintro e w2 ⟨rfl,s2⟩;have u2:=dr.trans (sM s2 dr.size);have S2:=s.trans (sM u2 s.size);have B2:=B.aA u2;have j2:=B2.c2;have j3:=B2.c3;have k0:=(CL.aA S2).c0;have k1:=(CL.aA S2).c1;have k2:=(CL.aA S2).c2;have l0:=(CH.aA S2).c0;have l1:=(CH.aA S2).c1;have l2:=(CH.aA S2).c2))
      all_goals go_wp2
      all_goals go_roundw
      case rel=>exact⟨k+1,om,by go_num,S2,Nat.lt_of_lt_of_le hsz u2.size,B2,ae (fun j hj=>by
       by_cases e:j=k
       . subst e;exact BB.out
       . exact NB.out j om)⟩
      case measure=>simp[intOf];omega
  have e:k=I:=om
  subst e;have BX:=ae (show ∀j:Nat,(j:Int)<g.inn->¬fK g j from fun j hj=>NB.out j (by rw[HhI.out] at hj;omega));clear NB QL QH qa0;go_wp2_with fail;refine (@lI wr).mono ?_;rintro e w1 ⟨rfl,K1,s1⟩;obtain⟨m,hm⟩:∃m,wr.heap.size=m:=⟨_,rfl⟩;rw[hm] at K1⊢;have HM:=ae hm;clear hm;have S1:=s.trans (sM s1 s.size);have B1:=B.aA s1;have z1:=s1.size;have zK:=K1.lt;have q0:=B1.c0;have q4:=B1.c4;have sB:=bJ w1 (.cells #[.i g.inn] 3)
  have O1:km (w1.alloc (.cells #[.i g.inn] 3)) w1.heap.size (.s w1.heap.size 1 1) 1 (iw g 0) [.i g.inn]:=⟨World.ownsRow_lit w1 #[.i g.inn] 1 (Nat.le_refl _) qd rfl,fun i hi=>by
   have:i=0:=om
   subst this;rfl⟩
  have q4':=(B1.aA sB).c4;go_wp2_with fail;have z2:(w1.alloc (.cells #[.i g.inn] 3)).heap.size=w1.heap.size+1:=by simp
  have S2:=S1.trans (sM sB S1.size);have B2:=B1.aA sB;have K2:=K1.aA sB;generalize w1.alloc (.cells #[.i g.inn] 3)=w2 at*
  have hD0:=ae (show Dok (iw g 0) 1 from fun j hj=>by
   have:j=0:=om
   subst this;exact⟨i1,i2⟩)
  go_loopw [7,41] (fun u i wr'=>∃k:Nat,k<=g.nn/\i=.i k/\w.S wr'/\w1.heap.size<wr'.heap.size/\au wr' w.heap.size (.i g.inn) (.i g.rounds) (.slice aL g.nl kL) (.slice aH g.nh kH) (.slice aN g.nn kN) (.i g.out)/\dg wr' m/\Hid (∀j,j<k->nc g j=0)/\Hid (Dok (iw g k) (k+1))/\∃gd cap xs,u=.s gd (k+1) cap/\km wr' w1.heap.size (.s gd (k+1) cap) (k+1) (iw g k) xs) (fun _ i _=>g.nn-(intOf i).toNat)
  case atStart=>exact⟨0,Nat.zero_le _,rfl,S2,om,B2,K2,ae (fun j hj=>absurd hj om),hD0,w1.heap.size,1,_,rfl,O1⟩
  case round=>
   obtain⟨k,hk,rfl,s,hsz,B,K,NZ,HD,gd,cap,xs,rfl,O⟩:=hrel;have q5:=B.c5;have q4:=B.c4
   by_cases hlt:k<g.nn
   . obtain⟨eaN,a1,k1,M⟩:=LN k hlt
     subst eaN;have M':=M.aA s;have g0:=M'.c0;have g1:=M'.c1;have g2:=M'.c2;have g3:=M'.c3;have g4:=M'.c4;have g5:=M'.c5;have hz:(k:Int)<(g.nn:Int):=om
     have hsN:=qQ (A:=g.N) hlt;have nn1000:=P.out.n;have sC:=bJ wr (.cells #[.i (g.N k).op,.i (g.N k).a,.i (g.N k).b,.i (g.N k).k,.i (g.N k).s,.slice a1 (g.N k).nv k1] 48);go_wp2_with fail;have u3:=s.trans (sM sC s.size);generalize wr.alloc (.cells #[.i (g.N k).op,.i (g.N k).a,.i (g.N k).b,.i (g.N k).k,.i (g.N k).s,.slice a1 (g.N k).nv k1] 48)=w3 at*;have O3:=O.aA sC;have J:=@tb (g.N k) a1 lo k1 m (jp gd 0) gd (k+1) cap (iw g k) w3 (Nat.zero_le _) (hT.stay hw u3) (K.aA sC) om (M.L.aA u3) O3.ints HD.out;obtain⟨cc,hcc⟩:∃cc,dp (iw g k) (k+1) (g.N k)=cc:=⟨_,rfl⟩;obtain⟨dd,hdd⟩:∃dd,mP (iw g k) (k+1) (g.N k)=dd:=⟨_,rfl⟩;rw[hcc,hdd] at J;refine J.mono ?_;rintro e w4 ⟨rfl,s4⟩;have u4:=sC.trans (sM s4 sC.size);have S4:=s.trans (sM u4 s.size);have HCC:=ae hcc;have HDD:=ae hdd;clear hcc hdd J g0 g1 g2 g3 g4 g5 M'
     by_cases hc:cc=0
     . have q:(cc != 0)=false:=by simp[hc]
       have HC:=ae hc;clear hc;have O4:=O.aA u4;have z4:=u4.size
       go_wp2_with (at_builtin;refine wpList_append_own_at _ rfl _ _ 28 rfl w1.heap.size 3 i0 (.i 0) 1 8 Tryz.underlying28 hi hz0 hz1 hz2 rfl qd _ _ _ rfl (O4.own.alloc _) (jj w4.heap.size 0) 1 1 [.i dd] rfl rfl (bO _ _ _) (bZ _ rfl) (by unfold maxLen;omega) om (by simp;omega) ?_)
       intro v' w5 hown' hgrow hnn hat;obtain⟨g',cap',rfl,hg1,hg2⟩:=hown'.form om;have sW:=bJ w4 (.cells #[.i dd] 3);have S5:=(S4.trans (sM sW S4.size)).grown hgrow (by simp;have:=S4.size;omega) (fun q hq=>by have:=(O4.own.lt q hq).1;have:=S1.size;omega);have HN:Hid (nc g k=0):=ae (HCC.out.trans HC.out);have B4:=(B.aA u4).aA sW;have K4:=(K.aA u4).aA sW;have hgb:∀q,q<w1.heap.size->w5.heap[q]?=(w4.alloc (.cells #[.i dd] 3)).heap[q]?:=fun q hq=>hgrow.block q (by simp;have:=O4.own.lt _ (rfl:(Value.s gd (k+1) cap).ownBlock=some gd);omega) (fun e=>by have:=(O4.own.lt q e.symm).1;omega)
       have z5:=hgrow.size;clear hnn hat q;go_wp2;go_roundw
       case rel=>
        have zz:(w4.alloc (.cells #[.i dd] 3)).heap.size=w4.heap.size+1:=by simp
        have hB:au w5 w.heap.size (.i g.inn) (.i g.rounds) (.slice aL g.nl kL) (.slice aH g.nh kH) (.slice (jp bN oN) g.nn kN) (.i g.out):=by
         have hl:w.heap.size<w1.heap.size:=by have:=B1.lt;omega
         exact⟨(fa (a:=jj w.heap.size 0) (hgb _ hl)).trans B4.c0,(fa (a:=jj w.heap.size 1) (hgb _ hl)).trans B4.c1,(fa (a:=jj w.heap.size 2) (hgb _ hl)).trans B4.c2,(fa (a:=jj w.heap.size 3) (hgb _ hl)).trans B4.c3,(fa (a:=jj w.heap.size 4) (hgb _ hl)).trans B4.c4,(fa (a:=jj w.heap.size 5) (hgb _ hl)).trans B4.c5,fun o=>by
          have:=B4.f o;unfold World.frozen? at this⊢;rw[hgb _ hl];exact this⟩
        have hK:dg w5 m:=by
         unfold dg;rw[hgb m zK];exact K4
        have eD:dd=iA (iw g k) (g.N k):=by
         rw[<-HDD.out];unfold mP;rw[if_pos (HCC.out.trans HC.out)]
        have at2:∀i,i<k+1->xs[i]?=some (.i (iw g (k+1) i)):=fun i hi=>by rw[qo g om];exact O.at_ i hi
        refine⟨k+1,om,by go_num,S5,om,hB,hK,ae (fun j hj=> ?_),ae (fun j hj=> ?_),g',cap',_,rfl,km.snoc O.len at2 hown' (by rw[qp,<-eD])⟩
        . by_cases e:j=k
          . subst e;exact HN.out
          . exact NZ.out j om
        . by_cases e:j=k+1
          . subst e;rw[qp];exact aft HD.out (HCC.out.trans HC.out)
          . rw[qo g om];exact HD.out j om
       case measure=>simp[intOf];omega
     . have q:(cc != 0)=true:=by simp[hc]
       have HN:Hid (nc g k=cc):=ae HCC.out;go_wp2
       go_ret3
       refine⟨?_,S4⟩;exact iI.none (.inr (.inr (.inl ⟨P.out,BX.out,k,hlt,NZ.out,by rw[HN.out];exact hc,rfl,HN.out.symm,by go_num⟩)))
   have e:k=g.nn:=om
   have HE:=ae e;have KZ:=ae (show ∀j,j<g.nn->nc g j=0 from fun j hj=>NZ.out j om);clear e NZ
   by_cases ho:g.out<0
   . go_wp2
     go_ret3
     exact⟨iI.none (.inr (.inr (.inr (.inl ⟨P.out,BX.out,KZ.out,om,rfl,rfl,rfl⟩)))),s⟩
   by_cases ho2:(g.nn:Int)<g.out
   . go_wp2
     go_ret3
     exact⟨iI.none (.inr (.inr (.inr (.inl ⟨P.out,BX.out,KZ.out,om,rfl,rfl,rfl⟩)))),s⟩
   have hl:=O.own.lt gd rfl;go_wp2
   go_ret3
   refine⟨⟨k+1,iw g k,0,0,jp gd 0,cap,gd,rfl,.inr (.inr (.inr (.inr ⟨P.out,BX.out,KZ.out,⟨om,om⟩,by rw[HE.out],fun j hj=>by rw[HE.out],rfl,rfl⟩))),O.ints,fun _=>⟨by have:=S1.size;omega,hl.2,fun o=>O.own.frozenAt o⟩⟩,s⟩
theorem j9{g:ax}{aL aH aN:Option Addr}{lo kL kH kN:Nat}{w:World}(hd:g.size<=1048576)(H:gj w lo g aL aH aN kL kH kN):
 Cl 5 #[.agg #[.i g.inn,.i g.rounds,.slice aL g.nl kL,.slice aH g.nh kH,.slice aN g.nn kN,.i g.out]] w fun e w'=>iI e w' w.heap.size g/\w.S w':=by
 obtain⟨i0,hi,hz0,hz1,hz2⟩:=xX;have ts:=hd;unfold ax.size at ts;obtain⟨wA,eA⟩:∃wA:World,wA=(w.alloc (.cells #[.i g.inn,.i g.rounds,.slice aL g.nl kL,.slice aH g.nh kH,.slice aN g.nn kN,.i g.out] 26)).alloc (.cells #[] 3):=⟨_,rfl⟩;have sA:w.S wA:=by rw[eA];exact ((eg _ _).alloc (Nat.le_refl _) _).alloc qz _
 have zA:wA.heap.size=w.heap.size+1+1:=by rw[eA];simp
 have bA:au wA w.heap.size (.i g.inn) (.i g.rounds) (.slice aL g.nl kL) (.slice aH g.nh kH) (.slice aN g.nn kN) (.i g.out):=by rw[eA];exact (au.new w _ _ _ _ _ _ _).aA ((eg _ _).alloc (Nat.le_refl _) _)
 have EA:=ae eA;clear eA;go_enter Tryz.func5,Tryz.ntmps5;go_wp2_with fail;rw[<-EA.out];clear EA;have q0:=bA.c0;have q1:=bA.c1;have q2:=bA.c2;have q3:=bA.c3;have q4:=bA.c4;have q5:=bA.c5;refine (@ji g.inn 1 1000 wA).mono ?_;rintro e w1 ⟨⟨r,rfl,hr⟩,hw1⟩;have hw2:=hw1.symm;clear hw1;subst hw2;cases r
 . have N:=ae (show ¬kO g from fun h=>by have:=hr.2 (by unfold InP;have:=h.i1;have:=h.i2;omega);cases this)
   clear hr;go_wp2
   go_ret3
   exact⟨iI.none (.inl ⟨N.out,rfl,rfl,rfl⟩),sA⟩
 have I1:=ae (hr.1 rfl);clear hr;go_wp2_with fail;refine (@ji g.rounds 0 1000 wA).mono ?_;rintro e w1 ⟨⟨r,rfl,hr⟩,hw1⟩;have hw2:=hw1.symm;clear hw1;subst hw2;cases r
 . have N:=ae (show ¬kO g from fun h=>by have:=hr.2 (by unfold InP;have:=h.r0;have:=h.r1;omega);cases this)
   clear hr;go_wp2
   go_ret3
   exact⟨iI.none (.inl ⟨N.out,rfl,rfl,rfl⟩),sA⟩
 have I2:=ae (hr.1 rfl);clear hr
 by_cases h7:1000<g.nn
 . have q7:(1000:Int)<(g.nn:Int):=om
   go_wp2
   go_ret3
   exact⟨iI.none (.inl ⟨fun h=>by have:=h.n;omega,rfl,rfl,rfl⟩),sA⟩
 have q7:¬(1000:Int)<(g.nn:Int):=om
 by_cases h5:(g.nl:Int)=g.inn
 case neg=>
  have q5':((g.nl:Int) != g.inn)=true:=by simp[h5]
  go_wp2
  go_ret3
  exact⟨iI.none (.inl ⟨fun h=>h5 h.l,rfl,rfl,rfl⟩),sA⟩
 have q5':((g.nl:Int) != g.inn)=false:=by simp[h5]
 have H5:=ae h5;clear h5
 by_cases h6:(g.nh:Int)=g.inn
 case neg=>
  have q6:((g.nh:Int) != g.inn)=true:=by simp[h6]
  go_wp2
  go_ret3
  exact⟨iI.none (.inl ⟨fun h=>h6 h.h,rfl,rfl,rfl⟩),sA⟩
 have q6:((g.nh:Int) != g.inn)=false:=by simp[h6]
 have H6:=ae h6;clear h6;obtain⟨bL,oL,-,LL⟩:=H.LL;obtain⟨bH,oH,-,LH⟩:=H.LH;obtain⟨bN,oN,-,LN⟩:=H.LN;have J1:=@mI aL lo bL oL g.nl kL g.Lo wA om om (LL.aA sA);go_wp2_with fail;refine J1.mono ?_;rintro e w1 ⟨r,rfl,hr,s1⟩;have S1:=sA.trans (sM s1 sA.size);have B1:=bA.aA s1;have z1:=s1.size;cases r
 . have N:=ae (show ¬kO g from fun h=>by have:=hr.2 h.okL;cases this)
   clear hr;go_wp2
   go_ret3
   exact⟨iI.none (.inl ⟨N.out,rfl,rfl,rfl⟩),S1⟩
 have OL:=ae (hr.1 rfl);clear hr q0 q1 q2 q3 q4 q5 J1;have q3:=B1.c3;have J2:=@mI aH lo bH oH g.nh kH g.Hi w1 om om (LH.aA S1);go_wp2_with fail;refine J2.mono ?_;rintro e w2 ⟨r,rfl,hr,s2⟩;have S2:=S1.trans (sM s2 S1.size);have B2:=B1.aA s2;have z2:=s2.size;cases r
 . have N:=ae (show ¬kO g from fun h=>by have:=hr.2 h.okH;cases this)
   clear hr;go_wp2
   go_ret3
   exact⟨iI.none (.inl ⟨N.out,rfl,rfl,rfl⟩),S2⟩
 have P:Hid (kO g):=ae ⟨I1.out.1,I1.out.2,I2.out.1,I2.out.2,H5.out,H6.out,om,OL.out,hr.1 rfl⟩;clear hr q3 J2;have QL:=LL.qs P.out.okL;have QH:=LH.qs P.out.okH;have i1:=P.out.i1;have i2:=P.out.i2;obtain⟨I,hI⟩:∃I:Nat,g.inn=I:=⟨g.inn.toNat,om⟩;have HnlI:=ae (show g.nl=I by have:=H5.out;omega);have HnhI:=ae (show g.nh=I by have:=H6.out;omega);have HhI:=ae hI;clear hI q5' q6;go_wp2_with fail
 go_loopw [6] (fun i wr=>∃k:Nat,k<=I/\i=.i k/\w.S wr/\w.heap.size<wr.heap.size/\au wr w.heap.size (.i g.inn) (.i g.rounds) (.slice aL g.nl kL) (.slice aH g.nh kH) (.slice aN g.nn kN) (.i g.out)/\Hid (∀j,j<k->¬fK g j)) (fun i _=>I-(intOf i).toNat)
 case atStart=>exact⟨0,Nat.zero_le _,rfl,S2,om,B2,ae (fun j hj=>absurd hj om)⟩
 case round=>
  obtain⟨k,hk,rfl,s,hsz,B,NB⟩:=hrel;have qa0:=B.c0;rw[HhI.out] at qa0
  by_cases hlt:k<I
  . obtain⟨eaL,xl,yl,CL⟩:=QL k (by rw[HnlI.out];exact hlt)
    obtain⟨eaH,xh,yh,CH⟩:=QH k (by rw[HnhI.out];exact hlt);subst eaL eaH;have bl:=tG (P.out.okL k (by rw[HnlI.out];exact hlt)) (LL.aU k (by rw[HnlI.out];exact hlt)) (by have:=gY (R:=g.Lo) (n:=g.nl) (k:=k) (by rw[HnlI.out];exact hlt);omega);have bh:=tG (P.out.okH k (by rw[HnhI.out];exact hlt)) (LH.aU k (by rw[HnhI.out];exact hlt)) (by have:=gY (R:=g.Hi) (n:=g.nh) (k:=k) (by rw[HnhI.out];exact hlt);omega);obtain⟨al,nl,cl,bbl,ml,dl,-,-,-,-,-,-,el,-⟩:=CL.R;obtain⟨ah,nh,ch,bbh,mh,dh,-,-,-,-,-,-,eh,-⟩:=CH.R;simp only[Value.agg.injEq,Array.mk.injEq,List.cons.injEq,and_true,true_and] at el eh;obtain⟨rfl,rfl⟩:=el;obtain⟨rfl,rfl⟩:=eh;have dr:=sT wr;have S3:=s.trans (sM dr s.size);have J1:=agy bl bh om (CL.aA S3).R.read (CH.aA S3).R.read;obtain⟨c,hc⟩:∃c,aaV (g.Lo k).q (g.Hi k).q=c:=⟨_,rfl⟩;rw[hc] at J1;have HC:=ae hc;have C1:=CL.aA s;have C2:=CH.aA s;have q2:=B.c2;have q3:=B.c3;have g0:=C1.c0;have g1:=C1.c1;have g2:=C1.c2;have h0:=C2.c0;have h1:=C2.c1;have h2:=C2.c2;have hzI:(k:Int)<(I:Int):=om
    have hzl:(k:Int)<(g.nl:Int):=by rw[HnlI.out];exact hzI
    have hzh:(k:Int)<(g.nh:Int):=by rw[HnhI.out];exact hzI
    clear hc bl bh
    by_cases hb:0<c
    . have BB:=ae (show fK g k by unfold fK;rw[HC.out];exact hb)
      go_wp2_with fail
      go_region_held3 (fun w'=>w'.cell? (jj w.heap.size 2)=some (.slice (jp bL oL) g.nl kL)/\w'.cell? (jj w.heap.size 3)=some (.slice (jp bH oH) g.nh kH)/\w'.cell? (jj bL (oL+k*3))=some (.bool (qn (g.Lo k).q))/\w'.cell? (jj bL (oL+k*3+1))=some (.slice al nl cl)/\w'.cell? (jj bL (oL+k*3+2))=some (.slice bbl ml dl)/\
       w'.cell? (jj bH (oH+k*3))=some (.bool (qn (g.Hi k).q))/\w'.cell? (jj bH (oH+k*3+1))=some (.slice ah nh ch)/\w'.cell? (jj bH (oH+k*3+2))=some (.slice bbh mh dh)) (go_keep)
       (first
         | (go_at_call 15
            with_reducible refine J1.mono ?_
            rintro e w3 ⟨rfl,s3⟩;have u3:=dr.trans (sM s3 dr.size);have S4:=s.trans (sM u3 s.size);have B3:=B.aA u3;have j2:=B3.c2;have j3:=B3.c3;have k0:=(CL.aA S4).c0;have k1:=(CL.aA S4).c1;have k2:=(CL.aA S4).c2;have l0:=(CH.aA S4).c0;have l1:=(CH.aA S4).c1;have l2:=(CH.aA S4).c2))
      all_goals go_wp2
      all_goals go_ret3
      exact⟨iI.none (.inr (.inl ⟨P.out,k,by rw[HhI.out];exact hzI,NB.out,BB.out,rfl,rfl,rfl⟩)),S4⟩
    . have BB:=ae (show ¬fK g k by unfold fK;rw[HC.out];exact hb)
      go_wp2_with fail
      go_region_held3 (fun w'=>w'.cell? (jj w.heap.size 2)=some (.slice (jp bL oL) g.nl kL)/\w'.cell? (jj w.heap.size 3)=some (.slice (jp bH oH) g.nh kH)/\w'.cell? (jj bL (oL+k*3))=some (.bool (qn (g.Lo k).q))/\w'.cell? (jj bL (oL+k*3+1))=some (.slice al nl cl)/\w'.cell? (jj bL (oL+k*3+2))=some (.slice bbl ml dl)/\
       w'.cell? (jj bH (oH+k*3))=some (.bool (qn (g.Hi k).q))/\w'.cell? (jj bH (oH+k*3+1))=some (.slice ah nh ch)/\w'.cell? (jj bH (oH+k*3+2))=some (.slice bbh mh dh)) (go_keep)
       (first
         | (go_at_call 15
            with_reducible refine J1.mono ?_
            rintro e w3 ⟨rfl,s3⟩;have u3:=dr.trans (sM s3 dr.size);have S4:=s.trans (sM u3 s.size);have B3:=B.aA u3;have j2:=B3.c2;have j3:=B3.c3;have k0:=(CL.aA S4).c0;have k1:=(CL.aA S4).c1;have k2:=(CL.aA S4).c2;have l0:=(CH.aA S4).c0;have l1:=(CH.aA S4).c1;have l2:=(CH.aA S4).c2))
      all_goals go_wp2
      all_goals go_roundw
      case rel=>exact⟨k+1,om,by go_num,S4,Nat.lt_of_lt_of_le hsz u3.size,B3,ae (fun j hj=>by
       by_cases e:j=k
       . subst e;exact BB.out
       . exact NB.out j om)⟩
      case measure=>simp[intOf];omega
  have e:k=I:=om
  subst e;have BX:=ae (show ∀j:Nat,(j:Int)<g.inn->¬fK g j from fun j hj=>NB.out j (by rw[HhI.out] at hj;omega));have qb0:=B.c0;clear NB QL QH;have sB:=bJ wr (.cells #[.i (k:Int)] 3)
  have O1:km (wr.alloc (.cells #[.i (k:Int)] 3)) wr.heap.size (.s wr.heap.size 1 1) 1 (iw g 0) [.i (k:Int)]:=⟨World.ownsRow_lit wr #[.i (k:Int)] 1 (Nat.le_refl _) qd rfl,fun i hi=>by
   have:i=0:=om
   subst this
   show some (Value.i (k:Int))=some (.i g.inn)
   rw[HhI.out]⟩
  clear qb0;go_wp2_with fail;have z3:(wr.alloc (.cells #[.i (k:Int)] 3)).heap.size=wr.heap.size+1:=by simp
  have S3:=s.trans (sM sB s.size);have B3:=B.aA sB;obtain⟨m,hm⟩:∃m,wr.heap.size=m:=⟨_,rfl⟩;generalize wr.alloc (.cells #[.i (k:Int)] 3)=w3 at*;rw[hm] at O1 z3 hsz⊢;have hsz0:=hsz;have HM:=ae hm;clear hm
  have hD0:=ae (show Dok (iw g 0) 1 from fun j hj=>by
   have:j=0:=om
   subst this;exact⟨i1,i2⟩)
  go_loopw [7,8] (fun u i wr'=>∃k:Nat,k<=g.nn/\i=.i ((k+1:Nat):Int)/\w.S wr'/\m<wr'.heap.size/\au wr' w.heap.size (.i g.inn) (.i g.rounds) (.slice aL g.nl kL) (.slice aH g.nh kH) (.slice aN g.nn kN) (.i g.out)/\Hid (∀j,j<k->nc g j=0)/\Hid (Dok (iw g k) (k+1))/\∃gd cap xs,u=.s gd (k+1) cap/\km wr' m (.s gd (k+1) cap) (k+1) (iw g k) xs) (fun _ i _=>g.nn+1-(intOf i).toNat)
  case atStart=>exact⟨0,Nat.zero_le _,rfl,S3,om,B3,ae (fun j hj=>absurd hj om),hD0,m,1,_,rfl,O1⟩
  case round=>
   obtain⟨k,hk,rfl,s,hsz,B,NZ,HD,gd,cap,xs,rfl,O⟩:=hrel;have q5:=B.c5;have q4:=B.c4;have nn1000:=P.out.n
   by_cases hlt:k<g.nn
   . obtain⟨eaN,a1,k1,M⟩:=LN k hlt
     subst eaN;have hsN:=qQ (A:=g.N) hlt;have q0:=B.c0;have q1:=B.c1;have q2:=B.c2;have q3:=B.c3;have hz:((k+1:Nat):Int)<=(g.nn:Int):=om
     have hzk:(k:Int)<(g.nn:Int):=om
     have J:=@uK g (g.N k) aL aH lo kL kH kN bN oN a1 k1 k (jp gd 0) gd cap (iw g k) wr om (M.aA s) hlt nn1000 O.ints HD.out;obtain⟨cc,hcc⟩:∃cc,dp (iw g k) (k+1) (g.N k)=cc:=⟨_,rfl⟩;rw[hcc] at J;go_wp2_with fail;refine J.mono ?_;rintro e w4 ⟨rfl,s4⟩;have S4:=s.trans (sM s4 s.size);have HCC:=ae hcc;clear hcc J q0 q1 q2 q3
     by_cases hc:cc=0
     . have q:(cc != 0)=false:=by simp[hc]
       have HC:=ae hc;clear hc;obtain⟨F,G,SH⟩:=ry (HCC.out.trans HC.out);obtain⟨j,hj⟩:∃j:Nat,(g.N k).a=j:=⟨(g.N k).a.toNat,by have:=G.1;omega⟩;have hjn:j<k+1:=by have:=G.2.1;omega
       have hDj:=HD.out j hjn;obtain⟨x,hx⟩:∃x,iw g k j=x:=⟨_,rfl⟩;rw[hx] at hDj;have d4:=sT w4;have u5:=s4.trans (sM d4 s4.size);have S5:=s.trans (sM u5 s.size);have B5:=B.aA u5;have M5:=M.aA S5;obtain⟨-,hx5⟩:=((O.aA u5).ints) j hjn;rw[Nat.zero_add,hx] at hx5;have ea:(iw g k) (g.N k).a.toNat=x:=by rw[hj];exact hx
       have JD:=@oG (g.N k).op (j:Int) (g.N k).b (g.N k).k (g.N k).s x a1 (g.N k).nv k1 w4.drew hDj.1 hDj.2
        (fun h=>by have f:=F.k;rw[h] at f;exact f)
        (fun h=>by
          have f:=F.k;have f2:=F.s;rw[h] at f f2;have f':1<=(g.N k).k/\(g.N k).k<=1000:=f;have f2':1<=(g.N k).s/\(g.N k).s<=1000:=f2;refine⟨f'.1, ?_,f2'.1,f2'.2⟩
          by_cases hh:(g.N k).k>x
          . exfalso
            unfold cQ at SH;rw[ea] at SH
            simp[h,hh] at SH
          . omega)
       obtain⟨dd,hdd⟩:∃dd,jR (g.N k).op (g.N k).k (g.N k).s x=dd:=⟨_,rfl⟩;rw[hdd] at JD;have eD:Hid (dd=iA (iw g k) (g.N k)):=ae (by rw[<-hdd];unfold jR iA;rw[ea]);have HN:Hid (nc g k=0):=ae (HCC.out.trans HC.out);have hzj:(j:Int)<((k+1:Nat):Int):=om
       have ez:((k+1:Nat):Int)-1=(k:Int):=om
       have HJ:=ae hj;have HF:=ae F;have HG:=ae G;have HS:=ae SH;have HXX:=ae hx;have HEA:=ae ea;clear hdd F G SH ea hx;have q4:=(B.aA s4).c4;clear hj;go_wp2_with fail;refine wp_region_held_drew (S:=fun w'=>w'.cell? (jj w.heap.size 4)=some (.slice (jp bN oN) g.nn kN)/\w'.cell? (jj bN (oN+k*6))=some (.i (g.N k).op)/\w'.cell? (jj bN (oN+k*6+1))=some (.i (j:Int))/\w'.cell? (jj bN (oN+k*6+2))=some (.i (g.N k).b)/\w'.cell? (jj bN (oN+k*6+3))=some (.i (g.N k).k)/\w'.cell? (jj bN (oN+k*6+4))=some (.i (g.N k).s)/\w'.cell? (jj bN (oN+k*6+5))=some (.slice a1 (g.N k).nv k1)) kr ⟨B5.c4,M5.c0,(by rw[<-HJ.out];exact M5.c1),M5.c2,M5.c3,M5.c4,M5.c5⟩ (fun hHeld=> ?_);refine tk 0 94 (.s gd (k+1) cap) ?_;simp only[ap,la,lz,ls];refine tk 1 95 (.p w.heap.size 4) ?_;simp only[ap,la,lz,ls];refine ta 2 96 (.slice (jp bN oN) g.nn kN) ?_ ?_
       . intro w' hSw
         try dsimp only at hSw
         go_simp
       simp only[ap,la,lz,ls];refine tk 3 97 (.i ((k+1:Nat):Int)) ?_;simp only[ap,la,lz,ls];refine ta 4 98 (.i (k:Int)) ?_ ?_
       . intro w' hSw
         try dsimp only at hSw
         go_simp;rw[IntKind.wrap_i64];omega
       simp only[ap,la,lz,ls];refine ta 5 99 (.p bN (oN+k*6)) ?_ ?_
       . intro w' hSw
         try dsimp only at hSw
         go_simp
       simp only[ap,la,lz,ls];refine ta 6 100 (.agg #[.i (g.N k).op,.i (j:Int),.i (g.N k).b,.i (g.N k).k,.i (g.N k).s,.slice a1 (g.N k).nv k1]) ?_ ?_
       . intro w' hSw
         try dsimp only at hSw
         go_simp
       simp only[ap,la,lz,ls];refine tk 7 101 (.s gd (k+1) cap) ?_;simp only[ap,la,lz,ls];refine tk 8 102 (.p w.heap.size 4) ?_;simp only[ap,la,lz,ls];refine ta 9 103 (.slice (jp bN oN) g.nn kN) ?_ ?_
       . intro w' hSw
         try dsimp only at hSw
         go_simp
       simp only[ap,la,lz,ls];refine tk 10 104 (.i ((k+1:Nat):Int)) ?_;simp only[ap,la,lz,ls];refine ta 11 105 (.i (k:Int)) ?_ ?_
       . intro w' hSw
         try dsimp only at hSw
         go_simp;rw[IntKind.wrap_i64];omega
       simp only[ap,la,lz,ls];refine ta 12 106 (.p bN (oN+k*6)) ?_ ?_
       . intro w' hSw
         try dsimp only at hSw
         go_simp
       simp only[ap,la,lz,ls];refine ta 13 107 (.p bN (oN+k*6+1)) ?_ ?_
       . intro w' hSw
         try dsimp only at hSw
         go_simp
       simp only[ap,la,lz,ls];refine ta 14 108 (.i (j:Int)) ?_ ?_
       . intro w' hSw
         try dsimp only at hSw
         go_simp
       simp only[ap,la,lz,ls];refine ta 15 109 (.p gd j) ?_ ?_
       . intro w' hSw
         try dsimp only at hSw
         go_simp;intro h;omega
       simp only[ap,la,lz,ls];refine wpAnyH_ready (rs:=[16]) kr qz ?_;refine AllReadyH.cons rfl (fun K hK=> ?_) AllReadyH.nil;have lx:=hx5;go_simp;clear lx;refine hK.out _ _ ⟨B5.c4,M5.c0,(by rw[<-HJ.out];exact M5.c1),M5.c2,M5.c3,M5.c4,M5.c5⟩ (fun h1=> ?_);clear hK K hHeld;refine wpAnyH_ready (rs:=[17]) kr qz ?_;refine AllReadyH.cons rfl (fun K hK=> ?_) AllReadyH.nil;go_simp
       go_wp2_with (go_at_call 17;with_reducible refine JD.mono ?_;rintro e w6 ⟨rfl,s6⟩)
       have u6:=u5.trans (sM s6 u5.size);have S6:=s.trans (sM u6 s.size);have B6:=B.aA u6;have M6:=M.aA S6;have O6:=O.aA u6;have z6:=u6.size;refine hK.out _ _ ⟨B6.c4,M6.c0,(by rw[<-HJ.out];exact M6.c1),M6.c2,M6.c3,M6.c4,M6.c5⟩ (fun h2=> ?_);clear hK K h1;refine wpAnyH_ready (rs:=[18]) kr qz ?_;refine AllReadyH.cons rfl (fun K hK=> ?_) AllReadyH.nil;go_simp;have sW:=bJ w6 (.cells #[.i dd] 3);have S7:=S6.trans (sM sW S6.size);have B7:=B6.aA sW;have M7:=M.aA S7;refine hK.out _ _ ⟨B7.c4,M7.c0,(by rw[<-HJ.out];exact M7.c1),M7.c2,M7.c3,M7.c4,M7.c5⟩ (fun h3=> ?_);clear hK K h2;refine wpAnyH_ready (rs:=[19]) kr qz ?_;refine AllReadyH.cons rfl (fun K hK=> ?_) AllReadyH.nil;refine step_append_lies _ rfl _ _ 28 rfl m 3 i0 _ 1 8 Tryz.underlying28 hi hz0 hz1 hz2 rfl qd _ (k+1) xs rfl (O6.own.alloc _) (jj w6.heap.size 0) 1 1 [.i dd] rfl rfl (bO _ _ _) (bZ _ rfl) qd (by unfold maxLen;omega) om (by simp;omega) (w6.heap.size+1) qz ?_;intro g' cap' w8 hown' hgrow hat hlt8;have zz:(w6.alloc (.cells #[.i dd] 3)).heap.size=w6.heap.size+1:=by simp
       have hlg:=O6.own.lt gd rfl;have S8:w.S w8:=S7.grown hgrow (by have:=S6.size;omega) (fun q hq=>by have:=(O6.own.lt q hq).1;have:=s.size;omega);have hgb:∀q,q<m->w8.heap[q]?=(w6.alloc (.cells #[.i dd] 3)).heap[q]?:=fun q hq=>hgrow.block q om (fun e=>by have:=(O6.own.lt q e.symm).1;omega)
       have B8:au w8 w.heap.size (.i g.inn) (.i g.rounds) (.slice aL g.nl kL) (.slice aH g.nh kH) (.slice (jp bN oN) g.nn kN) (.i g.out):=by
        have hl:w.heap.size<m:=hsz0
        exact⟨(fa (a:=jj w.heap.size 0) (hgb _ hl)).trans B7.c0,(fa (a:=jj w.heap.size 1) (hgb _ hl)).trans B7.c1,(fa (a:=jj w.heap.size 2) (hgb _ hl)).trans B7.c2,(fa (a:=jj w.heap.size 3) (hgb _ hl)).trans B7.c3,(fa (a:=jj w.heap.size 4) (hgb _ hl)).trans B7.c4,(fa (a:=jj w.heap.size 5) (hgb _ hl)).trans B7.c5,fun o=>by
         have:=B7.f o;unfold World.frozen? at this⊢;rw[hgb _ hl];exact this⟩
       have M8:=M.aA S8;have z8:=hgrow.size;refine hK.out _ _ ⟨B8.c4,M8.c0,(by rw[<-HJ.out];exact M8.c1),M8.c2,M8.c3,M8.c4,M8.c5⟩ (fun h4=> ?_);clear hK K h3;refine wpAnyH_ready (rs:=[20]) kr qz ?_;refine AllReadyH.cons rfl (fun K hK=> ?_) AllReadyH.nil;go_simp;refine hK.out _ _ ⟨B8.c4,M8.c0,(by rw[<-HJ.out];exact M8.c1),M8.c2,M8.c3,M8.c4,M8.c5⟩ (fun h5=> ?_);clear hK K h5 h4;refine wpAnyH_done kr ?_ _;go_wp2;go_roundw
       case rel=>
        go_light;have at2:∀i,i<k+1->xs[i]?=some (.i (iw g (k+1) i)):=fun i hi=>by rw[qo g om];exact O.at_ i hi
        refine⟨k+1,om,by go_num,S8,om,B8,ae (fun j hj=> ?_),ae (fun j hj=> ?_),g',cap',_,rfl,km.snoc O.len at2 hown' (by rw[qp,<-eD.out])⟩
        . by_cases e:j=k
          . subst e;exact HN.out
          . exact NZ.out j om
        . by_cases e:j=k+1
          . subst e;rw[qp];exact aft HD.out (HCC.out.trans HC.out)
          . rw[qo g om];exact HD.out j om
       case measure=>simp[intOf];omega
     . have q:(cc != 0)=true:=by simp[hc]
       have HN:Hid (nc g k=cc):=ae HCC.out;go_wp2
       go_ret3
       refine⟨?_,S4⟩;exact iI.none (.inr (.inr (.inl ⟨P.out,BX.out,k,hlt,NZ.out,by rw[HN.out];exact hc,rfl,HN.out.symm,by go_num⟩)))
   have e:k=g.nn:=om
   have HE:=ae e;have KZ:=ae (show ∀j,j<g.nn->nc g j=0 from fun j hj=>NZ.out j om);clear e NZ;have nz:¬((k+1:Nat):Int)<=(g.nn:Int):=om
   go_wp2_with fail;refine (@ji g.out 0 (g.nn:Int) wr).mono ?_;rintro e w4 ⟨⟨r,rfl,hr⟩,hw4⟩;have hw5:=hw4.symm;clear hw4;subst hw5;cases r
   . have NO:=ae (show ¬(0<=g.out/\g.out<=g.nn) from fun h=>by have:=hr.2 h;cases this)
     clear hr;go_wp2
     go_ret3
     exact⟨iI.none (.inr (.inr (.inr (.inl ⟨P.out,BX.out,KZ.out,NO.out,rfl,rfl,rfl⟩)))),s⟩
   have YO:=ae (hr.1 rfl);clear hr;have hl:=O.own.lt gd rfl;go_wp2
   go_ret3
   refine⟨⟨k+1,iw g k,0,0,jp gd 0,cap,gd,rfl,.inr (.inr (.inr (.inr ⟨P.out,BX.out,KZ.out,YO.out,by rw[HE.out],fun j hj=>by rw[HE.out],rfl,rfl⟩))),O.ints,fun _=>⟨by have:=s.size;omega,hl.2,fun o=>O.own.frozenAt o⟩⟩,s⟩
theorem kG{g:ax}{aL aH aN:Option Addr}{lo kL kH kN:Nat}{w:World}(hw:0<=w.heap.size)(hT:rI w)(hd:g.size<=1048576)(H:gj w lo g aL aH aN kL kH kN):
 Cl 18 #[.agg #[.i g.inn,.i g.rounds,.slice aL g.nl kL,.slice aH g.nh kH,.slice aN g.nn kN,.i g.out]] w fun e w'=>(∃n X c a,wh g n X c a/\e=.returned (.bool (decide (c=0))))/\w.S w':=by
 have sA:=bJ w (.cells #[.i g.inn,.i g.rounds,.slice aL g.nl kL,.slice aH g.nh kH,.slice aN g.nn kN,.i g.out] 26);have bA:=au.new w (.i g.inn) (.i g.rounds) (.slice aL g.nl kL) (.slice aH g.nh kH) (.slice aN g.nn kN) (.i g.out) 26;go_enter Tryz.func18,Tryz.ntmps18;go_wp2_with fail;generalize w.alloc _=wA at*;refine (pl (Nat.zero_le _) (hT.stay hw sA) hd (H.aA sA)).mono ?_;rintro e w0 ⟨⟨n,X,c,a,ad,cap,b,rfl,O,-⟩,s0⟩;have S0:=sA.tr s0;have O:=ae O
 by_cases hc:c=0
 . subst hc
   go_wp2;go_ret;exact⟨⟨n,X,0,a,O.out,qz⟩,S0⟩
 . go_wp2
   go_ret;exact⟨⟨n,X,c,a,O.out,by simp[hc]⟩,S0⟩
end Go.Proofs.YtclgkofcooibfaaGreatDoor
