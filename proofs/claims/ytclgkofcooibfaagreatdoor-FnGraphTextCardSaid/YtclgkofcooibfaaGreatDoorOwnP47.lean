import Derived.Test.YtclgkofcooibfaaGreatDoorOwnP38
import Derived.Test.YtclgkofcooibfaaGreatDoorOwnP44
set_option maxHeartbeats 6400000
set_option maxRecDepth 100000
namespace Go.Proofs.YtclgkofcooibfaaGreatDoor
open Go.RowKit
section
variable{w0 w w':World}{c:Nat}{a:Option Addr}{b off n cap:Nat}{X:Nat->Nat}{p p' c4 c9:Nat}{x0 x1 x2 x3 x4 x5 y0 y1 y2 y3 y4 y5:Value}
theorem oU.m4(h:oU w0 w c a b off n cap X p c4 c9 x0 x1 x2 x3 x4 x5)(M:af w w' c4):Rp w' c a b off n cap X p/\cu c w0 w':=by
 have l4:=h.l4;have lc:=h.lc;exact⟨h.R.marked M om,jl h.O M l4⟩
theorem oU.mg{d:Nat}(h:oU w0 w c a b off n cap X p c4 c9 x0 x1 x2 x3 x4 x5)(M:af w w' d)(h4:c4≠d)(h9:c9≠d)(hd:w0.heap.size<=d):oU w0 w' c a b off n cap X p c4 c9 x0 x1 x2 x3 x4 x5:=by
 have lc:=h.lc;exact⟨h.l4,h.l9,lc,h.B4.marked M h4,h.B9.marked M h9,h.R.marked M om,jl h.O M hd⟩
def NL(w0 w:World)(c4 c9:Nat)(v:Value)(k:Nat)(R:Nat->br):Prop:=∃xs,fP w w0.heap.size (fun q=>w0.heap.size<=q/\q≠c4/\q≠c9) v k R xs/\v.ownBlock≠some c4/\v.ownBlock≠some c9
theorem NL.mv{v:Value}{k:Nat}{R:Nat->br}(h:NL w0 w c4 c9 v k R)(hb:∀g,g<w.heap.size->w0.heap.size<=g->g≠c4/\g≠c9->w'.heap[g]?=w.heap[g]?):NL w0 w' c4 c9 v k R:=by
 obtain⟨xs,L,h1,h2⟩:=h;exact⟨xs,L.mv (fun g hg=>hb g (L.own.lt g hg).2 (L.own.lt g hg).1 ⟨fun e=>h1 (e▸hg),fun e=>h2 (e▸hg)⟩) (fun g hg hp=>⟨hb g hg hp.1 hp.2,hp⟩),h1,h2⟩
theorem NL.m9{v:Value}{k:Nat}{R:Nat->br}(h:NL w0 w c4 c9 v k R)(M:af w w' c9):NL w0 w' c4 c9 v k R:=h.mv fun g _ _ hg=>M.other g hg.2
theorem NL.m4{v:Value}{k:Nat}{R:Nat->br}(h:NL w0 w c4 c9 v k R)(M:af w w' c4):NL w0 w' c4 c9 v k R:=h.mv fun g _ _ hg=>M.other g hg.1
theorem NL.aA{v:Value}{k:Nat}{R:Nat->br}(h:NL w0 w c4 c9 v k R)(s:w.S w'):NL w0 w' c4 c9 v k R:=h.mv fun g hg _ _=>s.block g hg
theorem NL.aI{v:Value}{k:Nat}{R:Nat->br}(h:NL w0 w c4 c9 v k R)(s:cu c w w')(lc:c<w0.heap.size):NL w0 w' c4 c9 v k R:=h.mv fun g hg h0 _=>s.block g hg om
theorem NL.of{g cp k B:Nat}{R:Nat->br}{xs:List Value}(L:fP w B (fun q=>B<=q) (.s g k cp) k R xs)(h0:w0.heap.size<=B)(h4:c4<B)(h9:c9<B):NL w0 w c4 c9 (.s g k cp) k R:=by
 have hg:=(L.own.lt g rfl).1;exact⟨xs,L.low h0 (fun q h=>by omega),fun e=>by simp[Value.ownBlock] at e;omega,fun e=>by simp[Value.ownBlock] at e;omega⟩
theorem oU.out{g cp:Nat}{d:ay}(h:oU w0 w c a b off n cap X p c4 c9 (.i d.op) (.i d.a) (.i d.b) (.i d.k) (.i d.s) (.s g d.nv cp))(L:NL w0 w c4 c9 (.s g d.nv cp) d.nv d.V)(M:af w w' c4):
 ahm w' w0.heap.size (.agg #[.i d.op,.i d.a,.i d.b,.i d.k,.i d.s,.s g d.nv cp]) d/\Rp w' c a b off n cap X p/\cu c w0 w':=by
 obtain⟨xs,L,-,-⟩:=L.m4 M;exact⟨⟨g,cp,xs,rfl,L.low (Nat.le_refl _) (fun q h=>h.1)⟩,h.m4 M⟩
end
theorem gb{p:Prop}(h:p:=by
 have b0:=NS.B9.c0;have b1:=NS.B9.c1;have b2:=NS.B9.c2;have b3:=NS.B9.c3;have b4:=NS.B9.c4;have b5:=NS.B9.c5;have bf0:=NS.B9.f 0;have bf2:=NS.B9.f 2;have bf3:=NS.B9.f 3;have bf5:=NS.B9.f 5;have u0:=NS.B4.c0;have u1:=NS.B4.c1;have u2:=NS.B4.c2;have u3:=NS.B4.c3;have u4:=NS.B4.c4;have u5:=NS.B4.c5;have uf0:=NS.B4.f 0;have uf1:=NS.B4.f 1;have uf2:=NS.B4.f 2;have uf3:=NS.B4.f 3;have uf4:=NS.B4.f 4;have uf5:=NS.B4.f 5;go_wp2;refine bodyPost_ret (dn rfl Tryz.underlying48 rfl qT _ _ _ _ _ _ _ _ _ rfl ((((((NS8.B4.aE _).aG _).aF _).aK _).aS _).aO _)) rfl ?_;rw[HN.out];exact⟨_,rfl,NS8.out (d:=ay.mk _ _ _ _ _ _ _) NL8 (((((((af.refl _ w.heap.size).setCell 0 _).setCell 1 _).setCell 2 _).setCell 3 _).setCell 4 _).setCell 5 _)⟩):p:=h
theorem ahA{c:Nat}{a:Option Addr}{b off n cap:Nat}{X:Nat->Nat}{p m gd cd:Nat}{D:Nat->Nat}{w:World}(hn:n<=16777216)(R:Rp w c a b off n cap X p)(m1:1<=m)(m2:m<=13)
 (HD:mf w (jp gd 0) gd 0 m (fun j=>(D j:Int)))(hgd:gd≠c)(hD:∀j,j<m->1<=D j/\D j<=8):
 Cl 89 #[.p c 0,.s gd m cd] w fun e w'=>∃u,e=.returned u/\ahm w' w.heap.size u (nd X n p m D).1/\Rp w' c a b off n cap X (nd X n p m D).2/\cu c w w':=by
 have hcl:=R.R.lt;have hgl:gd<w.heap.size:=gz _ _ (HD 0 om).2;have HDH:=ae hD;have sA:=bJ w (.cells #[.i 0,.i 0,.i 0,.i 0,.i 0,.n] 48);have bA:=au.new w (.i 0) (.i 0) (.i 0) (.i 0) (.i 0) (.n) 48;have RA:=R.aA sA;have HDA:=HD.aI (cu.aC c sA) hgd;obtain⟨ND,hND⟩:∃x,nd X n p m D=x:=⟨_,rfl⟩;rw[hND];have HND:=ae hND;clear hND hD;go_enter Tryz.func89,Tryz.ntmps89;go_wp2_with fail;generalize (w.alloc _)=wA at*;have zA:=sA.size;have zb:=bA.lt;refine (@cT c a b off n cap X p wA hn RA).mono ?_;rintro e w1 ⟨k,ek,rfl,hk,R1,O1⟩;have b1:=bA.aI O1 om;have O01:=(cu.aC c sA).trans O1;have z1:=O1.size;have HD1:=HDA.aI O1 hgd;have HE:=HND.out;unfold nd ndA at HE;rw[ek] at HE;have EK:=ae ek;clear RA O1 sA ek HND bA HDA
 go_upto_if 20 with fail
 go_cut [7] (fun u wx=>∃(t p2:Nat),u=.i (t:Int)/\t<m/\Hid (ndB X n (k/7 % 10) t (D t) p2 m D=ND)/\Rp wx c a b off n cap X p2/\cu c w wx/\au wx w.heap.size (.i 0) (.i 0) (.i 0) (.i 0) (.i 0) (.n)/\wA.heap.size<=wx.heap.size)
 case first=>
  by_cases x7:k % 7=6
  . simp only[if_pos x7] at HE
    have g7:((k:Int) % 7==6)=true:=by simp;omega
    have hm0:¬(m:Int)=0:=om
    have H2:=ae HE;clear HE x7;go_wp2_with fail;refine (@cT c a b off n cap X _ w1 hn R1).mono ?_;rintro e w2 ⟨k2,ek2,rfl,hk2,R2,O2⟩;obtain⟨t,ht⟩:∃t,k2 % m=t:=⟨_,rfl⟩;have ht':=tm ht;have htm:t<m:=by rw[<-ht];exact Nat.mod_lt _ om
    have H3:=H2.out;rw[ek2,ht] at H3;have H4:=ae H3;have bb:=b1.aI O2 om;have O02:=O01.trans O2;have z2:=O2.size;clear H2 H3 ht ek2 b1 O2 O01;go_wp2
    go_meet
    case rel=>exact⟨t,_,rfl,htm,H4,R2,O02,bb,om⟩
  . simp only[if_neg x7] at HE
    have g7:((k:Int) % 7==6)=false:=by simp;omega
    have H2:=ae HE;clear HE x7;go_wp2
    go_meet
    case rel=>exact⟨m-1,_,congrArg (Value.int .i64) om,om,H2,R1,O01,b1,om⟩
 case rest=>
  obtain⟨t,p2,rfl,htm,H2,R2,O02,b2,z2⟩:=hcut;have HD2:=HD.aI O02 hgd;obtain⟨-,ct⟩:=HD2 t htm;rw[Nat.zero_add] at ct;have hDt:=HDH.out t htm;obtain⟨d,hd⟩:∃d,D t=d:=⟨_,rfl⟩;simp only[hd] at ct hDt;rw[hd] at H2;have htm':(t:Int)<m:=om
  obtain⟨w3,e3⟩:∃w3:World,w3=(wc.alloc (.cells #[] 44)).alloc (.cells #[.i 0,.i (t:Int),.i 0,.i 0,.i 0,.s wc.heap.size 0 0] 48):=⟨_,rfl⟩;have sB:=bJ wc (.cells #[] 44);have zB:(wc.alloc (.cells #[] 44)).heap.size=wc.heap.size+1:=by simp
  have sC:(wc.alloc (.cells #[] 44)).Since (wc.alloc (.cells #[] 44)).heap.size w3:=by rw[e3];exact bJ _ _
  have bC:au w3 (wc.heap.size+1) (.i 0) (.i (t:Int)) (.i 0) (.i 0) (.i 0) (.s wc.heap.size 0 0):=by
   rw[e3,<-zB];exact au.new _ _ _ _ _ _ _ _
  have z02:=O02.size
  have NS:oU w w3 c a b off n cap X p2 w.heap.size (wc.heap.size+1) (.i 0) (.i (t:Int)) (.i 0) (.i 0) (.i 0) (.s wc.heap.size 0 0):=
   ⟨Nat.le_refl _,om,hcl,(b2.aA sB).aA sC,bC,(R2.aA sB).aA sC,(O02.trans (cu.aC c sB)).trans (cu.aC c sC)⟩
  have NL0:Hid (∀R,NL w w3 w.heap.size (wc.heap.size+1) (.s wc.heap.size 0 0) 0 R):=ae fun R=>
   ⟨[],(fP.nil wc w.heap.size _ R z02).aA sC,fun e=>by simp[Value.ownBlock] at e;omega,fun e=>by simp[Value.ownBlock] at e⟩
  have HD3:=(HD2.aI (cu.aC c sB) hgd).aI (cu.aC c sC) hgd;have z3:=sC.size;rw[zB] at z3;clear sB sC bC b2 R2 O02 HD2 HD R1 b1 O01 HE
  go_upto_region 9 with fail
  rw[<-e3];clear e3 ct;have hne1:wc.heap.size+1≠w.heap.size:=om
  have hne2:w.heap.size≠wc.heap.size+1:=om
  generalize hc9:wc.heap.size+1=c9 at*;obtain⟨o,ho⟩:∃o,k/7 % 10=o:=⟨_,rfl⟩;rw[ho] at H2;have ho9:o<=9:=om
  have hN:=H2.out;unfold ndB at hN;clear H2;have hcase:o=2∨o=3∨o=4∨o=5∨(o=6/\1<d)∨o=7∨o=8∨o=9∨(o=6/\¬1<d)∨o<2:=om
  rcases hcase with rfl | rfl | rfl | rfl | ⟨rfl,x⟩ | rfl | rfl | rfl | ⟨rfl,x⟩ | x
  . have ho':(k:Int)/7 % 10=2:=om
    rw[if_pos om] at hN;have HN:=ae hN.symm;have NS8:=NS.aE (.i 2);have NL8:=(NL0.out (px X n p2)).m9 ((af.refl _ _).setCell 0 (.i 2));clear hN ho NL0;exact gb
  . have ho':(k:Int)/7 % 10=3:=om
    rw[if_pos om] at hN;have HN:=ae hN.symm;have NS8:=NS.aE (.i 2);have NL8:=(NL0.out (px X n p2)).m9 ((af.refl _ _).setCell 0 (.i 2));clear hN ho NL0;exact gb
  . have ho':(k:Int)/7 % 10=4:=om
    rw[if_neg om,if_pos om] at hN;have HN:=ae hN.symm;have NS1:=NS.aE (.i 3);have NL1:=(NL0.out (px X n p2)).m9 ((af.refl w3 c9).setCell 0 (.i 3));have b0:=NS.B9.c0;have bf0:=NS.B9.f 0;have HD4:=HD3.aI (cu.aP ((af.refl w3 c9).setCell 0 (.i 3))) om;clear hN ho NL0 HD3;go_wp2_with fail;generalize w3.setCell (jj c9 0) (.i 3)=w4 at*;clear NS b0 bf0;refine (@qZ c a b off n cap X p2 1 w4 hn om NS1.R).mono ?_;rintro e w5 ⟨g,cp,xs,rfl,L5,R5,O5⟩;have zz:=NS1.B9.lt;have NS:=NS1.go R5 O5;have NS8:=NS.aO (.s g 1 cp);have NL8:=(NL.of (w0:=w) (c4:=w.heap.size) (c9:=c9) L5 om om om).m9 ((af.refl _ _).setCell 5 (.s g 1 cp));clear L5 NS1 NL1 R5 O5;exact gb
  . have ho':(k:Int)/7 % 10=5:=om
    rw[if_neg om,if_neg om,if_pos om] at hN;have HN:=ae hN.symm;have NS1:=NS.aE (.i 4);have NL1:=(NL0.out (px X n p2)).m9 ((af.refl w3 c9).setCell 0 (.i 4));have b0:=NS.B9.c0;have bf0:=NS.B9.f 0;have HD4:=HD3.aI (cu.aP ((af.refl w3 c9).setCell 0 (.i 4))) om;clear hN ho NL0 HD3;go_wp2_with fail;generalize w3.setCell (jj c9 0) (.i 4)=w4 at*;clear NS b0 bf0;have hm0:¬(m:Int)=0:=om
    refine (@cT c a b off n cap X p2 w4 hn NS1.R).mono ?_;rintro e w5 ⟨k2,ek2,rfl,hk2,Rk2,Ok2⟩;have NS:=NS1.go Rk2 Ok2;obtain⟨y0,hy⟩:∃t,k2 % m=t:=⟨_,rfl⟩;have hy':=tm hy;have hym:y0<m:=by rw[<-hy];exact Nat.mod_lt _ om
    obtain⟨BK,hBK⟩:∃t,yY D d y0=t:=⟨_,rfl⟩;have HN':=HN.out;rw[ek2,hy,hBK] at HN';have HN:=ae HN';clear HN';have HBK:=ae hBK;have HD5:=HD4.aI Ok2 hgd;have NL5:=NL1.aI Ok2 hcl;clear ek2 hy hBK Rk2 Ok2 NS1 HD4 NL1;go_wp2_with fail
    go_loopw [11] (fun u wr=>∃y:Nat,y<m/\u=.i (y:Int)/\Hid (yY D d y=BK)/\Same w5 wr) (fun u _=>(intOf u).toNat)
    case atStart=>exact⟨y0,hym,rfl,HBK,Same.refl _⟩
    case round=>
     clear hy' hym HBK;obtain⟨y,hym,rfl,HBK,sm⟩:=hrel;have NS:=NS.aA (sm.since _);have NL6:=NL5.aA (sm.since _);have hym':(y:Int)<m:=om
     obtain⟨-,cy⟩:=(HD5.aI (cu.bG c sm) hgd) y hym;rw[Nat.zero_add] at cy;obtain⟨dy,hdy⟩:∃t,D y=t:=⟨_,rfl⟩;simp only[hdy] at cy
     by_cases y0:y=0
     . subst y0
       have hB:BK=0:=HBK.out.symm;subst hB
       by_cases q:dy=d
       . have q':((dy:Int) != (d:Int))=false:=by simp[q]
         have HN':=HN.out;rw[if_pos (hdy.trans q)] at HN';have HN:=ae HN';have NS8:=NS.aF (.i ((0:Nat):Int));have NL8:=NL6.m9 ((af.refl _ _).setCell 2 (.i ((0:Nat):Int)));clear HN' q hdy;exact gb
       . have q':((dy:Int) != (d:Int))=true:=by simp;omega
         have HN':=HN.out;rw[if_neg om] at HN';have HN:=ae HN';have NS8:=NS.aF (.i (t:Int));have NL8:=NL6.m9 ((af.refl _ _).setCell 2 (.i (t:Int)));clear HN' q hdy;exact gb
     . have q0:(0:Int)<y:=om
       obtain⟨x,rfl⟩:∃x,y=x+1:=⟨y-1,om⟩
       by_cases q:dy=d
       . have q':((dy:Int) != (d:Int))=false:=by simp[q]
         have hB:BK=x+1:=by rw[<-HBK.out,yY,if_pos (hdy.trans q)]
         have HN':=HN.out;rw[hB,if_pos (hdy.trans q)] at HN';have HN:=ae HN';have NS8:=NS.aF (.i ((x+1:Nat):Int));have NL8:=NL6.m9 ((af.refl _ _).setCell 2 (.i ((x+1:Nat):Int)));clear HN' q hdy hB;exact gb
       . have q':((dy:Int) != (d:Int))=true:=by simp<;>omega
         have HB2:Hid (yY D d x=BK):=ae (by rw[<-HBK.out,yY,if_neg om]);clear q hdy HBK;go_wp2;go_roundw
         case rel=>exact⟨x,om,congrArg (Value.int .i64) om,HB2,sm⟩
         case measure=>simp[intOf]
  . have x':(1:Int)<d:=om
    have ho':(k:Int)/7 % 10=6:=om
    rw[if_neg om,if_neg om,if_neg om,if_pos om] at hN;have HN:=ae hN.symm;have NS1:=NS.aE (.i 5);have NL1:=(NL0.out (px X n p2)).m9 ((af.refl w3 c9).setCell 0 (.i 5));have b0:=NS.B9.c0;have bf0:=NS.B9.f 0;have HD4:=HD3.aI (cu.aP ((af.refl w3 c9).setCell 0 (.i 5))) om;clear hN ho NL0 HD3;go_wp2_with fail;generalize w3.setCell (jj c9 0) (.i 5)=w4 at*;clear NS b0 bf0;refine (@cT c a b off n cap X p2 w4 hn NS1.R).mono ?_;rintro e w5 ⟨k2,ek2,rfl,hk2,Rk2,Ok2⟩;have NS:=NS1.go Rk2 Ok2;have NL5:=NL1.aI Ok2 hcl;obtain⟨y,hy⟩:∃t,1+k2 % 8=t:=⟨_,rfl⟩;have hy':1+(k2:Int) % 8=(y:Int):=om
    have hyl:y<=8:=om
    have HN':=HN.out;rw[ek2,hy] at HN';have HN:=ae HN';clear HN';have JP:=fun wX=>@ah3 d y wX om om
    obtain⟨K,hK⟩:∃K,pk d (min d (y+1))=K:=⟨_,rfl⟩;rw[hK] at JP;have HN':=HN.out;rw[hK] at HN';have HN:=ae HN';clear HN';have HJ:=ae JP;clear JP hK hy ek2 Rk2 Ok2 NS1 NL1 HD4;go_wp2_with fail;refine (HJ.out w5).mono ?_;rintro e w6 ⟨rfl,sm⟩;have NS:=NS.aA (sm.since _);have NS8:=NS.aK (.i (K:Int));have NL8:=(NL5.aA (sm.since _)).m9 ((af.refl _ _).setCell 3 (.i (K:Int)));clear NL5 sm HJ;exact gb
  . have ho':(k:Int)/7 % 10=7:=om
    rw[if_neg om,if_neg om,if_neg om,if_neg om,if_pos om] at hN;have HN:=ae hN.symm;have NS1:=NS.aE (.i 6);have NL1:=(NL0.out (px X n p2)).m9 ((af.refl w3 c9).setCell 0 (.i 6));have b0:=NS.B9.c0;have bf0:=NS.B9.f 0;have HD4:=HD3.aI (cu.aP ((af.refl w3 c9).setCell 0 (.i 6))) om;clear hN ho NL0 HD3;go_wp2_with fail;generalize w3.setCell (jj c9 0) (.i 6)=w4 at*;clear NS b0 bf0;have hd0:¬(d:Int)=0:=om
    refine (@cT c a b off n cap X p2 w4 hn NS1.R).mono ?_;rintro e w5 ⟨k2,ek2,rfl,hk2,Rk2,Ok2⟩;have NS2:=NS1.go Rk2 Ok2;obtain⟨y,hy⟩:∃t,k2 % d=t:=⟨_,rfl⟩;have hy':=tm hy;have hyd:y<d:=by rw[<-hy];exact Nat.mod_lt _ om
    obtain⟨K,hK⟩:∃t,1+y=t:=⟨_,rfl⟩;have hK':1+(y:Int)=K:=om
    have hKd:K<=8:=om
    have HN':=HN.out;rw[ek2,hy,hK] at HN';have HN:=ae HN';clear HN';have NS3:=NS2.aK (.i (K:Int));have q3:=NS2.B9.c3;have qf3:=NS2.B9.f 3;clear ek2 hy Rk2 Ok2 NS1 NL1 HD4 hK;go_wp2_with fail;generalize w5.setCell (jj c9 3) (.i (K:Int))=w6 at*;clear NS2 q3 qf3;refine (@cT c a b off n cap X _ w6 hn NS3.R).mono ?_;rintro e w7 ⟨k3,ek3,rfl,hk3,Rk3,Ok3⟩;have NS4:=NS3.go Rk3 Ok3;obtain⟨y3,hy3⟩:∃t,1+k3 % 3=t:=⟨_,rfl⟩;have hy3':1+(k3:Int) % 3=(y3:Int):=om
    have HN':=HN.out;rw[ek3,hy3] at HN';have HN:=ae HN';clear HN';have NS5:=NS4.aS (.i (y3:Int));have q4:=NS4.B9.c4;have qf4:=NS4.B9.f 4;have q3:=NS4.B9.c3;obtain⟨N,hN⟩:∃N,K+1=N:=⟨_,rfl⟩;have hN':(K:Int)+1=(N:Int):=om
    have hNl:N<=9:=om
    have HN':=HN.out;rw[hN] at HN';have HN:=ae HN';clear HN';clear ek3 Rk3 Ok3 NS3 hN;go_wp2_with fail;generalize w7.setCell (jj c9 4) (.i (y3:Int))=w8 at*;clear NS4 q4 qf4 q3;refine (@qZ c a b off n cap X _ N w8 hn om NS5.R).mono ?_;rintro e w9 ⟨g,cp,xs,rfl,L5,R5,O5⟩;have zz:=NS5.B9.lt;have NS:=NS5.go R5 O5;have NS8:=NS.aO (.s g N cp);have NL8:=(NL.of (w0:=w) (c4:=w.heap.size) (c9:=c9) L5 om om om).m9 ((af.refl _ _).setCell 5 (.s g N cp));clear L5 NS5 R5 O5;exact gb
  . have ho':(k:Int)/7 % 10=8:=om
    rw[if_neg om,if_neg om,if_neg om,if_neg om,if_neg om,if_pos om] at hN;have HN:=ae hN.symm;have NS1:=NS.aE (.i 7);have NL1:=(NL0.out (px X n p2)).m9 ((af.refl w3 c9).setCell 0 (.i 7));have b0:=NS.B9.c0;have bf0:=NS.B9.f 0;have HD4:=HD3.aI (cu.aP ((af.refl w3 c9).setCell 0 (.i 7))) om;clear hN ho NL0 HD3;go_wp2_with fail;generalize w3.setCell (jj c9 0) (.i 7)=w4 at*;clear NS b0 bf0;refine (@qZ c a b off n cap X p2 4 w4 hn om NS1.R).mono ?_;rintro e w5 ⟨g,cp,xs,rfl,L5,R5,O5⟩;have zz:=NS1.B9.lt;have NS2:=NS1.go R5 O5;have NS3:=NS2.aO (.s g 4 cp);have M5:=(af.refl w5 c9).setCell 5 (.s g 4 cp);have gl:=L5.own.lt g rfl;have L6:=L5.marked M5 om (fun q h=>by omega);have z5:=O5.size;have z6:=Nat.le_of_eq M5.size.symm;have q5:=NS2.B9.c5;have qf5:=NS2.B9.f 5;clear L5 R5 O5 NS1 NL1 HD4 M5
    go_upto_region 38 with fail
    generalize w5.setCell (jj c9 5) (.s g 4 cp)=w6 at*;clear NS2 q5 qf5;have q5:=NS3.B9.c5;obtain⟨a1,a2,k1,k2,c0,c1,c2,-⟩:=L6.cells (i:=2) om;have gf:=L6.own.frozenAt;obtain⟨s2,hs2⟩:∃r,px X n p2 2=r:=⟨_,rfl⟩;simp only[hs2] at c0 c1 c2;obtain⟨fs,ns,Xs,ms,Ys⟩:=s2;simp only[Nat.reduceMul,Nat.reduceAdd] at c0 c1 c2;have hgc4:w.heap.size≠g:=om
    have hgc9:c9≠g:=om
    have hgc4':g≠w.heap.size:=om
    have hgc9':g≠c9:=om
    by_cases h0:ns=0
    . subst h0
      have L7:=ae (fun (w7:World) (s:w6.S w7) (r:br) (b1 b2:Option Addr) (l1 l2:Nat) (K:dZ w7 (fun q=>w6.heap.size<=q) r b1 b2 l1 l2) (er:rd (mkRat 2 1)=r)=>(by
       obtain⟨xs',L⟩:=(L6.aA s).put 2 (K.mv (p':=fun q=>w4.heap.size<=q/\q≠g) fun q _ h=>⟨rfl,by have:=NS3.B9.lt;omega,om⟩)
       exact⟨xs',L.congr (R':=fun i=>if i=2/\(px X n p2 2).n=0 then rd (mkRat 2 1) else px X n p2 i) (fun i _=>by
        by_cases e:i=2
        . rw[if_pos e,if_pos ⟨e,by rw[hs2]⟩,er]
        . rw[if_neg e,if_neg (fun h=>e h.1)])⟩:∃xs',fP (((w7.setCell (jj g 6) (.bool r.neg)).setCell (jj g 7) (.slice b1 r.n l1)).setCell (jj g 8) (.slice b2 r.m l2)) w4.heap.size (fun q=>w4.heap.size<=q) (.s g 4 cp) 4 (fun i=>if i=2/\(px X n p2 2).n=0 then rd (mkRat 2 1) else px X n p2 i) xs'))
      have J1:=@iC 2 1 w6.drew om om om om;obtain⟨r,hr⟩:∃r,rd (mkRat 2 (1:Int).toNat)=r:=⟨_,rfl⟩;rw[hr] at J1;have HR:Hid (rd (mkRat 2 1)=r):=ae hr;obtain⟨f2,n2,X2,m2,Y2⟩:=r;have gf6:=gf 6;have gf7:=gf 7;have gf8:=gf 8;clear hr hs2 gf;go_wp2_with fail
      go_region_held3 (fun w'=>w'.cell? (jj c9 5)=some (.s g 4 cp)) (go_keep)
       (first
         | (go_at_call 92
            with_reducible refine J1.mono ?_
            rintro e w7 ⟨b1,b2,l1,l2,rfl,K7,s7⟩;have s7':w6.S w7:=⟨s7.os,s7.tape,s7.output,s7.size,s7.block⟩;have NS7:=NS3.aA s7';have q5:=NS7.B9.c5;have c0:w7.cell? (jj g 6)=_:=(s7'.cell (a:=jj g 6) (by show g<_;omega)).trans c0;have c1:w7.cell? (jj g 7)=_:=(s7'.cell (a:=jj g 7) (by show g<_;omega)).trans c1;have c2:w7.cell? (jj g 8)=_:=(s7'.cell (a:=jj g 8) (by show g<_;omega)).trans c2;have gf6:w7.frozen? (jj g 6)=false:=(s7'.frozen (a:=jj g 6) (by show g<_;omega)).trans gf6;have gf7:w7.frozen? (jj g 7)=false:=(s7'.frozen (a:=jj g 7) (by show g<_;omega)).trans gf7;have gf8:w7.frozen? (jj g 8)=false:=(s7'.frozen (a:=jj g 8) (by show g<_;omega)).trans gf8;obtain⟨xs',LZ⟩:=L7.out w7 s7' _ b1 b2 l1 l2 K7 HR.out;have NS:=NS7.mg ((((af.refl w7 g).setCell 6 (.bool f2)).setCell 7 (.slice b1 n2 l1)).setCell 8 (.slice b2 m2 l2)) hgc4 hgc9 om))
      all_goals
       clear J1 L7 HR K7 c0 c1 c2 gf6 gf7 gf8 q5;generalize ((w7.setCell (jj g 6) (.bool f2)).setCell (jj g 7) (.slice b1 n2 l1)).setCell (jj g 8) (.slice b2 m2 l2)=w8 at*;have NS8:=NS;have NL8:=NL.of (w0:=w) (c4:=w.heap.size) (c9:=c9) LZ om om om;clear LZ NS3 NS7 L6;exact gb
    . have h0':((ns:Int)==0)=false:=by simp;omega
      have NS:=NS3;have NS8:=NS3;have NL8:=NL.of (w0:=w) (c4:=w.heap.size) (c9:=c9) (L6.congr (R':=fun i=>if i=2/\(px X n p2 2).n=0 then rd (mkRat 2 1) else px X n p2 i) (fun i _=>by rw[if_neg (fun h=>h0 (by have:=h.2;rw[hs2] at this;exact this))])) om om om;clear hs2 h0 L6 c0 c2 gf NS3;exact gb
  . have ho':(k:Int)/7 % 10=9:=om
    rw[if_neg om,if_neg om,if_neg om,if_neg om,if_neg om,if_neg om,if_pos om] at hN;have HN:=ae hN.symm;have NS1:=NS.aE (.i 1);have NL1:=(NL0.out (px X n p2)).m9 ((af.refl w3 c9).setCell 0 (.i 1));have b0:=NS.B9.c0;have bf0:=NS.B9.f 0;have HD4:=HD3.aI (cu.aP ((af.refl w3 c9).setCell 0 (.i 1))) om;clear hN ho NL0 HD3;go_wp2_with fail;generalize w3.setCell (jj c9 0) (.i 1)=w4 at*;clear NS b0 bf0;refine (@cT c a b off n cap X p2 w4 hn NS1.R).mono ?_;rintro e w5 ⟨k2,ek2,rfl,hk2,Rk2,Ok2⟩;have NS2:=NS1.go Rk2 Ok2;obtain⟨K0,hK0⟩:∃t,1+k2 % 4=t:=⟨_,rfl⟩;have hK0':1+(k2:Int) % 4=(K0:Int):=om
    have hK0l:K0<=4:=om
    have NS3:=NS2.aK (.i (K0:Int));have q3:=NS2.B9.c3;have qf3:=NS2.B9.f 3;clear ek2 Rk2 Ok2 NS1 NL1 HD4 hK0;go_wp2_with fail;generalize w5.setCell (jj c9 3) (.i (K0:Int))=w6 at*;clear NS2 q3 qf3;refine (@cT c a b off n cap X _ w6 hn NS3.R).mono ?_;rintro e w7 ⟨k3,ek3,rfl,hk3,Rk3,Ok3⟩;have NS4:=NS3.go Rk3 Ok3;obtain⟨K,hK⟩:∃t,4+k3 % 4=t:=⟨_,rfl⟩;have hK':4+(k3:Int) % 4=(K:Int):=om
    have hKl:K<=7:=om
    obtain⟨N,hN⟩:∃N,K*(d+1)=N:=⟨_,rfl⟩;have hNl:N<=63:=by rw[<-hN];exact Nat.mul_le_mul hKl (show d+1<=9 by omega)
    have hN':(K:Int)*((d:Int)+1)=(N:Int):=by rw[<-hN];simp
    have HN':=HN.out;rw[ek3,hK,hN] at HN';have HN:=ae HN';clear HN';have NS5:=NS4.aK (.i (K:Int));have q3:=NS4.B9.c3;have qf3:=NS4.B9.f 3;clear ek3 Rk3 Ok3 NS3 hN hK;go_wp2_with fail;generalize w7.setCell (jj c9 3) (.i (K:Int))=w8 at*;clear NS4 q3 qf3;refine (@qZ c a b off n cap X _ N w8 hn om NS5.R).mono ?_;rintro e w9 ⟨g,cp,xs,rfl,L5,R5,O5⟩;have zz:=NS5.B9.lt;have NS:=NS5.go R5 O5;have NS8:=NS.aO (.s g N cp);have NL8:=(NL.of (w0:=w) (c4:=w.heap.size) (c9:=c9) L5 om om om).m9 ((af.refl _ _).setCell 5 (.s g N cp));clear L5 NS5 R5 O5;exact gb
  . have x':¬(1:Int)<d:=om
    have ho':(k:Int)/7 % 10=6:=om
    rw[if_neg om,if_neg om,if_neg om,if_neg om,if_neg om,if_neg om,if_neg om,if_pos om] at hN;have HN:=ae hN.symm;have NS1:=NS.aE (.i 1);have NL1:=(NL0.out (px X n p2)).m9 ((af.refl w3 c9).setCell 0 (.i 1));have b0:=NS.B9.c0;have bf0:=NS.B9.f 0;have HD4:=HD3.aI (cu.aP ((af.refl w3 c9).setCell 0 (.i 1))) om;clear hN ho NL0 HD3;go_wp2_with fail;generalize w3.setCell (jj c9 0) (.i 1)=w4 at*;clear NS b0 bf0;refine (@cT c a b off n cap X p2 w4 hn NS1.R).mono ?_;rintro e w5 ⟨k2,ek2,rfl,hk2,Rk2,Ok2⟩;have NS2:=NS1.go Rk2 Ok2;obtain⟨K0,hK0⟩:∃t,1+k2 % 4=t:=⟨_,rfl⟩;have hK0':1+(k2:Int) % 4=(K0:Int):=om
    have hK0l:K0<=4:=om
    have NS3:=NS2.aK (.i (K0:Int));have q3:=NS2.B9.c3;have qf3:=NS2.B9.f 3;clear ek2 Rk2 Ok2 NS1 NL1 HD4 hK0;have NS4:=NS3.aK (.i 6);obtain⟨N,hN⟩:∃N,6*(d+1)=N:=⟨_,rfl⟩;have hNl:N<=54:=om
    have hN':6*((d:Int)+1)=(N:Int):=om
    have HN':=HN.out;rw[hN] at HN';have HN:=ae HN';clear HN';clear hN;go_wp2_with fail;generalize (w5.setCell (jj c9 3) (.i (K0:Int))).setCell (jj c9 3) (.i 6)=w8 at*;clear NS2 q3 qf3;refine (@qZ c a b off n cap X _ N w8 hn om NS4.R).mono ?_;rintro e w9 ⟨g,cp,xs,rfl,L5,R5,O5⟩;have zz:=NS4.B9.lt;have NS:=NS4.go R5 O5;have NS8:=NS.aO (.s g N cp);have NL8:=(NL.of (w0:=w) (c4:=w.heap.size) (c9:=c9) L5 om om om).m9 ((af.refl _ _).setCell 5 (.s g N cp));clear L5 NS4 R5 O5;exact gb
  . have ho':(k:Int)/7 % 10=(o:Int):=om
    have n2:((o:Int)==2)=false:=by simp;omega
    have n3:((o:Int)==3)=false:=by simp;omega
    have n4:((o:Int)==4)=false:=by simp;omega
    have n5:((o:Int)==5)=false:=by simp;omega
    have n6:((o:Int)==6)=false:=by simp;omega
    have n7:((o:Int)==7)=false:=by simp;omega
    have n8:((o:Int)==8)=false:=by simp;omega
    have n9:((o:Int)==9)=false:=by simp;omega
    rw[if_neg om,if_neg om,if_neg om,if_neg om,if_neg om,if_neg om,if_neg om,if_neg om] at hN;have HN:=ae hN.symm;have NS1:=NS.aE (.i 1);have NL1:=(NL0.out (px X n p2)).m9 ((af.refl w3 c9).setCell 0 (.i 1));have b0:=NS.B9.c0;have bf0:=NS.B9.f 0;have HD4:=HD3.aI (cu.aP ((af.refl w3 c9).setCell 0 (.i 1))) om;clear hN ho NL0 HD3;go_wp2_with fail;generalize w3.setCell (jj c9 0) (.i 1)=w4 at*;clear NS b0 bf0;refine (@cT c a b off n cap X p2 w4 hn NS1.R).mono ?_;rintro e w5 ⟨k2,ek2,rfl,hk2,Rk2,Ok2⟩;have NS2:=NS1.go Rk2 Ok2;obtain⟨K0,hK0⟩:∃t,1+k2 % 4=t:=⟨_,rfl⟩;have hK0':1+(k2:Int) % 4=(K0:Int):=om
    have hK0l:K0<=4:=om
    have HN':=HN.out;rw[ek2,hK0] at HN';have HN:=ae HN';clear HN';have NS3:=NS2.aK (.i (K0:Int));have q3:=NS2.B9.c3;have qf3:=NS2.B9.f 3;clear ek2 Rk2 Ok2 NS1 NL1 HD4 hK0;have q4:=NS2.B9.c4;obtain⟨N,hN⟩:∃N,K0*(d+1)=N:=⟨_,rfl⟩;have hNl:N<=36:=by rw[<-hN];exact Nat.mul_le_mul hK0l (show d+1<=9 by omega)
    have hN':(K0:Int)*((d:Int)+1)=(N:Int):=by rw[<-hN];simp
    have HN':=HN.out;rw[hN] at HN';have HN:=ae HN';clear HN';clear hN;go_wp2_with fail;generalize w5.setCell (jj c9 3) (.i (K0:Int))=w6 at*;clear NS2 q3 qf3 q4;refine (@qZ c a b off n cap X _ N w6 hn om NS3.R).mono ?_;rintro e w9 ⟨g,cp,xs,rfl,L5,R5,O5⟩;have zz:=NS3.B9.lt;have NS:=NS3.go R5 O5;have NS8:=NS.aO (.s g N cp);have NL8:=(NL.of (w0:=w) (c4:=w.heap.size) (c9:=c9) L5 om om om).m9 ((af.refl _ _).setCell 5 (.s g N cp));clear L5 NS3 R5 O5;exact gb
structure jk(w0 w:World)(c:Nat)(a:Option Addr)(b off n cap:Nat)(X:Nat->Nat)(p c4 c9:Nat)(x0 x1 x2 x3 x4 x5:Value):Prop where
 l4:w0.heap.size<=c4
 l9:w0.heap.size<=c9
 ne:c9≠c4
 lc:c<w0.heap.size
 B4:au w c4 (.int .i64 0) (.int .i64 0) (.slice none 0 0) (.slice none 0 0) (.slice none 0 0) (.int .i64 0)
 B9:au w c9 x0 x1 x2 x3 x4 x5
 R:Rp w c a b off n cap X p
 O:cu c w0 w
section
variable{w0 w w':World}{c:Nat}{a:Option Addr}{b off n cap:Nat}{X:Nat->Nat}{p p' c4 c9:Nat}{x0 x1 x2 x3 x4 x5 y0 y1 y2 y3 y4 y5:Value}
theorem jk.m9(h:jk w0 w c a b off n cap X p c4 c9 x0 x1 x2 x3 x4 x5)(M:af w w' c9)(B:au w' c9 y0 y1 y2 y3 y4 y5):jk w0 w' c a b off n cap X p c4 c9 y0 y1 y2 y3 y4 y5:=by
 have lc:=h.lc;have l9:=h.l9;exact⟨h.l4,l9,h.ne,lc,h.B4.marked M h.ne.symm,B,h.R.marked M om,jl h.O M l9⟩
theorem jk.aE(h:jk w0 w c a b off n cap X p c4 c9 x0 x1 x2 x3 x4 x5)(q:Value):jk w0 (w.setCell ⟨c9,0,none⟩ q) c a b off n cap X p c4 c9 q x1 x2 x3 x4 x5:=h.m9 ((af.refl _ _).setCell 0 q) (h.B9.aE q)
theorem jk.aG(h:jk w0 w c a b off n cap X p c4 c9 x0 x1 x2 x3 x4 x5)(q:Value):jk w0 (w.setCell ⟨c9,1,none⟩ q) c a b off n cap X p c4 c9 x0 q x2 x3 x4 x5:=h.m9 ((af.refl _ _).setCell 1 q) (h.B9.aG q)
theorem jk.aF(h:jk w0 w c a b off n cap X p c4 c9 x0 x1 x2 x3 x4 x5)(q:Value):jk w0 (w.setCell ⟨c9,2,none⟩ q) c a b off n cap X p c4 c9 x0 x1 q x3 x4 x5:=h.m9 ((af.refl _ _).setCell 2 q) (h.B9.aF q)
theorem jk.aK(h:jk w0 w c a b off n cap X p c4 c9 x0 x1 x2 x3 x4 x5)(q:Value):jk w0 (w.setCell ⟨c9,3,none⟩ q) c a b off n cap X p c4 c9 x0 x1 x2 q x4 x5:=h.m9 ((af.refl _ _).setCell 3 q) (h.B9.aK q)
theorem jk.aS(h:jk w0 w c a b off n cap X p c4 c9 x0 x1 x2 x3 x4 x5)(q:Value):jk w0 (w.setCell ⟨c9,4,none⟩ q) c a b off n cap X p c4 c9 x0 x1 x2 x3 q x5:=h.m9 ((af.refl _ _).setCell 4 q) (h.B9.aS q)
theorem jk.aO(h:jk w0 w c a b off n cap X p c4 c9 x0 x1 x2 x3 x4 x5)(q:Value):jk w0 (w.setCell ⟨c9,5,none⟩ q) c a b off n cap X p c4 c9 x0 x1 x2 x3 x4 q:=h.m9 ((af.refl _ _).setCell 5 q) (h.B9.aO q)
theorem jk.go(h:jk w0 w c a b off n cap X p c4 c9 x0 x1 x2 x3 x4 x5)(R:Rp w' c a b off n cap X p')(O:cu c w w'):jk w0 w' c a b off n cap X p' c4 c9 x0 x1 x2 x3 x4 x5:=by
 have l4:=h.l4;have l9:=h.l9;have lc:=h.lc;exact⟨l4,l9,h.ne,lc,h.B4.aI O om,h.B9.aI O om,R,h.O.trans O⟩
theorem jk.aA(h:jk w0 w c a b off n cap X p c4 c9 x0 x1 x2 x3 x4 x5)(s:w.S w'):jk w0 w' c a b off n cap X p c4 c9 x0 x1 x2 x3 x4 x5:=h.go (h.R.aA s) (cu.aC c s)
theorem au.grown{row:Option Nat}(h:au w c x0 x1 x2 x3 x4 x5)(g:w.grownBy w' row)(hr:row≠some c):au w' c x0 x1 x2 x3 x4 x5:=by
 have hb:=g.block c h.lt (fun e=>hr e.symm);exact⟨(fa (a:=jj c 0) hb).trans h.c0,(fa (a:=jj c 1) hb).trans h.c1,(fa (a:=jj c 2) hb).trans h.c2,(fa (a:=jj c 3) hb).trans h.c3,(fa (a:=jj c 4) hb).trans h.c4,(fa (a:=jj c 5) hb).trans h.c5,fun k=>(wW (a:=jj c k) hb).trans (h.f k)⟩
theorem jk.grown{row:Option Nat}(h:jk w0 w c a b off n cap X p c4 c9 x0 x1 x2 x3 x4 x5)(g:w.grownBy w' row)(hr:∀q,row=some q->w0.heap.size<=q/\q≠c4/\q≠c9):jk w0 w' c a b off n cap X p c4 c9 x0 x1 x2 x3 x4 x5:=by
 have lc:=h.lc;exact⟨h.l4,h.l9,h.ne,lc,h.B4.grown g (fun e=>(hr _ e).2.1 rfl),h.B9.grown g (fun e=>(hr _ e).2.2 rfl),h.R.grown g (fun q e=>by have:=(hr q e).1;omega),h.O.grown g (fun q e=>(hr q e).1)⟩
theorem jk.m4(h:jk w0 w c a b off n cap X p c4 c9 x0 x1 x2 x3 x4 x5)(M:af w w' c4):Rp w' c a b off n cap X p/\cu c w0 w':=by
 have l4:=h.l4;have lc:=h.lc;exact⟨h.R.marked M om,jl h.O M l4⟩
theorem jk.mg{d:Nat}(h:jk w0 w c a b off n cap X p c4 c9 x0 x1 x2 x3 x4 x5)(M:af w w' d)(h4:c4≠d)(h9:c9≠d)(hd:w0.heap.size<=d):jk w0 w' c a b off n cap X p c4 c9 x0 x1 x2 x3 x4 x5:=by
 have lc:=h.lc;exact⟨h.l4,h.l9,h.ne,lc,h.B4.marked M h4,h.B9.marked M h9,h.R.marked M om,jl h.O M hd⟩
end
def rK(w:World)(lab:Nat->Nat)(i:Nat)(xs:List Value)(d:ay):Prop:=
 ∃g cp ys,xs[i*6]?=some (.int .i64 d.op)/\xs[i*6+1]?=some (.int .i64 d.a)/\xs[i*6+2]?=some (.int .i64 d.b)/\xs[i*6+3]?=some (.int .i64 d.k)/\xs[i*6+4]?=some (.int .i64 d.s)/\xs[i*6+5]?=some (.slice (some ⟨g,0,none⟩) d.nv cp)/\fP w 0 (fun q=>lab q=0) (.slice (some ⟨g,0,none⟩) d.nv cp) d.nv d.V ys/\lab g=10+i
structure dF(w:World)(lab:Nat->Nat)(vL vH vN:Value)(nl nh nn:Nat)(Lo Hi:Nat->br)(N:Nat->ay):Prop where
 lo:∃xs,fP w 0 (fun q=>lab q=0) vL nl Lo xs
 lb:∀g,vL.ownBlock=some g->lab g=1
 hi:∃xs,fP w 0 (fun q=>lab q=0) vH nh Hi xs
 hb:∀g,vH.ownBlock=some g->lab g=2
 no:∃xs,w.ownsRow 0 48 6 vN nn xs/\∀i,i<nn->rK w lab i xs (N i)
 nb:∀g,vN.ownBlock=some g->lab g=3
section
variable{w w':World}{lab lab':Nat->Nat}{vL vH vN vL' vH' vN':Value}{nl nh nn nl' nh' nn':Nat}{Lo Hi Lo' Hi':Nat->br}{N N':Nat->ay}{xs:List Value}
theorem kU{e:TypeId}{s n lo:Nat}{v:Value}(h:w.ownsRow lo e s v n xs)(ho:∀g,v.ownBlock=some g->w'.heap[g]?=w.heap[g]?):w'.ownsRow lo e s v n xs:=by
 obtain⟨hl,h1 | ⟨g,cap,cur,rfl,hb',hh,hr⟩⟩:=h
 . exact⟨hl,Or.inl h1⟩
 . exact⟨hl,Or.inr ⟨g,cap,cur,rfl,hb',(ho g (by simp[Value.ownBlock])).trans hh,hr⟩⟩
theorem rK.mv{i:Nat}{d:ay}(h:rK w lab i xs d)(hb:∀g,g<w.heap.size->lab g=0∨lab g=10+i->w'.heap[g]?=w.heap[g]?/\lab' g=lab g):rK w' lab' i xs d:=by
 obtain⟨g,cp,ys,h0,h1,h2,h3,h4,h5,L,e⟩:=h;have hg:=(L.own.lt g rfl).2
 exact⟨g,cp,ys,h0,h1,h2,h3,h4,h5,L.mv (fun q hq=>by simp[Value.ownBlock] at hq;subst hq;exact (hb g hg (Or.inr e)).1) (fun q hq hp=>by
  have:=hb q hq (Or.inl hp);exact⟨this.1,this.2.trans hp⟩),(hb g hg (Or.inr e)).2.trans e⟩
theorem dF.mv(h:dF w lab vL vH vN nl nh nn Lo Hi N)(hb:∀g,g<w.heap.size->lab g<=3∨10<=lab g->w'.heap[g]?=w.heap[g]?/\lab' g=lab g):dF w' lab' vL vH vN nl nh nn Lo Hi N:=by
 obtain⟨x1,L1⟩:=h.lo;obtain⟨x2,L2⟩:=h.hi;obtain⟨x3,L3,N3⟩:=h.no
 have lm:∀q,q<w.heap.size->lab q=0->w'.heap[q]?=w.heap[q]?/\lab' q=0:=fun q hq hp=>by
  have:=hb q hq (Or.inl om);exact⟨this.1,this.2.trans hp⟩
 have ol:∀ {v:Value} {n:Nat} {e:TypeId} {s:Nat} {xs:List Value} {t:Nat},w.ownsRow 0 e s v n xs->t<=3->(∀g,v.ownBlock=some g->lab g=t)->(∀g,v.ownBlock=some g->w'.heap[g]?=w.heap[g]?)/\∀g,v.ownBlock=some g->lab' g=t:=fun ho ht hl=>
  ⟨fun g hg=>(hb g (ho.lt g hg).2 (Or.inl (by rw[hl g hg];exact ht))).1,fun g hg=>(hb g (ho.lt g hg).2 (Or.inl (by rw[hl g hg];exact ht))).2.trans (hl g hg)⟩
 have o1:=ol L1.own om h.lb;have o2:=ol L2.own om h.hb;have o3:=ol L3 om h.nb;exact⟨⟨x1,L1.mv o1.1 lm⟩,o1.2,⟨x2,L2.mv o2.1 lm⟩,o2.2,⟨x3,kU L3 o3.1,fun i hi=>(N3 i hi).mv fun g hg hp=>hb g hg om⟩,o3.2⟩
theorem dF.aA(h:dF w lab vL vH vN nl nh nn Lo Hi N)(s:w.S w'):dF w' lab vL vH vN nl nh nn Lo Hi N:=h.mv fun g hg _=>⟨s.block g hg,rfl⟩
theorem dF.aI{c:Nat}(h:dF w lab vL vH vN nl nh nn Lo Hi N)(s:cu c w w')(hc:lab c=9):dF w' lab vL vH vN nl nh nn Lo Hi N:=h.mv fun g hg hl=>⟨s.block g hg (fun e=>by subst e;omega),rfl⟩
theorem dF.bE{c:Nat}(h:dF w lab vL vH vN nl nh nn Lo Hi N)(s:af w w' c)(hc:lab c=9):dF w' lab vL vH vN nl nh nn Lo Hi N:=h.mv fun g _ hl=>⟨s.other g (fun e=>by subst e;omega),rfl⟩
def lu(lab:Nat->Nat)(B:Nat)(f:Nat->Nat):Nat->Nat:=fun g=>if B<=g then f g else lab g
theorem aj{B g:Nat}{f:Nat->Nat}(h:g<B):lu lab B f g=lab g:=if_neg om
theorem cX{B g:Nat}{f:Nat->Nat}(h:B<=g):lu lab B f g=f g:=if_pos h
theorem dF.lu(h:dF w lab vL vH vN nl nh nn Lo Hi N)(f:Nat->Nat){B:Nat}(hB:w.heap.size<=B):dF w (lu lab B f) vL vH vN nl nh nn Lo Hi N:=h.mv fun g hg _=>⟨rfl,aj om⟩
theorem dF.setL(h:dF w lab vL vH vN nl nh nn Lo Hi N)(hb:∀g,g<w.heap.size->lab g≠1->w'.heap[g]?=w.heap[g]?)(hl:∀g,g<w.heap.size->lab' g=lab g)(L:∃xs,fP w' 0 (fun q=>lab' q=0) vL' nl' Lo' xs)(l1:∀g,vL'.ownBlock=some g->lab' g=1):dF w' lab' vL' vH vN nl' nh nn Lo' Hi N:=by
 obtain⟨x2,L2⟩:=h.hi;obtain⟨x3,L3,N3⟩:=h.no;have m2:∀g,vH.ownBlock=some g->w'.heap[g]?=w.heap[g]?/\lab' g=2:=fun g hg=>⟨hb g (L2.own.lt g hg).2 (by rw[h.hb g hg];omega),(hl g (L2.own.lt g hg).2).trans (h.hb g hg)⟩
 have m3:∀g,vN.ownBlock=some g->w'.heap[g]?=w.heap[g]?/\lab' g=3:=fun g hg=>⟨hb g (L3.lt g hg).2 (by rw[h.nb g hg];omega),(hl g (L3.lt g hg).2).trans (h.nb g hg)⟩
 exact⟨L,l1,⟨x2,L2.mv (fun g hg=>(m2 g hg).1) (fun q hq hp=>⟨hb q hq om,(hl q hq).trans hp⟩)⟩,fun g hg=>(m2 g hg).2,⟨x3,kU L3 (fun g hg=>(m3 g hg).1),fun i hi=>(N3 i hi).mv fun g hg hp=>⟨hb g hg om,hl g hg⟩⟩,fun g hg=>(m3 g hg).2⟩
theorem dF.setH(h:dF w lab vL vH vN nl nh nn Lo Hi N)(hb:∀g,g<w.heap.size->lab g≠2->w'.heap[g]?=w.heap[g]?)(hl:∀g,g<w.heap.size->lab' g=lab g)(L:∃xs,fP w' 0 (fun q=>lab' q=0) vH' nh' Hi' xs)(l1:∀g,vH'.ownBlock=some g->lab' g=2):dF w' lab' vL vH' vN nl nh' nn Lo Hi' N:=by
 obtain⟨x2,L2⟩:=h.lo;obtain⟨x3,L3,N3⟩:=h.no;have m2:∀g,vL.ownBlock=some g->w'.heap[g]?=w.heap[g]?/\lab' g=1:=fun g hg=>⟨hb g (L2.own.lt g hg).2 (by rw[h.lb g hg];omega),(hl g (L2.own.lt g hg).2).trans (h.lb g hg)⟩
 have m3:∀g,vN.ownBlock=some g->w'.heap[g]?=w.heap[g]?/\lab' g=3:=fun g hg=>⟨hb g (L3.lt g hg).2 (by rw[h.nb g hg];omega),(hl g (L3.lt g hg).2).trans (h.nb g hg)⟩
 exact⟨⟨x2,L2.mv (fun g hg=>(m2 g hg).1) (fun q hq hp=>⟨hb q hq om,(hl q hq).trans hp⟩)⟩,fun g hg=>(m2 g hg).2,L,l1,⟨x3,kU L3 (fun g hg=>(m3 g hg).1),fun i hi=>(N3 i hi).mv fun g hg hp=>⟨hb g hg om,hl g hg⟩⟩,fun g hg=>(m3 g hg).2⟩
theorem dF.setN(h:dF w lab vL vH vN nl nh nn Lo Hi N)(hb:∀g,g<w.heap.size->lab g≠3->w'.heap[g]?=w.heap[g]?)(hl:∀g,g<w.heap.size->lab' g=lab g)(L:∃xs,w'.ownsRow 0 48 6 vN' nn' xs/\∀i,i<nn'->rK w' lab' i xs (N' i))(l1:∀g,vN'.ownBlock=some g->lab' g=3):dF w' lab' vL vH vN' nl nh nn' Lo Hi N':=by
 obtain⟨x1,L1⟩:=h.lo;obtain⟨x2,L2⟩:=h.hi;have m1:∀g,vL.ownBlock=some g->w'.heap[g]?=w.heap[g]?/\lab' g=1:=fun g hg=>⟨hb g (L1.own.lt g hg).2 (by rw[h.lb g hg];omega),(hl g (L1.own.lt g hg).2).trans (h.lb g hg)⟩
 have m2:∀g,vH.ownBlock=some g->w'.heap[g]?=w.heap[g]?/\lab' g=2:=fun g hg=>⟨hb g (L2.own.lt g hg).2 (by rw[h.hb g hg];omega),(hl g (L2.own.lt g hg).2).trans (h.hb g hg)⟩
 exact⟨⟨x1,L1.mv (fun g hg=>(m1 g hg).1) (fun q hq hp=>⟨hb q hq om,(hl q hq).trans hp⟩)⟩,fun g hg=>(m1 g hg).2,⟨x2,L2.mv (fun g hg=>(m2 g hg).1) (fun q hq hp=>⟨hb q hq om,(hl q hq).trans hp⟩)⟩,fun g hg=>(m2 g hg).2,L,l1⟩
theorem fP.app{w1:World}{v v':Value}{k t:Nat}{R:Nat->br}{a1 a2:Option Addr}{k1 k2:Nat}(h:fP w 0 (fun q=>lab q=0) v k R xs)(hv:∀g,v.ownBlock=some g->lab g=t)(ht:0<t)(s1:w.S w1)(hs:w.heap.size<w1.heap.size)(g:w1.grownBy w' v.ownBlock)
 (own:w'.ownsRow 0 44 3 v' (k+1) (xs++[.bool (R k).neg,.slice a1 (R k).n k1,.slice a2 (R k).m k2]))(hat:v'.ownBlock=v.ownBlock∨v'.ownBlock=some w1.heap.size)(r:dZ w (fun q=>lab q=0) (R k) a1 a2 k1 k2):
 (∃xs,fP w' 0 (fun q=>lu lab w.heap.size (fun _=>t) q=0) v' (k+1) R xs)/\(∀q,v'.ownBlock=some q->lu lab w.heap.size (fun _=>t) q=t)/\∀q,q<w.heap.size->lab q≠t->w'.heap[q]?=w.heap[q]?:=by
 have L:=(h.mv (w':=w) (p':=fun q=>lab q=0/\q<w.heap.size) (fun _ _=>rfl) (fun q hq hp=>⟨rfl,hp,hq⟩)).snoc (a1:=a1) (a2:=a2) (k1:=k1) (k2:=k2) s1 hs g own hat (r.mv fun q hq hp=>⟨rfl,⟨hp,hq⟩,fun e=>by have:=hv q e;omega⟩);refine⟨⟨_,L.mv (fun _ _=>rfl) (fun q _ hp=>⟨rfl,(aj hp.2).trans hp.1⟩)⟩,fun q hq=> ?_,fun q hq hl=>(g.block q om (fun e=>hl (hv q e.symm))).trans (s1.block q hq)⟩
 rcases hat with e | e
 . rw[e] at hq
   rw[aj (h.own.lt q hq).2];exact hv q hq
 . rw[e] at hq
   simp only[Option.some.injEq] at hq;exact cX om
end
structure aic(D:Nat->Nat)(m:Nat)(d:ay):Prop where
 a:0<=d.a/\d.a<m
 op:0<=d.op/\d.op<=7
 b:0<=d.b/\d.b<=1000
 k:0<=d.k/\d.k<=1000
 s:0<=d.s/\d.s<=1000
 c5:d.op=5->1<=d.k/\d.k<=1000
 c6:d.op=6->1<=d.k/\d.k<=D d.a.toNat/\1<=d.s/\d.s<=1000
 dim:1<=jR d.op d.k d.s (D d.a.toNat)/\jR d.op d.k d.s (D d.a.toNat)<=8
 nv:d.nv<=63
 V:∀i,i<d.nv->∃q,d.V i=rd q/\Qb q 11
theorem ah2(m i:Nat):pk m i<=max 1 i:=by
 induction i with
 | zero=>simp[pk]
 | succ i ih=>unfold pk;split<;>omega
theorem uo{q:Rat}{k:Nat}(h:Qb q k):(rd q).n<=k/\(rd q).m<=k:=⟨vh h.1,vh h.2⟩
section
variable{X:Nat->Nat}{n:Nat}
theorem aha(hX:∀j,j<n->X j<256)(p m:Nat)(D:Nat->Nat)(m1:1<=m)(m2:m<=13)(hD:∀j,j<m->1<=D j/\D j<=8):aic D m (nd X n p m D).1:=by
 unfold nd
 have ht:(ndA X n p m).1<m:=by
  unfold ndA
  split
  . exact Nat.mod_lt _ om
  . show m-1<m;omega
 generalize (ndA X n p m).1=t at*;generalize (ndA X n p m).2=p2;have hd:=hD t ht;have v2:=gK hX p2;have v3:=gK hX (nP n p2);have hb:=ahZ D (D t) (nV X n p2 % m);have hbm:nV X n p2 % m<m:=Nat.mod_lt _ om;have hk7:nV X n p2 % D t<D t:=Nat.mod_lt _ om;have tt:((t:Int)).toNat=t:=by simp
 unfold ndB
 split
 . exact⟨by simp;omega,qz,qz,qz,qz,qz,qz,by simp[jR];omega,qz,fun i hi=>absurd hi qz⟩
 split
 . exact⟨by simp;omega,qz,qz,qz,qz,qz,qz,by simp[jR];omega,qz,fun i _=>⟨_,rfl,(kg hX _).2⟩⟩
 split
 . refine⟨by simp;omega,qz, ?_,qz,qz,qz,qz,by simp[jR];omega,qz,fun i hi=>absurd hi qz⟩
   simp only
   split<;>omega
 split
 . have h1:=ai1 (D t) (min (D t) (1+nV X n p2 % 8+1))
   have h2:=ah2 (D t) (min (D t) (1+nV X n p2 % 8+1));generalize pk (D t) (min (D t) (1+nV X n p2 % 8+1))=K at*;refine⟨by simp;omega,qz,qz,by simp;omega,qz,fun _=>by simp;omega,qz, ?_,qz,fun i hi=>absurd hi qz⟩;have e1:1<=D t/K:=Nat.div_pos om om;have e2:D t/K<=D t:=Nat.div_le_self _ _;have e3:((D t:Int)/(K:Int))=((D t/K:Nat):Int):=by simp
   simp[jR]
   rw[e3];omega
 split
 . generalize nV X n p2 % D t=y at*
   generalize hz:nV X n (nP n p2) % 3=z at*;refine⟨by simp;omega,qz,qz,by simp;omega,by simp;omega,qz,fun _=>by simp;omega, ?_,by simp;omega,fun i _=>⟨_,rfl,(kg hX _).2⟩⟩;have e1:0<=((D t:Int)-(1+(y:Int)))/(1+(z:Int)):=Int.ediv_nonneg om om;have e2:((D t:Int)-(1+(y:Int)))/(1+(z:Int))<=(D t:Int)-(1+(y:Int)):=Int.ediv_le_self _ om
   simp[jR]
   omega
 split
 . refine⟨by simp;omega,qz,qz,qz,qz,qz,qz,by simp[jR];omega,qz,fun i _=> ?_⟩
   simp only
   split
   . exact⟨_,rfl,(pJ (z:=2) (d:=1) (k:=1) qd qd qd).more om⟩
   . exact⟨_,rfl,(kg hX _).2⟩
 split
 . have h:(4+nV X n (nP n p2) % 4)*(D t+1)<=7*9:=Nat.mul_le_mul om om
   exact⟨by simp;omega,qz,qz,by simp;omega,qz,qz,qz,by simp[jR];omega,h,fun i _=>⟨_,rfl,(kg hX _).2⟩⟩
 split
 . exact⟨by simp;omega,qz,qz,qz,qz,qz,qz,by simp[jR],by simp;omega,fun i _=>⟨_,rfl,(kg hX _).2⟩⟩
 . have h:(1+nV X n p2 % 4)*(D t+1)<=4*9:=Nat.mul_le_mul om om
   exact⟨by simp;omega,qz,qz,by simp;omega,qz,qz,qz,by simp[jR];omega,Nat.le_trans h qd,fun i _=>⟨_,rfl,(kg hX _).2⟩⟩
end
def pE(X:Nat->Nat)(n p:Nat):Nat->Nat
 | 0=>p
 | i+1=>(sd X n (pE X n p i)).2
def sdL(X:Nat->Nat)(n p i:Nat):br:=rd (sd X n (pE X n p i)).1.1
def sdH(X:Nat->Nat)(n p i:Nat):br:=rd (sd X n (pE X n p i)).1.2
def gS(X:Nat->Nat)(n p K:Nat):Nat->(Nat->Nat)×Nat
 | 0=>(fun _=>K,p)
 | i+1=>(fun j=>if j<=i then (gS X n p K i).1 j else (jR (nd X n (gS X n p K i).2 (i+1) (gS X n p K i).1).1.op (nd X n (gS X n p K i).2 (i+1) (gS X n p K i).1).1.k (nd X n (gS X n p K i).2 (i+1) (gS X n p K i).1).1.s ((gS X n p K i).1 (nd X n (gS X n p K i).2 (i+1) (gS X n p K i).1).1.a.toNat)).toNat,
    (nd X n (gS X n p K i).2 (i+1) (gS X n p K i).1).2)
def gN(X:Nat->Nat)(n p K i:Nat):ay:=(nd X n (gS X n p K i).2 (i+1) (gS X n p K i).1).1
def gC(X:Nat->Nat)(n p K most:Nat):Nat->Nat->Nat
 | 0,i=>i
 | f+1,i=>if i<most/\(i<2∨0<n-(gS X n p K i).2) then gC X n p K most f (i+1) else i
theorem acz{X:Nat->Nat}{n:Nat}(hX:∀j,j<n->X j<256)(p K:Nat)(hK:1<=K/\K<=8):∀i,i<=12->∀j,j<i+1->1<=(gS X n p K i).1 j/\(gS X n p K i).1 j<=8
 | 0,_,_,_=>hK
 | i+1,hi,j,hj=>by
   have ih:=acz hX p K hK i om
   show 1<=(if j<=i then _ else _)/\(if j<=i then _ else _)<=8
   split
   . exact ih j om
   . have:=(aha hX (gS X n p K i).2 (i+1) (gS X n p K i).1 om om ih).dim
     omega
theorem afb{X:Nat->Nat}{n:Nat}(hX:∀j,j<n->X j<256)(p K:Nat)(hK:1<=K/\K<=8)(i:Nat)(hi:i<=12):aic (gS X n p K i).1 (i+1) (gN X n p K i):=
 aha hX (gS X n p K i).2 (i+1) (gS X n p K i).1 om om (acz hX p K hK i hi)
end Go.Proofs.YtclgkofcooibfaaGreatDoor
