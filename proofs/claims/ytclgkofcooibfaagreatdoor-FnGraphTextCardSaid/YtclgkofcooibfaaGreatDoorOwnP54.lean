import Derived.Test.YtclgkofcooibfaaGreatDoorOwnP49
import Derived.Test.YtclgkofcooibfaaGreatDoorOwnP53
import Derived.Test.YtclgkofcooibfaaGreatDoorOwnP48
set_option maxHeartbeats 6400000
set_option maxRecDepth 100000
namespace Go.Proofs.YtclgkofcooibfaaGreatDoor
open Go.RowKit
theorem aeZ{a:Option Addr}{b off n cap:Nat}{X:Nat->Nat}{w:World}(hP:Pow w)(hn:n<=1048576)(hC:Code w a b off n X):
 Cl 3 #[.slice a n cap] w fun e w'=>e=.returned (.bool true)/\w.S w':=by
 have hd:=aiP (fun j hj=>(hC j hj).1) 0;have JD:=fun w h=>@ab7 a b off n cap X w om h
 obtain⟨g,hg⟩:∃g,anG X n 0=g:=⟨_,rfl⟩;rw[hg] at hd JD;have HD:=ae JD;clear hg JD;go_enter Tryz.func3,Tryz.ntmps3;go_wp2_with fail;refine (HD.out w hC).mono ?_;rintro e w1 ⟨u,rfl,⟨aL,aH,aN,kL,kH,kN,rfl,L1⟩,s1⟩;have sB:=bJ w1 (.cells #[.i g.inn,.i g.rounds,.slice aL g.nl kL,.slice aH g.nh kH,.slice aN g.nn kN,.i g.out] 26);have bB:=au.new w1 (.i g.inn) (.i g.rounds) (.slice aL g.nl kL) (.slice aH g.nh kH) (.slice aN g.nn kN) (.i g.out) 26;obtain⟨c0,c1,c2,c3,c4,c5⟩:=bB.g;go_wp2_with fail;generalize w1.alloc _=w2 at*;refine (@j9 g aL aH aN _ kL kH kN w2 hd (L1.aA sB)).mono ?_;rintro e w3 ⟨⟨n',Y,c,q,ad,cp,b',rfl,O,-,-⟩,s3⟩;have S2:=s1.tr sB;have S3:=S2.tr s3;have L3:=(L1.aA sB).aA s3;have B3:=bB.aA s3;clear c0 c1 c2 c3 c4 c5 bB;go_wp2_with fail;refine (HD.out w3 (hC.aA S3)).mono ?_;rintro e w4 ⟨u,rfl,⟨bL,bH,bN,lL,lH,lN,rfl,L4⟩,s4⟩;have S4:=S3.tr s4;have B4:=B3.aA s4;have L3:=L3.aA s4;go_wp2_with fail;refine (qe g bL bH bN _ lL lH lN w4 (hP.stay S4) hd L4).mono ?_;rintro e w5 ⟨rfl,s5⟩;have S5:=S4.tr s5;have B5:=B4.aA s5;have L5:=L3.aA s5;clear L4 B3 B4
 by_cases hc:c=0
 rotate_left
 . have hv:¬jO g:=fun E=>hc (E.zero O)
   rw[yb,if_neg hv];go_wp2;go_ret;exact⟨rfl,S5⟩
 subst hc;have E:=jO.of O;rw[yb,if_pos E];obtain⟨c0,c1,c2,c3,c4,c5⟩:=B5.g;go_wp2_with fail;refine (pD g aL aH aN _ kL kH kN w5 hd L5).mono ?_;rintro e w6 ⟨rfl,s6⟩;rw[yb,if_pos E];have S6:=S5.tr s6;have B6:=B5.aA s6;have L6:=L5.aA s6;clear c0 c1 c2 c3 c4 c5 B5 L5;have TP:=afF.of E hd L6
 have hz:(jv (ei g)).size<=9223372036854775807:=by
  have h1:=TP.head;have h2:=TP.box g.inn.toNat (by have:=E.head.i1;omega);have h3:=TP.nodes g.nn (Nat.le_refl _);have h4:=TP.out;rw[show (jv (ei g)).size=(ei g).length from rfl,ro];simp only[List.length_append,List.length_cons,List.length_nil];omega
 clear TP;go_wp2_with fail;refine (@yX (jv (ei g)) w6 hz).mono ?_;rintro e w7 ⟨yi,yr,yL,yl,ym,yH,yh,yk,yN,yn,yp,yo,c,m,rfl,hf,s7⟩;have S7:=S6.tr s7;have B7:=B6.aA s7;have L7:=L6.aA s7;clear B6 L6;go_wp2_with fail;have sC:=bJ w7 (.cells #[.i yi,.i yr,.slice yL yl ym,.slice yH yh yk,.slice yN yn yp,.i yo] 26);generalize w7.alloc _=w8 at*;have S8:=S7.tr sC;have B8:=B7.aA sC;have L8:=L7.aA sC;clear B7 L7;have lL:∀i,i<g.nl->(g.Lo i).aU:=by obtain⟨_,_,_,h⟩:=L8.LL;exact h.aU
 have lH:∀i,i<g.nh->(g.Hi i).aU:=by obtain⟨_,_,_,h⟩:=L8.LH;exact h.aU
 have lV:∀k,k<g.nn->∀i,i<(g.N k).nv->((g.N k).V i).aU:=fun k hk=>by
  obtain⟨_,_,_,h⟩:=L8.LN;obtain⟨_,_,_,M⟩:=h k hk;obtain⟨_,_,_,h⟩:=M.L.LV;exact h.aU
 refine (@aao g w8 hz E lL lH lV).mono ?_;rintro e w9 ⟨s9,⟨hF,zi,zr,zL,zl,zm,zH,zh,zk,zN,zn,zp,zo,c',m',rfl,hc'⟩ | ⟨hF,dL,dH,dN,mL,mH,mN,rfl,G9⟩⟩
 . have hc0:c≠0:=fun h=>hF (hf.1 h)
   have S9:=S8.tr s9;have hb:(ei g).isEmpty=false:=by rw[ei];rfl
   have hq:(c' != 0)=true:=by simp[hc']
   go_wp2;go_ret;exact⟨rfl,S9.alloc S9.size _⟩
 . have hc0:c=0:=hf.2 hF
   subst hc0;clear hf hF lL lH lV E O;have S9:=S8.tr s9;have sF:=bJ w9 (.cells #[.i g.inn,.i g.rounds,.slice dL g.nl mL,.slice dH g.nh mH,.slice dN g.nn mN,.i g.out] 26);have BF:=(B8.aA s9).aA sF;obtain⟨c0,c1,c2,c3,c4,c5⟩:=BF.g;go_wp2_with fail;refine (@zj g dL dH dN aL aH aN 0 mL mH mN w.heap.size kL kH kN _ hd (G9.aA sF) ((L8.aA s9).aA sF)).mono ?_;rintro e wG ⟨rfl,sG⟩;have SF:=S9.tr sF;clear c0 c1 c2 c3 c4 c5;go_wp2;go_ret;exact⟨rfl,SF.tr sG⟩
theorem vT{a:Option Addr}{n cap:Nat}{w:World}(hn:1048576<n)(hn':n<=9223372036854775807):
 Cl 3 #[.slice a n cap] w fun e w'=>e=.returned (.bool true)/\w.S w':=by
 have h:(1048576:Int)<n:=om
 go_enter Tryz.func3,Tryz.ntmps3;go_wp2;go_ret;exact⟨rfl,eg _ _⟩
end Go.Proofs.YtclgkofcooibfaaGreatDoor
