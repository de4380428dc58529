import Derived.Test.YtclgkofcooibfaaGreatDoorOwnP36
import Derived.Test.YtclgkofcooibfaaGreatDoorOwnP31
set_option maxHeartbeats 6400000
set_option maxRecDepth 100000
namespace Go.Proofs.YtclgkofcooibfaaGreatDoor
open Go.RowKit
theorem ss{g:ax}{aL aH aN:Option Addr}{lo kL kH kN:Nat}{w:World}(hd:g.size<=1048576)(H:gj w lo g aL aH aN kL kH kN):
 Cl 32 #[.agg #[.i g.inn,.i g.rounds,.slice aL g.nl kL,.slice aH g.nh kH,.slice aN g.nn kN,.i g.out]] w fun e w'=>(∃n X c a,wh g n X c a/\e=.returned (.bool (decide (c=0))))/\w.S w':=by
 have sA:=bJ w (.cells #[.i g.inn,.i g.rounds,.slice aL g.nl kL,.slice aH g.nh kH,.slice aN g.nn kN,.i g.out] 26);have bA:=au.new w (.i g.inn) (.i g.rounds) (.slice aL g.nl kL) (.slice aH g.nh kH) (.slice aN g.nn kN) (.i g.out) 26;go_enter Tryz.func32,Tryz.ntmps32;go_wp2_with fail;generalize w.alloc _=wA at*;refine (j9 hd (H.aA sA)).mono ?_;rintro e w0 ⟨⟨n,X,c,a,ad,cap,b,rfl,O,-⟩,s0⟩;have S0:=sA.tr s0;have O:=ae O
 by_cases hc:c=0
 . subst hc
   go_wp2;go_ret;exact⟨⟨n,X,0,a,O.out,qz⟩,S0⟩
 . go_wp2
   go_ret;exact⟨⟨n,X,c,a,O.out,by simp[hc]⟩,S0⟩
theorem qS{g:ax}{aL aH aN:Option Addr}{lo kL kH kN:Nat}{w:World}(hd:g.size<=1048576)(H:gj w lo g aL aH aN kL kH kN)(hno:¬jO g):
 Cl 8 #[.agg #[.i g.inn,.i g.rounds,.slice aL g.nl kL,.slice aH g.nh kH,.slice aN g.nn kN,.i g.out]] w fun e w'=>e=.returned (.string ⟨#[]⟩)/\w.S w':=by
 have sA:=bJ w (.cells #[.i g.inn,.i g.rounds,.slice aL g.nl kL,.slice aH g.nh kH,.slice aN g.nn kN,.i g.out] 26);have bA:=au.new w (.i g.inn) (.i g.rounds) (.slice aL g.nl kL) (.slice aH g.nh kH) (.slice aN g.nn kN) (.i g.out) 26;go_enter Tryz.func8,Tryz.ntmps8;go_wp2_with fail;generalize w.alloc _=wA at*;refine (ss hd (H.aA sA)).mono ?_;rintro e w1 ⟨⟨n,Y,c,a,O,rfl⟩,s1⟩
 have q:decide (c=0)=false:=by
  simp only[decide_eq_false_iff_not];intro e;subst e;exact hno (jO.of O)
 rw[q];go_wp2;go_ret;exact⟨rfl,sA.tr s1⟩
def jE(g:ax):List UInt8:=[103,114,97,112,104,32]++(bu g.inn++(32::(bu g.rounds++[10])))
theorem ro(g:ax):ei g=jE g++(kj g g.inn.toNat++(eS g g.nn++([111,117,116,112,117,116,32]++(bu g.out++[10])))):=by
 unfold ei jE;simp
structure afF(g:ax):Prop where
 head:(jE g).length<=200
 box:∀j:Nat,(j:Int)<=g.inn->(kj g j).length<=100000000
 nodes:∀k,k<=g.nn->(eS g k).length<=100000000
 node:∀k,k<g.nn->(jr (g.N k)).length<=100000000
 out:(bu g.out).length<=65
 lo:∀j:Nat,(j:Int)<g.inn->(g.Lo j).aX.length<=100000000
 hi:∀j:Nat,(j:Int)<g.inn->(g.Hi j).aX.length<=100000000
theorem afF.of{g:ax}{aL aH aN:Option Addr}{lo kL kH kN:Nat}{w:World}(E:jO g)(hd:g.size<=1048576)(H:gj w lo g aL aH aN kL kH kN):afF g:=by
 have hp:=E.head;have i1:=hp.i1;have i2:=hp.i2;have r1:=hp.r1;have el:=hp.l;have eh:=hp.h;have nn:=hp.n;have o1:=E.o1;unfold ax.size at hd;obtain⟨bL,oL,-,LL⟩:=H.LL;obtain⟨bH,oH,-,LH⟩:=H.LH;obtain⟨bN,oN,-,LN⟩:=H.LN
 have hN:∀k,k<g.nn->(jr (g.N k)).length<=37*(g.N k).size+271:=fun k hk=>by
  obtain⟨-,a1,k1,M⟩:=LN k hk;obtain⟨ba,oa,-,LV⟩:=M.L.LV;exact ae1 M.L.ia.2 M.L.ib.2 M.L.ik.2 M.L.is.2 LV.aU
 refine⟨?_,fun j hj=> ?_,fun k hk=> ?_,fun k hk=> ?_,dq om,fun j hj=> ?_,fun j hj=> ?_⟩
 . have h1:=dq (show g.inn<=9223372036854775807 by omega)
   have h2:=dq (show g.rounds<=9223372036854775807 by omega);unfold jE;simp only[List.length_append,List.length_cons,List.length_nil];omega
 . have h1:=agH (g:=g) (j:=j) (fun c hc=>LL.aU c om) (fun c hc=>LH.aU c om)
   have h2:=pz (R:=g.Lo) (show j<=g.nl by omega);have h3:=pz (R:=g.Hi) (show j<=g.nh by omega);omega
 . have h1:=ade (g:=g) (k:=k) (fun j hj=>hN j om)
   have h2:=uh (A:=g.N) hk;omega
 . have h1:=hN k hk
   have h2:=qQ (A:=g.N) hk;omega
 . have h1:=py (LL.aU j om)
   have h2:=gY (R:=g.Lo) (show j<g.nl by omega);omega
 . have h1:=py (LH.aU j om)
   have h2:=gY (R:=g.Hi) (show j<g.nh by omega);omega
theorem pC{g:ax}{bL oL bH oH:Nat}{aN:Option Addr}{lo kL kH kN:Nat}{w:World}(hd:g.size<=1048576)(H:gj w lo g (jp bL oL) (jp bH oH) aN kL kH kN)(E:jO g)
 (LL:fw w lo (jp bL oL) bL oL g.nl g.Lo)(LH:fw w lo (jp bH oH) bH oH g.nh g.Hi):
 Cl 8 #[.agg #[.i g.inn,.i g.rounds,.slice (jp bL oL) g.nl kL,.slice (jp bH oH) g.nh kH,.slice aN g.nn kN,.i g.out]] w fun e w'=>e=.returned (.string ⟨(ei g).toArray⟩)/\w.S w':=by
 have TP:=ae (afF.of E hd H);have sA:=bJ w (.cells #[.i g.inn,.i g.rounds,.slice (jp bL oL) g.nl kL,.slice (jp bH oH) g.nh kH,.slice aN g.nn kN,.i g.out] 26);have bA:=au.new w (.i g.inn) (.i g.rounds) (.slice (jp bL oL) g.nl kL) (.slice (jp bH oH) g.nh kH) (.slice aN g.nn kN) (.i g.out) 26;have i1:=E.head.i1;have i2:=E.head.i2;have r0:=E.head.r0;have r1:=E.head.r1;have el:=E.head.l;have eh:=E.head.h;have o0:=E.o0;have o1:=E.o1;have nn:=E.head.n;have ts:=hd;unfold ax.size at ts;have y1:=dq (show g.inn<=9223372036854775807 by omega);have y2:=dq (show g.rounds<=9223372036854775807 by omega);have x0:6+(bu g.inn).length<=9223372036854775807:=om
 have u0:¬9223372036854775807<6+(bu g.inn).length:=om
 have x1:6+(bu g.inn).length+1<=9223372036854775807:=om
 have u1:¬9223372036854775807<6+(bu g.inn).length+1:=om
 have x2:6+(bu g.inn).length+1+(bu g.rounds).length<=9223372036854775807:=om
 have u2':¬9223372036854775807<6+(bu g.inn).length+1+(bu g.rounds).length:=om
 have x3:6+(bu g.inn).length+1+(bu g.rounds).length+1<=9223372036854775807:=om
 have u3':¬9223372036854775807<6+(bu g.inn).length+1+(bu g.rounds).length+1:=om
 have EV:=ae E;clear E;go_enter Tryz.func8,Tryz.ntmps8;go_wp2_with fail;generalize w.alloc _=wA at*;refine (@ss g _ _ aN lo kL kH kN wA hd (H.aA sA)).mono ?_;rintro e w1 ⟨⟨n,Y,c,a,O,rfl⟩,s1⟩;obtain rfl:c=0:=EV.out.zero O;rw[show decide ((0:Int)=0)=true from rfl];clear O;have S1:=sA.tr s1;have B1:=bA.aA s1;have q0:=B1.c0;have q1:=B1.c1;have dr:=sT w1;have J1:=@ft g.inn w1.drew om om;go_wp2_with fail
 go_region_held3 (fun w'=>w'.cell? (jj w.heap.size 0)=some (.i g.inn)/\w'.cell? (jj w.heap.size 1)=some (.i g.rounds)) (go_keep)
  (first
    | (go_at_call 33
       with_reducible refine J1.mono ?_
       rintro e w2 ⟨rfl,s2⟩;have u2:=dr.tr s2;have p0:=(B1.aA u2).c0;have p1:=(B1.aA u2).c1;have J2:=@ft g.rounds w2 r0 om)
    | (go_at_call 33
       with_reducible refine J2.mono ?_
       rintro e w3 ⟨rfl,s3⟩;have u3:=u2.tr s3;have t0:=(B1.aA u3).c0;have t1:=(B1.aA u3).c1))
 have U3:=s1.tr u3;have e0:jE g=[103,114,97,112,104,32]++(bu g.inn++(32::(bu g.rounds++[10]))):=rfl;have E0:=ae e0;clear q0 q1 p0 p1 t0 t1 J1 J2 e0 x0 u0 x1 u1 x2 u2' x3 u3' y1 y2;go_wp2_with fail
 go_loopw [3,4] (fun u i wr=>∃k:Nat,(k:Int)<=g.inn/\i=.i (k:Int)/\u=.string ⟨(jE g++kj g k).toArray⟩/\wA.S wr) (fun _ i _=>g.inn.toNat-(intOf i).toNat)
 case atStart=>exact⟨0,om,rfl,by rw[E0.out];simp[eE,kj],U3⟩
 case round=>
  obtain⟨k,hk,rfl,rfl,s⟩:=hrel;have B:=bA.aA s;have SS:=sA.tr s;have q0:=B.c0;have hl0:=TP.out.head;have hl1:=TP.out.box k hk
  by_cases hlt:(k:Int)<g.inn
  . obtain⟨-,a1,a2,k1,k2,ML⟩:=LL k om
    obtain⟨-,c1,c2,m1,m2,MH⟩:=LH k om;have okL:=EV.out.head.okL k om;have okH:=EV.out.head.okH k om;have szL:(g.Lo k).n+(g.Lo k).m<=1048576:=by have:=gY (R:=g.Lo) (n:=g.nl) (k:=k) om;omega
    have szH:(g.Hi k).n+(g.Hi k).m<=1048576:=by have:=gY (R:=g.Hi) (n:=g.nh) (k:=k) om;omega
    have tl:=TP.out.lo k hlt;have th:=TP.out.hi k hlt;have dr:=sT wr;have SD:=SS.tr dr;have J1:=uL (ML.aA SD).L okL szL;obtain⟨T1,hT1⟩:∃T,(g.Lo k).aX=T:=⟨_,rfl⟩;obtain⟨T2,hT2⟩:∃T,(g.Hi k).aX=T:=⟨_,rfl⟩;obtain⟨X,hX⟩:∃X,jE g++kj g k=X:=⟨_,rfl⟩;have hXl:X.length<=100000200:=by rw[<-hX,List.length_append];omega
    rw[hT1] at J1 tl;rw[hT2] at th;rw[hX];have HE:Hid (jE g++kj g (k+1)=X++([98,111,120,32]++(T1++(32::(T2++[10]))))):=ae (by rw[<-hX,kj,hT1,hT2,List.append_assoc]);have HT2:=ae hT2;clear hX hT1 hT2;have lx0:X.length+4<=9223372036854775807:=om
    have ln0:¬9223372036854775807<X.length+4:=om
    have lx1:X.length+4+T1.length<=9223372036854775807:=om
    have ln1:¬9223372036854775807<X.length+4+T1.length:=om
    have lx2:X.length+4+T1.length+1<=9223372036854775807:=om
    have ln2:¬9223372036854775807<X.length+4+T1.length+1:=om
    have lx3:X.length+4+T1.length+1+T2.length<=9223372036854775807:=om
    have ln3:¬9223372036854775807<X.length+4+T1.length+1+T2.length:=om
    have lx4:X.length+4+T1.length+1+T2.length+1<=9223372036854775807:=om
    have ln4:¬9223372036854775807<X.length+4+T1.length+1+T2.length+1:=om
    have M1:=ML.aA SS;have M2:=MH.aA SS;have q2:=B.c2;have q3:=B.c3;obtain⟨g0,g1,g2⟩:=M1.g;obtain⟨h0,h1,h2⟩:=M2.g;have hzl:(k:Int)<(g.nl:Int):=om
    have hzh:(k:Int)<(g.nh:Int):=om
    clear M1 M2 hl0 hl1;go_wp2_with fail
    go_region_held3 (fun w'=>w'.cell? (jj w.heap.size 2)=some (.slice (jp bL oL) g.nl kL)/\w'.cell? (jj w.heap.size 3)=some (.slice (jp bH oH) g.nh kH)/\w'.cell? (jj bL (oL+k*3))=some (.bool (g.Lo k).neg)/\w'.cell? (jj bL (oL+k*3+1))=some (.slice a1 (g.Lo k).n k1)/\w'.cell? (jj bL (oL+k*3+2))=some (.slice a2 (g.Lo k).m k2)/\
     w'.cell? (jj bH (oH+k*3))=some (.bool (g.Hi k).neg)/\w'.cell? (jj bH (oH+k*3+1))=some (.slice c1 (g.Hi k).n m1)/\w'.cell? (jj bH (oH+k*3+2))=some (.slice c2 (g.Hi k).m m2)) (go_keep)
     (first
       | (go_at_call 34
          with_reducible refine J1.mono ?_
          rintro e w4 ⟨rfl,s4⟩;have v4:=dr.tr s4;have S4:=SS.tr v4;have B4:=B.aA v4;have j2:=B4.c2;have j3:=B4.c3;obtain⟨i0,i1,i2⟩:=(ML.aA S4).g;obtain⟨l0,l1,l2⟩:=(MH.aA S4).g;have J2:=uL (MH.aA S4).L okH szH;rw[HT2.out] at J2)
       | (go_at_call 34
          with_reducible refine J2.mono ?_
          rintro e w5 ⟨rfl,s5⟩;have v5:=v4.tr s5;have S5:=SS.tr v5;have B5:=B.aA v5;have j2':=B5.c2;have j3':=B5.c3;obtain⟨i0',i1',i2'⟩:=(ML.aA S5).g;obtain⟨l0',l1',l2'⟩:=(MH.aA S5).g))
    all_goals clear q0 q2 q3 g0 g1 g2 h0 h1 h2 j2 j3 i0 i1 i2 l0 l1 l2 j2' j3' i0' i1' i2' l0' l1' l2' J1 J2
    all_goals go_wp2
    all_goals go_roundw
    case rel=>exact⟨k+1,om,by go_num,by rw[HE.out];simp[eE],s.tr v5⟩
    case measure=>simp[intOf];omega
  . have ek:(k:Int)=g.inn:=om
    have ek2:k=g.inn.toNat:=om
    subst ek2;clear ek hlt;have hz0:¬((g.inn.toNat:Int)<g.inn):=om
    obtain⟨Y0,hY0⟩:∃Y,jE g++kj g g.inn.toNat=Y:=⟨_,rfl⟩;have hYl:Y0.length<=100000200:=by rw[<-hY0,List.length_append];omega
    rw[hY0];have HY:=ae hY0;clear hY0 hl0 hl1;go_wp2_with fail
    go_loopw [3,5] (fun u i wr=>∃k:Nat,k<=g.nn/\i=.i (k:Int)/\u=.string ⟨(Y0++eS g k).toArray⟩/\wA.S wr) (fun _ i _=>g.nn-(intOf i).toNat)
    case atStart=>exact⟨0,om,rfl,by simp[eS],s⟩
    case round=>
     obtain⟨k,hk,rfl,rfl,s⟩:=hrel;have B:=bA.aA s;have SS:=sA.tr s;have q4:=B.c4;have hl1:=TP.out.nodes k hk
     by_cases hlt:k<g.nn
     . obtain⟨bN,oN,-,LN⟩:=H.LN
       obtain⟨ea,a1,k1,M⟩:=LN k hlt;subst ea;obtain⟨f,ha,hb⟩:=EV.out.at_ hlt;have hsz:(g.N k).size<=1048576:=by have:=qQ (A:=g.N) hlt;omega
       have hlt':(k:Int)<(g.nn:Int):=om
       have tn:=TP.out.node k hlt;obtain⟨T1,hT1⟩:∃T,jr (g.N k)=T:=⟨_,rfl⟩;obtain⟨X,hX⟩:∃X,Y0++eS g k=X:=⟨_,rfl⟩;have hXl:X.length<=300000200:=by rw[<-hX,List.length_append];omega
       have M1:=M.aA SS;have J1:=@xR (g.N k) a1 lo k1 wr f ha hb hsz M1.L;rw[hT1] at tn J1;rw[hX];have HE:Hid (Y0++eS g (k+1)=X++(T1++[10])):=ae (by rw[<-hX,eS,hT1,List.append_assoc]);clear hX hT1 hl1;have lx0:X.length+T1.length<=9223372036854775807:=om
       have ln0:¬9223372036854775807<X.length+T1.length:=om
       have lx1:X.length+T1.length+1<=9223372036854775807:=om
       have ln1:¬9223372036854775807<X.length+T1.length+1:=om
       obtain⟨g0,g1,g2,g3,g4,g5⟩:=M1.g;clear M1;go_wp2_with fail;refine J1.mono ?_;rintro e w4 ⟨rfl,s4⟩;have v4:=s.tr s4;clear g0 g1 g2 g3 g4 g5 J1 q4;go_wp2;go_roundw
       case rel=>exact⟨k+1,om,by go_num,by rw[HE.out];simp[eE],v4⟩
       case measure=>simp[intOf];omega
     . have ek:k=g.nn:=om
       subst ek;have hz1:¬((g.nn:Int)<(g.nn:Int)):=om
       have q5:=B.c5;have to:=TP.out.out;obtain⟨X,hX⟩:∃X,Y0++eS g g.nn=X:=⟨_,rfl⟩;have hXl:X.length<=300000200:=by rw[<-hX,List.length_append];omega
       rw[hX];have HE:Hid (ei g=X++([111,117,116,112,117,116,32]++(bu g.out++[10]))):=ae (by rw[ro,<-hX,<-HY.out];simp);clear hX hl1;have lx0:X.length+7<=9223372036854775807:=om
       have ln0:¬9223372036854775807<X.length+7:=om
       have lx1:X.length+7+(bu g.out).length<=9223372036854775807:=om
       have ln1:¬9223372036854775807<X.length+7+(bu g.out).length:=om
       have lx2:X.length+7+(bu g.out).length+1<=9223372036854775807:=om
       have ln2:¬9223372036854775807<X.length+7+(bu g.out).length+1:=om
       go_wp2_with fail;refine (@ft g.out wr o0 om).mono ?_;rintro e w4 ⟨rfl,s4⟩;clear q4 q5;go_wp2;go_ret;exact⟨by rw[HE.out];simp[eE],SS.tr s4⟩
theorem qR{g:ax}{aL aH aN:Option Addr}{lo kL kH kN:Nat}{w:World}(hd:g.size<=1048576)(H:gj w lo g aL aH aN kL kH kN)(E:jO g):
 Cl 8 #[.agg #[.i g.inn,.i g.rounds,.slice aL g.nl kL,.slice aH g.nh kH,.slice aN g.nn kN,.i g.out]] w fun e w'=>e=.returned (.string ⟨(ei g).toArray⟩)/\w.S w':=by
 have i1:=E.head.i1;have el:=E.head.l;have eh:=E.head.h;obtain⟨bL,oL,-,LL⟩:=H.LL;obtain⟨bH,oH,-,LH⟩:=H.LH;have eL:=(LL 0 om).1;have eH:=(LH 0 om).1;subst eL eH;exact pC hd H E LL LH
end Go.Proofs.YtclgkofcooibfaaGreatDoor
