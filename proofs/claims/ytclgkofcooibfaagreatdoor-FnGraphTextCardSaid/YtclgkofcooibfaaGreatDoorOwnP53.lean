import Derived.Test.YtclgkofcooibfaaGreatDoorOwnP52
import Derived.Test.YtclgkofcooibfaaGreatDoorOwnP40
set_option maxHeartbeats 6400000
set_option maxRecDepth 100000
namespace Go.Proofs.YtclgkofcooibfaaGreatDoor
open Go.RowKit
theorem mW{T e:TypeId}{B b:Nat}{bs:List Value}{w w':World}(h:Lib.IsBuilder T e B b bs w)(s:w.S w'):Lib.IsBuilder T e B b bs w':=by
 have one:∀p,Lib.BuilderAt T e B b p bs w->Lib.BuilderAt T e B b p bs w':=fun p h=>by
  have hl:=h.lt;obtain⟨hB,v,hb,hown,hne⟩:=h;exact⟨hB,v,(s.block b hl).trans hb,kD hown s,hne⟩
 exact h.imp (one _) (one _)
theorem dg.aI{w w':World}{e:TypeId}{b m:Nat}(h:dg w m)(k:Lib.OthersKept e (some b) w w')(hb:m≠b):dg w' m:=
 k m _ h (by simpa using hb) (fun c fz he=>by cases he)
theorem agI{w w':World}{e T:TypeId}{b n:Nat}{cs:Array Value}{fz:Nat×Nat}(h:w.heap[n]?=some (.cells cs T fz))(k:Lib.OthersKept e (some b) w w')(hb:n≠b)(hT:T≠e):w'.heap[n]?=some (.cells cs T fz):=
 k n _ h (by simpa using hb) (fun c fz' he=>by
  simp only[Obj.cells.injEq] at he;exact hT he.2.1)
end Go.Proofs.YtclgkofcooibfaaGreatDoor
namespace Go.Proofs.YtclgkofcooibfaaGreatDoor
open Go.RowKit
theorem rn{g:ax}{aL aH aN:Option Addr}{lo kL kH kN:Nat}{w:World}(hd:g.size<=1048576)(H:gj w lo g aL aH aN kL kH kN)(hno:¬jO g):
 Cl 6 #[.agg #[.i g.inn,.i g.rounds,.slice aL g.nl kL,.slice aH g.nh kH,.slice aN g.nn kN,.i g.out]] w fun e w'=>e=.returned (.string ⟨#[]⟩)/\w.S w':=by
 have sA:=bJ w (.cells #[.i g.inn,.i g.rounds,.slice aL g.nl kL,.slice aH g.nh kH,.slice aN g.nn kN,.i g.out] 26);have bA:=au.new w (.i g.inn) (.i g.rounds) (.slice aL g.nl kL) (.slice aH g.nh kH) (.slice aN g.nn kN) (.i g.out) 26;go_enter Tryz.func6,Tryz.ntmps6;go_wp2_with fail;generalize w.alloc _=wA at*;refine (kG (Nat.zero_le _) trivial hd (H.aA sA)).mono ?_;rintro e w1 ⟨⟨n,Y,c,a,O,rfl⟩,s1⟩
 have q:decide (c=0)=false:=by
  simp only[decide_eq_false_iff_not];intro e;subst e;exact hno (jO.of O)
 rw[q];go_wp2;go_ret;exact⟨rfl,sA.tr s1⟩
theorem pg{w:World}{ws:List (List UInt8)}(cs:Array Value)(h:cs=(i9 ws).toArray):∀j x,ws[j]?=some x->(w.alloc (.cells cs 9)).cell? (jj w.heap.size (0+j))=some (.string ⟨x.toArray⟩):=fun j x hx=>by
 subst h;rw[Nat.zero_add,Lib.cell_of_heap (Go.heap_alloc_new w _) j]
 simpa using yW hx
theorem qc{g:ax}{bL oL bH oH:Nat}{aN:Option Addr}{lo kL kH kN:Nat}{w:World}(hP:Pow w)(hd:g.size<=1048576)(H:gj w lo g (jp bL oL) (jp bH oH) aN kL kH kN)(E:jO g)
 (LL:fw w lo (jp bL oL) bL oL g.nl g.Lo)(LH:fw w lo (jp bH oH) bH oH g.nh g.Hi):
 Cl 6 #[.agg #[.i g.inn,.i g.rounds,.slice (jp bL oL) g.nl kL,.slice (jp bH oH) g.nh kH,.slice aN g.nn kN,.i g.out]] w fun e w'=>e=.returned (.string ⟨(ei g).toArray⟩)/\w.S w':=by
 have TP:=ae (afF.of E hd H);have sA:=bJ w (.cells #[.i g.inn,.i g.rounds,.slice (jp bL oL) g.nl kL,.slice (jp bH oH) g.nh kH,.slice aN g.nn kN,.i g.out] 26);have bA:=au.new w (.i g.inn) (.i g.rounds) (.slice (jp bL oL) g.nl kL) (.slice (jp bH oH) g.nh kH) (.slice aN g.nn kN) (.i g.out) 26;have i1:=E.head.i1;have i2:=E.head.i2;have r0:=E.head.r0;have r1:=E.head.r1;have el:=E.head.l;have eh:=E.head.h;have o0:=E.o0;have o1:=E.o1;have nn:=E.head.n;have ts:=hd;unfold ax.size at ts;have EV:=ae E;clear E;go_enter Tryz.func6,Tryz.ntmps6;go_wp2_with fail;generalize w.alloc _=wA at*;refine (@kG g _ _ aN lo kL kH kN wA (Nat.zero_le _) trivial hd (H.aA sA)).mono ?_;rintro e w1 ⟨⟨n,Y,c,a,O,rfl⟩,s1⟩;obtain rfl:c=0:=EV.out.zero O;rw[show decide ((0:Int)=0)=true from rfl];clear O;have S1:=sA.tr s1;have B1:=bA.aA s1;have l1:=B1.lt;have sB:=bJ w1 (.cells #[.pointer none,.n] 52);have hb0:Hid (Lib.IsBuilder 52 5 w1.heap.size w1.heap.size (Lib.byteCells []) (w1.alloc (.cells #[.pointer none,.n] 52))):=ae (Lib.fresh_isBuilder 52 5 w1);have B2:=B1.aA sB;have q0:=B2.c0;have q1:=B2.c1;go_wp2_with fail;have zB:(w1.alloc (.cells #[.pointer none,.n] 52)).heap.size=w1.heap.size+1:=by simp
 generalize w1.alloc _=wB at*;have SB:=S1.tr sB;have hP1:=hP.stay S1;have dr:=sT wB;have y1:=dq (show g.inn<=9223372036854775807 by omega);have y2:=dq (show g.rounds<=9223372036854775807 by omega);have J1:=@xU g.inn wB.drew om om (hP1.stay (sB.tr dr));obtain⟨L1,hL1⟩:∃L,Lib.join [[103,114,97,112,104],bu g.inn,bu g.rounds] [32]++[10]=L:=⟨_,rfl⟩;have HL1:Hid (jE g=L1):=ae (by rw[<-hL1];simp[jE,Lib.join]);have HJ:=ae hL1;have ll1:L1.length<=200:=by rw[<-HL1.out];exact TP.out.head
 clear hL1
 go_region_held3 (fun w'=>w'.cell? (jj w.heap.size 0)=some (.i g.inn)/\w'.cell? (jj w.heap.size 1)=some (.i g.rounds)) (go_keep)
  (first
    | (go_at_call 21
       with_reducible refine J1.mono ?_
       rintro e w2 ⟨rfl,s2⟩;have v2:=dr.tr s2;have p0:=(B2.aA v2).c0;have p1:=(B2.aA v2).c1;have J2:=@xU g.rounds w2 r0 om (hP1.stay (sB.tr v2)))
    | (go_at_call 21
       with_reducible refine J2.mono ?_
       rintro e w3 ⟨rfl,s3⟩;have v3:=v2.tr s3;have t0:=(B2.aA v3).c0;have t1:=(B2.aA v3).c1;have sW:=bJ w3 (.cells #[.string ⟨#[103,114,97,112,104]⟩,.string ⟨(bu g.inn).toArray⟩,.string ⟨(bu g.rounds).toArray⟩] 9)
       have J3:Cl 20 #[.s w3.heap.size 3 3] (w3.alloc (.cells #[.string ⟨#[103,114,97,112,104]⟩,.string ⟨(bu g.inn).toArray⟩,.string ⟨(bu g.rounds).toArray⟩] 9)) fun e w'=>e=.returned (.string ⟨L1.toArray⟩)/\(w3.alloc (.cells #[.string ⟨#[103,114,97,112,104]⟩,.string ⟨(bu g.inn).toArray⟩,.string ⟨(bu g.rounds).toArray⟩] 9)).Since (w3.alloc (.cells #[.string ⟨#[103,114,97,112,104]⟩,.string ⟨(bu g.inn).toArray⟩,.string ⟨(bu g.rounds).toArray⟩] 9)).heap.size w':=by
        have:=@pO w3.heap.size 0 3 [[103,114,97,112,104],bu g.inn,bu g.rounds] (w3.alloc (.cells #[.string ⟨#[103,114,97,112,104]⟩,.string ⟨(bu g.inn).toArray⟩,.string ⟨(bu g.rounds).toArray⟩] 9)) (pg _ rfl) qz qz qz (by have:=congrArg List.length HJ.out;rw[List.length_append] at this;omega);rw[HJ.out] at this;exact this)
    | (go_at_call 20
       with_reducible refine J3.mono ?_
       rintro e w4 ⟨rfl,s4⟩;have v4:=(v3.tr sW).trans (sM s4 (Nat.le_trans v3.size sW.size));have m0:=(B2.aA v4).c0;have m1:=(B2.aA v4).c1;have u4:=sB.tr v4;have J4:=@iY w1.heap.size w1.heap.size [] L1 w4 (mW hb0.out v4) (by simp;omega) u4.size)
    | (go_at_call 19
       with_reducible refine J4.mono ?_
       rintro e w5 ⟨⟨x5,rfl⟩,hb5,s5,-⟩;have u5:w1.S w5:=u4.trans s5;have n0:=(B1.aA u5).c0;have n1:=(B1.aA u5).c1;have hb5:=ae hb5))
 all_goals clear q0 q1 p0 p1 t0 t1 m0 m1 n1 J1 J2 J3 J4
 all_goals go_wp2_with fail
 go_loopw [25] (fun i wr=>∃k:Nat,(k:Int)<=g.inn/\i=.i (k:Int)/\w1.S wr/\w1.heap.size<wr.heap.size/\Hid (Lib.IsBuilder 52 5 w1.heap.size w1.heap.size (Lib.byteCells (jE g++kj g k)) wr)) (fun i _=>g.inn.toNat-(intOf i).toNat)
 case atStart=>exact⟨0,om,rfl,u5,by have:=v4.size;have:=s5.size;omega,ae (by rw[kj,List.append_nil,HL1.out];exact hb5.out)⟩
 case round=>
  obtain⟨k,hk,rfl,u,hsz,hb⟩:=hrel;have B:=B1.aA u;have SS:=S1.tr u;have hl0:=TP.out.head;have hl1:=TP.out.box k hk
  by_cases hlt:(k:Int)<g.inn
  . obtain⟨-,a1,a2,k1,k2,ML⟩:=LL k om
    obtain⟨-,c1,c2,m1,m2,MH⟩:=LH k om;have okL:=EV.out.head.okL k om;have okH:=EV.out.head.okH k om;have szL:(g.Lo k).n+(g.Lo k).m<=1048576:=by have:=gY (R:=g.Lo) (n:=g.nl) (k:=k) om;omega
    have szH:(g.Hi k).n+(g.Hi k).m<=1048576:=by have:=gY (R:=g.Hi) (n:=g.nh) (k:=k) om;omega
    have tl:=TP.out.lo k hlt;have th:=TP.out.hi k hlt;have dr:=sT wr;have SD:=SS.tr dr;have J1:=uf (ML.aA SD).L okL szL (hP.stay SD);obtain⟨T1,hT1⟩:∃T,(g.Lo k).aX=T:=⟨_,rfl⟩;obtain⟨T2,hT2⟩:∃T,(g.Hi k).aX=T:=⟨_,rfl⟩;obtain⟨X,hX⟩:∃X,jE g++kj g k=X:=⟨_,rfl⟩;have hXl:X.length<=100000200:=by rw[<-hX,List.length_append];omega
    rw[hT1] at J1 tl;rw[hT2] at th;obtain⟨L1,hL1⟩:∃L,Lib.join [[98,111,120],T1,T2] [32]++[10]=L:=⟨_,rfl⟩;have eL1:L1=[98,111,120,32]++(T1++(32::(T2++[10]))):=by rw[<-hL1];simp[Lib.join]
    have ll1:L1.length<=200000010:=by rw[eL1];simp;omega
    have HE:Hid (jE g++kj g (k+1)=X++L1):=ae (by rw[<-hX,kj,hT1,hT2,List.append_assoc,eL1]);have hbX:Hid (Lib.IsBuilder 52 5 w1.heap.size w1.heap.size (Lib.byteCells (X)) wr):=ae (by rw[<-hX];exact hb.out);have HT2:=ae hT2;have HJ:=ae hL1;clear hX hT1 hT2 hL1 eL1;have M1:=ML.aA SS;have M2:=MH.aA SS;have q2:=B.c2;have q3:=B.c3;obtain⟨g0,g1,g2⟩:=M1.g;obtain⟨h0,h1,h2⟩:=M2.g;have hzl:(k:Int)<(g.nl:Int):=om
    have hzh:(k:Int)<(g.nh:Int):=om
    clear M1 M2 hl0 hl1 n0;go_wp2_with fail
    go_region_held3 (fun w'=>w'.cell? (jj w.heap.size 2)=some (.slice (jp bL oL) g.nl kL)/\w'.cell? (jj w.heap.size 3)=some (.slice (jp bH oH) g.nh kH)/\w'.cell? (jj bL (oL+k*3))=some (.bool (g.Lo k).neg)/\w'.cell? (jj bL (oL+k*3+1))=some (.slice a1 (g.Lo k).n k1)/\w'.cell? (jj bL (oL+k*3+2))=some (.slice a2 (g.Lo k).m k2)/\w'.cell? (jj bH (oH+k*3))=some (.bool (g.Hi k).neg)/\w'.cell? (jj bH (oH+k*3+1))=some (.slice c1 (g.Hi k).n m1)/\w'.cell? (jj bH (oH+k*3+2))=some (.slice c2 (g.Hi k).m m2)) (go_keep)
     (first
       | (go_at_call 22
          with_reducible refine J1.mono ?_
          rintro e w6 ⟨rfl,s6⟩;have v6:=dr.tr s6;have S6:=SS.tr v6;have B6:=B.aA v6;have j2:=B6.c2;have j3:=B6.c3;obtain⟨i0,i1,i2⟩:=(ML.aA S6).g;obtain⟨l0,l1,l2⟩:=(MH.aA S6).g;have J2:=uf (MH.aA S6).L okH szH (hP.stay S6);rw[HT2.out] at J2)
       | (go_at_call 22
          with_reducible refine J2.mono ?_
          rintro e w7 ⟨rfl,s7⟩;have v7:=v6.tr s7;have S7:=SS.tr v7;have B7:=B.aA v7;have j2':=B7.c2;have j3':=B7.c3;obtain⟨i0',i1',i2'⟩:=(ML.aA S7).g;obtain⟨l0',l1',l2'⟩:=(MH.aA S7).g;have sW:=bJ w7 (.cells #[.string ⟨#[98,111,120]⟩,.string ⟨T1.toArray⟩,.string ⟨T2.toArray⟩] 9)
          have J3:Cl 20 #[.s w7.heap.size 3 3] (w7.alloc (.cells #[.string ⟨#[98,111,120]⟩,.string ⟨T1.toArray⟩,.string ⟨T2.toArray⟩] 9)) fun e w'=>e=.returned (.string ⟨L1.toArray⟩)/\(w7.alloc (.cells #[.string ⟨#[98,111,120]⟩,.string ⟨T1.toArray⟩,.string ⟨T2.toArray⟩] 9)).Since (w7.alloc (.cells #[.string ⟨#[98,111,120]⟩,.string ⟨T1.toArray⟩,.string ⟨T2.toArray⟩] 9)).heap.size w':=by
           have:=@pO w7.heap.size 0 3 [[98,111,120],T1,T2] (w7.alloc (.cells #[.string ⟨#[98,111,120]⟩,.string ⟨T1.toArray⟩,.string ⟨T2.toArray⟩] 9)) (pg _ rfl) qz qz qz (by have:=congrArg List.length HJ.out;rw[List.length_append] at this;omega);rw[HJ.out] at this;exact this)
       | (go_at_call 20
          with_reducible refine J3.mono ?_
          rintro e w8 ⟨rfl,s8⟩;have v8:=(v7.tr sW).trans (sM s8 (Nat.le_trans v7.size sW.size));have S8:=SS.tr v8;have B8:=B.aA v8;have a2':=B8.c2;have a3':=B8.c3;obtain⟨b0',b1',b2'⟩:=(ML.aA S8).g;obtain⟨d0',d1',d2'⟩:=(MH.aA S8).g;have u8:=u.tr v8;have J4:=@iY w1.heap.size w1.heap.size X L1 w8 (mW hbX.out v8) om u8.size)
       | (go_at_call 19
          with_reducible refine J4.mono ?_
          rintro e w9 ⟨⟨x9,rfl⟩,hb9,s9,-⟩;have u9:w1.S w9:=u8.trans s9;have S9:=S1.tr u9;have B9:=B1.aA u9;have a2'':=B9.c2;have a3'':=B9.c3;obtain⟨b0'',b1'',b2''⟩:=(ML.aA S9).g;obtain⟨d0'',d1'',d2''⟩:=(MH.aA S9).g;have z9:=s9.size;have z8:=v8.size;have hb9:=ae hb9))
    all_goals clear q2 q3 g0 g1 g2 h0 h1 h2 j2 j3 i0 i1 i2 l0 l1 l2 j2' j3' i0' i1' i2' l0' l1' l2' a2' a3' b0' b1' b2' d0' d1' d2' a2'' a3'' b0'' b1'' b2'' d0'' d1'' d2'' J1 J2 J3 J4
    all_goals go_wp2
    all_goals go_roundw
    case rel=>exact⟨k+1,om,by go_num,u9,om,ae (by rw[HE.out];exact hb9.out)⟩
    case measure=>simp[intOf];omega
  . have ek2:k=g.inn.toNat:=om
    subst ek2;clear hlt n0;have hz0:¬((g.inn.toNat:Int)<g.inn):=om
    obtain⟨Y0,hY0⟩:∃Y,jE g++kj g g.inn.toNat=Y:=⟨_,rfl⟩;have hYl:Y0.length<=100000200:=by rw[<-hY0,List.length_append];omega
    have hbY:Hid (Lib.IsBuilder 52 5 w1.heap.size w1.heap.size (Lib.byteCells (Y0)) wr):=ae (by rw[<-hY0];exact hb.out);have HY:=ae hY0;clear hY0 hl0 hl1 hb;go_wp2_with fail;refine (@lI wr).mono ?_;rintro e w6 ⟨rfl,K6,s6⟩;have u6:=u.tr s6;have z6:=s6.size;have K6:=ae K6;have q4:=(B1.aA u6).c4;go_wp2_with fail;clear q4;have hbY6:=ae (mW hbY.out s6);generalize wr.heap.size=mK at*
    go_loopw [48] (fun i wr=>∃k:Nat,k<=g.nn/\i=.i (k:Int)/\w1.S wr/\mK<wr.heap.size/\Hid (dg wr mK)/\Hid (Lib.IsBuilder 52 5 w1.heap.size w1.heap.size (Lib.byteCells (Y0++eS g k)) wr)) (fun i _=>g.nn-(intOf i).toNat)
    case atStart=>exact⟨0,om,rfl,u6,by have:=K6.out.lt;omega,K6,ae (by rw[eS,List.append_nil];exact hbY6.out)⟩
    case round=>
     obtain⟨k,hk,rfl,ux,hzx,Kx,hbx⟩:=hrel;have SX:=S1.tr ux;have hl1:=TP.out.nodes k hk
     by_cases hlt:k<g.nn
     . obtain⟨bN,oN,-,LN⟩:=H.LN
       obtain⟨ea,a1,k1,M⟩:=LN k hlt;subst ea;obtain⟨bV,oV,-,LV⟩:=M.L.LV;obtain⟨f,ha,hb⟩:=EV.out.at_ hlt;have hszn:(g.N k).size<=1048576:=by have:=qQ (A:=g.N) hlt;omega
       have hlt':(k:Int)<(g.nn:Int):=om
       have tn:=TP.out.node k hlt;obtain⟨TT,FF,ub,uk,us,nums,TF⟩:=txtF (g.N k) a1 lo bV oV k1 f ha hb hszn M.L.ia.2 M.L.ib.2;obtain⟨X,hX⟩:∃X,Y0++eS g k=X:=⟨_,rfl⟩;have hXl:X.length<=300000200:=by rw[<-hX,List.length_append];omega
       obtain⟨L1,hL1⟩:∃L,Lib.join (dJ (g.N k).op::(dR (g.N k)++fx (g.N k).V (g.N k).nv)) [32]++[10]=L:=⟨_,rfl⟩;have ll1:L1.length<=100000010:=by rw[<-hL1,pe];simp;omega
       have lw:(dR (g.N k)).length<=4:=by unfold dR;split<;>split<;>split<;>simp
       have HE:Hid (Y0++eS g (k+1)=X++L1):=ae (by rw[<-hX,eS,<-hL1,pe,List.append_assoc]);have hbX:Hid (Lib.IsBuilder 52 5 w1.heap.size w1.heap.size (Lib.byteCells (X)) wr):=ae (by rw[<-hX];exact hbx.out);have HJ:=ae hL1;obtain⟨ws,hws⟩:∃ws,dJ (g.N k).op::(dR (g.N k)++fx (g.N k).V (g.N k).nv)=ws:=⟨_,rfl⟩
       have lws:ws.length<=100000000:=by
        have hq:(g.N k).nv<=1048576:=by unfold ay.size at hszn;omega
        rw[<-hws];simp only[List.length_cons,List.length_append,uc];omega
       rw[hws] at TF HJ;clear hX hL1 hl1 hws tn hbx;have M1:=M.aA SX;obtain⟨g0,g1,g2,g3,g4,g5⟩:=M1.g;have sN:=bJ wr (.cells #[.i (g.N k).op,.i (g.N k).a,.i (g.N k).b,.i (g.N k).k,.i (g.N k).s,.slice a1 (g.N k).nv k1] 48);have nB:=au.new wr (.i (g.N k).op) (.i (g.N k).a) (.i (g.N k).b) (.i (g.N k).k) (.i (g.N k).s) (.slice a1 (g.N k).nv k1) 48;have hNB:Hid ((wr.alloc (.cells #[.i (g.N k).op,.i (g.N k).a,.i (g.N k).b,.i (g.N k).k,.i (g.N k).s,.slice a1 (g.N k).nv k1] 48)).heap[wr.heap.size]?=some (.cells #[.i (g.N k).op,.i (g.N k).a,.i (g.N k).b,.i (g.N k).k,.i (g.N k).s,.slice a1 (g.N k).nv k1] 48)):=ae (Go.heap_alloc_new wr _);have zN:(wr.alloc (.cells #[.i (g.N k).op,.i (g.N k).a,.i (g.N k).b,.i (g.N k).k,.i (g.N k).s,.slice a1 (g.N k).nv k1] 48)).heap.size=wr.heap.size+1:=by simp
       clear M1;go_wp2_with fail;generalize wr.alloc _=w7 at*;refine (TF.op w7 _ (Kx.out.aA sN)).mono ?_;rintro e w8 ⟨rfl,s8⟩;have v8:=sN.tr s8;have S8:=SX.tr v8;have N8:=nB.aA s8;have hme:=TF.me;have hen:=TF.en;have dr:=sT w8;have J1:=TF.fr w8.drew;clear g0 g1 g2 g3 g4 g5;obtain⟨h0,h1,h2,h3,h4,h5⟩:=N8.g;go_wp2_with fail
       go_region_held3 (fun w'=>w'.cell? (jj wr.heap.size 0)=some (.i (g.N k).op)/\w'.cell? (jj wr.heap.size 1)=some (.i (g.N k).a)/\w'.cell? (jj wr.heap.size 2)=some (.i (g.N k).b)/\w'.cell? (jj wr.heap.size 3)=some (.i (g.N k).k)/\w'.cell? (jj wr.heap.size 4)=some (.i (g.N k).s)/\w'.cell? (jj wr.heap.size 5)=some (.slice a1 (g.N k).nv k1)) (go_keep)
        (first
          | (with_reducible refine J1.mono ?_
             rintro e w9 ⟨rfl,s9⟩;have v9:=dr.tr s9;have N9:=N8.aA v9;have S9:=S8.tr v9;obtain⟨j0,j1,j2,j3,j4,j5⟩:=N9.g;have J2:=TF.wo w9 (hP.stay S9) (LV.aA S9))
          | (go_at_call 25
             with_reducible refine J2.mono ?_
             rintro e w10 ⟨gw,nw,cw,rfl,OW,s10⟩;have v10:=v9.tr s10;have N10:=N8.aA v10;obtain⟨m0,m1,m2,m3,m4,m5⟩:=N10.g;obtain⟨tc,tl,-,tk,tn⟩:=wH OW;subst tn
             have J3:Cl 20 #[.s gw ws.length cw] w10 fun e w'=>e=.returned (.string ⟨L1.toArray⟩)/\w10.S w':=by
              have:=@pO gw 0 cw ws w10 (fun j x h=>by rw[Nat.zero_add];exact tc j x h) tl tk lws (by have:=congrArg List.length HJ.out;rw[List.length_append] at this;omega);rw[HJ.out] at this;exact this)
          | (go_at_call 20
             with_reducible refine J3.mono ?_
             rintro e w11 ⟨rfl,s11⟩;have v11:=v10.tr s11;have N11:=N8.aA v11;obtain⟨n0,n1,n2,n3,n4,n5⟩:=N11.g;have y11:=v8.tr v11;have u11:=ux.tr y11;have J4:=@iY w1.heap.size w1.heap.size X L1 w11 (mW hbX.out y11) om u11.size)
          | (go_at_call 19
             with_reducible refine J4.mono ?_
             rintro e w12 ⟨⟨x12,rfl⟩,hb12,s12,k12⟩;have u12:w1.S w12:=u11.trans s12;have z12:=s12.size;have z11:=y11.size;have hN7:=((s8.tr v11).block wr.heap.size om).trans hNB.out;have hN12:=agI hN7 k12 om qd;have N12:=N11.blk (hN12.trans hN7.symm);obtain⟨t0,t1,t2,t3,t4,t5⟩:=N12.g;have K12:=ae ((Kx.out.aA y11).aI k12 om);have hN7:=ae hN7;have hN12:=ae hN12;have k12:=ae k12;have hb12:=ae hb12))
       all_goals clear h0 h1 h2 h3 h4 h5 j0 j1 j2 j3 j4 j5 m0 m1 m2 m3 m4 m5 n0 n1 n2 n3 n4 n5 t0 t1 t2 t3 t4 t5 J1 J2 J3 J4 hme hen hN7 hN12 k12
       all_goals go_wp2
       all_goals go_roundw
       case rel=>exact⟨k+1,om,by go_num,u12,om,K12,ae (by rw[HE.out];exact hb12.out)⟩
       case measure=>simp[intOf];omega
     . have ek:k=g.nn:=om
       subst ek;have hz1:¬((g.nn:Int)<(g.nn:Int)):=om
       have q5:=(B1.aA ux).c5;have lto:=TP.out.out;obtain⟨X,hX⟩:∃X,Y0++eS g g.nn=X:=⟨_,rfl⟩;have hXl:X.length<=300000200:=by rw[<-hX,List.length_append];omega
       obtain⟨L1,hL1⟩:∃L,Lib.join [[111,117,116,112,117,116],bu g.out] [32]++[10]=L:=⟨_,rfl⟩;have eL1:L1=[111,117,116,112,117,116,32]++(bu g.out++[10]):=by rw[<-hL1];simp[Lib.join]
       have ll1:L1.length<=100:=by rw[eL1];simp;omega
       have HE:Hid (ei g=X++L1):=ae (by rw[ro,<-hX,<-HY.out,eL1];simp);have hbX:Hid (Lib.IsBuilder 52 5 w1.heap.size w1.heap.size (Lib.byteCells (X)) wr):=ae (by rw[<-hX];exact hbx.out);have HJ:=ae hL1;clear hX hl1 hL1 eL1 hbx;go_wp2_with fail;refine (@xU g.out wr o0 om (hP.stay SX)).mono ?_;rintro e w7 ⟨rfl,s7⟩;have sW:=bJ w7 (.cells #[.string ⟨#[111,117,116,112,117,116]⟩,.string ⟨(bu g.out).toArray⟩] 9)
       have J3:Cl 20 #[.s w7.heap.size 2 2] (w7.alloc (.cells #[.string ⟨#[111,117,116,112,117,116]⟩,.string ⟨(bu g.out).toArray⟩] 9)) fun e w'=>e=.returned (.string ⟨L1.toArray⟩)/\(w7.alloc (.cells #[.string ⟨#[111,117,116,112,117,116]⟩,.string ⟨(bu g.out).toArray⟩] 9)).Since (w7.alloc (.cells #[.string ⟨#[111,117,116,112,117,116]⟩,.string ⟨(bu g.out).toArray⟩] 9)).heap.size w':=by
        have:=@pO w7.heap.size 0 2 [[111,117,116,112,117,116],bu g.out] (w7.alloc (.cells #[.string ⟨#[111,117,116,112,117,116]⟩,.string ⟨(bu g.out).toArray⟩] 9)) (pg _ rfl) qz qz qz (by have:=congrArg List.length HJ.out;rw[List.length_append] at this;omega);rw[HJ.out] at this;exact this
       clear q5;go_wp2_with fail;refine J3.mono ?_;rintro e w8 ⟨rfl,s8⟩;have v8:=(s7.tr sW).trans (sM s8 (Nat.le_trans s7.size sW.size));have u8:=ux.tr v8;have J4:=@iY w1.heap.size w1.heap.size X L1 w8 (mW hbX.out v8) om u8.size;clear J3;go_wp2_with fail;refine J4.mono ?_;rintro e w9 ⟨⟨x9,rfl⟩,hb9,s9,-⟩;have u9:w1.S w9:=u8.trans s9;have J5:=Tryz.Builder_String_any w1.heap.size w1.heap.size (X++L1) w9 hb9 u9.size;have hb9:=ae hb9;clear J4;go_wp2_with fail;refine J5.mono ?_;rintro e w10 ⟨rfl,b10⟩;clear J5;go_wp2;go_ret;rw[HE.out];exact⟨rfl,S1.tr (u9.trans (fh b10))⟩
theorem rj{g:ax}{aL aH aN:Option Addr}{lo kL kH kN:Nat}{w:World}(hP:Pow w)(hd:g.size<=1048576)(H:gj w lo g aL aH aN kL kH kN)(E:jO g):
 Cl 6 #[.agg #[.i g.inn,.i g.rounds,.slice aL g.nl kL,.slice aH g.nh kH,.slice aN g.nn kN,.i g.out]] w fun e w'=>e=.returned (.string ⟨(ei g).toArray⟩)/\w.S w':=by
 have i1:=E.head.i1;have el:=E.head.l;have eh:=E.head.h;obtain⟨bL,oL,-,LL⟩:=H.LL;obtain⟨bH,oH,-,LH⟩:=H.LH;have eL:=(LL 0 om).1;have eH:=(LH 0 om).1;subst eL eH;exact qc hP hd H E LL LH
end Go.Proofs.YtclgkofcooibfaaGreatDoor
namespace Go.Proofs.YtclgkofcooibfaaGreatDoor
open Go.RowKit
def yb(g:ax)[Decidable (jO g)]:List UInt8:=if jO g then ei g else []
open Classical in
theorem pD(g:ax)(aL aH aN:Option Addr)(lo kL kH kN:Nat)(w:World)(hd:g.size<=1048576)(H:gj w lo g aL aH aN kL kH kN):
 Cl 8 #[.agg #[.i g.inn,.i g.rounds,.slice aL g.nl kL,.slice aH g.nh kH,.slice aN g.nn kN,.i g.out]] w fun e w'=>e=.returned (.string ⟨(yb g).toArray⟩)/\w.S w':=by
 by_cases E:jO g
 . rw[yb,if_pos E]
   exact qR hd H E
 . rw[yb,if_neg E]
   exact qS hd H E
open Classical in
theorem qe(g:ax)(aL aH aN:Option Addr)(lo kL kH kN:Nat)(w:World)(hP:Pow w)(hd:g.size<=1048576)(H:gj w lo g aL aH aN kL kH kN):
 Cl 6 #[.agg #[.i g.inn,.i g.rounds,.slice aL g.nl kL,.slice aH g.nh kH,.slice aN g.nn kN,.i g.out]] w fun e w'=>e=.returned (.string ⟨(yb g).toArray⟩)/\w.S w':=by
 by_cases E:jO g
 . rw[yb,if_pos E]
   exact rj hP hd H E
 . rw[yb,if_neg E]
   exact rn hd H E
end Go.Proofs.YtclgkofcooibfaaGreatDoor
