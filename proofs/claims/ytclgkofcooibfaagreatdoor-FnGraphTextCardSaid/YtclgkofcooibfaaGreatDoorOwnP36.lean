import Derived.Test.YtclgkofcooibfaaGreatDoorOwnP34
import Derived.Lib.ConvBytes
set_option maxHeartbeats 6400000
set_option maxRecDepth 100000
namespace Go.Proofs.YtclgkofcooibfaaGreatDoor
open Go.RowKit
theorem ft{z:Int}{w:World}(h0:0<=z)(h1:z<=9223372036854775807):
 Cl 33 #[.i z] w fun e w'=>e=.returned (.string ⟨(bu z).toArray⟩)/\w.S w':=by
 obtain⟨v,hv⟩:∃v:Nat,z=v:=⟨z.toNat,om⟩;subst hv;have hl:v<18446744073709551616:=om
 have ed:bu (v:Int)=Lib.decDigits v:=rfl;rw[ed];go_enter Tryz.func33,Tryz.ntmps33;go_wp2_with fail;refine (eJ hl).mono ?_;rintro e w1 ⟨x,t,B,rfl,ht,⟨a,b,off,cap,rfl,hc,hB,-⟩,hbv,s1⟩;have HV:=ae hbv;clear hbv;go_wp2_with fail;refine (fI om hB).mono ?_;rintro e w2 ⟨rfl,s2⟩;go_wp2;go_ret;refine⟨?_,s1.tr s2⟩;rw[HV.out]
 rfl
theorem agb{w w':World}{base:Nat}{e:TypeId}{size:Nat}{v:Value}{n:Nat}{xs:List Value}(h:w.ownsRow base e size v n xs)(hk:∀g,v.ownBlock=some g->w'.heap[g]?=w.heap[g]?):w'.ownsRow base e size v n xs:=by
 obtain⟨hl,h | ⟨g,cap,cur,rfl,hb,hh,hr⟩⟩:=h
 . exact⟨hl,Or.inl h⟩
 . exact⟨hl,Or.inr ⟨g,cap,cur,rfl,hb,(hk g (by simp[Value.ownBlock])).trans hh,hr⟩⟩
theorem kD{w w':World}{base:Nat}{e:TypeId}{size:Nat}{v:Value}{n:Nat}{xs:List Value}(h:w.ownsRow base e size v n xs)(s:w.S w'):w'.ownsRow base e size v n xs:=agb h (fun g hg=>s.block g (h.lt g hg).2)
theorem aa2(w:World)(e:TypeId)(s:ByteArray):w.S (Lib.bytesWorld w e s):=by
 have d:=(eg w.heap.size w).drew;exact⟨d.os,d.tape,d.output,by rw[Lib.bytesWorld_size];omega,fun k hk=>Lib.bytesWorld_at_old w e s k hk⟩
theorem aa3(w:World)(e:TypeId)(l:List UInt8):∀j u,(Lib.byteCells l)[j]?=some u->(Lib.bytesWorld w e ⟨l.toArray⟩).cell? (((jj w.heap.size 0):Addr).add j)=some u:=fun j u h=>by
 have hj:j<l.length:=by
  have:=(List.getElem?_eq_some_iff.1 h).1
  rwa[Lib.byteCells_length] at this
 rw[Go.WideShapes.add_plain,Nat.zero_add];have h2:=Lib.bytesWorld_cell w e ⟨l.toArray⟩ j (by simpa [ByteArray.size] using hj);rw[h2,<-h]
 simp[Lib.byteCells,hj]
theorem adD(l:List UInt8):∀u∈Lib.byteCells l,u.oneCell'=true:=fun u hu=>by
 obtain⟨x,-,rfl⟩:=List.mem_map.1 hu
 rfl
theorem uL{w:World}{lo:Nat}{r:br}{a1 a2:Option Addr}{k1 k2:Nat}(L:nu w lo r a1 a2 k1 k2)(ok:r.ok=true)(h:r.n+r.m<=1048576):
 Cl 34 #[.agg #[.bool r.neg,.slice a1 r.n k1,.slice a2 r.m k2]] w fun e w'=>e=.returned (.string ⟨r.aX.toArray⟩)/\w.S w':=by
 obtain⟨ba,oa,-,LX⟩:=L.LX;obtain⟨bb,ob,-,LY⟩:=L.LY;exact abw om om LX LY L.lX L.lY (br.q_ok ok).2.2.2.2.1
theorem adV(V:Nat->br)(k:Nat):(dK V (k+1)).length=(dK V k).length+1+(V k).aX.length:=by
 rw[dK,List.length_append,List.length_cons];omega
theorem pQ{a:Option Addr}{lo b off n cap:Nat}{V:Nat->br}{w:World}(hn:n+mj V n<=1048576)(H:fw w lo a b off n V)(ok:gD V n):
 Cl 76 #[.slice a n cap] w fun e w'=>e=.returned (.string ⟨(dK V n).toArray⟩)/\w.S w':=by
 obtain⟨i0,hi,hz0,hz1,hz2⟩:=info_parts Tryz.info5
 have lim:∀k,k<=n->(dK V k).length<=38797312:=fun k hk=>by
  have h1:=kw (V:=V) (n:=k) (fun c hc=>H.aU c om);have h2:=pz (R:=V) hk;omega
 have hlim:=ae lim;have sA:=bJ w (.cells #[] 5);have oA:(w.alloc (.cells #[] 5)).ownsRow w.heap.size 5 1 (.s w.heap.size 0 0) 0 (Lib.byteCells []):=pv w #[] 0 (Nat.le_refl _) (Nat.zero_le _) rfl;go_enter Tryz.func76,Tryz.ntmps76;go_wp2
 go_loopw [3,4] (fun u i wr=>∃k:Nat,k<=n/\i=.i k/\w.S wr/\Hid (u≠ .n)/\∃m,Hid (m=(dK V k).length)/\wr.ownsRow w.heap.size 5 1 u m (Lib.byteCells (dK V k))) (fun _ i _=>n-(intOf i).toNat)
 case atStart=>exact⟨0,Nat.zero_le _,rfl,sA,ae qz,0,ae rfl,oA⟩
 case round=>
  obtain⟨k,hk,rfl,s,hne,m,hm,O⟩:=hrel;have hml:m<=38797312:=by rw[hm.out];exact hlim.out k hk
  by_cases hlt:k<n
  . obtain⟨ea,a1,a2,k1,k2,M⟩:=H k hlt
    subst ea;have hz:(k:Int)<n:=om
    have hl1:=hlim.out (k+1) om;have htl:=adV V k;rw[<-hm.out] at htl;have hok:=ok k hlt;have hsz:(V k).n+(V k).m<=1048576:=by have:=gY (R:=V) hlt;omega
    obtain⟨T,hT⟩:∃T,(V k).aX=T:=⟨_,rfl⟩;rw[hT] at htl;have HL:=ae (show m+1+T.length<=38797312 by omega);have HT:=ae hT;have HTL:=ae htl;have hs0:=s.size
    go_wp2_with (at_builtin;refine wpList_append_own _ rfl _ _ 22 rfl w.heap.size 5 i0 (.int .u8 0) 1 1 Tryz.underlying22 hi hz0 hz1 hz2 rfl qd _ _ _ rfl (O.alloc _) (jj wr.heap.size 0) 1 1 [.int .u8 32] rfl rfl (bO _ _ _) (bZ _ rfl) (by unfold maxLen;omega) om (by simp;omega) ?_)
    intro v1 w1 ho1 hg1 hn1;have S1:=(s.alloc s.size _).grown hg1 (by simp;omega) (fun k hk=>(O.lt k hk).1);have HN1:=ae hn1;have M1:=M.aA S1;obtain⟨g0,g1,g2⟩:=M1.g;clear hn1 hg1;go_wp2_with fail;refine (uL M1.L hok hsz).mono ?_;rintro e w2 ⟨rfl,s2⟩;rw[HT.out];have S2:=S1.tr s2;have ho2:=kD ho1 s2;have hcv:=Lib.run_convert_string_bytes (P:=Tryz.prog) w2 9 22 5 ⟨T.toArray⟩ Tryz.underlying9 Tryz.underlying22 Tryz.underlying5;have s3:=aa2 w2 5 ⟨T.toArray⟩;have S3:=S2.tr s3;have ho3:=kD ho2 s3;have hcl:=aa3 w2 5 T;have z3:=Lib.bytesWorld_size w2 5 ⟨T.toArray⟩;have hTs:(⟨T.toArray⟩:ByteArray).size=T.length:=by simp[ByteArray.size]
    rw[hTs] at hcv;have zz:=S2.size;have HLo:=HL.out;generalize Lib.bytesWorld w2 5 ⟨T.toArray⟩=w3 at*
    go_wp2_with (at_builtin;refine wpList_append_own _ rfl _ _ 22 rfl w.heap.size 5 i0 (.int .u8 0) 1 1 Tryz.underlying22 hi hz0 hz1 hz2 rfl qd _ _ _ rfl ho3 (jj w2.heap.size 0) T.length _ (Lib.byteCells T) rfl (by rw[Lib.byteCells_length];omega) hcl (adD T) (by unfold maxLen;omega) om om ?_)
    intro v4 w4 ho4 hg4 hn4;have S4:=S3.grown hg4 om (fun k hk=>(ho3.lt k hk).1);have HN4:=ae (show v4≠ .n from fun e=>HN1.out (hn4.1 e).1)
    have O4:w4.ownsRow w.heap.size 5 1 v4 (m+1+T.length) (Lib.byteCells (dK V (k+1))):=by
     rw[show Lib.byteCells (dK V (k+1))=Lib.byteCells (dK V k)++ .int .u8 32::Lib.byteCells T by rw[dK,HT.out];simp[Lib.byteCells]];exact ho4
    go_wp2;go_roundw
    case rel=>exact⟨k+1,om,by go_num,S4,HN4,m+1+T.length,ae HTL.out.symm,O4⟩
    case measure=>simp[intOf];omega
  . have e:k=n:=om
    subst e;obtain⟨g,c,rfl,hcv⟩:=ij O hne.out hm.out;go_wp2;go_ret;exact⟨rfl,s⟩
theorem aal{v1 v2 v3 v4:Int}{nv:Nat}{V:Nat->br}{a1:Option Addr}{lo bV oV:Nat}{k1:Nat}{w:World}(ha:0<=v1)(ha2:v1<=9223372036854775807)(hk:0<=v3)(hk2:v3<=9223372036854775807)(hn:nv+mj V nv<=1048576)(LV:fw w lo a1 bV oV nv V)(ok:gD V nv):
 Cl 35 #[.agg #[.i 1,.i v1,.i v2,.i v3,.i v4,.slice a1 nv k1]] w fun e w'=>e=.returned (.string ⟨([100,101,110,115,101]++((32::bu v1)++((32::bu v3)++(dK V nv)))).toArray⟩)/\w.S w':=by
 have sA:=bJ w (.cells #[.i 1,.i v1,.i v2,.i v3,.i v4,.slice a1 nv k1] 48);have nA:=au.new w (.i 1) (.i v1) (.i v2) (.i v3) (.i v4) (.slice a1 nv k1) 48;have q1:=nA.c1;have y1:=dq ha2;have y3:=dq hk2;have yt:(dK V nv).length<=38797312:=by have:=kw (V:=V) (n:=nv) LV.aU;omega
 have x0:1+(bu v1).length<=9223372036854775807:=om
 have u0:¬9223372036854775807<1+(bu v1).length:=om
 have x1:5+(1+(bu v1).length)<=9223372036854775807:=om
 have u1:¬9223372036854775807<5+(1+(bu v1).length):=om
 have x2:5+(1+(bu v1).length)+1<=9223372036854775807:=om
 have u2:¬9223372036854775807<5+(1+(bu v1).length)+1:=om
 have x3:5+(1+(bu v1).length)+1+(bu v3).length<=9223372036854775807:=om
 have u3:¬9223372036854775807<5+(1+(bu v1).length)+1+(bu v3).length:=om
 have x4:5+(1+(bu v1).length)+1+(bu v3).length+(dK V nv).length<=9223372036854775807:=om
 have u4:¬9223372036854775807<5+(1+(bu v1).length)+1+(bu v3).length+(dK V nv).length:=om
 go_enter Tryz.func35,Tryz.ntmps35;go_wp2_with fail;generalize w.alloc _=wA at*;refine (@ft v1 wA ha ha2).mono ?_;rintro e w1 ⟨rfl,s1⟩;have S1:=sA.tr s1;have N1:=nA.aA s1;have q0:=N1.c0;have q2:=N1.c2;have q3:=N1.c3;have q4:=N1.c4;have q5:=N1.c5;have dr:=sT w1;have SD:=S1.tr dr;have J1:=@ft v3 w1.drew hk hk2;go_wp2_with fail
 go_region_held3 (fun w'=>w'.cell? (jj w.heap.size 3)=some (.i v3)/\w'.cell? (jj w.heap.size 4)=some (.i v4)/\w'.cell? (jj w.heap.size 5)=some (.slice a1 nv k1)) (go_keep)
  (first
    | (go_at_call 33
       with_reducible refine J1.mono ?_
       rintro e w2 ⟨rfl,s2⟩;have u2:=dr.tr s2;have S2:=S1.tr u2;have N2:=N1.aA u2;have i3:=N2.c3;have i4:=N2.c4;have i5:=N2.c5;have J2:=@pQ a1 lo bV oV nv k1 V w2 hn (LV.aA S2) ok)
    | (go_at_call 76
       with_reducible refine J2.mono ?_
       rintro e w4 ⟨rfl,s4⟩;have u4:=u2.tr s4;have S4:=S1.tr u4;have N4:=N1.aA u4;have k3:=N4.c3;have k4:=N4.c4;have k5:=N4.c5))
 all_goals go_wp2
 all_goals go_ret
 all_goals exact⟨by simp[eE],S4⟩
theorem aak{v1 v2 v3 v4:Int}{nv:Nat}{_V:Nat->br}{a1:Option Addr}{k1:Nat}{w:World}(ha:0<=v1)(ha2:v1<=9223372036854775807):
 Cl 35 #[.agg #[.i 2,.i v1,.i v2,.i v3,.i v4,.slice a1 nv k1]] w fun e w'=>e=.returned (.string ⟨([114,101,108,117]++((32::bu v1)++([]))).toArray⟩)/\w.S w':=by
 have sA:=bJ w (.cells #[.i 2,.i v1,.i v2,.i v3,.i v4,.slice a1 nv k1] 48);have nA:=au.new w (.i 2) (.i v1) (.i v2) (.i v3) (.i v4) (.slice a1 nv k1) 48;have q1:=nA.c1;have y1:=dq ha2;go_enter Tryz.func35,Tryz.ntmps35;go_wp2_with fail;generalize w.alloc _=wA at*;refine (ft ha ha2).mono ?_;rintro e w1 ⟨rfl,s1⟩;have S1:=sA.tr s1;have N1:=nA.aA s1;have q0:=N1.c0;have q2:=N1.c2;have q3:=N1.c3;have q4:=N1.c4;have q5:=N1.c5;go_wp2;go_ret;exact⟨by simp[eE],S1⟩
theorem aaj{v1 v2 v3 v4:Int}{nv:Nat}{V:Nat->br}{a1:Option Addr}{lo bV oV:Nat}{k1:Nat}{w:World}(ha:0<=v1)(ha2:v1<=9223372036854775807)(hn:nv+mj V nv<=1048576)(LV:fw w lo a1 bV oV nv V)(ok:gD V nv):
 Cl 35 #[.agg #[.i 3,.i v1,.i v2,.i v3,.i v4,.slice a1 nv k1]] w fun e w'=>e=.returned (.string ⟨([108,101,97,107,121]++((32::bu v1)++(dK V nv))).toArray⟩)/\w.S w':=by
 have sA:=bJ w (.cells #[.i 3,.i v1,.i v2,.i v3,.i v4,.slice a1 nv k1] 48);have nA:=au.new w (.i 3) (.i v1) (.i v2) (.i v3) (.i v4) (.slice a1 nv k1) 48;have q1:=nA.c1;have y1:=dq ha2;have yt:(dK V nv).length<=38797312:=by have:=kw (V:=V) (n:=nv) LV.aU;omega
 go_enter Tryz.func35,Tryz.ntmps35;go_wp2_with fail;generalize w.alloc _=wA at*;refine (ft ha ha2).mono ?_;rintro e w1 ⟨rfl,s1⟩;have S1:=sA.tr s1;have N1:=nA.aA s1;have q0:=N1.c0;have q2:=N1.c2;have q3:=N1.c3;have q4:=N1.c4;have q5:=N1.c5;go_wp2_with fail;refine (pQ hn (LV.aA S1) ok).mono ?_;rintro e w2 ⟨rfl,s2⟩;go_wp2;go_ret;exact⟨by simp[eE],S1.tr s2⟩
theorem aai{v1 v2 v3 v4:Int}{nv:Nat}{_V:Nat->br}{a1:Option Addr}{k1:Nat}{w:World}(ha:0<=v1)(ha2:v1<=9223372036854775807)(hb:0<=v2)(hb2:v2<=9223372036854775807):
 Cl 35 #[.agg #[.i 4,.i v1,.i v2,.i v3,.i v4,.slice a1 nv k1]] w fun e w'=>e=.returned (.string ⟨([97,100,100]++((32::bu v1)++((32::bu v2)++([])))).toArray⟩)/\w.S w':=by
 have sA:=bJ w (.cells #[.i 4,.i v1,.i v2,.i v3,.i v4,.slice a1 nv k1] 48);have nA:=au.new w (.i 4) (.i v1) (.i v2) (.i v3) (.i v4) (.slice a1 nv k1) 48;have q1:=nA.c1;have y1:=dq ha2;have y2:=dq hb2;go_enter Tryz.func35,Tryz.ntmps35;go_wp2_with fail;generalize w.alloc _=wA at*;refine (ft ha ha2).mono ?_;rintro e w1 ⟨rfl,s1⟩;have S1:=sA.tr s1;have N1:=nA.aA s1;have q0:=N1.c0;have q2:=N1.c2;have q3:=N1.c3;have q4:=N1.c4;have q5:=N1.c5;go_wp2_with fail;refine (ft hb hb2).mono ?_;rintro e w2 ⟨rfl,s2⟩;go_wp2;go_ret;exact⟨by simp[eE],S1.tr s2⟩
theorem aah{v1 v2 v3 v4:Int}{nv:Nat}{_V:Nat->br}{a1:Option Addr}{k1:Nat}{w:World}(ha:0<=v1)(ha2:v1<=9223372036854775807)(hk:0<=v3)(hk2:v3<=9223372036854775807):
 Cl 35 #[.agg #[.i 5,.i v1,.i v2,.i v3,.i v4,.slice a1 nv k1]] w fun e w'=>e=.returned (.string ⟨([109,97,120,112,111,111,108]++((32::bu v1)++((32::bu v3)++([])))).toArray⟩)/\w.S w':=by
 have sA:=bJ w (.cells #[.i 5,.i v1,.i v2,.i v3,.i v4,.slice a1 nv k1] 48);have nA:=au.new w (.i 5) (.i v1) (.i v2) (.i v3) (.i v4) (.slice a1 nv k1) 48;have q1:=nA.c1;have y1:=dq ha2;have y3:=dq hk2;go_enter Tryz.func35,Tryz.ntmps35;go_wp2_with fail;generalize w.alloc _=wA at*;refine (ft ha ha2).mono ?_;rintro e w1 ⟨rfl,s1⟩;have S1:=sA.tr s1;have N1:=nA.aA s1;have q0:=N1.c0;have q2:=N1.c2;have q3:=N1.c3;have q4:=N1.c4;have q5:=N1.c5;go_wp2_with fail;refine (ft hk hk2).mono ?_;rintro e w2 ⟨rfl,s2⟩;go_wp2;go_ret;exact⟨by simp[eE],S1.tr s2⟩
theorem aag{v1 v2 v3 v4:Int}{nv:Nat}{V:Nat->br}{a1:Option Addr}{lo bV oV:Nat}{k1:Nat}{w:World}(ha:0<=v1)(ha2:v1<=9223372036854775807)(hk:0<=v3)(hk2:v3<=9223372036854775807)(hs:0<=v4)(hs2:v4<=9223372036854775807)(hn:nv+mj V nv<=1048576)(LV:fw w lo a1 bV oV nv V)(ok:gD V nv):
 Cl 35 #[.agg #[.i 6,.i v1,.i v2,.i v3,.i v4,.slice a1 nv k1]] w fun e w'=>e=.returned (.string ⟨([99,111,110,118]++((32::bu v1)++((32::bu v3)++((32::bu v4)++(dK V nv))))).toArray⟩)/\w.S w':=by
 have sA:=bJ w (.cells #[.i 6,.i v1,.i v2,.i v3,.i v4,.slice a1 nv k1] 48);have nA:=au.new w (.i 6) (.i v1) (.i v2) (.i v3) (.i v4) (.slice a1 nv k1) 48;have q1:=nA.c1;have y1:=dq ha2;have y3:=dq hk2;have y4:=dq hs2;have yt:(dK V nv).length<=38797312:=by have:=kw (V:=V) (n:=nv) LV.aU;omega
 have x0:1+(bu v1).length<=9223372036854775807:=om
 have u0:¬9223372036854775807<1+(bu v1).length:=om
 have x1:4+(1+(bu v1).length)<=9223372036854775807:=om
 have u1:¬9223372036854775807<4+(1+(bu v1).length):=om
 have x2:4+(1+(bu v1).length)+1<=9223372036854775807:=om
 have u2:¬9223372036854775807<4+(1+(bu v1).length)+1:=om
 have x3:4+(1+(bu v1).length)+1+(bu v3).length<=9223372036854775807:=om
 have u3:¬9223372036854775807<4+(1+(bu v1).length)+1+(bu v3).length:=om
 have x4:4+(1+(bu v1).length)+1+(bu v3).length+1<=9223372036854775807:=om
 have u4:¬9223372036854775807<4+(1+(bu v1).length)+1+(bu v3).length+1:=om
 have x5:4+(1+(bu v1).length)+1+(bu v3).length+1+(bu v4).length<=9223372036854775807:=om
 have u5:¬9223372036854775807<4+(1+(bu v1).length)+1+(bu v3).length+1+(bu v4).length:=om
 have x6:4+(1+(bu v1).length)+1+(bu v3).length+1+(bu v4).length+(dK V nv).length<=9223372036854775807:=om
 have u6:¬9223372036854775807<4+(1+(bu v1).length)+1+(bu v3).length+1+(bu v4).length+(dK V nv).length:=om
 go_enter Tryz.func35,Tryz.ntmps35;go_wp2_with fail;generalize w.alloc _=wA at*;refine (@ft v1 wA ha ha2).mono ?_;rintro e w1 ⟨rfl,s1⟩;have S1:=sA.tr s1;have N1:=nA.aA s1;have q0:=N1.c0;have q2:=N1.c2;have q3:=N1.c3;have q4:=N1.c4;have q5:=N1.c5;have dr:=sT w1;have SD:=S1.tr dr;have J1:=@ft v3 w1.drew hk hk2;go_wp2_with fail
 go_region_held3 (fun w'=>w'.cell? (jj w.heap.size 3)=some (.i v3)/\w'.cell? (jj w.heap.size 4)=some (.i v4)/\w'.cell? (jj w.heap.size 5)=some (.slice a1 nv k1)) (go_keep)
  (first
    | (go_at_call 33
       with_reducible refine J1.mono ?_
       rintro e w2 ⟨rfl,s2⟩;have u2:=dr.tr s2;have S2:=S1.tr u2;have N2:=N1.aA u2;have i3:=N2.c3;have i4:=N2.c4;have i5:=N2.c5;have J3:=@ft v4 w2 hs hs2)
    | (go_at_call 33
       with_reducible refine J3.mono ?_
       rintro e w3 ⟨rfl,s3⟩;have u3:=u2.tr s3;have S3:=S1.tr u3;have N3:=N1.aA u3;have j3:=N3.c3;have j4:=N3.c4;have j5:=N3.c5;have J2:=@pQ a1 lo bV oV nv k1 V w3 hn (LV.aA S3) ok)
    | (go_at_call 76
       with_reducible refine J2.mono ?_
       rintro e w4 ⟨rfl,s4⟩;have u4:=u3.tr s4;have S4:=S1.tr u4;have N4:=N1.aA u4;have k3:=N4.c3;have k4:=N4.c4;have k5:=N4.c5))
 all_goals go_wp2
 all_goals go_ret
 all_goals exact⟨by simp[eE],S4⟩
theorem aaf{v1 v2 v3 v4:Int}{nv:Nat}{V:Nat->br}{a1:Option Addr}{lo bV oV:Nat}{k1:Nat}{w:World}(ha:0<=v1)(ha2:v1<=9223372036854775807)(hn:nv+mj V nv<=1048576)(LV:fw w lo a1 bV oV nv V)(ok:gD V nv):
 Cl 35 #[.agg #[.i 7,.i v1,.i v2,.i v3,.i v4,.slice a1 nv k1]] w fun e w'=>e=.returned (.string ⟨([110,111,114,109]++((32::bu v1)++(dK V nv))).toArray⟩)/\w.S w':=by
 have sA:=bJ w (.cells #[.i 7,.i v1,.i v2,.i v3,.i v4,.slice a1 nv k1] 48);have nA:=au.new w (.i 7) (.i v1) (.i v2) (.i v3) (.i v4) (.slice a1 nv k1) 48;have q1:=nA.c1;have y1:=dq ha2;have yt:(dK V nv).length<=38797312:=by have:=kw (V:=V) (n:=nv) LV.aU;omega
 go_enter Tryz.func35,Tryz.ntmps35;go_wp2_with fail;generalize w.alloc _=wA at*;refine (ft ha ha2).mono ?_;rintro e w1 ⟨rfl,s1⟩;have S1:=sA.tr s1;have N1:=nA.aA s1;have q0:=N1.c0;have q2:=N1.c2;have q3:=N1.c3;have q4:=N1.c4;have q5:=N1.c5;go_wp2_with fail;refine (pQ hn (LV.aA S1) ok).mono ?_;rintro e w2 ⟨rfl,s2⟩;go_wp2;go_ret;exact⟨by simp[eE],S1.tr s2⟩
theorem xR{d:ay}{a1:Option Addr}{lo k1:Nat}{w:World}(f:d.Form)(ha:0<=d.a)(hb:0<=d.b)(hd:d.size<=1048576)(H:ov w lo d a1 k1):
 Cl 35 #[.agg #[.i d.op,.i d.a,.i d.b,.i d.k,.i d.s,.slice a1 d.nv k1]] w fun e w'=>e=.returned (.string ⟨(jr d).toArray⟩)/\w.S w':=by
 have o1:=f.o1;have o7:=f.o7;have fk:=f.k;have fs:=f.s;have fv:=f.v;have ok:=f.ok;obtain⟨bV,oV,-,LV⟩:=H.LV;have ia:=H.ia;have ib:=H.ib;unfold ay.size at hd;obtain⟨op,v1,v2,v3,v4,nv,V⟩:=d
 dsimp only at*
 unfold ef at ia ib;have hop:op=1∨op=2∨op=3∨op=4∨op=5∨op=6∨op=7:=om
 rcases hop with ho | ho | ho | ho | ho | ho | ho
 . subst ho
   have fk:1<=v3/\v3<=1000:=fk;refine (@aal v1 v2 v3 v4 nv V a1 lo bV oV k1 w ha ia.2 om om hd LV ok).mono ?_;rintro e w' ⟨rfl,s⟩;exact⟨by simp[jr,dJ,dR,gG,iz,gF,Lib.joinTail],s⟩
 . subst ho
   have e0:=fv rfl;subst e0;refine (@aak v1 v2 v3 v4 0 V a1 k1 w ha ia.2).mono ?_;rintro e w' ⟨rfl,s⟩;exact⟨by simp[jr,dJ,dR,gG,iz,gF,Lib.joinTail,dK],s⟩
 . subst ho
   refine (@aaj v1 v2 v3 v4 nv V a1 lo bV oV k1 w ha ia.2 hd LV ok).mono ?_;rintro e w' ⟨rfl,s⟩;exact⟨by simp[jr,dJ,dR,gG,iz,gF,Lib.joinTail],s⟩
 . subst ho
   have e0:=fv rfl;subst e0;refine (@aai v1 v2 v3 v4 0 V a1 k1 w ha ia.2 hb ib.2).mono ?_;rintro e w' ⟨rfl,s⟩;exact⟨by simp[jr,dJ,dR,gG,iz,gF,Lib.joinTail,dK],s⟩
 . subst ho
   have fk:1<=v3/\v3<=1000:=fk;have e0:=fv rfl;subst e0;refine (@aah v1 v2 v3 v4 0 V a1 k1 w ha ia.2 om om).mono ?_;rintro e w' ⟨rfl,s⟩;exact⟨by simp[jr,dJ,dR,gG,iz,gF,Lib.joinTail,dK],s⟩
 . subst ho
   have fk:1<=v3/\v3<=1000:=fk;have fs:1<=v4/\v4<=1000:=fs;refine (@aag v1 v2 v3 v4 nv V a1 lo bV oV k1 w ha ia.2 om om om om hd LV ok).mono ?_;rintro e w' ⟨rfl,s⟩;exact⟨by simp[jr,dJ,dR,gG,iz,gF,Lib.joinTail],s⟩
 . subst ho
   refine (@aaf v1 v2 v3 v4 nv V a1 lo bV oV k1 w ha ia.2 hd LV ok).mono ?_;rintro e w' ⟨rfl,s⟩;exact⟨by simp[jr,dJ,dR,gG,iz,gF,Lib.joinTail],s⟩
end Go.Proofs.YtclgkofcooibfaaGreatDoor
