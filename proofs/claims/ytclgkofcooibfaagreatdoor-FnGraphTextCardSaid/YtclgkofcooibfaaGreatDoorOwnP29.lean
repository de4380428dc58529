import Derived.Test.YtclgkofcooibfaaGreatDoorOwnP27
import Derived.Deep.AppendLies
set_option maxHeartbeats 6400000
set_option maxRecDepth 100000
namespace Go.Proofs.YtclgkofcooibfaaGreatDoor
open Go.RowKit
theorem aem{r:br}{K:Nat}(ok:r.ok=true)(l:r.aU)(h:r.n+r.m<K):Qb r.q K:=by
 obtain⟨h1,h2⟩:=afS ok l;refine⟨Nat.lt_of_lt_of_le (Nat.lt_of_succ_le h1) (Nat.pow_le_pow_right qd (show r.n<=K by omega)),Nat.lt_of_le_of_lt h2 (Nat.pow_lt_pow_right qd (show r.m<K by omega))⟩
theorem tG{r:br}(ok:r.ok=true)(l:r.aU)(h:r.n+r.m<=1048576):Qb r.q 1048577:=aem ok l om
theorem adb{v v':Value}{p q:Rat}{k l:Nat}{w:World}(hp:Qb p k)(hq:Qb q l)(hk:2*k+2*l<=16777216)(R:yD w v p)(R':yD w v' q):
 Cl 110 #[v,v'] w fun e w'=>e=.returned (.i (aaV p q))/\w.S w':=by
 obtain⟨a,n,ca,b,m,cb,ba,oa,bb,ob,X,Y,rfl,R,x1,x2⟩:=R;obtain⟨a',n',ca',b',m',cb',ba',oa',bb',ob',X',Y',rfl,R',y1,y2⟩:=R';have n1:=iV R.pX (by rw[x1];exact hp.1);have n2:=iV R.pY (by rw[x2];exact hp.2);have n3:=iV R'.pX (by rw[y1];exact hq.1);have n4:=iV R'.pY (by rw[y2];exact hq.2);have J:=@zy (qn p) (qn q) a b a' b' ba oa n ca bb ob m cb ba' oa' n' ca' bb' ob' m' cb' X Y X' Y' w om R R';rw[x1,x2,y1,y2,agV] at J;exact J
structure km(w:World)(base:Nat)(v:Value)(k:Nat)(X:Nat->Int)(xs:List Value):Prop where
 own:w.ownsRow base 3 1 v k xs
 at_:∀i,i<k->xs[i]?=some (.int .i64 (X i))
theorem km.aA{w w':World}{base k:Nat}{v:Value}{X:Nat->Int}{xs:List Value}(h:km w base v k X xs)(s:w.S w'):km w' base v k X xs:=
 ⟨h.own.kept (row:=none) ⟨s.os,s.tape,s.output,s.size,fun k hk _=>s.block k hk⟩ (Classical.em _),h.at_⟩
theorem km.snoc{w':World}{base k:Nat}{v':Value}{X:Nat->Int}{z:Int}{xs:List Value}(hl:xs.length=k)(at_:∀i,i<k->xs[i]?=some (.i (X i)))(own:w'.ownsRow base 3 1 v' (k+1) (xs++[.i z]))(hz:X k=z):km w' base v' (k+1) X (xs++[.i z]):=by
 refine⟨own,fun i hi=> ?_⟩
 by_cases e:i=k
 . subst e
   rw[List.getElem?_append_right om,hl,hz];simp
 . rw[List.getElem?_append_left om];exact at_ i om
theorem km.len{w:World}{base k:Nat}{v:Value}{X:Nat->Int}{xs:List Value}(h:km w base v k X xs):xs.length=k:=by have:=h.own.1;omega
theorem km.ints{w:World}{base k g cap:Nat}{X:Nat->Int}{xs:List Value}(h:km w base (.s g k cap) k X xs):mf w (jp g 0) g 0 k X:=fun j hj=>by
 have hc:= @World.ownsRow.cells _ _ _ _ _ _ _ h.own;have e1:=hc (g:=g) rfl _ _ (h.at_ j hj);rw[Go.WideShapes.add_plain] at e1;exact⟨rfl,e1⟩
theorem xX:∃i,Tryz.prog.info? 3=some i/\i.zero=some (.i 0)/\i.size=1/\i.bytes=8:=by
 have h:(Tryz.prog.info? 3).map (fun i=>(i.zero,i.size,i.bytes))=some (some (.i 0),1,8):=by kernel_rfl
 obtain⟨i,hi,h⟩:=Option.map_eq_some_iff.1 h;simp only[Prod.mk.injEq] at h;exact⟨i,hi,h.1,h.2.1,h.2.2⟩
theorem xZ{g:ax}{aL aH aN:Option Addr}{lo kL kH kN:Nat}{w:World}(hw:0<=w.heap.size)(hT:rI w)(hd:g.size<=1048576)(H:gj w lo g aL aH aN kL kH kN):
 Cl 109 #[.agg #[.i g.inn,.i g.rounds,.slice aL g.nl kL,.slice aH g.nh kH,.slice aN g.nn kN,.i g.out]] w fun e w'=>iJ e (kO g)/\w.S w':=by
 have ts:=hd;unfold ax.size at ts;have sA:=bJ w (.cells #[.i g.inn,.i g.rounds,.slice aL g.nl kL,.slice aH g.nh kH,.slice aN g.nn kN,.i g.out] 26);have bA:=au.new w (.i g.inn) (.i g.rounds) (.slice aL g.nl kL) (.slice aH g.nh kH) (.slice aN g.nn kN) (.i g.out) 26
 by_cases h1:g.inn<1
 . go_enter Tryz.func109,Tryz.ntmps109
   go_wp2;go_ret;exact⟨⟨false,rfl,by simp only[Bool.false_eq_true,false_iff];intro h;have:=h.i1;omega⟩,sA⟩
 by_cases h2:1000<g.inn
 . go_enter Tryz.func109,Tryz.ntmps109
   go_wp2;go_ret;exact⟨⟨false,rfl,by simp only[Bool.false_eq_true,false_iff];intro h;have:=h.i2;omega⟩,sA⟩
 by_cases h3:g.rounds<0
 . go_enter Tryz.func109,Tryz.ntmps109
   go_wp2;go_ret;exact⟨⟨false,rfl,by simp only[Bool.false_eq_true,false_iff];intro h;have:=h.r0;omega⟩,sA⟩
 by_cases h4:1000<g.rounds
 . go_enter Tryz.func109,Tryz.ntmps109
   go_wp2;go_ret;exact⟨⟨false,rfl,by simp only[Bool.false_eq_true,false_iff];intro h;have:=h.r1;omega⟩,sA⟩
 by_cases h5:(g.nl:Int)=g.inn
 case neg=>
  have q5:((g.nl:Int) != g.inn)=true:=by simp[h5]
  go_enter Tryz.func109,Tryz.ntmps109;go_wp2;go_ret;exact⟨⟨false,rfl,by simp only[Bool.false_eq_true,false_iff];intro h;exact h5 h.l⟩,sA⟩
 have q5:((g.nl:Int) != g.inn)=false:=by simp[h5]
 have H5:=ae h5
 by_cases h6:(g.nh:Int)=g.inn
 case neg=>
  have q6:((g.nh:Int) != g.inn)=true:=by simp[h6]
  go_enter Tryz.func109,Tryz.ntmps109;go_wp2;go_ret;exact⟨⟨false,rfl,by simp only[Bool.false_eq_true,false_iff];intro h;exact h6 h.h⟩,sA⟩
 have q6:((g.nh:Int) != g.inn)=false:=by simp[h6]
 have H6:=ae h6
 by_cases h7:1000<g.nn
 . have q7:(1000:Int)<(g.nn:Int):=om
   go_enter Tryz.func109,Tryz.ntmps109;go_wp2;go_ret;exact⟨⟨false,rfl,by simp only[Bool.false_eq_true,false_iff];intro h;have:=h.n;omega⟩,sA⟩
 have q7:¬(1000:Int)<(g.nn:Int):=om
 obtain⟨b1,o1,-,L1⟩:=(H.aA sA).LL;have J1:=@lG aL lo b1 o1 g.nl kL g.Lo _ (Nat.zero_le _) (hT.stay hw sA) om om L1;go_enter Tryz.func109,Tryz.ntmps109;go_wp2_with fail;generalize w.alloc _=wA at*;refine J1.mono ?_;rintro e w1 ⟨r1,rfl,h8,s1⟩;have S1:=sA.tr s1;have p3:=(bA.aA s1).c3;cases r1
 . have N8:=ae h8
   clear h8;go_wp2;go_ret;exact⟨⟨false,rfl,by simp only[Bool.false_eq_true,false_iff];intro h;have:=N8.out.2 h.okL;cases this⟩,S1⟩
 have O1:=ae (h8.1 rfl);clear h8;obtain⟨b2,o2,-,L2⟩:=(H.aA S1).LH;have J2:=@lG aH lo b2 o2 g.nh kH g.Hi w1 (Nat.zero_le _) (hT.stay hw S1) om om L2;go_wp2_with fail;refine J2.mono ?_;rintro e w2 ⟨r2,rfl,h9,s2⟩;have N9:=ae h9;go_wp2;go_ret;exact⟨⟨r2,rfl,N9.out.trans ⟨fun h=>⟨om,om,om,om,H5.out,H6.out,om,O1.out,h⟩,fun h=>h.okH⟩⟩,S1.tr s2⟩
theorem wrap64{x:Int}(h0:-9223372036854775808<=x)(h1:x<9223372036854775808):IntKind.i64.wrap x=x:=by
 have h2:IntKind.i64.bits=64:=rfl;have h3:IntKind.i64.signed=true:=rfl;unfold IntKind.wrap;simp only[h2,h3]
 simp
 split<;>omega
theorem xt{fn:Func}{p q:Tmp}(h:fn.results= #[.cell p 44,.cell q 44])(tmps:Array Value)(w:World)(c d:Nat)(x y z x' y' z':Value)(hp:tmps.getD p undef=.p c 0)(hq:tmps.getD q undef=.p d 0)(B:bj w c x y z)(B':bj w d x' y' z'):
 (results fn tmps).run Tryz.prog w=.ok (.tuple #[.agg #[x,y,z],.agg #[x',y',z']]) w:=by
 have hp':tmps[p]?.getD undef=.p c 0:=by simpa using hp
 have hq':tmps[q]?.getD undef=.p d 0:=by simpa using hq
 have hl:=run_loadVar_mid (P:=Tryz.prog) w c 0 44 [x,y,z] _ (fun j v hv=>by
  rcases j with _ | _ | _ | j
  . simp at hv;subst hv;exact B.c0
  . simp at hv;subst hv;exact B.c1
  . simp at hv;subst hv;exact B.c2
  . simp at hv) Tryz.underlying44 rfl tF
 have hl':=run_loadVar_mid (P:=Tryz.prog) w d 0 44 [x',y',z'] _ (fun j v hv=>by
  rcases j with _ | _ | _ | j
  . simp at hv;subst hv;exact B'.c0
  . simp at hv;subst hv;exact B'.c1
  . simp at hv;subst hv;exact B'.c2
  . simp at hv) Tryz.underlying44 rfl tF
 simp[results,h,hp',hq',asAddr,hl,hl']
end Go.Proofs.YtclgkofcooibfaaGreatDoor
