import Derived.Test.YtclgkofcooibfaaGreatDoorOwnP28
import Derived.Test.YtclgkofcooibfaaGreatDoorOwnP27
import Derived.Lib.Join
set_option maxHeartbeats 6400000
set_option maxRecDepth 100000
namespace Go.Proofs.YtclgkofcooibfaaGreatDoor
open Go.RowKit
def br.aX(r:br):List UInt8:=dV r.neg (lv r.X r.n) (lv r.Y r.m)
def dK(V:Nat->br):Nat->List UInt8
 | 0=>[]
 | n+1=>dK V n++(32::(V n).aX)
def fx(V:Nat->br)(n:Nat):List (List UInt8):=(List.range n).map fun i=>(V i).aX
theorem wu(V:Nat->br)(n:Nat):fx V (n+1)=fx V n++[(V n).aX]:=by simp[fx,List.range_succ]
theorem uc(V:Nat->br)(n:Nat):(fx V n).length=n:=by simp[fx]
theorem lS(sep:List UInt8)(a b:List (List UInt8)):Lib.joinTail sep (a++b)=Lib.joinTail sep a++Lib.joinTail sep b:=by simp[Lib.joinTail]
theorem vP(V:Nat->br)(n:Nat):Lib.joinTail [32] (fx V n)=dK V n:=by
 induction n with
 | zero=>rfl
 | succ n ih=>rw[wu,lS,ih];simp[Lib.joinTail,dK]
def bu(z:Int):List UInt8:=Lib.decDigits z.toNat
theorem aeU{z:Int}(h:0<=z):Lib.itoa z=bu z:=by unfold Lib.itoa bu;rw[if_neg om]
def dR(d:ay):List (List UInt8):=bu d.a::((if gG d.op=true then [bu d.b] else [])++((if iz d.op=true then [bu d.k] else [])++(if gF d.op=true then [bu d.s] else [])))
def dJ(z:Int):List UInt8:=
 if z=1 then [100,101,110,115,101] else if z=2 then [114,101,108,117] else if z=3 then [108,101,97,107,121] else if z=4 then [97,100,100]
 else if z=5 then [109,97,120,112,111,111,108] else if z=6 then [99,111,110,118] else [110,111,114,109]
def jr(d:ay):List UInt8:=dJ d.op++(Lib.joinTail [32] (dR d)++dK d.V d.nv)
theorem pe(d:ay):Lib.join (dJ d.op::(dR d++fx d.V d.nv)) [32]=jr d:=by
 rw[Lib.join_cons,lS,vP];rfl
def kj(g:ax):Nat->List UInt8
 | 0=>[]
 | j+1=>kj g j++([98,111,120,32]++((g.Lo j).aX++(32::((g.Hi j).aX++[10]))))
def eS(g:ax):Nat->List UInt8
 | 0=>[]
 | k+1=>eS g k++(jr (g.N k)++[10])
def ei(g:ax):List UInt8:=
 [103,114,97,112,104,32]++(bu g.inn++(32::(bu g.rounds++(10::(kj g g.inn.toNat++(eS g g.nn++([111,117,116,112,117,116,32]++(bu g.out++[10]))))))))
theorem dq{z:Int}(h:z<=9223372036854775807):(bu z).length<=65:=by
 unfold bu;rw[Lib.decDigits_length];exact uC om
theorem ahd{X:Nat->Nat}{n:Nat}(h:∀j,j<n->X j<4294967296):(Lib.decDigits (lv X n)).length<=32*n+1:=by
 rw[Lib.decDigits_length];have:=uC (fy X n h);omega
theorem py{r:br}(h:r.aU):r.aX.length<=32*(r.n+r.m)+4:=by
 unfold br.aX dV;have h1:=ahd h.1;have h2:=ahd h.2;rw[List.length_append,List.length_append];have e1:(if r.neg=true then [45] else ([]:List UInt8)).length<=1:=by split<;>simp
 have e2:(if lv r.Y r.m=1 then ([]:List UInt8) else 47::Lib.decDigits (lv r.Y r.m)).length<=32*r.m+2:=by
  split
  . simp
  . simp only[List.length_cons];omega
 omega
theorem kw{V:Nat->br}{n:Nat}(h:∀c,c<n->(V c).aU):(dK V n).length<=32*mj V n+5*n:=by
 induction n with
 | zero=>simp[dK]
 | succ n ih=>
   have h1:=ih (fun c hc=>h c om);have h2:=py (h n om);have e:mj V (n+1)=mj V n+((V n).n+(V n).m):=rfl;rw[dK,List.length_append,List.length_cons,e];omega
theorem agH{g:ax}{j:Nat}(hl:∀c,c<j->(g.Lo c).aU)(hh:∀c,c<j->(g.Hi c).aU):(kj g j).length<=32*(mj g.Lo j+mj g.Hi j)+14*j:=by
 induction j with
 | zero=>simp[kj]
 | succ j ih=>
   have h1:=ih (fun c hc=>hl c om) (fun c hc=>hh c om);have h2:=py (hl j om);have h3:=py (hh j om);have e1:=ky g.Lo j;have e2:=ky g.Hi j;rw[kj,e1,e2];simp only[List.length_append,List.length_cons,List.length_nil];omega
theorem adS(z:Int):(dJ z).length<=7:=by
 unfold dJ
 repeat' split
 all_goals simp
theorem aeV{d:ay}(ha:d.a<=9223372036854775807)(hb:d.b<=9223372036854775807)(hk:d.k<=9223372036854775807)(hs:d.s<=9223372036854775807):(Lib.joinTail [32] (dR d)).length<=264:=by
 have h1:=dq ha;have h2:=dq hb;have h3:=dq hk;have h4:=dq hs;rw[Lib.joinTail_length];unfold dR
 repeat' split
 all_goals simp[Lib.lens]
 all_goals omega
theorem ae1{d:ay}(ha:d.a<=9223372036854775807)(hb:d.b<=9223372036854775807)(hk:d.k<=9223372036854775807)(hs:d.s<=9223372036854775807)(h:∀c,c<d.nv->(d.V c).aU):(jr d).length<=37*d.size+271:=by
 have h1:=adS d.op;have h2:=aeV ha hb hk hs;have h3:=kw h;unfold jr ay.size;rw[List.length_append,List.length_append];omega
theorem ade{g:ax}{k:Nat}(h:∀j,j<k->(jr (g.N j)).length<=37*(g.N j).size+271):(eS g k).length<=37*vt g.N k+272*k:=by
 induction k with
 | zero=>simp[eS]
 | succ k ih=>
   have h1:=ih (fun j hj=>h j om);have h2:=h k om;have e:=i8 g.N k;rw[eS,e];simp only[List.length_append,List.length_cons,List.length_nil];omega
structure jO(g:ax):Prop where
 head:kO g
 box:∀j:Nat,(j:Int)<g.inn->¬fK g j
 node:∀k,k<g.nn->nc g k=0
 o0:0<=g.out
 o1:g.out<=g.nn
theorem jO.zero{g:ax}{n:Nat}{Y:Nat->Int}{c a:Int}(E:jO g)(h:wh g n Y c a):c=0:=
 (wh.only (n:=g.nn+1) (X:=iw g g.nn) (c:=0) (a:=0) (.inr (.inr (.inr (.inr ⟨E.head,E.box,E.node,⟨E.o0,E.o1⟩,rfl,fun _ _=>rfl,rfl,rfl⟩)))) h).2.1
theorem jO.of{g:ax}{n:Nat}{Y:Nat->Int}{a:Int}(h:wh g n Y 0 a):jO g:=by
 rcases h with ⟨-,-,e,-⟩ | ⟨-,j,-,-,-,-,e,-⟩ | ⟨-,-,i,-,-,e,-,e2,-⟩ | ⟨-,-,-,-,-,e,-⟩ | ⟨p0,p1,p2,p3,-⟩
 . cases e
 . cases e
 . exact absurd e2.symm e
 . cases e
 . exact⟨p0,p1,p2,p3.1,p3.2⟩
theorem jO.at_{g:ax}(E:jO g){k:Nat}(hk:k<g.nn):(g.N k).Form/\0<=(g.N k).a/\0<=(g.N k).b:=by
 obtain⟨f,⟨a0,ai,sb⟩,-⟩:=ry (E.node k hk);refine⟨f,a0, ?_⟩
 by_cases hb:gG (g.N k).op=true
 . exact (sb hb).1
 . have:=f.b (by simpa using hb)
   omega
end Go.Proofs.YtclgkofcooibfaaGreatDoor
