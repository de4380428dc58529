import Derived.Test.YtclgkofcooibfaaGreatDoorOwnP41
import Derived.Test.YtclgkofcooibfaaGreatDoorOwnP34
set_option maxHeartbeats 6400000
set_option maxRecDepth 100000
namespace Go.Proofs.YtclgkofcooibfaaGreatDoor
open Go.RowKit
def jv(l:List UInt8):ByteArray:=⟨l.toArray⟩
def Plain(ws:List (List UInt8)):Prop:=∀l∈ws,l≠[]/\(32:UInt8)∉l/\(10:UInt8)∉l
theorem ad7{ws:List (List UInt8)}(h:Plain ws)(h0:ws≠[]):gQ 32 (Lib.join ws [32])=ws:=by
 induction ws with
 | nil=>exact absurd rfl h0
 | cons x r ih=>
   have hx:=(h x qz).2.1;rw[Lib.join_cons];cases r with
   | nil=>
     rw[show Lib.joinTail [32] ([]:List (List UInt8))=[] from rfl,List.append_nil];exact rx 32 x hx
   | cons y r=>
     have e:Lib.joinTail [32] (y::r)=32::Lib.join (y::r) [32]:=by rw[Lib.join_cons];simp[Lib.joinTail]
     rw[e,qt 32 _ x hx,ih (fun l hl=>h l (List.mem_cons_of_mem _ hl)) qz]
theorem aaB{ws:List (List UInt8)}(h:Plain ws)(h0:ws≠[]):cS (jv (Lib.join ws [32]))=ws.map jv:=by
 unfold cS fN jv;rw[ad7 h h0];rw[List.filter_eq_self];intro p hp;obtain⟨l,hl,rfl⟩:=List.mem_map.1 hp;have:=(h l hl).1;rw[adX];have:0<l.length:=List.length_pos_iff.2 this
 simpa using this
theorem adf{ws:List (List UInt8)}(h:Plain ws):(10:UInt8)∉Lib.join ws [32]:=by
 cases ws with
 | nil=>simp[Lib.join]
 | cons x r=>
   rw[Lib.join_cons,List.mem_append,not_or];refine⟨(h x qz).2.2,fun hm=> ?_⟩;unfold Lib.joinTail at hm;obtain⟨l,hl,hm⟩:=List.mem_flatten.1 hm;obtain⟨y,hy,rfl⟩:=List.mem_map.1 hl;rw[List.mem_append] at hm
   rcases hm with hm | hm
   . revert hm;decide
   . exact (h y (List.mem_cons_of_mem _ hy)).2.2 hm
def ig(LL:List (List (List UInt8))):List UInt8:=(LL.map fun ws=>Lib.join ws [32]++[10]).flatten
theorem ks(a b:List (List (List UInt8))):ig (a++b)=ig a++ig b:=by simp[ig]
theorem aeK{LL:List (List (List UInt8))}(h:∀ws∈LL,Plain ws/\ws≠[])(t:Nat):(cK t (fN 10 (jv (ig LL)))).map (·.2)=LL.map (·.map jv):=by
 induction LL generalizing t with
 | nil=>simp[ig,jv,fN,gQ,cK,cS];rfl
 | cons ws LL ih=>
   obtain⟨h1,h2⟩:=h ws qz;have e:ig (ws::LL)=Lib.join ws [32]++10::ig LL:=by simp[ig]
   have e2:fN 10 (jv (ig (ws::LL)))=jv (Lib.join ws [32])::fN 10 (jv (ig LL)):=by
    unfold fN jv;rw[e];simp only;rw[qt 10 _ _ (adf h1)]
    rfl
   have hw:=aaB h1 h2;have hne:¬cS (jv (Lib.join ws [32]))=[]:=by rw[hw];simpa using h2
   rw[e2,cK,if_neg hne,List.map_cons,ih (fun x hx=>h x (List.mem_cons_of_mem _ hx)),hw]
   rfl
def adF(g:ax)(j:Nat):List (List (List UInt8)):=(List.range j).map fun i=>[[98,111,120],(g.Lo i).aX,(g.Hi i).aX]
def wJ(g:ax)(k:Nat):List (List (List UInt8)):=(List.range k).map fun i=>dJ (g.N i).op::(dR (g.N i)++fx (g.N i).V (g.N i).nv)
def uR(g:ax):List (List (List UInt8)):=[[103,114,97,112,104],bu g.inn,bu g.rounds]::(adF g g.inn.toNat++(wJ g g.nn++[[[111,117,116,112,117,116],bu g.out]]))
theorem adE(g:ax)(j:Nat):ig (adF g j)=kj g j:=by
 induction j with
 | zero=>rfl
 | succ j ih=>
   rw[adF,List.range_succ,List.map_append,ks,<-adF,ih,kj]
   simp[ig,Lib.join_cons,Lib.joinTail]
theorem abb(g:ax)(k:Nat):ig (wJ g k)=eS g k:=by
 induction k with
 | zero=>rfl
 | succ k ih=>
   rw[wJ,List.range_succ,List.map_append,ks,<-wJ,ih,eS,<-pe]
   simp[ig]
theorem aav(g:ax):ig (uR g)=ei g:=by
 rw[uR,show ∀a b,ig (a::b)=ig [a]++ig b from fun a b=>ks [a] b,ks,ks,adE,abb,ei]
 simp[ig,Lib.join_cons,Lib.joinTail]
end Go.Proofs.YtclgkofcooibfaaGreatDoor
