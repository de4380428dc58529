import Derived.Test.YtclgkofcooibfaaGreatDoorOwnP9
import Derived.Maps.AppendAt
set_option maxHeartbeats 6400000
set_option maxRecDepth 100000
namespace Go.Proofs.YtclgkofcooibfaaGreatDoor
open Go.RowKit
theorem jx{w:World}{base:Nat}{v:Value}{k:Nat}{xs:List Value}(h:w.ownsRow base 129 1 v k xs):∃a cap,v=.slice a k cap/\k<=cap/\(a=none->cap=0)/\∀j,j<k->∃g,a=jp g 0:=by
 obtain⟨_,⟨rfl,rfl⟩ | ⟨g,cap,cur,rfl,_,_,hn,_⟩⟩:=h
 . exact⟨none,0,rfl,Nat.le_refl _,fun _=>rfl,fun j hj=>absurd hj om⟩
 . exact⟨_,cap,rfl,hn,fun h=>(by cases h),fun _ _=>⟨g,rfl⟩⟩
theorem afZ{w:World}{base g n cap:Nat}{V:Nat->Nat}(h:w.ownsRow base 129 1 (.s g n cap) n (ll V n))(i x:Nat)(hi:i<n):
 (w.setCell ⟨g,i,none⟩ (.int .u32 x)).ownsRow base 129 1 (.s g n cap) n (ll (fX V i x) n):=by
 obtain⟨hl,h | ⟨g',cap',cur,e,hb,hh,hn,hm,hs,ht⟩⟩:=h
 . cases h.1
 . cases e
   have r:w.rowIs g 129 cap (fun j=>cur[j]?.getD (.bool false)):=⟨cur,hh,by simpa using hs,fun j hj=>by
    show cur[j]?=some (cur[j]?.getD (.bool false));rw[Array.getElem?_eq_getElem om];rfl⟩
   obtain⟨c2,k1,k2,k3⟩:=r.set i (.int .u32 x);refine⟨by simp[ll],Or.inr ⟨g,cap,c2,rfl,hb,k1,hn,hm,by simpa using k2, ?_⟩⟩
   apply List.ext_getElem?
   intro j;rw[Nat.mul_one] at ht⊢
   by_cases hj:j<n
   . rw[List.getElem?_take_of_lt hj,Array.getElem?_toList,k3 j om]
     have h2:(ll V n)[j]?=cur[j]?:=by rw[<-ht,List.getElem?_take_of_lt hj,Array.getElem?_toList]
     simp only[ll,List.getElem?_map,List.getElem?_range hj,Option.map_some] at h2⊢
     by_cases e:j=i
     . subst e;simp[bK]
     . rw[if_neg e,az _ _ _ _ e,<-h2];rfl
   . rw[List.getElem?_eq_none (by simp;omega),List.getElem?_eq_none (by simp[ll];omega)]
theorem aet{w:World}{base g n cap:Nat}{V:Nat->Nat}(h:w.ownsRow base 129 1 (.s g n cap) n (ll V n))(i x:Nat)(hi:i<n)(E:Int)(hE:E=(x:Int)):
 (w.setCell ⟨g,i,none⟩ (.int .u32 E)).ownsRow base 129 1 (.s g n cap) n (ll (fX V i x) n):=by subst hE;exact afZ h i x hi
theorem aco(X:Nat->Nat)(n k:Nat)(h:n<=k):ll (cZ X n) k++[.int .u32 0]=ll (cZ X n) (k+1):=by
 simp only[ll,List.range_succ,List.map_append,List.map_cons,List.map_nil];have:cZ X n k=0:=by simp[cZ];omega
 rw[this];rfl
end Go.Proofs.YtclgkofcooibfaaGreatDoor
