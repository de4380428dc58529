import Derived.Test.YtclgkofcooibfaaGreatDoorOwnP28
import Derived.Test.YtclgkofcooibfaaGreatDoorOwnP33
set_option maxHeartbeats 6400000
set_option maxRecDepth 100000
namespace Go.Proofs.YtclgkofcooibfaaGreatDoor
open Go.RowKit
theorem yw(l:List UInt8)(k:Nat):bt ⟨l.toArray⟩ k=(l[k]?.getD 0).toNat:=by simp[bt]
theorem adX(l:List UInt8):(⟨l.toArray⟩:ByteArray).size=l.length:=by simp[ByteArray.size]
theorem uW{u:Nat}(h:¬u<10):Lib.decDigits u=Lib.decDigits (u/10)++[UInt8.ofNat (48+u % 10)]:=by
 conv=>lhs;rw[Lib.decDigits]
 rw[dif_neg h]
theorem tM{x:Nat}(h:x<10):(UInt8.ofNat (48+x)).toNat=48+x:=by
 rw[UInt8.toNat_ofNat'];omega
theorem oj(u:Nat):∀x∈Lib.decDigits u,48<=x.toNat/\x.toNat<=57:=by
 induction u using Nat.strongRecOn with
 | ind u ih=>
   intro x hx
   by_cases h:u<10
   . rw[Lib.decDigits_one h,List.mem_singleton] at hx
     subst hx;rw[tM h];omega
   . rw[uW h,List.mem_append,List.mem_singleton] at hx
     rcases hx with hx | rfl
     . exact ih (u/10) om x hx
     . rw[tM om];omega
theorem abC(u:Nat):Lib.decDigits u≠[]:=by
 by_cases h:u<10
 . rw[Lib.decDigits_one h];simp
 . rw[uW h];simp
theorem ahN(l r:List UInt8){k:Nat}(hk:k<=l.length):dv ⟨(l++r).toArray⟩ k=dv ⟨l.toArray⟩ k:=by
 induction k with
 | zero=>rfl
 | succ k ih=>rw[dv,dv,ih om,yw,yw,List.getElem?_append_left om]
theorem ahP(u:Nat):dv ⟨(Lib.decDigits u).toArray⟩ (Lib.decDigits u).length=u:=by
 induction u using Nat.strongRecOn with
 | ind u ih=>
   by_cases h:u<10
   . rw[Lib.decDigits_one h]
     show 0*10+(bt _ 0-48)=u
     rw[yw];simp only[List.getElem?_cons_zero,Option.getD_some];rw[tM h];omega
   . rw[uW h,List.length_append,List.length_singleton,dv,ahN _ _ (Nat.le_refl _),ih (u/10) om,yw,List.getElem?_append_right (Nat.le_refl _),Nat.sub_self]
     simp only[List.getElem?_cons_zero,Option.getD_some];rw[tM om];omega
theorem ac2(u:Nat):dv ⟨(Lib.decDigits u).toArray⟩ (⟨(Lib.decDigits u).toArray⟩:ByteArray).size=u:=by rw[adX];exact ahP u
theorem aap{l:List UInt8}{c:UInt8}(h:c∉l):firstIdx ⟨l.toArray⟩ c=-1:=by
 rcases jG ⟨l.toArray⟩ c with ⟨e,-⟩ | ⟨i,hi,-,hb,-⟩
 . exact e
 . rw[adX] at hi
   rw[yw,List.getElem?_eq_getElem hi,Option.getD_some,UInt8.toNat_inj] at hb;exact absurd (hb▸List.getElem_mem hi) h
theorem acw{l r:List UInt8}{c:UInt8}(h:c∉l):firstIdx ⟨(l++c::r).toArray⟩ c=(l.length:Int):=by
 have hat:bt ⟨(l++c::r).toArray⟩ l.length=c.toNat:=by
  rw[yw,List.getElem?_append_right (Nat.le_refl _),Nat.sub_self];rfl
 have hsz:l.length<(⟨(l++c::r).toArray⟩:ByteArray).size:=by rw[adX];simp
 rcases jG ⟨(l++c::r).toArray⟩ c with ⟨-,hn⟩ | ⟨i,hi,e,hb,hn⟩
 . exact absurd hat (hn _ hsz)
 . rw[e]
   rcases Nat.lt_trichotomy i l.length with h1 | h1 | h1
   . rw[yw,List.getElem?_append_left h1,List.getElem?_eq_getElem h1,Option.getD_some,UInt8.toNat_inj] at hb
     exact absurd (hb▸List.getElem_mem h1) h
   . rw[h1]
   . exact absurd hat (hn _ h1)
theorem agp(u:Nat):(47:UInt8)∉Lib.decDigits u:=fun h=>by
 have:=(oj u _ h).1
 revert this;decide
def xu(N D:Nat):List UInt8:=Lib.decDigits N++(if D=1 then [] else 47::Lib.decDigits D)
theorem ain(N D:Nat):d9 ⟨(xu N D).toArray⟩=⟨(Lib.decDigits N).toArray⟩:=by
 unfold d9 xu
 by_cases h:D=1
 . rw[if_pos h,List.append_nil,if_pos (aap (agp N))]
 . rw[if_neg h,acw (agp N),if_neg om,Int.toNat_natCast]
   apply iF
   rw[Lib.extract_data]
   simp
theorem aiK(N D:Nat):dj ⟨(xu N D).toArray⟩=⟨(Lib.decDigits D).toArray⟩:=by
 unfold dj xu
 by_cases h:D=1
 . rw[if_pos h,List.append_nil,if_pos (aap (agp N)),h]
   rw[Lib.decDigits_one om]
   rfl
 . rw[if_neg h,acw (agp N),if_neg om,Int.toNat_natCast]
   apply iF
   rw[Lib.extract_to_end]
   simp
theorem afO(neg:Bool)(N D:Nat):nJ ⟨(dV neg N D).toArray⟩=neg/\runs ⟨(dV neg N D).toArray⟩=⟨(xu N D).toArray⟩:=by
 have e:dV neg N D=(if neg then [45] else [])++xu N D:=rfl;have hU:xu N D≠[]:=by unfold xu;simp[abC]
 have hs:nJ ⟨(dV neg N D).toArray⟩=neg:=by
  unfold nJ;cases neg
  . obtain⟨x,t,hx⟩:=List.exists_cons_of_ne_nil (abC N)
    have hm:=oj N x (by rw[hx];simp);have h0:bt ⟨(dV false N D).toArray⟩ 0=x.toNat:=by rw[yw,e,xu,hx];rfl
    rw[h0];have:¬x.toNat=45:=om
    simp[this]
  . have h0:bt ⟨(dV true N D).toArray⟩ 0=45:=by rw[yw,e];rfl
    rw[h0,adX,e]
    simp
 refine⟨hs, ?_⟩;unfold runs;rw[hs,e];cases neg
 . rfl
 . show (ByteArray.mk _).extract 1 _=_
   apply iF
   rw[Lib.extract_to_end]
   rfl
theorem acY{neg:Bool}{N D:Nat}(hg:Nat.gcd N D=1)(hn:neg=true->N≠0)(h:dI ⟨(dV neg N D).toArray⟩):ak ⟨(dV neg N D).toArray⟩=(neg,N,D,0):=by
 obtain⟨e1,e2⟩:=afO neg N D;unfold dI at h;unfold ak at h⊢;simp only[e1,e2,ain,aiK,ac2] at h⊢
 split at h
 . cases h
 . rename_i h1
   split at h
   . cases h
   . rename_i h2
     split at h
     . cases h
     . rename_i h3
       simp only[if_neg h1,if_neg h2,if_neg h3,hg,Nat.div_one];cases neg
       . simp
       . simp[hn rfl]
end Go.Proofs.YtclgkofcooibfaaGreatDoor
