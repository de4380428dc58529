import Derived.Test.YtclgkofcooibfaaGreatDoorOwnP4
import Derived.Lib.Bytealg
set_option maxHeartbeats 6400000
set_option maxRecDepth 100000
namespace Go.Proofs.YtclgkofcooibfaaGreatDoor
open Go.RowKit
def bt(s:ByteArray)(k:Nat):Nat:=(s.data.toList[k]?.getD 0).toNat
theorem jI{s:ByteArray}{k:Nat}(h:k<s.size):(s[k]'h).toNat=bt s k:=by
 have hq:k<s.data.toList.length:=by rw[<-Lib.size_eq];exact h
 have e:s[k]'h=s.data.toList[k]'hq:=rfl;simp only[bt,List.getElem?_eq_getElem hq,Option.getD_some,e]
theorem aa5(s:ByteArray)(k:Nat):bt s k<256:=UInt8.toNat_lt _
def ahT(s:ByteArray):Prop:=∀k,k<s.size->48<=bt s k/\bt s k<=57
def ix(s:ByteArray):Bool:= @decide (ahT s) (inferInstanceAs (Decidable (∀k,k<s.size->48<=bt s k/\bt s k<=57)))&&decide (0<s.size)
theorem qq{s:ByteArray}{k:Nat}(hk:k<s.size)(h:bt s k<48∨57<bt s k):ix s=false:=by
 have:¬ahT s:=fun h'=>by have:=h' k hk;omega
 simp[ix,this]
theorem uV{s:ByteArray}(h:∀k,k<s.size->48<=bt s k/\bt s k<=57):ix s=decide (0<s.size):=by
 have:ahT s:=h
 simp[ix,this]
theorem pS{s:ByteArray}{w:World}(hs:s.size<=16777217):
 Cl 123 #[.string s] w fun e w'=>e=.returned (.bool (ix s))/\Same w w':=by
 obtain⟨d,hd⟩:∃d,d=ix s:=⟨_,rfl⟩;rw[<-hd];have HD0:=ae hd;clear hd;go_enter Tryz.func123,Tryz.ntmps123;go_wp2
 go_loopw [3] (fun t wr=>∃k:Nat,k<=s.size/\t=.i k/\Same w wr/\Hid (∀j,j<k->48<=bt s j/\bt s j<=57)) (fun t _=>s.size-(intOf t).toNat)
 case atStart=>exact⟨0,Nat.zero_le _,rfl,Same.refl _,ae (fun j hj=>absurd hj om)⟩
 case round=>
  obtain⟨k,hk,rfl,sm,HD⟩:=hrel
  by_cases hlt:k<s.size
  . have hlt':(k:Int)<(s.size:Int):=om
    have hx:=jI hlt;have hx2:=aa5 s k
    by_cases c1:bt s k<48
    . obtain rfl:d=false:=by rw[HD0.out];exact qq hlt (Or.inl c1)
      obtain⟨x,ex⟩:∃x,x=bt s k:=⟨_,rfl⟩;rw[<-ex] at hx hx2 c1;go_wp2;go_ret;exact⟨rfl,sm⟩
    . by_cases c2:57<bt s k
      . obtain rfl:d=false:=by rw[HD0.out];exact qq hlt (Or.inr c2)
        obtain⟨x,ex⟩:∃x,x=bt s k:=⟨_,rfl⟩;rw[<-ex] at hx hx2 c1 c2;go_wp2;go_ret;exact⟨rfl,sm⟩
      . have HD1:Hid (∀j,j<k+1->48<=bt s j/\bt s j<=57):=ae (fun j hj=>by
         by_cases e:j=k
         . subst e;omega
         . exact HD.out j om)
        obtain⟨x,ex⟩:∃x,x=bt s k:=⟨_,rfl⟩;rw[<-ex] at hx hx2 c1 c2;go_wp2;go_roundw
        case rel=>exact⟨k+1,om,by go_num,sm,HD1⟩
        case measure=>simp[intOf];omega
  . have e:k=s.size:=om
    obtain rfl:d=decide (0<s.size):=by rw[HD0.out];exact uV (fun j hj=>HD.out j om)
    go_wp2;go_ret;exact⟨rfl,sm⟩
theorem lq{s:ByteArray}{w:World}(hs:s.size<=16777217):
 Cl 132 #[.string s] w fun e w'=>e=.returned (.bool (ix s))/\Same w w':=by
 obtain⟨d,hd⟩:∃d,d=ix s:=⟨_,rfl⟩;rw[<-hd];have HD0:=ae hd;clear hd;go_enter Tryz.func132,Tryz.ntmps132;go_wp2
 go_loopw [6] (fun t wr=>∃k:Nat,k<=s.size/\t=.i k/\Same w wr/\Hid (∀j,j<k->48<=bt s j/\bt s j<=57)) (fun t _=>s.size-(intOf t).toNat)
 case atStart=>exact⟨0,Nat.zero_le _,rfl,Same.refl _,ae (fun j hj=>absurd hj om)⟩
 case round=>
  obtain⟨k,hk,rfl,sm,HD⟩:=hrel
  by_cases hlt:k<s.size
  . have hlt':(k:Int)<(s.size:Int):=om
    have hx:=jI hlt;have hx2:=aa5 s k
    by_cases c1:bt s k<48
    . obtain rfl:d=false:=by rw[HD0.out];exact qq hlt (Or.inl c1)
      obtain⟨x,ex⟩:∃x,x=bt s k:=⟨_,rfl⟩;rw[<-ex] at hx hx2 c1;go_wp2;go_ret;exact⟨rfl,sm⟩
    . by_cases c2:57<bt s k
      . obtain rfl:d=false:=by rw[HD0.out];exact qq hlt (Or.inr c2)
        obtain⟨x,ex⟩:∃x,x=bt s k:=⟨_,rfl⟩;rw[<-ex] at hx hx2 c1 c2;go_wp2;go_ret;exact⟨rfl,sm⟩
      . have HD1:Hid (∀j,j<k+1->48<=bt s j/\bt s j<=57):=ae (fun j hj=>by
         by_cases e:j=k
         . subst e;omega
         . exact HD.out j om)
        obtain⟨x,ex⟩:∃x,x=bt s k:=⟨_,rfl⟩;rw[<-ex] at hx hx2 c1 c2;go_wp2;go_roundw
        case rel=>exact⟨k+1,om,by go_num,sm,HD1⟩
        case measure=>simp[intOf];omega
  . have e:k=s.size:=om
    obtain rfl:d=decide (0<s.size):=by rw[HD0.out];exact uV (fun j hj=>HD.out j om)
    go_wp2;go_ret;exact⟨rfl,sm⟩
theorem iQ(s:ByteArray){i j:Nat}(h:i<=j)(hj:j<=s.size):(s.extract i j).size=j-i:=by
 rw[Lib.size_eq,Lib.extract_data,List.length_take,List.length_drop,<-Lib.size_eq];omega
theorem jn(s:ByteArray){i j k:Nat}(h:k<j-i):bt (s.extract i j) k=bt s (i+k):=by
 unfold bt;rw[Lib.extract_data,List.getElem?_take_of_lt h,List.getElem?_drop]
theorem iF{a b:ByteArray}(h:a.data.toList=b.data.toList):a=b:=by
 cases a;cases b;congr;exact Array.toList_inj.1 h
theorem afp{s t:ByteArray}(hs:s.size=t.size)(h:∀k,k<s.size->bt s k=bt t k):s=t:=by
 apply iF
 apply List.ext_getElem
 . rw[<-Lib.size_eq,<-Lib.size_eq,hs]
 . intro k h1 h2
   have h3:k<s.size:=by rw[Lib.size_eq];exact h1
   have:=h k h3;unfold bt at this;rw[List.getElem?_eq_getElem h1,List.getElem?_eq_getElem h2] at this;exact UInt8.toNat_inj.1 this
theorem jc(s:ByteArray):(firstIdx s 47=-1/\∀k,k<s.size->bt s k≠47)∨∃i,i<s.size/\firstIdx s 47=(i:Int)/\bt s i=47/\∀k,k<i->bt s k≠47:=by
 have key:∀k,k<s.size->((s[k]! ==47)=true↔bt s k=47):=fun k hk=>by
  rw[getElem!_pos s k hk,beq_iff_eq,<-jI hk,<-UInt8.toNat_inj];exact Iff.rfl
 unfold firstIdx;cases e:(List.range s.size).find? fun i=>s[i]! ==47 with
 | none=>
   refine Or.inl ⟨rfl,fun k hk h=> ?_⟩;have:=List.find?_eq_none.1 e k (List.mem_range.2 hk);exact this ((key k hk).2 h)
 | some i=>
   obtain⟨h1,h2,h3⟩:=List.find?_range_eq_some.1 e;have hi:=List.mem_range.1 h2;refine Or.inr ⟨i,hi,rfl,(key i hi).1 h1,fun k hk h=> ?_⟩;have:=h3 k hk;rw[(key k om).2 h] at this;cases this
theorem vR{s:ByteArray}{w:World}:
 Cl 196 #[.string s,.int .u8 47] w fun e w'=>e=.returned (.i (firstIdx s 47))/\w'=w:=by
 go_enter Tryz.func196,Tryz.ntmps196;go_wp2;rw[run_callFunc_extern Tryz.func212 kr kr kr (e:=Extern.BytealgIndexByte.indexByte) kr,run_indexByte_string];simp only[Result.andThen];rw[Oper.upon_value];go_wp2;go_ret;exact⟨rfl,rfl⟩
theorem adz{s t:ByteArray}{w:World}(hs:s.size<=16777217)(ht:t.size=1)(h47:bt t 0=47):
 Cl 183 #[.string s,.string t] w fun e w'=>e=.returned (.i (firstIdx s 47))/\w'=w:=by
 obtain⟨z,hz⟩:∃z,z=firstIdx s 47:=⟨_,rfl⟩;rw[<-hz];have ht':(t.size:Int)=1:=om
 have h0:0<t.size:=om
 have hb:=(jI h0).trans h47
 by_cases h:t.toList=s.toList
 . have he:t=s:=iF (by rw[<-Lib.toList_data,<-Lib.toList_data,h])
   subst he;have hbe:(t.toList==t.toList)=true:=by simp
   obtain rfl:z=0:=by
    rw[hz]
    rcases jc t with ⟨-,h2⟩ | ⟨i,h2,h3,h4,h5⟩
    . exact absurd h47 (h2 0 h0)
    . rw[h3];have:i=0:=om
      omega
   go_enter Tryz.func183,Tryz.ntmps183;go_wp2;go_ret;exact⟨rfl,rfl⟩
 . have hbe:(t.toList==s.toList)=false:=by simpa using h
   have HZ:=ae hz;go_enter Tryz.func183,Tryz.ntmps183;go_wp2_with fail;refine (vR).mono ?_;rintro e w1 ⟨rfl,rfl⟩;go_wp2;go_ret;exact⟨di HZ.out.symm,rfl⟩
theorem af1{s t:ByteArray}{w:World}(hs:s.size<=16777217)(ht:t.size=1)(h47:bt t 0=47):
 Cl 201 #[.string s,.string t] w fun e w'=>Same w w'/\((firstIdx s 47=-1/\e=.returned (.tuple #[.string s,.string ByteArray.empty,.bool false]))∨∃i:Nat,i<s.size/\firstIdx s 47=(i:Int)/\e=.returned (.tuple #[.string (s.extract 0 i),.string (s.extract (i+1) s.size),.bool true])):=by
 have ht':(t.size:Int)=1:=om
 have J:=@adz s t w hs ht h47
 rcases jc s with ⟨h1,-⟩ | ⟨i,hi,h1,-,-⟩
 . rw[h1] at J
   have H1:=ae h1;go_enter Tryz.func201,Tryz.ntmps201;go_wp2_with fail;refine J.mono ?_;rintro e w1 ⟨rfl,rfl⟩;go_wp2
   go_ret3
   exact⟨Same.refl _,Or.inl ⟨H1.out,rfl⟩⟩
 . rw[h1] at J
   have H1:=ae h1;have hi0:(0:Int)<=i:=om
   go_enter Tryz.func201,Tryz.ntmps201;go_wp2_with fail;refine J.mono ?_;rintro e w1 ⟨rfl,rfl⟩;go_wp2
   go_quiet (fail)
   go_wp2
   go_ret3
   exact⟨(Same.refl _).drewN _,Or.inr ⟨i,hi,H1.out,rfl⟩⟩
theorem agD{s t:ByteArray}{w:World}(hs:s.size<=16777217)(ht:t.size=1)(h47:bt t 0=47):
 Cl 185 #[.string s,.string t] w fun e w'=>Same w w'/\((firstIdx s 47=-1/\e=.returned (.tuple #[.string s,.string ByteArray.empty,.bool false]))∨∃i:Nat,i<s.size/\firstIdx s 47=(i:Int)/\e=.returned (.tuple #[.string (s.extract 0 i),.string (s.extract (i+1) s.size),.bool true])):=by
 have J:=@af1 s t w hs ht h47;go_enter Tryz.func185,Tryz.ntmps185;go_wp2_with fail;refine J.mono ?_;rintro e w1 ⟨s1,⟨h1,rfl⟩ | ⟨i,hi,h1,rfl⟩⟩
 . go_wp2
   go_ret3
   exact⟨s1,Or.inl ⟨h1,rfl⟩⟩
 . go_wp2
   go_ret3
   exact⟨s1,Or.inr ⟨i,hi,h1,rfl⟩⟩
def nJ(s:ByteArray):Bool:=decide (0<s.size)&&decide (bt s 0=45)
theorem ah1{s t:ByteArray}(h0:0<s.size)(ht:t.size=1)(h45:bt t 0=45):((s.extract 0 1).toList==t.toList)=decide (bt s 0=45):=by
 have e1:(s.extract 0 1).size=1:=iQ s om om;have e2:bt (s.extract 0 1) 0=bt s 0:=jn s om;rw[Bool.eq_iff_iff,beq_iff_eq,decide_eq_true_iff]
 constructor
 . intro h
   have he:s.extract 0 1=t:=iF (by rw[<-Lib.toList_data,<-Lib.toList_data,h]);rw[<-e2,he];exact h45
 . intro h
   have he:s.extract 0 1=t:=afp om (fun k hk=>by rw[show k=0 by omega,e2,h,h45]);rw[he]
theorem uZ{s t:ByteArray}{w:World}(hs:s.size<=16777217)(ht:t.size=1)(h45:bt t 0=45):
 Cl 200 #[.string s,.string t] w fun e w'=>Same w w'/\e=.returned (.tuple #[.string (if nJ s then s.extract 1 s.size else s),.bool (nJ s)]):=by
 have ht':(t.size:Int)=1:=om
 by_cases h0:0<s.size
 . have hp:=ah1 h0 ht h45
   have h1:(1:Int)<=(s.size:Int):=om
   by_cases c:bt s 0=45
   . have hg:nJ s=true:=by simp[nJ,h0,c]
     rw[hg,if_pos rfl];have hp':((s.extract 0 1).toList==t.toList)=true:=by rw[hp];simp[c]
     go_enter Tryz.func200,Tryz.ntmps200;go_wp2;go_ret2;exact⟨Same.refl _,rfl⟩
   . have hg:nJ s=false:=by simp[nJ,c]
     rw[hg,if_neg qz];have hp':((s.extract 0 1).toList==t.toList)=false:=by rw[hp];simp[c]
     go_enter Tryz.func200,Tryz.ntmps200;go_wp2;go_ret2;exact⟨Same.refl _,rfl⟩
 . have hg:nJ s=false:=by simp[nJ,h0]
   have h1:¬(1:Int)<=(s.size:Int):=om
   rw[hg,if_neg qz];go_enter Tryz.func200,Tryz.ntmps200;go_wp2;go_ret2;exact⟨Same.refl _,rfl⟩
theorem vZ{s t:ByteArray}{w:World}(hs:s.size<=16777217)(ht:t.size=1)(h45:bt t 0=45):
 Cl 184 #[.string s,.string t] w fun e w'=>Same w w'/\e=.returned (.tuple #[.string (if nJ s then s.extract 1 s.size else s),.bool (nJ s)]):=by
 have J:=@uZ s t w hs ht h45;obtain⟨u,hu⟩:∃u,u=if nJ s then s.extract 1 s.size else s:=⟨_,rfl⟩;obtain⟨g,hg⟩:∃g,g=nJ s:=⟨_,rfl⟩;rw[<-hu,<-hg] at J⊢;clear hu hg;go_enter Tryz.func184,Tryz.ntmps184;go_wp2_with fail;refine J.mono ?_;rintro e w1 ⟨s1,rfl⟩;go_wp2;go_ret2;exact⟨s1,rfl⟩
end Go.Proofs.YtclgkofcooibfaaGreatDoor
