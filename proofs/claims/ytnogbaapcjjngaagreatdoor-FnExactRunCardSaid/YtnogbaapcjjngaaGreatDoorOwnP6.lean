import Derived.Test.YtnogbaapcjjngaaGreatDoorOwnP3
import Derived.Lib.Strings
import Derived.Lib.Bytealg
set_option maxHeartbeats 6400000
set_option maxRecDepth 100000
namespace Go.Proofs.YtnogbaapcjjngaaGreatDoor
open Go.RowKit
def bt (s : ByteArray) (k : Nat) : Nat := (s.data.toList[k]?.getD 0).toNat
theorem bt_in {s : ByteArray} {k : Nat} (h : k < s.size) : (s[k]'h).toNat = bt s k := by
 have hq : k < s.data.toList.length := by rw [<- Lib.size_eq]; exact h
 have e : s[k]'h = s.data.toList[k]'hq := rfl; simp only [bt, List.getElem?_eq_getElem hq, Option.getD_some, e]
theorem bt_lt (s : ByteArray) (k : Nat) : bt s k < 256 := UInt8.toNat_lt _
def digs (s : ByteArray) : Prop := ∀ k, k < s.size -> 48 <= bt s k /\ bt s k <= 57
def digB (s : ByteArray) : Bool := @decide (digs s) (inferInstanceAs (Decidable (∀ k, k < s.size → 48 ≤ bt s k ∧ bt s k ≤ 57))) && decide (0 < s.size)
theorem digB_no {s : ByteArray} {k : Nat} (hk : k < s.size) (h : bt s k < 48 ∨ 57 < bt s k) : digB s = false := by
 have : ¬ digs s := fun h' => by have := h' k hk; omega
 simp [digB, this]
theorem digB_yes {s : ByteArray} (h : ∀ k, k < s.size -> 48 <= bt s k /\ bt s k <= 57) : digB s = decide (0 < s.size) := by
 have : digs s := h
 simp [digB, this]
theorem l1Digits_any (s : ByteArray) (w : World) (hs : s.size <= 16777217) :
 Calls Tryz.prog 91 #[.string s] w fun e w' => e = .returned (.bool (digB s)) /\ Same w w' := by
 obtain ⟨d, hd⟩ : ∃ d, d = digB s := ⟨_, rfl⟩; rw [<- hd]; have HD0 := hide hd; clear hd; go_enter Tryz.func91, Tryz.ntmps91; go_wp2
 go_loopw [3] (fun t wr => ∃ k : Nat, k <= s.size /\ t = .int .i64 k /\ Same w wr /\ Hid (∀ j, j < k -> 48 <= bt s j /\ bt s j <= 57)) (fun t _ => s.size - (intOf t).toNat)
 case atStart => exact ⟨0, Nat.zero_le _, rfl, Same.refl _, hide (fun j hj => absurd hj (by omega))⟩
 case round =>
  obtain ⟨k, hk, rfl, sm, HD⟩ := hrel
  by_cases hlt : k < s.size
  . have hlt' : (k : Int) < (s.size : Int) := by omega
    have hx := bt_in hlt; have hx2 := bt_lt s k
    by_cases c1 : bt s k < 48
    . obtain rfl : d = false := by rw [HD0.out]; exact digB_no hlt (Or.inl c1)
      obtain ⟨x, ex⟩ : ∃ x, x = bt s k := ⟨_, rfl⟩; rw [<- ex] at hx hx2 c1; clear ex; go_wp2; go_ret; exact ⟨rfl, sm⟩
    . by_cases c2 : 57 < bt s k
      . obtain rfl : d = false := by rw [HD0.out]; exact digB_no hlt (Or.inr c2)
        obtain ⟨x, ex⟩ : ∃ x, x = bt s k := ⟨_, rfl⟩; rw [<- ex] at hx hx2 c1 c2; clear ex; go_wp2; go_ret; exact ⟨rfl, sm⟩
      . have HD1 : Hid (∀ j, j < k + 1 -> 48 <= bt s j /\ bt s j <= 57) := hide (fun j hj => by
         by_cases e : j = k
         . subst e; omega
         . exact HD.out j (by omega))
        obtain ⟨x, ex⟩ : ∃ x, x = bt s k := ⟨_, rfl⟩; rw [<- ex] at hx hx2 c1 c2; clear ex; go_wp2; go_roundw
        case rel => exact ⟨k + 1, by omega, by go_num, sm, HD1⟩
        case measure => simp [intOf]; omega
  . have e : k = s.size := by omega
    obtain rfl : d = decide (0 < s.size) := by rw [HD0.out]; exact digB_yes (fun j hj => HD.out j (by omega))
    go_wp2; go_ret; exact ⟨rfl, sm⟩
theorem isDigits_any (s : ByteArray) (w : World) (hs : s.size <= 16777217) :
 Calls Tryz.prog 96 #[.string s] w fun e w' => e = .returned (.bool (digB s)) /\ Same w w' := by
 obtain ⟨d, hd⟩ : ∃ d, d = digB s := ⟨_, rfl⟩; rw [<- hd]; have HD0 := hide hd; clear hd; go_enter Tryz.func96, Tryz.ntmps96; go_wp2
 go_loopw [6] (fun t wr => ∃ k : Nat, k <= s.size /\ t = .int .i64 k /\ Same w wr /\ Hid (∀ j, j < k -> 48 <= bt s j /\ bt s j <= 57)) (fun t _ => s.size - (intOf t).toNat)
 case atStart => exact ⟨0, Nat.zero_le _, rfl, Same.refl _, hide (fun j hj => absurd hj (by omega))⟩
 case round =>
  obtain ⟨k, hk, rfl, sm, HD⟩ := hrel
  by_cases hlt : k < s.size
  . have hlt' : (k : Int) < (s.size : Int) := by omega
    have hx := bt_in hlt; have hx2 := bt_lt s k
    by_cases c1 : bt s k < 48
    . obtain rfl : d = false := by rw [HD0.out]; exact digB_no hlt (Or.inl c1)
      obtain ⟨x, ex⟩ : ∃ x, x = bt s k := ⟨_, rfl⟩; rw [<- ex] at hx hx2 c1; clear ex; go_wp2; go_ret; exact ⟨rfl, sm⟩
    . by_cases c2 : 57 < bt s k
      . obtain rfl : d = false := by rw [HD0.out]; exact digB_no hlt (Or.inr c2)
        obtain ⟨x, ex⟩ : ∃ x, x = bt s k := ⟨_, rfl⟩; rw [<- ex] at hx hx2 c1 c2; clear ex; go_wp2; go_ret; exact ⟨rfl, sm⟩
      . have HD1 : Hid (∀ j, j < k + 1 -> 48 <= bt s j /\ bt s j <= 57) := hide (fun j hj => by
         by_cases e : j = k
         . subst e; omega
         . exact HD.out j (by omega))
        obtain ⟨x, ex⟩ : ∃ x, x = bt s k := ⟨_, rfl⟩; rw [<- ex] at hx hx2 c1 c2; clear ex; go_wp2; go_roundw
        case rel => exact ⟨k + 1, by omega, by go_num, sm, HD1⟩
        case measure => simp [intOf]; omega
  . have e : k = s.size := by omega
    obtain rfl : d = decide (0 < s.size) := by rw [HD0.out]; exact digB_yes (fun j hj => HD.out j (by omega))
    go_wp2; go_ret; exact ⟨rfl, sm⟩
theorem yj8 (s : ByteArray) {i j : Nat} (h : i <= j) (hj : j <= s.size) : (s.extract i j).size = j - i := by
 rw [Lib.size_eq, Lib.extract_data, List.length_take, List.length_drop, <- Lib.size_eq]; omega
theorem bt_ext (s : ByteArray) {i j k : Nat} (h : k < j - i) : bt (s.extract i j) k = bt s (i + k) := by
 unfold bt; rw [Lib.extract_data, List.getElem?_take_of_lt h, List.getElem?_drop]
theorem xw9 {a b : ByteArray} (h : a.data.toList = b.data.toList) : a = b := by
 cases a; cases b; congr; exact Array.toList_inj.1 h
theorem ext_bt {s t : ByteArray} (hs : s.size = t.size) (h : ∀ k, k < s.size -> bt s k = bt t k) : s = t := by
 apply xw9
 apply List.ext_getElem
 . rw [<- Lib.size_eq, <- Lib.size_eq, hs]
 . intro k h1 h2
   have h3 : k < s.size := by rw [Lib.size_eq]; exact h1
   have := h k h3; unfold bt at this; rw [List.getElem?_eq_getElem h1, List.getElem?_eq_getElem h2] at this; exact UInt8.toNat_inj.1 this
theorem yj6 (s : ByteArray) : (firstIdx s 47 = -1 /\ ∀ k, k < s.size -> bt s k ≠ 47) ∨ ∃ i, i < s.size /\ firstIdx s 47 = (i : Int) /\ bt s i = 47 /\ ∀ k, k < i -> bt s k ≠ 47 := by
 have key : ∀ k, k < s.size -> ((s[k]! == 47) = true ↔ bt s k = 47) := fun k hk => by
  rw [getElem!_pos s k hk, beq_iff_eq, <- bt_in hk, <- UInt8.toNat_inj]; exact Iff.rfl
 unfold firstIdx; cases e : (List.range s.size).find? fun i => s[i]! == 47 with
 | none =>
   refine Or.inl ⟨rfl, fun k hk h => ?_⟩; have := List.find?_eq_none.1 e k (List.mem_range.2 hk); exact this ((key k hk).2 h)
 | some i =>
   obtain ⟨h1, h2, h3⟩ := List.find?_range_eq_some.1 e; have hi := List.mem_range.1 h2; refine Or.inr ⟨i, hi, rfl, (key i hi).1 h1, fun k hk h => ?_⟩; have := h3 k hk; rw [(key k (by omega)).2 h] at this; cases this
theorem indexByte_any (s : ByteArray) (w : World) :
 Calls Tryz.prog 197 #[.string s, .int .u8 47] w fun e w' => e = .returned (.int .i64 (firstIdx s 47)) /\ w' = w := by
 go_enter Tryz.func197, Tryz.ntmps197; go_wp2; rw [run_callFunc_extern Tryz.func223 (by kernel_rfl) (by kernel_rfl) (by kernel_rfl) (e := Extern.BytealgIndexByte.indexByte) (by kernel_rfl), run_indexByte_string]; simp only [Result.andThen]; rw [Oper.upon_value]; go_wp2; go_ret; exact ⟨rfl, rfl⟩
theorem index_any (s t : ByteArray) (w : World) (hs : s.size <= 16777217) (ht : t.size = 1) (h47 : bt t 0 = 47) :
 Calls Tryz.prog 175 #[.string s, .string t] w fun e w' => e = .returned (.int .i64 (firstIdx s 47)) /\ w' = w := by
 obtain ⟨z, hz⟩ : ∃ z, z = firstIdx s 47 := ⟨_, rfl⟩; rw [<- hz]; have ht' : (t.size : Int) = 1 := by omega
 have h0 : 0 < t.size := by omega
 have hb : (t[0]'h0).toNat = 47 := (bt_in h0).trans h47
 by_cases h : t.toList = s.toList
 . have he : t = s := xw9 (by rw [<- Lib.toList_data, <- Lib.toList_data, h])
   subst he; have hbe : (t.toList == t.toList) = true := by simp
   obtain rfl : z = 0 := by
    rw [hz]
    rcases yj6 t with ⟨-, h2⟩ | ⟨i, h2, h3, h4, h5⟩
    . exact absurd h47 (h2 0 h0)
    . rw [h3]; have : i = 0 := by omega
      omega
   clear hz; go_enter Tryz.func175, Tryz.ntmps175; go_wp2; go_ret; exact ⟨rfl, rfl⟩
 . have hbe : (t.toList == s.toList) = false := by simpa using h
   have HZ := hide hz; clear hz; go_enter Tryz.func175, Tryz.ntmps175; go_wp2_with fail; refine (indexByte_any s w).mono ?_; rintro e w1 ⟨rfl, rfl⟩; go_wp2; go_ret; exact ⟨xv5 HZ.out.symm, rfl⟩
theorem cut0_any (s t : ByteArray) (w : World) (hs : s.size <= 16777217) (ht : t.size = 1) (h47 : bt t 0 = 47) :
 Calls Tryz.prog 160 #[.string s, .string t] w fun e w' => Same w w' /\ ((firstIdx s 47 = -1 /\ e = .returned (.tuple #[.string s, .string ByteArray.empty, .bool false])) ∨ ∃ i : Nat, i < s.size /\ firstIdx s 47 = (i : Int) /\ e = .returned (.tuple #[.string (s.extract 0 i), .string (s.extract (i + 1) s.size), .bool true])) := by
 have ht' : (t.size : Int) = 1 := by omega
 have J := index_any s t w hs ht h47
 rcases yj6 s with ⟨h1, -⟩ | ⟨i, hi, h1, -, -⟩
 . rw [h1] at J
   have H1 := hide h1; clear h1; go_enter Tryz.func160, Tryz.ntmps160; go_wp2_with fail; refine J.mono ?_; rintro e w1 ⟨rfl, rfl⟩; go_wp2
   go_ret3
   exact ⟨Same.refl _, Or.inl ⟨H1.out, rfl⟩⟩
 . rw [h1] at J
   have H1 := hide h1; clear h1; have hi0 : (0 : Int) <= (i : Int) := by omega
   go_enter Tryz.func160, Tryz.ntmps160; go_wp2_with fail; refine J.mono ?_; rintro e w1 ⟨rfl, rfl⟩; go_wp2
   go_quiet (fail)
   go_wp2
   go_ret3
   exact ⟨(Same.refl _).drewN _, Or.inr ⟨i, hi, H1.out, rfl⟩⟩
theorem cut_any (s t : ByteArray) (w : World) (hs : s.size <= 16777217) (ht : t.size = 1) (h47 : bt t 0 = 47) :
 Calls Tryz.prog 123 #[.string s, .string t] w fun e w' => Same w w' /\ ((firstIdx s 47 = -1 /\ e = .returned (.tuple #[.string s, .string ByteArray.empty, .bool false])) ∨ ∃ i : Nat, i < s.size /\ firstIdx s 47 = (i : Int) /\ e = .returned (.tuple #[.string (s.extract 0 i), .string (s.extract (i + 1) s.size), .bool true])) := by
 have J := cut0_any s t w hs ht h47; go_enter Tryz.func123, Tryz.ntmps123; go_wp2_with fail; refine J.mono ?_; rintro e w1 ⟨s1, ⟨h1, rfl⟩ | ⟨i, hi, h1, rfl⟩⟩
 . go_wp2
   go_ret3
   exact ⟨s1, Or.inl ⟨h1, rfl⟩⟩
 . go_wp2
   go_ret3
   exact ⟨s1, Or.inr ⟨i, hi, h1, rfl⟩⟩
def sgn (s : ByteArray) : Bool := decide (0 < s.size) && decide (bt s 0 = 45)
theorem pre_eq {s t : ByteArray} (h0 : 0 < s.size) (ht : t.size = 1) (h45 : bt t 0 = 45) : ((s.extract 0 1).toList == t.toList) = decide (bt s 0 = 45) := by
 have e1 : (s.extract 0 1).size = 1 := yj8 s (by omega) (by omega); have e2 : bt (s.extract 0 1) 0 = bt s 0 := bt_ext s (by omega); rw [Bool.eq_iff_iff, beq_iff_eq, decide_eq_true_iff]
 constructor
 . intro h
   have he : s.extract 0 1 = t := xw9 (by rw [<- Lib.toList_data, <- Lib.toList_data, h]); rw [<- e2, he]; exact h45
 . intro h
   have he : s.extract 0 1 = t := ext_bt (by omega) (fun k hk => by rw [show k = 0 by omega, e2, h, h45]); rw [he]
theorem cutPrefix0_any (s t : ByteArray) (w : World) (hs : s.size <= 16777217) (ht : t.size = 1) (h45 : bt t 0 = 45) :
 Calls Tryz.prog 159 #[.string s, .string t] w fun e w' => Same w w' /\ e = .returned (.tuple #[.string (if sgn s then s.extract 1 s.size else s), .bool (sgn s)]) := by
 have ht' : (t.size : Int) = 1 := by omega
 by_cases h0 : 0 < s.size
 . have hp := pre_eq h0 ht h45
   have h1 : (1 : Int) <= (s.size : Int) := by omega
   by_cases c : bt s 0 = 45
   . have hg : sgn s = true := by simp [sgn, h0, c]
     rw [hg, if_pos rfl]; have hp' : ((s.extract 0 1).toList == t.toList) = true := by rw [hp]; simp [c]
     clear hp hg c; go_enter Tryz.func159, Tryz.ntmps159; go_wp2; go_ret2; exact ⟨Same.refl _, rfl⟩
   . have hg : sgn s = false := by simp [sgn, c]
     rw [hg, if_neg (by simp)]; have hp' : ((s.extract 0 1).toList == t.toList) = false := by rw [hp]; simp [c]
     clear hp hg c; go_enter Tryz.func159, Tryz.ntmps159; go_wp2; go_ret2; exact ⟨Same.refl _, rfl⟩
 . have hg : sgn s = false := by simp [sgn, h0]
   have h1 : ¬ (1 : Int) <= (s.size : Int) := by omega
   rw [hg, if_neg (by simp)]; clear hg; go_enter Tryz.func159, Tryz.ntmps159; go_wp2; go_ret2; exact ⟨Same.refl _, rfl⟩
theorem cutPrefix_any (s t : ByteArray) (w : World) (hs : s.size <= 16777217) (ht : t.size = 1) (h45 : bt t 0 = 45) :
 Calls Tryz.prog 122 #[.string s, .string t] w fun e w' => Same w w' /\ e = .returned (.tuple #[.string (if sgn s then s.extract 1 s.size else s), .bool (sgn s)]) := by
 have J := cutPrefix0_any s t w hs ht h45; obtain ⟨u, hu⟩ : ∃ u, u = if sgn s then s.extract 1 s.size else s := ⟨_, rfl⟩; obtain ⟨g, hg⟩ : ∃ g, g = sgn s := ⟨_, rfl⟩; rw [<- hu, <- hg] at J ⊢; clear hu hg; go_enter Tryz.func122, Tryz.ntmps122; go_wp2_with fail; refine J.mono ?_; rintro e w1 ⟨s1, rfl⟩; go_wp2; go_ret2; exact ⟨s1, rfl⟩
end Go.Proofs.YtnogbaapcjjngaaGreatDoor
