import Derived.Test.YtklkohdcilnchabDoorG1P1
import Derived.Lib.Strings
import Derived.Lib.Bytealg
import Derived.Test.YtklkohdcilnchabDoorG1P5
import Derived.Test.YtklkohdcilnchabDoorG1P2
import Derived.Maps.AppendAt
import Derived.OneCell
import Derived.Test.YtklkohdcilnchabDoorG1P4
import Derived.Deep.RegionHeld3
import Derived.Lib.Explode
import Derived.Test.YtklkohdcilnchabDoorG1P6
import Derived.Test.YtklkohdcilnchabDoorG1P7
namespace Go.Proofs.YtklkohdcilnchabDoor
open Go.RowKit

/-- The bytes of a string. -/
def bt (s : ByteArray) (k : Nat) : Nat := (s.data.toList[k]?.getD 0).toNat
theorem bt_in {s : ByteArray} {k : Nat} (h : k < s.size) : (s[k]'h).toNat = bt s k := by
  have h' : k < s.data.toList.length := by rw [← Lib.size_eq]; exact h
  have e : s[k]'h = s.data.toList[k]'h' := rfl
  simp only [bt, List.getElem?_eq_getElem h', Option.getD_some, e]
theorem bt_lt (s : ByteArray) (k : Nat) : bt s k < 256 := UInt8.toNat_lt _

/-- A run of digits. -/
def digs (s : ByteArray) : Prop := ∀ k, k < s.size → 48 ≤ bt s k ∧ bt s k ≤ 57
open Classical in
noncomputable def digB (s : ByteArray) : Bool := decide (digs s) && decide (0 < s.size)

theorem digB_no {s : ByteArray} {k : Nat} (hk : k < s.size) (h : bt s k < 48 ∨ 57 < bt s k) : digB s = false := by
  have : ¬ digs s := fun h' => by have := h' k hk; omega
  simp [digB, this]
theorem digB_yes {s : ByteArray} (h : ∀ k, k < s.size → 48 ≤ bt s k ∧ bt s k ≤ 57) : digB s = decide (0 < s.size) := by
  have : digs s := h
  simp [digB, this]

set_option maxHeartbeats 800000 in
set_option maxRecDepth 100000 in
theorem l1Digits_any (s : ByteArray) (w : World) (hs : s.size ≤ 1048577) :
    Calls Tryd.prog 62 #[.string s] w fun e w' => e = .returned (.bool (digB s)) ∧ Same w w' := by
  obtain ⟨d, hd⟩ : ∃ d, d = digB s := ⟨_, rfl⟩
  rw [← hd]
  have HD0 := hide hd
  clear hd
  go_enter Tryd.func62, Tryd.ntmps62
  go_wp2
  go_loopw [3] (fun t wr => ∃ k : Nat, k ≤ s.size ∧ t = .int .i64 k ∧ Same w wr ∧ Hid (∀ j, j < k → 48 ≤ bt s j ∧ bt s j ≤ 57)) (fun t _ => s.size - (intOf t).toNat)
  case atStart => exact ⟨0, Nat.zero_le _, rfl, Same.refl _, hide (fun j hj => absurd hj (by omega))⟩
  case round =>
    obtain ⟨k, hk, rfl, sm, HD⟩ := hrel
    by_cases hlt : k < s.size
    · have hlt' : (k : Int) < (s.size : Int) := by omega
      have hx := bt_in hlt
      have hx2 := bt_lt s k
      by_cases c1 : bt s k < 48
      · obtain rfl : d = false := by rw [HD0.out]; exact digB_no hlt (Or.inl c1)
        obtain ⟨x, ex⟩ : ∃ x, x = bt s k := ⟨_, rfl⟩
        rw [← ex] at hx hx2 c1
        clear ex
        go_wp2
        go_ret
        exact ⟨rfl, sm⟩
      · by_cases c2 : 57 < bt s k
        · obtain rfl : d = false := by rw [HD0.out]; exact digB_no hlt (Or.inr c2)
          obtain ⟨x, ex⟩ : ∃ x, x = bt s k := ⟨_, rfl⟩
          rw [← ex] at hx hx2 c1 c2
          clear ex
          go_wp2
          go_ret
          exact ⟨rfl, sm⟩
        · have HD1 : Hid (∀ j, j < k + 1 → 48 ≤ bt s j ∧ bt s j ≤ 57) := hide (fun j hj => by
            by_cases e : j = k
            · subst e; omega
            · exact HD.out j (by omega))
          obtain ⟨x, ex⟩ : ∃ x, x = bt s k := ⟨_, rfl⟩
          rw [← ex] at hx hx2 c1 c2
          clear ex
          go_wp2
          go_roundw
          case rel => exact ⟨k + 1, by omega, by go_num, sm, HD1⟩
          case measure => simp [intOf]; omega
    · have e : k = s.size := by omega
      obtain rfl : d = decide (0 < s.size) := by rw [HD0.out]; exact digB_yes (fun j hj => HD.out j (by omega))
      go_wp2
      go_ret
      exact ⟨rfl, sm⟩

set_option maxHeartbeats 800000 in
set_option maxRecDepth 100000 in
theorem isDigits_any (s : ByteArray) (w : World) (hs : s.size ≤ 1048577) :
    Calls Tryd.prog 67 #[.string s] w fun e w' => e = .returned (.bool (digB s)) ∧ Same w w' := by
  obtain ⟨d, hd⟩ : ∃ d, d = digB s := ⟨_, rfl⟩
  rw [← hd]
  have HD0 := hide hd
  clear hd
  go_enter Tryd.func67, Tryd.ntmps67
  go_wp2
  go_loopw [6] (fun t wr => ∃ k : Nat, k ≤ s.size ∧ t = .int .i64 k ∧ Same w wr ∧ Hid (∀ j, j < k → 48 ≤ bt s j ∧ bt s j ≤ 57)) (fun t _ => s.size - (intOf t).toNat)
  case atStart => exact ⟨0, Nat.zero_le _, rfl, Same.refl _, hide (fun j hj => absurd hj (by omega))⟩
  case round =>
    obtain ⟨k, hk, rfl, sm, HD⟩ := hrel
    by_cases hlt : k < s.size
    · have hlt' : (k : Int) < (s.size : Int) := by omega
      have hx := bt_in hlt
      have hx2 := bt_lt s k
      by_cases c1 : bt s k < 48
      · obtain rfl : d = false := by rw [HD0.out]; exact digB_no hlt (Or.inl c1)
        obtain ⟨x, ex⟩ : ∃ x, x = bt s k := ⟨_, rfl⟩
        rw [← ex] at hx hx2 c1
        clear ex
        go_wp2
        go_ret
        exact ⟨rfl, sm⟩
      · by_cases c2 : 57 < bt s k
        · obtain rfl : d = false := by rw [HD0.out]; exact digB_no hlt (Or.inr c2)
          obtain ⟨x, ex⟩ : ∃ x, x = bt s k := ⟨_, rfl⟩
          rw [← ex] at hx hx2 c1 c2
          clear ex
          go_wp2
          go_ret
          exact ⟨rfl, sm⟩
        · have HD1 : Hid (∀ j, j < k + 1 → 48 ≤ bt s j ∧ bt s j ≤ 57) := hide (fun j hj => by
            by_cases e : j = k
            · subst e; omega
            · exact HD.out j (by omega))
          obtain ⟨x, ex⟩ : ∃ x, x = bt s k := ⟨_, rfl⟩
          rw [← ex] at hx hx2 c1 c2
          clear ex
          go_wp2
          go_roundw
          case rel => exact ⟨k + 1, by omega, by go_num, sm, HD1⟩
          case measure => simp [intOf]; omega
    · have e : k = s.size := by omega
      obtain rfl : d = decide (0 < s.size) := by rw [HD0.out]; exact digB_yes (fun j hj => HD.out j (by omega))
      go_wp2
      go_ret
      exact ⟨rfl, sm⟩

end Go.Proofs.YtklkohdcilnchabDoor

namespace Go.Proofs.YtklkohdcilnchabDoor
open Go.RowKit

theorem sz_ext (s : ByteArray) {i j : Nat} (h : i ≤ j) (hj : j ≤ s.size) : (s.extract i j).size = j - i := by
  rw [Lib.size_eq, Lib.extract_data, List.length_take, List.length_drop, ← Lib.size_eq]; omega
theorem bt_ext (s : ByteArray) {i j k : Nat} (h : k < j - i) : bt (s.extract i j) k = bt s (i + k) := by
  unfold bt
  rw [Lib.extract_data, List.getElem?_take_of_lt h, List.getElem?_drop]
theorem bytesInj {a b : ByteArray} (h : a.data.toList = b.data.toList) : a = b := by
  cases a; cases b; congr; exact Array.toList_inj.1 h
theorem ext_bt {s t : ByteArray} (hs : s.size = t.size) (h : ∀ k, k < s.size → bt s k = bt t k) : s = t := by
  apply bytesInj
  apply List.ext_getElem
  · rw [← Lib.size_eq, ← Lib.size_eq, hs]
  · intro k h1 h2
    have h3 : k < s.size := by rw [Lib.size_eq]; exact h1
    have := h k h3
    unfold bt at this
    rw [List.getElem?_eq_getElem h1, List.getElem?_eq_getElem h2] at this
    exact UInt8.toNat_inj.1 this

theorem firstIdx_spec (s : ByteArray) : (firstIdx s 47 = -1 ∧ ∀ k, k < s.size → bt s k ≠ 47) ∨ ∃ i, i < s.size ∧ firstIdx s 47 = (i : Int) ∧ bt s i = 47 ∧ ∀ k, k < i → bt s k ≠ 47 := by
  have key : ∀ k, k < s.size → ((s[k]! == 47) = true ↔ bt s k = 47) := fun k hk => by
    rw [getElem!_pos s k hk, beq_iff_eq, ← bt_in hk, ← UInt8.toNat_inj]
    exact Iff.rfl
  unfold firstIdx
  cases e : (List.range s.size).find? fun i => s[i]! == 47 with
  | none =>
    refine Or.inl ⟨rfl, fun k hk h => ?_⟩
    have := List.find?_eq_none.1 e k (List.mem_range.2 hk)
    exact this ((key k hk).2 h)
  | some i =>
    obtain ⟨h1, h2, h3⟩ := List.find?_range_eq_some.1 e
    have hi := List.mem_range.1 h2
    refine Or.inr ⟨i, hi, rfl, (key i hi).1 h1, fun k hk h => ?_⟩
    have := h3 k hk
    rw [(key k (by omega)).2 h] at this
    cases this

set_option maxHeartbeats 800000 in
set_option maxRecDepth 100000 in
theorem indexByte_any (s : ByteArray) (w : World) :
    Calls Tryd.prog 128 #[.string s, .int .u8 47] w fun e w' => e = .returned (.int .i64 (firstIdx s 47)) ∧ w' = w := by
  go_enter Tryd.func128, Tryd.ntmps128
  go_wp2
  rw [run_callFunc_extern Tryd.func146 (by kernel_rfl) (by kernel_rfl) (by kernel_rfl) (e := Extern.BytealgIndexByte.indexByte) (by kernel_rfl), run_indexByte_string]
  simp only [Result.andThen]
  rw [Oper.upon_value]
  go_wp2
  go_ret
  exact ⟨rfl, rfl⟩

set_option maxHeartbeats 800000 in
set_option maxRecDepth 100000 in
theorem index_any (s t : ByteArray) (w : World) (hs : s.size ≤ 1048577) (ht : t.size = 1) (h47 : bt t 0 = 47) :
    Calls Tryd.prog 113 #[.string s, .string t] w fun e w' => e = .returned (.int .i64 (firstIdx s 47)) ∧ w' = w := by
  obtain ⟨z, hz⟩ : ∃ z, z = firstIdx s 47 := ⟨_, rfl⟩
  rw [← hz]
  have ht' : (t.size : Int) = 1 := by omega
  have h0 : 0 < t.size := by omega
  have hb : (t[0]'h0).toNat = 47 := (bt_in h0).trans h47
  by_cases h : t.toList = s.toList
  · have he : t = s := bytesInj (by rw [← Lib.toList_data, ← Lib.toList_data, h])
    subst he
    have hbe : (t.toList == t.toList) = true := by simp
    obtain rfl : z = 0 := by
      rw [hz]
      rcases firstIdx_spec t with ⟨-, h2⟩ | ⟨i, h2, h3, h4, h5⟩
      · exact absurd h47 (h2 0 h0)
      · rw [h3]; have : i = 0 := by omega
        omega
    clear hz
    go_enter Tryd.func113, Tryd.ntmps113
    go_wp2
    go_ret
    exact ⟨rfl, rfl⟩
  · have hbe : (t.toList == s.toList) = false := by simpa using h
    have HZ := hide hz
    clear hz
    go_enter Tryd.func113, Tryd.ntmps113
    go_wp2_with fail
    refine (indexByte_any s w).mono ?_
    rintro e w1 ⟨rfl, rfl⟩
    go_wp2
    go_ret
    exact ⟨ret_int HZ.out.symm, rfl⟩

end Go.Proofs.YtklkohdcilnchabDoor

namespace Go.Proofs.YtklkohdcilnchabDoor
open Go.RowKit

set_option maxHeartbeats 800000 in
set_option maxRecDepth 100000 in
theorem cut0_any (s t : ByteArray) (w : World) (hs : s.size ≤ 1048577) (ht : t.size = 1) (h47 : bt t 0 = 47) :
    Calls Tryd.prog 95 #[.string s, .string t] w fun e w' => Same w w' ∧ ((firstIdx s 47 = -1 ∧ e = .returned (.tuple #[.string s, .string ByteArray.empty, .bool false])) ∨ ∃ i : Nat, i < s.size ∧ firstIdx s 47 = (i : Int) ∧ e = .returned (.tuple #[.string (s.extract 0 i), .string (s.extract (i + 1) s.size), .bool true])) := by
  have ht' : (t.size : Int) = 1 := by omega
  have J := index_any s t w hs ht h47
  rcases firstIdx_spec s with ⟨h1, -⟩ | ⟨i, hi, h1, -, -⟩
  · rw [h1] at J
    have H1 := hide h1
    clear h1
    go_enter Tryd.func95, Tryd.ntmps95
    go_wp2_with fail
    refine J.mono ?_
    rintro e w1 ⟨rfl, rfl⟩
    go_wp2
    go_ret3
    exact ⟨Same.refl _, Or.inl ⟨H1.out, rfl⟩⟩
  · rw [h1] at J
    have H1 := hide h1
    clear h1
    have hi0 : (0 : Int) ≤ (i : Int) := by omega
    go_enter Tryd.func95, Tryd.ntmps95
    go_wp2_with fail
    refine J.mono ?_
    rintro e w1 ⟨rfl, rfl⟩
    go_wp2
    go_quiet (fail)
    go_wp2
    go_ret3
    exact ⟨(Same.refl _).drewN _, Or.inr ⟨i, hi, H1.out, rfl⟩⟩

set_option maxHeartbeats 800000 in
set_option maxRecDepth 100000 in
theorem cut_any (s t : ByteArray) (w : World) (hs : s.size ≤ 1048577) (ht : t.size = 1) (h47 : bt t 0 = 47) :
    Calls Tryd.prog 66 #[.string s, .string t] w fun e w' => Same w w' ∧ ((firstIdx s 47 = -1 ∧ e = .returned (.tuple #[.string s, .string ByteArray.empty, .bool false])) ∨ ∃ i : Nat, i < s.size ∧ firstIdx s 47 = (i : Int) ∧ e = .returned (.tuple #[.string (s.extract 0 i), .string (s.extract (i + 1) s.size), .bool true])) := by
  have J := cut0_any s t w hs ht h47
  go_enter Tryd.func66, Tryd.ntmps66
  go_wp2_with fail
  refine J.mono ?_
  rintro e w1 ⟨s1, ⟨h1, rfl⟩ | ⟨i, hi, h1, rfl⟩⟩
  · go_wp2
    go_ret3
    exact ⟨s1, Or.inl ⟨h1, rfl⟩⟩
  · go_wp2
    go_ret3
    exact ⟨s1, Or.inr ⟨i, hi, h1, rfl⟩⟩

/-- Is there a sign? -/
def sgn (s : ByteArray) : Bool := decide (0 < s.size) && decide (bt s 0 = 45)

theorem pre_eq {s t : ByteArray} (h0 : 0 < s.size) (ht : t.size = 1) (h45 : bt t 0 = 45) : ((s.extract 0 1).toList == t.toList) = decide (bt s 0 = 45) := by
  have e1 : (s.extract 0 1).size = 1 := sz_ext s (by omega) (by omega)
  have e2 : bt (s.extract 0 1) 0 = bt s 0 := bt_ext s (by omega)
  rw [Bool.eq_iff_iff, beq_iff_eq, decide_eq_true_iff]
  constructor
  · intro h
    have he : s.extract 0 1 = t := bytesInj (by rw [← Lib.toList_data, ← Lib.toList_data, h])
    rw [← e2, he]; exact h45
  · intro h
    have he : s.extract 0 1 = t := ext_bt (by omega) (fun k hk => by rw [show k = 0 by omega, e2, h, h45])
    rw [he]

set_option maxHeartbeats 800000 in
set_option maxRecDepth 100000 in
theorem cutPrefix0_any (s t : ByteArray) (w : World) (hs : s.size ≤ 1048577) (ht : t.size = 1) (h45 : bt t 0 = 45) :
    Calls Tryd.prog 94 #[.string s, .string t] w fun e w' => Same w w' ∧ e = .returned (.tuple #[.string (if sgn s then s.extract 1 s.size else s), .bool (sgn s)]) := by
  have ht' : (t.size : Int) = 1 := by omega
  by_cases h0 : 0 < s.size
  · have hp := pre_eq h0 ht h45
    have h1 : (1 : Int) ≤ (s.size : Int) := by omega
    by_cases c : bt s 0 = 45
    · have hg : sgn s = true := by simp [sgn, h0, c]
      rw [hg, if_pos rfl]
      have hp' : ((s.extract 0 1).toList == t.toList) = true := by rw [hp]; simp [c]
      clear hp hg c
      go_enter Tryd.func94, Tryd.ntmps94
      go_wp2
      go_ret2
      exact ⟨Same.refl _, rfl⟩
    · have hg : sgn s = false := by simp [sgn, c]
      rw [hg, if_neg (by simp)]
      have hp' : ((s.extract 0 1).toList == t.toList) = false := by rw [hp]; simp [c]
      clear hp hg c
      go_enter Tryd.func94, Tryd.ntmps94
      go_wp2
      go_ret2
      exact ⟨Same.refl _, rfl⟩
  · have hg : sgn s = false := by simp [sgn, h0]
    have h1 : ¬ (1 : Int) ≤ (s.size : Int) := by omega
    rw [hg, if_neg (by simp)]
    clear hg
    go_enter Tryd.func94, Tryd.ntmps94
    go_wp2
    go_ret2
    exact ⟨Same.refl _, rfl⟩

set_option maxHeartbeats 800000 in
set_option maxRecDepth 100000 in
theorem cutPrefix_any (s t : ByteArray) (w : World) (hs : s.size ≤ 1048577) (ht : t.size = 1) (h45 : bt t 0 = 45) :
    Calls Tryd.prog 65 #[.string s, .string t] w fun e w' => Same w w' ∧ e = .returned (.tuple #[.string (if sgn s then s.extract 1 s.size else s), .bool (sgn s)]) := by
  have J := cutPrefix0_any s t w hs ht h45
  obtain ⟨u, hu⟩ : ∃ u, u = if sgn s then s.extract 1 s.size else s := ⟨_, rfl⟩
  obtain ⟨g, hg⟩ : ∃ g, g = sgn s := ⟨_, rfl⟩
  rw [← hu, ← hg] at J ⊢
  clear hu hg
  go_enter Tryd.func65, Tryd.ntmps65
  go_wp2_with fail
  refine J.mono ?_
  rintro e w1 ⟨s1, rfl⟩
  go_wp2
  go_ret2
  exact ⟨s1, rfl⟩

end Go.Proofs.YtklkohdcilnchabDoor

namespace Go.Proofs.YtklkohdcilnchabDoor
open Go.RowKit

/-- What writing into one cell of a box and into one row leaves. -/
structure At1 (c o : Nat) (r : Option Nat) (w w' : World) : Prop where
  os : w'.os = w.os
  tape : w'.tape = w.tape
  output : w'.output = w.output
  size : w.heap.size ≤ w'.heap.size
  block : ∀ k, k < w.heap.size → k ≠ c → some k ≠ r → w'.heap[k]? = w.heap[k]?
  cell : ∀ x, x ≠ o → w'.cell? ⟨c, x, none⟩ = w.cell? ⟨c, x, none⟩
  frozen : ∀ x, w'.frozen? ⟨c, x, none⟩ = w.frozen? ⟨c, x, none⟩

section
variable {c o : Nat} {r : Option Nat} {w w' w'' : World}
theorem At1.refl (c o : Nat) (r : Option Nat) (w : World) : At1 c o r w w := ⟨rfl, rfl, rfl, Nat.le_refl _, fun _ _ _ _ => rfl, fun _ _ => rfl, fun _ => rfl⟩
theorem At1.alloc (h : At1 c o r w w') (hc : c < w.heap.size) (b : Obj) : At1 c o r w (w'.alloc b) := by
  have s : w'.Since w'.heap.size (w'.alloc b) := (World.Since.refl _ _).alloc (Nat.le_refl _) _
  have hl := h.size
  exact ⟨h.os, h.tape, h.output, Nat.le_trans h.size s.size, fun k h1 h2 h3 => (s.block k (by omega)).trans (h.block k h1 h2 h3), fun x hx => (s.cell (a := ⟨c, x, none⟩) (by show c < _; omega)).trans (h.cell x hx), fun x => (s.frozen (a := ⟨c, x, none⟩) (by show c < _; omega)).trans (h.frozen x)⟩
theorem At1.grown {row : Option Nat} (h : At1 c o r w w') (g : w'.grownBy w'' row) (hc : c < w.heap.size) (hr : row = r ∨ ∀ k, row = some k → w.heap.size ≤ k) (hrc : some c ≠ row) : At1 c o r w w'' := by
  have hl := h.size
  refine ⟨g.os.trans h.os, g.tape.trans h.tape, g.output.trans h.output, Nat.le_trans h.size g.size, fun k h1 h2 h3 => (g.block k (by omega) ?_).trans (h.block k h1 h2 h3), fun x hx => (World.cell?_of_block (w := w') (a := ⟨c, x, none⟩) (g.block c (by omega) hrc)).trans (h.cell x hx), fun x => (World.frozen?_of_block (w := w') (a := ⟨c, x, none⟩) (g.block c (by omega) hrc)).trans (h.frozen x)⟩
  rcases hr with rfl | hr
  · exact h3
  · intro e; have := hr k e.symm; omega
theorem At1.setRow (h : At1 c o r w w') (g i : Nat) (v : Value) (hr : some g = r ∨ w.heap.size ≤ g) (hc : g ≠ c) : At1 c o r w (w'.setCell ⟨g, i, none⟩ v) := by
  have M := (Marked.refl w' g).setCell i v
  refine ⟨M.os.trans h.os, M.tape.trans h.tape, M.output.trans h.output, by rw [M.size]; exact h.size, fun k h1 h2 h3 => (M.other k ?_).trans (h.block k h1 h2 h3), fun x hx => (M.cell (a := ⟨c, x, none⟩) (Ne.symm hc)).trans (h.cell x hx), fun x => (M.frozenO (a := ⟨c, x, none⟩) (Ne.symm hc)).trans (h.frozen x)⟩
  rcases hr with rfl | hr
  · intro e; exact h3 (by rw [e])
  · omega
theorem At1.setC (h : At1 c o r w w') (v : Value) : At1 c o r w (w'.setCell ⟨c, o, none⟩ v) := by
  have M := (Marked.refl w' c).setCell o v
  refine ⟨M.os.trans h.os, M.tape.trans h.tape, M.output.trans h.output, by rw [M.size]; exact h.size, fun k h1 h2 h3 => (M.other k h2).trans (h.block k h1 h2 h3), fun x hx => ?_, fun x => (M.frozen x).trans (h.frozen x)⟩
  rw [← h.cell x hx]
  exact World.cell?_setCell_other _ _ _ _ (by simp)
end

theorem own_set {w : World} {base g n cap : Nat} {V : Nat → Nat} (h : w.ownsRow base 49 1 (.slice (some ⟨g, 0, none⟩) n cap) n (ll V n)) (i x : Nat) (hi : i < n) :
    (w.setCell ⟨g, i, none⟩ (.int .u32 x)).ownsRow base 49 1 (.slice (some ⟨g, 0, none⟩) n cap) n (ll (upd V i x) n) := by
  obtain ⟨hl, h | ⟨g', cap', cur, e, hb, hh, hn, hm, hs, ht⟩⟩ := h
  · cases h.1
  · cases e
    have r : w.rowIs g 49 cap (fun j => cur[j]?.getD (.bool false)) := ⟨cur, hh, by simpa using hs, fun j hj => by
      show cur[j]? = some (cur[j]?.getD (.bool false)); rw [Array.getElem?_eq_getElem (by omega)]; rfl⟩
    obtain ⟨c2, k1, k2, k3⟩ := r.set i (.int .u32 x)
    refine ⟨by simp [ll], Or.inr ⟨g, cap, c2, rfl, hb, k1, hn, hm, by simpa using k2, ?_⟩⟩
    apply List.ext_getElem?
    intro j
    rw [Nat.mul_one] at ht ⊢
    by_cases hj : j < n
    · rw [List.getElem?_take_of_lt hj, Array.getElem?_toList, k3 j (by omega)]
      have h2 : (ll V n)[j]? = cur[j]? := by rw [← ht, List.getElem?_take_of_lt hj, Array.getElem?_toList]
      simp only [ll, List.getElem?_map, List.getElem?_range hj, Option.map_some] at h2 ⊢
      by_cases e : j = i
      · subst e; simp [upd_same]
      · rw [if_neg e, upd_other _ _ _ _ e, ← h2]; rfl
    · rw [List.getElem?_eq_none (by simp; omega), List.getElem?_eq_none (by simp [ll]; omega)]

theorem own_setI {w : World} {base g n cap : Nat} {V : Nat → Nat} (h : w.ownsRow base 49 1 (.slice (some ⟨g, 0, none⟩) n cap) n (ll V n)) (i x : Nat) (hi : i < n) (E : Int) (hE : E = (x : Int)) :
    (w.setCell ⟨g, i, none⟩ (.int .u32 E)).ownsRow base 49 1 (.slice (some ⟨g, 0, none⟩) n cap) n (ll (upd V i x) n) := by subst hE; exact own_set h i x hi

/-- What holds when i limbs have been added. -/
def AddL (X V Y : Nat → Nat) (n m i c : Nat) : Prop := lv V i + c * 2 ^ (32 * i) = lv (extL X n) i + lv (extL Y m) i ∧ c ≤ 1 ∧ (∀ k, i ≤ k → V k = extL X n k) ∧ ∀ k, k < i → V k < 4294967296

theorem addL_step {X V Y : Nat → Nat} {n m i c s c' x y : Nat} (h : AddL X V Y n m i c) (hx : V i = x) (hy : extL Y m i = y) (hs : s < 4294967296) (hc : c' ≤ 1) (e : s + c' * 4294967296 = x + y + c) : AddL X (upd V i s) Y n m (i + 1) c' := by
  obtain ⟨h1, h2, h3, h4⟩ := h
  have hx0 : extL X n i = x := by rw [← hx]; exact (h3 i (Nat.le_refl _)).symm
  refine ⟨?_, hc, fun k hk => by rw [upd_other _ _ _ _ (by omega)]; exact h3 k (by omega), fun k hk => ?_⟩
  · simp only [lv, upd_same, lv_upd V i s i (Nat.le_refl _), hx0, hy]
    rw [pow32]
    generalize 2 ^ (32 * i) = P at *
    have e2 : s * P + c' * (4294967296 * P) = x * P + y * P + c * P := by rw [← Nat.mul_assoc, ← Nat.add_mul, ← Nat.add_mul, ← Nat.add_mul, e]
    omega
  · by_cases e2 : k = i
    · subst e2; rw [upd_same]; exact hs
    · rw [upd_other _ _ _ _ e2]; exact h4 k (by omega)

theorem addL_end {X V Y : Nat → Nat} {n m k c : Nat} (h : AddL X V Y n m k c) (hn : n ≤ k) (hm : m ≤ k) : lv V k + c * 2 ^ (32 * k) = lv X n + lv Y m := by
  have := h.1
  rw [lv_extL X n k hn, lv_extL Y m k hm] at this
  exact this

theorem ll_snoc (X : Nat → Nat) (n k : Nat) (h : n ≤ k) : ll (extL X n) k ++ [.int .u32 0] = ll (extL X n) (k + 1) := by
  simp only [ll, List.range_succ, List.map_append, List.map_cons, List.map_nil]
  have : extL X n k = 0 := by simp [extL]; omega
  rw [this]; rfl

end Go.Proofs.YtklkohdcilnchabDoor

namespace Go.Proofs.YtklkohdcilnchabDoor
open Go.RowKit

theorem own_slice {w : World} {base : Nat} {v : Value} {k : Nat} {xs : List Value} (h : w.ownsRow base 49 1 v k xs) : ∃ a cap, v = .slice a k cap ∧ k ≤ cap ∧ (a = none → cap = 0) ∧ ∀ j, j < k → ∃ g, a = some ⟨g, 0, none⟩ := by
  obtain ⟨_, ⟨rfl, rfl⟩ | ⟨g, cap, cur, rfl, _, _, hn, _⟩⟩ := h
  · exact ⟨none, 0, rfl, Nat.le_refl _, fun _ => rfl, fun j hj => absurd hj (by omega)⟩
  · exact ⟨_, cap, rfl, hn, fun h => (by cases h), fun _ _ => ⟨g, rfl⟩⟩

theorem Limbs.at1 {c o : Nat} {r : Option Nat} {w w' : World} {a : Option Addr} {b off m : Nat} {Y : Nat → Nat} (h : Limbs w a b off m Y) (s : At1 c o r w w') (h1 : 0 < m → b ≠ c) (h2 : 0 < m → r ≠ some b) : Limbs w' a b off m Y :=
  fun j hj => ⟨(h j hj).1, (World.cell?_of_block (w := w) (a := ⟨b, off + j, none⟩) (s.block b (h.lt (by omega)) (h1 (by omega)) (fun e => h2 (by omega) e.symm))).trans (h j hj).2⟩

set_option maxHeartbeats 3200000 in
set_option maxRecDepth 100000 in
/-- (*nat).add into a row of its own. -/
theorem add_any (c o base n : Nat) (v0 : Value) (a' : Option Addr) (b' off' m cap' : Nat) (X Y : Nat → Nat) (w : World) (hn : n ≤ 4194304) (hm : m ≤ 4194304) (hc0 : w.cell? ⟨c, o, none⟩ = some v0) (hf0 : w.frozen? ⟨c, o, none⟩ = false)
    (hown : w.ownsRow base 49 1 v0 n (ll X n)) (hcb : c < base) (hbase : base ≤ w.heap.size) (hne : 0 < m → v0.ownBlock ≠ some b') (hbc : 0 < m → b' ≠ c) (hY : Limbs w a' b' off' m Y) (hXl : ∀ j, j < n → X j < 4294967296) (hYl : ∀ j, j < m → Y j < 4294967296) :
    Calls Tryd.prog 127 #[.pointer (some ⟨c, o, none⟩), .slice a' m cap'] w fun e w' => e = .returned (.tuple #[]) ∧ ∃ v k V, w'.cell? ⟨c, o, none⟩ = some v ∧ w'.ownsRow base 49 1 v k (ll V k) ∧ (∀ q, v.ownBlock = some q → v0.ownBlock = some q ∨ w.heap.size ≤ q) ∧
      At1 c o v0.ownBlock w w' ∧ (∀ j, j < k → V j < 4294967296) ∧ lv V k = lv X n + lv Y m ∧ k ≤ max n m + 1 ∧ (k = n ∨ k = m ∨ V (k - 1) ≠ 0) := by
  obtain ⟨i0, hi, hz0, hz1, hz2⟩ := info_parts Tryd.info49
  have hcl : c < w.heap.size := by omega
  have HXl := hide hXl
  have HYl := hide hYl
  clear hXl hYl
  have HLL : Hid (ll (extL X n) n = ll X n) := by
    simp only [Hid, ll]
    exact List.map_congr_left fun j hj => by simp [extL, List.mem_range.1 hj]
  go_enter Tryd.func127, Tryd.ntmps127
  go_wp2
  go_loopg [] (m - n) (fun g wr => ∃ (k : Nat) (v : Value), n ≤ k ∧ (k = n ∨ k ≤ m) ∧ Hid (g = m - k) ∧ wr.cell? ⟨c, o, none⟩ = some v ∧ wr.ownsRow base 49 1 v k (ll (extL X n) k) ∧ Hid (∀ q, v.ownBlock = some q → v0.ownBlock = some q ∨ w.heap.size ≤ q) ∧ At1 c o v0.ownBlock w wr)
  case atStart => exact ⟨n, v0, Nat.le_refl _, Or.inl rfl, hide rfl, hc0, by rw [HLL.out]; exact hown, hide (fun q hq => Or.inl hq), At1.refl _ _ _ _⟩
  case round =>
    obtain ⟨k, v, hnk, hkm, HG, q0, ho, HB, hs⟩ := hrel
    obtain ⟨a, cap, rfl, hkc, hac, hag⟩ := own_slice ho
    have qf : wr.frozen? ⟨c, o, none⟩ = false := by rw [hs.frozen]; exact hf0
    have hsz := hs.size
    by_cases hlt : k < m
    · have HO := hide hown
      clear hown
      have hC : some c ≠ (Value.slice a k cap).ownBlock := fun e => by have := (ho.lt c e.symm).1; omega
      go_wp2_with (at_builtin; refine wpList_append_own_at _ rfl _ _ 50 rfl base 49 i0 (.int .u32 0) 1 4 Tryd.underlying50 hi hz0 hz1 hz2 rfl (by decide) _ _ _ rfl (ho.alloc _) ⟨wr.heap.size, 0, none⟩ 1 1 [.int .u32 0] rfl rfl (new_cell _ _ _) (one_one _ rfl) (by unfold maxLen; omega) (by omega) (by simp; omega) ?_)
      intro v' w1 hown' hgrow hnn hat
      rw [ll_snoc X n k hnk] at hown'
      have sW := (World.Since.refl wr.heap.size wr).alloc (Nat.le_refl _) (.cells #[.int .u32 0] 49)
      have hR : (Value.slice a k cap).ownBlock = v0.ownBlock ∨ ∀ q, (Value.slice a k cap).ownBlock = some q → w.heap.size ≤ q := by
        cases e : (Value.slice a k cap).ownBlock with
        | none => exact Or.inr (fun q h => by cases h)
        | some q =>
          rcases HB.out q e with h | h
          · exact Or.inl h.symm
          · exact Or.inr (fun q' h' => by cases h'; exact h)
      have hs1 : At1 c o v0.ownBlock w w1 := (hs.alloc hcl _).grown hgrow hcl hR hC
      have q1 : w1.cell? ⟨c, o, none⟩ = some (.slice a k cap) := hgrow.cell ((sW.cell (a := ⟨c, o, none⟩) (show c < wr.heap.size by omega)).trans q0) hC
      have f1 : w1.frozen? ⟨c, o, none⟩ = false := by rw [hs1.frozen]; exact hf0
      have HB1 := hide (fun q (hq : v'.ownBlock = some q) => show v0.ownBlock = some q ∨ w.heap.size ≤ q by
        rcases hat with h | h
        · exact HB.out q (h.symm.trans hq)
        · rw [hq] at h; simp at h; omega)
      obtain ⟨a1, cap1, rfl, hkc1, hac1, hag1⟩ := own_slice hown'
      have hCv : (Value.slice a1 (k + 1) cap1).ownBlock ≠ some c := fun e => by have := (hown'.lt c e).1; omega
      clear hgrow hnn hat sW hR ho hs HB q0 qf hC
      go_wp2
      go_roundg (m - (k + 1))
      case rel => exact ⟨k + 1, _, by omega, Or.inr (by omega), hide rfl, World.cell?_setCell_same _ _ _ q1, ownsRow_setCell_other hown' hCv _, HB1, hs1.setC _⟩
      case measure => have := HG.out; omega
    · have hmk : m ≤ k := by omega
      have hkb : k ≤ 4194304 := by omega
      have HKK : Hid (k = n ∨ k = m) := hide (by omega)
      have HV0 : Hid (AddL X (extL X n) Y n m 0 0) := hide ⟨by simp [lv], by omega, fun _ _ => rfl, fun j hj => absurd hj (by omega)⟩
      have HK : Hid (k ≤ max n m) := hide (by omega)
      clear hown hc0 hlt hkm HG
      go_wp2
      go_loopw [4, 26] (fun q t wr => ∃ (i cb : Nat) (V : Nat → Nat), i ≤ k ∧ t = .int .i64 i ∧ q = .int .u64 cb ∧ cb ≤ 1 ∧ wr.cell? ⟨c, o, none⟩ = some (.slice a k cap) ∧ wr.ownsRow base 49 1 (.slice a k cap) k (ll V k) ∧ At1 c o v0.ownBlock w wr ∧ Hid (AddL X V Y n m i cb)) (fun _ t _ => k - (intOf t).toNat)
      case atStart => exact ⟨0, 0, extL X n, Nat.zero_le _, rfl, rfl, by omega, q0, ho, hs, HV0⟩
      case round =>
        obtain ⟨i, cb, V, hik, rfl, rfl, hcb1, q2, ho2, hs2, HR⟩ := hrel
        clear ho hs q0 qf HV0
        by_cases hlt : i < k
        · obtain ⟨g, rfl⟩ := hag i hlt
          obtain ⟨g', cap', e, -, hbg, hgl, LV, FV⟩ := own_limbs_some ho2 (by simp)
          cases e
          have g1 : wr.cell? ⟨g, i, none⟩ = some (.int .u32 (V i)) := by simpa using (LV i hlt).2
          have g2 : wr.frozen? ⟨g, i, none⟩ = false := FV i
          have hgr : some g = v0.ownBlock ∨ w.heap.size ≤ g := by
            rcases HB.out g rfl with h | h
            · exact Or.inl h.symm
            · exact Or.inr h
          have hxl : V i < 4294967296 := by
            rw [HR.out.2.2.1 i (Nat.le_refl _)]
            unfold extL
            split
            · exact HXl.out i (by assumption)
            · omega
          have STEP := hide (fun (s c' : Nat) (y : Nat) (hy : extL Y m i = y) => addL_step (s := s) (c' := c') HR.out rfl hy)
          obtain ⟨x, ex⟩ : ∃ y, y = V i := ⟨_, rfl⟩
          rw [← ex] at g1 hxl STEP
          clear ex LV FV
          have hin : (i : Int) < (k : Int) := by omega
          have hcg : g ≠ c := by omega
          have q3 : ∀ u, (wr.setCell ⟨g, i, none⟩ u).cell? ⟨c, o, none⟩ = some (.slice (some ⟨g, 0, none⟩) k cap) := fun u => by rw [((Marked.refl wr g).setCell i u).cell (a := ⟨c, o, none⟩) (Ne.symm hcg)]; exact q2
          by_cases him : i < m
          · obtain ⟨rfl, ky⟩ := (hY.at1 hs2 hbc hne) i him
            have hyl := HYl.out i him
            have HEy : Hid (extL Y m i = Y i) := by simp [Hid, extL, him]
            obtain ⟨y, ey⟩ : ∃ y, y = Y i := ⟨_, rfl⟩
            rw [← ey] at ky hyl HEy
            clear ey
            by_cases hb : x + cb + y < 4294967296
            · go_wp2
              go_roundw
              case rel => go_light; exact ⟨i + 1, 0, _, by omega, by go_num, congrArg (Value.int .u64) (by omega), by omega, q3 _, own_setI ho2 i (x + cb + y) hlt _ (by omega), hs2.setRow g i _ hgr hcg, STEP.out _ _ y HEy.out (by omega) (by omega) (by omega)⟩
              case measure => simp [intOf]; omega
            · go_wp2
              go_roundw
              case rel => go_light; exact ⟨i + 1, 1, _, by omega, by go_num, congrArg (Value.int .u64) (by omega), by omega, q3 _, own_setI ho2 i (x + cb + y - 4294967296) hlt _ (by omega), hs2.setRow g i _ hgr hcg, STEP.out _ _ y HEy.out (by omega) (by omega) (by omega)⟩
              case measure => simp [intOf]; omega
          · have HEy : Hid (extL Y m i = 0) := by simp [Hid, extL, him]
            by_cases hb : x + cb < 4294967296
            · go_wp2
              go_roundw
              case rel => go_light; exact ⟨i + 1, 0, _, by omega, by go_num, congrArg (Value.int .u64) (by omega), by omega, q3 _, own_setI ho2 i (x + cb) hlt _ (by omega), hs2.setRow g i _ hgr hcg, STEP.out _ _ 0 HEy.out (by omega) (by omega) (by omega)⟩
              case measure => simp [intOf]; omega
            · go_wp2
              go_roundw
              case rel => go_light; exact ⟨i + 1, 1, _, by omega, by go_num, congrArg (Value.int .u64) (by omega), by omega, q3 _, own_setI ho2 i (x + cb - 4294967296) hlt _ (by omega), hs2.setRow g i _ hgr hcg, STEP.out _ _ 0 HEy.out (by omega) (by omega) (by omega)⟩
              case measure => simp [intOf]; omega
        · have e : i = k := by omega
          subst e
          have HE := hide (addL_end HR.out hnk hmk)
          have hc2 : cb = 0 ∨ cb = 1 := by omega
          rcases hc2 with rfl | rfl
          · go_wp2
            go_end0
            exact ⟨rfl, _, i, V, q2, ho2, HB.out, hs2, HR.out.2.2.2, by have := HE.out; omega, by have := HK.out; omega, by rcases HKK.out with h | h <;> simp [h]⟩
          · have hC : some c ≠ (Value.slice a i cap).ownBlock := fun e => by have := (ho2.lt c e.symm).1; omega
            have hsz2 := hs2.size
            go_wp2_with (at_builtin; refine wpList_append_own_at _ rfl _ _ 50 rfl base 49 i0 (.int .u32 0) 1 4 Tryd.underlying50 hi hz0 hz1 hz2 rfl (by decide) _ _ _ rfl (ho2.alloc _) ⟨wr.heap.size, 0, none⟩ 1 1 [.int .u32 1] rfl rfl (new_cell _ _ _) (one_one _ rfl) (by unfold maxLen; omega) (by omega) (by simp; omega) ?_)
            intro v' w1 hown' hgrow hnn hat
            rw [show ll V i ++ [.int .u32 1] = ll (upd V i 1) (i + 1) from by rw [ll_succ, upd_same, ll_congr (fun j hj => upd_other _ _ _ _ (show j ≠ i by omega))]; rfl] at hown'
            have sW := (World.Since.refl wr.heap.size wr).alloc (Nat.le_refl _) (.cells #[.int .u32 1] 49)
            have hR : (Value.slice a i cap).ownBlock = v0.ownBlock ∨ ∀ q, (Value.slice a i cap).ownBlock = some q → w.heap.size ≤ q := by
              cases e : (Value.slice a i cap).ownBlock with
              | none => exact Or.inr (fun q h => by cases h)
              | some q =>
                rcases HB.out q e with h | h
                · exact Or.inl h.symm
                · exact Or.inr (fun q' h' => by cases h'; exact h)
            have hs1 : At1 c o v0.ownBlock w w1 := (hs2.alloc hcl _).grown hgrow hcl hR hC
            have q1 : w1.cell? ⟨c, o, none⟩ = some (.slice a i cap) := hgrow.cell ((sW.cell (a := ⟨c, o, none⟩) (show c < wr.heap.size by omega)).trans q2) hC
            have f1 : w1.frozen? ⟨c, o, none⟩ = false := by rw [hs1.frozen]; exact hf0
            have HB1 := hide (fun q (hq : v'.ownBlock = some q) => show v0.ownBlock = some q ∨ w.heap.size ≤ q by
              rcases hat with h | h
              · exact HB.out q (h.symm.trans hq)
              · rw [hq] at h; simp at h; omega)
            obtain ⟨a1, cap1, rfl, hkc1, hac1, hag1⟩ := own_slice hown'
            have hCv : (Value.slice a1 (i + 1) cap1).ownBlock ≠ some c := fun e => by have := (hown'.lt c e).1; omega
            have HV1 := hide HR.out.2.2.2
            clear hgrow hnn hat sW hR ho2 hs2 HB q2 hC HR
            go_wp2
            go_end0
            refine ⟨rfl, _, i + 1, upd V i 1, World.cell?_setCell_same _ _ _ q1, ownsRow_setCell_other hown' hCv _, HB1.out, hs1.setC _, fun j hj => ?_, ?_, by have := HK.out; omega, Or.inr (Or.inr (by rw [show i + 1 - 1 = i by omega, upd_same]; omega))⟩
            · by_cases e2 : j = i
              · subst e2; rw [upd_same]; omega
              · rw [upd_other _ _ _ _ e2]; exact HV1.out j (by omega)
            · have := HE.out
              simp only [lv, upd_same, lv_upd V i 1 i (Nat.le_refl _)]
              exact this

end Go.Proofs.YtklkohdcilnchabDoor

namespace Go.Proofs.YtklkohdcilnchabDoor
open Go.RowKit

/-- What holds when i limbs have been multiplied. -/
def MulA (X V : Nat → Nat) (F E i c : Nat) : Prop := lv V i + c * 2 ^ (32 * i) = lv X i * F + E ∧ c < 4294967296 ∧ (∀ k, i ≤ k → V k = X k) ∧ ∀ k, k < i → V k < 4294967296

theorem mulA_step {X V : Nat → Nat} {F E i c s c' x : Nat} (h : MulA X V F E i c) (hx : V i = x) (hs : s < 4294967296) (hc : c' < 4294967296) (e : s + c' * 4294967296 = x * F + c) : MulA X (upd V i s) F E (i + 1) c' := by
  obtain ⟨h1, h2, h3, h4⟩ := h
  have hx0 : X i = x := by rw [← hx]; exact (h3 i (Nat.le_refl _)).symm
  refine ⟨?_, hc, fun k hk => by rw [upd_other _ _ _ _ (by omega)]; exact h3 k (by omega), fun k hk => ?_⟩
  · simp only [lv, upd_same, lv_upd V i s i (Nat.le_refl _), hx0]
    rw [pow32]
    generalize 2 ^ (32 * i) = P at *
    have e2 : s * P + c' * (4294967296 * P) = x * P * F + c * P := by
      rw [← Nat.mul_assoc, ← Nat.add_mul, e, Nat.add_mul, Nat.mul_assoc x F P, Nat.mul_comm F P, ← Nat.mul_assoc]
    rw [Nat.add_mul (lv X i)]
    omega
  · by_cases e2 : k = i
    · subst e2; rw [upd_same]; exact hs
    · rw [upd_other _ _ _ _ e2]; exact h4 k (by omega)

set_option maxHeartbeats 3200000 in
set_option maxRecDepth 100000 in
/-- (*nat).multiplyAdd in a row of its own. -/
theorem multiplyAdd_any (c o base n : Nat) (v0 : Value) (E : Nat) (X : Nat → Nat) (w : World) (hn : n ≤ 4194304) (hE : E < 4294967296) (hc0 : w.cell? ⟨c, o, none⟩ = some v0) (hf0 : w.frozen? ⟨c, o, none⟩ = false)
    (hown : w.ownsRow base 49 1 v0 n (ll X n)) (hne : v0.ownBlock ≠ some c) (hcl : c < w.heap.size) (hbase : base ≤ w.heap.size) (hXl : ∀ j, j < n → X j < 4294967296) :
    Calls Tryd.prog 96 #[.pointer (some ⟨c, o, none⟩), .int .u32 1000000000, .int .u32 E] w fun e w' => e = .returned (.tuple #[]) ∧ ∃ v k V, w'.cell? ⟨c, o, none⟩ = some v ∧ w'.ownsRow base 49 1 v k (ll V k) ∧ (v = .slice none 0 0 → v0 = .slice none 0 0) ∧ v.ownBlock ≠ some c ∧
      At1 c o v0.ownBlock w w' ∧ (∀ j, j < k → V j < 4294967296) ∧ lv V k = lv X n * 1000000000 + E ∧ k ≤ n + 1 ∧ (k = n ∨ V (k - 1) ≠ 0) := by
  obtain ⟨i0, hi, hz0, hz1, hz2⟩ := info_parts Tryd.info49
  have HXl := hide hXl
  clear hXl
  obtain ⟨a, cap, rfl, hkc, hac, hag⟩ := own_slice hown
  go_enter Tryd.func96, Tryd.ntmps96
  have HV0 : Hid (MulA X X 1000000000 E 0 E) := hide ⟨by simp [lv], hE, fun _ _ => rfl, fun j hj => absurd hj (by omega)⟩
  go_wp2
  go_loopw [6, 16] (fun q t wr => ∃ (i cb : Nat) (V : Nat → Nat), i ≤ n ∧ t = .int .i64 i ∧ q = .int .u64 cb ∧ cb < 4294967296 ∧ wr.cell? ⟨c, o, none⟩ = some (.slice a n cap) ∧ wr.ownsRow base 49 1 (.slice a n cap) n (ll V n) ∧ At1 c o (Value.slice a n cap).ownBlock w wr ∧ Hid (MulA X V 1000000000 E i cb)) (fun _ t _ => n - (intOf t).toNat)
  case atStart => exact ⟨0, E, X, Nat.zero_le _, rfl, rfl, hE, hc0, hown, At1.refl _ _ _ _, HV0⟩
  case round =>
    obtain ⟨i, cb, V, hik, rfl, rfl, hcb1, q2, ho2, hs2, HR⟩ := hrel
    clear hown hc0 HV0
    by_cases hlt : i < n
    · obtain ⟨g, rfl⟩ := hag i hlt
      obtain ⟨g', cap', e, -, hbg, hgl, LV, FV⟩ := own_limbs_some ho2 (by simp)
      cases e
      have g1 : wr.cell? ⟨g, i, none⟩ = some (.int .u32 (V i)) := by simpa using (LV i hlt).2
      have g2 : wr.frozen? ⟨g, i, none⟩ = false := FV i
      have hxl : V i < 4294967296 := by
        rw [HR.out.2.2.1 i (Nat.le_refl _)]
        exact HXl.out i hlt
      have STEP := hide (fun (s c' : Nat) => mulA_step (s := s) (c' := c') HR.out rfl)
      obtain ⟨x, ex⟩ : ∃ y, y = V i := ⟨_, rfl⟩
      rw [← ex] at g1 hxl STEP
      clear ex LV FV
      have hin : (i : Int) < (n : Int) := by omega
      have hcg : g ≠ c := fun e => hne (by rw [e]; rfl)
      have q3 : ∀ u, (wr.setCell ⟨g, i, none⟩ u).cell? ⟨c, o, none⟩ = some (.slice (some ⟨g, 0, none⟩) n cap) := fun u => by rw [((Marked.refl wr g).setCell i u).cell (a := ⟨c, o, none⟩) (Ne.symm hcg)]; exact q2
      go_wp2
      go_roundw
      case rel => go_light; exact ⟨i + 1, (x * 1000000000 + cb) / 4294967296, _, by omega, by go_num, congrArg (Value.int .u64) (by omega), by omega, q3 _, own_setI ho2 i ((x * 1000000000 + cb) % 4294967296) hlt _ (by omega), hs2.setRow g i _ (Or.inl rfl) hcg, STEP.out _ _ (by omega) (by omega) (by omega)⟩
      case measure => simp [intOf]; omega
    · have e : i = n := by omega
      subst e
      have HE := hide HR.out.1
      have HV1 := hide HR.out.2.2.2
      rcases Nat.eq_zero_or_pos cb with hc2 | hc2
      · subst hc2
        go_wp2
        go_end0
        exact ⟨rfl, _, i, V, q2, ho2, fun h => h, hne, hs2, HV1.out, by have := HE.out; omega, by omega, Or.inl rfl⟩
      · have hC : some c ≠ (Value.slice a i cap).ownBlock := fun e => hne e.symm
        have hsz2 := hs2.size
        have hcf : ((cb : Int) == 0) = false := by simp; omega
        go_wp2_with (at_builtin; refine wpList_append_own_at _ rfl _ _ 50 rfl base 49 i0 (.int .u32 0) 1 4 Tryd.underlying50 hi hz0 hz1 hz2 rfl (by decide) _ _ _ rfl (ho2.alloc _) ⟨wr.heap.size, 0, none⟩ 1 1 [.int .u32 cb] rfl rfl (new_cell _ _ _) (one_one _ rfl) (by unfold maxLen; omega) (by omega) (by simp; omega) ?_)
        intro v' w1 hown' hgrow hnn hat
        rw [show ll V i ++ [.int .u32 (cb : Int)] = ll (upd V i cb) (i + 1) from by rw [ll_succ, upd_same, ll_congr (fun j hj => upd_other _ _ _ _ (show j ≠ i by omega))]] at hown'
        have sW := (World.Since.refl wr.heap.size wr).alloc (Nat.le_refl _) (.cells #[.int .u32 (cb : Int)] 49)
        have hs1 : At1 c o (Value.slice a i cap).ownBlock w w1 := (hs2.alloc hcl _).grown hgrow hcl (Or.inl rfl) hC
        have q1 : w1.cell? ⟨c, o, none⟩ = some (.slice a i cap) := hgrow.cell ((sW.cell (a := ⟨c, o, none⟩) (show c < wr.heap.size by omega)).trans q2) hC
        have f1 : w1.frozen? ⟨c, o, none⟩ = false := by rw [hs1.frozen]; exact hf0
        have hCv : v'.ownBlock ≠ some c := fun e => by
          rcases hat with h | h
          · exact hne (h.symm.trans e)
          · rw [e] at h; simp at h; omega
        obtain ⟨a1, cap1, rfl, hkc1, hac1, hag1⟩ := own_slice hown'
        clear hgrow hnn hat sW ho2 hs2 q2 hC HR
        go_wp2
        go_end0
        refine ⟨rfl, _, i + 1, upd V i cb, World.cell?_setCell_same _ _ _ q1, ownsRow_setCell_other hown' hCv _, fun h => by simp at h, hCv, hs1.setC _, fun j hj => ?_, ?_, by omega, Or.inr (by rw [show i + 1 - 1 = i by omega, upd_same]; omega)⟩
        · by_cases e2 : j = i
          · subst e2; rw [upd_same]; omega
          · rw [upd_other _ _ _ _ e2]; exact HV1.out j (by omega)
        · have := HE.out
          simp only [lv, upd_same, lv_upd V i cb i (Nat.le_refl _)]
          exact this

end Go.Proofs.YtklkohdcilnchabDoor

namespace Go.Proofs.YtklkohdcilnchabDoor
open Go.RowKit

/-- What holds when i bits have been added. -/
def SumRel (O A B : Nat → Bool) (n m i : Nat) (c : Bool) : Prop := bv O i + c.toNat * 2 ^ i = bv (ext A n) i + bv (ext B m) i

theorem sumRel_step {O A B : Nat → Bool} {n m i : Nat} {c x y : Bool} (h : SumRel O A B n m i c) (hx : ext A n i = x) (hy : ext B m i = y) :
    SumRel (upd O i ((x != y) != c)) A B n m (i + 1) ((x && y) || (x && c) || (y && c)) := by
  unfold SumRel at *
  have hf := full_add x y c
  simp only [bv, bv_upd O i _ i (Nat.le_refl _), upd_same, hx, hy]
  generalize ((x != y) != c).toNat = s at hf ⊢
  generalize ((x && y) || (x && c) || (y && c)).toNat = d at hf ⊢
  have e : s * 2 ^ i + d * 2 ^ (i + 1) = x.toNat * 2 ^ i + y.toNat * 2 ^ i + c.toNat * 2 ^ i := by
    rw [← Nat.add_mul, ← Nat.add_mul, ← hf, Nat.add_mul, Nat.pow_succ, Nat.mul_comm (2 ^ i) 2, ← Nat.mul_assoc, Nat.mul_comm d 2]
  omega

theorem sumRel_end {O A B : Nat → Bool} {n m i : Nat} {c : Bool} (h : SumRel O A B n m i c) (hn : n ≤ i) (hm : m ≤ i) : bv O i + c.toNat * 2 ^ i = bv A n + bv B m := by
  unfold SumRel at h
  rw [bv_ext A n i hn, bv_ext B m i hm] at h
  exact h

theorem not_eq2b (y c : Bool) : (!(y == c)) = ((false != y) != c) := by cases y <;> cases c <;> rfl

set_option maxHeartbeats 6400000 in
set_option maxRecDepth 100000 in
theorem l1AddBits_any (a a' : Option Addr) (b off n cap b' off' m cap' : Nat) (A B : Nat → Bool) (w : World) (hn : n ≤ 134217728) (hm : m ≤ 134217728) (hA : Bits w a b off n A) (hB : Bits w a' b' off' m B) :
    Calls Tryd.prog 85 #[.slice a n cap, .slice a' m cap'] w fun e w' => ∃ g t cap'' D, e = .returned (.slice (some ⟨g, 0, none⟩) t cap'') ∧ t ≤ cap'' ∧ t ≤ max n m + 1 ∧ Bits w' (some ⟨g, 0, none⟩) g 0 t D ∧ w.heap.size ≤ g ∧
      (0 < t → D (t - 1) = true) ∧ bv D t = bv A n + bv B m ∧ w.Since w.heap.size w' := by
  obtain ⟨i0, hi, hz0, hz1, hz2⟩ := info_parts Tryd.info4
  obtain ⟨k, hk1, hk2, hk3, hk4, hk5⟩ : ∃ k, n ≤ k ∧ m ≤ k ∧ k ≤ 134217728 ∧ k ≤ max n m ∧ (k = n ∨ k = m) := by
    rcases Nat.le_total n m with h | h
    · exact ⟨m, h, Nat.le_refl _, hm, Nat.le_max_right _ _, Or.inr rfl⟩
    · exact ⟨n, Nat.le_refl _, h, hn, Nat.le_max_left _ _, Or.inl rfl⟩
  have HK := hide hk4
  clear hk4
  go_enter Tryd.func85, Tryd.ntmps85
  go_wp2
  go_loopw [5, 6, 7] (fun v c t wr => ∃ (i : Nat) (cb : Bool) (D : Nat → Bool), i ≤ k ∧ t = .int .i64 i ∧ c = .bool cb ∧ Hid (v ≠ .slice none 0 0) ∧ wr.ownsRow w.heap.size 4 1 v i (bl D i) ∧ w.Since w.heap.size wr ∧ Hid (SumRel D A B n m i cb)) (fun _ _ t _ => k - (intOf t).toNat)
  case atStart => exact ⟨0, false, fun _ => false, Nat.zero_le _, rfl, rfl, hide (by simp), World.ownsRow_made w #[] 0 (Nat.le_refl _) (by decide) rfl, (World.Since.refl _ _).alloc (Nat.le_refl _) _, hide (by simp [SumRel, bv])⟩
  case round =>
    obtain ⟨i, cb, D, hin, rfl, rfl, HN, hown, hs, HR⟩ := hrel
    by_cases hlt : i < n
    · by_cases him : i < m
      · obtain ⟨rfl, hc⟩ := hA i hlt
        have g0 : wr.cell? ⟨b, off + i, none⟩ = some (.bool (A i)) := by rw [hs.cell (a := ⟨b, off + i, none⟩) (hA.lt (by omega))]; exact hc
        clear hc
        obtain ⟨x, hx⟩ : ∃ x, x = A i := ⟨_, rfl⟩
        rw [← hx] at g0
        have HX : Hid (ext A n i = x) := by simp [Hid, ext, hlt, hx]
        clear hx
        obtain ⟨rfl, hc⟩ := hB i him
        have g1 : wr.cell? ⟨b', off' + i, none⟩ = some (.bool (B i)) := by rw [hs.cell (a := ⟨b', off' + i, none⟩) (hB.lt (by omega))]; exact hc
        obtain ⟨y, hy⟩ : ∃ y, y = B i := ⟨_, rfl⟩
        rw [← hy] at g1
        have HY : Hid (ext B m i = y) := by simp [Hid, ext, him, hy]
        clear hc hy
        have HS := hide (sumRel_step HR.out HX.out HY.out)
        go_wp2_with (at_builtin; refine wpList_append_own _ rfl _ _ 46 rfl w.heap.size 4 i0 (.bool false) 1 1 Tryd.underlying46 hi hz0 hz1 hz2 rfl (by decide) _ _ _ rfl (hown.alloc _) ⟨wr.heap.size, 0, none⟩ 1 1 [.bool _] rfl rfl (new_cell _ _ _) (one_one _ rfl) (by unfold maxLen; omega) (by omega) (by have := hs.size; simp; omega) ?_)
        intro v' w1 hown' hgrow hnn
        have hs1 : w.Since w.heap.size w1 := (hs.alloc hs.size _).grown hgrow (by have := hs.size; simp; omega) (fun k hk => (hown.lt k hk).1)
        have HN' := hide hnn
        rw [not_eq3 x y cb, ← bl_upd] at hown'
        clear hgrow hown hs hnn HN
        cases x <;> cases y <;> cases cb
        all_goals
          go_wp2
          go_roundw
          case rel => exact ⟨i + 1, _, _, by omega, by go_num, rfl, HN', hown', hs1, HS⟩
          case measure => simp [intOf]; omega
      · obtain ⟨rfl, hc⟩ := hA i hlt
        have g0 : wr.cell? ⟨b, off + i, none⟩ = some (.bool (A i)) := by rw [hs.cell (a := ⟨b, off + i, none⟩) (hA.lt (by omega))]; exact hc
        clear hc
        obtain ⟨x, hx⟩ : ∃ x, x = A i := ⟨_, rfl⟩
        rw [← hx] at g0
        have HX : Hid (ext A n i = x) := by simp [Hid, ext, hlt, hx]
        clear hx
        have HY : Hid (ext B m i = false) := by simp [Hid, ext, him]
        have HS := hide (sumRel_step HR.out HX.out HY.out)
        go_wp2_with (at_builtin; refine wpList_append_own _ rfl _ _ 46 rfl w.heap.size 4 i0 (.bool false) 1 1 Tryd.underlying46 hi hz0 hz1 hz2 rfl (by decide) _ _ _ rfl (hown.alloc _) ⟨wr.heap.size, 0, none⟩ 1 1 [.bool _] rfl rfl (new_cell _ _ _) (one_one _ rfl) (by unfold maxLen; omega) (by omega) (by have := hs.size; simp; omega) ?_)
        intro v' w1 hown' hgrow hnn
        have hs1 : w.Since w.heap.size w1 := (hs.alloc hs.size _).grown hgrow (by have := hs.size; simp; omega) (fun k hk => (hown.lt k hk).1)
        have HN' := hide hnn
        rw [not_eq2 x cb, ← bl_upd] at hown'
        clear hgrow hown hs hnn HN
        cases x <;> cases cb
        all_goals
          go_wp2
          go_roundw
          case rel => exact ⟨i + 1, _, _, by omega, by go_num, rfl, HN', hown', hs1, HS⟩
          case measure => simp [intOf]; omega
    · by_cases him : i < m
      · have HX : Hid (ext A n i = false) := by simp [Hid, ext, hlt]
        obtain ⟨rfl, hc⟩ := hB i him
        have g1 : wr.cell? ⟨b', off' + i, none⟩ = some (.bool (B i)) := by rw [hs.cell (a := ⟨b', off' + i, none⟩) (hB.lt (by omega))]; exact hc
        obtain ⟨y, hy⟩ : ∃ y, y = B i := ⟨_, rfl⟩
        rw [← hy] at g1
        have HY : Hid (ext B m i = y) := by simp [Hid, ext, him, hy]
        clear hc hy
        have HS := hide (sumRel_step HR.out HX.out HY.out)
        go_wp2_with (at_builtin; refine wpList_append_own _ rfl _ _ 46 rfl w.heap.size 4 i0 (.bool false) 1 1 Tryd.underlying46 hi hz0 hz1 hz2 rfl (by decide) _ _ _ rfl (hown.alloc _) ⟨wr.heap.size, 0, none⟩ 1 1 [.bool _] rfl rfl (new_cell _ _ _) (one_one _ rfl) (by unfold maxLen; omega) (by omega) (by have := hs.size; simp; omega) ?_)
        intro v' w1 hown' hgrow hnn
        have hs1 : w.Since w.heap.size w1 := (hs.alloc hs.size _).grown hgrow (by have := hs.size; simp; omega) (fun k hk => (hown.lt k hk).1)
        have HN' := hide hnn
        rw [not_eq2b y cb, ← bl_upd] at hown'
        clear hgrow hown hs hnn HN
        cases y <;> cases cb
        all_goals
          go_wp2
          go_roundw
          case rel => exact ⟨i + 1, _, _, by omega, by go_num, rfl, HN', hown', hs1, HS⟩
          case measure => simp [intOf]; omega
      · have e : i = k := by omega
        subst e
        have HE := hide (sumRel_end HR.out hk1 hk2)
        cases cb
        · obtain ⟨g, cap3, rfl, hmc, hg, hD⟩ := own_bits_some hown HN.out
          go_wp2_with fail
          refine (l1Trim_any _ g 0 i cap3 D _ (by omega) hmc hD).mono ?_
          rintro e w1 ⟨rfl, rfl⟩
          go_wp2
          go_ret
          have htl := tlen_le D i
          have := HK.out
          exact ⟨g, _, cap3, D, rfl, by omega, by omega, hD.take htl, hg, fun h => tlen_top _ _ h, (bv_tlen _ _).trans (by have := HE.out; simpa using this), hs⟩
        · go_wp2_with (at_builtin; refine wpList_append_own _ rfl _ _ 46 rfl w.heap.size 4 i0 (.bool false) 1 1 Tryd.underlying46 hi hz0 hz1 hz2 rfl (by decide) _ _ _ rfl (hown.alloc _) ⟨wr.heap.size, 0, none⟩ 1 1 [.bool true] rfl rfl (new_cell _ _ _) (one_one _ rfl) (by unfold maxLen; omega) (by omega) (by have := hs.size; simp; omega) ?_)
          intro v' w1 hown' hgrow hnn
          have hs1 : w.Since w.heap.size w1 := (hs.alloc hs.size _).grown hgrow (by have := hs.size; simp; omega) (fun k hk => (hown.lt k hk).1)
          rw [← bl_upd] at hown'
          obtain ⟨g, cap3, rfl, hmc, hg, hD⟩ := own_bits_some hown' hnn
          clear hgrow hown hs
          go_wp2_with fail
          refine (l1Trim_any _ g 0 (i + 1) cap3 (upd D i true) _ (by omega) hmc hD).mono ?_
          rintro e w2 ⟨rfl, rfl⟩
          go_wp2
          go_ret
          have htl := tlen_le (upd D i true) (i + 1)
          have := HK.out
          refine ⟨g, _, cap3, upd D i true, rfl, by omega, by omega, hD.take htl, hg, fun h => tlen_top _ _ h, (bv_tlen _ _).trans ?_, hs1⟩
          have h9 := HE.out
          simp only [bv, upd_same, bv_upd D i true i (Nat.le_refl _)]
          exact h9

end Go.Proofs.YtklkohdcilnchabDoor

namespace Go.Proofs.YtklkohdcilnchabDoor
open Go.RowKit

/-- The value of the first digits. -/
def dv (s : ByteArray) : Nat → Nat
  | 0 => 0
  | k + 1 => dv s k * 10 + (bt s k - 48)

theorem u8_sub (x : Nat) (h1 : 48 ≤ x) (h2 : x ≤ 57) : IntKind.u8.wrap ((x : Int) - 48) = ((x - 48 : Nat) : Int) := by
  have : IntKind.u8.wrap ((x : Int) - 48) = ((x : Int) - 48) % 256 := by simp [IntKind.wrap, IntKind.bits, IntKind.signed]
  rw [this]; omega

theorem since_drewT {w w' : World} {B : Nat} (h : w.Since B w') : w.Since B w'.drew := ⟨h.os, h.tape, h.output, h.size, h.block⟩

set_option maxHeartbeats 1600000 in
set_option maxRecDepth 100000 in
theorem l1ReadRun_any (s : ByteArray) (w : World) (hs : s.size ≤ 400) (hd : ∀ k, k < s.size → 48 ≤ bt s k ∧ bt s k ≤ 57) :
    Calls Tryd.prog 63 #[.string s] w fun e w' => ∃ v t B, e = .returned v ∧ Tr w' v t B ∧ t ≤ 26065 ∧ bv B t = dv s s.size ∧ w.Since w.heap.size w' := by
  have sA : w.Since w.heap.size (w.alloc (.cells #[] 4)) := (World.Since.refl _ _).alloc (Nat.le_refl _) _
  go_enter Tryd.func63, Tryd.ntmps63
  go_wp2_with fail
  refine (l1BitsOf_any 10 _ (by omega)).mono ?_
  rintro e w1 ⟨x, t10, B10, rfl, k10, T10, e10, s1⟩
  have S1 : w.Since w.heap.size w1 := sA.trans (sinceMono s1 sA.size)
  have E10 := hide e10
  clear e10 s1 sA
  obtain ⟨a10, b10, o10, c10, rfl, k11, L10, p10⟩ := T10
  go_wp2
  go_loopw [3, 5] (fun v t wr => ∃ (k : Nat) (a : Option Addr) (g n c : Nat) (B : Nat → Bool), k ≤ s.size ∧ t = .int .i64 k ∧ v = .slice a n c ∧ n ≤ c ∧ n ≤ 65 * k + 65 ∧ Bits wr a g 0 n B ∧ Hid (0 < n → B (n - 1) = true) ∧ Hid (bv B n = dv s k) ∧ Bits wr a10 b10 o10 t10 B10 ∧ w.Since w.heap.size wr) (fun _ t _ => s.size - (intOf t).toNat)
  case atStart => exact ⟨0, _, 0, 0, _, fun _ => false, Nat.zero_le _, rfl, rfl, Nat.le_refl _, Nat.zero_le _, fun j hj => absurd hj (by omega), hide (fun h => absurd h (by omega)), hide rfl, L10, S1⟩
  case round =>
    obtain ⟨k, a, g, n, c, B, hk, rfl, rfl, hnc, hn5, LB, HT, HV, L10r, Sr⟩ := hrel
    by_cases hlt : k < s.size
    · have hlt' : (k : Int) < (s.size : Int) := by omega
      have hx := bt_in hlt
      have hxd := hd k hlt
      obtain ⟨y, hy⟩ : ∃ y, bt s k = y + 48 := ⟨bt s k - 48, by omega⟩
      have HS : Hid (dv s (k + 1) = dv s k * 10 + y) := hide (by rw [dv, hy, Nat.add_sub_cancel])
      rw [hy] at hx hxd
      have hyl : y < 18446744073709551616 := by omega
      have hw4 : IntKind.u64.wrap (y : Int) = (y : Int) := wrap_u64_id y hyl
      have hw2 : ((y + 48 : Nat) : Int) - 48 = (y : Int) := by omega
      have hw3 : (y : Int) + 48 - 48 = (y : Int) := by omega
      have hw1 : IntKind.u8.wrap (y : Int) = (y : Int) := by have := u8_sub (y + 48) (by omega) (by omega); rw [hw2] at this; rw [this]; omega
      clear hy
      have J1 := l1MulBits_any a a10 g 0 n c b10 o10 t10 c10 B B10 wr.drew (by omega) (by omega) LB L10r
      rw [HV.out, E10.out] at J1
      go_wp2_with fail
      go_region_held3 (fun _ => True) (go_keep)
        (first
          | (go_at_call 84
             with_reducible refine J1.mono ?_
             rintro e w2 ⟨g2, t2, c2, B2, rfl, m1, m2, L2, m3, p2, e2, s2⟩
             have S2 : w.Since w.heap.size w2 := (since_drewT Sr).trans (sinceMono s2 Sr.size)
             have L102 : Bits w2 a10 b10 o10 t10 B10 := Bits.keep (w := wr.drew) L10r s2
             have J2 := l1BitsOf_any y w2 hyl)
          | (go_at_call 47
             with_reducible refine J2.mono ?_
             rintro e w3 ⟨x3, t3, B3, rfl, m4, ⟨a3, b3, o3, c3, rfl, m5, L3, p3⟩, e3, s3⟩
             have S3 : w.Since w.heap.size w3 := S2.trans (sinceMono s3 S2.size)
             have L103 := L102.keep s3
             have J3 := l1AddBits_any (some ⟨g2, 0, none⟩) a3 g2 0 t2 c2 b3 o3 t3 c3 B2 B3 w3 (by omega) (by omega) (L2.keep s3) L3
             rw [e2, e3, ← HS.out] at J3)
          | (go_at_call 85
             with_reducible refine J3.mono ?_
             rintro e w4 ⟨g4, t4, c4, B4, rfl, m6, m7, L4, m8, p4, e4, s4⟩
             have S4 : w.Since w.heap.size w4 := S3.trans (sinceMono s4 S3.size)
             have L104 := L103.keep s4))
      all_goals
        have HT4 := hide p4
        have HV4 := hide e4
        clear J1 J2 J3 e2 e3 e4 p2 p3 p4 L2 L3 s2 s3 s4 S2 S3 LB L10r L102 L103 HV HT
        go_wp2
        go_roundw
        case rel => exact ⟨k + 1, _, g4, t4, c4, B4, by omega, by go_num, rfl, m6, by omega, L4, HT4, HV4, L104, S4⟩
        case measure => simp [intOf]; omega
    · have e : k = s.size := by omega
      subst e
      go_wp2
      go_ret
      exact ⟨_, n, B, rfl, ⟨a, g, 0, c, rfl, hnc, LB, HT.out⟩, by omega, HV.out, Sr⟩

end Go.Proofs.YtklkohdcilnchabDoor

namespace Go.Proofs.YtklkohdcilnchabDoor
open Go.RowKit

/-- The value of m digits from p on. -/
def cv (s : ByteArray) (p : Nat) : Nat → Nat
  | 0 => 0
  | m + 1 => cv s p m * 10 + (bt s (p + m) - 48)

theorem dv_add (s : ByteArray) (p m : Nat) : dv s (p + m) = dv s p * 10 ^ m + cv s p m := by
  induction m with
  | zero => simp [cv]
  | succ m ih =>
    show dv s (p + m) * 10 + (bt s (p + m) - 48) = _
    rw [ih, cv, Nat.add_mul, Nat.pow_succ, Nat.mul_assoc]
    omega

theorem cv_lt (s : ByteArray) (p m : Nat) (hd : ∀ k, k < s.size → 48 ≤ bt s k ∧ bt s k ≤ 57) (h : p + m ≤ s.size) : cv s p m < 10 ^ m := by
  induction m with
  | zero => simp [cv]
  | succ m ih =>
    have h1 := ih (by omega)
    have h2 := hd (p + m) (by omega)
    rw [cv, Nat.pow_succ]
    omega

theorem ext_ext (s : ByteArray) {p m : Nat} (h : p + m ≤ s.size) : (s.extract p s.size).extract m (s.size - p) = s.extract (p + m) s.size := by
  have e1 : (s.extract p s.size).size = s.size - p := sz_ext s (by omega) (Nat.le_refl _)
  have e2 : ((s.extract p s.size).extract m (s.size - p)).size = s.size - p - m := sz_ext _ (by omega) (by omega)
  have e3 : (s.extract (p + m) s.size).size = s.size - (p + m) := sz_ext s (by omega) (Nat.le_refl _)
  refine ext_bt (by omega) (fun k hk => ?_)
  rw [bt_ext _ (by omega), bt_ext _ (by omega), bt_ext _ (by omega), Nat.add_assoc]

theorem At1.sinceB {c o : Nat} {r : Option Nat} {w w1 w2 : World} (h : At1 c o r w1 w2) (S : w.Since w.heap.size w1) (hc : w.heap.size ≤ c) (hr : ∀ q, r = some q → w.heap.size ≤ q) : w.Since w.heap.size w2 :=
  ⟨h.os.trans S.os, h.tape.trans S.tape, h.output.trans S.output, Nat.le_trans S.size h.size, fun k hk => (h.block k (Nat.lt_of_lt_of_le hk S.size) (by omega) (fun e => by have := hr k e.symm; omega)).trans (S.block k hk)⟩

theorem pow8 {i : Nat} (h : i ≤ 8) : 10 ^ i ≤ 100000000 := Nat.le_trans (Nat.pow_le_pow_right (by omega) h) (by decide)
theorem pow9 {i : Nat} (h : i ≤ 9) : 10 ^ i ≤ 1000000000 := Nat.le_trans (Nat.pow_le_pow_right (by omega) h) (by decide)

set_option maxHeartbeats 3200000 in
set_option maxRecDepth 100000 in
theorem natOfDigits_any (s : ByteArray) (w : World) (hs : s.size ≤ 400) (hd : ∀ k, k < s.size → 48 ≤ bt s k ∧ bt s k ≤ 57) :
    Calls Tryd.prog 68 #[.string s] w fun e w' => ∃ v g, e = .returned v ∧ NatAt w' v g (dv s s.size) 402 ∧ w.heap.size ≤ g ∧ g < w'.heap.size ∧ w.Since w.heap.size w' := by
  have sA : w.Since w.heap.size ((w.alloc (.cells #[] 49)).alloc (.cells #[.slice (some ⟨w.heap.size, 0, none⟩) 0 0] 50)) := ((World.Since.refl _ _).alloc (Nat.le_refl _) _).alloc (by simp) _
  have zA : ((w.alloc (.cells #[] 49)).alloc (.cells #[.slice (some ⟨w.heap.size, 0, none⟩) 0 0] 50)).heap.size = w.heap.size + 1 + 1 := by simp
  have own0 : ((w.alloc (.cells #[] 49)).alloc (.cells #[.slice (some ⟨w.heap.size, 0, none⟩) 0 0] 50)).ownsRow w.heap.size 49 1 (.slice (some ⟨w.heap.size, 0, none⟩) 0 0) 0 (ll (fun _ => 0) 0) := (World.ownsRow_made w #[] 0 (Nat.le_refl _) (by decide) rfl).alloc _
  have c0 : ((w.alloc (.cells #[] 49)).alloc (.cells #[.slice (some ⟨w.heap.size, 0, none⟩) 0 0] 50)).cell? ⟨w.heap.size + 1, 0, none⟩ = some (.slice (some ⟨w.heap.size, 0, none⟩) 0 0) := by
    simp
  have f0 : ((w.alloc (.cells #[] 49)).alloc (.cells #[.slice (some ⟨w.heap.size, 0, none⟩) 0 0] 50)).frozen? ⟨w.heap.size + 1, 0, none⟩ = false := by
    simp
  have HDG := hide hd
  clear hd
  go_enter Tryd.func68, Tryd.ntmps68
  go_wp2
  generalize ((w.alloc (.cells #[] 49)).alloc (.cells #[.slice (some ⟨w.heap.size, 0, none⟩) 0 0] 50)) = wA at *
  obtain ⟨c, hc⟩ : ∃ c, c = w.heap.size + 1 := ⟨_, rfl⟩
  rw [← hc] at c0 f0 ⊢
  have hcA : c < wA.heap.size := by omega
  have hcw : w.heap.size < c := by omega
  clear hc zA
  go_loopg [0] s.size (fun gk d wr => ∃ (p n : Nat) (v : Value) (X : Nat → Nat), p ≤ s.size ∧ Hid (gk = s.size - p) ∧ d = .string (s.extract p s.size) ∧ Hid (p = 0 ∨ (s.size - p) % 9 = 0) ∧ wr.cell? ⟨c, 0, none⟩ = some v ∧ wr.frozen? ⟨c, 0, none⟩ = false ∧ wr.ownsRow w.heap.size 49 1 v n (ll X n) ∧ Hid (v ≠ .slice none 0 0) ∧ Hid (v.ownBlock ≠ some c) ∧
    Hid (∀ j, j < n → X j < 4294967296) ∧ Hid (0 < n → X (n - 1) ≠ 0) ∧ Hid (lv X n = dv s p) ∧ n ≤ p ∧ c < wr.heap.size ∧ w.Since w.heap.size wr)
  case atStart => exact ⟨0, 0, _, fun _ => 0, Nat.zero_le _, hide rfl, by rw [Lib.whole_piece], hide (Or.inl rfl), c0, f0, own0, hide (by simp), hide (by simp [Value.ownBlock]; omega), hide (fun j hj => absurd hj (by omega)), hide (fun h => absurd h (by omega)), hide rfl, Nat.le_refl _, hcA, sA⟩
  case round =>
    obtain ⟨p, n, v, X, hp, HG, rfl, H9, q0, qf, hown, HN, HC, HX, HT, HV, hnp, hcr, Sr⟩ := hrel
    clear own0 c0 f0 sA hcA
    have hsz : (s.extract p s.size).size = s.size - p := sz_ext s hp (Nat.le_refl _)
    have HEX := hide (fun m (h : p + m ≤ s.size) => ext_ext s h)
    have HBT := hide (fun k (h : k < s.size - p) => bt_ext s (i := p) (j := s.size) h)
    obtain ⟨t, ht⟩ : ∃ t, t = s.extract p s.size := ⟨_, rfl⟩
    rw [← ht] at hsz HEX HBT ⊢
    obtain ⟨r, hr⟩ : ∃ r, r = s.size - p := ⟨_, rfl⟩
    rw [← hr] at hsz HEX HBT
    clear ht
    by_cases hr0 : 0 < r
    · obtain ⟨m, hm⟩ : ∃ m, m = (r - 1) % 9 + 1 := ⟨_, rfl⟩
      have hm1 : m ≤ 9 := by omega
      have hm2 : m ≤ r := by omega
      have H9' : Hid (p = 0 ∨ m = 9) := hide (by have := H9.out; omega)
      have hmI : ((r : Int) - 1) % 9 + 1 = (m : Int) := by omega
      have hszI : (t.size : Int) = (r : Int) := by omega
      have hrI : (0 : Int) < (r : Int) := by omega
      have hrb : r ≤ 400 := by omega
      have HM := hide hm
      have HR := hide hr
      clear hm hr
      go_wp2
      go_loopw [5, 17] (fun q t' wr' => ∃ (i x : Nat), i ≤ m ∧ t' = .int .i64 i ∧ q = .int .u32 x ∧ Hid (x = cv s p i) ∧ x < 1000000000 ∧ Same wr wr') (fun _ t' _ => m - (intOf t').toNat)
      case atStart => exact ⟨0, 0, Nat.zero_le _, rfl, rfl, hide rfl, by omega, Same.refl _⟩
      case round =>
        obtain ⟨i, x, him, rfl, rfl, HCV, hx9, sm⟩ := hrel
        by_cases hlt : i < m
        · have hps : p + m ≤ s.size := by have := HR.out; omega
          have hx8 : x < 100000000 := by
            have h1 := cv_lt s p i HDG.out (by omega)
            have h2 := pow8 (i := i) (by omega)
            have := HCV.out
            omega
          have hti : i < t.size := by omega
          have hb := bt_in hti
          have hbb := HBT.out i (by omega)
          have hdd := HDG.out (p + i) (by omega)
          rw [hbb] at hb
          obtain ⟨y, hy⟩ : ∃ y, bt s (p + i) = y + 48 := ⟨bt s (p + i) - 48, by omega⟩
          have HS : Hid (cv s p (i + 1) = x * 10 + y) := hide (by rw [cv, hy, Nat.add_sub_cancel, ← HCV.out])
          rw [hy] at hb hdd
          have hw2 : ((y + 48 : Nat) : Int) - 48 = (y : Int) := by omega
          have hw3 : (y : Int) + 48 - 48 = (y : Int) := by omega
          have hiI : (i : Int) < (m : Int) := by omega
          have hiR : (i : Int) < (r : Int) := by omega
          clear hbb hy
          go_wp2
          go_roundw
          case rel => exact ⟨i + 1, x * 10 + y, by omega, by go_num, by go_num, hide HS.out.symm, by omega, sm⟩
          case measure => simp [intOf]; omega
        · have e : i = m := by omega
          subst e
          have hps : p + i ≤ s.size := by have := HR.out; omega
          have q1 : wr.cell? ⟨c, 0, none⟩ = some v := by rw [sm.cell]; exact q0
          have f1 : wr.frozen? ⟨c, 0, none⟩ = false := by rw [sm.frozen]; exact qf
          have o1 : wr.ownsRow w.heap.size 49 1 v n (ll X n) := hown.kept (row := none) ⟨sm.os, sm.tape, sm.output, by rw [sm.size]; exact Nat.le_refl _, fun k _ _ => by rw [sm.heap]⟩ (by cases h : v.ownBlock <;> simp)
          have S1 : w.Since w.heap.size wr := Sr.trans (sinceMono (sm.since _) Sr.size)
          have hz1 := sm.size
          have J := multiplyAdd_any c 0 w.heap.size n v x X wr (by omega) (by omega) q1 f1 o1 HC.out (by omega) S1.size HX.out
          have hlow := fun q hq => (o1.lt q hq).1
          have f1' := f1
          clear q0 qf hown Sr q1 f1 o1
          have hex := HEX.out i (by have := HR.out; omega)
          have hiI : (i : Int) ≤ (r : Int) := by omega
          go_wp2_with (go_at_call 96; with_reducible refine J.mono ?_; rintro e w2 ⟨rfl, v2, k2, V2, q2, o2, n2, b2, A2, l2, e2, m2, t2⟩)
          have hval : lv V2 k2 = dv s (p + i) := by
            rw [e2, HV.out, dv_add, HCV.out]
            rcases H9'.out with h | h
            · rw [h]; simp [dv]
            · rw [h]
          have htop : 0 < k2 → V2 (k2 - 1) ≠ 0 := fun h0 hz => by
            rcases t2 with h | h
            · subst h
              have h1 : lv V2 k2 = lv V2 (k2 - 1) := lv_more V2 (k2 - 1) k2 (by omega) (fun j h1 h2 => by rw [show j = k2 - 1 by omega]; exact hz)
              have h2 := lv_short (A := V2) (B := X) (n := k2 - 1) (m := k2) (fun j hj => l2 j (by omega)) (by omega) HT.out
              omega
            · exact h hz
          have S2 : w.Since w.heap.size w2 := A2.sinceB S1 (by omega) hlow
          have hs2 := A2.size
          go_roundg (s.size - (p + i))
          case rel => exact ⟨p + i, k2, v2, V2, by omega, hide rfl, rfl, hide (Or.inr (by have := HM.out; have := HR.out; omega)), q2, by rw [A2.frozen]; exact f1', o2, hide (fun h => HN.out (n2 h)), hide b2, hide l2, hide htop, hide hval, by have := HM.out; omega, by omega, S2⟩
          case measure => have := HG.out; have := HM.out; have := HR.out; omega
    · obtain ⟨g, cp, rfl, k1, k2, k3, L3, F3⟩ := own_limbs_some hown HN.out
      have e := hide (show p = s.size by omega)
      go_wp2
      go_ret
      exact ⟨_, g, rfl, ⟨_, n, cp, X, rfl, k1, by omega, fun h => (by cases h), L3, fun _ o => F3 o, HX.out, HT.out, by rw [← e.out]; exact HV.out⟩, k2, k3, Sr⟩

end Go.Proofs.YtklkohdcilnchabDoor

namespace Go.Proofs.YtklkohdcilnchabDoor
open Go.RowKit

/-- The text behind the sign. -/
def runs (s : ByteArray) : ByteArray := if sgn s then s.extract 1 s.size else s
def pTop (u : ByteArray) : ByteArray := if firstIdx u 47 = -1 then u else u.extract 0 (firstIdx u 47).toNat
def pBot (u : ByteArray) : ByteArray := if firstIdx u 47 = -1 then ⟨#[49]⟩ else u.extract ((firstIdx u 47).toNat + 1) u.size

/-- What RatParse answers: sign, numerator, divisor, code. -/
noncomputable def parseO (s : ByteArray) : Bool × Nat × Nat × Int :=
  let t := pTop (runs s)
  let b := pBot (runs s)
  if !(digB t && digB b) then (false, 0, 1, 1)
  else if 400 < t.size ∨ 400 < b.size then (false, 0, 1, 2)
  else if dv b b.size = 0 then (false, 0, 1, 3)
  else (sgn s && dv t t.size != 0, dv t t.size / Nat.gcd (dv t t.size) (dv b b.size), dv b b.size / Nat.gcd (dv t t.size) (dv b b.size), 0)

theorem runs_size (s : ByteArray) : (runs s).size ≤ s.size := by
  unfold runs
  split
  · rcases Nat.eq_zero_or_pos s.size with h | h
    · rw [Lib.size_eq, Lib.extract_data, List.length_take, List.length_drop, ← Lib.size_eq]; omega
    · rw [sz_ext s (by omega) (Nat.le_refl _)]; omega
  · exact Nat.le_refl _

theorem parts_size (u : ByteArray) : (pTop u).size ≤ u.size + 1 ∧ (pBot u).size ≤ u.size + 1 := by
  unfold pTop pBot
  rcases firstIdx_spec u with ⟨h, -⟩ | ⟨i, hi, h, -, -⟩
  · rw [if_pos h, if_pos h]; exact ⟨by omega, by show 1 ≤ _; omega⟩
  · have hn : ¬ firstIdx u 47 = -1 := by rw [h]; omega
    rw [if_neg hn, if_neg hn, h, Int.toNat_natCast, sz_ext u (by omega) (by omega), sz_ext u (by omega) (Nat.le_refl _)]; omega

theorem digB_digs {s : ByteArray} (h : digB s = true) : ∀ k, k < s.size → 48 ≤ bt s k ∧ bt s k ≤ 57 := by
  unfold digB at h
  simp only [Bool.and_eq_true, decide_eq_true_iff] at h
  exact h.1

set_option maxHeartbeats 3200000 in
set_option maxRecDepth 100000 in
theorem implRatParse_any (s : ByteArray) (w : World) (hs : s.size ≤ 1048576) (hw : 1 < w.heap.size) (hT : Tab w) :
    Calls Tryd.prog 33 #[.string s] w fun e w' => ∃ v, e = .returned (.tuple #[v, .int .i64 (parseO s).2.2.2]) ∧ RatV w' v (parseO s).1 (parseO s).2.1 (parseO s).2.2.1 w.heap.size 4194304 ∧ w.Since w.heap.size w' := by
  have hrs := runs_size s
  have hps := parts_size (runs s)
  have sA : w.Since w.heap.size (w.alloc (.cells #[.bool false, .slice none 0 0, .slice none 0 0] 31)) := (World.Since.refl _ _).alloc (Nat.le_refl _) _
  have rA := Box3.new w (.bool false) (.slice none 0 0) (.slice none 0 0) 31
  go_enter Tryd.func33, Tryd.ntmps33
  go_wp2_with fail
  generalize w.alloc (.cells #[.bool false, .slice none 0 0, .slice none 0 0] 31) = wA at *
  refine (cutPrefix_any s _ _ (by omega) (by decide) (by decide)).mono ?_
  rintro e w1 ⟨s1, rfl⟩
  rw [show (if sgn s then s.extract 1 s.size else s) = runs s from rfl]
  go_wp2_with fail
  refine (cut_any (runs s) _ _ (by omega) (by decide) (by decide)).mono ?_
  rintro e w2 ⟨s2, h⟩
  have sm : Same wA w2 := ⟨s2.os.trans s1.os, s2.tape.trans s1.tape, s2.output.trans s1.output, s2.heap.trans s1.heap⟩
  have S2 : w.Since w.heap.size w2 := sA.trans (sinceMono (sm.since wA.heap.size) sA.size)
  have r2 := rA.keep (sm.since _)
  clear sA rA s1 s2 sm
  rcases h with ⟨hi, rfl⟩ | ⟨i, hil, hi, rfl⟩
  · obtain ⟨t, ht0⟩ : ∃ t, t = runs s := ⟨_, rfl⟩
    obtain ⟨b, hb0⟩ : ∃ b, b = (⟨#[49]⟩ : ByteArray) := ⟨_, rfl⟩
    have te : pTop (runs s) = runs s := by unfold pTop; rw [if_pos hi]
    have be : pBot (runs s) = ⟨#[49]⟩ := by unfold pBot; rw [if_pos hi]
    clear hi
    rw [← ht0]
    have hbL : (⟨#[49]⟩ : ByteArray) = b := hb0.symm
    have htp : pTop (runs s) = t := te.trans ht0.symm
    have hbp : pBot (runs s) = b := be.trans hb0.symm
    have hts : t.size ≤ 1048577 := by rw [← htp]; omega
    have hbs : b.size ≤ 1048577 := by rw [← hbp]; omega
    have HTP := hide htp
    have HBP := hide hbp
    clear ht0 hb0 htp hbp hps hrs
    have JD1 := isDigits_any t w2 hts
    by_cases d1 : digB t = true
    · rw [d1] at JD1
      go_wp2_with fail
      refine JD1.mono ?_
      rintro e w3 ⟨rfl, s3⟩
      have r3 := r2.keep (s3.since _)
      have S3 : w.Since w.heap.size w3 := S2.trans (s3.since _)
      have JD2 := isDigits_any b w3 hbs
      by_cases d2 : digB b = true
      · rw [d2] at JD2
        go_wp2_with fail
        refine JD2.mono ?_
        rintro e w4 ⟨rfl, s4⟩
        have r4 := r3.keep (s4.since _)
        have S4 : w.Since w.heap.size w4 := S3.trans (s4.since _)
        clear JD1 JD2 r2 r3 S2 S3 s3 s4
        by_cases l1 : 400 < t.size
        · have l1' : (400 : Int) < (t.size : Int) := by omega
          have hpo : parseO s = (false, 0, 1, 2) := by unfold parseO; simp only [HTP.out, HBP.out, d1, d2]; simp [l1]
          have HPO := hide hpo
          clear hpo
          go_wp2_with fail
          refine (zeroRat_any w4).mono ?_
          rintro e w6 ⟨v, rfl, ⟨x1, x2, g6, h6, rfl, N6, D6, y1, y2, y3⟩, s6⟩
          have rB := r4.keep s6
          have N6' := N6
          have D6' := D6
          obtain ⟨a1, q1, c1, Y1, rfl, -⟩ := N6
          obtain ⟨a2, q2, c2, Y2, rfl, -⟩ := D6
          have S6 : w.Since w.heap.size w6 := S4.trans (sinceMono s6 S4.size)
          have z0 := S4.size
          have rl := r4.lt
          have u0 := rB.c0
          have u1 := rB.c1
          have u2 := rB.c2
          have uf0 := rB.f 0
          have uf1 := rB.f 1
          have uf2 := rB.f 2
          go_wp2
          have rC := ((rB.set0 (.bool false)).set1 (.slice a1 q1 c1)).set2 (.slice a2 q2 c2)
          refine bodyPost_ret (results_box3_tmp rfl _ _ _ _ _ _ rfl rC) rfl ?_
          have M : Marked w6 _ w.heap.size := (((Marked.refl w6 _).setCell 0 (.bool false)).setCell 1 (.slice a1 q1 c1)).setCell 2 (.slice a2 q2 c2)
          rw [HPO.out]
          exact ⟨_, rfl, ⟨_, _, g6, h6, rfl, N6'.marked M (by omega), D6'.marked M (by omega), by omega, by omega, y3⟩, S6.trans (M.since (Nat.le_refl _))⟩
        · by_cases l2 : 400 < b.size
          · have l1' : ¬ (400 : Int) < (t.size : Int) := by omega
            have l2' : (400 : Int) < (b.size : Int) := by omega
            have hpo : parseO s = (false, 0, 1, 2) := by unfold parseO; simp only [HTP.out, HBP.out, d1, d2]; simp [l2]
            have HPO := hide hpo
            clear hpo
            go_wp2_with fail
            refine (zeroRat_any w4).mono ?_
            rintro e w6 ⟨v, rfl, ⟨x1, x2, g6, h6, rfl, N6, D6, y1, y2, y3⟩, s6⟩
            have rB := r4.keep s6
            have N6' := N6
            have D6' := D6
            obtain ⟨a1, q1, c1, Y1, rfl, -⟩ := N6
            obtain ⟨a2, q2, c2, Y2, rfl, -⟩ := D6
            have S6 : w.Since w.heap.size w6 := S4.trans (sinceMono s6 S4.size)
            have z0 := S4.size
            have rl := r4.lt
            have u0 := rB.c0
            have u1 := rB.c1
            have u2 := rB.c2
            have uf0 := rB.f 0
            have uf1 := rB.f 1
            have uf2 := rB.f 2
            go_wp2
            have rC := ((rB.set0 (.bool false)).set1 (.slice a1 q1 c1)).set2 (.slice a2 q2 c2)
            refine bodyPost_ret (results_box3_tmp rfl _ _ _ _ _ _ rfl rC) rfl ?_
            have M : Marked w6 _ w.heap.size := (((Marked.refl w6 _).setCell 0 (.bool false)).setCell 1 (.slice a1 q1 c1)).setCell 2 (.slice a2 q2 c2)
            rw [HPO.out]
            exact ⟨_, rfl, ⟨_, _, g6, h6, rfl, N6'.marked M (by omega), D6'.marked M (by omega), by omega, by omega, y3⟩, S6.trans (M.since (Nat.le_refl _))⟩
          · have l1' : ¬ (400 : Int) < (t.size : Int) := by omega
            have l2' : ¬ (400 : Int) < (b.size : Int) := by omega
            have dg1 := digB_digs d1
            have dg2 := digB_digs d2
            go_wp2_with fail
            refine (natOfDigits_any t w4 (by omega) dg1).mono ?_
            rintro e w5 ⟨v1, g, rfl, N5, k51, k52, s5⟩
            have S5 : w.Since w.heap.size w5 := S4.trans (sinceMono s5 S4.size)
            have r5 := r4.keep s5
            go_wp2_with fail
            refine (natOfDigits_any b w5 (by omega) dg2).mono ?_
            rintro e w6 ⟨v2, h, rfl, D6, k61, k62, s6⟩
            have S6 : w.Since w.heap.size w6 := S5.trans (sinceMono s6 S5.size)
            have r6 := r5.keep s6
            have N6 := N5.keep s6
            have z4 := S4.size
            have z5 := s5.size
            have z6 := s6.size
            have rl4 := r4.lt
            have N6' := N6
            have D6' := D6
            obtain ⟨a1, q1, c1, Y1, rfl, -⟩ := N6
            obtain ⟨a2, q2, c2, Y2, rfl, -, -, -, -, -, -, tD, eD⟩ := D6
            have t7 : w6.Since w6.heap.size (w6.alloc (.cells #[.bool (sgn s), .slice a1 q1 c1, .slice a2 q2 c2] 72)) := (World.Since.refl _ _).alloc (Nat.le_refl _) _
            have F7 := Box3.new w6 (.bool (sgn s)) (.slice a1 q1 c1) (.slice a2 q2 c2) 72
            have S7 := S6.trans (sinceMono t7 S6.size)
            have r7 := r6.keep t7
            have N7 := (N6'.keep t7).more (show 402 ≤ 1048576 by omega)
            have D7 := (D6'.keep t7).more (show 402 ≤ 1048576 by omega)
            have z7 : w6.heap.size < (w6.alloc (.cells #[.bool (sgn s), .slice a1 q1 c1, .slice a2 q2 c2] 72)).heap.size := F7.lt
            have hz7 := lv_zero tD
            rw [eD] at hz7
            clear tD eD
            go_wp2_with fail
            generalize (w6.alloc (.cells #[.bool (sgn s), .slice a1 q1 c1, .slice a2 q2 c2] 72)) = w7 at *
            generalize hc7 : w6.heap.size = c7 at *
            refine (isZero_any c7 2 a2 q2 c2 w7 F7.c2).mono ?_
            rintro e w8 ⟨rfl, rfl⟩
            by_cases hD : dv b b.size = 0
            · have hq2 : q2 = 0 := hz7.2 hD
              subst hq2
              have hpo : parseO s = (false, 0, 1, 3) := by
                unfold parseO; simp only [HTP.out, HBP.out, d1, d2]; simp [l1, l2, hD]
              have HPO := hide hpo
              clear hpo hz7 hD N7 D7 N5 N6' D6' F7 t7 r6 r5 r4 dg1 dg2
              go_wp2_with fail
              refine (zeroRat_any w8).mono ?_
              rintro e wZ ⟨v, rfl, ⟨x1, x2, gZ, hZ, rfl, NZ, DZ, y1, y2, y3⟩, sZ⟩
              have rB := r7.keep sZ
              have NZ' := NZ
              have DZ' := DZ
              obtain ⟨b1, p1, d1', Y1', rfl, -⟩ := NZ
              obtain ⟨b2, p2, d2', Y2', rfl, -⟩ := DZ
              have S9 : w.Since w.heap.size wZ := S7.trans (sinceMono sZ S7.size)
              have z0 := S7.size
              have rl := r7.lt
              have u0 := rB.c0
              have u1 := rB.c1
              have u2 := rB.c2
              have uf0 := rB.f 0
              have uf1 := rB.f 1
              have uf2 := rB.f 2
              go_wp2
              have rC := ((rB.set0 (.bool false)).set1 (.slice b1 p1 d1')).set2 (.slice b2 p2 d2')
              refine bodyPost_ret (results_box3_tmp rfl _ _ _ _ _ _ rfl rC) rfl ?_
              have M : Marked wZ _ w.heap.size := (((Marked.refl wZ _).setCell 0 (.bool false)).setCell 1 (.slice b1 p1 d1')).setCell 2 (.slice b2 p2 d2')
              rw [HPO.out]
              exact ⟨_, rfl, ⟨_, _, gZ, hZ, rfl, NZ'.marked M (by omega), DZ'.marked M (by omega), by omega, by omega, y3⟩, S9.trans (M.since (Nat.le_refl _))⟩
            · have hq2 : ((q2 : Int) == 0) = false := by simp; omega
              have hpo : parseO s = (sgn s && dv t t.size != 0, dv t t.size / Nat.gcd (dv t t.size) (dv b b.size), dv b b.size / Nat.gcd (dv t t.size) (dv b b.size), 0) := by
                unfold parseO; simp only [HTP.out, HBP.out, d1, d2]; simp [l1, l2, hD]
              have HPO := hide hpo
              clear hpo
              have JN := normalise_any c7 (sgn s) (.slice a1 q1 c1) (.slice a2 q2 c2) g h (dv t t.size) (dv b b.size) (w.heap.size + 1) w8 (Nat.lt_of_lt_of_le hw S7.size) (hT.stay hw S7) F7 N7 D7 (by omega) (by omega) (by omega) (by omega) (by omega) (by omega) (by omega) (by omega) (by omega) (by omega)
              obtain ⟨neg, hneg⟩ : ∃ neg, neg = (sgn s && dv t t.size != 0) := ⟨_, rfl⟩
              rw [← hneg] at JN
              have HNE := hide hneg
              clear hneg
              go_wp2_with fail
              refine JN.mono ?_
              rintro e wB ⟨v, rfl, ⟨x1, x2, gB, hB, rfl, NB, DB, y1, y2, y3⟩, sB⟩
              have rB := r7.since sB (by omega)
              have NB' := NB
              have DB' := DB
              obtain ⟨b1, p1, d1', Y1', rfl, -⟩ := NB
              obtain ⟨b2, p2, d2', Y2', rfl, -⟩ := DB
              have SB : w.Since w.heap.size wB := S7.trans (sinceMono sB (by omega))
              have u0 := rB.c0
              have u1 := rB.c1
              have u2 := rB.c2
              have uf0 := rB.f 0
              have uf1 := rB.f 1
              have uf2 := rB.f 2
              clear JN
              go_wp2
              have rC := ((rB.set0 (.bool neg)).set1 (.slice b1 p1 d1')).set2 (.slice b2 p2 d2')
              refine bodyPost_ret (results_box3_tmp rfl _ _ _ _ _ _ rfl rC) rfl ?_
              have M : Marked wB _ w.heap.size := (((Marked.refl wB _).setCell 0 (.bool neg)).setCell 1 (.slice b1 p1 d1')).setCell 2 (.slice b2 p2 d2')
              rw [HPO.out]
              exact ⟨_, rfl, ⟨_, _, gB, hB, by rw [HNE.out], (NB'.more (by omega)).marked M (by omega), (DB'.more (by omega)).marked M (by omega), by omega, by omega, y3⟩, SB.trans (M.since (Nat.le_refl _))⟩
      · have d2' : digB b = false := by simpa using d2
        rw [d2'] at JD2
        have hpo : parseO s = (false, 0, 1, 1) := by unfold parseO; simp only [HTP.out, HBP.out, d1, d2']; simp
        have HPO := hide hpo
        clear hpo
        go_wp2_with fail
        refine JD2.mono ?_
        rintro e w4 ⟨rfl, s4⟩
        have r4 := r3.keep (s4.since _)
        have S4 : w.Since w.heap.size w4 := S3.trans (s4.since _)
        clear JD1 JD2 r2 r3 S2 S3 s3 s4
        go_wp2_with fail
        refine (zeroRat_any w4).mono ?_
        rintro e w6 ⟨v, rfl, ⟨x1, x2, g6, h6, rfl, N6, D6, y1, y2, y3⟩, s6⟩
        have rB := r4.keep s6
        have N6' := N6
        have D6' := D6
        obtain ⟨a1, q1, c1, Y1, rfl, -⟩ := N6
        obtain ⟨a2, q2, c2, Y2, rfl, -⟩ := D6
        have S6 : w.Since w.heap.size w6 := S4.trans (sinceMono s6 S4.size)
        have z0 := S4.size
        have rl := r4.lt
        have u0 := rB.c0
        have u1 := rB.c1
        have u2 := rB.c2
        have uf0 := rB.f 0
        have uf1 := rB.f 1
        have uf2 := rB.f 2
        go_wp2
        have rC := ((rB.set0 (.bool false)).set1 (.slice a1 q1 c1)).set2 (.slice a2 q2 c2)
        refine bodyPost_ret (results_box3_tmp rfl _ _ _ _ _ _ rfl rC) rfl ?_
        have M : Marked w6 _ w.heap.size := (((Marked.refl w6 _).setCell 0 (.bool false)).setCell 1 (.slice a1 q1 c1)).setCell 2 (.slice a2 q2 c2)
        rw [HPO.out]
        exact ⟨_, rfl, ⟨_, _, g6, h6, rfl, N6'.marked M (by omega), D6'.marked M (by omega), by omega, by omega, y3⟩, S6.trans (M.since (Nat.le_refl _))⟩
    · have d1' : digB t = false := by simpa using d1
      rw [d1'] at JD1
      have hpo : parseO s = (false, 0, 1, 1) := by unfold parseO; simp only [HTP.out, HBP.out, d1']; simp
      have HPO := hide hpo
      clear hpo
      go_wp2_with fail
      refine JD1.mono ?_
      rintro e w4 ⟨rfl, s4⟩
      have r4 := r2.keep (s4.since _)
      have S4 : w.Since w.heap.size w4 := S2.trans (s4.since _)
      clear JD1 r2 S2 s4
      go_wp2_with fail
      refine (zeroRat_any w4).mono ?_
      rintro e w6 ⟨v, rfl, ⟨x1, x2, g6, h6, rfl, N6, D6, y1, y2, y3⟩, s6⟩
      have rB := r4.keep s6
      have N6' := N6
      have D6' := D6
      obtain ⟨a1, q1, c1, Y1, rfl, -⟩ := N6
      obtain ⟨a2, q2, c2, Y2, rfl, -⟩ := D6
      have S6 : w.Since w.heap.size w6 := S4.trans (sinceMono s6 S4.size)
      have z0 := S4.size
      have rl := r4.lt
      have u0 := rB.c0
      have u1 := rB.c1
      have u2 := rB.c2
      have uf0 := rB.f 0
      have uf1 := rB.f 1
      have uf2 := rB.f 2
      go_wp2
      have rC := ((rB.set0 (.bool false)).set1 (.slice a1 q1 c1)).set2 (.slice a2 q2 c2)
      refine bodyPost_ret (results_box3_tmp rfl _ _ _ _ _ _ rfl rC) rfl ?_
      have M : Marked w6 _ w.heap.size := (((Marked.refl w6 _).setCell 0 (.bool false)).setCell 1 (.slice a1 q1 c1)).setCell 2 (.slice a2 q2 c2)
      rw [HPO.out]
      exact ⟨_, rfl, ⟨_, _, g6, h6, rfl, N6'.marked M (by omega), D6'.marked M (by omega), by omega, by omega, y3⟩, S6.trans (M.since (Nat.le_refl _))⟩
  · obtain ⟨t, ht0⟩ : ∃ t, t = (runs s).extract 0 i := ⟨_, rfl⟩
    obtain ⟨b, hb0⟩ : ∃ b, b = (runs s).extract (i + 1) (runs s).size := ⟨_, rfl⟩
    have hin : ¬ firstIdx (runs s) 47 = -1 := by rw [hi]; omega
    have te : pTop (runs s) = (runs s).extract 0 i := by unfold pTop; rw [if_neg hin, hi, Int.toNat_natCast]
    have be : pBot (runs s) = (runs s).extract (i + 1) (runs s).size := by unfold pBot; rw [if_neg hin, hi, Int.toNat_natCast]
    clear hi hin hil
    rw [← ht0, ← hb0]
    have htp : pTop (runs s) = t := te.trans ht0.symm
    have hbp : pBot (runs s) = b := be.trans hb0.symm
    have hts : t.size ≤ 1048577 := by rw [← htp]; omega
    have hbs : b.size ≤ 1048577 := by rw [← hbp]; omega
    have HTP := hide htp
    have HBP := hide hbp
    clear ht0 hb0 htp hbp hps hrs
    have JD1 := isDigits_any t w2 hts
    by_cases d1 : digB t = true
    · rw [d1] at JD1
      go_wp2_with fail
      refine JD1.mono ?_
      rintro e w3 ⟨rfl, s3⟩
      have r3 := r2.keep (s3.since _)
      have S3 : w.Since w.heap.size w3 := S2.trans (s3.since _)
      have JD2 := isDigits_any b w3 hbs
      by_cases d2 : digB b = true
      · rw [d2] at JD2
        go_wp2_with fail
        refine JD2.mono ?_
        rintro e w4 ⟨rfl, s4⟩
        have r4 := r3.keep (s4.since _)
        have S4 : w.Since w.heap.size w4 := S3.trans (s4.since _)
        clear JD1 JD2 r2 r3 S2 S3 s3 s4
        by_cases l1 : 400 < t.size
        · have l1' : (400 : Int) < (t.size : Int) := by omega
          have hpo : parseO s = (false, 0, 1, 2) := by unfold parseO; simp only [HTP.out, HBP.out, d1, d2]; simp [l1]
          have HPO := hide hpo
          clear hpo
          go_wp2_with fail
          refine (zeroRat_any w4).mono ?_
          rintro e w6 ⟨v, rfl, ⟨x1, x2, g6, h6, rfl, N6, D6, y1, y2, y3⟩, s6⟩
          have rB := r4.keep s6
          have N6' := N6
          have D6' := D6
          obtain ⟨a1, q1, c1, Y1, rfl, -⟩ := N6
          obtain ⟨a2, q2, c2, Y2, rfl, -⟩ := D6
          have S6 : w.Since w.heap.size w6 := S4.trans (sinceMono s6 S4.size)
          have z0 := S4.size
          have rl := r4.lt
          have u0 := rB.c0
          have u1 := rB.c1
          have u2 := rB.c2
          have uf0 := rB.f 0
          have uf1 := rB.f 1
          have uf2 := rB.f 2
          go_wp2
          have rC := ((rB.set0 (.bool false)).set1 (.slice a1 q1 c1)).set2 (.slice a2 q2 c2)
          refine bodyPost_ret (results_box3_tmp rfl _ _ _ _ _ _ rfl rC) rfl ?_
          have M : Marked w6 _ w.heap.size := (((Marked.refl w6 _).setCell 0 (.bool false)).setCell 1 (.slice a1 q1 c1)).setCell 2 (.slice a2 q2 c2)
          rw [HPO.out]
          exact ⟨_, rfl, ⟨_, _, g6, h6, rfl, N6'.marked M (by omega), D6'.marked M (by omega), by omega, by omega, y3⟩, S6.trans (M.since (Nat.le_refl _))⟩
        · by_cases l2 : 400 < b.size
          · have l1' : ¬ (400 : Int) < (t.size : Int) := by omega
            have l2' : (400 : Int) < (b.size : Int) := by omega
            have hpo : parseO s = (false, 0, 1, 2) := by unfold parseO; simp only [HTP.out, HBP.out, d1, d2]; simp [l2]
            have HPO := hide hpo
            clear hpo
            go_wp2_with fail
            refine (zeroRat_any w4).mono ?_
            rintro e w6 ⟨v, rfl, ⟨x1, x2, g6, h6, rfl, N6, D6, y1, y2, y3⟩, s6⟩
            have rB := r4.keep s6
            have N6' := N6
            have D6' := D6
            obtain ⟨a1, q1, c1, Y1, rfl, -⟩ := N6
            obtain ⟨a2, q2, c2, Y2, rfl, -⟩ := D6
            have S6 : w.Since w.heap.size w6 := S4.trans (sinceMono s6 S4.size)
            have z0 := S4.size
            have rl := r4.lt
            have u0 := rB.c0
            have u1 := rB.c1
            have u2 := rB.c2
            have uf0 := rB.f 0
            have uf1 := rB.f 1
            have uf2 := rB.f 2
            go_wp2
            have rC := ((rB.set0 (.bool false)).set1 (.slice a1 q1 c1)).set2 (.slice a2 q2 c2)
            refine bodyPost_ret (results_box3_tmp rfl _ _ _ _ _ _ rfl rC) rfl ?_
            have M : Marked w6 _ w.heap.size := (((Marked.refl w6 _).setCell 0 (.bool false)).setCell 1 (.slice a1 q1 c1)).setCell 2 (.slice a2 q2 c2)
            rw [HPO.out]
            exact ⟨_, rfl, ⟨_, _, g6, h6, rfl, N6'.marked M (by omega), D6'.marked M (by omega), by omega, by omega, y3⟩, S6.trans (M.since (Nat.le_refl _))⟩
          · have l1' : ¬ (400 : Int) < (t.size : Int) := by omega
            have l2' : ¬ (400 : Int) < (b.size : Int) := by omega
            have dg1 := digB_digs d1
            have dg2 := digB_digs d2
            go_wp2_with fail
            refine (natOfDigits_any t w4 (by omega) dg1).mono ?_
            rintro e w5 ⟨v1, g, rfl, N5, k51, k52, s5⟩
            have S5 : w.Since w.heap.size w5 := S4.trans (sinceMono s5 S4.size)
            have r5 := r4.keep s5
            go_wp2_with fail
            refine (natOfDigits_any b w5 (by omega) dg2).mono ?_
            rintro e w6 ⟨v2, h, rfl, D6, k61, k62, s6⟩
            have S6 : w.Since w.heap.size w6 := S5.trans (sinceMono s6 S5.size)
            have r6 := r5.keep s6
            have N6 := N5.keep s6
            have z4 := S4.size
            have z5 := s5.size
            have z6 := s6.size
            have rl4 := r4.lt
            have N6' := N6
            have D6' := D6
            obtain ⟨a1, q1, c1, Y1, rfl, -⟩ := N6
            obtain ⟨a2, q2, c2, Y2, rfl, -, -, -, -, -, -, tD, eD⟩ := D6
            have t7 : w6.Since w6.heap.size (w6.alloc (.cells #[.bool (sgn s), .slice a1 q1 c1, .slice a2 q2 c2] 72)) := (World.Since.refl _ _).alloc (Nat.le_refl _) _
            have F7 := Box3.new w6 (.bool (sgn s)) (.slice a1 q1 c1) (.slice a2 q2 c2) 72
            have S7 := S6.trans (sinceMono t7 S6.size)
            have r7 := r6.keep t7
            have N7 := (N6'.keep t7).more (show 402 ≤ 1048576 by omega)
            have D7 := (D6'.keep t7).more (show 402 ≤ 1048576 by omega)
            have z7 : w6.heap.size < (w6.alloc (.cells #[.bool (sgn s), .slice a1 q1 c1, .slice a2 q2 c2] 72)).heap.size := F7.lt
            have hz7 := lv_zero tD
            rw [eD] at hz7
            clear tD eD
            go_wp2_with fail
            generalize (w6.alloc (.cells #[.bool (sgn s), .slice a1 q1 c1, .slice a2 q2 c2] 72)) = w7 at *
            generalize hc7 : w6.heap.size = c7 at *
            refine (isZero_any c7 2 a2 q2 c2 w7 F7.c2).mono ?_
            rintro e w8 ⟨rfl, rfl⟩
            by_cases hD : dv b b.size = 0
            · have hq2 : q2 = 0 := hz7.2 hD
              subst hq2
              have hpo : parseO s = (false, 0, 1, 3) := by
                unfold parseO; simp only [HTP.out, HBP.out, d1, d2]; simp [l1, l2, hD]
              have HPO := hide hpo
              clear hpo hz7 hD N7 D7 N5 N6' D6' F7 t7 r6 r5 r4 dg1 dg2
              go_wp2_with fail
              refine (zeroRat_any w8).mono ?_
              rintro e wZ ⟨v, rfl, ⟨x1, x2, gZ, hZ, rfl, NZ, DZ, y1, y2, y3⟩, sZ⟩
              have rB := r7.keep sZ
              have NZ' := NZ
              have DZ' := DZ
              obtain ⟨b1, p1, d1', Y1', rfl, -⟩ := NZ
              obtain ⟨b2, p2, d2', Y2', rfl, -⟩ := DZ
              have S9 : w.Since w.heap.size wZ := S7.trans (sinceMono sZ S7.size)
              have z0 := S7.size
              have rl := r7.lt
              have u0 := rB.c0
              have u1 := rB.c1
              have u2 := rB.c2
              have uf0 := rB.f 0
              have uf1 := rB.f 1
              have uf2 := rB.f 2
              go_wp2
              have rC := ((rB.set0 (.bool false)).set1 (.slice b1 p1 d1')).set2 (.slice b2 p2 d2')
              refine bodyPost_ret (results_box3_tmp rfl _ _ _ _ _ _ rfl rC) rfl ?_
              have M : Marked wZ _ w.heap.size := (((Marked.refl wZ _).setCell 0 (.bool false)).setCell 1 (.slice b1 p1 d1')).setCell 2 (.slice b2 p2 d2')
              rw [HPO.out]
              exact ⟨_, rfl, ⟨_, _, gZ, hZ, rfl, NZ'.marked M (by omega), DZ'.marked M (by omega), by omega, by omega, y3⟩, S9.trans (M.since (Nat.le_refl _))⟩
            · have hq2 : ((q2 : Int) == 0) = false := by simp; omega
              have hpo : parseO s = (sgn s && dv t t.size != 0, dv t t.size / Nat.gcd (dv t t.size) (dv b b.size), dv b b.size / Nat.gcd (dv t t.size) (dv b b.size), 0) := by
                unfold parseO; simp only [HTP.out, HBP.out, d1, d2]; simp [l1, l2, hD]
              have HPO := hide hpo
              clear hpo
              have JN := normalise_any c7 (sgn s) (.slice a1 q1 c1) (.slice a2 q2 c2) g h (dv t t.size) (dv b b.size) (w.heap.size + 1) w8 (Nat.lt_of_lt_of_le hw S7.size) (hT.stay hw S7) F7 N7 D7 (by omega) (by omega) (by omega) (by omega) (by omega) (by omega) (by omega) (by omega) (by omega) (by omega)
              obtain ⟨neg, hneg⟩ : ∃ neg, neg = (sgn s && dv t t.size != 0) := ⟨_, rfl⟩
              rw [← hneg] at JN
              have HNE := hide hneg
              clear hneg
              go_wp2_with fail
              refine JN.mono ?_
              rintro e wB ⟨v, rfl, ⟨x1, x2, gB, hB, rfl, NB, DB, y1, y2, y3⟩, sB⟩
              have rB := r7.since sB (by omega)
              have NB' := NB
              have DB' := DB
              obtain ⟨b1, p1, d1', Y1', rfl, -⟩ := NB
              obtain ⟨b2, p2, d2', Y2', rfl, -⟩ := DB
              have SB : w.Since w.heap.size wB := S7.trans (sinceMono sB (by omega))
              have u0 := rB.c0
              have u1 := rB.c1
              have u2 := rB.c2
              have uf0 := rB.f 0
              have uf1 := rB.f 1
              have uf2 := rB.f 2
              clear JN
              go_wp2
              have rC := ((rB.set0 (.bool neg)).set1 (.slice b1 p1 d1')).set2 (.slice b2 p2 d2')
              refine bodyPost_ret (results_box3_tmp rfl _ _ _ _ _ _ rfl rC) rfl ?_
              have M : Marked wB _ w.heap.size := (((Marked.refl wB _).setCell 0 (.bool neg)).setCell 1 (.slice b1 p1 d1')).setCell 2 (.slice b2 p2 d2')
              rw [HPO.out]
              exact ⟨_, rfl, ⟨_, _, gB, hB, by rw [HNE.out], (NB'.more (by omega)).marked M (by omega), (DB'.more (by omega)).marked M (by omega), by omega, by omega, y3⟩, SB.trans (M.since (Nat.le_refl _))⟩
      · have d2' : digB b = false := by simpa using d2
        rw [d2'] at JD2
        have hpo : parseO s = (false, 0, 1, 1) := by unfold parseO; simp only [HTP.out, HBP.out, d1, d2']; simp
        have HPO := hide hpo
        clear hpo
        go_wp2_with fail
        refine JD2.mono ?_
        rintro e w4 ⟨rfl, s4⟩
        have r4 := r3.keep (s4.since _)
        have S4 : w.Since w.heap.size w4 := S3.trans (s4.since _)
        clear JD1 JD2 r2 r3 S2 S3 s3 s4
        go_wp2_with fail
        refine (zeroRat_any w4).mono ?_
        rintro e w6 ⟨v, rfl, ⟨x1, x2, g6, h6, rfl, N6, D6, y1, y2, y3⟩, s6⟩
        have rB := r4.keep s6
        have N6' := N6
        have D6' := D6
        obtain ⟨a1, q1, c1, Y1, rfl, -⟩ := N6
        obtain ⟨a2, q2, c2, Y2, rfl, -⟩ := D6
        have S6 : w.Since w.heap.size w6 := S4.trans (sinceMono s6 S4.size)
        have z0 := S4.size
        have rl := r4.lt
        have u0 := rB.c0
        have u1 := rB.c1
        have u2 := rB.c2
        have uf0 := rB.f 0
        have uf1 := rB.f 1
        have uf2 := rB.f 2
        go_wp2
        have rC := ((rB.set0 (.bool false)).set1 (.slice a1 q1 c1)).set2 (.slice a2 q2 c2)
        refine bodyPost_ret (results_box3_tmp rfl _ _ _ _ _ _ rfl rC) rfl ?_
        have M : Marked w6 _ w.heap.size := (((Marked.refl w6 _).setCell 0 (.bool false)).setCell 1 (.slice a1 q1 c1)).setCell 2 (.slice a2 q2 c2)
        rw [HPO.out]
        exact ⟨_, rfl, ⟨_, _, g6, h6, rfl, N6'.marked M (by omega), D6'.marked M (by omega), by omega, by omega, y3⟩, S6.trans (M.since (Nat.le_refl _))⟩
    · have d1' : digB t = false := by simpa using d1
      rw [d1'] at JD1
      have hpo : parseO s = (false, 0, 1, 1) := by unfold parseO; simp only [HTP.out, HBP.out, d1']; simp
      have HPO := hide hpo
      clear hpo
      go_wp2_with fail
      refine JD1.mono ?_
      rintro e w4 ⟨rfl, s4⟩
      have r4 := r2.keep (s4.since _)
      have S4 : w.Since w.heap.size w4 := S2.trans (s4.since _)
      clear JD1 r2 S2 s4
      go_wp2_with fail
      refine (zeroRat_any w4).mono ?_
      rintro e w6 ⟨v, rfl, ⟨x1, x2, g6, h6, rfl, N6, D6, y1, y2, y3⟩, s6⟩
      have rB := r4.keep s6
      have N6' := N6
      have D6' := D6
      obtain ⟨a1, q1, c1, Y1, rfl, -⟩ := N6
      obtain ⟨a2, q2, c2, Y2, rfl, -⟩ := D6
      have S6 : w.Since w.heap.size w6 := S4.trans (sinceMono s6 S4.size)
      have z0 := S4.size
      have rl := r4.lt
      have u0 := rB.c0
      have u1 := rB.c1
      have u2 := rB.c2
      have uf0 := rB.f 0
      have uf1 := rB.f 1
      have uf2 := rB.f 2
      go_wp2
      have rC := ((rB.set0 (.bool false)).set1 (.slice a1 q1 c1)).set2 (.slice a2 q2 c2)
      refine bodyPost_ret (results_box3_tmp rfl _ _ _ _ _ _ rfl rC) rfl ?_
      have M : Marked w6 _ w.heap.size := (((Marked.refl w6 _).setCell 0 (.bool false)).setCell 1 (.slice a1 q1 c1)).setCell 2 (.slice a2 q2 c2)
      rw [HPO.out]
      exact ⟨_, rfl, ⟨_, _, g6, h6, rfl, N6'.marked M (by omega), D6'.marked M (by omega), by omega, by omega, y3⟩, S6.trans (M.since (Nat.le_refl _))⟩

end Go.Proofs.YtklkohdcilnchabDoor

namespace Go.Proofs.YtklkohdcilnchabDoor
open Go.RowKit

theorem Tryd.info9 : (Tryd.prog.info? 9).map (fun i => (i.zero, i.size, i.bytes)) = some (some (.string ByteArray.empty), 1, 16) := by kernel_rfl

/-- The pieces so far. -/
def CutI (s : ByteArray) (i : Nat) (ps : List ByteArray) (f : Nat) : Prop :=
  (ps = [] ∧ f = 0 ∧ ∀ k, k < i → bt s k ≠ 47) ∨
  (∃ j, j < i ∧ bt s j = 47 ∧ (∀ k, k < i → k ≠ j → bt s k ≠ 47) ∧ ps = [s.extract 0 j] ∧ f = j + 1) ∨
  (2 ≤ ps.length ∧ ∃ j j', j < j' ∧ j' < i ∧ bt s j = 47 ∧ bt s j' = 47)

/-- The pieces. -/
def CutR (s : ByteArray) (qs : List ByteArray) : Prop :=
  (qs = [s] ∧ ∀ k, k < s.size → bt s k ≠ 47) ∨
  (∃ j, j < s.size ∧ bt s j = 47 ∧ (∀ k, k < s.size → k ≠ j → bt s k ≠ 47) ∧ qs = [s.extract 0 j, s.extract (j + 1) s.size]) ∨
  (3 ≤ qs.length ∧ ∃ j j', j < j' ∧ j' < s.size ∧ bt s j = 47 ∧ bt s j' = 47)

theorem cutI_skip {s : ByteArray} {i : Nat} {ps : List ByteArray} {f : Nat} (h : CutI s i ps f) (hb : bt s i ≠ 47) : CutI s (i + 1) ps f := by
  rcases h with ⟨h1, h2, h3⟩ | ⟨j, h1, h2, h3, h4, h5⟩ | ⟨h1, j, j', h2, h3, h4, h5⟩
  · refine Or.inl ⟨h1, h2, fun k hk => ?_⟩
    by_cases e : k = i
    · subst e; exact hb
    · exact h3 k (by omega)
  · refine Or.inr (Or.inl ⟨j, by omega, h2, fun k hk hne => ?_, h4, h5⟩)
    by_cases e : k = i
    · subst e; exact hb
    · exact h3 k (by omega) hne
  · exact Or.inr (Or.inr ⟨h1, j, j', h2, by omega, h4, h5⟩)

theorem cutI_hit {s : ByteArray} {i : Nat} {ps : List ByteArray} {f : Nat} (h : CutI s i ps f) (hb : bt s i = 47) : CutI s (i + 1) (ps ++ [s.extract f i]) (i + 1) := by
  rcases h with ⟨rfl, rfl, h3⟩ | ⟨j, h1, h2, h3, rfl, h5⟩ | ⟨h1, j, j', h2, h3, h4, h5⟩
  · exact Or.inr (Or.inl ⟨i, by omega, hb, fun k hk hne => h3 k (by omega), rfl, rfl⟩)
  · exact Or.inr (Or.inr ⟨by simp, j, i, h1, by omega, h2, hb⟩)
  · exact Or.inr (Or.inr ⟨by simp; omega, j, j', h2, by omega, h4, h5⟩)

theorem cutI_end {s : ByteArray} {ps : List ByteArray} {f : Nat} (h : CutI s s.size ps f) : CutR s (ps ++ [s.extract f s.size]) := by
  rcases h with ⟨rfl, rfl, h3⟩ | ⟨j, h1, h2, h3, rfl, rfl⟩ | ⟨h1, j, j', h2, h3, h4, h5⟩
  · exact Or.inl ⟨by rw [Lib.whole_piece]; rfl, h3⟩
  · exact Or.inr (Or.inl ⟨j, h1, h2, h3, rfl⟩)
  · exact Or.inr (Or.inr ⟨by simp; omega, j, j', h2, h3, h4, h5⟩)

set_option maxHeartbeats 1600000 in
set_option maxRecDepth 100000 in
theorem l1Cut_any (s : ByteArray) (w : World) (hs : s.size ≤ 1048577) :
    Calls Tryd.prog 61 #[.string s, .int .u8 47, .int .u8 47] w fun e w' => ∃ v qs, e = .returned v ∧ w'.ownsRow w.heap.size 9 1 v qs.length (qs.map Value.string) ∧ CutR s qs ∧ qs.length ≤ s.size + 1 ∧ w.Since w.heap.size w' := by
  obtain ⟨i0, hi, hz0, hz1, hz2⟩ := info_parts Tryd.info9
  go_enter Tryd.func61, Tryd.ntmps61
  go_wp2
  go_loopw [7, 8, 9] (fun v f t wr => ∃ (i fr : Nat) (ps : List ByteArray), i ≤ s.size ∧ fr ≤ i ∧ t = .int .i64 i ∧ f = .int .i64 fr ∧ wr.ownsRow w.heap.size 9 1 v ps.length (ps.map Value.string) ∧ Hid (CutI s i ps fr) ∧ ps.length ≤ i ∧ w.Since w.heap.size wr) (fun _ _ t _ => s.size - (intOf t).toNat)
  case atStart => exact ⟨0, 0, [], Nat.zero_le _, Nat.le_refl _, rfl, rfl, World.ownsRow_made w #[] 0 (Nat.le_refl _) (by decide) rfl, hide (Or.inl ⟨rfl, rfl, fun k hk => absurd hk (by omega)⟩), Nat.le_refl _, (World.Since.refl _ _).alloc (Nat.le_refl _) _⟩
  case round =>
    obtain ⟨i, fr, ps, hik, hfr, rfl, rfl, hown, HC, hpl, hS⟩ := hrel
    have hs1 := hS.size
    by_cases hlt : i < s.size
    · have hlt' : (i : Int) < (s.size : Int) := by omega
      have hx := bt_in hlt
      have hx2 := bt_lt s i
      by_cases c1 : bt s i = 47
      · have HC1 := hide (cutI_hit HC.out c1)
        rw [c1] at hx
        have hb0 : (0 : Int) ≤ (fr : Int) := by omega
        have hb1 : (fr : Int) ≤ (i : Int) := by omega
        clear c1 hx2 HC
        go_wp2_with (at_builtin; refine wpList_append_own _ rfl _ _ 62 rfl w.heap.size 9 i0 (.string ByteArray.empty) 1 16 Tryd.underlying62 hi hz0 hz1 hz2 rfl (by decide) _ _ _ rfl (hown.alloc _) ⟨wr.heap.size, 0, none⟩ 1 1 [.string (s.extract fr i)] rfl rfl (new_cell _ _ _) (one_one _ rfl) (by unfold maxLen; omega) (by omega) (by simp; omega) ?_)
        intro v' w1 hown' hgrow hnn
        have hs2 : w.Since w.heap.size w1 := (hS.alloc hS.size _).grown hgrow (by simp; omega) (fun k hk => (hown.lt k hk).1)
        rw [show ps.map Value.string ++ [.string (s.extract fr i)] = (ps ++ [s.extract fr i]).map Value.string by simp, show ps.length + 1 = (ps ++ [s.extract fr i]).length by simp] at hown'
        clear hgrow hnn hown
        go_wp2
        go_roundw
        case rel => exact ⟨i + 1, i + 1, _, by omega, by omega, by go_num, by go_num, hown', HC1, by simp; omega, hs2⟩
        case measure => simp [intOf]; omega
      · have HC1 := hide (cutI_skip HC.out c1)
        have c1' : ¬ ((bt s i : Int) = 47) := by omega
        obtain ⟨x, ex⟩ : ∃ x, x = bt s i := ⟨_, rfl⟩
        rw [← ex] at hx hx2 c1'
        have hxb : ((x : Int) == 47) = false := by simpa using c1'
        clear ex c1 HC
        go_wp2
        go_roundw
        case rel => exact ⟨i + 1, fr, ps, by omega, by omega, by go_num, rfl, hown, HC1, by omega, hS⟩
        case measure => simp [intOf]; omega
    · have e : i = s.size := by omega
      subst e
      have HC1 := hide (cutI_end HC.out)
      go_wp2_with (at_builtin; refine wpList_append_own _ rfl _ _ 62 rfl w.heap.size 9 i0 (.string ByteArray.empty) 1 16 Tryd.underlying62 hi hz0 hz1 hz2 rfl (by decide) _ _ _ rfl (hown.alloc _) ⟨wr.heap.size, 0, none⟩ 1 1 [.string (s.extract fr s.size)] rfl rfl (new_cell _ _ _) (one_one _ rfl) (by unfold maxLen; omega) (by omega) (by simp; omega) ?_)
      intro v' w1 hown' hgrow hnn
      have hs2 : w.Since w.heap.size w1 := (hS.alloc hS.size _).grown hgrow (by simp; omega) (fun k hk => (hown.lt k hk).1)
      rw [show ps.map Value.string ++ [.string (s.extract fr s.size)] = (ps ++ [s.extract fr s.size]).map Value.string by simp, show ps.length + 1 = (ps ++ [s.extract fr s.size]).length by simp] at hown'
      clear hgrow hnn hown
      go_wp2
      go_ret
      exact ⟨_, _, rfl, hown', HC1.out, by simp; omega, hs2⟩

end Go.Proofs.YtklkohdcilnchabDoor
