import Derived.Test.YtigggjcnnlidgaaU2
import Derived.Test.YtigggjcnnlidgaaMath4
import Derived.Lib.BitFns
namespace Go.Proofs.Ytigggjcnnlidgaa
open Go.RowKit

theorem bitLen_zero : Lib.bitLen 0 = 0 := by decide

theorem bitLen_spec2 : ∀ (f x : Nat), f ≤ 64 → x < 2 ^ f → x ≠ 0 → 1 ≤ Lib.bitLen x ∧ 2 ^ (Lib.bitLen x - 1) ≤ x ∧ x < 2 ^ Lib.bitLen x := by
  intro f
  induction f with
  | zero => intro x _ h h0; simp at h; omega
  | succ f ih =>
    intro x hf h h0
    have hx64 : x < 2 ^ 64 := Nat.lt_of_lt_of_le h (Nat.pow_le_pow_right (by omega) hf)
    rw [Lib.bitLen_half x h0 hx64]
    by_cases h1 : x / 2 = 0
    · have hx1 : x = 1 := by omega
      subst hx1
      simp [bitLen_zero]
    · obtain ⟨a1, a2, a3⟩ := ih (x / 2) (by omega) (by rw [Nat.pow_succ] at h; omega) h1
      generalize Lib.bitLen (x / 2) = n at *
      refine ⟨by omega, ?_, ?_⟩
      · rw [show 1 + n - 1 = (n - 1) + 1 by omega, Nat.pow_succ]; omega
      · rw [Nat.add_comm, Nat.pow_succ]; omega

theorem tab_size : (Lib.len8tab.size : Int) = 256 := by have := Lib.len8tab_size; omega

theorem tab_get (y : Int) (h : y.toNat < Lib.len8tab.size) (h0 : 0 ≤ y) (h1 : y ≤ 255) : ((Lib.len8tab[y.toNat]'h).toNat : Int) = (Lib.bitLen y.toNat : Int) := by
  rw [← Lib.len8_of y h0 h1]
  unfold Lib.len8
  rw [getElem?_pos Lib.len8tab y.toNat h]
  rfl

theorem wrap_one (a : Nat) (ha : a ≤ 64) : wrap64 (a : Int) = (a : Int) := by unfold wrap64; omega

set_option maxHeartbeats 4000000 in
set_option maxRecDepth 100000 in
theorem len32_any (x : Int) (w : World) (h0 : 0 ≤ x) (hx : x ≤ 4294967295) :
    Calls Try.prog 39 #[.int .u32 x] w fun e w' => e = .returned (.int .i64 (Lib.bitLen x.toNat)) ∧ w' = w := by
  have hsz := tab_size
  go_enter Try.func39, Try.ntmps39
  go_wp2
  all_goals (go_ret; refine ⟨congrArg Ending.returned (congrArg (Value.int IntKind.i64) ?_), rfl⟩)
  all_goals go_light
  · have l := Lib.bitLen_le8' (x / 65536 / 256) (by omega) (by omega)
    rw [tab_get (x / 65536 / 256) _ (by omega) (by omega), wrap_one _ (by omega)]
    have e : (x / 65536 / 256).toNat = x.toNat / 16777216 := by omega
    rw [e] at l ⊢
    rw [show (24 : Int) + (Lib.bitLen (x.toNat / 16777216) : Int) = ((24 + Lib.bitLen (x.toNat / 16777216) : Nat) : Int) by omega, wrap_one _ (by omega), Lib.bitLen_shift24 x.toNat (by omega) (by omega)]
  · have l := Lib.bitLen_le8' (x / 65536) (by omega) (by omega)
    rw [tab_get (x / 65536) _ (by omega) (by omega), wrap_one _ (by omega)]
    have e : (x / 65536).toNat = x.toNat / 65536 := by omega
    rw [e] at l ⊢
    rw [show (16 : Int) + (Lib.bitLen (x.toNat / 65536) : Int) = ((16 + Lib.bitLen (x.toNat / 65536) : Nat) : Int) by omega, wrap_one _ (by omega), Lib.bitLen_shift16 x.toNat (by omega) (by omega)]
  · have l := Lib.bitLen_le8' (x / 256) (by omega) (by omega)
    rw [tab_get (x / 256) _ (by omega) (by omega), wrap_one _ (by omega)]
    have e : (x / 256).toNat = x.toNat / 256 := by omega
    rw [e] at l ⊢
    rw [show (8 : Int) + (Lib.bitLen (x.toNat / 256) : Int) = ((8 + Lib.bitLen (x.toNat / 256) : Nat) : Int) by omega, wrap_one _ (by omega), Lib.bitLen_shift8 x.toNat (by omega) (by omega)]
  · have l := Lib.bitLen_le8' x (by omega) (by omega)
    rw [tab_get x _ (by omega) (by omega), wrap_one _ (by omega), wrap_one _ (by omega)]

set_option maxHeartbeats 800000 in
set_option maxRecDepth 100000 in
/-- LeadingZeros32 of a limb that is not 0: shifted by it, the limb's top bit is set. -/
theorem lz32_any (x : Nat) (w : World) (h0 : 0 < x) (hx : x < 4294967296) :
    Calls Try.prog 31 #[.int .u32 x] w fun e w' => ∃ s : Nat, e = .returned (.int .i64 s) ∧ w' = w ∧ s < 32 ∧ 2147483648 ≤ x * 2 ^ s ∧ x * 2 ^ s < 4294967296 := by
  have hs := bitLen_spec2 32 x (by omega) (by omega) (by omega)
  have hle := Lib.bitLen_le x 32 (by omega) (by omega)
  have H := hide hs
  have h1 := hs.1
  clear hs
  go_enter Try.func31, Try.ntmps31
  go_wp2_with fail
  refine (len32_any _ _ (by omega) (by omega)).mono ?_
  rintro e w1 ⟨rfl, rfl⟩
  rw [Int.toNat_natCast]
  generalize Lib.bitLen x = n at *
  go_wp2
  go_ret
  refine ⟨32 - n, ret_int (by omega), rfl, by omega, ?_, ?_⟩
  · have h2 := Nat.mul_le_mul_right (2 ^ (32 - n)) H.out.2.1
    rw [← Nat.pow_add, show n - 1 + (32 - n) = 31 by omega] at h2
    omega
  · have h3 := Nat.mul_lt_mul_of_pos_right H.out.2.2 (Nat.pow_pos (n := 32 - n) (show 0 < 2 by omega))
    rw [← Nat.pow_add, show n + (32 - n) = 32 by omega] at h3
    omega

end Go.Proofs.Ytigggjcnnlidgaa
