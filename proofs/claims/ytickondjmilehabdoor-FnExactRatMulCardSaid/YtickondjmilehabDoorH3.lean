import Derived.Test.YtickondjmilehabDoorH2
namespace Go.Proofs.YtickondjmilehabDoor
open Go.RowKit

/-- The bits of a machine number. -/
def nb (v j : Nat) : Bool := v / 2 ^ j % 2 == 1

theorem bv_nb (v k : Nat) : bv (nb v) k = v % 2 ^ k := by
  induction k with
  | zero => simp [bv, Nat.mod_one]
  | succ k ih =>
    have h : bv (nb v) (k + 1) = bv (nb v) k + (nb v k).toNat * 2 ^ k := rfl
    rw [h, ih]
    unfold nb
    rw [toNat_beq, Nat.pow_succ, Nat.mod_mul, Nat.mul_comm (2 ^ k)]

set_option maxHeartbeats 1600000 in
set_option maxRecDepth 100000 in
theorem l1BitsOf_any (v : Nat) (w : World) (hv : v < 18446744073709551616) :
    Calls Tryd.prog 47 #[.int .u64 v] w fun e w' => ∃ x t B, e = .returned x ∧ t ≤ 64 ∧ Tr w' x t B ∧ bv B t = v ∧ w.Since w.heap.size w' := by
  obtain ⟨i0, hi, hz0, hz1, hz2⟩ := info_parts Tryd.info4
  go_enter Tryd.func47, Tryd.ntmps47
  go_wp2
  go_loopw [0, 3] (fun p o wr => ∃ k q : Nat, k ≤ 64 ∧ p = .int .u64 q ∧ q < 18446744073709551616 ∧ Hid (q = v / 2 ^ k) ∧ Hid (0 < k → 0 < v / 2 ^ (k - 1)) ∧ wr.ownsRow w.heap.size 4 1 o k (bl (nb v) k) ∧ w.Since w.heap.size wr) (fun p _ _ => (intOf p).toNat)
  case atStart => exact ⟨0, v, by omega, rfl, hv, hide (by simp), hide (fun h => absurd h (by omega)), World.ownsRow_made w #[] 0 (Nat.le_refl _) (by decide) rfl, (World.Since.refl _ _).alloc (Nat.le_refl _) _⟩
  case round =>
    obtain ⟨k, q, hk, rfl, hq, HQ, HP, hown, hs⟩ := hrel
    by_cases h0 : q = 0
    · subst h0
      obtain ⟨a', g, cap', rfl, hmc, hg, hB⟩ := own_bits hown
      go_wp2
      go_ret
      have hlt : v < 2 ^ k := by
        have := HQ.out
        have h2 : 0 < 2 ^ k := Nat.pow_pos (by omega)
        rcases Nat.lt_or_ge v (2 ^ k) with h | h
        · exact h
        · have := Nat.div_pos h h2; omega
      refine ⟨_, k, nb v, rfl, hk, ⟨a', g, 0, cap', rfl, hmc, hB, fun h => ?_⟩, (bv_nb v k).trans (Nat.mod_eq_of_lt hlt), hs⟩
      have h1 := HP.out h
      obtain ⟨j, rfl⟩ : ∃ j, k = j + 1 := ⟨k - 1, by omega⟩
      have h2 : v / 2 ^ j < 2 := by rw [Nat.div_lt_iff_lt_mul (Nat.pow_pos (by omega))]; rw [Nat.pow_succ] at hlt; omega
      simp only [Nat.add_sub_cancel] at h1 ⊢
      unfold nb
      rw [show v / 2 ^ j = 1 by omega]
      rfl
    · have hk2 : k < 64 := by
        rcases Nat.lt_or_ge k 64 with h | h
        · exact h
        · have e : k = 64 := by omega
          subst e
          have := HQ.out
          rw [Nat.div_eq_of_lt hv] at this
          omega
      have hne : 0 < q := by omega
      have hbit : ((q : Int) % 2 == 1) = nb v k := by
        rw [Bool.eq_iff_iff]
        simp only [nb, beq_iff_eq, ← HQ.out]
        omega
      have HB := hide hbit
      clear hbit h0
      go_wp2_with (at_builtin; refine wpList_append_own _ rfl _ _ 46 rfl w.heap.size 4 i0 (.bool false) 1 1 Tryd.underlying46 hi hz0 hz1 hz2 rfl (by decide) _ _ _ rfl (hown.alloc _) ⟨wr.heap.size, 0, none⟩ 1 1 [.bool ((q : Int) % 2 == 1)] rfl rfl (new_cell _ _ _) (one_one _ rfl) (by unfold maxLen; omega) (by omega) (by have := hs.size; simp; omega) ?_)
      intro v' w1 hown' hgrow _
      have hs1 : w.Since w.heap.size w1 := (hs.alloc hs.size _).grown hgrow (by have := hs.size; simp; omega) (fun k hk => (hown.lt k hk).1)
      rw [HB.out, ← bl_succ] at hown'
      clear hgrow hown hs
      go_wp2
      go_roundw
      case rel => exact ⟨k + 1, q / 2, by omega, by go_num, by omega, hide (by rw [HQ.out, Nat.div_div_eq_div_mul, Nat.pow_succ]), hide (fun _ => by rw [Nat.add_sub_cancel, ← HQ.out]; exact hne), hown', hs1⟩
      case measure => simp [intOf]; omega

/-- What l1IsSmall says. -/
def smallB (X : Nat → Nat) (n : Nat) (Y : Nat → Nat) (m : Nat) : Bool := decide (n ≤ 1 ∧ m ≤ 1 ∧ lv X n < 2147483648 ∧ lv Y m < 2147483648)

theorem smallB_iff {X Y : Nat → Nat} {n m : Nat} : smallB X n Y m = true ↔ n ≤ 1 ∧ m ≤ 1 ∧ lv X n < 2147483648 ∧ lv Y m < 2147483648 := by unfold smallB; exact decide_eq_true_iff

theorem smallB_not {X Y : Nat → Nat} {n m : Nat} (h : ¬ (n ≤ 1 ∧ m ≤ 1 ∧ lv X n < 2147483648 ∧ lv Y m < 2147483648)) : false = smallB X n Y m := by
  cases e : smallB X n Y m
  · rfl
  · exact absurd (smallB_iff.1 e) h

set_option maxHeartbeats 1600000 in
set_option maxRecDepth 100000 in
theorem l1IsSmall_any (neg : Bool) (a b : Option Addr) (ba oa n ca bb ob m cb : Nat) (X Y : Nat → Nat) (w : World) (hn : n ≤ 1048576) (hm : m ≤ 1048576)
    (hX : Limbs w a ba oa n X) (hY : Limbs w b bb ob m Y) (hXl : ∀ j, j < n → X j < 4294967296) (hYl : ∀ j, j < m → Y j < 4294967296) :
    Calls Tryd.prog 43 #[.agg #[.bool neg, .slice a n ca, .slice b m cb]] w fun e w' => e = .returned (.bool (smallB X n Y m)) ∧ w.Since w.heap.size w' := by
  have sA : w.Since w.heap.size (w.alloc (.cells #[.bool neg, .slice a n ca, .slice b m cb] 31)) := (World.Since.refl _ _).alloc (Nat.le_refl _) _
  by_cases h1 : 1 < n
  · have HR := hide (smallB_not (X := X) (Y := Y) (n := n) (m := m) (by omega))
    go_enter Tryd.func43, Tryd.ntmps43
    go_wp2
    go_ret
    exact ⟨ret_bool HR.out, sA⟩
  by_cases h2 : 1 < m
  · have HR := hide (smallB_not (X := X) (Y := Y) (n := n) (m := m) (by omega))
    go_enter Tryd.func43, Tryd.ntmps43
    go_wp2
    go_ret
    exact ⟨ret_bool HR.out, sA⟩
  have I1 := l1Small_any a ba oa n ca X _ (by omega) (hX.keep sA) hXl
  have I2 := l1Small_any b bb ob m cb Y _ (by omega) (hY.keep sA) hYl
  have h1 : n ≤ 1 := by omega
  have h2 : m ≤ 1 := by omega
  obtain ⟨x, hx⟩ : ∃ x : Int, x = ((lv X n : Nat) : Int) := ⟨_, rfl⟩
  obtain ⟨y, hy⟩ : ∃ y : Int, y = ((lv Y m : Nat) : Int) := ⟨_, rfl⟩
  rw [← hx] at I1
  rw [← hy] at I2
  have HR : Hid ((decide (x < 2147483648) && decide (y < 2147483648)) = smallB X n Y m) := by
    show _ = _
    rw [Bool.eq_iff_iff, Bool.and_eq_true, decide_eq_true_iff, decide_eq_true_iff, smallB_iff]
    omega
  clear hX hY hXl hYl hx hy
  by_cases h3 : x < 2147483648
  · have HR : Hid (decide (y < 2147483648) = smallB X n Y m) := by rw [← HR.out]; simp [Hid, h3]
    go_enter Tryd.func43, Tryd.ntmps43
    go_wp2_with fail
    refine I1.mono ?_
    rintro e w1 ⟨rfl, rfl⟩
    go_wp2_with fail
    refine I2.mono ?_
    rintro e w1 ⟨rfl, rfl⟩
    go_wp2
    go_ret
    exact ⟨ret_bool HR.out, sA⟩
  · have HR : Hid (false = smallB X n Y m) := by rw [← HR.out]; simp [Hid, h3]
    go_enter Tryd.func43, Tryd.ntmps43
    go_wp2_with fail
    refine I1.mono ?_
    rintro e w1 ⟨rfl, rfl⟩
    go_wp2
    go_ret
    exact ⟨ret_bool HR.out, sA⟩

end Go.Proofs.YtickondjmilehabDoor
