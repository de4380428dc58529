import Derived.Test.YtickondjmilehabDoorG7
namespace Go.Proofs.YtickondjmilehabDoor
open Go.RowKit

theorem natAt_one (w : World) : NatAt (w.alloc (.cells #[.int .u32 1] 49)) (.slice (some ⟨w.heap.size, 0, none⟩) 1 1) w.heap.size 1 4194304 := by
  refine ⟨_, 1, 1, fun _ => 1, rfl, by omega, by omega, fun h => (by cases h), fun j hj => ?_, fun _ o => by simp [go_sem], fun _ _ => (by show 1 < 4294967296; omega), fun _ => by decide, by simp [lv]⟩
  have e : j = 0 := by omega
  subst e
  exact ⟨rfl, by simp [go_sem]⟩

set_option maxHeartbeats 6400000 in
set_option maxRecDepth 100000 in
theorem gcdOf_any (a b : Option Addr) (ba oa n ca bb ob m cb : Nat) (X Y : Nat → Nat) (w : World) (hw : 1 < w.heap.size) (hn : n ≤ 1048576) (hm : m ≤ 1048576) (hnc : n ≤ ca) (hmc : m ≤ cb) (hac : a = none → ca = 0) (hbc : b = none → cb = 0)
    (hX : Limbs w a ba oa n X) (hY : Limbs w b bb ob m Y) (hXl : ∀ j, j < n → X j < 4294967296) (hYl : ∀ j, j < m → Y j < 4294967296) (pX : 0 < n → X (n - 1) ≠ 0) (pY : 0 < m → Y (m - 1) ≠ 0) (hT : Tab w) :
    Calls Tryd.prog 39 #[.slice a n ca, .slice b m cb] w fun e w' => ∃ v g, e = .returned v ∧ NatAt w' v g (Nat.gcd (lv X n) (lv Y m)) 4194304 ∧ w.heap.size ≤ g ∧ w.Since w.heap.size w' := by
  by_cases hbig : lv X n ≠ 1 ∧ lv Y m ≠ 1 ∧ (2 < n ∨ 2 < m)
  · exact gcdOf_big a b ba oa n ca bb ob m cb X Y w hw hn hm hnc hmc hac hbc hX hY hXl hYl pX pY hT hbig.1 hbig.2.1 hbig.2.2
  have sA : w.Since w.heap.size ((w.alloc (.cells #[.slice a n ca] 50)).alloc (.cells #[.slice b m cb] 50)) := ((World.Since.refl _ _).alloc (Nat.le_refl _) _).alloc (by simp) _
  have bx1 : ((w.alloc (.cells #[.slice a n ca] 50)).alloc (.cells #[.slice b m cb] 50)).cell? ⟨w.heap.size, 0, none⟩ = some (.slice a n ca) := by rw [World.cell?_alloc_old _ _ _ (by simp)]; simp [go_sem]
  have bx2 : ((w.alloc (.cells #[.slice a n ca] 50)).alloc (.cells #[.slice b m cb] 50)).cell? ⟨w.heap.size + 1, 0, none⟩ = some (.slice b m cb) := by simp [go_sem]
  have zA : w.heap.size + 2 ≤ ((w.alloc (.cells #[.slice a n ca] 50)).alloc (.cells #[.slice b m cb] 50)).heap.size := by simp
  have XA := hX.keep sA
  have YA := hY.keep sA
  by_cases h1 : lv X n = 1
  · have eG : Nat.gcd (lv X n) (lv Y m) = 1 := by rw [h1]; exact Nat.gcd_one_left _
    rw [eG]
    have d1 : decide (lv X n = 1) = true := by simp [h1]
    go_enter Tryd.func39, Tryd.ntmps39
    go_wp2_with fail
    generalize (w.alloc (.cells #[.slice a n ca] 50)).alloc (.cells #[.slice b m cb] 50) = wA at *
    have I1 := isOne_any w.heap.size 0 a ba oa n ca X wA bx1 XA hXl pX
    rw [d1] at I1
    refine I1.mono ?_
    clear I1
    rintro e w1 ⟨rfl, hw1⟩
    rw [hw1]
    clear hw1 hXl hYl pX pY d1 h1 hbig eG
    go_wp2
    go_ret
    exact ⟨_, wA.heap.size, rfl, natAt_one wA, by omega, sA.alloc (by omega) _⟩
  by_cases h2 : lv Y m = 1
  · have eG : Nat.gcd (lv X n) (lv Y m) = 1 := by rw [h2]; exact Nat.gcd_one_right _
    rw [eG]
    have d1 : decide (lv X n = 1) = false := by simp [h1]
    have d2 : decide (lv Y m = 1) = true := by simp [h2]
    go_enter Tryd.func39, Tryd.ntmps39
    go_wp2_with fail
    generalize (w.alloc (.cells #[.slice a n ca] 50)).alloc (.cells #[.slice b m cb] 50) = wA at *
    have I1 := isOne_any w.heap.size 0 a ba oa n ca X wA bx1 XA hXl pX
    have I2 := isOne_any (w.heap.size + 1) 0 b bb ob m cb Y wA bx2 YA hYl pY
    rw [d1] at I1
    rw [d2] at I2
    refine I1.mono ?_
    clear I1
    rintro e w1 ⟨rfl, hw1⟩
    rw [hw1]
    clear hw1
    have I2 := hide I2
    go_wp2_with fail
    refine I2.out.mono ?_
    clear I2
    rintro e w1 ⟨rfl, hw1⟩
    rw [hw1]
    clear hw1 hXl hYl pX pY d1 d2 h1 h2 hbig eG
    go_wp2
    go_ret
    exact ⟨_, wA.heap.size, rfl, natAt_one wA, by omega, sA.alloc (by omega) _⟩
  · have h3 : n ≤ 2 := by rcases Nat.lt_or_ge 2 n with h | h; · exact absurd ⟨h1, h2, Or.inl h⟩ hbig
                          · exact h
    have h4 : m ≤ 2 := by rcases Nat.lt_or_ge 2 m with h | h; · exact absurd ⟨h1, h2, Or.inr h⟩ hbig
                          · exact h
    have d1 : decide (lv X n = 1) = false := by simp [h1]
    have d2 : decide (lv Y m = 1) = false := by simp [h2]
    have vX : lv X n < 18446744073709551616 := short_lt h3 hXl
    have vY : lv Y m < 18446744073709551616 := short_lt h4 hYl
    have vG : Nat.gcd (lv X n) (lv Y m) < 18446744073709551616 := by
      rcases Nat.eq_zero_or_pos (lv X n) with e | e
      · rw [e, Nat.gcd_zero_left]; exact vY
      · exact Nat.lt_of_le_of_lt (Nat.gcd_le_left _ e) vX
    go_enter Tryd.func39, Tryd.ntmps39
    go_wp2_with fail
    generalize (w.alloc (.cells #[.slice a n ca] 50)).alloc (.cells #[.slice b m cb] 50) = wA at *
    have I1 := isOne_any w.heap.size 0 a ba oa n ca X wA bx1 XA hXl pX
    have I2 := isOne_any (w.heap.size + 1) 0 b bb ob m cb Y wA bx2 YA hYl pY
    rw [d1] at I1
    rw [d2] at I2
    refine I1.mono ?_
    clear I1
    rintro e w1 ⟨rfl, hw1⟩
    rw [hw1]
    clear hw1
    have I2 := hide I2
    go_wp2_with fail
    refine I2.out.mono ?_
    clear I2
    rintro e w1 ⟨rfl, hw1⟩
    rw [hw1]
    clear hw1
    go_wp2_with fail
    refine (isShort_yes w.heap.size 0 a n ca _ h3 bx1).mono ?_
    rintro e w1 ⟨rfl, hw1⟩
    rw [hw1]
    clear hw1
    go_wp2_with fail
    refine (isShort_yes (w.heap.size + 1) 0 b m cb _ h4 bx2).mono ?_
    rintro e w1 ⟨rfl, hw1⟩
    rw [hw1]
    clear hw1
    go_wp2_with fail
    refine (short_any w.heap.size 0 a ba oa n ca X wA h3 bx1 XA hXl).mono ?_
    rintro e w1 ⟨rfl, hw1⟩
    rw [hw1]
    clear hw1
    go_wp2_with fail
    refine (short_any (w.heap.size + 1) 0 b bb ob m cb Y wA h4 bx2 YA hYl).mono ?_
    rintro e w1 ⟨rfl, hw1⟩
    rw [hw1]
    clear hw1
    go_wp2_with fail
    refine (shortGcd_any _ _ wA vX vY).mono ?_
    rintro e w1 ⟨rfl, s1⟩
    go_wp2_with fail
    refine (natOfShort_any _ w1 vG).mono ?_
    rintro e w2 ⟨S, rfl, r2, l2, e2, s2⟩
    go_wp2_with fail
    go_ret
    have t2 := tlen_le (nz S) 2
    have z1 := (s1.since wA.heap.size).size
    have L2 := limbs_row r2
    refine ⟨_, w1.heap.size, rfl, ⟨_, _, _, S, rfl, t2, by omega, fun h => (by cases h), L2.take t2, fun _ o => r2.frozen o, fun j _ => l2 j, fun h => by have := tlen_top (nz S) 2 h; simpa [nz] using this, by rw [lv_tlen]; exact e2⟩, by omega, ?_⟩
    exact (sA.trans (sinceMono (s1.since wA.heap.size) (by omega))).trans (sinceMono s2 (by omega))

end Go.Proofs.YtickondjmilehabDoor
