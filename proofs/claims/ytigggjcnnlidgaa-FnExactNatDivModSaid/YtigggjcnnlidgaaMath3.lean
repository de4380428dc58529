/-
  Plain mathematics: division by one limb; shifts.
-/
import Derived.Test.YtigggjcnnlidgaaMath2
namespace Go.Proofs.Ytigggjcnnlidgaa

theorem lv_add (T : Nat → Nat) (a b : Nat) : lv T (a + b) = lv T a + 2 ^ (32 * a) * lv (fun k => T (a + k)) b := by
  induction b with
  | zero => simp [lv]
  | succ b ih =>
    have e : a + (b + 1) = (a + b) + 1 := by omega
    rw [e]; simp only [lv]
    rw [ih, Nat.mul_add 32, Nat.pow_add, Nat.mul_add, Nat.add_assoc, Nat.mul_left_comm]

theorem lv_front (T : Nat → Nat) (r : Nat) : lv T (r + 1) = 4294967296 * lv (fun k => T (k + 1)) r + T 0 := by
  rw [Nat.add_comm r 1, lv_add]
  simp only [lv, Nat.mul_zero, Nat.pow_zero, Nat.mul_one, Nat.zero_add]
  rw [Nat.add_comm]
  congr 2
  exact lv_congr (fun j _ => by rw [Nat.add_comm])

/-- The limbs of X from place i on. -/
def hl (X : Nat → Nat) (i n : Nat) : Nat := lv (fun t => X (i + t)) (n - i)

theorem hl_top (A : Nat → Nat) (n : Nat) : hl A n n = 0 := by simp [hl, lv]
theorem hl_zero (A : Nat → Nat) (n : Nat) : hl A 0 n = lv A n := by simp [hl]
theorem hl_step (A : Nat → Nat) (i n : Nat) (h : i < n) : hl A i n = 4294967296 * hl A (i + 1) n + A i := by
  unfold hl
  rw [show n - i = (n - (i + 1)) + 1 by omega, lv_front]
  congr 2
  exact lv_congr (fun j _ => by rw [show i + (j + 1) = i + 1 + j by omega])
theorem hl_congr {A B : Nat → Nat} {i n : Nat} (h : ∀ j, i ≤ j → j < n → A j = B j) : hl A i n = hl B i n := lv_congr (fun j hj => h _ (by omega) (by omega))

/-- Division by one limb: the limbs from place i on are divided. -/
def LimbRel (X Q : Nat → Nat) (n i d r : Nat) : Prop := hl X i n = hl Q i n * d + r ∧ r < d ∧ (∀ j, j < i → Q j = X j) ∧ ∀ j, j < n → Q j < 4294967296

theorem limbRel_start {X : Nat → Nat} {n d : Nat} (hd : 0 < d) (hX : ∀ j, j < n → X j < 4294967296) : LimbRel X X n n d 0 := ⟨by simp [hl_top], hd, fun _ _ => rfl, hX⟩

theorem limbRel_step {X Q : Nat → Nat} {n i d r : Nat} (h : LimbRel X Q n (i + 1) d r) (hi : i < n) (hx : X i < 4294967296) :
    LimbRel X (upd Q i ((r * 4294967296 + X i) / d)) n i d ((r * 4294967296 + X i) % d) ∧ (r * 4294967296 + X i) / d < 4294967296 := by
  obtain ⟨h1, h2, h3, h4⟩ := h
  have hd : 0 < d := by omega
  have hq : (r * 4294967296 + X i) / d < 4294967296 := by
    rw [Nat.div_lt_iff_lt_mul hd]
    have : (r + 1) * 4294967296 ≤ d * 4294967296 := Nat.mul_le_mul_right _ h2
    omega
  refine ⟨⟨?_, Nat.mod_lt _ hd, fun j hj => by rw [upd_other _ _ _ _ (by omega)]; exact h3 j (by omega), fun j hj => ?_⟩, hq⟩
  · rw [hl_step X i n hi, hl_step _ i n hi, upd_same, h1, hl_congr (fun j a _ => upd_other Q i _ j (by omega))]
    generalize hl Q (i + 1) n = q
    have e := Nat.div_add_mod (r * 4294967296 + X i) d
    rw [Nat.add_mul, Nat.mul_comm ((r * 4294967296 + X i) / d) d, Nat.mul_assoc 4294967296]
    omega
  · by_cases e : j = i
    · subst e; rw [upd_same]; exact hq
    · rw [upd_other _ _ _ _ e]; exact h4 j hj

theorem limbRel_end {X Q : Nat → Nat} {n d r : Nat} (h : LimbRel X Q n 0 d r) : lv Q n = lv X n / d ∧ r = lv X n % d := by
  obtain ⟨h1, h2, _⟩ := h
  rw [hl_zero, hl_zero] at h1
  have hD : 0 < d := by omega
  have e : lv X n = r + lv Q n * d := by omega
  rw [e]
  refine ⟨?_, ?_⟩
  · rw [Nat.add_mul_div_right _ _ hD, Nat.div_eq_of_lt h2, Nat.zero_add]
  · rw [Nat.add_mul_mod_self_right, Nat.mod_eq_of_lt h2]

end Go.Proofs.Ytigggjcnnlidgaa
