/-
  Plain mathematics: long division (the guess of a digit, taking a multiple away, giving back).
-/
import Derived.Test.YtigggjcnnlidgaaMath4
namespace Go.Proofs.Ytigggjcnnlidgaa

/-! ### the guess -/

/-- The digit guessed from three limbs by two. -/
def guess3 (u0 u1 u2 v1 v2 : Nat) : Nat := min (((u0 * 4294967296 + u1) * 4294967296 + u2) / (v1 * 4294967296 + v2)) 4294967295

theorem guess3_le (u0 u1 u2 v1 v2 : Nat) : guess3 u0 u1 u2 v1 v2 ≤ 4294967295 := Nat.min_le_right _ _

theorem guess3_le_div (u0 u1 u2 v1 v2 : Nat) : guess3 u0 u1 u2 v1 v2 ≤ ((u0 * 4294967296 + u1) * 4294967296 + u2) / (v1 * 4294967296 + v2) := by
  unfold guess3; exact Nat.min_le_left _ _

/-- What holds at the head of the guess's loop. -/
def GuessRel (u0 u1 u2 v1 v2 g r : Nat) : Prop := g * v1 + r = u0 * 4294967296 + u1 ∧ guess3 u0 u1 u2 v1 v2 ≤ g

theorem div_top {l u v1 v2 : Nat} (h1 : 0 < v1) (hu : u < 4294967296) : (l * 4294967296 + u) / (v1 * 4294967296 + v2) ≤ l / v1 := by
  rw [Nat.le_div_iff_mul_le h1]
  have hq := Nat.div_mul_le_self (l * 4294967296 + u) (v1 * 4294967296 + v2)
  generalize (l * 4294967296 + u) / (v1 * 4294967296 + v2) = q at *
  rw [Nat.mul_add, ← Nat.mul_assoc] at hq
  omega

theorem guess_start {u0 u1 u2 v1 v2 : Nat} (h1 : 0 < v1) (hu : u2 < 4294967296) : GuessRel u0 u1 u2 v1 v2 ((u0 * 4294967296 + u1) / v1) ((u0 * 4294967296 + u1) % v1) := by
  have a := guess3_le_div u0 u1 u2 v1 v2
  have b := div_top (l := u0 * 4294967296 + u1) (v2 := v2) h1 hu
  have c := Nat.div_add_mod (u0 * 4294967296 + u1) v1
  rw [Nat.mul_comm] at c
  exact ⟨c, Nat.le_trans a b⟩

/-- The test that a guess fits: three limbs by two. -/
theorem guess_fits {u0 u1 u2 v1 v2 g r : Nat} (h : g * v1 + r = u0 * 4294967296 + u1) (hv : 0 < v1) (hm : g ≤ 4294967295) (ht : g * v2 ≤ r * 4294967296 + u2) : g ≤ guess3 u0 u1 u2 v1 v2 := by
  refine Nat.le_min.2 ⟨?_, hm⟩
  rw [Nat.le_div_iff_mul_le (by omega), ← h, Nat.mul_add, ← Nat.mul_assoc]
  omega

theorem over_mul {g v1 v2 r u : Nat} (ht : r * 4294967296 + u < g * v2) : (g * v1 + r) * 4294967296 + u < g * (v1 * 4294967296 + v2) := by
  have e : g * (v1 * 4294967296 + v2) = g * v1 * 4294967296 + g * v2 := by rw [Nat.mul_add g, ← Nat.mul_assoc g]
  rw [e, Nat.add_mul (g * v1) r, Nat.add_assoc]
  exact Nat.add_lt_add_left ht _

theorem guess_over {u0 u1 u2 v1 v2 g r : Nat} (h : g * v1 + r = u0 * 4294967296 + u1) (ht : 4294967295 < g ∨ r * 4294967296 + u2 < g * v2) : guess3 u0 u1 u2 v1 v2 < g := by
  rcases ht with ht | ht
  · have := guess3_le u0 u1 u2 v1 v2; omega
  · have a := guess3_le_div u0 u1 u2 v1 v2
    rw [← h] at a
    have hpos : 0 < v1 * 4294967296 + v2 := by
      by_cases h0 : v2 = 0
      · subst h0; simp at ht
      · omega
    exact Nat.lt_of_le_of_lt a ((Nat.div_lt_iff_lt_mul hpos).2 (over_mul ht))

theorem guess_down {u0 u1 u2 v1 v2 g r : Nat} (h : GuessRel u0 u1 u2 v1 v2 g r) (ht : 4294967295 < g ∨ r * 4294967296 + u2 < g * v2) : 1 ≤ g ∧ GuessRel u0 u1 u2 v1 v2 (g - 1) (r + v1) := by
  have := guess_over h.1 ht
  refine ⟨by omega, ?_, by omega⟩
  have h1 := h.1
  obtain ⟨g', rfl⟩ : ∃ g', g = g' + 1 := ⟨g - 1, by omega⟩
  rw [Nat.add_mul] at h1
  simp only [Nat.add_sub_cancel]
  omega

theorem guess_stop {u0 u1 u2 v1 v2 g r : Nat} (h : GuessRel u0 u1 u2 v1 v2 g r) (hv : 0 < v1) (hm : g ≤ 4294967295) (ht : g * v2 ≤ r * 4294967296 + u2) : g = guess3 u0 u1 u2 v1 v2 :=
  Nat.le_antisymm (guess_fits h.1 hv hm ht) h.2

theorem guess_break {u0 u1 u2 v1 v2 g r : Nat} (h : GuessRel u0 u1 u2 v1 v2 g r) (hv : 0 < v1) (hv2 : v2 < 4294967296) (hu0 : u0 ≤ v1) (hu1 : u1 < 4294967296) (hr : 4294967295 < r) : g ≤ 4294967295 ∧ g = guess3 u0 u1 u2 v1 v2 := by
  have hm : g ≤ 4294967295 := by
    by_cases e : g ≤ 4294967295
    · exact e
    · have h1 := h.1
      have h2 : 4294967296 * v1 ≤ g * v1 := Nat.mul_le_mul_right _ (by omega)
      omega
  refine ⟨hm, guess_stop h hv hm ?_⟩
  have h3 : g * v2 ≤ 4294967295 * 4294967295 := Nat.mul_le_mul hm (by omega)
  omega

theorem guess_small {u0 u1 u2 v1 v2 g r : Nat} (h : GuessRel u0 u1 u2 v1 v2 g r) (hv : 2147483648 ≤ v1) (hu0 : u0 ≤ v1) (hu1 : u1 < 4294967296) : g ≤ 8589934592 := by
  have h1 := h.1
  by_cases e : g ≤ 8589934592
  · exact e
  · have h2 : 8589934593 * v1 ≤ g * v1 := Nat.mul_le_mul_right _ (by omega)
    omega

/-! ### the guess against the true digit -/

/-- U: the window's value; D: the divisor's; their top limbs as the guess takes them, P below. The guess is the digit or one more. -/
theorem guess_true {U D U3 D2 P g : Nat} (hP : 0 < P) (hU : U3 * P ≤ U ∧ U < (U3 + 1) * P) (hD : D2 * P ≤ D ∧ D < (D2 + 1) * P) (hDb : 4294967296 ≤ D2) (hlt : U < D * 4294967296)
    (hg : g = min (U3 / D2) 4294967295) : U / D ≤ g ∧ g ≤ U / D + 1 := by
  have hD0 : 0 < D := by
    have : 1 * P ≤ D2 * P := Nat.mul_le_mul_right _ (by omega)
    omega
  have hq := Nat.div_mul_le_self U D
  have hq2 : U < (U / D + 1) * D := by
    have := Nat.lt_div_mul_add hD0 (a := U)
    rw [Nat.add_mul, Nat.one_mul]; exact this
  have hqb : U / D < 4294967296 := by rw [Nat.div_lt_iff_lt_mul hD0, Nat.mul_comm]; exact hlt
  generalize U / D = q at *
  constructor
  · rw [hg]
    refine Nat.le_min.2 ⟨?_, by omega⟩
    rw [Nat.le_div_iff_mul_le (by omega)]
    have h1 : q * D2 * P ≤ q * D := by rw [Nat.mul_assoc]; exact Nat.mul_le_mul_left _ hD.1
    have h2 : q * D2 * P < (U3 + 1) * P := by omega
    have := Nat.lt_of_mul_lt_mul_right h2
    omega
  · by_cases hgt : g ≤ q + 1
    · exact hgt
    · exfalso
      have hgm : g ≤ 4294967295 := by rw [hg]; exact Nat.min_le_right _ _
      have hgd : g * D2 ≤ U3 := by
        have h1 : g ≤ U3 / D2 := by rw [hg]; exact Nat.min_le_left _ _
        exact Nat.le_trans (Nat.mul_le_mul_right _ h1) (Nat.div_mul_le_self _ _)
      -- g * D2 * P ≤ U < (q + 1) * D ≤ (g - 1) * D < (g - 1) * (D2 + 1) * P
      have a1 : g * D2 * P ≤ U3 * P := Nat.mul_le_mul_right _ hgd
      obtain ⟨k, hk⟩ : ∃ k, g = k + 1 := ⟨g - 1, by omega⟩
      have a2 : (q + 1) * D ≤ k * D := Nat.mul_le_mul_right _ (by omega)
      have a3 : k * D ≤ k * ((D2 + 1) * P) := Nat.mul_le_mul_left _ (Nat.le_of_lt hD.2)
      rw [← Nat.mul_assoc] at a3
      have a4 : g * D2 * P < k * (D2 + 1) * P := by omega
      have a5 := Nat.lt_of_mul_lt_mul_right a4
      rw [hk, Nat.add_mul, Nat.mul_add, Nat.mul_one, Nat.one_mul] at a5
      omega

/-! ### taking a multiple away -/

/-- W0, W: the dividend's limbs ahead and now; the window begins at p; i limbs of the divisor Y have been taken, g times. -/
def TakeRel (W0 W Y : Nat → Nat) (g p i owed : Nat) : Prop :=
  lv (fun t => W (p + t)) i + g * lv Y i = lv (fun t => W0 (p + t)) i + owed * 2 ^ (32 * i) ∧ owed ≤ 4294967295 ∧ (∀ k, k < p ∨ p + i ≤ k → W k = W0 k) ∧ ∀ k, W k < 4294967296

theorem take_start {W : Nat → Nat} (hW : ∀ k, W k < 4294967296) (Y : Nat → Nat) (g p : Nat) : TakeRel W W Y g p 0 0 := ⟨by simp [lv], by omega, fun _ _ => rfl, hW⟩

/-- One limb: product = g * y + owed; the low half is taken, wrapping; what is owed next. -/
theorem take_step {W0 W Y : Nat → Nat} {g p i owed m x : Nat} (h : TakeRel W0 W Y g p i owed) (hg : g ≤ 4294967295) (hy : Y i < 4294967296) (hm : m = g * Y i + owed) (hx : W (p + i) = x) :
    m < 18446744073709551616 ∧
    TakeRel W0 (upd W (p + i) ((x + 4294967296 - m % 4294967296) % 4294967296)) Y g p (i + 1) (m / 4294967296 + if x < m % 4294967296 then 1 else 0) := by
  obtain ⟨h1, h2, h3, h4⟩ := h
  have hxl : x < 4294967296 := by rw [← hx]; exact h4 _
  have hgy : g * Y i ≤ 4294967295 * 4294967295 := Nat.mul_le_mul hg (by omega)
  have hx0 : W0 (p + i) = x := by rw [← hx]; exact (h3 (p + i) (Or.inr (Nat.le_refl _))).symm
  refine ⟨by omega, ?_, ?_, fun k hk => ?_, fun k => ?_⟩
  · have hc : lv (fun t => upd W (p + i) ((x + 4294967296 - m % 4294967296) % 4294967296) (p + t)) i = lv (fun t => W (p + t)) i := lv_congr (fun k hk => upd_other _ _ _ _ (by omega))
    simp only [lv, upd_same, hc, hx0]
    rw [Nat.mul_add, pow32, ← Nat.mul_assoc g]
    have hgm : g * Y i = m - owed := by omega
    have hom : owed ≤ m := by omega
    generalize 2 ^ (32 * i) = P at *
    generalize hs : (x + 4294967296 - m % 4294967296) % 4294967296 = s
    have e : s + m = x + (m / 4294967296 + if x < m % 4294967296 then 1 else 0) * 4294967296 := by
      split <;> omega
    have e2 : s * P + m * P = x * P + (m / 4294967296 + if x < m % 4294967296 then 1 else 0) * (4294967296 * P) := by
      rw [← Nat.mul_assoc, ← Nat.add_mul, ← Nat.add_mul, e]
    have e3 : g * Y i * P + owed * P = m * P := by rw [← Nat.add_mul, ← hm]
    omega
  · split <;> omega
  · rw [upd_other _ _ _ _ (by omega)]; exact h3 k (by omega)
  · by_cases e : k = p + i
    · subst e; rw [upd_same]; omega
    · rw [upd_other _ _ _ _ e]; exact h4 k

/-- The top limb: what is owed is taken from it. -/
theorem take_end {W0 W Y : Nat → Nat} {g p n owed x : Nat} (h : TakeRel W0 W Y g p n owed) (hx : W (p + n) = x) :
    lv (fun t => upd W (p + n) ((x + 4294967296 - owed) % 4294967296) (p + t)) (n + 1) + g * lv Y n = lv (fun t => W0 (p + t)) (n + 1) + (if x < owed then 1 else 0) * 2 ^ (32 * (n + 1)) ∧
    (∀ k, k < p ∨ p + n + 1 ≤ k → upd W (p + n) ((x + 4294967296 - owed) % 4294967296) k = W0 k) ∧ ∀ k, upd W (p + n) ((x + 4294967296 - owed) % 4294967296) k < 4294967296 := by
  obtain ⟨h1, h2, h3, h4⟩ := h
  have hxl : x < 4294967296 := by rw [← hx]; exact h4 _
  have hx0 : W0 (p + n) = x := by rw [← hx]; exact (h3 (p + n) (Or.inr (Nat.le_refl _))).symm
  refine ⟨?_, fun k hk => ?_, fun k => ?_⟩
  · have hc : lv (fun t => upd W (p + n) ((x + 4294967296 - owed) % 4294967296) (p + t)) n = lv (fun t => W (p + t)) n := lv_congr (fun k hk => upd_other _ _ _ _ (by omega))
    simp only [lv, upd_same, hc, hx0]
    rw [pow32]
    generalize 2 ^ (32 * n) = P at *
    generalize hs : (x + 4294967296 - owed) % 4294967296 = s
    have e : s + owed = x + (if x < owed then 1 else 0) * 4294967296 := by split <;> omega
    have e2 : s * P + owed * P = x * P + (if x < owed then 1 else 0) * (4294967296 * P) := by
      rw [← Nat.mul_assoc, ← Nat.add_mul, ← Nat.add_mul, e]
    omega
  · rw [upd_other _ _ _ _ (by omega)]; exact h3 k (by omega)
  · by_cases e : k = p + n
    · subst e; rw [upd_same]; omega
    · rw [upd_other _ _ _ _ e]; exact h4 k

/-! ### giving back -/

def GiveRel (W0 W Y : Nat → Nat) (p i c : Nat) : Prop :=
  lv (fun t => W (p + t)) i + c * 2 ^ (32 * i) = lv (fun t => W0 (p + t)) i + lv Y i ∧ c ≤ 1 ∧ (∀ k, k < p ∨ p + i ≤ k → W k = W0 k) ∧ ∀ k, W k < 4294967296

theorem give_start {W : Nat → Nat} (hW : ∀ k, W k < 4294967296) (Y : Nat → Nat) (p : Nat) : GiveRel W W Y p 0 0 := ⟨by simp [lv], by omega, fun _ _ => rfl, hW⟩

theorem give_step {W0 W Y : Nat → Nat} {p i c s x : Nat} (h : GiveRel W0 W Y p i c) (hy : Y i < 4294967296) (hx : W (p + i) = x) (hs : s = x + Y i + c) :
    GiveRel W0 (upd W (p + i) (s % 4294967296)) Y p (i + 1) (s / 4294967296) := by
  obtain ⟨h1, h2, h3, h4⟩ := h
  have hxl : x < 4294967296 := by rw [← hx]; exact h4 _
  have hx0 : W0 (p + i) = x := by rw [← hx]; exact (h3 (p + i) (Or.inr (Nat.le_refl _))).symm
  refine ⟨?_, by omega, fun k hk => ?_, fun k => ?_⟩
  · have hc : lv (fun t => upd W (p + i) (s % 4294967296) (p + t)) i = lv (fun t => W (p + t)) i := lv_congr (fun k hk => upd_other _ _ _ _ (by omega))
    simp only [lv, upd_same, hc, hx0]
    rw [pow32]
    generalize 2 ^ (32 * i) = P at *
    have e2 : s % 4294967296 * P + s / 4294967296 * (4294967296 * P) = x * P + Y i * P + c * P := by
      rw [← Nat.mul_assoc, ← Nat.add_mul, ← Nat.add_mul, ← Nat.add_mul]; congr 1; omega
    omega
  · rw [upd_other _ _ _ _ (by omega)]; exact h3 k (by omega)
  · by_cases e : k = p + i
    · subst e; rw [upd_same]; omega
    · rw [upd_other _ _ _ _ e]; exact h4 k

theorem give_end {W0 W Y : Nat → Nat} {p n c x : Nat} (h : GiveRel W0 W Y p n c) (hx : W (p + n) = x) :
    lv (fun t => upd W (p + n) ((x + c) % 4294967296) (p + t)) (n + 1) + (x + c) / 4294967296 * 2 ^ (32 * (n + 1)) = lv (fun t => W0 (p + t)) (n + 1) + lv Y n ∧
    (∀ k, k < p ∨ p + n + 1 ≤ k → upd W (p + n) ((x + c) % 4294967296) k = W0 k) ∧ (∀ k, upd W (p + n) ((x + c) % 4294967296) k < 4294967296) ∧ (x + c) / 4294967296 ≤ 1 := by
  obtain ⟨h1, h2, h3, h4⟩ := h
  have hxl : x < 4294967296 := by rw [← hx]; exact h4 _
  have hx0 : W0 (p + n) = x := by rw [← hx]; exact (h3 (p + n) (Or.inr (Nat.le_refl _))).symm
  refine ⟨?_, fun k hk => ?_, fun k => ?_, by omega⟩
  · have hc : lv (fun t => upd W (p + n) ((x + c) % 4294967296) (p + t)) n = lv (fun t => W (p + t)) n := lv_congr (fun k hk => upd_other _ _ _ _ (by omega))
    simp only [lv, upd_same, hc, hx0]
    rw [pow32]
    generalize 2 ^ (32 * n) = P at *
    have e2 : (x + c) % 4294967296 * P + (x + c) / 4294967296 * (4294967296 * P) = x * P + c * P := by
      rw [← Nat.mul_assoc, ← Nat.add_mul, ← Nat.add_mul]; congr 1; omega
    omega
  · rw [upd_other _ _ _ _ (by omega)]; exact h3 k (by omega)
  · by_cases e : k = p + n
    · subst e; rw [upd_same]; omega
    · rw [upd_other _ _ _ _ e]; exact h4 k

end Go.Proofs.Ytigggjcnnlidgaa
