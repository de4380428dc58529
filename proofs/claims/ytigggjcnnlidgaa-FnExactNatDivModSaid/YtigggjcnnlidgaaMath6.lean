/-
  Plain mathematics: the loop of long division.
-/
import Derived.Test.YtigggjcnnlidgaaMath5
namespace Go.Proofs.Ytigggjcnnlidgaa

/-- What holds when the quotient's digits from place k on are found. -/
def LongRel (N0 D dl L nn : Nat) (W Q : Nat → Nat) (k : Nat) : Prop :=
  N0 = hl Q k L * 2 ^ (32 * k) * D + lv W (k + dl) ∧ lv (fun t => W (k + t)) dl < D ∧ (∀ j, k + dl ≤ j → j < nn → W j = 0) ∧ (∀ j, W j < 4294967296) ∧ ∀ j, Q j < 4294967296

/-- The window at place a. -/
def win (W : Nat → Nat) (a n : Nat) : Nat := lv (fun t => W (a + t)) n

theorem win_lt {W : Nat → Nat} (h : ∀ j, W j < 4294967296) (a n : Nat) : win W a n < 2 ^ (32 * n) := lv_lt _ _ (fun _ _ => h _)

theorem win_front (W : Nat → Nat) (a n : Nat) : win W a (n + 1) = 4294967296 * win W (a + 1) n + W a := by
  unfold win
  rw [lv_front]
  have e : lv (fun k => W (a + (k + 1))) n = lv (fun t => W (a + 1 + t)) n := lv_congr (fun j _ => by rw [show a + (j + 1) = a + 1 + j by omega])
  rw [e]; rfl

theorem lv_win (W : Nat → Nat) (a n : Nat) : lv W (a + n) = lv W a + 2 ^ (32 * a) * win W a n := lv_add W a n

theorem long_start {W : Nat → Nat} {D dl L nn : Nat} (hnn : nn = L + dl) (hdl : 0 < dl) (hW : ∀ j, W j < 4294967296) (ht : W (nn - 1) = 0) (hD : 2 ^ (32 * (dl - 1)) ≤ D) : LongRel (lv W nn) D dl L nn W (fun _ => 0) L := by
  refine ⟨by rw [hl_top, hnn]; simp, ?_, fun j h1 h2 => by omega, hW, fun _ => by show 0 < _; omega⟩
  obtain ⟨e, rfl⟩ : ∃ e, dl = e + 1 := ⟨dl - 1, by omega⟩
  simp only [Nat.add_sub_cancel] at hD
  have h1 : lv (fun t => W (L + t)) (e + 1) = lv (fun t => W (L + t)) e := by
    simp only [lv]
    rw [show L + e = nn - 1 by omega, ht]; simp
  rw [h1]
  exact Nat.lt_of_lt_of_le (lv_lt _ _ (fun j _ => hW _)) hD

theorem long_window {N0 D dl L nn a : Nat} {W Q : Nat → Nat} (h : LongRel N0 D dl L nn W Q (a + 1)) : win W a (dl + 1) < D * 4294967296 := by
  have h2 : win W (a + 1) dl < D := h.2.1
  have hw := h.2.2.2.1 a
  rw [win_front]
  have : 4294967296 * (win W (a + 1) dl + 1) ≤ 4294967296 * D := Nat.mul_le_mul_left _ h2
  rw [Nat.mul_add] at this
  omega

theorem long_top {N0 D dl L nn a : Nat} {W Q Y : Nat → Nat} (h : LongRel N0 D dl L nn W Q (a + 1)) (hdl : 0 < dl) (hD : D = lv Y dl) (hY : ∀ j, j < dl → Y j < 4294967296) : W (a + dl) ≤ Y (dl - 1) := by
  have h2 : win W (a + 1) dl < D := h.2.1
  obtain ⟨e, rfl⟩ : ∃ e, dl = e + 1 := ⟨dl - 1, by omega⟩
  simp only [Nat.add_sub_cancel]
  by_cases hc : W (a + (e + 1)) ≤ Y e
  · exact hc
  · exfalso
    unfold win at h2
    rw [hD] at h2
    simp only [lv] at h2
    rw [show a + 1 + e = a + (e + 1) by omega] at h2
    have h3 := lv_lt Y e (fun j hj => hY j (by omega))
    have h4 : (Y e + 1) * 2 ^ (32 * e) ≤ W (a + (e + 1)) * 2 ^ (32 * e) := Nat.mul_le_mul_right _ (by omega)
    rw [Nat.add_mul] at h4
    omega

/-- The guess is the digit or one more. -/
theorem long_guess {W Y : Nat → Nat} {a dl D : Nat} (hdl : 2 ≤ dl) (hD : D = lv Y dl) (hY : ∀ j, j < dl → Y j < 4294967296) (hW : ∀ j, W j < 4294967296) (hv : 1 ≤ Y (dl - 1)) (hU : win W a (dl + 1) < D * 4294967296) :
    win W a (dl + 1) / D ≤ guess3 (W (a + dl)) (W (a + dl - 1)) (W (a + dl - 2)) (Y (dl - 1)) (Y (dl - 2)) ∧
    guess3 (W (a + dl)) (W (a + dl - 1)) (W (a + dl - 2)) (Y (dl - 1)) (Y (dl - 2)) ≤ win W a (dl + 1) / D + 1 := by
  obtain ⟨e, rfl⟩ : ∃ e, dl = e + 2 := ⟨dl - 2, by omega⟩
  have i1 : a + (e + 2) - 1 = a + (e + 1) := by omega
  have i2 : a + (e + 2) - 2 = a + e := by omega
  have i3 : e + 2 - 1 = e + 1 := by omega
  have i4 : e + 2 - 2 = e := by omega
  rw [i3] at hv
  rw [i1, i2, i3, i4]
  clear i1 i2 i3 i4
  have lo1 := lv_lt (fun t => W (a + t)) e (fun j _ => hW _)
  have lo2 := lv_lt Y e (fun j hj => hY j (by omega))
  have p1 : 2 ^ (32 * (e + 1)) = 4294967296 * 2 ^ (32 * e) := pow32 e
  have p2 : 2 ^ (32 * (e + 2)) = 4294967296 * (4294967296 * 2 ^ (32 * e)) := by rw [pow32 (e + 1), pow32 e]
  have eU : win W a (e + 2 + 1) = lv (fun t => W (a + t)) e + ((W (a + (e + 2)) * 4294967296 + W (a + (e + 1))) * 4294967296 + W (a + e)) * 2 ^ (32 * e) := by
    unfold win
    simp only [lv]
    rw [p1, p2]
    simp only [Nat.add_mul, Nat.mul_assoc]
    omega
  have eD : D = lv Y e + (Y (e + 1) * 4294967296 + Y e) * 2 ^ (32 * e) := by
    rw [hD]
    simp only [lv]
    rw [p1]
    simp only [Nat.add_mul, Nat.mul_assoc]
    omega
  have hP : 0 < 2 ^ (32 * e) := Nat.pow_pos (by omega)
  have kk : ∀ A : Nat, (A + 1) * 2 ^ (32 * e) = A * 2 ^ (32 * e) + 2 ^ (32 * e) := fun A => by rw [Nat.add_mul A 1, Nat.one_mul]
  refine guess_true (U3 := (W (a + (e + 2)) * 4294967296 + W (a + (e + 1))) * 4294967296 + W (a + e)) (D2 := Y (e + 1) * 4294967296 + Y e) (P := 2 ^ (32 * e)) hP ?_ ?_ (by omega) hU rfl
  · rw [eU]
    refine ⟨by omega, ?_⟩
    rw [kk]; omega
  · rw [eD]
    refine ⟨by omega, ?_⟩
    rw [kk]; omega

theorem long_step {N0 D dl L nn a q : Nat} {W W1 Q : Nat → Nat} (h : LongRel N0 D dl L nn W Q (a + 1)) (ha : a < L) (hDl : D ≤ 2 ^ (32 * dl)) (hD : 0 < D) (hq : q = win W a (dl + 1) / D) (hw : win W1 a (dl + 1) + q * D = win W a (dl + 1))
    (hf : ∀ k, k < a ∨ a + dl + 1 ≤ k → W1 k = W k) (hl1 : ∀ k, W1 k < 4294967296) : LongRel N0 D dl L nn W1 (upd Q a q) a ∧ q < 4294967296 := by
  have hU := long_window h
  obtain ⟨h1, h2, h3, h4, h5⟩ := h
  have hqb : q < 4294967296 := by rw [hq, Nat.div_lt_iff_lt_mul hD, Nat.mul_comm]; exact hU
  have hr : win W1 a (dl + 1) < D := by
    have e := Nat.div_add_mod (win W a (dl + 1)) D
    have m := Nat.mod_lt (win W a (dl + 1)) hD
    rw [← hq, Nat.mul_comm] at e
    omega
  have htop : W1 (a + dl) = 0 := by
    have e : win W1 a (dl + 1) = win W1 a dl + W1 (a + dl) * 2 ^ (32 * dl) := rfl
    by_cases hz : W1 (a + dl) = 0
    · exact hz
    · have : 1 * 2 ^ (32 * dl) ≤ W1 (a + dl) * 2 ^ (32 * dl) := Nat.mul_le_mul_right _ (by omega)
      omega
  have hwd : win W1 a dl = win W1 a (dl + 1) := by
    have e : win W1 a (dl + 1) = win W1 a dl + W1 (a + dl) * 2 ^ (32 * dl) := rfl
    rw [e, htop]; simp
  refine ⟨⟨?_, ?_, fun j j1 j2 => ?_, hl1, fun j => ?_⟩, hqb⟩
  · rw [h1, hl_step _ a L ha, upd_same, hl_congr (fun j j1 _ => upd_other Q a q j (by omega))]
    have e1 : lv W (a + 1 + dl) = lv W a + 2 ^ (32 * a) * win W a (dl + 1) := by
      rw [show a + 1 + dl = a + (dl + 1) by omega]; exact lv_win W a (dl + 1)
    have e2 : lv W1 (a + dl) = lv W a + 2 ^ (32 * a) * win W1 a dl := by
      rw [lv_win W1 a dl, lv_congr (fun j hj => hf j (Or.inl hj))]
    rw [e1, e2, hwd, ← hw, pow32]
    generalize hl Q (a + 1) L = H
    generalize 2 ^ (32 * a) = P
    generalize win W1 a (dl + 1) = R
    rw [Nat.mul_add P, Nat.add_mul, Nat.add_mul, Nat.mul_left_comm P q D, ← Nat.mul_assoc H, Nat.mul_comm H 4294967296, ← Nat.mul_assoc q P D]
    omega
  · show win W1 a dl < D
    rw [hwd]; exact hr
  · by_cases e : j = a + dl
    · subst e; exact htop
    · rw [hf j (by omega)]; exact h3 j (by omega) j2
  · by_cases e : j = a
    · subst e; rw [upd_same]; exact hqb
    · rw [upd_other _ _ _ _ e]; exact h5 j

theorem long_end {N0 D dl L nn : Nat} {W Q : Nat → Nat} (h : LongRel N0 D dl L nn W Q 0) (hnn : dl ≤ nn) : lv Q L = N0 / D ∧ lv W nn = N0 % D := by
  obtain ⟨h1, h2, h3, h4, h5⟩ := h
  rw [hl_zero, Nat.mul_zero, Nat.pow_zero, Nat.mul_one, Nat.zero_add] at h1
  have e0 : lv (fun t => W (0 + t)) dl = lv W dl := lv_congr (fun j _ => by rw [Nat.zero_add])
  rw [e0] at h2
  have e : lv W nn = lv W dl := lv_more W dl nn hnn (fun j a b => h3 j (by omega) b)
  have hD : 0 < D := by omega
  rw [e, h1, Nat.add_comm]
  refine ⟨?_, ?_⟩
  · rw [Nat.add_mul_div_right _ _ hD, Nat.div_eq_of_lt h2, Nat.zero_add]
  · rw [Nat.add_mul_mod_self_right, Nat.mod_eq_of_lt h2]

/-- No borrow: the guess was the digit. -/
theorem take_exact {U D g V : Nat} (hD : 0 < D) (h : V + g * D = U) (hg : U / D ≤ g) : g = U / D := by
  have : g ≤ U / D := by rw [Nat.le_div_iff_mul_le hD]; omega
  omega

/-- A borrow: the guess was one too great, and what is given back makes it right. -/
theorem take_over {U D g V V2 cy B : Nat} (hD : 0 < D) (h : V + g * D = U + B) (hV : V < B) (hg : g ≤ U / D + 1) (h2 : V2 + cy * B = V + D) (hc : cy ≤ 1) (hV2 : V2 < B) : 1 ≤ g ∧ g - 1 = U / D ∧ V2 + (g - 1) * D = U := by
  have hgt : U / D < g := by rw [Nat.div_lt_iff_lt_mul hD]; omega
  have e : g = U / D + 1 := by omega
  have hq := Nat.div_mul_le_self U D
  generalize U / D = q at *
  subst e
  rw [Nat.add_mul, Nat.one_mul] at h
  refine ⟨by omega, by omega, ?_⟩
  simp only [Nat.add_sub_cancel]
  have hcy : cy = 0 ∨ cy = 1 := by omega
  rcases hcy with rfl | rfl
  · omega
  · omega

/-! ### the shifted numbers -/

theorem shl_bounds {y s : Nat} (hs : s < 32) (h2 : y * 2 ^ s < 4294967296) : (y + 1) * 2 ^ s ≤ 4294967296 := by
  have hp := pow_split s (by omega)
  rw [← hp, Nat.mul_comm (y + 1)]
  refine Nat.mul_le_mul_left _ ?_
  rw [← hp, Nat.mul_comm] at h2
  have := Nat.lt_of_mul_lt_mul_left h2
  omega

/-- The divisor shifted so that its top bit is set has as many limbs as it had, and its top limb is great. -/
theorem shl_divisor {Y S : Nat → Nat} {dl s : Nat} (hdl : 0 < dl) (hs : s < 32) (hY : ∀ j, j < dl → Y j < 4294967296) (hS : ∀ k, S k < 4294967296) (h1 : 2147483648 ≤ Y (dl - 1) * 2 ^ s) (h2 : Y (dl - 1) * 2 ^ s < 4294967296)
    (hv : lv S (dl + 1) = lv Y dl * 2 ^ s) : tlen (nz S) (dl + 1) = dl ∧ lv S dl = lv Y dl * 2 ^ s ∧ 2147483648 ≤ S (dl - 1) ∧ 2 ^ (32 * (dl - 1)) ≤ lv S dl ∧ lv S dl ≤ 2 ^ (32 * dl) := by
  obtain ⟨e, rfl⟩ : ∃ e, dl = e + 1 := ⟨dl - 1, by omega⟩
  simp only [Nat.add_sub_cancel] at *
  have b := shl_bounds hs h2
  have lo := lv_lt Y e (fun j hj => hY j (by omega))
  have hD1 : 2147483648 * 2 ^ (32 * e) ≤ lv Y (e + 1) * 2 ^ s := by
    have a1 : Y e * 2 ^ s * 2 ^ (32 * e) ≤ lv Y (e + 1) * 2 ^ s := by
      simp only [lv]
      rw [Nat.mul_right_comm]
      exact Nat.mul_le_mul_right _ (by omega)
    exact Nat.le_trans (Nat.mul_le_mul_right _ h1) a1
  have hD2 : lv Y (e + 1) * 2 ^ s < 2 ^ (32 * (e + 1)) := by
    have a1 : lv Y (e + 1) < (Y e + 1) * 2 ^ (32 * e) := by simp only [lv]; rw [Nat.add_mul]; omega
    have a2 : lv Y (e + 1) * 2 ^ s < (Y e + 1) * 2 ^ (32 * e) * 2 ^ s := Nat.mul_lt_mul_of_pos_right a1 (Nat.pow_pos (by omega))
    rw [Nat.mul_right_comm] at a2
    have a3 : (Y e + 1) * 2 ^ s * 2 ^ (32 * e) ≤ 4294967296 * 2 ^ (32 * e) := Nat.mul_le_mul_right _ b
    rw [pow32]
    omega
  have hz : S (e + 1) = 0 := by
    by_cases c : S (e + 1) = 0
    · exact c
    · have : 1 * 2 ^ (32 * (e + 1)) ≤ S (e + 1) * 2 ^ (32 * (e + 1)) := Nat.mul_le_mul_right _ (by omega)
      have e3 : lv S (e + 1 + 1) = lv S (e + 1) + S (e + 1) * 2 ^ (32 * (e + 1)) := rfl
      omega
  have hv2 : lv S (e + 1) = lv Y (e + 1) * 2 ^ s := by
    rw [← hv]
    show _ = lv S (e + 1) + S (e + 1) * 2 ^ (32 * (e + 1))
    rw [hz]; simp
  have hS1 : 2147483648 ≤ S e := by
    have lo2 := lv_lt S e (fun j _ => hS j)
    have e3 : lv S (e + 1) = lv S e + S e * 2 ^ (32 * e) := rfl
    by_cases c : 2147483648 ≤ S e
    · exact c
    · have : (S e + 1) * 2 ^ (32 * e) ≤ 2147483648 * 2 ^ (32 * e) := Nat.mul_le_mul_right _ (by omega)
      rw [Nat.add_mul] at this
      omega
  refine ⟨?_, hv2, hS1, by omega, by omega⟩
  have n1 : nz S (e + 1) = false := by simp [nz, hz]
  have n2 : nz S e = true := by simp [nz]; omega
  simp [tlen, n1, n2]

/-- A number laid out with a zero limb on top. -/
def capped (S : Nat → Nat) (t : Nat) : Nat → Nat := fun j => if j < t then S j else 0
theorem capped_lt {S : Nat → Nat} (t : Nat) (hS : ∀ k, S k < 4294967296) : ∀ k, capped S t k < 4294967296 := fun k => by unfold capped; split; exact hS k; omega
theorem capped_top (S : Nat → Nat) (t : Nat) : capped S t t = 0 := by simp [capped]
theorem lv_capped (S : Nat → Nat) (t : Nat) : lv (capped S t) (t + 1) = lv S t := by
  simp only [lv, capped_top]
  rw [lv_congr (fun j hj => show capped S t j = S j by simp [capped, hj])]; simp

theorem shl_div {x y s : Nat} : x * 2 ^ s / (y * 2 ^ s) = x / y ∧ x * 2 ^ s % (y * 2 ^ s) / 2 ^ s = x % y := by
  have hp : 0 < 2 ^ s := Nat.pow_pos (by omega)
  refine ⟨Nat.mul_div_mul_right _ _ hp, ?_⟩
  rw [Nat.mul_mod_mul_right, Nat.mul_div_cancel _ hp]

end Go.Proofs.Ytigggjcnnlidgaa
