import Derived.Test.YtklkohdcilnchabDoorOwnP1
import Derived.Deep.LoopGhost
import Derived.Laws.AppendOwnNone
import Derived.Laws.BitsAllLaws
import Derived.Lib.BitFns
/-
  Plain mathematics: the loop of long division.
-/
namespace Go.Proofs.YtklkohdcilnchabDoor

/-- What holds when the quotient's digits from place k on are found. -/
def LongRel (N0 D dl L nn : Nat) (W Q : Nat → Nat) (k : Nat) : Prop :=
  N0 = hl Q k L * 2 ^ (32 * k) * D + lv W (k + dl) ∧ lv (fun t => W (k + t)) dl < D ∧ (∀ j, k + dl ≤ j → j < nn → W j = 0) ∧ (∀ j, W j < 4294967296) ∧ ∀ j, Q j < 4294967296

/-- The window at place a. -/
def win (W : Nat → Nat) (a n : Nat) : Nat := lv (fun t => W (a + t)) n

theorem win_lt {W : Nat → Nat} (h : ∀ j, W j < 4294967296) (a n : Nat) : win W a n < 2 ^ (32 * n) := lv_lt _ _ (fun _ _ => h _)

theorem win_front (W : Nat → Nat) (a n : Nat) : win W a (n + 1) = 4294967296 * win W (a + 1) n + W a := by
  unfold win
  rw [lv_front]
  have e : lv (fun k => W (a + (k + 1))) n = lv (fun t => W (a + 1 + t)) n := lv_congr (fun j _ => by rw [show a + (j + 1) = a + 1 + j by omega])
  rw [e]; rfl

theorem lv_win (W : Nat → Nat) (a n : Nat) : lv W (a + n) = lv W a + 2 ^ (32 * a) * win W a n := lv_add W a n

theorem long_start {W : Nat → Nat} {D dl L nn : Nat} (hnn : nn = L + dl) (hdl : 0 < dl) (hW : ∀ j, W j < 4294967296) (ht : W (nn - 1) = 0) (hD : 2 ^ (32 * (dl - 1)) ≤ D) : LongRel (lv W nn) D dl L nn W (fun _ => 0) L := by
  refine ⟨by rw [hl_top, hnn]; simp, ?_, fun j h1 h2 => by omega, hW, fun _ => by show 0 < _; omega⟩
  obtain ⟨e, rfl⟩ : ∃ e, dl = e + 1 := ⟨dl - 1, by omega⟩
  simp only [Nat.add_sub_cancel] at hD
  have h1 : lv (fun t => W (L + t)) (e + 1) = lv (fun t => W (L + t)) e := by
    simp only [lv]
    rw [show L + e = nn - 1 by omega, ht]; simp
  rw [h1]
  exact Nat.lt_of_lt_of_le (lv_lt _ _ (fun j _ => hW _)) hD

theorem long_window {N0 D dl L nn a : Nat} {W Q : Nat → Nat} (h : LongRel N0 D dl L nn W Q (a + 1)) : win W a (dl + 1) < D * 4294967296 := by
  have h2 : win W (a + 1) dl < D := h.2.1
  have hw := h.2.2.2.1 a
  rw [win_front]
  have : 4294967296 * (win W (a + 1) dl + 1) ≤ 4294967296 * D := Nat.mul_le_mul_left _ h2
  rw [Nat.mul_add] at this
  omega

theorem long_top {N0 D dl L nn a : Nat} {W Q Y : Nat → Nat} (h : LongRel N0 D dl L nn W Q (a + 1)) (hdl : 0 < dl) (hD : D = lv Y dl) (hY : ∀ j, j < dl → Y j < 4294967296) : W (a + dl) ≤ Y (dl - 1) := by
  have h2 : win W (a + 1) dl < D := h.2.1
  obtain ⟨e, rfl⟩ : ∃ e, dl = e + 1 := ⟨dl - 1, by omega⟩
  simp only [Nat.add_sub_cancel]
  by_cases hc : W (a + (e + 1)) ≤ Y e
  · exact hc
  · exfalso
    unfold win at h2
    rw [hD] at h2
    simp only [lv] at h2
    rw [show a + 1 + e = a + (e + 1) by omega] at h2
    have h3 := lv_lt Y e (fun j hj => hY j (by omega))
    have h4 : (Y e + 1) * 2 ^ (32 * e) ≤ W (a + (e + 1)) * 2 ^ (32 * e) := Nat.mul_le_mul_right _ (by omega)
    rw [Nat.add_mul] at h4
    omega

/-- The guess is the digit or one more. -/
theorem long_guess {W Y : Nat → Nat} {a dl D : Nat} (hdl : 2 ≤ dl) (hD : D = lv Y dl) (hY : ∀ j, j < dl → Y j < 4294967296) (hW : ∀ j, W j < 4294967296) (hv : 1 ≤ Y (dl - 1)) (hU : win W a (dl + 1) < D * 4294967296) :
    win W a (dl + 1) / D ≤ guess3 (W (a + dl)) (W (a + dl - 1)) (W (a + dl - 2)) (Y (dl - 1)) (Y (dl - 2)) ∧
    guess3 (W (a + dl)) (W (a + dl - 1)) (W (a + dl - 2)) (Y (dl - 1)) (Y (dl - 2)) ≤ win W a (dl + 1) / D + 1 := by
  obtain ⟨e, rfl⟩ : ∃ e, dl = e + 2 := ⟨dl - 2, by omega⟩
  have i1 : a + (e + 2) - 1 = a + (e + 1) := by omega
  have i2 : a + (e + 2) - 2 = a + e := by omega
  have i3 : e + 2 - 1 = e + 1 := by omega
  have i4 : e + 2 - 2 = e := by omega
  rw [i3] at hv
  rw [i1, i2, i3, i4]
  clear i1 i2 i3 i4
  have lo1 := lv_lt (fun t => W (a + t)) e (fun j _ => hW _)
  have lo2 := lv_lt Y e (fun j hj => hY j (by omega))
  have p1 : 2 ^ (32 * (e + 1)) = 4294967296 * 2 ^ (32 * e) := pow32 e
  have p2 : 2 ^ (32 * (e + 2)) = 4294967296 * (4294967296 * 2 ^ (32 * e)) := by rw [pow32 (e + 1), pow32 e]
  have eU : win W a (e + 2 + 1) = lv (fun t => W (a + t)) e + ((W (a + (e + 2)) * 4294967296 + W (a + (e + 1))) * 4294967296 + W (a + e)) * 2 ^ (32 * e) := by
    unfold win
    simp only [lv]
    rw [p1, p2]
    simp only [Nat.add_mul, Nat.mul_assoc]
    omega
  have eD : D = lv Y e + (Y (e + 1) * 4294967296 + Y e) * 2 ^ (32 * e) := by
    rw [hD]
    simp only [lv]
    rw [p1]
    simp only [Nat.add_mul, Nat.mul_assoc]
    omega
  have hP : 0 < 2 ^ (32 * e) := Nat.pow_pos (by omega)
  have kk : ∀ A : Nat, (A + 1) * 2 ^ (32 * e) = A * 2 ^ (32 * e) + 2 ^ (32 * e) := fun A => by rw [Nat.add_mul A 1, Nat.one_mul]
  refine guess_true (U3 := (W (a + (e + 2)) * 4294967296 + W (a + (e + 1))) * 4294967296 + W (a + e)) (D2 := Y (e + 1) * 4294967296 + Y e) (P := 2 ^ (32 * e)) hP ?_ ?_ (by omega) hU rfl
  · rw [eU]
    refine ⟨by omega, ?_⟩
    rw [kk]; omega
  · rw [eD]
    refine ⟨by omega, ?_⟩
    rw [kk]; omega

theorem long_step {N0 D dl L nn a q : Nat} {W W1 Q : Nat → Nat} (h : LongRel N0 D dl L nn W Q (a + 1)) (ha : a < L) (hDl : D ≤ 2 ^ (32 * dl)) (hD : 0 < D) (hq : q = win W a (dl + 1) / D) (hw : win W1 a (dl + 1) + q * D = win W a (dl + 1))
    (hf : ∀ k, k < a ∨ a + dl + 1 ≤ k → W1 k = W k) (hl1 : ∀ k, W1 k < 4294967296) : LongRel N0 D dl L nn W1 (upd Q a q) a ∧ q < 4294967296 := by
  have hU := long_window h
  obtain ⟨h1, h2, h3, h4, h5⟩ := h
  have hqb : q < 4294967296 := by rw [hq, Nat.div_lt_iff_lt_mul hD, Nat.mul_comm]; exact hU
  have hr : win W1 a (dl + 1) < D := by
    have e := Nat.div_add_mod (win W a (dl + 1)) D
    have m := Nat.mod_lt (win W a (dl + 1)) hD
    rw [← hq, Nat.mul_comm] at e
    omega
  have htop : W1 (a + dl) = 0 := by
    have e : win W1 a (dl + 1) = win W1 a dl + W1 (a + dl) * 2 ^ (32 * dl) := rfl
    by_cases hz : W1 (a + dl) = 0
    · exact hz
    · have : 1 * 2 ^ (32 * dl) ≤ W1 (a + dl) * 2 ^ (32 * dl) := Nat.mul_le_mul_right _ (by omega)
      omega
  have hwd : win W1 a dl = win W1 a (dl + 1) := by
    have e : win W1 a (dl + 1) = win W1 a dl + W1 (a + dl) * 2 ^ (32 * dl) := rfl
    rw [e, htop]; simp
  refine ⟨⟨?_, ?_, fun j j1 j2 => ?_, hl1, fun j => ?_⟩, hqb⟩
  · rw [h1, hl_step _ a L ha, upd_same, hl_congr (fun j j1 _ => upd_other Q a q j (by omega))]
    have e1 : lv W (a + 1 + dl) = lv W a + 2 ^ (32 * a) * win W a (dl + 1) := by
      rw [show a + 1 + dl = a + (dl + 1) by omega]; exact lv_win W a (dl + 1)
    have e2 : lv W1 (a + dl) = lv W a + 2 ^ (32 * a) * win W1 a dl := by
      rw [lv_win W1 a dl, lv_congr (fun j hj => hf j (Or.inl hj))]
    rw [e1, e2, hwd, ← hw, pow32]
    generalize hl Q (a + 1) L = H
    generalize 2 ^ (32 * a) = P
    generalize win W1 a (dl + 1) = R
    rw [Nat.mul_add P, Nat.add_mul, Nat.add_mul, Nat.mul_left_comm P q D, ← Nat.mul_assoc H, Nat.mul_comm H 4294967296, ← Nat.mul_assoc q P D]
    omega
  · show win W1 a dl < D
    rw [hwd]; exact hr
  · by_cases e : j = a + dl
    · subst e; exact htop
    · rw [hf j (by omega)]; exact h3 j (by omega) j2
  · by_cases e : j = a
    · subst e; rw [upd_same]; exact hqb
    · rw [upd_other _ _ _ _ e]; exact h5 j

theorem long_end {N0 D dl L nn : Nat} {W Q : Nat → Nat} (h : LongRel N0 D dl L nn W Q 0) (hnn : dl ≤ nn) : lv Q L = N0 / D ∧ lv W nn = N0 % D := by
  obtain ⟨h1, h2, h3, h4, h5⟩ := h
  rw [hl_zero, Nat.mul_zero, Nat.pow_zero, Nat.mul_one, Nat.zero_add] at h1
  have e0 : lv (fun t => W (0 + t)) dl = lv W dl := lv_congr (fun j _ => by rw [Nat.zero_add])
  rw [e0] at h2
  have e : lv W nn = lv W dl := lv_more W dl nn hnn (fun j a b => h3 j (by omega) b)
  have hD : 0 < D := by omega
  rw [e, h1, Nat.add_comm]
  refine ⟨?_, ?_⟩
  · rw [Nat.add_mul_div_right _ _ hD, Nat.div_eq_of_lt h2, Nat.zero_add]
  · rw [Nat.add_mul_mod_self_right, Nat.mod_eq_of_lt h2]

/-- No borrow: the guess was the digit. -/
theorem take_exact {U D g V : Nat} (hD : 0 < D) (h : V + g * D = U) (hg : U / D ≤ g) : g = U / D := by
  have : g ≤ U / D := by rw [Nat.le_div_iff_mul_le hD]; omega
  omega

/-- A borrow: the guess was one too great, and what is given back makes it right. -/
theorem take_over {U D g V V2 cy B : Nat} (hD : 0 < D) (h : V + g * D = U + B) (hV : V < B) (hg : g ≤ U / D + 1) (h2 : V2 + cy * B = V + D) (hc : cy ≤ 1) (hV2 : V2 < B) : 1 ≤ g ∧ g - 1 = U / D ∧ V2 + (g - 1) * D = U := by
  have hgt : U / D < g := by rw [Nat.div_lt_iff_lt_mul hD]; omega
  have e : g = U / D + 1 := by omega
  have hq := Nat.div_mul_le_self U D
  generalize U / D = q at *
  subst e
  rw [Nat.add_mul, Nat.one_mul] at h
  refine ⟨by omega, by omega, ?_⟩
  simp only [Nat.add_sub_cancel]
  have hcy : cy = 0 ∨ cy = 1 := by omega
  rcases hcy with rfl | rfl
  · omega
  · omega

/-! ### the shifted numbers -/

theorem shl_bounds {y s : Nat} (hs : s < 32) (h2 : y * 2 ^ s < 4294967296) : (y + 1) * 2 ^ s ≤ 4294967296 := by
  have hp := pow_split s (by omega)
  rw [← hp, Nat.mul_comm (y + 1)]
  refine Nat.mul_le_mul_left _ ?_
  rw [← hp, Nat.mul_comm] at h2
  have := Nat.lt_of_mul_lt_mul_left h2
  omega

/-- The divisor shifted so that its top bit is set has as many limbs as it had, and its top limb is great. -/
theorem shl_divisor {Y S : Nat → Nat} {dl s : Nat} (hdl : 0 < dl) (hs : s < 32) (hY : ∀ j, j < dl → Y j < 4294967296) (hS : ∀ k, S k < 4294967296) (h1 : 2147483648 ≤ Y (dl - 1) * 2 ^ s) (h2 : Y (dl - 1) * 2 ^ s < 4294967296)
    (hv : lv S (dl + 1) = lv Y dl * 2 ^ s) : tlen (nz S) (dl + 1) = dl ∧ lv S dl = lv Y dl * 2 ^ s ∧ 2147483648 ≤ S (dl - 1) ∧ 2 ^ (32 * (dl - 1)) ≤ lv S dl ∧ lv S dl ≤ 2 ^ (32 * dl) := by
  obtain ⟨e, rfl⟩ : ∃ e, dl = e + 1 := ⟨dl - 1, by omega⟩
  simp only [Nat.add_sub_cancel] at *
  have b := shl_bounds hs h2
  have lo := lv_lt Y e (fun j hj => hY j (by omega))
  have hD1 : 2147483648 * 2 ^ (32 * e) ≤ lv Y (e + 1) * 2 ^ s := by
    have a1 : Y e * 2 ^ s * 2 ^ (32 * e) ≤ lv Y (e + 1) * 2 ^ s := by
      simp only [lv]
      rw [Nat.mul_right_comm]
      exact Nat.mul_le_mul_right _ (by omega)
    exact Nat.le_trans (Nat.mul_le_mul_right _ h1) a1
  have hD2 : lv Y (e + 1) * 2 ^ s < 2 ^ (32 * (e + 1)) := by
    have a1 : lv Y (e + 1) < (Y e + 1) * 2 ^ (32 * e) := by simp only [lv]; rw [Nat.add_mul]; omega
    have a2 : lv Y (e + 1) * 2 ^ s < (Y e + 1) * 2 ^ (32 * e) * 2 ^ s := Nat.mul_lt_mul_of_pos_right a1 (Nat.pow_pos (by omega))
    rw [Nat.mul_right_comm] at a2
    have a3 : (Y e + 1) * 2 ^ s * 2 ^ (32 * e) ≤ 4294967296 * 2 ^ (32 * e) := Nat.mul_le_mul_right _ b
    rw [pow32]
    omega
  have hz : S (e + 1) = 0 := by
    by_cases c : S (e + 1) = 0
    · exact c
    · have : 1 * 2 ^ (32 * (e + 1)) ≤ S (e + 1) * 2 ^ (32 * (e + 1)) := Nat.mul_le_mul_right _ (by omega)
      have e3 : lv S (e + 1 + 1) = lv S (e + 1) + S (e + 1) * 2 ^ (32 * (e + 1)) := rfl
      omega
  have hv2 : lv S (e + 1) = lv Y (e + 1) * 2 ^ s := by
    rw [← hv]
    show _ = lv S (e + 1) + S (e + 1) * 2 ^ (32 * (e + 1))
    rw [hz]; simp
  have hS1 : 2147483648 ≤ S e := by
    have lo2 := lv_lt S e (fun j _ => hS j)
    have e3 : lv S (e + 1) = lv S e + S e * 2 ^ (32 * e) := rfl
    by_cases c : 2147483648 ≤ S e
    · exact c
    · have : (S e + 1) * 2 ^ (32 * e) ≤ 2147483648 * 2 ^ (32 * e) := Nat.mul_le_mul_right _ (by omega)
      rw [Nat.add_mul] at this
      omega
  refine ⟨?_, hv2, hS1, by omega, by omega⟩
  have n1 : nz S (e + 1) = false := by simp [nz, hz]
  have n2 : nz S e = true := by simp [nz]; omega
  simp [tlen, n1, n2]

/-- A number laid out with a zero limb on top. -/
def capped (S : Nat → Nat) (t : Nat) : Nat → Nat := fun j => if j < t then S j else 0
theorem capped_lt {S : Nat → Nat} (t : Nat) (hS : ∀ k, S k < 4294967296) : ∀ k, capped S t k < 4294967296 := fun k => by unfold capped; split; exact hS k; omega
theorem capped_top (S : Nat → Nat) (t : Nat) : capped S t t = 0 := by simp [capped]
theorem lv_capped (S : Nat → Nat) (t : Nat) : lv (capped S t) (t + 1) = lv S t := by
  simp only [lv, capped_top]
  rw [lv_congr (fun j hj => show capped S t j = S j by simp [capped, hj])]; simp

theorem shl_div {x y s : Nat} : x * 2 ^ s / (y * 2 ^ s) = x / y ∧ x * 2 ^ s % (y * 2 ^ s) / 2 ^ s = x % y := by
  have hp : 0 < 2 ^ s := Nat.pow_pos (by omega)
  refine ⟨Nat.mul_div_mul_right _ _ hp, ?_⟩
  rw [Nat.mul_mod_mul_right, Nat.mul_div_cancel _ hp]

end Go.Proofs.YtklkohdcilnchabDoor

/-
  Plain mathematics: greatest common divisors.
-/
namespace Go.Proofs.YtklkohdcilnchabDoor

theorem gcd_twice (a b : Nat) : Nat.gcd (2 * a) (2 * b) = 2 * Nat.gcd a b := Nat.gcd_mul_left 2 a b

theorem cop2 {b : Nat} (h : b % 2 = 1) : Nat.Coprime 2 b := by
  unfold Nat.Coprime
  rw [Nat.gcd_rec, h]
  rfl

theorem gcd_half_left {a b : Nat} (h : b % 2 = 1) : Nat.gcd (2 * a) b = Nat.gcd a b := Nat.Coprime.gcd_mul_left_cancel a (cop2 h)
theorem gcd_half_right {a b : Nat} (h : a % 2 = 1) : Nat.gcd a (2 * b) = Nat.gcd a b := by rw [Nat.gcd_comm, gcd_half_left h, Nat.gcd_comm]

theorem gcd_sub_left {a b : Nat} (h : b ≤ a) : Nat.gcd (a - b) b = Nat.gcd a b := by
  have e : a = (a - b) + b := by omega
  have h2 : Nat.gcd ((a - b) + b) b = Nat.gcd (a - b) b := Nat.gcd_add_self_left b (a - b)
  rw [← e] at h2; exact h2.symm
theorem gcd_sub_right {a b : Nat} (h : a ≤ b) : Nat.gcd a (b - a) = Nat.gcd a b := by rw [Nat.gcd_comm, gcd_sub_left h, Nat.gcd_comm]

theorem gcd_pow2_left {a b k : Nat} (h : b % 2 = 1) : Nat.gcd (2 ^ k * a) b = Nat.gcd a b := by
  induction k with
  | zero => simp
  | succ k ih => rw [Nat.pow_succ, Nat.mul_comm (2 ^ k) 2, Nat.mul_assoc, gcd_half_left h, ih]
theorem gcd_pow2_right {a b k : Nat} (h : a % 2 = 1) : Nat.gcd a (2 ^ k * b) = Nat.gcd a b := by rw [Nat.gcd_comm, gcd_pow2_left h, Nat.gcd_comm]

/-- The twos of two numbers come out by themselves. -/
theorem gcd_twos {a b i j : Nat} (ha : a % 2 = 1) (hb : b % 2 = 1) : Nat.gcd (2 ^ i * a) (2 ^ j * b) = 2 ^ (min i j) * Nat.gcd a b := by
  rcases Nat.le_total i j with h | h
  · rw [Nat.min_eq_left h, show j = i + (j - i) by omega, Nat.pow_add, Nat.mul_assoc, Nat.gcd_mul_left, gcd_pow2_right ha]
  · rw [Nat.min_eq_right h, show i = j + (i - j) by omega, Nat.pow_add, Nat.mul_assoc, Nat.gcd_mul_left, gcd_pow2_left hb]

/-! ### bits from a place on -/

def sh (A : Nat → Bool) (k : Nat) : Nat → Bool := fun j => A (j + k)

theorem bv_sh (A : Nat → Bool) (n : Nat) (h : 0 < n) : bv A n = 2 * bv (sh A 1) (n - 1) + (A 0).toNat := by
  obtain ⟨m, rfl⟩ : ∃ m, n = m + 1 := ⟨n - 1, by omega⟩
  rw [bv_front]; rfl

theorem bv_even {A : Nat → Bool} {n : Nat} (h : 0 < n) (h0 : A 0 = false) : bv A n = 2 * bv (sh A 1) (n - 1) := by rw [bv_sh A n h, h0]; simp
theorem bv_odd {A : Nat → Bool} {n : Nat} (h : 0 < n) (h0 : A 0 = true) : bv A n % 2 = 1 := by rw [bv_sh A n h, h0]; simp

/-- Zeros laid ahead of a list. -/
def zeros (k : Nat) (B : Nat → Bool) : Nat → Bool := fun j => if j < k then false else B (j - k)
theorem bv_zeros (k : Nat) (B : Nat → Bool) (n : Nat) : bv (zeros k B) (k + n) = 2 ^ k * bv B n := by
  rw [bv_add]
  have e1 : bv (zeros k B) k = 0 := by rw [bv_more (zeros k B) 0 k (by omega) (fun j _ hj => by simp [zeros, hj])]; rfl
  have e2 : bv (fun j => zeros k B (k + j)) n = bv B n := bv_congr (fun j _ => by simp [zeros])
  rw [e1, e2]; simp

end Go.Proofs.YtklkohdcilnchabDoor

namespace Go.Proofs.YtklkohdcilnchabDoor
open Go.RowKit

/-- A trimmed list of bits, read at whatever place: the slice's value. -/
def Tr (w : World) (v : Value) (n : Nat) (A : Nat → Bool) : Prop :=
  ∃ a b off cap, v = .slice a n cap ∧ n ≤ cap ∧ Bits w a b off n A ∧ (0 < n → A (n - 1) = true)

theorem Tr.keep {w w' : World} {v : Value} {n : Nat} {A : Nat → Bool} (h : Tr w v n A) (s : w.Since w.heap.size w') : Tr w' v n A := by
  obtain ⟨a, b, off, cap, h1, h2, h3, h4⟩ := h
  exact ⟨a, b, off, cap, h1, h2, h3.keep s, h4⟩

theorem Tr.same {w w' : World} {v : Value} {n : Nat} {A : Nat → Bool} (h : Tr w v n A) (s : Same w w') : Tr w' v n A := h.keep (s.since _)

theorem bits_tail {w : World} {b off n : Nat} {A : Nat → Bool} (h : Bits w (some ⟨b, off, none⟩) b off n A) (hn : 0 < n) : Bits w (some ⟨b, off + 1, none⟩) b (off + 1) (n - 1) (sh A 1) :=
  fun j hj => ⟨rfl, by have := (h (j + 1) (by omega)).2; rw [show off + 1 + j = off + (j + 1) by omega]; exact this⟩

theorem row_own_bits {w : World} {base g t cap : Nat} {S : Nat → Bool} (hr : w.rowIs g 4 cap (fun j => .bool (S j))) (ht : t ≤ cap) (hc : cap ≤ maxLen) (hb : base ≤ g) : w.ownsRow base 4 1 (.slice (some ⟨g, 0, none⟩) t cap) t (bl S t) := by
  obtain ⟨cur, h1, h2, h3⟩ := hr
  refine ⟨by rw [bl_len]; omega, .inr ⟨g, cap, cur, rfl, hb, h1, ht, hc, by omega, ?_⟩⟩
  apply List.ext_getElem?
  intro i
  rw [Nat.mul_one]
  by_cases hi : i < t
  · rw [bl_get S t i hi, List.getElem?_take, if_pos hi]
    have := h3 i (by omega)
    simpa using this
  · rw [List.getElem?_eq_none (by rw [List.length_take]; omega), List.getElem?_eq_none (by rw [bl_len]; omega)]

theorem bits_news2 {w : World} {g off t : Nat} {R : Nat → Bool} (h : Bits w (some ⟨g, off, none⟩) g off t R) : ∀ j u, (bl R t)[j]? = some u → w.cell? ((⟨g, off, none⟩ : Addr).add j) = some u := by
  intro j u hu
  have hj : j < t := by have := (List.getElem?_eq_some_iff.1 hu).1; rwa [bl_len] at this
  rw [bl_get R t j hj] at hu
  rw [Addr.add_lit, (h j hj).2]; exact hu

theorem bl_zeros (k : Nat) (B : Nat → Bool) (m : Nat) : bl (zeros k B) (k + m) = bl (fun _ => false) k ++ bl B m := by
  apply List.ext_getElem?
  intro i
  by_cases h1 : i < k
  · rw [bl_get _ _ _ (by omega), List.getElem?_append_left (by rw [bl_len]; exact h1), bl_get _ _ _ h1]
    simp [zeros, h1]
  · rw [List.getElem?_append_right (by rw [bl_len]; omega), bl_len]
    by_cases h2 : i < k + m
    · rw [bl_get _ _ _ h2, bl_get _ _ _ (by omega)]
      simp [zeros, h1]
    · rw [List.getElem?_eq_none (by rw [bl_len]; omega), List.getElem?_eq_none (by rw [bl_len]; omega)]

theorem trim_tail {A : Nat → Bool} {n : Nat} (hn : 2 ≤ n) (h : A (n - 1) = true) : 0 < n - 1 → sh A 1 (n - 1 - 1) = true := fun _ => by unfold sh; rw [show n - 1 - 1 + 1 = n - 1 by omega]; exact h

theorem even_long {A : Nat → Bool} {n : Nat} (h0 : 0 < n) (h1 : A 0 = false) (ht : A (n - 1) = true) : 2 ≤ n := by
  by_cases e : n = 1
  · subst e; simp at ht; rw [h1] at ht; cases ht
  · omega

theorem bv_pos {A : Nat → Bool} {n : Nat} (h0 : 0 < n) (ht : A (n - 1) = true) : 0 < bv A n := by
  have := bv_ge A n h0 ht
  have := Nat.pow_pos (n := n - 1) (show 0 < 2 by omega)
  omega

set_option maxHeartbeats 6400000 in
set_option maxRecDepth 100000 in
theorem l1GcdBits_any (v0 v1 : Value) (n0 m0 : Nat) (A0 B0 : Nat → Bool) (w : World) (hn : n0 ≤ 67108864) (hm : m0 ≤ 67108864) (hA : Tr w v0 n0 A0) (hB : Tr w v1 m0 B0) :
    Calls Tryd.prog 37 #[v0, v1] w fun e w' => ∃ v t O, e = .returned v ∧ t ≤ n0 + m0 + m0 ∧ Tr w' v t O ∧ bv O t = Nat.gcd (bv A0 n0) (bv B0 m0) ∧ w.Since w.heap.size w' := by
  obtain ⟨a, ba, oa, ca, rfl, hca, hA1, tA⟩ := hA
  obtain ⟨b, bb, ob, cb, rfl, hcb, hB1, tB⟩ := hB
  by_cases z0 : n0 = 0
  · subst z0
    go_enter Tryd.func37, Tryd.ntmps37
    go_wp2
    go_ret
    exact ⟨_, m0, B0, rfl, by omega, ⟨b, bb, ob, cb, rfl, hcb, hB1, tB⟩, by simp [bv], World.Since.refl _ _⟩
  by_cases z1 : m0 = 0
  · subst z1
    have q0 : ((n0 : Int) == 0) = false := by simp; omega
    go_enter Tryd.func37, Tryd.ntmps37
    go_wp2
    go_ret
    exact ⟨_, n0, A0, rfl, by omega, ⟨a, ba, oa, ca, rfl, hca, hA1, tA⟩, by simp [bv], World.Since.refl _ _⟩
  obtain ⟨G, hG⟩ : ∃ G, G = Nat.gcd (bv A0 n0) (bv B0 m0) := ⟨_, rfl⟩
  have HG := hide hG
  have q0 : ((n0 : Int) == 0) = false := by simp; omega
  have q1 : ((m0 : Int) == 0) = false := by simp; omega
  have HtA := hide tA
  have HtB := hide tB
  clear hG tA tB
  go_enter Tryd.func37, Tryd.ntmps37
  go_wp2
  clear q0 q1
  go_loopg [0, 1, 5] n0 (fun n x y z wr => ∃ (m tw : Nat) (A B : Nat → Bool) (p q : Option Addr) (bp op bq oq cp cq : Nat), w = wr ∧ x = .slice p n cp ∧ y = .slice q m cq ∧ z = .int .i64 tw ∧ 0 < n ∧ 0 < m ∧ n ≤ cp ∧ m ≤ cq ∧ n ≤ n0 ∧ m + tw ≤ m0 ∧
    Bits w p bp op n A ∧ Bits w q bq oq m B ∧ Hid (A (n - 1) = true) ∧ Hid (B (m - 1) = true) ∧ Hid (2 ^ tw * Nat.gcd (bv A n) (bv B m) = G))
  case atStart => exact ⟨m0, 0, A0, B0, a, b, ba, oa, bb, ob, ca, cb, rfl, rfl, rfl, rfl, by omega, by omega, hca, hcb, Nat.le_refl _, by omega, hA1, hB1, HtA.out (by omega), HtB.out (by omega), by rw [HG.out]; simp [Hid]⟩
  case round =>
    obtain ⟨m, tw, A, B, p, q, bp, op, bq, oq, cp, cq, rfl, rfl, rfl, rfl, n1, m1, hcp, hcq, hn0, hm0, hA, hB, TA, TB, HGr⟩ := hrel
    obtain ⟨n, hgn⟩ : ∃ n, n = gk := ⟨_, rfl⟩
    subst hgn
    obtain ⟨rfl, ka⟩ := hA 0 n1
    obtain ⟨rfl, kb⟩ := hB 0 m1
    rw [Nat.add_zero] at ka kb
    clear hA1 hB1 HtA HtB
    by_cases hev : A 0 = false ∧ B 0 = false
    · obtain ⟨ea, eb⟩ := hev
      have la := even_long n1 ea TA.out
      have lb := even_long m1 eb TB.out
      have E1 := hide (bv_even n1 ea)
      have E2 := hide (bv_even m1 eb)
      rw [ea] at ka
      rw [eb] at kb
      clear ea eb
      go_wp2
      go_roundg (n - 1)
      case measure => omega
      case rel =>
        go_light
        refine ⟨m - 1, tw + 1, sh A 1, sh B 1, _, _, bp, op + 1, bq, oq + 1, cp - 1, cq - 1, rfl, rfl, rfl, by go_num, by omega, by omega, by omega, by omega, by omega, by omega, bits_tail hA n1, bits_tail hB m1, trim_tail la TA.out (by omega), trim_tail lb TB.out (by omega), ?_⟩
        have h := HGr.out
        rw [E1.out, E2.out, gcd_twice, ← Nat.mul_assoc, ← Nat.pow_succ] at h
        exact h
    · have HO : Hid (bv A n % 2 = 1 ∨ bv B m % 2 = 1) := by
        cases ea : A 0
        · cases eb : B 0
          · exact absurd ⟨ea, eb⟩ hev
          · exact Or.inr (bv_odd m1 eb)
        · exact Or.inl (bv_odd n1 ea)
      have key : (A 0 = true) ∨ (A 0 = false ∧ B 0 = true) := by
        cases ea : A 0
        · cases eb : B 0
          · exact absurd ⟨ea, eb⟩ hev
          · exact Or.inr ⟨rfl, rfl⟩
        · exact Or.inl rfl
      clear hev
      have S0 := World.Since.refl w.heap.size w
      have T0 : Tr w (.slice (some ⟨bp, op, none⟩) n cp) n A := ⟨_, bp, op, cp, rfl, hcp, hA, fun _ => TA.out⟩
      have U0 : Tr w (.slice (some ⟨bq, oq, none⟩) m cq) m B := ⟨_, bq, oq, cq, rfl, hcq, hB, fun _ => TB.out⟩
      rcases key with ea | ⟨ea, eb⟩
      · rw [ea] at ka
        clear ea hA hB TA TB
        go_wp2
        obtain ⟨g2, hg2⟩ : ∃ g, g = Nat.gcd (bv A n) (bv B m) := ⟨_, rfl⟩
        have HG2 := hide hg2
        have HGG := HGr.out
        rw [← hg2] at HGG
        have HGG := hide HGG
        clear hg2 HGr ka kb
        go_loopg [0, 1] (bv A n + bv B m) (fun g x y wr => ∃ (n m : Nat) (A B : Nat → Bool), Hid (g = bv A n + bv B m) ∧ Tr wr x n A ∧ Tr wr y m B ∧ n ≤ n0 + m0 ∧ 0 < m ∧ m ≤ n0 + m0 ∧ Hid (bv A n % 2 = 1 ∨ bv B m % 2 = 1) ∧ Hid (g2 = Nat.gcd (bv A n) (bv B m)) ∧ w.Since w.heap.size wr)
        case atStart => exact ⟨n, m, A, B, rfl, T0, U0, by omega, m1, by omega, HO, HG2, S0⟩
        case round =>
          clear T0 U0 HO HG2 S0 n1 m1 hcp hcq hn0
          obtain ⟨n', m', A', B', Hg, TA, TB, hn1, m1, hm1, HO, HG2, hs⟩ := hrel
          obtain ⟨p', bp', op', cp', rfl, hcp, hA, tA⟩ := TA
          obtain ⟨q', bq', oq', cq', rfl, hcq, hB, tB⟩ := TB
          obtain ⟨rfl, kb⟩ := hB 0 m1
          rw [Nat.add_zero] at kb
          have HtA := hide tA
          have HtB := hide tB
          clear tA tB
          by_cases hn0 : 0 < n'
          · obtain ⟨rfl, ka⟩ := hA 0 hn0
            rw [Nat.add_zero] at ka
            cases ea : A' 0
            · -- a is even
              have la := even_long hn0 ea (HtA.out hn0)
              have E1 := hide (bv_even hn0 ea)
              have hp := bv_pos (A := sh A' 1) (n := n' - 1) (by omega) (trim_tail la (HtA.out hn0) (by omega))
              have hob : bv B' m' % 2 = 1 := by have := HO.out; have := E1.out; omega
              have HN : Hid (g2 = Nat.gcd (bv (sh A' 1) (n' - 1)) (bv B' m')) := by have h := HG2.out; rw [E1.out, gcd_half_left hob] at h; exact h
              have HO' : Hid (bv (sh A' 1) (n' - 1) % 2 = 1 ∨ bv B' m' % 2 = 1) := Or.inr hob
              have Hlt : Hid (bv (sh A' 1) (n' - 1) + bv B' m' < gk) := by have := Hg.out; have := E1.out; show _ < _; omega
              rw [ea] at ka
              clear ea hob hp E1
              go_wp2
              go_roundg (bv (sh A' 1) (n' - 1) + bv B' m')
              case measure => exact Hlt.out
              case rel => exact ⟨n' - 1, m', sh A' 1, B', rfl, ⟨_, bp', op' + 1, cp' - 1, rfl, by omega, bits_tail hA hn0, trim_tail la (HtA.out hn0)⟩, ⟨_, bq', oq', cq', rfl, hcq, hB, HtB.out⟩, by omega, m1, hm1, HO', HN, hs⟩
            · have hoa := bv_odd hn0 ea
              have hpa := bv_pos hn0 (HtA.out hn0)
              rw [ea] at ka
              clear ea
              cases eb : B' 0
              · -- b is even
                have lb := even_long m1 eb (HtB.out m1)
                have E1 := hide (bv_even m1 eb)
                have hp := bv_pos (A := sh B' 1) (n := m' - 1) (by omega) (trim_tail lb (HtB.out m1) (by omega))
                have HN : Hid (g2 = Nat.gcd (bv A' n') (bv (sh B' 1) (m' - 1))) := by have h := HG2.out; rw [E1.out, gcd_half_right hoa] at h; exact h
                have HO' : Hid (bv A' n' % 2 = 1 ∨ bv (sh B' 1) (m' - 1) % 2 = 1) := Or.inl hoa
                have Hlt : Hid (bv A' n' + bv (sh B' 1) (m' - 1) < gk) := by have := Hg.out; have := E1.out; show _ < _; omega
                rw [eb] at kb
                clear eb hoa hpa hp E1
                go_wp2
                go_roundg (bv A' n' + bv (sh B' 1) (m' - 1))
                case measure => exact Hlt.out
                case rel => exact ⟨n', m' - 1, A', sh B' 1, rfl, ⟨_, bp', op', cp', rfl, hcp, hA, HtA.out⟩, ⟨_, bq', oq' + 1, cq' - 1, rfl, by omega, bits_tail hB m1, trim_tail lb (HtB.out m1)⟩, hn1, by omega, by omega, HO', HN, hs⟩
              · have hob := bv_odd m1 eb
                have hpb := bv_pos m1 (HtB.out m1)
                rw [eb] at kb
                clear eb
                have HP := hide (And.intro hoa (And.intro hob (And.intro hpa hpb)))
                clear hoa hob hpa hpb
                go_wp2_with fail
                refine (l1CmpBits_any _ _ bp' op' n' cp' bq' oq' m' cq' A' B' _ (by omega) (by omega) hA hB HtA.out HtB.out).mono ?_
                rintro e w2 ⟨rfl, s2⟩
                have hA := hA.same s2
                have hB := hB.same s2
                have hs : w.Since w.heap.size w2 := hs.trans (s2.since _)
                clear s2 ka kb
                by_cases hge : bv B' m' ≤ bv A' n'
                · have hc := cmpN_nonneg hge
                  have hlen := bv_len HtB.out hge
                  have HN : Hid (g2 = Nat.gcd (bv A' n' - bv B' m') (bv B' m')) := by have h := HG2.out; rw [← gcd_sub_left hge] at h; exact h
                  have Hge := hide hge
                  clear hge
                  generalize cmpN (bv A' n') (bv B' m') = z at *
                  go_wp2_with fail
                  refine (l1SubBits_any _ _ bp' op' n' cp' bq' oq' m' cq' A' B' _ (by omega) hlen hA hB Hge.out).mono ?_
                  rintro e w3 ⟨g3, t3, c3, D, rfl, k1, k2, hD, k3, k4, k5, s3⟩
                  have HD := hide k4
                  have HV := hide k5
                  have hB := hB.keep s3
                  have hs3 : w.Since w.heap.size w3 := hs.trans (sinceMono s3 hs.size)
                  clear k4 k5 s3 hs hA
                  go_wp2
                  go_roundg (bv D t3 + bv B' m')
                  case measure => have := Hg.out; have := HV.out; have := HP.out; have := Hge.out; omega
                  case rel => exact ⟨t3, m', D, B', rfl, ⟨_, g3, 0, c3, rfl, k1, hD, HD.out⟩, ⟨_, bq', oq', cq', rfl, hcq, hB, HtB.out⟩, by omega, m1, hm1, Or.inr HP.out.2.1, by rw [HV.out]; exact HN, hs3⟩
                · have hlt : bv A' n' < bv B' m' := by omega
                  have hc := cmpN_neg hlt
                  have hlen := bv_len HtA.out (Nat.le_of_lt hlt)
                  have HN : Hid (g2 = Nat.gcd (bv A' n') (bv B' m' - bv A' n')) := by have h := HG2.out; rw [← gcd_sub_right (Nat.le_of_lt hlt)] at h; exact h
                  have Hlt := hide hlt
                  clear hge hlt
                  generalize cmpN (bv A' n') (bv B' m') = z at *
                  go_wp2_with fail
                  refine (l1SubBits_any _ _ bq' oq' m' cq' bp' op' n' cp' B' A' _ (by omega) hlen hB hA (Nat.le_of_lt Hlt.out)).mono ?_
                  rintro e w3 ⟨g3, t3, c3, D, rfl, k1, k2, hD, k3, k4, k5, s3⟩
                  have HD := hide k4
                  have HV := hide k5
                  have hA := hA.keep s3
                  have hs3 : w.Since w.heap.size w3 := hs.trans (sinceMono s3 hs.size)
                  have ht3 : 0 < t3 := by
                    by_cases e : 0 < t3
                    · exact e
                    · have e0 : t3 = 0 := by omega
                      rw [e0] at k5
                      have := Hlt.out
                      simp [bv] at k5
                      omega
                  have hne : ((t3 : Int) == 0) = false := by simp; omega
                  clear k4 k5 s3 hs hB
                  go_wp2
                  go_roundg (bv A' n' + bv D t3)
                  case measure => have := Hg.out; have := HV.out; have := HP.out; have := Hlt.out; omega
                  case rel => exact ⟨n', t3, A', D, rfl, ⟨_, bp', op', cp', rfl, hcp, hA, HtA.out⟩, ⟨_, g3, 0, c3, rfl, k1, hD, HD.out⟩, hn1, ht3, by omega, Or.inl HP.out.1, by rw [HV.out]; exact HN, hs3⟩
          · have e0 : n' = 0 := by omega
            subst e0
            obtain ⟨i0, hi, hz0, hz1, hz2⟩ := info_parts Tryd.info4
            have hmk := run_make_row' (P := Tryd.prog) 46 4 (.bool false) 1 Tryd.underlying46 Tryd.info4 rfl .i64 .i64 tw (by omega) (by omega)
            have hrow := World.rowIs_made wr (.bool false) tw 4
            have hsz := hs.size
            have hB2 := hB.keep (w' := wr.alloc (.cells (madeCells #[.bool false] tw) 4)) ((World.Since.refl _ _).alloc (Nat.le_refl _) _)
            clear kb
            go_wp2_with (at_builtin; refine wpList_append_own _ rfl _ _ 46 rfl w.heap.size 4 i0 (.bool false) 1 1 Tryd.underlying46 hi hz0 hz1 hz2 rfl (by decide) _ _ _ rfl (row_own_bits (S := fun _ => false) hrow (Nat.le_refl _) (by unfold maxLen; omega) hsz) ⟨bq', oq', none⟩ m' cq' (bl B' m') rfl (by rw [bl_len]; omega) (bits_news2 hB2) (bl_one B' m') (by unfold maxLen; omega) (by omega) (by simp; omega) ?_)
            intro v' w3 hown hgrow hnn
            rw [← bl_zeros] at hown
            have hs3 : w.Since w.heap.size w3 := (hs.alloc hsz _).grown hgrow (by simp; omega) (fun k hk => by simp [Value.ownBlock] at hk; omega)
            obtain ⟨g3, c3, rfl, k1, k2, k3⟩ := own_bits_some hown hnn
            clear hown hgrow hnn hB2 hrow hmk hi hz0 hz1 hz2
            go_wp2
            go_ret
            refine ⟨_, tw + m', zeros tw B', rfl, by omega, ⟨_, g3, 0, c3, rfl, k1, k3, fun _ => ?_⟩, ?_, hs3⟩
            · unfold zeros
              rw [if_neg (by omega), show tw + m' - 1 - tw = m' - 1 by omega]
              exact HtB.out m1
            · rw [bv_zeros, ← HG.out, ← HGG.out, HG2.out]
              simp [bv]
      · rw [ea] at ka
        rw [eb] at kb
        clear ea eb hA hB TA TB
        go_wp2
        obtain ⟨g2, hg2⟩ : ∃ g, g = Nat.gcd (bv A n) (bv B m) := ⟨_, rfl⟩
        have HG2 := hide hg2
        have HGG := HGr.out
        rw [← hg2] at HGG
        have HGG := hide HGG
        clear hg2 HGr ka kb
        go_loopg [0, 1] (bv A n + bv B m) (fun g x y wr => ∃ (n m : Nat) (A B : Nat → Bool), Hid (g = bv A n + bv B m) ∧ Tr wr x n A ∧ Tr wr y m B ∧ n ≤ n0 + m0 ∧ 0 < m ∧ m ≤ n0 + m0 ∧ Hid (bv A n % 2 = 1 ∨ bv B m % 2 = 1) ∧ Hid (g2 = Nat.gcd (bv A n) (bv B m)) ∧ w.Since w.heap.size wr)
        case atStart => exact ⟨n, m, A, B, rfl, T0, U0, by omega, m1, by omega, HO, HG2, S0⟩
        case round =>
          clear T0 U0 HO HG2 S0 n1 m1 hcp hcq hn0
          obtain ⟨n', m', A', B', Hg, TA, TB, hn1, m1, hm1, HO, HG2, hs⟩ := hrel
          obtain ⟨p', bp', op', cp', rfl, hcp, hA, tA⟩ := TA
          obtain ⟨q', bq', oq', cq', rfl, hcq, hB, tB⟩ := TB
          obtain ⟨rfl, kb⟩ := hB 0 m1
          rw [Nat.add_zero] at kb
          have HtA := hide tA
          have HtB := hide tB
          clear tA tB
          by_cases hn0 : 0 < n'
          · obtain ⟨rfl, ka⟩ := hA 0 hn0
            rw [Nat.add_zero] at ka
            cases ea : A' 0
            · -- a is even
              have la := even_long hn0 ea (HtA.out hn0)
              have E1 := hide (bv_even hn0 ea)
              have hp := bv_pos (A := sh A' 1) (n := n' - 1) (by omega) (trim_tail la (HtA.out hn0) (by omega))
              have hob : bv B' m' % 2 = 1 := by have := HO.out; have := E1.out; omega
              have HN : Hid (g2 = Nat.gcd (bv (sh A' 1) (n' - 1)) (bv B' m')) := by have h := HG2.out; rw [E1.out, gcd_half_left hob] at h; exact h
              have HO' : Hid (bv (sh A' 1) (n' - 1) % 2 = 1 ∨ bv B' m' % 2 = 1) := Or.inr hob
              have Hlt : Hid (bv (sh A' 1) (n' - 1) + bv B' m' < gk) := by have := Hg.out; have := E1.out; show _ < _; omega
              rw [ea] at ka
              clear ea hob hp E1
              go_wp2
              go_roundg (bv (sh A' 1) (n' - 1) + bv B' m')
              case measure => exact Hlt.out
              case rel => exact ⟨n' - 1, m', sh A' 1, B', rfl, ⟨_, bp', op' + 1, cp' - 1, rfl, by omega, bits_tail hA hn0, trim_tail la (HtA.out hn0)⟩, ⟨_, bq', oq', cq', rfl, hcq, hB, HtB.out⟩, by omega, m1, hm1, HO', HN, hs⟩
            · have hoa := bv_odd hn0 ea
              have hpa := bv_pos hn0 (HtA.out hn0)
              rw [ea] at ka
              clear ea
              cases eb : B' 0
              · -- b is even
                have lb := even_long m1 eb (HtB.out m1)
                have E1 := hide (bv_even m1 eb)
                have hp := bv_pos (A := sh B' 1) (n := m' - 1) (by omega) (trim_tail lb (HtB.out m1) (by omega))
                have HN : Hid (g2 = Nat.gcd (bv A' n') (bv (sh B' 1) (m' - 1))) := by have h := HG2.out; rw [E1.out, gcd_half_right hoa] at h; exact h
                have HO' : Hid (bv A' n' % 2 = 1 ∨ bv (sh B' 1) (m' - 1) % 2 = 1) := Or.inl hoa
                have Hlt : Hid (bv A' n' + bv (sh B' 1) (m' - 1) < gk) := by have := Hg.out; have := E1.out; show _ < _; omega
                rw [eb] at kb
                clear eb hoa hpa hp E1
                go_wp2
                go_roundg (bv A' n' + bv (sh B' 1) (m' - 1))
                case measure => exact Hlt.out
                case rel => exact ⟨n', m' - 1, A', sh B' 1, rfl, ⟨_, bp', op', cp', rfl, hcp, hA, HtA.out⟩, ⟨_, bq', oq' + 1, cq' - 1, rfl, by omega, bits_tail hB m1, trim_tail lb (HtB.out m1)⟩, hn1, by omega, by omega, HO', HN, hs⟩
              · have hob := bv_odd m1 eb
                have hpb := bv_pos m1 (HtB.out m1)
                rw [eb] at kb
                clear eb
                have HP := hide (And.intro hoa (And.intro hob (And.intro hpa hpb)))
                clear hoa hob hpa hpb
                go_wp2_with fail
                refine (l1CmpBits_any _ _ bp' op' n' cp' bq' oq' m' cq' A' B' _ (by omega) (by omega) hA hB HtA.out HtB.out).mono ?_
                rintro e w2 ⟨rfl, s2⟩
                have hA := hA.same s2
                have hB := hB.same s2
                have hs : w.Since w.heap.size w2 := hs.trans (s2.since _)
                clear s2 ka kb
                by_cases hge : bv B' m' ≤ bv A' n'
                · have hc := cmpN_nonneg hge
                  have hlen := bv_len HtB.out hge
                  have HN : Hid (g2 = Nat.gcd (bv A' n' - bv B' m') (bv B' m')) := by have h := HG2.out; rw [← gcd_sub_left hge] at h; exact h
                  have Hge := hide hge
                  clear hge
                  generalize cmpN (bv A' n') (bv B' m') = z at *
                  go_wp2_with fail
                  refine (l1SubBits_any _ _ bp' op' n' cp' bq' oq' m' cq' A' B' _ (by omega) hlen hA hB Hge.out).mono ?_
                  rintro e w3 ⟨g3, t3, c3, D, rfl, k1, k2, hD, k3, k4, k5, s3⟩
                  have HD := hide k4
                  have HV := hide k5
                  have hB := hB.keep s3
                  have hs3 : w.Since w.heap.size w3 := hs.trans (sinceMono s3 hs.size)
                  clear k4 k5 s3 hs hA
                  go_wp2
                  go_roundg (bv D t3 + bv B' m')
                  case measure => have := Hg.out; have := HV.out; have := HP.out; have := Hge.out; omega
                  case rel => exact ⟨t3, m', D, B', rfl, ⟨_, g3, 0, c3, rfl, k1, hD, HD.out⟩, ⟨_, bq', oq', cq', rfl, hcq, hB, HtB.out⟩, by omega, m1, hm1, Or.inr HP.out.2.1, by rw [HV.out]; exact HN, hs3⟩
                · have hlt : bv A' n' < bv B' m' := by omega
                  have hc := cmpN_neg hlt
                  have hlen := bv_len HtA.out (Nat.le_of_lt hlt)
                  have HN : Hid (g2 = Nat.gcd (bv A' n') (bv B' m' - bv A' n')) := by have h := HG2.out; rw [← gcd_sub_right (Nat.le_of_lt hlt)] at h; exact h
                  have Hlt := hide hlt
                  clear hge hlt
                  generalize cmpN (bv A' n') (bv B' m') = z at *
                  go_wp2_with fail
                  refine (l1SubBits_any _ _ bq' oq' m' cq' bp' op' n' cp' B' A' _ (by omega) hlen hB hA (Nat.le_of_lt Hlt.out)).mono ?_
                  rintro e w3 ⟨g3, t3, c3, D, rfl, k1, k2, hD, k3, k4, k5, s3⟩
                  have HD := hide k4
                  have HV := hide k5
                  have hA := hA.keep s3
                  have hs3 : w.Since w.heap.size w3 := hs.trans (sinceMono s3 hs.size)
                  have ht3 : 0 < t3 := by
                    by_cases e : 0 < t3
                    · exact e
                    · have e0 : t3 = 0 := by omega
                      rw [e0] at k5
                      have := Hlt.out
                      simp [bv] at k5
                      omega
                  have hne : ((t3 : Int) == 0) = false := by simp; omega
                  clear k4 k5 s3 hs hB
                  go_wp2
                  go_roundg (bv A' n' + bv D t3)
                  case measure => have := Hg.out; have := HV.out; have := HP.out; have := Hlt.out; omega
                  case rel => exact ⟨n', t3, A', D, rfl, ⟨_, bp', op', cp', rfl, hcp, hA, HtA.out⟩, ⟨_, g3, 0, c3, rfl, k1, hD, HD.out⟩, hn1, ht3, by omega, Or.inl HP.out.1, by rw [HV.out]; exact HN, hs3⟩
          · have e0 : n' = 0 := by omega
            subst e0
            obtain ⟨i0, hi, hz0, hz1, hz2⟩ := info_parts Tryd.info4
            have hmk := run_make_row' (P := Tryd.prog) 46 4 (.bool false) 1 Tryd.underlying46 Tryd.info4 rfl .i64 .i64 tw (by omega) (by omega)
            have hrow := World.rowIs_made wr (.bool false) tw 4
            have hsz := hs.size
            have hB2 := hB.keep (w' := wr.alloc (.cells (madeCells #[.bool false] tw) 4)) ((World.Since.refl _ _).alloc (Nat.le_refl _) _)
            clear kb
            go_wp2_with (at_builtin; refine wpList_append_own _ rfl _ _ 46 rfl w.heap.size 4 i0 (.bool false) 1 1 Tryd.underlying46 hi hz0 hz1 hz2 rfl (by decide) _ _ _ rfl (row_own_bits (S := fun _ => false) hrow (Nat.le_refl _) (by unfold maxLen; omega) hsz) ⟨bq', oq', none⟩ m' cq' (bl B' m') rfl (by rw [bl_len]; omega) (bits_news2 hB2) (bl_one B' m') (by unfold maxLen; omega) (by omega) (by simp; omega) ?_)
            intro v' w3 hown hgrow hnn
            rw [← bl_zeros] at hown
            have hs3 : w.Since w.heap.size w3 := (hs.alloc hsz _).grown hgrow (by simp; omega) (fun k hk => by simp [Value.ownBlock] at hk; omega)
            obtain ⟨g3, c3, rfl, k1, k2, k3⟩ := own_bits_some hown hnn
            clear hown hgrow hnn hB2 hrow hmk hi hz0 hz1 hz2
            go_wp2
            go_ret
            refine ⟨_, tw + m', zeros tw B', rfl, by omega, ⟨_, g3, 0, c3, rfl, k1, k3, fun _ => ?_⟩, ?_, hs3⟩
            · unfold zeros
              rw [if_neg (by omega), show tw + m' - 1 - tw = m' - 1 by omega]
              exact HtB.out m1
            · rw [bv_zeros, ← HG.out, ← HGG.out, HG2.out]
              simp [bv]

end Go.Proofs.YtklkohdcilnchabDoor

namespace Go.Proofs.YtklkohdcilnchabDoor
open Go.RowKit

set_option maxHeartbeats 800000 in
set_option maxRecDepth 100000 in
/-- (*nat).trim: the receiver's own cell is turned; nothing else. -/
theorem trimAt_any (c o : Nat) (a : Option Addr) (b off n cap : Nat) (X : Nat → Nat) (w : World) (hn : n ≤ 281474976710656) (hnc : n ≤ cap)
    (hc0 : w.cell? ⟨c, o, none⟩ = some (.slice a n cap)) (hf0 : w.frozen? ⟨c, o, none⟩ = false) (hX : Limbs w a b off n X) :
    Calls Tryd.prog 81 #[.pointer (some ⟨c, o, none⟩)] w fun e w' => e = .returned (.tuple #[]) ∧ w' = w.setCell ⟨c, o, none⟩ (.slice a (tlen (nz X) n) cap) := by
  go_enter Tryd.func81, Tryd.ntmps81
  go_wp2
  go_loop [2] (fun i => ∃ k : Nat, k ≤ n ∧ i = .int .i64 k ∧ tlen (nz X) k = tlen (nz X) n) (fun i => (intOf i).toNat)
  case atStart => exact ⟨n, Nat.le_refl _, rfl, rfl⟩
  case round =>
    obtain ⟨k, hk, rfl, ht⟩ := hrel
    have HT : Hid (tlen (nz X) k = tlen (nz X) n) := ht
    clear ht
    by_cases hlt : 0 < k
    · obtain ⟨rfl, hc⟩ := hX (k - 1) (by omega)
      by_cases hB : X (k - 1) = 0
      · rw [hB] at hc
        have HB : Hid (nz X (k - 1) = false) := by simp [Hid, nz, hB]
        clear hB
        go_wp2
        go_round
        case rel => exact ⟨k - 1, by omega, by go_num, (tlen_false hlt HB.out).trans HT.out⟩
        case measure => simp [intOf]; omega
      · have HB : Hid (nz X (k - 1) = true) := by simp [Hid, nz, hB]
        have hne : ((X (k - 1) : Int) == 0) = false := by simp; omega
        clear hB
        go_wp2
        go_end0
        exact ⟨rfl, by rw [← HT.out, tlen_true hlt HB.out]⟩
    · have e : k = 0 := by omega
      subst e
      go_wp2
      go_end0
      exact ⟨rfl, by rw [← HT.out]; rfl⟩

set_option maxHeartbeats 800000 in
set_option maxRecDepth 100000 in
theorem isZero_any (c o : Nat) (a : Option Addr) (n cap : Nat) (w : World) (hc0 : w.cell? ⟨c, o, none⟩ = some (.slice a n cap)) :
    Calls Tryd.prog 69 #[.pointer (some ⟨c, o, none⟩)] w fun e w' => e = .returned (.bool ((n : Int) == 0)) ∧ w' = w := by
  go_enter Tryd.func69, Tryd.ntmps69
  go_wp2
  go_ret
  exact ⟨rfl, rfl⟩

set_option maxHeartbeats 800000 in
set_option maxRecDepth 100000 in
theorem cmpInt_lt (x y : Int) (w : World) (h : x < y) : Calls Tryd.prog 123 #[.int .i64 x, .int .i64 y] w fun e w' => e = .returned (.int .i64 (-1)) ∧ w' = w := by
  go_enter Tryd.func123, Tryd.ntmps123
  go_wp2
  go_ret
  exact ⟨rfl, rfl⟩

set_option maxHeartbeats 800000 in
set_option maxRecDepth 100000 in
theorem cmpInt_gt (x y : Int) (w : World) (h : y < x) : Calls Tryd.prog 123 #[.int .i64 x, .int .i64 y] w fun e w' => e = .returned (.int .i64 1) ∧ w' = w := by
  go_enter Tryd.func123, Tryd.ntmps123
  go_wp2
  go_ret
  exact ⟨rfl, rfl⟩

set_option maxHeartbeats 800000 in
set_option maxRecDepth 100000 in
theorem cmpLimb_lt (x y : Int) (w : World) (h : x < y) : Calls Tryd.prog 124 #[.int .u32 x, .int .u32 y] w fun e w' => e = .returned (.int .i64 (-1)) ∧ w' = w := by
  go_enter Tryd.func124, Tryd.ntmps124
  go_wp2
  go_ret
  exact ⟨rfl, rfl⟩

set_option maxHeartbeats 800000 in
set_option maxRecDepth 100000 in
theorem cmpLimb_gt (x y : Int) (w : World) (h : y < x) : Calls Tryd.prog 124 #[.int .u32 x, .int .u32 y] w fun e w' => e = .returned (.int .i64 1) ∧ w' = w := by
  go_enter Tryd.func124, Tryd.ntmps124
  go_wp2
  go_ret
  exact ⟨rfl, rfl⟩

set_option maxHeartbeats 1600000 in
set_option maxRecDepth 100000 in
/-- (*nat).compare on two plain numbers. -/
theorem compare_any (c o : Nat) (a a' : Option Addr) (b off n cap b' off' m cap' : Nat) (A B : Nat → Nat) (w : World) (hn : n ≤ 281474976710656) (hm : m ≤ 281474976710656) (hc0 : w.cell? ⟨c, o, none⟩ = some (.slice a n cap))
    (hA : Limbs w a b off n A) (hB : Limbs w a' b' off' m B) (lA : ∀ j, j < n → A j < 4294967296) (lB : ∀ j, j < m → B j < 4294967296) (tA : 0 < n → A (n - 1) ≠ 0) (tB : 0 < m → B (m - 1) ≠ 0) :
    Calls Tryd.prog 103 #[.pointer (some ⟨c, o, none⟩), .slice a' m cap'] w fun e w' => e = .returned (.int .i64 (cmpN (lv A n) (lv B m))) ∧ Same w w' := by
  by_cases h1 : n < m
  · rw [cmpN_lt (lv_short lA h1 tB)]
    clear tA tB lA lB
    go_enter Tryd.func103, Tryd.ntmps103
    go_wp2_with fail
    refine (cmpInt_lt _ _ _ (by omega)).mono ?_
    rintro e w1 ⟨rfl, rfl⟩
    go_wp2
    go_ret
    exact ⟨rfl, Same.refl _⟩
  by_cases h2 : m < n
  · rw [cmpN_gt (lv_short lB h2 tA)]
    clear tA tB lA lB
    go_enter Tryd.func103, Tryd.ntmps103
    go_wp2_with fail
    refine (cmpInt_gt _ _ _ (by omega)).mono ?_
    rintro e w1 ⟨rfl, rfl⟩
    go_wp2
    go_ret
    exact ⟨rfl, Same.refl _⟩
  have e : m = n := by omega
  subst e
  have HA := hide lA
  have HB := hide lB
  clear tA tB h1 h2 lA lB
  go_enter Tryd.func103, Tryd.ntmps103
  go_wp2
  go_loopw [5] (fun t wr => ∃ (k : Nat) (z : Int), k ≤ m ∧ t = .int .i64 z ∧ Hid (z = k - 1) ∧ Same w wr ∧ Hid (∀ j, k ≤ j → j < m → A j = B j)) (fun t _ => (intOf t + 1).toNat)
  case atStart => exact ⟨m, (m : Int) - 1, Nat.le_refl _, rfl, rfl, Same.refl _, fun j h1 h2 => absurd h2 (by omega)⟩
  case round =>
    obtain ⟨k, z, hk, rfl, HZ, hs, HE⟩ := hrel
    by_cases hz : 0 ≤ z
    · obtain ⟨i, rfl⟩ := Int.eq_ofNat_of_zero_le hz
      have hki : k = i + 1 := by have := HZ.out; omega
      subst hki
      clear HZ
      obtain ⟨rfl, hc⟩ := hA i (by omega)
      obtain ⟨rfl, hc'⟩ := hB i (by omega)
      have g0 : wr.cell? ⟨b, off + i, none⟩ = some (.int .u32 (A i)) := by rw [hs.cell]; exact hc
      have g1 : wr.cell? ⟨b', off' + i, none⟩ = some (.int .u32 (B i)) := by rw [hs.cell]; exact hc'
      have g2 : wr.cell? ⟨c, o, none⟩ = some (.slice (some ⟨b, off, none⟩) m cap) := by rw [hs.cell]; exact hc0
      have hzi : (i : Int) < (m : Int) := by omega
      clear hc hc' hc0
      by_cases hab : A i = B i
      · have HAB : Hid (A i = B i) := hab
        rw [hab] at g0
        clear hab
        go_wp2
        go_quiet (fail)
        go_wp2
        go_roundw
        case rel =>
          refine ⟨i, (i : Int) - 1, by omega, rfl, rfl, hs.drewN _, fun j h1 h2 => ?_⟩
          by_cases e : j = i
          · subst e; exact HAB.out
          · exact HE.out j (by omega) h2
        case measure => simp [intOf]
      · have hne : ((A i : Int) == (B i : Int)) = false := by simp; omega
        by_cases hlt : A i < B i
        · have HC : Hid (cmpN (lv A m) (lv B m) = -1) := cmpN_lt (lv_top HA.out (i := i) (by omega) (fun j h1 h2 => HE.out j (by omega) h2) hlt)
          go_wp2
          go_quiet (fail)
          go_wp2
          have hs1 := hs.drewN nq
          obtain ⟨wq, hwq⟩ : ∃ wq, wq = wr.drewN nq := ⟨_, rfl⟩
          have q0 : wq.cell? ⟨b, off + i, none⟩ = some (.int .u32 (A i)) := by rw [hwq]; exact g0
          have q1 : wq.cell? ⟨b', off' + i, none⟩ = some (.int .u32 (B i)) := by rw [hwq]; exact g1
          have q2 : wq.cell? ⟨c, o, none⟩ = some (.slice (some ⟨b, off, none⟩) m cap) := by rw [hwq]; exact g2
          rw [← hwq] at hs1 ⊢
          clear hwq g0 g1 g2
          go_quiet ((go_at_call 124; exact Calls.quiet_of_same (cmpLimb_lt ((A i : Nat) : Int) ((B i : Nat) : Int) _ (by omega))))
          go_wp2
          go_ret
          exact ⟨ret_int HC.out.symm, hs1.drewN _⟩
        · have HC : Hid (cmpN (lv A m) (lv B m) = 1) := cmpN_gt (lv_top HB.out (i := i) (by omega) (fun j h1 h2 => (HE.out j (by omega) h2).symm) (by omega))
          have hgt : B i < A i := by omega
          go_wp2
          go_quiet (fail)
          go_wp2
          have hs1 := hs.drewN nq
          obtain ⟨wq, hwq⟩ : ∃ wq, wq = wr.drewN nq := ⟨_, rfl⟩
          have q0 : wq.cell? ⟨b, off + i, none⟩ = some (.int .u32 (A i)) := by rw [hwq]; exact g0
          have q1 : wq.cell? ⟨b', off' + i, none⟩ = some (.int .u32 (B i)) := by rw [hwq]; exact g1
          have q2 : wq.cell? ⟨c, o, none⟩ = some (.slice (some ⟨b, off, none⟩) m cap) := by rw [hwq]; exact g2
          rw [← hwq] at hs1 ⊢
          clear hwq g0 g1 g2
          go_quiet ((go_at_call 124; exact Calls.quiet_of_same (cmpLimb_gt ((A i : Nat) : Int) ((B i : Nat) : Int) _ (by omega))))
          go_wp2
          go_ret
          exact ⟨ret_int HC.out.symm, hs1.drewN _⟩
    · have hk0 : k = 0 := by have := HZ.out; omega
      subst hk0
      have HC : Hid (cmpN (lv A m) (lv B m) = 0) := cmpN_eq (lv_congr (fun j hj => HE.out j (by omega) hj))
      go_wp2
      go_ret
      exact ⟨ret_int HC.out.symm, hs⟩

end Go.Proofs.YtklkohdcilnchabDoor

namespace Go.Proofs.YtklkohdcilnchabDoor
open Go.RowKit

theorem or_add32 (a b : Nat) (hb : b < 4294967296) : a * 4294967296 ||| b = a * 4294967296 + b := by
  have := Nat.two_pow_add_eq_or_of_lt (i := 32) (b := b) (by omega) a
  rw [Nat.mul_comm] at this
  exact this.symm

theorem or64 (a b : Nat) (ha : a < 4294967296) (hb : b < 4294967296) : bits .or .u64 ((a : Int) * 4294967296) (b : Int) = (a : Int) * 4294967296 + (b : Int) := by
  have h := u64_or_nat (a * 4294967296) b (by omega) (by omega)
  rw [or_add32 a b hb] at h
  rw [show ((a * 4294967296 : Nat) : Int) = (a : Int) * 4294967296 by omega] at h
  rw [h]; omega

theorem wrap_u64_id (d : Nat) (h : d < 18446744073709551616) : IntKind.u64.wrap (d : Int) = (d : Int) := by rw [IntKind.wrap_u64]; omega
theorem wrap_u32_id (d : Nat) (h : d < 4294967296) : IntKind.u32.wrap (d : Int) = (d : Int) := by rw [IntKind.wrap_u32']; omega

theorem ll_one (R : Nat → Nat) (t : Nat) : ∀ u ∈ ll R t, u.oneCell' = true := by
  intro u hu
  obtain ⟨_, _, rfl⟩ := List.mem_map.1 hu
  rfl

theorem limbs_news {w : World} {x : Addr} {g off t : Nat} {R : Nat → Nat} (h : Limbs w (some x) g off t R) : ∀ j u, (ll R t)[j]? = some u → w.cell? (x.add j) = some u := by
  intro j u hu
  have hj : j < t := by have := (List.getElem?_eq_some_iff.1 hu).1; rwa [ll_len] at this
  rw [ll_get R t j hj] at hu
  have hx := Option.some.inj (h j hj).1
  rw [hx, Addr.add_lit, (h j hj).2]; exact hu

set_option maxHeartbeats 800000 in
set_option maxRecDepth 100000 in
theorem ownCopy_any (a : Option Addr) (b off n cap : Nat) (X : Nat → Nat) (w : World) (hn : n ≤ 4194304) (hnc : n ≤ cap) (hac : a = none → cap = 0) (hX : Limbs w a b off n X) :
    Calls Tryd.prog 72 #[.slice a n cap] w fun e w' => ∃ v, e = .returned v ∧ w'.ownsRow w.heap.size 49 1 v (tlen (nz X) n) (ll X (tlen (nz X) n)) ∧ w.Since w.heap.size w' := by
  obtain ⟨i0, hi, hz0, hz1, hz2⟩ := info_parts Tryd.info49
  have htl := tlen_le (nz X) n
  cases a with
  | none =>
    have hc := hac rfl
    have hn0 : n = 0 := by omega
    subst hc hn0
    clear hac
    go_enter Tryd.func72, Tryd.ntmps72
    go_wp2_with fail
    refine (readOnly_any none b off 0 0 X _ (by omega) (Nat.le_refl _) hX).mono ?_
    rintro e w1 ⟨rfl, hs⟩
    have e0 : tlen (nz X) 0 = 0 := rfl
    rw [e0]
    go_wp2_with (at_builtin; refine wpList_append_own_none rfl _ _ 50 rfl w.heap.size 49 i0 1 Tryd.underlying50 hi _ 0 [] rfl (World.ownsRow_nil _ _ _ _) rfl ?_)
    go_ret
    exact ⟨_, rfl, World.ownsRow_nil _ _ _ _, hs⟩
  | some x =>
    clear hac
    go_enter Tryd.func72, Tryd.ntmps72
    go_wp2_with fail
    refine (readOnly_any (some x) b off n cap X _ (by omega) hnc hX).mono ?_
    rintro e w1 ⟨rfl, hs⟩
    have hX1 := (hX.keep hs).take htl
    obtain ⟨t, ht⟩ : ∃ t, t = tlen (nz X) n := ⟨_, rfl⟩
    have HT := hide ht
    rw [← ht] at hX1 htl ⊢
    clear ht
    go_wp2_with (at_builtin; refine wpList_append_own _ rfl _ _ 50 rfl w.heap.size 49 i0 (.int .u32 0) 1 4 Tryd.underlying50 hi hz0 hz1 hz2 rfl (by decide) _ 0 [] rfl (World.ownsRow_nil _ _ _ _) x t cap (ll X t) rfl (by rw [ll_len]; omega) (limbs_news hX1) (ll_one X t) (by unfold maxLen; omega) (by omega) hs.size ?_)
    intro v' w2 hown hgrow hnil
    have hown : w2.ownsRow w.heap.size 49 1 v' (tlen (nz X) n) (ll X (tlen (nz X) n)) := by rw [← HT.out]; exact hown
    have hs2 : w.Since w.heap.size w2 := hs.grown hgrow hs.size (fun k hk => by simp [Value.ownBlock] at hk)
    clear hgrow hnil
    go_wp2
    go_ret
    exact ⟨_, rfl, hown, hs2⟩

theorem Marked.drew {w w' : World} {b : Nat} (h : Marked w w' b) : Marked w w'.drew b := ⟨h.os, h.tape, h.output, h.size, h.other, h.frozen⟩
theorem Marked.drewN {w w' : World} {b : Nat} (h : Marked w w' b) (n : Nat) : Marked w (w'.drewN n) b := ⟨h.os, h.tape, h.output, h.size, h.other, h.frozen⟩
theorem Marked.trans {w w' w'' : World} {b : Nat} (h : Marked w w' b) (k : Marked w' w'' b) : Marked w w'' b :=
  ⟨k.os.trans h.os, k.tape.trans h.tape, k.output.trans h.output, k.size.trans h.size, fun j hj => (k.other j hj).trans (h.other j hj), fun o => (k.frozen o).trans (h.frozen o)⟩
theorem Marked.same {w w' w'' : World} {b : Nat} (h : Marked w w' b) (k : Same w' w'') : Marked w w'' b :=
  ⟨k.os.trans h.os, k.tape.trans h.tape, k.output.trans h.output, k.size.trans h.size, fun j hj => by rw [k.heap]; exact h.other j hj, fun o => by rw [k.frozen]; exact h.frozen o⟩

/-- One limb of a slice is written. -/
theorem Limbs.put {w : World} {a : Option Addr} {b n i : Nat} {Q : Nat → Nat} (h : Limbs w a b 0 n Q) (v : Nat) : Limbs (w.setCell ⟨b, i, none⟩ (.int .u32 v)) a b 0 n (upd Q i v) := by
  intro j hj
  have hj' := h j hj
  refine ⟨hj'.1, ?_⟩
  by_cases e : j = i
  · subst e
    rw [upd_same, Nat.zero_add]
    have := hj'.2
    rw [Nat.zero_add] at this
    exact World.cell?_setCell_same _ _ _ this
  · rw [upd_other _ _ _ _ e, World.cell?_setCell_other _ _ _ _ (fun h => by have := congrArg Addr.off h; simp at this; omega)]
    exact hj'.2

set_option maxHeartbeats 1600000 in
set_option maxRecDepth 100000 in
theorem divideByLimb_any (c o : Nat) (a : Option Addr) (b n cap d : Nat) (X : Nat → Nat) (w : World) (hn : n ≤ 281474976710656) (hnc : n ≤ cap) (hc0 : w.cell? ⟨c, o, none⟩ = some (.slice a n cap)) (hf0 : w.frozen? ⟨c, o, none⟩ = false)
    (hX : Limbs w a b 0 n X) (hXl : ∀ j, j < n → X j < 4294967296) (hf : 0 < n → ∀ o, w.frozen? ⟨b, o, none⟩ = false) (hcb : c ≠ b) (hd : 0 < d) (hdl : d < 4294967296) :
    Calls Tryd.prog 99 #[.pointer (some ⟨c, o, none⟩), .int .u32 d] w fun e w' => e = .returned (.int .u32 ((lv X n % d : Nat) : Int)) ∧ ∃ w2 Q, Marked w w2 b ∧ Limbs w2 a b 0 n Q ∧ (∀ j, j < n → Q j < 4294967296) ∧
      lv Q n = lv X n / d ∧ w' = w2.setCell ⟨c, o, none⟩ (.slice a (tlen (nz Q) n) cap) := by
  have HXl := hide hXl
  clear hXl
  go_enter Tryd.func99, Tryd.ntmps99
  go_wp2
  go_loopw [5, 6] (fun r t wr => ∃ (k rr : Nat) (z : Int) (Q : Nat → Nat), k ≤ n ∧ t = .int .i64 z ∧ r = .int .u64 rr ∧ rr < d ∧ Hid (z = k - 1) ∧ Marked w wr b ∧ Limbs wr a b 0 n Q ∧ Hid (LimbRel X Q n k d rr)) (fun _ t _ => (intOf t + 1).toNat)
  case atStart => exact ⟨n, 0, (n : Int) - 1, X, Nat.le_refl _, rfl, rfl, hd, rfl, Marked.refl _ _, hX, limbRel_start hd HXl.out⟩
  case round =>
    obtain ⟨k, rr, z, Q, hk, rfl, rfl, hrr, HZ, hs, hQ, HR⟩ := hrel
    by_cases hz : 0 ≤ z
    · obtain ⟨i, rfl⟩ := Int.eq_ofNat_of_zero_le hz
      have hki : k = i + 1 := by have := HZ.out; omega
      subst hki
      clear HZ
      obtain ⟨rfl, hc⟩ := hQ i (by omega)
      have hxi : Q i < 4294967296 := HR.out.2.2.2 i (by omega)
      have HS := hide (limbRel_step HR.out (by omega) (HXl.out i (by omega)))
      rw [← HR.out.2.2.1 i (by omega)] at HS
      have g0 : wr.cell? ⟨b, i, none⟩ = some (.int .u32 (Q i)) := by simpa using hc
      have g1 : wr.frozen? ⟨b, i, none⟩ = false := by rw [hs.frozen]; exact hf (by omega) i
      have g2 : wr.cell? ⟨c, o, none⟩ = some (.slice (some ⟨b, 0, none⟩) n cap) := by rw [hs.cell (a := ⟨c, o, none⟩) hcb]; exact hc0
      have hni : (i : Int) < (n : Int) := by omega
      have hor := or64 rr (Q i) (by omega) hxi
      obtain ⟨x, hx⟩ : ∃ x, x = Q i := ⟨_, rfl⟩
      rw [← hx] at HS hxi g0 hor
      clear hc hx
      go_wp2
      clear hor
      obtain ⟨p, hp⟩ : ∃ p, p = rr * 4294967296 + x := ⟨_, rfl⟩
      have hpi : (rr : Int) * 4294967296 + (x : Int) = (p : Int) := by omega
      have hpl : p < 18446744073709551615 := by omega
      rw [← hp] at HS
      rw [hpi]
      clear hp hpi
      obtain ⟨q, hq⟩ : ∃ q, q = p / d := ⟨_, rfl⟩
      have HQ := hide hq
      have hql : q < 4294967296 := by rw [hq]; exact HS.out.2
      have w1 : IntKind.u64.wrap (d : Int) = (d : Int) := wrap_u64_id d (by omega)
      have w2 : IntKind.u64.wrap ((p : Int) / (d : Int)) = (q : Int) := by rw [← Int.natCast_ediv, ← hq]; exact wrap_u64_id q (by omega)
      have w3 : IntKind.u32.wrap (q : Int) = (q : Int) := wrap_u32_id q hql
      have hd0 : ¬ (d : Int) = 0 := by omega
      clear hq
      go_region
      clear w1 w2 w3
      go_wp2
      go_roundw
      case rel =>
        go_light
        have HS2 := HS.out.1
        rw [← HQ.out] at HS2
        refine ⟨i, p % d, (i : Int) - 1, upd Q i q, by omega, rfl, congrArg (Value.int .u64) (by rw [Int.natCast_emod]), Nat.mod_lt _ hd, rfl, ?_, ?_, HS2⟩
        · first | exact (hs.setCell _ _).drew | exact hs.drew.setCell _ _
        · exact hQ.put q
      case measure => simp [intOf]
    · have hk0 : k = 0 := by have := HZ.out; omega
      subst hk0
      have g2 : wr.cell? ⟨c, o, none⟩ = some (.slice a n cap) := by rw [hs.cell (a := ⟨c, o, none⟩) hcb]; exact hc0
      have g3 : wr.frozen? ⟨c, o, none⟩ = false := by rw [hs.frozenO (a := ⟨c, o, none⟩) hcb]; exact hf0
      obtain ⟨v1, v2⟩ := limbRel_end HR.out
      have HV1 := hide v1
      have HV2 := hide v2
      clear v1 v2
      go_wp2_with fail
      refine (trimAt_any c o a b 0 n cap Q _ hn hnc g2 g3 hQ).mono ?_
      rintro e w1 ⟨rfl, rfl⟩
      have hrl : rr < 4294967296 := by omega
      go_wp2
      go_ret
      exact ⟨ret_int (a := (rr : Int)) (congrArg (fun x : Nat => (x : Int)) HV2.out), wr, Q, hs, hQ, HR.out.2.2.2, HV1.out, rfl⟩

end Go.Proofs.YtklkohdcilnchabDoor

namespace Go.Proofs.YtklkohdcilnchabDoor
open Go.RowKit

theorem and_low (m : Nat) (h : m < 18446744073709551616) : bits .and .u64 (m : Int) 4294967295 = ((m % 4294967296 : Nat) : Int) := by
  have := u64_and_nat m 4294967295 h (by omega)
  rw [show (4294967295 : Nat) = 2 ^ 32 - 1 by rfl, Nat.and_two_pow_sub_one_eq_mod] at this
  exact this

theorem sub_wrap (x lo : Nat) (hx : x < 4294967296) (hl : lo < 4294967296) (h : x < lo) : IntKind.u64.wrap ((x : Int) - (lo : Int)) = ((18446744073709551616 + x - lo : Nat) : Int) := by
  rw [IntKind.wrap_u64]; omega

theorem ret_bool {a b : Bool} (h : a = b) : Ending.returned (.bool a) = .returned (.bool b) := by rw [h]

set_option maxHeartbeats 3200000 in
set_option maxRecDepth 100000 in
theorem takeTimes_any (c o b nn cap b' dl cap' g p : Nat) (W Y : Nat → Nat) (w : World) (hnn : nn ≤ 16777216) (hg : g ≤ 4294967295) (hat : p + dl < nn)
    (hc0 : w.cell? ⟨c, o, none⟩ = some (.slice (some ⟨b, 0, none⟩) nn cap)) (hf : ∀ o, w.frozen? ⟨b, o, none⟩ = false) (hcb : c ≠ b) (hbb : b' ≠ b)
    (hW : Limbs w (some ⟨b, 0, none⟩) b 0 nn W) (hY : Limbs w (some ⟨b', 0, none⟩) b' 0 dl Y) (hWl : ∀ k, W k < 4294967296) (hYl : ∀ j, j < dl → Y j < 4294967296) :
    Calls Tryd.prog 134 #[.pointer (some ⟨c, o, none⟩), .slice (some ⟨b', 0, none⟩) dl cap', .int .u32 g, .int .i64 p] w fun e w' => ∃ (W' : Nat → Nat) (bo : Bool), e = .returned (.bool bo) ∧ Marked w w' b ∧ Limbs w' (some ⟨b, 0, none⟩) b 0 nn W' ∧
      lv (fun t => W' (p + t)) (dl + 1) + g * lv Y dl = lv (fun t => W (p + t)) (dl + 1) + bo.toNat * 2 ^ (32 * (dl + 1)) ∧ (∀ k, k < p ∨ p + dl + 1 ≤ k → W' k = W k) ∧ ∀ k, W' k < 4294967296 := by
  have HY := hide hYl
  have HW := hide hWl
  clear hYl hWl
  go_enter Tryd.func134, Tryd.ntmps134
  go_wp2
  go_loopw [9, 17] (fun q t wr => ∃ (i ow : Nat) (V : Nat → Nat), i ≤ dl ∧ t = .int .i64 i ∧ q = .int .u64 ow ∧ ow ≤ 4294967295 ∧ Marked w wr b ∧ Limbs wr (some ⟨b, 0, none⟩) b 0 nn V ∧ Hid (TakeRel W V Y g p i ow)) (fun _ t _ => dl - (intOf t).toNat)
  case atStart => exact ⟨0, 0, W, Nat.zero_le _, rfl, rfl, by omega, Marked.refl _ _, hW, take_start HW.out Y g p⟩
  case round =>
    obtain ⟨i, ow, V, hi, rfl, rfl, how, hs, hV, HR⟩ := hrel
    have q0 : wr.cell? ⟨c, o, none⟩ = some (.slice (some ⟨b, 0, none⟩) nn cap) := by rw [hs.cell (a := ⟨c, o, none⟩) hcb]; exact hc0
    by_cases hlt : i < dl
    · have g0 : wr.cell? ⟨b', i, none⟩ = some (.int .u32 (Y i)) := by rw [hs.cell (a := ⟨b', i, none⟩) hbb]; simpa using (hY i hlt).2
      have g1 : wr.cell? ⟨b, p + i, none⟩ = some (.int .u32 (V (p + i))) := by simpa using (hV (p + i) (by omega)).2
      have g2 : wr.frozen? ⟨b, p + i, none⟩ = false := by rw [hs.frozen]; exact hf _
      have hy := HY.out i hlt
      have hx := HR.out.2.2.2 (p + i)
      obtain ⟨hml, hst⟩ := take_step HR.out hg hy rfl rfl
      have HS := hide hst
      clear hst
      obtain ⟨y, ey⟩ : ∃ y, y = Y i := ⟨_, rfl⟩
      obtain ⟨x, ex⟩ : ∃ y, y = V (p + i) := ⟨_, rfl⟩
      rw [← ey] at g0 hy hml HS
      rw [← ex] at g1 hx HS
      clear ey ex
      obtain ⟨m, em⟩ : ∃ m, m = g * y + ow := ⟨_, rfl⟩
      rw [← em] at hml HS
      have mi : (g : Int) * (y : Int) + (ow : Int) = (m : Int) := by rw [em]; simp
      have mi0 : (0 : Int) ≤ (g : Int) * (y : Int) := by rw [← Int.natCast_mul]; omega
      have hml2 : (m : Int) ≤ 18446744073709551615 := by omega
      have han := and_low m hml
      obtain ⟨lo, elo⟩ : ∃ lo, lo = m % 4294967296 := ⟨_, rfl⟩
      rw [← elo] at han HS
      have hlo : lo < 4294967296 := by omega
      clear em elo
      by_cases hb : x < lo
      · have hsw := sub_wrap x lo hx hlo hb
        obtain ⟨dd, edd⟩ : ∃ dd, dd = 18446744073709551616 + x - lo := ⟨_, rfl⟩
        rw [← edd] at hsw
        have hdd : dd ≤ 18446744073709551615 := by omega
        have HE := hide edd
        clear edd
        go_wp2
        go_roundw
        case rel =>
          go_light
          have HS := HS.out
          rw [if_pos hb] at HS
          rw [show (dd : Int) % 4294967296 = (((x + 4294967296 - lo) % 4294967296 : Nat) : Int) from by have := HE.out; omega]
          exact ⟨i + 1, m / 4294967296 + 1, _, by omega, by go_num, congrArg (Value.int .u64) (by have := HE.out; omega), HS.2.1, hs.setCell _ _, hV.put _, HS⟩
        case measure => simp [intOf]; omega
      · go_wp2
        go_roundw
        case rel =>
          go_light
          have HS := HS.out
          rw [if_neg hb] at HS
          rw [show (x : Int) - (lo : Int) = (((x + 4294967296 - lo) % 4294967296 : Nat) : Int) from by omega]
          exact ⟨i + 1, m / 4294967296 + 0, _, by omega, by go_num, congrArg (Value.int .u64) (by omega), HS.2.1, hs.setCell _ _, hV.put _, HS⟩
        case measure => simp [intOf]; omega
    · have e : i = dl := by omega
      subst e
      have g1 : wr.cell? ⟨b, p + i, none⟩ = some (.int .u32 (V (p + i))) := by simpa using (hV (p + i) (by omega)).2
      have g2 : wr.frozen? ⟨b, p + i, none⟩ = false := by rw [hs.frozen]; exact hf _
      have hx := HR.out.2.2.2 (p + i)
      have HS := hide (take_end HR.out rfl)
      obtain ⟨x, ex⟩ : ∃ y, y = V (p + i) := ⟨_, rfl⟩
      rw [← ex] at g1 hx HS
      clear ex
      by_cases hb : x < ow
      · have hsw := sub_wrap x ow hx (by omega) hb
        obtain ⟨dd, edd⟩ : ∃ dd, dd = 18446744073709551616 + x - ow := ⟨_, rfl⟩
        rw [← edd] at hsw
        have hdd : dd ≤ 18446744073709551615 := by omega
        have hdg : 9223372036854775808 ≤ dd := by omega
        have HE := hide edd
        clear edd
        go_wp2
        go_ret
        go_light
        have HS := HS.out
        rw [if_pos hb] at HS
        rw [show (dd : Int) % 4294967296 = (((x + 4294967296 - ow) % 4294967296 : Nat) : Int) from by have := HE.out; omega]
        refine ⟨_, true, ?_, hs.setCell _ _, hV.put _, HS.1, HS.2.1, HS.2.2⟩
        exact ret_bool (by simp only [bne_iff_ne]; omega)
      · go_wp2
        go_ret
        go_light
        have HS := HS.out
        rw [if_neg hb] at HS
        rw [show (x : Int) - (ow : Int) = (((x + 4294967296 - ow) % 4294967296 : Nat) : Int) from by omega]
        refine ⟨_, false, ?_, hs.setCell _ _, hV.put _, HS.1, HS.2.1, HS.2.2⟩
        exact ret_bool (by simp only [bne_eq_false_iff_eq]; omega)

set_option maxHeartbeats 3200000 in
set_option maxRecDepth 100000 in
theorem giveBack_any (c o b nn cap b' dl cap' p : Nat) (W Y : Nat → Nat) (w : World) (hnn : nn ≤ 16777216) (hat : p + dl < nn)
    (hc0 : w.cell? ⟨c, o, none⟩ = some (.slice (some ⟨b, 0, none⟩) nn cap)) (hf : ∀ o, w.frozen? ⟨b, o, none⟩ = false) (hcb : c ≠ b) (hbb : b' ≠ b)
    (hW : Limbs w (some ⟨b, 0, none⟩) b 0 nn W) (hY : Limbs w (some ⟨b', 0, none⟩) b' 0 dl Y) (hWl : ∀ k, W k < 4294967296) (hYl : ∀ j, j < dl → Y j < 4294967296) :
    Calls Tryd.prog 135 #[.pointer (some ⟨c, o, none⟩), .slice (some ⟨b', 0, none⟩) dl cap', .int .i64 p] w fun e w' => ∃ (W' : Nat → Nat) (cy : Nat), e = .returned (.tuple #[]) ∧ Marked w w' b ∧ Limbs w' (some ⟨b, 0, none⟩) b 0 nn W' ∧
      lv (fun t => W' (p + t)) (dl + 1) + cy * 2 ^ (32 * (dl + 1)) = lv (fun t => W (p + t)) (dl + 1) + lv Y dl ∧ (∀ k, k < p ∨ p + dl + 1 ≤ k → W' k = W k) ∧ (∀ k, W' k < 4294967296) ∧ cy ≤ 1 := by
  have HY := hide hYl
  have HW := hide hWl
  clear hYl hWl
  go_enter Tryd.func135, Tryd.ntmps135
  go_wp2
  go_loopw [6, 12] (fun q t wr => ∃ (i cy : Nat) (V : Nat → Nat), i ≤ dl ∧ t = .int .i64 i ∧ q = .int .u64 cy ∧ cy ≤ 1 ∧ Marked w wr b ∧ Limbs wr (some ⟨b, 0, none⟩) b 0 nn V ∧ Hid (GiveRel W V Y p i cy)) (fun _ t _ => dl - (intOf t).toNat)
  case atStart => exact ⟨0, 0, W, Nat.zero_le _, rfl, rfl, by omega, Marked.refl _ _, hW, give_start HW.out Y p⟩
  case round =>
    obtain ⟨i, cy, V, hi, rfl, rfl, how, hs, hV, HR⟩ := hrel
    have q0 : wr.cell? ⟨c, o, none⟩ = some (.slice (some ⟨b, 0, none⟩) nn cap) := by rw [hs.cell (a := ⟨c, o, none⟩) hcb]; exact hc0
    by_cases hlt : i < dl
    · have g0 : wr.cell? ⟨b', i, none⟩ = some (.int .u32 (Y i)) := by rw [hs.cell (a := ⟨b', i, none⟩) hbb]; simpa using (hY i hlt).2
      have g1 : wr.cell? ⟨b, p + i, none⟩ = some (.int .u32 (V (p + i))) := by simpa using (hV (p + i) (by omega)).2
      have g2 : wr.frozen? ⟨b, p + i, none⟩ = false := by rw [hs.frozen]; exact hf _
      have hy := HY.out i hlt
      have hx := HR.out.2.2.2 (p + i)
      have HS := hide (give_step HR.out hy rfl rfl)
      obtain ⟨y, ey⟩ : ∃ y, y = Y i := ⟨_, rfl⟩
      obtain ⟨x, ex⟩ : ∃ y, y = V (p + i) := ⟨_, rfl⟩
      rw [← ey] at g0 hy HS
      rw [← ex] at g1 hx HS
      clear ey ex
      go_wp2
      go_roundw
      case rel =>
        go_light
        have HS := HS.out
        rw [show ((x : Int) + (y : Int) + (cy : Int)) % 4294967296 = (((x + y + cy) % 4294967296 : Nat) : Int) from by omega]
        exact ⟨i + 1, (x + y + cy) / 4294967296, _, by omega, by go_num, congrArg (Value.int .u64) (by omega), HS.2.1, hs.setCell _ _, hV.put _, HS⟩
      case measure => simp [intOf]; omega
    · have e : i = dl := by omega
      subst e
      have g1 : wr.cell? ⟨b, p + i, none⟩ = some (.int .u32 (V (p + i))) := by simpa using (hV (p + i) (by omega)).2
      have g2 : wr.frozen? ⟨b, p + i, none⟩ = false := by rw [hs.frozen]; exact hf _
      have hx := HR.out.2.2.2 (p + i)
      have HS := hide (give_end HR.out rfl)
      obtain ⟨x, ex⟩ : ∃ y, y = V (p + i) := ⟨_, rfl⟩
      rw [← ex] at g1 hx HS
      clear ex
      go_wp2
      go_end0
      go_light
      have HS := HS.out
      rw [show ((x : Int) + (cy : Int)) % 4294967296 = (((x + cy) % 4294967296 : Nat) : Int) from by omega]
      exact ⟨_, (x + cy) / 4294967296, rfl, hs.setCell _ _, hV.put _, HS.1, HS.2.1, HS.2.2.1, HS.2.2.2⟩

end Go.Proofs.YtklkohdcilnchabDoor

namespace Go.Proofs.YtklkohdcilnchabDoor
open Go.RowKit

theorem shl_wide (x p : Nat) (h : x * 2 ^ p < 18446744073709551616) : IntKind.u64.wrap ((x : Int) * 2 ^ p) = ((x * 2 ^ p : Nat) : Int) := by
  have e : (x : Int) * 2 ^ p = ((x * 2 ^ p : Nat) : Int) := by rw [Int.natCast_mul, Int.natCast_pow]; rfl
  rw [e]; exact wrap_u64_id _ h

theorem shl_low (x p s0 : Nat) (h : x * 2 ^ p < 18446744073709551616) (hp : p < 32) (hs : s0 < 2 ^ p) :
    bits .or .u32 (s0 : Int) (IntKind.u64.wrap ((x : Int) * 2 ^ p) % 4294967296) = ((x * 2 ^ p % 4294967296 + s0 : Nat) : Int) := by
  have h2 := pow_le32 p (by omega)
  rw [shl_wide x p h, show ((x * 2 ^ p : Nat) : Int) % 4294967296 = ((x * 2 ^ p % 4294967296 : Nat) : Int) by omega, u32_or_nat _ _ (by omega) (Nat.mod_lt _ (by omega)), or_low p _ _ (low_mod x p (by omega)) hs]

theorem shl_high (x p : Nat) (h : x * 2 ^ p < 18446744073709551616) : IntKind.u64.wrap ((x : Int) * 2 ^ p) / 4294967296 % 4294967296 = ((x * 2 ^ p / 4294967296 : Nat) : Int) := by
  rw [shl_wide x p h]; omega

set_option maxHeartbeats 3200000 in
set_option maxRecDepth 100000 in
theorem shiftLeft_any (c o : Nat) (a : Option Addr) (b off n cap whole p : Nat) (X : Nat → Nat) (w : World) (hn : n ≤ 4194304) (hw : whole ≤ 16777216) (hp : p < 32) (hX : Limbs w a b off n X)
    (hXl : ∀ j, j < n → X j < 4294967296) (hc0 : w.cell? ⟨c, o, none⟩ = some (.slice a n cap)) (hf0 : w.frozen? ⟨c, o, none⟩ = false) :
    Calls Tryd.prog 107 #[.pointer (some ⟨c, o, none⟩), .int .i64 ((32 * whole + p : Nat) : Int)] w fun e w' => e = .returned (.tuple #[]) ∧ ∃ w2 S, w.Since w.heap.size w2 ∧ w2.rowIs w.heap.size 49 (n + whole + 1) (fun j => .int .u32 (S j : Nat)) ∧
      (∀ k, S k < 4294967296) ∧ lv S (n + whole + 1) = lv X n * 2 ^ (32 * whole + p) ∧ w' = w2.setCell ⟨c, o, none⟩ (.slice (some ⟨w.heap.size, 0, none⟩) (tlen (nz S) (n + whole + 1)) (n + whole + 1)) := by
  have hmk := run_make_row' (P := Tryd.prog) 50 49 (.int .u32 0) 4 Tryd.underlying50 Tryd.info49 rfl .i64 .i64 (n + whole + 1) (by omega) (by omega)
  have hmkc : ((n + whole + 1 : Nat) : Int) = (n : Int) + (whole : Int) + 1 := by omega
  rw [hmkc] at hmk
  clear hmkc
  have hcl : c < w.heap.size := World.block_lt_of_cell? _ _ hc0
  have hq1 : ((32 * whole + p : Nat) : Int) / 32 = (whole : Int) := by omega
  have hq2 : ((32 * whole + p : Nat) : Int) % 32 = (p : Int) := by omega
  obtain ⟨cnt, hcnt⟩ : ∃ q, q = 32 * whole + p := ⟨_, rfl⟩
  have HC := hide hcnt
  rw [← hcnt] at hq1 hq2 ⊢
  have hcb : cnt ≤ 536870943 := by omega
  clear hcnt
  go_enter Tryd.func107, Tryd.ntmps107
  go_wp2
  rw [hq2]
  clear hmk hq1 hq2
  go_loopw [26] (fun q wr => ∃ (i : Nat) (S : Nat → Nat), i ≤ n ∧ q = .int .i64 i ∧ w.Since w.heap.size wr ∧ wr.rowIs w.heap.size 49 (n + whole + 1) (fun k => .int .u32 (S k)) ∧ wr.rowIs (w.heap.size + 1) 50 1 (fun _ => .slice (some ⟨w.heap.size, 0, none⟩) (n + whole + 1) (n + whole + 1)) ∧
     Hid (ShlRel X S whole p i)) (fun q _ => n - (intOf q).toNat)
  case atStart =>
    refine ⟨0, fun _ => 0, Nat.zero_le _, rfl, ((World.Since.refl _ _).alloc (Nat.le_refl _) _).alloc (by simp) _, ((World.rowIs_made w _ _ _).alloc _), ?_, shlRel_start X whole p⟩
    have := World.rowIs_alloc (w.alloc (Obj.cells (madeCells #[Value.int IntKind.u32 0] (n + whole + 1)) 49)) #[Value.slice (some ⟨w.heap.size, 0, none⟩) (n + whole + 1) (n + whole + 1)] 50 (fun _ => .slice (some ⟨w.heap.size, 0, none⟩) (n + whole + 1) (n + whole + 1)) (fun i hi => by simp at hi; subst hi; rfl)
    simpa using this
  case round =>
    obtain ⟨i, S, hin, rfl, hs, hr, hbox, HR⟩ := hrel
    have b0 := hbox.cell (i := 0) (by omega)
    by_cases hlt : i < n
    · obtain ⟨rfl, hc⟩ := hX i hlt
      have g0 : wr.cell? ⟨b, off + i, none⟩ = some (.int .u32 (X i)) := by rw [hs.cell (a := ⟨b, off + i, none⟩) (hX.lt (by omega))]; exact hc
      clear hc
      have hxi := hXl i hlt
      have g1 := hr.cell (i := i + whole) (by omega)
      have g2 := hr.frozen (i + whole)
      have g3 := hr.cell (i := i + whole + 1) (by omega)
      have g4 := hr.frozen (i + whole + 1)
      have HST := hide (shlRel_step HR.out hp hxi)
      have hs0 := HR.out.2.1
      obtain ⟨x, hx⟩ : ∃ x, x = X i := ⟨_, rfl⟩
      obtain ⟨s0, hs1⟩ : ∃ s0, s0 = S (i + whole) := ⟨_, rfl⟩
      have hxp : x * 2 ^ p < 18446744073709551616 := by
        have h1 : x * 2 ^ p ≤ 4294967295 * 2 ^ p := Nat.mul_le_mul_right _ (by omega)
        have h2 : 2 ^ p ≤ 4294967296 := pow_le32 p (by omega)
        omega
      rw [← hx] at g0 hxi HST
      rw [← hs1] at g1 HST hs0
      clear hx hs1 HR
      go_wp2
      go_roundw
      case rel =>
        go_light
        rw [shl_low x p s0 hxp hp hs0, shl_high x p hxp]
        refine ⟨i + 1, _, by omega, by go_num, (hs.setCell (Nat.le_refl _) _).setCell (Nat.le_refl _) _, ((hr.set (i + whole) _).set (i + whole + 1) _).congr (fun k _ => ?_), (hbox.setOther (by simp) _).setOther (by simp) _, HST⟩
        by_cases e1 : k = i + whole + 1
        · simp [upd, e1]
        · by_cases e2 : k = i + whole
          · simp [upd, e2]
          · simp [upd, e1, e2]
      case measure => simp [intOf]; omega
    · have e : i = n := by omega
      subst e
      have b1 := hbox.frozen 0
      have HSv := HR.out.1
      have HSl := hide HR.out.2.2
      rw [← HC.out] at HSv
      have HSv := hide HSv
      go_wp2_with fail
      refine (trimAt_any (w.heap.size + 1) 0 _ w.heap.size 0 (i + whole + 1) (i + whole + 1) S _ (by omega) (Nat.le_refl _) b0 b1 (limbs_row hr)).mono ?_
      rintro e w1 ⟨rfl, rfl⟩
      have q0 : wr.frozen? ⟨c, o, none⟩ = false := by rw [hs.frozen (a := ⟨c, o, none⟩) hcl]; exact hf0
      have q1 : wr.cell? ⟨c, o, none⟩ = some (.slice a i cap) := by rw [hs.cell (a := ⟨c, o, none⟩) hcl]; exact hc0
      have q2 : c ≠ w.heap.size + 1 := by omega
      go_wp2
      go_end0
      exact ⟨rfl, _, S, hs.setCell (Nat.le_succ _) _, hr.setOther (by simp) _, HSl.out, HSv.out, rfl⟩

end Go.Proofs.YtklkohdcilnchabDoor

namespace Go.Proofs.YtklkohdcilnchabDoor
open Go.RowKit

/-- F below i, X from i on. -/
def mix (F X : Nat → Nat) (i : Nat) : Nat → Nat := fun j => if j < i then F j else X j
theorem mix_lt (F X : Nat → Nat) (i j : Nat) (h : j < i) : mix F X i j = F j := by simp [mix, h]
theorem mix_ge (F X : Nat → Nat) (i j : Nat) (h : i ≤ j) : mix F X i j = X j := by simp [mix]; omega
theorem mix_upd (F X : Nat → Nat) (i v : Nat) (h : v = F i) (j : Nat) : upd (mix F X i) i v j = mix F X (i + 1) j := by
  by_cases e : j = i
  · subst e; rw [upd_same, mix_lt _ _ _ _ (by omega), h]
  · rw [upd_other _ _ _ _ e]
    by_cases e2 : j < i
    · rw [mix_lt _ _ _ _ e2, mix_lt _ _ _ _ (by omega)]
    · rw [mix_ge _ _ _ _ (by omega), mix_ge _ _ _ _ (by omega)]

theorem shr_val (v p : Nat) : (v : Int) / 2 ^ p % 4294967296 = ((v / 2 ^ p % 4294967296 : Nat) : Int) := by
  rw [Int.natCast_emod, Int.natCast_ediv, Int.natCast_pow]; rfl

theorem Limbs.setOther {w : World} {a : Option Addr} {b off n : Nat} {X : Nat → Nat} (h : Limbs w a b off n X) {c o : Nat} (hne : c ≠ b) (v : Value) : Limbs (w.setCell ⟨c, o, none⟩ v) a b off n X :=
  fun j hj => ⟨(h j hj).1, by rw [World.cell?_setCell_other _ _ _ _ (fun h => by have := congrArg Addr.block h; simp at this; omega)]; exact (h j hj).2⟩

theorem setCell_twice (w : World) (b o : Nat) (u v : Value) : (w.setCell ⟨b, o, none⟩ u).setCell ⟨b, o, none⟩ v = w.setCell ⟨b, o, none⟩ v := by
  unfold World.setCell
  congr 1
  apply Array.ext_getElem?
  intro i
  simp only [Array.getElem?_modify]
  split
  · cases w.heap[i]? with
    | none => rfl
    | some x => cases x <;> simp
  · rfl

theorem or64b (a b : Nat) (ha : a < 4294967296) (hb : b < 4294967296) : bits .or .u64 (a : Int) ((b : Int) * 4294967296) = (a : Int) + (b : Int) * 4294967296 := by
  have h := u64_or_nat a (b * 4294967296) (by omega) (by omega)
  rw [Nat.or_comm, or_add32 b a ha] at h
  rw [show ((b * 4294967296 : Nat) : Int) = (b : Int) * 4294967296 by omega] at h
  rw [h]; omega

set_option maxHeartbeats 3200000 in
set_option maxRecDepth 100000 in
theorem shiftRight_any (c o : Nat) (b n cap whole p : Nat) (X : Nat → Nat) (w : World) (hn : n ≤ 16777216) (hnc : n ≤ cap) (hw : whole < n) (hp : p < 32) (hX : Limbs w (some ⟨b, 0, none⟩) b 0 n X)
    (hXl : ∀ j, j < n → X j < 4294967296) (hc0 : w.cell? ⟨c, o, none⟩ = some (.slice (some ⟨b, 0, none⟩) n cap)) (hf0 : w.frozen? ⟨c, o, none⟩ = false) (hf : ∀ o, w.frozen? ⟨b, o, none⟩ = false) (hcb : c ≠ b) :
    Calls Tryd.prog 105 #[.pointer (some ⟨c, o, none⟩), .int .i64 ((32 * whole + p : Nat) : Int)] w fun e w' => e = .returned (.tuple #[]) ∧ ∃ w2 S k, Marked w w2 b ∧ Limbs w2 (some ⟨b, 0, none⟩) b 0 k S ∧
      k ≤ n ∧ (∀ j, j < k → S j < 4294967296) ∧ lv S k = lv X n / 2 ^ (32 * whole + p) ∧ w' = w2.setCell ⟨c, o, none⟩ (.slice (some ⟨b, 0, none⟩) (tlen (nz S) k) cap) := by
  have hq1 : ((32 * whole + p : Nat) : Int) / 32 = (whole : Int) := by omega
  have hq2 : ((32 * whole + p : Nat) : Int) % 32 = (p : Int) := by omega
  obtain ⟨cnt, hcnt⟩ : ∃ q, q = 32 * whole + p := ⟨_, rfl⟩
  have HC := hide hcnt
  rw [← hcnt] at hq1 hq2 ⊢
  have hcb2 : cnt ≤ 536870943 := by omega
  clear hcnt
  go_enter Tryd.func105, Tryd.ntmps105
  go_wp2
  rw [hq2]
  clear hq1 hq2
  have hmin : ¬ (n : Int) < (whole : Int) := by omega
  go_region
  go_wp2
  obtain ⟨K, hK⟩ : ∃ K, K = n - whole := ⟨_, rfl⟩
  have HK : Hid (K = n - whole) := hK
  have hKn : K + whole = n := by omega
  rw [← hK]
  clear hK hmin
  go_loopw [26] (fun q wr => ∃ (i : Nat), i ≤ K ∧ q = .int .i64 i ∧ Marked w wr b ∧ Limbs wr (some ⟨b, 0, none⟩) b 0 n (mix (shrLimb (fun t => X (whole + t)) K p) X i)) (fun q _ => K - (intOf q).toNat)
  case atStart => exact ⟨0, Nat.zero_le _, rfl, (Marked.refl _ _).drew, hX.congr (fun j _ => (mix_ge _ _ _ _ (by omega)).symm)⟩
  case round =>
    obtain ⟨i, hi, rfl, hs, hL⟩ := hrel
    have g2 : wr.cell? ⟨c, o, none⟩ = some (.slice (some ⟨b, 0, none⟩) n cap) := by rw [hs.cell (a := ⟨c, o, none⟩) hcb]; exact hc0
    by_cases hlt : i < K
    · have g0 : wr.cell? ⟨b, whole + i, none⟩ = some (.int .u32 (X (whole + i))) := by
        have := (hL (whole + i) (by omega)).2
        rw [mix_ge _ _ _ _ (by omega), Nat.zero_add] at this
        exact this
      have g1 : wr.cell? ⟨b, i, none⟩ = some (.int .u32 (X i)) := by
        have := (hL i (by omega)).2
        rw [mix_ge _ _ _ _ (by omega), Nat.zero_add] at this
        exact this
      have g3 : wr.frozen? ⟨b, i, none⟩ = false := by rw [hs.frozen]; exact hf i
      have hxi := hXl (whole + i) (by omega)
      have hin : (i : Int) < (n : Int) := by omega
      by_cases hlt2 : i + 1 < K
      · have g4 : wr.cell? ⟨b, whole + (i + 1), none⟩ = some (.int .u32 (X (whole + (i + 1)))) := by
          have := (hL (whole + (i + 1)) (by omega)).2
          rw [mix_ge _ _ _ _ (by omega), Nat.zero_add] at this
          exact this
        have hyi := hXl (whole + (i + 1)) (by omega)
        have hor := or64b (X (whole + i)) (X (whole + (i + 1))) hxi hyi
        have HV : Hid (shrLimb (fun t => X (whole + t)) K p i = (X (whole + i) + X (whole + (i + 1)) * 4294967296) / 2 ^ p % 4294967296) := by simp [Hid, shrLimb, hlt2]
        obtain ⟨x, hx⟩ : ∃ x, x = X (whole + i) := ⟨_, rfl⟩
        obtain ⟨y, hy⟩ : ∃ y, y = X (whole + (i + 1)) := ⟨_, rfl⟩
        rw [← hx] at g0 hxi hor HV
        rw [← hy] at g4 hyi hor HV
        clear hx hy
        go_wp2
        clear hor g4 g0
        obtain ⟨v, hv⟩ : ∃ v, v = x + y * 4294967296 := ⟨_, rfl⟩
        have hvi : (x : Int) + (y : Int) * 4294967296 = (v : Int) := by omega
        have hvl : v < 18446744073709551616 := by omega
        rw [← hv] at HV
        rw [hvi]
        clear hv hvi
        have t1 : ¬ (p : Int) < 0 := by omega
        have t2 : IntKind.u64.wrap (v : Int) = (v : Int) := wrap_u64_id v hvl
        go_region
        go_wp2
        go_roundw
        case rel =>
          go_light
          rw [shr_val v p]
          exact ⟨i + 1, by omega, by go_num, (hs.setCell _ _).drew, (hL.put _).congr (fun j _ => mix_upd _ _ _ _ HV.out.symm j)⟩
        case measure => simp [intOf]; omega
      · have HV : Hid (shrLimb (fun t => X (whole + t)) K p i = X (whole + i) / 2 ^ p % 4294967296) := by simp [Hid, shrLimb, hlt2]
        obtain ⟨v, hv⟩ : ∃ x, x = X (whole + i) := ⟨_, rfl⟩
        rw [← hv] at g0 hxi HV
        have hvl : v < 18446744073709551616 := by omega
        clear hv
        go_wp2
        clear g0
        have t1 : ¬ (p : Int) < 0 := by omega
        have t2 : IntKind.u64.wrap (v : Int) = (v : Int) := wrap_u64_id v hvl
        go_region
        go_wp2
        go_roundw
        case rel =>
          go_light
          rw [shr_val v p]
          exact ⟨i + 1, by omega, by go_num, (hs.setCell _ _).drew, (hL.put _).congr (fun j _ => mix_upd _ _ _ _ HV.out.symm j)⟩
        case measure => simp [intOf]; omega
    · have e : i = K := by omega
      subst e
      have g3 : wr.frozen? ⟨c, o, none⟩ = false := by rw [hs.frozenO (a := ⟨c, o, none⟩) hcb]; exact hf0
      have hL2 : Limbs wr (some ⟨b, 0, none⟩) b 0 i (shrLimb (fun t => X (whole + t)) i p) := (hL.take (by omega)).congr (fun j hj => mix_lt _ _ _ _ hj)
      go_wp2_with fail
      refine (trimAt_any c o _ b 0 i cap _ _ (by omega) (by omega) (World.cell?_setCell_same _ _ _ g2) (by simp [g3]) (hL2.setOther hcb _)).mono ?_
      rintro e w1 ⟨rfl, rfl⟩
      go_wp2
      go_end0
      have HLv : lv (shrLimb (fun t => X (whole + t)) i p) i = lv X n / 2 ^ cnt := by
        rw [lv_shrLimb _ i p hp (fun j hj => hXl (whole + j) (by omega)), HK.out, lv_shr X n whole (by omega) hXl, Nat.div_div_eq_div_mul, ← Nat.pow_add, HC.out]
      exact ⟨rfl, wr, _, i, hs, hL2, by omega, fun j _ => shrLimb_lt _ _ _ _, HLv, setCell_twice _ _ _ _ _⟩

end Go.Proofs.YtklkohdcilnchabDoor

/-
  Plain mathematics: the least bit that is set.
-/
namespace Go.Proofs.YtklkohdcilnchabDoor

theorem two_part (x : Nat) (h : 0 < x) : ∃ s k, x = 2 ^ s * (2 * k + 1) := by
  induction x using Nat.strongRecOn with
  | _ x ih =>
    by_cases e : x % 2 = 1
    · exact ⟨0, x / 2, by simp; omega⟩
    · obtain ⟨s, k, hk⟩ := ih (x / 2) (by omega) (by omega)
      refine ⟨s + 1, k, ?_⟩
      rw [Nat.pow_succ, Nat.mul_comm (2 ^ s) 2, Nat.mul_assoc, ← hk]; omega

theorem and_shift (s a b : Nat) : (2 ^ s * a) &&& (2 ^ s * b) = 2 ^ s * (a &&& b) := by
  have := Nat.shiftLeft_and_distrib (a := a) (b := b) (i := s)
  rw [Nat.shiftLeft_eq, Nat.shiftLeft_eq, Nat.shiftLeft_eq] at this
  rw [Nat.mul_comm (2 ^ s) a, Nat.mul_comm (2 ^ s) b, Nat.mul_comm (2 ^ s) (a &&& b)]
  exact this.symm

theorem and_compl (k n : Nat) (h : k < 2 ^ n) : k &&& (2 ^ n - (k + 1)) = 0 := by
  apply Nat.eq_of_testBit_eq
  intro i
  rw [Nat.testBit_and, Nat.testBit_two_pow_sub_succ h]
  cases Nat.testBit k i <;> simp

theorem and_odd (k m : Nat) (h : k &&& m = 0) : (2 * k + 1) &&& (2 * m + 1) = 1 := by
  apply Nat.eq_of_testBit_eq
  intro i
  cases i with
  | zero => simp [Nat.testBit_zero]
  | succ i =>
    rw [Nat.testBit_and, Nat.testBit_succ, Nat.testBit_succ, show (2 * k + 1) / 2 = k by omega, show (2 * m + 1) / 2 = m by omega, ← Nat.testBit_and, h, Nat.testBit_succ]

theorem low_bit {x s k : Nat} (hx : x < 4294967296) (h : x = 2 ^ s * (2 * k + 1)) : s < 32 ∧ x &&& (4294967296 - x) = 2 ^ s := by
  have hs : s < 32 := by
    by_cases c : s < 32
    · exact c
    · have h1 : 2 ^ 32 ≤ 2 ^ s := Nat.pow_le_pow_right (by omega) (by omega)
      have h2 : 2 ^ s * 1 ≤ 2 ^ s * (2 * k + 1) := Nat.mul_le_mul_left _ (by omega)
      omega
  refine ⟨hs, ?_⟩
  have hp : 2 ^ s * 2 ^ (31 - s) * 2 = 4294967296 := by rw [← Nat.pow_add, show s + (31 - s) = 31 by omega]
  have hk : k < 2 ^ (31 - s) := by
    by_cases c : k < 2 ^ (31 - s)
    · exact c
    · have h1 : 2 ^ s * (2 * 2 ^ (31 - s)) ≤ 2 ^ s * (2 * k) := Nat.mul_le_mul_left _ (by omega)
      rw [Nat.mul_comm 2 (2 ^ (31 - s)), ← Nat.mul_assoc, hp] at h1
      rw [Nat.mul_add] at h
      omega
  have e : 4294967296 - x = 2 ^ s * (2 * (2 ^ (31 - s) - (k + 1)) + 1) := by
    have e1 : 2 * (2 ^ (31 - s) - (k + 1)) + 1 = 2 * 2 ^ (31 - s) - (2 * k + 1) := by omega
    rw [e1, Nat.mul_sub, ← h, Nat.mul_comm 2 (2 ^ (31 - s)), ← Nat.mul_assoc, hp]
  rw [e, h, and_shift, and_odd _ _ (and_compl k _ hk), Nat.mul_one]

/-- The table of the least bit's place, as the program's text lays it. -/
def deB : List Nat := [0, 1, 28, 2, 29, 14, 24, 3, 30, 22, 20, 15, 25, 17, 4, 8, 31, 27, 13, 23, 21, 19, 16, 7, 26, 12, 18, 6, 11, 5, 10, 9]

theorem deB_at : ∀ s : Fin 32, 2 ^ s.val * 125613361 % 4294967296 / 134217728 < 32 ∧ deB.getD (2 ^ s.val * 125613361 % 4294967296 / 134217728) 0 = s.val := by decide

/-- The twos in a number of limbs: i limbs of zeros, then a limb with s of them. -/
theorem lv_twos {X : Nat → Nat} {n i s k : Nat} (hi : i < n) (hz : ∀ j, j < i → X j = 0) (hx : X i = 2 ^ s * (2 * k + 1)) (hs : s < 32) : ∃ q, lv X n = 2 ^ (32 * i + s) * (2 * q + 1) := by
  have e0 : lv X i = 0 := by rw [lv_more X 0 i (by omega) (fun j _ hj => hz j hj)]; rfl
  have e1 : lv X n = lv X (i + 1) + 2 ^ (32 * (i + 1)) * lv (fun t => X (i + 1 + t)) (n - (i + 1)) := by
    have := lv_add X (i + 1) (n - (i + 1))
    rw [show i + 1 + (n - (i + 1)) = n by omega] at this; exact this
  have e2 : lv X (i + 1) = 2 ^ (32 * i + s) * (2 * k + 1) := by
    simp only [lv, e0, Nat.zero_add]
    rw [hx, Nat.pow_add, Nat.mul_right_comm, Nat.mul_comm (2 ^ s)]
  generalize lv (fun t => X (i + 1 + t)) (n - (i + 1)) = r at *
  refine ⟨k + 2 ^ (31 - s) * r, ?_⟩
  rw [e1, e2]
  have e3 : 2 ^ (32 * (i + 1)) = 2 ^ (32 * i + s) * (2 * 2 ^ (31 - s)) := by
    have h1 : 32 * (i + 1) = (32 * i + s) + ((31 - s) + 1) := by omega
    rw [h1, Nat.pow_add, Nat.pow_succ, Nat.mul_comm (2 ^ (31 - s)) 2]
  rw [e3, Nat.mul_assoc (2 ^ (32 * i + s)), ← Nat.mul_add]
  have e4 : 2 * k + 1 + 2 * 2 ^ (31 - s) * r = 2 * (k + 2 ^ (31 - s) * r) + 1 := by rw [Nat.mul_add, Nat.mul_assoc]; omega
  rw [e4]

end Go.Proofs.YtklkohdcilnchabDoor

namespace Go.Proofs.YtklkohdcilnchabDoor
open Go.RowKit

set_option maxHeartbeats 800000 in
set_option maxRecDepth 100000 in
theorem isOne_any (c o : Nat) (a : Option Addr) (b off n cap : Nat) (X : Nat → Nat) (w : World) (hc0 : w.cell? ⟨c, o, none⟩ = some (.slice a n cap)) (hX : Limbs w a b off n X) (hXl : ∀ j, j < n → X j < 4294967296) (tX : 0 < n → X (n - 1) ≠ 0) :
    Calls Tryd.prog 49 #[.pointer (some ⟨c, o, none⟩)] w fun e w' => e = .returned (.bool (decide (lv X n = 1))) ∧ w' = w := by
  by_cases h1 : n = 1
  · subst h1
    obtain ⟨rfl, k⟩ := hX 0 (by omega)
    rw [Nat.add_zero] at k
    have e : lv X 1 = X 0 := by simp [lv]
    rw [e]
    by_cases h2 : X 0 = 1
    · rw [h2] at k ⊢
      clear tX hXl
      go_enter Tryd.func49, Tryd.ntmps49
      go_wp2
      go_ret
      exact ⟨rfl, rfl⟩
    · have hne : ((X 0 : Int) == 1) = false := by simp; omega
      have e2 : decide (X 0 = 1) = false := by simp [h2]
      rw [e2]
      clear tX hXl h2
      go_enter Tryd.func49, Tryd.ntmps49
      go_wp2
      go_ret
      exact ⟨rfl, rfl⟩
  · have e2 : decide (lv X n = 1) = false := by
      simp only [decide_eq_false_iff_not]
      intro h
      by_cases h0 : n = 0
      · subst h0; simp [lv] at h
      · have := lv_ge X n (by omega) (tX (by omega))
        have h3 : 2 ^ (32 * 1) ≤ 2 ^ (32 * (n - 1)) := Nat.pow_le_pow_right (by omega) (by omega)
        omega
    have hne : ((n : Int) == 1) = false := by simp; omega
    rw [e2]
    clear tX hXl h1 e2
    go_enter Tryd.func49, Tryd.ntmps49
    go_wp2
    go_ret
    exact ⟨rfl, rfl⟩

set_option maxHeartbeats 800000 in
set_option maxRecDepth 100000 in
theorem isShort_any (c o : Nat) (a : Option Addr) (n cap : Nat) (w : World) (hc0 : w.cell? ⟨c, o, none⟩ = some (.slice a n cap)) :
    Calls Tryd.prog 76 #[.pointer (some ⟨c, o, none⟩)] w fun e w' => e = .returned (.bool (decide ((n : Int) ≤ 2))) ∧ w' = w := by
  go_enter Tryd.func76, Tryd.ntmps76
  go_wp2
  go_ret
  exact ⟨rfl, rfl⟩

set_option maxHeartbeats 800000 in
set_option maxRecDepth 100000 in
theorem short_any (c o : Nat) (a : Option Addr) (b off n cap : Nat) (X : Nat → Nat) (w : World) (hn : n ≤ 2) (hc0 : w.cell? ⟨c, o, none⟩ = some (.slice a n cap)) (hX : Limbs w a b off n X) (hXl : ∀ j, j < n → X j < 4294967296) :
    Calls Tryd.prog 79 #[.pointer (some ⟨c, o, none⟩)] w fun e w' => e = .returned (.int .u64 (lv X n)) ∧ w' = w := by
  go_enter Tryd.func79, Tryd.ntmps79
  go_wp2
  go_loop [3, 10] (fun x t => ∃ i v : Nat, i ≤ n ∧ t = .int .i64 i ∧ x = .int .u64 v ∧ Hid (v = lv X i)) (fun _ t => n - (intOf t).toNat)
  case atStart => exact ⟨0, 0, Nat.zero_le _, rfl, rfl, rfl⟩
  case round =>
    obtain ⟨i, v, hi, rfl, rfl, HV⟩ := hrel
    by_cases hlt : i < n
    · obtain ⟨rfl, k⟩ := hX i hlt
      have hx := hXl i hlt
      have hi2 : i = 0 ∨ i = 1 := by omega
      rcases hi2 with rfl | rfl
      · rw [Nat.add_zero] at k
        have v0 : v = 0 := HV.out
        subst v0
        have hor := u64_or_nat 0 (X 0) (by omega) (by omega)
        rw [Nat.zero_or] at hor
        go_wp2
        go_round
        case rel =>
          go_light
          refine ⟨1, X 0, by omega, rfl, ?_, by simp [Hid, lv]⟩
          exact congrArg (Value.int .u64) (by simpa using hor)
        case measure => simp [intOf]; omega
      · have v0 : v = X 0 := by have := HV.out; simpa [lv] using this
        have hv := hXl 0 (by omega)
        rw [← v0] at hv
        have hor := or64b v (X 1) hv hx
        go_wp2
        go_round
        case rel =>
          go_light
          refine ⟨2, v + X 1 * 4294967296, by omega, rfl, ?_, by rw [v0]; simp [Hid, lv]⟩
          exact congrArg (Value.int .u64) (by rw [← v0, hor]; omega)
        case measure => simp [intOf]; omega
    · have e : i = n := by omega
      subst e
      go_wp2
      go_ret
      exact ⟨ret_int (congrArg (fun x : Nat => (x : Int)) HV.out), rfl⟩

set_option maxHeartbeats 800000 in
set_option maxRecDepth 100000 in
theorem shortGcd_any (x y : Nat) (w : World) (hx : x < 18446744073709551616) (hy : y < 18446744073709551616) :
    Calls Tryd.prog 78 #[.int .u64 x, .int .u64 y] w fun e w' => e = .returned (.int .u64 (Nat.gcd x y)) ∧ Same w w' := by
  go_enter Tryd.func78, Tryd.ntmps78
  go_wp2
  go_loopw [0, 1] (fun p q wr => ∃ s t : Nat, p = .int .u64 s ∧ q = .int .u64 t ∧ s < 18446744073709551616 ∧ t < 18446744073709551616 ∧ Hid (Nat.gcd s t = Nat.gcd x y) ∧ Same w wr) (fun _ q _ => (intOf q).toNat)
  case atStart => exact ⟨x, y, rfl, rfl, hx, hy, rfl, Same.refl _⟩
  case round =>
    obtain ⟨s, t, rfl, rfl, hs, ht, HG, sm⟩ := hrel
    by_cases h0 : t = 0
    · subst h0
      go_wp2
      go_ret
      exact ⟨ret_int (congrArg (fun x : Nat => (x : Int)) (by have := HG.out; rwa [Nat.gcd_zero_right] at this)), sm⟩
    · have hne : ((t : Int) == 0) = false := by simp; omega
      have hne2 : ¬ (t : Int) = 0 := by omega
      obtain ⟨r, hr⟩ : ∃ r, r = s % t := ⟨_, rfl⟩
      have hrl : r < t := by rw [hr]; exact Nat.mod_lt _ (by omega)
      have w1 : IntKind.u64.wrap ((s : Int) % (t : Int)) = (r : Int) := by rw [← Int.natCast_emod, ← hr]; exact wrap_u64_id r (by omega)
      have HR := hide hr
      clear hr h0
      go_wp2
      go_quiet (fail)
      go_wp2
      go_roundw
      case rel =>
        refine ⟨t, r, rfl, ?_, ht, by omega, ?_, sm.drewN _⟩
        · first | rfl | exact congrArg (Value.int .u64) (by rw [HR.out, Int.natCast_emod])
        · have h := HG.out
          rw [Nat.gcd_comm, Nat.gcd_rec, ← HR.out, Nat.gcd_comm] at h
          exact h
      case measure => simp [intOf]; have := Int.emod_lt_of_pos (s : Int) (show (0 : Int) < (t : Int) by omega); omega

set_option maxHeartbeats 800000 in
set_option maxRecDepth 100000 in
theorem natOfShort_any (v : Nat) (w : World) (hv : v < 18446744073709551616) :
    Calls Tryd.prog 77 #[.int .u64 v] w fun e w' => ∃ S, e = .returned (.slice (some ⟨w.heap.size, 0, none⟩) (tlen (nz S) 2) 2) ∧ w'.rowIs w.heap.size 49 2 (fun j => .int .u32 (S j : Nat)) ∧ (∀ k, S k < 4294967296) ∧ lv S 2 = v ∧ w.Since w.heap.size w' := by
  go_enter Tryd.func77, Tryd.ntmps77
  go_wp2_with fail
  obtain ⟨S, hS⟩ : ∃ S : Nat → Nat, S = fun j => if j = 0 then v % 4294967296 else if j = 1 then v / 4294967296 else 0 := ⟨_, rfl⟩
  have s0 : S 0 = v % 4294967296 := by rw [hS]; rfl
  have s1 : S 1 = v / 4294967296 := by rw [hS]; rfl
  have hSl : ∀ k, S k < 4294967296 := fun k => by rw [hS]; show (if k = 0 then _ else if k = 1 then _ else 0) < _; split; omega; split <;> omega
  have r0 := World.rowIs_alloc w #[.int .u32 ((v : Int) % 4294967296), .int .u32 ((v : Int) / 4294967296)] 49 (fun j => .int .u32 (S j : Nat)) (fun i hi => by
    have h2 : i = 0 ∨ i = 1 := by simp at hi; omega
    rcases h2 with rfl | rfl
    · simp [s0]
    · simp [s1])
  have r1 : (w.alloc (.cells #[.int .u32 ((v : Int) % 4294967296), .int .u32 ((v : Int) / 4294967296)] 49)).rowIs w.heap.size 49 2 (fun j => .int .u32 (S j : Nat)) := r0
  have r2 := r1.alloc (.cells #[.slice (some ⟨w.heap.size, 0, none⟩) 2 2] 50)
  have S2 : w.Since w.heap.size ((w.alloc (.cells #[.int .u32 ((v : Int) % 4294967296), .int .u32 ((v : Int) / 4294967296)] 49)).alloc (.cells #[.slice (some ⟨w.heap.size, 0, none⟩) 2 2] 50)) := ((World.Since.refl _ _).alloc (Nat.le_refl _) _).alloc (by simp) _
  have bx : ((w.alloc (.cells #[.int .u32 ((v : Int) % 4294967296), .int .u32 ((v : Int) / 4294967296)] 49)).alloc (.cells #[.slice (some ⟨w.heap.size, 0, none⟩) 2 2] 50)).rowIs (w.heap.size + 1) 50 1 (fun _ => .slice (some ⟨w.heap.size, 0, none⟩) 2 2) := by
    have := World.rowIs_alloc (w.alloc (.cells #[.int .u32 ((v : Int) % 4294967296), .int .u32 ((v : Int) / 4294967296)] 49)) #[.slice (some ⟨w.heap.size, 0, none⟩) 2 2] 50 (fun _ => .slice (some ⟨w.heap.size, 0, none⟩) 2 2) (fun i hi => by simp at hi; subst hi; rfl)
    simpa using this
  generalize (w.alloc (.cells #[.int .u32 ((v : Int) % 4294967296), .int .u32 ((v : Int) / 4294967296)] 49)).alloc (.cells #[.slice (some ⟨w.heap.size, 0, none⟩) 2 2] 50) = w1 at *
  clear r0 r1 hS
  have q0 := bx.cell (i := 0) (by omega)
  have q1 := bx.frozen 0
  refine (trimAt_any (w.heap.size + 1) 0 _ w.heap.size 0 2 2 S _ (by omega) (Nat.le_refl _) q0 q1 (limbs_row r2)).mono ?_
  rintro e w2 ⟨rfl, hw2⟩
  have c2 : w2.cell? ⟨w.heap.size + 1, 0, none⟩ = some (.slice (some ⟨w.heap.size, 0, none⟩) (tlen (nz S) 2) 2) := by rw [hw2]; exact World.cell?_setCell_same _ _ _ q0
  have r3 : w2.rowIs w.heap.size 49 2 (fun j => .int .u32 (S j : Nat)) := by rw [hw2]; exact r2.setOther (by simp) _
  have S3 : w.Since w.heap.size w2 := by rw [hw2]; exact S2.setCell (Nat.le_succ _) _
  have HV : Hid (lv S 2 = v) := by show lv S 2 = v; simp only [lv, s0, s1]; simp; omega
  clear hw2 q0 q1 r2 bx S2 s0 s1
  go_wp2
  go_ret
  exact ⟨S, rfl, r3, hSl, HV.out, S3⟩

def Tab (w : World) : Prop := ∀ j, j < 32 → w.cell? ⟨1, j, none⟩ = some (.int .u8 (deB.getD j 0))

set_option maxHeartbeats 800000 in
set_option maxRecDepth 100000 in
theorem tz32_any (x : Nat) (w : World) (h0 : 0 < x) (hx : x < 4294967296) (hT : Tab w) :
    Calls Tryd.prog 125 #[.int .u32 x] w fun e w' => ∃ s k : Nat, e = .returned (.int .i64 s) ∧ w' = w ∧ s < 32 ∧ x = 2 ^ s * (2 * k + 1) := by
  have hne : ((x : Int) == 0) = false := by simp; omega
  obtain ⟨s, k, hk⟩ := two_part x h0
  obtain ⟨hs, hb⟩ := low_bit hx hk
  have hand : bits .and .u32 (x : Int) (-(x : Int) % 4294967296) = ((2 ^ s : Nat) : Int) := by
    rw [show -(x : Int) % 4294967296 = ((4294967296 - x : Nat) : Int) by omega, u32_and_nat x _ hx (by omega), hb]
  obtain ⟨q, hq⟩ : ∃ q, q = 2 ^ s := ⟨_, rfl⟩
  rw [← hq] at hand
  have hd := deB_at ⟨s, hs⟩
  simp only at hd
  rw [← hq] at hd
  have hql : q < 4294967296 := by rw [hq]; have : 2 ^ s < 2 ^ 32 := Nat.pow_lt_pow_right (by omega) hs; omega
  have hcell := hT (q * 125613361 % 4294967296 / 134217728) hd.1
  rw [hd.2] at hcell
  have hix : ((q : Int) * 125613361 % 4294967296 / 134217728).toNat = q * 125613361 % 4294967296 / 134217728 := by
    have h : ((q * 125613361 % 4294967296 / 134217728 : Nat) : Int) = (q : Int) * 125613361 % 4294967296 / 134217728 := by rw [Int.natCast_ediv, Int.natCast_emod, Int.natCast_mul]; rfl
    rw [← h]; exact Int.toNat_natCast _
  have hxe := hide hk
  clear hk hb hq hd
  go_enter Tryd.func125, Tryd.ntmps125
  go_wp2
  go_ret
  go_light
  exact ⟨s, k, rfl, rfl, hs, hxe.out⟩

set_option maxHeartbeats 800000 in
set_option maxRecDepth 100000 in
/-- (*nat).twos of a number that is not nought: whole limbs and a part. -/
theorem twos_any (c o : Nat) (a : Option Addr) (b off n cap : Nat) (X : Nat → Nat) (w : World) (hn : n ≤ 16777216) (hc0 : w.cell? ⟨c, o, none⟩ = some (.slice a n cap)) (hX : Limbs w a b off n X) (hXl : ∀ j, j < n → X j < 4294967296) (h0 : 0 < lv X n) (hT : Tab w) :
    Calls Tryd.prog 104 #[.pointer (some ⟨c, o, none⟩)] w fun e w' => ∃ i s q : Nat, e = .returned (.int .i64 ((32 * i + s : Nat) : Int)) ∧ w' = w ∧ i < n ∧ s < 32 ∧ lv X n = 2 ^ (32 * i + s) * (2 * q + 1) := by
  have H0 := hide h0
  clear h0
  go_enter Tryd.func104, Tryd.ntmps104
  go_wp2
  go_loop [9] (fun t => ∃ i : Nat, i ≤ n ∧ t = .int .i64 i ∧ Hid (∀ j, j < i → X j = 0)) (fun t => n - (intOf t).toNat)
  case atStart => exact ⟨0, Nat.zero_le _, rfl, fun j hj => absurd hj (by omega)⟩
  case round =>
    obtain ⟨i, hi, rfl, HZ⟩ := hrel
    by_cases hlt : i < n
    · obtain ⟨rfl, k⟩ := hX i hlt
      have hx := hXl i hlt
      by_cases h1 : X i = 0
      · have HX0 := hide h1
        rw [h1] at k
        clear h1
        go_wp2
        go_round
        case rel =>
          refine ⟨i + 1, by omega, by go_num, fun j hj => ?_⟩
          by_cases e : j = i
          · subst e; exact HX0.out
          · exact HZ.out j (by omega)
        case measure => simp [intOf]; omega
      · have hne : ((X i : Int) == 0) = false := by simp; omega
        go_wp2_with fail
        refine (tz32_any (X i) _ (by omega) hx hT).mono ?_
        rintro e w1 ⟨s, kk, rfl, rfl, hs, hxk⟩
        obtain ⟨q, hq⟩ := lv_twos hlt HZ.out hxk hs
        have HQ := hide hq
        clear hq hxk
        go_wp2
        go_ret
        exact ⟨i, s, q, ret_int (by omega), rfl, hlt, hs, HQ.out⟩
    · exfalso
      have e : lv X n = 0 := by rw [lv_more X 0 n (by omega) (fun j _ hj => HZ.out j (by omega))]; rfl
      have := H0.out
      omega

end Go.Proofs.YtklkohdcilnchabDoor

namespace Go.Proofs.YtklkohdcilnchabDoor
open Go.RowKit

theorem bitLen_zero : Lib.bitLen 0 = 0 := by decide

theorem bitLen_spec2 : ∀ (f x : Nat), f ≤ 64 → x < 2 ^ f → x ≠ 0 → 1 ≤ Lib.bitLen x ∧ 2 ^ (Lib.bitLen x - 1) ≤ x ∧ x < 2 ^ Lib.bitLen x := by
  intro f
  induction f with
  | zero => intro x _ h h0; simp at h; omega
  | succ f ih =>
    intro x hf h h0
    have hx64 : x < 2 ^ 64 := Nat.lt_of_lt_of_le h (Nat.pow_le_pow_right (by omega) hf)
    rw [Lib.bitLen_half x h0 hx64]
    by_cases h1 : x / 2 = 0
    · have hx1 : x = 1 := by omega
      subst hx1
      simp [bitLen_zero]
    · obtain ⟨a1, a2, a3⟩ := ih (x / 2) (by omega) (by rw [Nat.pow_succ] at h; omega) h1
      generalize Lib.bitLen (x / 2) = n at *
      refine ⟨by omega, ?_, ?_⟩
      · rw [show 1 + n - 1 = (n - 1) + 1 by omega, Nat.pow_succ]; omega
      · rw [Nat.add_comm, Nat.pow_succ]; omega

theorem tab_size : (Lib.len8tab.size : Int) = 256 := by have := Lib.len8tab_size; omega

theorem tab_get (y : Int) (h : y.toNat < Lib.len8tab.size) (h0 : 0 ≤ y) (h1 : y ≤ 255) : ((Lib.len8tab[y.toNat]'h).toNat : Int) = (Lib.bitLen y.toNat : Int) := by
  rw [← Lib.len8_of y h0 h1]
  unfold Lib.len8
  rw [getElem?_pos Lib.len8tab y.toNat h]
  rfl

theorem wrap_one (a : Nat) (ha : a ≤ 64) : wrap64 (a : Int) = (a : Int) := by unfold wrap64; omega

set_option maxHeartbeats 4000000 in
set_option maxRecDepth 100000 in
theorem len32_any (x : Int) (w : World) (h0 : 0 ≤ x) (hx : x ≤ 4294967295) :
    Calls Tryd.prog 148 #[.int .u32 x] w fun e w' => e = .returned (.int .i64 (Lib.bitLen x.toNat)) ∧ w' = w := by
  have hsz := tab_size
  go_enter Tryd.func148, Tryd.ntmps148
  go_wp2
  all_goals (go_ret; refine ⟨congrArg Ending.returned (congrArg (Value.int IntKind.i64) ?_), rfl⟩)
  all_goals go_light
  · have l := Lib.bitLen_le8' (x / 65536 / 256) (by omega) (by omega)
    rw [tab_get (x / 65536 / 256) _ (by omega) (by omega), wrap_one _ (by omega)]
    have e : (x / 65536 / 256).toNat = x.toNat / 16777216 := by omega
    rw [e] at l ⊢
    rw [show (24 : Int) + (Lib.bitLen (x.toNat / 16777216) : Int) = ((24 + Lib.bitLen (x.toNat / 16777216) : Nat) : Int) by omega, wrap_one _ (by omega), Lib.bitLen_shift24 x.toNat (by omega) (by omega)]
  · have l := Lib.bitLen_le8' (x / 65536) (by omega) (by omega)
    rw [tab_get (x / 65536) _ (by omega) (by omega), wrap_one _ (by omega)]
    have e : (x / 65536).toNat = x.toNat / 65536 := by omega
    rw [e] at l ⊢
    rw [show (16 : Int) + (Lib.bitLen (x.toNat / 65536) : Int) = ((16 + Lib.bitLen (x.toNat / 65536) : Nat) : Int) by omega, wrap_one _ (by omega), Lib.bitLen_shift16 x.toNat (by omega) (by omega)]
  · have l := Lib.bitLen_le8' (x / 256) (by omega) (by omega)
    rw [tab_get (x / 256) _ (by omega) (by omega), wrap_one _ (by omega)]
    have e : (x / 256).toNat = x.toNat / 256 := by omega
    rw [e] at l ⊢
    rw [show (8 : Int) + (Lib.bitLen (x.toNat / 256) : Int) = ((8 + Lib.bitLen (x.toNat / 256) : Nat) : Int) by omega, wrap_one _ (by omega), Lib.bitLen_shift8 x.toNat (by omega) (by omega)]
  · have l := Lib.bitLen_le8' x (by omega) (by omega)
    rw [tab_get x _ (by omega) (by omega), wrap_one _ (by omega), wrap_one _ (by omega)]

set_option maxHeartbeats 800000 in
set_option maxRecDepth 100000 in
/-- LeadingZeros32 of a limb that is not 0: shifted by it, the limb's top bit is set. -/
theorem lz32_any (x : Nat) (w : World) (h0 : 0 < x) (hx : x < 4294967296) :
    Calls Tryd.prog 132 #[.int .u32 x] w fun e w' => ∃ s : Nat, e = .returned (.int .i64 s) ∧ w' = w ∧ s < 32 ∧ 2147483648 ≤ x * 2 ^ s ∧ x * 2 ^ s < 4294967296 := by
  have hs := bitLen_spec2 32 x (by omega) (by omega) (by omega)
  have hle := Lib.bitLen_le x 32 (by omega) (by omega)
  have H := hide hs
  have h1 := hs.1
  clear hs
  go_enter Tryd.func132, Tryd.ntmps132
  go_wp2_with fail
  refine (len32_any _ _ (by omega) (by omega)).mono ?_
  rintro e w1 ⟨rfl, rfl⟩
  rw [Int.toNat_natCast]
  generalize Lib.bitLen x = n at *
  go_wp2
  go_ret
  refine ⟨32 - n, ret_int (by omega), rfl, by omega, ?_, ?_⟩
  · have h2 := Nat.mul_le_mul_right (2 ^ (32 - n)) H.out.2.1
    rw [← Nat.pow_add, show n - 1 + (32 - n) = 31 by omega] at h2
    omega
  · have h3 := Nat.mul_lt_mul_of_pos_right H.out.2.2 (Nat.pow_pos (n := 32 - n) (show 0 < 2 by omega))
    rw [← Nat.pow_add, show n + (32 - n) = 32 by omega] at h3
    omega

end Go.Proofs.YtklkohdcilnchabDoor
