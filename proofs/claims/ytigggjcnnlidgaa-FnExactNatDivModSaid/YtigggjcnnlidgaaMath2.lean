/-
  Plain mathematics: comparing, taking away, dividing, on bits and on limbs. Imports nothing of the program.
-/
import Derived.Test.YtigggjcnnlidgaaMath
namespace Go.Proofs.Ytigggjcnnlidgaa

/-- How two numbers compare. -/
def cmpN (x y : Nat) : Int := if x < y then -1 else if y < x then 1 else 0

theorem cmpN_lt {x y : Nat} (h : x < y) : cmpN x y = -1 := by simp [cmpN, h]
theorem cmpN_gt {x y : Nat} (h : y < x) : cmpN x y = 1 := by simp [cmpN, h]; omega
theorem cmpN_eq {x y : Nat} (h : x = y) : cmpN x y = 0 := by simp [cmpN, h]

theorem bv_ge (B : Nat → Bool) (n : Nat) (h : 0 < n) (ht : B (n - 1) = true) : 2 ^ (n - 1) ≤ bv B n := by
  obtain ⟨m, rfl⟩ : ∃ m, n = m + 1 := ⟨n - 1, by omega⟩
  simp only [bv, Nat.add_sub_cancel] at *
  simp [ht]

theorem bv_short {A B : Nat → Bool} {n m : Nat} (h : n < m) (ht : 0 < m → B (m - 1) = true) : bv A n < bv B m := by
  have h1 := bv_lt A n
  have h2 := bv_ge B m (by omega) (ht (by omega))
  have h3 : 2 ^ n ≤ 2 ^ (m - 1) := Nat.pow_le_pow_right (by omega) (by omega)
  omega

theorem bv_len {A B : Nat → Bool} {n m : Nat} (ht : 0 < n → A (n - 1) = true) (h : bv A n ≤ bv B m) : n ≤ m := by
  by_cases e : n ≤ m
  · exact e
  · have := bv_short (A := B) (B := A) (n := m) (m := n) (by omega) ht
    omega

/-- The first place from the top at which two lists part decides. -/
theorem bv_top {A B : Nat → Bool} {n i : Nat} (hi : i < n) (h : ∀ j, i < j → j < n → A j = B j) (ha : A i = false) (hb : B i = true) : bv A n < bv B n := by
  induction n with
  | zero => omega
  | succ n ih =>
    by_cases e : i = n
    · subst e
      simp only [bv, ha, hb]
      have := bv_lt A i
      simp; omega
    · have := ih (by omega) (fun j h1 h2 => h j h1 (by omega))
      simp only [bv]
      rw [h n (by omega) (by omega)]
      omega

theorem lv_top {A B : Nat → Nat} {n i : Nat} (hl : ∀ j, j < n → A j < 4294967296) (hi : i < n) (h : ∀ j, i < j → j < n → A j = B j) (hlt : A i < B i) : lv A n < lv B n := by
  induction n with
  | zero => omega
  | succ n ih =>
    by_cases e : i = n
    · subst e
      simp only [lv]
      have h1 := lv_lt A i (fun j hj => hl j (by omega))
      have h2 : (A i + 1) * 2 ^ (32 * i) ≤ B i * 2 ^ (32 * i) := Nat.mul_le_mul_right _ hlt
      rw [Nat.add_mul] at h2
      omega
    · have := ih (fun j hj => hl j (by omega)) (by omega) (fun j h1 h2 => h j h1 (by omega))
      simp only [lv]
      rw [h n (by omega) (by omega)]
      omega

theorem lv_short {A B : Nat → Nat} {n m : Nat} (hl : ∀ j, j < n → A j < 4294967296) (h : n < m) (ht : 0 < m → B (m - 1) ≠ 0) : lv A n < lv B m := by
  have h1 := lv_lt A n hl
  have h2 := lv_ge B m (by omega) (ht (by omega))
  have h3 : 2 ^ (32 * n) ≤ 2 ^ (32 * (m - 1)) := Nat.pow_le_pow_right (by omega) (by omega)
  omega

/-! ### the difference of bits -/

theorem full_sub (x y c : Bool) : ((x != y) != c).toNat + y.toNat + c.toNat = x.toNat + 2 * ((!x && y) || (!x && c) || (y && c)).toNat := by
  cases x <;> cases y <;> cases c <;> rfl

def upd {α : Type} (D : Nat → α) (i : Nat) (v : α) : Nat → α := fun k => if k = i then v else D k
theorem upd_same {α : Type} (D : Nat → α) (i : Nat) (v : α) : upd D i v i = v := by simp [upd]
theorem upd_other {α : Type} (D : Nat → α) (i : Nat) (v : α) (k : Nat) (h : k ≠ i) : upd D i v k = D k := by simp [upd, h]
theorem bv_upd (D : Nat → Bool) (i : Nat) (v : Bool) (n : Nat) (h : n ≤ i) : bv (upd D i v) n = bv D n := bv_congr (fun j hj => upd_other _ _ _ _ (by omega))
theorem lv_upd (D : Nat → Nat) (i : Nat) (v : Nat) (n : Nat) (h : n ≤ i) : lv (upd D i v) n = lv D n := lv_congr (fun j hj => upd_other _ _ _ _ (by omega))

def SubRel (D A B : Nat → Bool) (m i : Nat) (c : Bool) : Prop := bv D i + bv (ext B m) i = bv A i + c.toNat * 2 ^ i

theorem subRel_step {D A B : Nat → Bool} {m i : Nat} {c x y : Bool} (h : SubRel D A B m i c) (hx : A i = x) (hy : ext B m i = y) :
    SubRel (upd D i ((x != y) != c)) A B m (i + 1) ((!x && y) || (!x && c) || (y && c)) := by
  unfold SubRel at *
  have hf := full_sub x y c
  simp only [bv, bv_upd D i _ i (Nat.le_refl _), upd_same, hx, hy]
  generalize ((x != y) != c).toNat = s at hf ⊢
  generalize ((!x && y) || (!x && c) || (y && c)).toNat = d at hf ⊢
  have e : s * 2 ^ i + y.toNat * 2 ^ i + c.toNat * 2 ^ i = x.toNat * 2 ^ i + d * 2 ^ (i + 1) := by
    rw [← Nat.add_mul, ← Nat.add_mul, hf, Nat.add_mul, Nat.pow_succ, Nat.mul_comm (2 ^ i) 2, ← Nat.mul_assoc, Nat.mul_comm d 2]
  omega

theorem subRel_end {D A B : Nat → Bool} {n m : Nat} {c : Bool} (h : SubRel D A B m n c) (hm : m ≤ n) (hle : bv B m ≤ bv A n) : bv D n = bv A n - bv B m := by
  unfold SubRel at h
  rw [bv_ext B m n hm] at h
  cases c
  · simp at h; omega
  · have := bv_lt D n
    simp at h; omega

/-! ### division, bit by bit -/

/-- The bits of A from place i on. -/
def hb (A : Nat → Bool) (i n : Nat) : Nat := bv (fun t => A (i + t)) (n - i)

theorem hb_top (A : Nat → Bool) (n : Nat) : hb A n n = 0 := by simp [hb, bv]
theorem hb_zero (A : Nat → Bool) (n : Nat) : hb A 0 n = bv A n := by simp [hb]
theorem hb_step (A : Nat → Bool) (i n : Nat) (h : i < n) : hb A i n = 2 * hb A (i + 1) n + (A i).toNat := by
  unfold hb
  rw [show n - i = (n - (i + 1)) + 1 by omega, bv_front]
  congr 2
  exact bv_congr (fun j _ => by rw [show i + (j + 1) = i + 1 + j by omega])
theorem hb_congr {A B : Nat → Bool} {i n : Nat} (h : ∀ j, i ≤ j → j < n → A j = B j) : hb A i n = hb B i n := bv_congr (fun j hj => h _ (by omega) (by omega))

def DivRel (A Q : Nat → Bool) (n i D R : Nat) : Prop := hb A i n = hb Q i n * D + R ∧ R < D ∧ ∀ j, j < i → Q j = false

theorem divRel_start (A : Nat → Bool) (n D : Nat) (hD : 0 < D) : DivRel A (fun _ => false) n n D 0 := ⟨by simp [hb_top], hD, fun _ _ => rfl⟩

theorem divRel_one {A Q : Nat → Bool} {n i D R : Nat} (h : DivRel A Q n (i + 1) D R) (hi : i < n) (hge : D ≤ (A i).toNat + 2 * R) : DivRel A (upd Q i true) n i D ((A i).toNat + 2 * R - D) := by
  obtain ⟨h1, h2, h3⟩ := h
  refine ⟨?_, ?_, fun j hj => by rw [upd_other _ _ _ _ (by omega)]; exact h3 j (by omega)⟩
  · rw [hb_step A i n hi, hb_step _ i n hi, upd_same, h1, hb_congr (fun j a _ => upd_other Q i true j (by omega))]
    rw [Nat.add_mul, Nat.mul_add, Bool.toNat_true, Nat.one_mul, ← Nat.mul_assoc 2]
    omega
  · have := (A i).toNat_le
    omega

theorem divRel_nought {A Q : Nat → Bool} {n i D R : Nat} (h : DivRel A Q n (i + 1) D R) (hi : i < n) (hlt : (A i).toNat + 2 * R < D) : DivRel A Q n i D ((A i).toNat + 2 * R) := by
  obtain ⟨h1, h2, h3⟩ := h
  refine ⟨?_, hlt, fun j hj => h3 j (by omega)⟩
  have e : (2 * hb Q (i + 1) n + false.toNat) * D = 2 * (hb Q (i + 1) n * D) := by simp [Nat.mul_assoc]
  rw [hb_step A i n hi, hb_step _ i n hi, h3 i (by omega), e, h1]
  omega

theorem divRel_end {A Q : Nat → Bool} {n D R : Nat} (h : DivRel A Q n 0 D R) : bv Q n = bv A n / D ∧ R = bv A n % D := by
  obtain ⟨h1, h2, _⟩ := h
  rw [hb_zero, hb_zero] at h1
  have hD : 0 < D := by omega
  have e : bv A n = R + bv Q n * D := by omega
  rw [e]
  refine ⟨?_, ?_⟩
  · rw [Nat.add_mul_div_right _ _ hD, Nat.div_eq_of_lt h2, Nat.zero_add]
  · rw [Nat.add_mul_mod_self_right, Nat.mod_eq_of_lt h2]

/-- A bit laid ahead of a list. -/
def push (b : Bool) (R : Nat → Bool) : Nat → Bool := fun j => if j = 0 then b else R (j - 1)
theorem bv_push (b : Bool) (R : Nat → Bool) (n : Nat) : bv (push b R) (n + 1) = b.toNat + 2 * bv R n := by
  rw [bv_front, Nat.add_comm]
  rfl

end Go.Proofs.Ytigggjcnnlidgaa
