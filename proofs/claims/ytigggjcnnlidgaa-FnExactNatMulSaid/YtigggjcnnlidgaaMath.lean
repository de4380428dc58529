/-
  Plain mathematics: naturals as functions of bits and of limbs. Imports nothing of the program.
-/
namespace Go.Proofs.Ytigggjcnnlidgaa

def bv (B : Nat → Bool) : Nat → Nat
  | 0 => 0
  | n + 1 => bv B n + (B n).toNat * 2 ^ n

def lv (X : Nat → Nat) : Nat → Nat
  | 0 => 0
  | n + 1 => lv X n + X n * 2 ^ (32 * n)

def tlen (P : Nat → Bool) : Nat → Nat
  | 0 => 0
  | n + 1 => if P n then n + 1 else tlen P n

theorem tlen_le (P : Nat → Bool) (n : Nat) : tlen P n ≤ n := by
  induction n with
  | zero => exact Nat.le_refl _
  | succ n ih => unfold tlen; split <;> omega

theorem tlen_top (P : Nat → Bool) (n : Nat) (h : 0 < tlen P n) : P (tlen P n - 1) = true := by
  induction n with
  | zero => simp [tlen] at h
  | succ n ih =>
    unfold tlen at h ⊢
    by_cases hp : P n = true
    · simp [hp]
    · simp [hp] at h ⊢; exact ih h

theorem tlen_beyond (P : Nat → Bool) (n j : Nat) (h : tlen P n ≤ j) (hj : j < n) : P j = false := by
  induction n with
  | zero => omega
  | succ n ih =>
    unfold tlen at h
    by_cases hp : P n = true
    · simp [hp] at h; omega
    · simp [hp] at h
      by_cases e : j = n
      · subst e; simpa using hp
      · exact ih h (by omega)

theorem tlen_congr {P Q : Nat → Bool} {n : Nat} (h : ∀ j, j < n → P j = Q j) : tlen P n = tlen Q n := by
  induction n with
  | zero => rfl
  | succ n ih => simp only [tlen]; rw [h n (by omega), ih (fun j hj => h j (by omega))]

theorem bv_congr {P Q : Nat → Bool} {n : Nat} (h : ∀ j, j < n → P j = Q j) : bv P n = bv Q n := by
  induction n with
  | zero => rfl
  | succ n ih => simp only [bv]; rw [h n (by omega), ih (fun j hj => h j (by omega))]

theorem lv_congr {P Q : Nat → Nat} {n : Nat} (h : ∀ j, j < n → P j = Q j) : lv P n = lv Q n := by
  induction n with
  | zero => rfl
  | succ n ih => simp only [lv]; rw [h n (by omega), ih (fun j hj => h j (by omega))]

theorem bv_more (B : Nat → Bool) (n m : Nat) (h : n ≤ m) (hz : ∀ j, n ≤ j → j < m → B j = false) : bv B m = bv B n := by
  induction m with
  | zero => have : n = 0 := by omega
            subst this; rfl
  | succ m ih =>
    by_cases e : n = m + 1
    · subst e; rfl
    · simp only [bv]; rw [hz m (by omega) (by omega), ih (by omega) (fun j h1 h2 => hz j h1 (by omega))]; simp

theorem lv_more (X : Nat → Nat) (n m : Nat) (h : n ≤ m) (hz : ∀ j, n ≤ j → j < m → X j = 0) : lv X m = lv X n := by
  induction m with
  | zero => have : n = 0 := by omega
            subst this; rfl
  | succ m ih =>
    by_cases e : n = m + 1
    · subst e; rfl
    · simp only [lv]; rw [hz m (by omega) (by omega), ih (by omega) (fun j h1 h2 => hz j h1 (by omega))]; simp

theorem bv_tlen (B : Nat → Bool) (n : Nat) : bv B (tlen B n) = bv B n :=
  (bv_more B _ _ (tlen_le B n) (fun j h1 h2 => tlen_beyond B n j h1 h2)).symm

def nz (X : Nat → Nat) : Nat → Bool := fun j => X j != 0

theorem lv_tlen (X : Nat → Nat) (n : Nat) : lv X (tlen (nz X) n) = lv X n :=
  (lv_more X _ _ (tlen_le _ n) (fun j h1 h2 => by have := tlen_beyond _ n j h1 h2; simpa [nz] using this)).symm

theorem bv_lt (B : Nat → Bool) (n : Nat) : bv B n < 2 ^ n := by
  induction n with
  | zero => simp [bv]
  | succ n ih =>
    simp only [bv, Nat.pow_succ]
    cases B n <;> simp <;> omega

theorem mul_lim {x p : Nat} (h : x < 4294967296) : x * p ≤ 4294967295 * p := Nat.mul_le_mul_right _ (by omega)

theorem pow32 (n : Nat) : 2 ^ (32 * (n + 1)) = 4294967296 * 2 ^ (32 * n) := by
  rw [Nat.mul_add, Nat.pow_add]; omega

theorem lv_lt (X : Nat → Nat) (n : Nat) (h : ∀ j, j < n → X j < 4294967296) : lv X n < 2 ^ (32 * n) := by
  induction n with
  | zero => simp [lv]
  | succ n ih =>
    have h1 := ih (fun j hj => h j (by omega))
    have h2 := mul_lim (p := 2 ^ (32 * n)) (h n (by omega))
    rw [pow32]; simp only [lv]; omega

theorem lv_ge (X : Nat → Nat) (n : Nat) (h : 0 < n) (ht : X (n - 1) ≠ 0) : 2 ^ (32 * (n - 1)) ≤ lv X n := by
  obtain ⟨m, rfl⟩ : ∃ m, n = m + 1 := ⟨n - 1, by omega⟩
  simp only [lv, Nat.add_sub_cancel] at *
  have : 1 * 2 ^ (32 * m) ≤ X m * 2 ^ (32 * m) := Nat.mul_le_mul_right _ (by omega)
  omega

theorem lv_len {X Y : Nat → Nat} {n m : Nat} (hY : ∀ j, j < m → Y j < 4294967296) (pX : 0 < n → X (n - 1) ≠ 0) (h : lv X n = lv Y m) : n ≤ m := by
  by_cases h0 : n = 0
  · omega
  · have h1 := lv_ge X n (by omega) (pX (by omega))
    have h2 := lv_lt Y m hY
    by_cases hlt : n ≤ m
    · exact hlt
    · have : 2 ^ (32 * m) ≤ 2 ^ (32 * (n - 1)) := Nat.pow_le_pow_right (by omega) (by omega)
      omega

theorem lv_same {X Y : Nat → Nat} {n : Nat} (hX : ∀ j, j < n → X j < 4294967296) (hY : ∀ j, j < n → Y j < 4294967296) (h : lv X n = lv Y n) : ∀ j, j < n → X j = Y j := by
  induction n with
  | zero => intro j hj; omega
  | succ n ih =>
    have a1 := lv_lt X n (fun j hj => hX j (by omega))
    have a2 := lv_lt Y n (fun j hj => hY j (by omega))
    simp only [lv] at h
    have hp : 0 < 2 ^ (32 * n) := Nat.pow_pos (by omega)
    have e1 : (lv X n + X n * 2 ^ (32 * n)) / 2 ^ (32 * n) = X n := by
      rw [Nat.add_mul_div_right _ _ hp, Nat.div_eq_of_lt a1]; omega
    have e2 : (lv Y n + Y n * 2 ^ (32 * n)) / 2 ^ (32 * n) = Y n := by
      rw [Nat.add_mul_div_right _ _ hp, Nat.div_eq_of_lt a2]; omega
    have e : X n = Y n := by rw [← e1, ← e2, h]
    rw [e] at h
    have hl : lv X n = lv Y n := by omega
    intro j hj
    by_cases c : j = n
    · subst c; exact e
    · exact ih (fun j hj => hX j (by omega)) (fun j hj => hY j (by omega)) hl j (by omega)

/-- A number has one plain list of limbs. -/
theorem lv_inj {X Y : Nat → Nat} {n m : Nat} (hX : ∀ j, j < n → X j < 4294967296) (hY : ∀ j, j < m → Y j < 4294967296)
    (pX : 0 < n → X (n - 1) ≠ 0) (pY : 0 < m → Y (m - 1) ≠ 0) (h : lv X n = lv Y m) : n = m ∧ ∀ j, j < n → X j = Y j := by
  have e : n = m := Nat.le_antisymm (lv_len hY pX h) (lv_len hX pY h.symm)
  subst e
  exact ⟨rfl, lv_same hX hY h⟩

/-! ### bits of limbs -/

def bitsOf (X : Nat → Nat) (j : Nat) : Bool := (X (j / 32) / 2 ^ (j % 32)) % 2 == 1

theorem toNat_beq (n : Nat) : (n % 2 == 1).toNat = n % 2 := by
  rcases Nat.mod_two_eq_zero_or_one n with h | h <;> simp [h]

theorem bv_bits (X : Nat → Nat) (i k : Nat) (hk : k ≤ 32) (hX : ∀ j, j < i → X j < 4294967296) :
    bv (bitsOf X) (32 * i + k) = lv X i + (X i % 2 ^ k) * 2 ^ (32 * i) := by
  induction i generalizing k with
  | zero =>
    induction k with
    | zero => simp [bv, lv, Nat.mod_one]
    | succ k ihk =>
      have := ihk (by omega)
      simp only [Nat.mul_zero, Nat.zero_add] at this ⊢
      simp only [bv, lv, Nat.zero_add, Nat.pow_zero, Nat.mul_one] at this ⊢
      rw [this, bitsOf, toNat_beq, show k / 32 = 0 by omega, show k % 32 = k by omega]
      rw [Nat.pow_succ, Nat.mod_mul, Nat.mul_comm]
  | succ i ih =>
    induction k with
    | zero =>
      have h0 := ih 32 (by omega) (fun j hj => hX j (by omega))
      have h1 : X i % 2 ^ 32 = X i := Nat.mod_eq_of_lt (by have := hX i (by omega); omega)
      rw [h1] at h0
      have e : 32 * (i + 1) + 0 = 32 * i + 32 := by omega
      rw [e, h0]; simp [lv, Nat.mod_one]
    | succ k ihk =>
      have h0 := ihk (by omega)
      have e : 32 * (i + 1) + (k + 1) = (32 * (i + 1) + k) + 1 := by omega
      rw [e]
      show bv (bitsOf X) (32 * (i + 1) + k) + _ = _
      rw [h0, bitsOf, toNat_beq]
      have d1 : (32 * (i + 1) + k) / 32 = i + 1 := by omega
      have d2 : (32 * (i + 1) + k) % 32 = k := by omega
      rw [d1, d2]
      have e3 : X (i + 1) / 2 ^ k % 2 * 2 ^ (32 * (i + 1) + k) = 2 ^ k * (X (i + 1) / 2 ^ k % 2) * 2 ^ (32 * (i + 1)) := by
        generalize 32 * (i + 1) = u
        rw [Nat.pow_add, Nat.mul_comm (2 ^ u) (2 ^ k), ← Nat.mul_assoc, Nat.mul_comm (X (i + 1) / 2 ^ k % 2) (2 ^ k)]
      rw [e3, Nat.add_assoc, ← Nat.add_mul, Nat.pow_succ, Nat.mod_mul]

theorem bv_bits_all (X : Nat → Nat) (n : Nat) (hX : ∀ j, j < n → X j < 4294967296) : bv (bitsOf X) (32 * n) = lv X n := by
  have := bv_bits X n 0 (by omega) hX
  simpa [Nat.mod_one] using this

/-! ### a list of bits, zeros behind its end -/

def ext (A : Nat → Bool) (n : Nat) : Nat → Bool := fun j => decide (j < n) && A j

theorem bv_ext (A : Nat → Bool) (n m : Nat) (h : n ≤ m) : bv (ext A n) m = bv A n := by
  rw [bv_more (ext A n) n m h (fun j h1 _ => by simp [ext]; omega)]
  exact bv_congr (fun j hj => by simp [ext, hj])

/-! ### the product of bits: one row is added -/

theorem full_add (x y c : Bool) : ((x != y) != c).toNat + 2 * ((x && y) || (x && c) || (y && c)).toNat = x.toNat + y.toNat + c.toNat := by
  cases x <;> cases y <;> cases c <;> rfl

/-- What holds when i bits of the row have been added at place j. -/
def AddRel (O0 O : Nat → Bool) (A : Nat → Bool) (n j i : Nat) (c : Bool) : Prop :=
  (∀ k, j + i ≤ k → O k = O0 k) ∧ bv O (j + i) + c.toNat * 2 ^ (j + i) = bv O0 (j + i) + 2 ^ j * bv (ext A n) i

theorem addRel_start (O : Nat → Bool) (A : Nat → Bool) (n j : Nat) : AddRel O O A n j 0 false := ⟨fun _ _ => rfl, by simp [bv]⟩

theorem addRel_step {O0 O : Nat → Bool} {A : Nat → Bool} {n j i : Nat} {c x y : Bool} (h : AddRel O0 O A n j i c) (hx : O (j + i) = x) (hy : ext A n i = y) :
    AddRel O0 (fun k => if k = j + i then ((x != y) != c) else O k) A n j (i + 1) ((x && y) || (x && c) || (y && c)) := by
  obtain ⟨h1, h2⟩ := h
  refine ⟨fun k hk => ?_, ?_⟩
  · show (if k = j + i then _ else O k) = _
    rw [if_neg (by omega)]; exact h1 k (by omega)
  · have e : j + (i + 1) = (j + i) + 1 := by omega
    have hc : bv (fun k => if k = j + i then ((x != y) != c) else O k) (j + i) = bv O (j + i) := bv_congr (fun k hk => by rw [if_neg (by omega)])
    have hx0 : O0 (j + i) = x := by rw [← hx]; exact (h1 (j + i) (Nat.le_refl _)).symm
    rw [e]
    simp only [bv, hc, if_true, hx0, hy]
    have hf := full_add x y c
    generalize ((x != y) != c).toNat = s at hf ⊢
    generalize ((x && y) || (x && c) || (y && c)).toNat = d at hf ⊢
    rw [Nat.pow_succ, Nat.mul_add, ← Nat.mul_assoc (2 ^ j), Nat.mul_comm (2 ^ j) y.toNat, Nat.mul_assoc y.toNat, ← Nat.pow_add]
    have e2 : s * 2 ^ (j + i) + d * (2 ^ (j + i) * 2) = (s + 2 * d) * 2 ^ (j + i) := by rw [Nat.add_mul, Nat.mul_comm (2 ^ (j + i)) 2, ← Nat.mul_assoc, Nat.mul_comm d 2]
    rw [Nat.add_assoc, e2, hf, Nat.add_mul, Nat.add_mul]
    omega

/-- When the whole row has been added nothing is carried out of the top. -/
theorem addRel_end {O0 O : Nat → Bool} {A B : Nat → Bool} {n m j i : Nat} {c : Bool} (h : AddRel O0 O A n j i c) (hi : j + i = n + m) (hj : j < m) (h0 : bv O0 (n + m) = bv A n * bv B j) (hb : B j = true) :
    bv O (n + m) = bv A n * bv B (j + 1) := by
  obtain ⟨_, h2⟩ := h
  rw [hi, bv_ext A n i (by omega), h0] at h2
  have e : bv A n * bv B (j + 1) = bv A n * bv B j + 2 ^ j * bv A n := by
    simp only [bv, hb, Bool.toNat_true, Nat.one_mul]; rw [Nat.mul_add, Nat.mul_comm (2 ^ j)]
  rw [← e] at h2
  have hl : bv A n * bv B (j + 1) < 2 ^ (n + m) := by
    have a1 := bv_lt A n
    have a2 := bv_lt B (j + 1)
    have a3 : bv A n * bv B (j + 1) < 2 ^ n * 2 ^ (j + 1) := Nat.mul_lt_mul_of_lt_of_le a1 (Nat.le_of_lt a2) (Nat.pow_pos (by omega))
    rw [← Nat.pow_add] at a3
    exact Nat.lt_of_lt_of_le a3 (Nat.pow_le_pow_right (by omega) (by omega))
  cases c
  · simpa using h2
  · simp at h2; omega

theorem mul_skip {O : Nat → Bool} {A B : Nat → Bool} {n m j : Nat} (h0 : bv O (n + m) = bv A n * bv B j) (hb : B j = false) : bv O (n + m) = bv A n * bv B (j + 1) := by
  simp [bv, hb, h0]

/-! ### limbs of bits -/

theorem bv_add (T : Nat → Bool) (a b : Nat) : bv T (a + b) = bv T a + 2 ^ a * bv (fun k => T (a + k)) b := by
  induction b with
  | zero => simp [bv]
  | succ b ih =>
    have e : a + (b + 1) = (a + b) + 1 := by omega
    rw [e]; simp only [bv]; rw [ih, Nat.pow_add, Nat.mul_add, Nat.add_assoc, Nat.mul_left_comm]

def limbsOf (T : Nat → Bool) (q : Nat) : Nat := bv (fun k => T (32 * q + k)) 32

theorem limbsOf_lt (T : Nat → Bool) (q : Nat) : limbsOf T q < 4294967296 := bv_lt _ 32

theorem lv_limbs (T : Nat → Bool) (c : Nat) : lv (limbsOf T) c = bv T (32 * c) := by
  induction c with
  | zero => rfl
  | succ c ih => rw [Nat.mul_add, bv_add]; simp only [lv, ih, limbsOf, Nat.mul_comm]

/-- One step of the inner loop, from the top. -/
theorem bv_front (T : Nat → Bool) (r : Nat) : bv T (r + 1) = 2 * bv (fun k => T (k + 1)) r + (T 0).toNat := by
  rw [Nat.add_comm r 1, bv_add]
  simp only [bv, Nat.pow_zero, Nat.mul_one, Nat.zero_add, Nat.pow_one]
  rw [Nat.add_comm]
  congr 2
  exact bv_congr (fun j _ => by rw [Nat.add_comm])

theorem limbs_top (T : Nat → Bool) (m q : Nat) (h1 : 32 * q < m) (h2 : m ≤ 32 * (q + 1)) (ht : T (m - 1) = true) : limbsOf T q ≠ 0 := by
  intro h
  unfold limbsOf at h
  have e : ∀ n, bv (fun k => T (32 * q + k)) n = 0 → ∀ k, k < n → T (32 * q + k) = false := by
    intro n
    induction n with
    | zero => intro _ k hk; omega
    | succ n ih =>
      intro hn k hk
      simp only [bv] at hn
      have hp : 0 < 2 ^ n := Nat.pow_pos (by omega)
      by_cases c : k = n
      · subst c
        cases hT : T (32 * q + k)
        · rfl
        · rw [hT] at hn; simp at hn
      · exact ih (by omega) k (by omega)
  have := e 32 h (m - 1 - 32 * q) (by omega)
  rw [show 32 * q + (m - 1 - 32 * q) = m - 1 by omega, ht] at this
  cases this

/-! ### the product of limbs: one row is added -/

/-- What holds when j limbs of the row have been added at place i. -/
def MulRel (P0 P : Nat → Nat) (a : Nat) (B : Nat → Nat) (i j c : Nat) : Prop :=
  (∀ k, i + j ≤ k → P k = P0 k) ∧ (∀ k, P k < 4294967296) ∧ c < 4294967296 ∧ lv P (i + j) + c * 2 ^ (32 * (i + j)) = lv P0 (i + j) + a * lv B j * 2 ^ (32 * i)

theorem mulRel_start {P : Nat → Nat} (hP : ∀ k, P k < 4294967296) (a : Nat) (B : Nat → Nat) (i : Nat) : MulRel P P a B i 0 0 := ⟨fun _ _ => rfl, hP, by omega, by simp [lv]⟩

theorem mulRel_sum {P0 P : Nat → Nat} {a : Nat} {B : Nat → Nat} {i j c : Nat} (h : MulRel P0 P a B i j c) (ha : a < 4294967296) (hb : B j < 4294967296) :
    a * B j + P (i + j) + c < 18446744073709551616 ∧ a * B j + P (i + j) < 18446744073709551616 ∧ a * B j < 18446744073709551616 := by
  have h1 : a * B j ≤ 4294967295 * 4294967295 := Nat.mul_le_mul (by omega) (by omega)
  have h2 := h.2.1 (i + j)
  have h3 := h.2.2.1
  omega

theorem mulRel_step {P0 P : Nat → Nat} {a : Nat} {B : Nat → Nat} {i j c s : Nat} (h : MulRel P0 P a B i j c) (ha : a < 4294967296) (hb : B j < 4294967296) (hs : s = a * B j + P (i + j) + c) :
    MulRel P0 (fun k => if k = i + j then s % 4294967296 else P k) a B i (j + 1) (s / 4294967296) := by
  have hsum := (mulRel_sum h ha hb).1
  rw [← hs] at hsum
  obtain ⟨h1, h2, h3, h4⟩ := h
  refine ⟨fun k hk => ?_, fun k => ?_, by omega, ?_⟩
  · show (if k = i + j then _ else P k) = _
    rw [if_neg (by omega)]; exact h1 k (by omega)
  · show (if k = i + j then _ else P k) < _
    split
    · omega
    · exact h2 k
  · have e : i + (j + 1) = (i + j) + 1 := by omega
    have hc : lv (fun k => if k = i + j then s % 4294967296 else P k) (i + j) = lv P (i + j) := lv_congr (fun k hk => by rw [if_neg (by omega)])
    have hx0 : P0 (i + j) = P (i + j) := (h1 (i + j) (Nat.le_refl _)).symm
    rw [e, pow32]
    simp only [lv, hc, if_true, hx0]
    have e2 : s % 4294967296 * 2 ^ (32 * (i + j)) + s / 4294967296 * (4294967296 * 2 ^ (32 * (i + j))) = s * 2 ^ (32 * (i + j)) := by
      rw [← Nat.mul_assoc, ← Nat.add_mul]; congr 1; omega
    have e4 : a * (lv B j + B j * 2 ^ (32 * j)) * 2 ^ (32 * i) = a * lv B j * 2 ^ (32 * i) + a * B j * 2 ^ (32 * (i + j)) := by
      rw [Nat.mul_add, Nat.add_mul, ← Nat.mul_assoc, Nat.mul_assoc (a * B j), ← Nat.pow_add, show 32 * j + 32 * i = 32 * (i + j) by omega]
    rw [Nat.add_assoc, e2, e4, hs]
    generalize 2 ^ (32 * (i + j)) = q at *
    rw [Nat.add_mul, Nat.add_mul]
    omega

theorem mulRel_end {P0 P : Nat → Nat} {A B : Nat → Nat} {i m c : Nat} (h : MulRel P0 P (A i) B i m c) (h0 : lv P0 (i + m) = lv A i * lv B m) :
    lv (fun k => if k = i + m then c else P k) (i + 1 + m) = lv A (i + 1) * lv B m := by
  obtain ⟨h1, h2, h3, h4⟩ := h
  have e : i + 1 + m = (i + m) + 1 := by omega
  have hc : lv (fun k => if k = i + m then c else P k) (i + m) = lv P (i + m) := lv_congr (fun k hk => by rw [if_neg (by omega)])
  rw [e]
  simp only [lv, hc, if_true]
  rw [h4, h0, Nat.add_mul, Nat.mul_right_comm]

end Go.Proofs.Ytigggjcnnlidgaa
