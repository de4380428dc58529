/-
  Plain mathematics: greatest common divisors.
-/
import Derived.Test.YtickondjmilehabDoorMath6
namespace Go.Proofs.YtickondjmilehabDoor

theorem gcd_twice (a b : Nat) : Nat.gcd (2 * a) (2 * b) = 2 * Nat.gcd a b := Nat.gcd_mul_left 2 a b

theorem cop2 {b : Nat} (h : b % 2 = 1) : Nat.Coprime 2 b := by
  unfold Nat.Coprime
  rw [Nat.gcd_rec, h]
  rfl

theorem gcd_half_left {a b : Nat} (h : b % 2 = 1) : Nat.gcd (2 * a) b = Nat.gcd a b := Nat.Coprime.gcd_mul_left_cancel a (cop2 h)
theorem gcd_half_right {a b : Nat} (h : a % 2 = 1) : Nat.gcd a (2 * b) = Nat.gcd a b := by rw [Nat.gcd_comm, gcd_half_left h, Nat.gcd_comm]

theorem gcd_sub_left {a b : Nat} (h : b ≤ a) : Nat.gcd (a - b) b = Nat.gcd a b := by
  have e : a = (a - b) + b := by omega
  have h2 : Nat.gcd ((a - b) + b) b = Nat.gcd (a - b) b := Nat.gcd_add_self_left b (a - b)
  rw [← e] at h2; exact h2.symm
theorem gcd_sub_right {a b : Nat} (h : a ≤ b) : Nat.gcd a (b - a) = Nat.gcd a b := by rw [Nat.gcd_comm, gcd_sub_left h, Nat.gcd_comm]

theorem gcd_pow2_left {a b k : Nat} (h : b % 2 = 1) : Nat.gcd (2 ^ k * a) b = Nat.gcd a b := by
  induction k with
  | zero => simp
  | succ k ih => rw [Nat.pow_succ, Nat.mul_comm (2 ^ k) 2, Nat.mul_assoc, gcd_half_left h, ih]
theorem gcd_pow2_right {a b k : Nat} (h : a % 2 = 1) : Nat.gcd a (2 ^ k * b) = Nat.gcd a b := by rw [Nat.gcd_comm, gcd_pow2_left h, Nat.gcd_comm]

/-- The twos of two numbers come out by themselves. -/
theorem gcd_twos {a b i j : Nat} (ha : a % 2 = 1) (hb : b % 2 = 1) : Nat.gcd (2 ^ i * a) (2 ^ j * b) = 2 ^ (min i j) * Nat.gcd a b := by
  rcases Nat.le_total i j with h | h
  · rw [Nat.min_eq_left h, show j = i + (j - i) by omega, Nat.pow_add, Nat.mul_assoc, Nat.gcd_mul_left, gcd_pow2_right ha]
  · rw [Nat.min_eq_right h, show i = j + (i - j) by omega, Nat.pow_add, Nat.mul_assoc, Nat.gcd_mul_left, gcd_pow2_left hb]

/-! ### bits from a place on -/

def sh (A : Nat → Bool) (k : Nat) : Nat → Bool := fun j => A (j + k)

theorem bv_sh (A : Nat → Bool) (n : Nat) (h : 0 < n) : bv A n = 2 * bv (sh A 1) (n - 1) + (A 0).toNat := by
  obtain ⟨m, rfl⟩ : ∃ m, n = m + 1 := ⟨n - 1, by omega⟩
  rw [bv_front]; rfl

theorem bv_even {A : Nat → Bool} {n : Nat} (h : 0 < n) (h0 : A 0 = false) : bv A n = 2 * bv (sh A 1) (n - 1) := by rw [bv_sh A n h, h0]; simp
theorem bv_odd {A : Nat → Bool} {n : Nat} (h : 0 < n) (h0 : A 0 = true) : bv A n % 2 = 1 := by rw [bv_sh A n h, h0]; simp

/-- Zeros laid ahead of a list. -/
def zeros (k : Nat) (B : Nat → Bool) : Nat → Bool := fun j => if j < k then false else B (j - k)
theorem bv_zeros (k : Nat) (B : Nat → Bool) (n : Nat) : bv (zeros k B) (k + n) = 2 ^ k * bv B n := by
  rw [bv_add]
  have e1 : bv (zeros k B) k = 0 := by rw [bv_more (zeros k B) 0 k (by omega) (fun j _ hj => by simp [zeros, hj])]; rfl
  have e2 : bv (fun j => zeros k B (k + j)) n = bv B n := bv_congr (fun j _ => by simp [zeros])
  rw [e1, e2]; simp

end Go.Proofs.YtickondjmilehabDoor
