/-
  Plain mathematics: the least bit that is set.
-/
import Derived.Test.YtickondjmilehabDoorMath7
namespace Go.Proofs.YtickondjmilehabDoor

theorem two_part (x : Nat) (h : 0 < x) : ∃ s k, x = 2 ^ s * (2 * k + 1) := by
  induction x using Nat.strongRecOn with
  | _ x ih =>
    by_cases e : x % 2 = 1
    · exact ⟨0, x / 2, by simp; omega⟩
    · obtain ⟨s, k, hk⟩ := ih (x / 2) (by omega) (by omega)
      refine ⟨s + 1, k, ?_⟩
      rw [Nat.pow_succ, Nat.mul_comm (2 ^ s) 2, Nat.mul_assoc, ← hk]; omega

theorem and_shift (s a b : Nat) : (2 ^ s * a) &&& (2 ^ s * b) = 2 ^ s * (a &&& b) := by
  have := Nat.shiftLeft_and_distrib (a := a) (b := b) (i := s)
  rw [Nat.shiftLeft_eq, Nat.shiftLeft_eq, Nat.shiftLeft_eq] at this
  rw [Nat.mul_comm (2 ^ s) a, Nat.mul_comm (2 ^ s) b, Nat.mul_comm (2 ^ s) (a &&& b)]
  exact this.symm

theorem and_compl (k n : Nat) (h : k < 2 ^ n) : k &&& (2 ^ n - (k + 1)) = 0 := by
  apply Nat.eq_of_testBit_eq
  intro i
  rw [Nat.testBit_and, Nat.testBit_two_pow_sub_succ h]
  cases Nat.testBit k i <;> simp

theorem and_odd (k m : Nat) (h : k &&& m = 0) : (2 * k + 1) &&& (2 * m + 1) = 1 := by
  apply Nat.eq_of_testBit_eq
  intro i
  cases i with
  | zero => simp [Nat.testBit_zero]
  | succ i =>
    rw [Nat.testBit_and, Nat.testBit_succ, Nat.testBit_succ, show (2 * k + 1) / 2 = k by omega, show (2 * m + 1) / 2 = m by omega, ← Nat.testBit_and, h, Nat.testBit_succ]

theorem low_bit {x s k : Nat} (hx : x < 4294967296) (h : x = 2 ^ s * (2 * k + 1)) : s < 32 ∧ x &&& (4294967296 - x) = 2 ^ s := by
  have hs : s < 32 := by
    by_cases c : s < 32
    · exact c
    · have h1 : 2 ^ 32 ≤ 2 ^ s := Nat.pow_le_pow_right (by omega) (by omega)
      have h2 : 2 ^ s * 1 ≤ 2 ^ s * (2 * k + 1) := Nat.mul_le_mul_left _ (by omega)
      omega
  refine ⟨hs, ?_⟩
  have hp : 2 ^ s * 2 ^ (31 - s) * 2 = 4294967296 := by rw [← Nat.pow_add, show s + (31 - s) = 31 by omega]
  have hk : k < 2 ^ (31 - s) := by
    by_cases c : k < 2 ^ (31 - s)
    · exact c
    · have h1 : 2 ^ s * (2 * 2 ^ (31 - s)) ≤ 2 ^ s * (2 * k) := Nat.mul_le_mul_left _ (by omega)
      rw [Nat.mul_comm 2 (2 ^ (31 - s)), ← Nat.mul_assoc, hp] at h1
      rw [Nat.mul_add] at h
      omega
  have e : 4294967296 - x = 2 ^ s * (2 * (2 ^ (31 - s) - (k + 1)) + 1) := by
    have e1 : 2 * (2 ^ (31 - s) - (k + 1)) + 1 = 2 * 2 ^ (31 - s) - (2 * k + 1) := by omega
    rw [e1, Nat.mul_sub, ← h, Nat.mul_comm 2 (2 ^ (31 - s)), ← Nat.mul_assoc, hp]
  rw [e, h, and_shift, and_odd _ _ (and_compl k _ hk), Nat.mul_one]

/-- The table of the least bit's place, as the program's text lays it. -/
def deB : List Nat := [0, 1, 28, 2, 29, 14, 24, 3, 30, 22, 20, 15, 25, 17, 4, 8, 31, 27, 13, 23, 21, 19, 16, 7, 26, 12, 18, 6, 11, 5, 10, 9]

theorem deB_at : ∀ s : Fin 32, 2 ^ s.val * 125613361 % 4294967296 / 134217728 < 32 ∧ deB.getD (2 ^ s.val * 125613361 % 4294967296 / 134217728) 0 = s.val := by decide

/-- The twos in a number of limbs: i limbs of zeros, then a limb with s of them. -/
theorem lv_twos {X : Nat → Nat} {n i s k : Nat} (hi : i < n) (hz : ∀ j, j < i → X j = 0) (hx : X i = 2 ^ s * (2 * k + 1)) (hs : s < 32) : ∃ q, lv X n = 2 ^ (32 * i + s) * (2 * q + 1) := by
  have e0 : lv X i = 0 := by rw [lv_more X 0 i (by omega) (fun j _ hj => hz j hj)]; rfl
  have e1 : lv X n = lv X (i + 1) + 2 ^ (32 * (i + 1)) * lv (fun t => X (i + 1 + t)) (n - (i + 1)) := by
    have := lv_add X (i + 1) (n - (i + 1))
    rw [show i + 1 + (n - (i + 1)) = n by omega] at this; exact this
  have e2 : lv X (i + 1) = 2 ^ (32 * i + s) * (2 * k + 1) := by
    simp only [lv, e0, Nat.zero_add]
    rw [hx, Nat.pow_add, Nat.mul_right_comm, Nat.mul_comm (2 ^ s)]
  generalize lv (fun t => X (i + 1 + t)) (n - (i + 1)) = r at *
  refine ⟨k + 2 ^ (31 - s) * r, ?_⟩
  rw [e1, e2]
  have e3 : 2 ^ (32 * (i + 1)) = 2 ^ (32 * i + s) * (2 * 2 ^ (31 - s)) := by
    have h1 : 32 * (i + 1) = (32 * i + s) + ((31 - s) + 1) := by omega
    rw [h1, Nat.pow_add, Nat.pow_succ, Nat.mul_comm (2 ^ (31 - s)) 2]
  rw [e3, Nat.mul_assoc (2 ^ (32 * i + s)), ← Nat.mul_add]
  have e4 : 2 * k + 1 + 2 * 2 ^ (31 - s) * r = 2 * (k + 2 ^ (31 - s) * r) + 1 := by rw [Nat.mul_add, Nat.mul_assoc]; omega
  rw [e4]

end Go.Proofs.YtickondjmilehabDoor
