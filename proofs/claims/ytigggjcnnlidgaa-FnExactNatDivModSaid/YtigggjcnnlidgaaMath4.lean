/-
  Plain mathematics: shifts of limbs.
-/
import Derived.Test.YtigggjcnnlidgaaMath3
namespace Go.Proofs.Ytigggjcnnlidgaa

theorem or_low (i x y : Nat) (hx : x % 2 ^ i = 0) (hy : y < 2 ^ i) : y ||| x = x + y := by
  have hq : x = 2 ^ i * (x / 2 ^ i) := by
    have := Nat.div_add_mod x (2 ^ i)
    omega
  rw [Nat.or_comm, hq, ← Nat.two_pow_add_eq_or_of_lt hy (x / 2 ^ i)]

theorem pow_le32 (p : Nat) (hp : p ≤ 32) : 2 ^ p ≤ 4294967296 := by
  have : 2 ^ p ≤ 2 ^ 32 := Nat.pow_le_pow_right (by omega) hp
  omega

theorem pow_split (p : Nat) (hp : p ≤ 32) : 2 ^ p * 2 ^ (32 - p) = 4294967296 := by
  rw [← Nat.pow_add, show p + (32 - p) = 32 by omega]

/-- The low half of x shifted left by p is a multiple of 2^p. -/
theorem low_mod (x p : Nat) (hp : p ≤ 32) : (x * 2 ^ p % 4294967296) % 2 ^ p = 0 := by
  rw [← pow_split p hp, Nat.mod_mul_right_mod]
  exact Nat.mul_mod_left _ _

theorem high_lt (x p : Nat) (hx : x < 4294967296) : x * 2 ^ p / 4294967296 < 2 ^ p := by
  rw [Nat.div_lt_iff_lt_mul (by omega), Nat.mul_comm]
  exact Nat.mul_lt_mul_of_pos_left hx (Nat.pow_pos (by omega))

theorem low_room (x p s : Nat) (hp : p ≤ 32) (hs : s < 2 ^ p) : x * 2 ^ p % 4294967296 + s < 4294967296 := by
  have h1 : x * 2 ^ p % 4294967296 < 4294967296 := Nat.mod_lt _ (by omega)
  have h2 := low_mod x p hp
  have h3 := pow_split p hp
  have h4 := Nat.div_add_mod (x * 2 ^ p % 4294967296) (2 ^ p)
  rw [h2, Nat.add_zero] at h4
  generalize x * 2 ^ p % 4294967296 = l at *
  generalize l / 2 ^ p = q at *
  have hq : q < 2 ^ (32 - p) := by
    by_cases h : q < 2 ^ (32 - p)
    · exact h
    · have : 2 ^ p * 2 ^ (32 - p) ≤ 2 ^ p * q := Nat.mul_le_mul_left _ (by omega)
      omega
  have h5 : 2 ^ p * (q + 1) ≤ 2 ^ p * 2 ^ (32 - p) := Nat.mul_le_mul_left _ hq
  rw [Nat.mul_add] at h5
  omega

def ShlRel (X S : Nat → Nat) (whole p i : Nat) : Prop := lv S (i + whole + 1) = lv X i * 2 ^ (32 * whole + p) ∧ S (i + whole) < 2 ^ p ∧ ∀ k, S k < 4294967296

theorem shlRel_start (X : Nat → Nat) (whole p : Nat) : ShlRel X (fun _ => 0) whole p 0 :=
  ⟨by rw [lv_more (fun _ => 0) 0 (0 + whole + 1) (by omega) (fun _ _ _ => rfl)]; simp [lv], Nat.pow_pos (by omega), fun _ => by show 0 < _; omega⟩

theorem shlRel_step {X S : Nat → Nat} {whole p i : Nat} (h : ShlRel X S whole p i) (hp : p < 32) (hx : X i < 4294967296) :
    ShlRel X (upd (upd S (i + whole) (X i * 2 ^ p % 4294967296 + S (i + whole))) (i + whole + 1) (X i * 2 ^ p / 4294967296)) whole p (i + 1) := by
  obtain ⟨h1, h2, h3⟩ := h
  have hr := low_room (X i) p _ (by omega) h2
  have hh := high_lt (X i) p hx
  have hp2 := pow_le32 p (by omega)
  refine ⟨?_, ?_, fun k => ?_⟩
  · have e : i + 1 + whole + 1 = (i + whole + 1) + 1 := by omega
    rw [e]
    simp only [lv, upd_same]
    rw [lv_upd _ _ _ _ (by omega), lv_upd _ _ _ _ (by omega), upd_other _ _ _ _ (by omega), upd_same]
    simp only [lv] at h1
    rw [Nat.add_mul (X i * 2 ^ p % 4294967296), pow32]
    have e2 : X i * 2 ^ p % 4294967296 * 2 ^ (32 * (i + whole)) + X i * 2 ^ p / 4294967296 * (4294967296 * 2 ^ (32 * (i + whole))) = X i * 2 ^ p * 2 ^ (32 * (i + whole)) := by
      rw [← Nat.mul_assoc, ← Nat.add_mul]; congr 1; omega
    have e3 : (lv X i + X i * 2 ^ (32 * i)) * 2 ^ (32 * whole + p) = lv X i * 2 ^ (32 * whole + p) + X i * 2 ^ p * 2 ^ (32 * (i + whole)) := by
      rw [Nat.add_mul, Nat.mul_assoc (X i), Nat.mul_assoc (X i), ← Nat.pow_add, ← Nat.pow_add, show 32 * i + (32 * whole + p) = p + 32 * (i + whole) by omega]
    rw [e3]
    omega
  · rw [show i + 1 + whole = i + whole + 1 by omega, upd_same]; exact hh
  · by_cases e1 : k = i + whole + 1
    · subst e1; rw [upd_same]; omega
    · rw [upd_other _ _ _ _ e1]
      by_cases e2 : k = i + whole
      · subst e2; rw [upd_same]; exact hr
      · rw [upd_other _ _ _ _ e2]; exact h3 k

/-! ### to the right -/

theorem lv_shr (X : Nat → Nat) (n whole : Nat) (h : whole ≤ n) (hX : ∀ j, j < n → X j < 4294967296) : lv (fun t => X (whole + t)) (n - whole) = lv X n / 2 ^ (32 * whole) := by
  have e := lv_add X whole (n - whole)
  rw [show whole + (n - whole) = n by omega] at e
  rw [e, Nat.add_mul_div_left _ _ (Nat.pow_pos (by omega)), Nat.div_eq_of_lt (lv_lt X whole (fun j hj => hX j (by omega))), Nat.zero_add]

/-- Each limb of the number shifted right by p < 32: from the limb and its upper neighbour. -/
def shrLimb (X : Nat → Nat) (n p j : Nat) : Nat := ((X j + (if j + 1 < n then X (j + 1) else 0) * 4294967296) / 2 ^ p) % 4294967296

theorem shrLimb_lt (X : Nat → Nat) (n p j : Nat) : shrLimb X n p j < 4294967296 := Nat.mod_lt _ (by omega)

theorem hl_div (X : Nat → Nat) (n p i : Nat) (hp : p < 32) (hi : i ≤ n) (hX : ∀ j, j < n → X j < 4294967296) : hl (shrLimb X n p) i n = hl X i n / 2 ^ p := by
  obtain ⟨d, hd⟩ : ∃ d, d = n - i := ⟨_, rfl⟩
  induction d generalizing i with
  | zero =>
    have e : i = n := by omega
    subst e
    simp [hl_top]
  | succ d ih =>
    have hi' : i < n := by omega
    rw [hl_step _ i n hi', hl_step X i n hi', ih (i + 1) (by omega) (by omega)]
    have hs := pow_split p (by omega)
    have hpp : 0 < 2 ^ p := Nat.pow_pos (by omega)
    have hqp : 0 < 2 ^ (32 - p) := Nat.pow_pos (by omega)
    have hx := hX i hi'
    have hH : hl X (i + 1) n % 4294967296 = (if i + 1 < n then X (i + 1) else 0) := by
      by_cases h2 : i + 1 < n
      · rw [if_pos h2, hl_step X (i + 1) n h2]
        have := hX (i + 1) h2
        omega
      · rw [if_neg h2, show i + 1 = n by omega, hl_top]
    unfold shrLimb
    rw [← hH]
    generalize hl X (i + 1) n = H at *
    generalize X i = x at *
    -- (b * H + x) / P = b * (H / P) + ((x + (H % b) * b) / P) % b, with b = P * Q
    generalize hP : 2 ^ p = P at *
    generalize hQ : 2 ^ (32 - p) = Q at *
    have key : (4294967296 * H + x) / P = Q * H + x / P := by
      rw [← hs, Nat.mul_assoc, Nat.mul_add_div hpp]
    have key2 : (x + H % 4294967296 * 4294967296) / P = x / P + Q * (H % 4294967296) := by
      rw [Nat.mul_comm (H % 4294967296), ← hs, Nat.mul_assoc, Nat.add_comm, Nat.mul_add_div hpp, Nat.add_comm]
    rw [key, key2]
    -- Q * H + x / P = b * (H / P) + (x / P + Q * (H % b)) % b
    have hxP : x / P < Q := by
      rw [Nat.div_lt_iff_lt_mul hpp, Nat.mul_comm, hs]; exact hx
    have e1 : H = 4294967296 * (H / 4294967296) + H % 4294967296 := (Nat.div_add_mod _ _).symm
    have e2 : Q * H = 4294967296 * (H / P) + Q * (H % P) := by
      have h := Nat.div_add_mod H P
      have h2 : Q * H = Q * (P * (H / P) + H % P) := by rw [h]
      rw [h2, Nat.mul_add, ← Nat.mul_assoc, Nat.mul_comm Q P, hs]
    have e3 : (x / P + Q * (H % 4294967296)) % 4294967296 = x / P + Q * (H % P) := by
      have hm : H % 4294967296 % P = H % P := by rw [← hs]; exact Nat.mod_mul_right_mod _ _ _
      have h := Nat.div_add_mod (H % 4294967296) P
      rw [hm] at h
      have h2 : Q * (H % 4294967296) = 4294967296 * (H % 4294967296 / P) + Q * (H % P) := by
        have h3 : Q * (H % 4294967296) = Q * (P * (H % 4294967296 / P) + H % P) := by rw [h]
        rw [h3, Nat.mul_add, ← Nat.mul_assoc, Nat.mul_comm Q P, hs]
      have hlt : x / P + Q * (H % P) < 4294967296 := by
        have h4 : Q * (H % P + 1) ≤ Q * P := Nat.mul_le_mul_left _ (Nat.mod_lt _ hpp)
        rw [Nat.mul_add, Nat.mul_comm Q P, hs] at h4
        omega
      rw [h2, show x / P + (4294967296 * (H % 4294967296 / P) + Q * (H % P)) = (x / P + Q * (H % P)) + 4294967296 * (H % 4294967296 / P) by omega, Nat.add_mul_mod_self_left, Nat.mod_eq_of_lt hlt]
    rw [e2, e3]
    omega

theorem lv_shrLimb (X : Nat → Nat) (n p : Nat) (hp : p < 32) (hX : ∀ j, j < n → X j < 4294967296) : lv (shrLimb X n p) n = lv X n / 2 ^ p := by
  have := hl_div X n p 0 hp (Nat.zero_le _) hX
  rwa [hl_zero, hl_zero] at this

end Go.Proofs.Ytigggjcnnlidgaa
