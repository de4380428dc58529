import Derived.Test.YthaomfabdghfjaaG1P12
import Derived.Test.YthaomfabdghfjaaOwnP1
import Derived.Deep.RegionHeld3
import Derived.Test.YthaomfabdghfjaaG1P3
namespace Go.Proofs.Ythaomfabdghfjaa
open Go.RowKit

/-- A list of limbs is plain: no zero limb at its end. -/
def plainB (X : Nat → Nat) (n : Nat) : Bool := n == 0 || X (n - 1) != 0

theorem plainB_iff {X : Nat → Nat} {n : Nat} : plainB X n = true ↔ (0 < n → X (n - 1) ≠ 0) := by
  unfold plainB
  rcases Nat.eq_zero_or_pos n with h | h
  · simp [h]
  · have : n ≠ 0 := by omega
    simp [this, h]

set_option maxHeartbeats 800000 in
set_option maxRecDepth 100000 in
theorem l1Plain_any (a : Option Addr) (b off n cap : Nat) (X : Nat → Nat) (w : World) (hn : n ≤ 1048576) (hX : Limbs w a b off n X) :
    Calls Try.prog 33 #[.slice a n cap] w fun e w' => e = .returned (.bool (plainB X n)) ∧ w' = w := by
  by_cases h0 : n = 0
  · subst h0
    go_enter Try.func33, Try.ntmps33
    go_wp2
    go_ret
    exact ⟨rfl, rfl⟩
  · obtain ⟨k, rfl⟩ : ∃ k, n = k + 1 := ⟨n - 1, by omega⟩
    obtain ⟨rfl, hc⟩ := hX k (by omega)
    have hp : Ending.returned (.bool ((k : Int) + 1 == 0 || (X k : Int) != 0)) = .returned (.bool (plainB X (k + 1))) := by
      have h : ((k : Int) + 1 == 0 || (X k : Int) != 0) = plainB X (k + 1) := by
        rw [Bool.eq_iff_iff]; simp [plainB]; omega
      rw [h]
    have hp := hide hp
    go_enter Try.func33, Try.ntmps33
    go_wp2
    go_ret
    exact ⟨hp.out, rfl⟩

set_option maxHeartbeats 800000 in
set_option maxRecDepth 100000 in
theorem isPlain_any (a : Option Addr) (b off n cap : Nat) (X : Nat → Nat) (w : World) (hn : n ≤ 1048576) (hX : Limbs w a b off n X) :
    Calls Try.prog 28 #[.slice a n cap] w fun e w' => e = .returned (.bool (plainB X n)) ∧ w' = w := by
  by_cases h0 : n = 0
  · subst h0
    go_enter Try.func28, Try.ntmps28
    go_wp2
    go_ret
    exact ⟨rfl, rfl⟩
  · obtain ⟨k, rfl⟩ : ∃ k, n = k + 1 := ⟨n - 1, by omega⟩
    obtain ⟨rfl, hc⟩ := hX k (by omega)
    have hp : Ending.returned (.bool ((k : Int) + 1 == 0 || (X k : Int) != 0)) = .returned (.bool (plainB X (k + 1))) := by
      have h : ((k : Int) + 1 == 0 || (X k : Int) != 0) = plainB X (k + 1) := by
        rw [Bool.eq_iff_iff]; simp [plainB]; omega
      rw [h]
    have hp := hide hp
    go_enter Try.func28, Try.ntmps28
    go_wp2
    go_ret
    exact ⟨hp.out, rfl⟩

set_option maxHeartbeats 800000 in
set_option maxRecDepth 100000 in
/-- l1Small on a list of at most one limb. -/
theorem l1Small_any (a : Option Addr) (b off n cap : Nat) (X : Nat → Nat) (w : World) (hn : n ≤ 1) (hX : Limbs w a b off n X) (hXl : ∀ j, j < n → X j < 4294967296) :
    Calls Try.prog 36 #[.slice a n cap] w fun e w' => e = .returned (.int .u64 (lv X n : Nat)) ∧ w' = w := by
  by_cases h0 : n = 0
  · subst h0
    go_enter Try.func36, Try.ntmps36
    go_wp2
    go_ret
    exact ⟨rfl, rfl⟩
  · have e : n = 1 := by omega
    subst e
    obtain ⟨rfl, hc⟩ := hX 0 (by omega)
    have hl := hXl 0 (by omega)
    rw [Nat.add_zero] at hc
    have he : lv X 1 = X 0 := by simp [lv]
    rw [he]
    clear he hXl
    go_enter Try.func36, Try.ntmps36
    go_wp2
    go_ret
    exact ⟨rfl, rfl⟩

set_option maxHeartbeats 800000 in
set_option maxRecDepth 100000 in
theorem l1GcdSmall_any (x y : Nat) (w : World) (hx : x < 18446744073709551616) (hy : y < 18446744073709551616) :
    Calls Try.prog 35 #[.int .u64 x, .int .u64 y] w fun e w' => e = .returned (.int .u64 (Nat.gcd x y)) ∧ w' = w := by
  go_enter Try.func35, Try.ntmps35
  go_wp2
  go_loopw [0, 1] (fun p q wr => ∃ s t : Nat, p = .int .u64 s ∧ q = .int .u64 t ∧ s < 18446744073709551616 ∧ t < 18446744073709551616 ∧ Hid (Nat.gcd s t = Nat.gcd x y) ∧ wr = w) (fun _ q _ => (intOf q).toNat)
  case atStart => exact ⟨x, y, rfl, rfl, hx, hy, rfl, rfl⟩
  case round =>
    obtain ⟨s, t, rfl, rfl, hs, ht, HG, rfl⟩ := hrel
    by_cases h0 : t = 0
    · subst h0
      go_wp2
      go_ret
      exact ⟨ret_int (congrArg (fun x : Nat => (x : Int)) (by have := HG.out; rwa [Nat.gcd_zero_right] at this)), rfl⟩
    · have hne : ((t : Int) == 0) = false := by simp; omega
      have hne2 : ¬ (t : Int) = 0 := by omega
      obtain ⟨r, hr⟩ : ∃ r, r = s % t := ⟨_, rfl⟩
      have hrl : r < t := by rw [hr]; exact Nat.mod_lt _ (by omega)
      have w1 : IntKind.u64.wrap ((s : Int) % (t : Int)) = (r : Int) := by rw [← Int.natCast_emod, ← hr]; exact wrap_u64_id r (by omega)
      have HR := hide hr
      clear hr h0
      go_wp2
      go_roundw
      case rel =>
        refine ⟨t, r, rfl, ?_, ht, by omega, ?_, by trivial⟩
        · first | rfl | exact congrArg (Value.int .u64) (by rw [HR.out, Int.natCast_emod])
        · have h := HG.out
          rw [Nat.gcd_comm, Nat.gcd_rec, ← HR.out, Nat.gcd_comm] at h
          exact h
      case measure => simp [intOf]; have := Int.emod_lt_of_pos (s : Int) (show (0 : Int) < (t : Int) by omega); omega

end Go.Proofs.Ythaomfabdghfjaa

namespace Go.Proofs.Ythaomfabdghfjaa
open Go.RowKit

/-- What RatOk says of a Rat. -/
def ratOkB (neg : Bool) (X : Nat → Nat) (n : Nat) (Y : Nat → Nat) (m : Nat) : Bool :=
  plainB X n && plainB Y m && m != 0 && !(neg && n == 0) && Nat.gcd (lv X n) (lv Y m) == 1

set_option maxHeartbeats 1600000 in
set_option maxRecDepth 100000 in
theorem implRatOk_any (neg : Bool) (a b : Option Addr) (ba oa n ca bb ob m cb : Nat) (X Y : Nat → Nat) (w : World) (_hw : 0 ≤ w.heap.size) (hn : n ≤ 1048576) (hm : m ≤ 1048576) (hnc : n ≤ ca) (hmc : m ≤ cb) (hac : a = none → ca = 0) (hbc : b = none → cb = 0)
    (hX : Limbs w a ba oa n X) (hY : Limbs w b bb ob m Y) (hXl : ∀ j, j < n → X j < 4294967296) (hYl : ∀ j, j < m → Y j < 4294967296) (_hT : Tab w) :
    Calls Try.prog 22 #[.agg #[.bool neg, .slice a n ca, .slice b m cb]] w fun e w' => e = .returned (.bool (ratOkB neg X n Y m)) ∧ w.Since w.heap.size w' := by
  have sA : w.Since w.heap.size (w.alloc (.cells #[.bool neg, .slice a n ca, .slice b m cb] 51)) := (World.Since.refl _ _).alloc (Nat.le_refl _) _
  have I1 := isPlain_any a ba oa n ca X _ hn (hX.keep sA)
  have I2 := isPlain_any b bb ob m cb Y _ hm (hY.keep sA)
  by_cases h1 : plainB X n = false
  · have HR := hide (show false = ratOkB neg X n Y m by simp [ratOkB, h1])
    rw [h1] at I1
    clear h1
    go_enter Try.func22, Try.ntmps22
    go_wp2_with fail
    refine I1.mono ?_
    rintro e w1 ⟨rfl, rfl⟩
    go_wp2
    go_ret
    exact ⟨ret_bool HR.out, sA⟩
  have h1 : plainB X n = true := by simpa using h1
  rw [h1] at I1
  by_cases h2 : plainB Y m = false
  · have HR := hide (show false = ratOkB neg X n Y m by simp [ratOkB, h2])
    rw [h2] at I2
    clear h1 h2
    go_enter Try.func22, Try.ntmps22
    go_wp2_with fail
    refine I1.mono ?_
    rintro e w1 ⟨rfl, rfl⟩
    go_wp2_with fail
    refine I2.mono ?_
    rintro e w1 ⟨rfl, rfl⟩
    go_wp2
    go_ret
    exact ⟨ret_bool HR.out, sA⟩
  have h2 : plainB Y m = true := by simpa using h2
  rw [h2] at I2
  have pX := hide (plainB_iff.1 h1)
  have pY := hide (plainB_iff.1 h2)
  by_cases h3 : m = 0
  · have HR := hide (show false = ratOkB neg X n Y m by simp [ratOkB, h3])
    clear h1 h2
    subst h3
    go_enter Try.func22, Try.ntmps22
    go_wp2_with fail
    refine I1.mono ?_
    rintro e w1 ⟨rfl, rfl⟩
    go_wp2_with fail
    refine I2.mono ?_
    rintro e w1 ⟨rfl, rfl⟩
    go_wp2
    go_ret
    exact ⟨ret_bool HR.out, sA⟩
  have q3 : ((m : Int) == 0) = false := by simp; omega
  by_cases h4 : neg = true ∧ n = 0
  · obtain ⟨rfl, rfl⟩ := h4
    have HR := hide (show false = ratOkB true X 0 Y m by simp [ratOkB])
    clear h1 h2
    go_enter Try.func22, Try.ntmps22
    go_wp2_with fail
    refine I1.mono ?_
    rintro e w1 ⟨rfl, rfl⟩
    go_wp2_with fail
    refine I2.mono ?_
    rintro e w1 ⟨rfl, rfl⟩
    go_wp2
    go_ret
    exact ⟨ret_bool HR.out, sA⟩
  have HR := hide (show (decide (Nat.gcd (lv X n) (lv Y m) = 1)) = ratOkB neg X n Y m by
    have e3 : (m != 0) = true := by simp [h3]
    have e4 : (neg && n == 0) = false := by cases neg <;> simp at h4 ⊢; exact h4
    rw [Bool.eq_iff_iff]
    simp [ratOkB, h1, h2, e3, e4])
  have q4 : (neg && (n : Int) == 0) = false := by
    cases neg
    · rfl
    · simp at h4 ⊢; omega
  have tA : Tab (w.alloc (.cells #[.bool neg, .slice a n ca, .slice b m cb] 51)) := trivial
  have I3 := gcdOf_any a b ba oa n ca bb ob m cb X Y _ (Nat.zero_le _) hn hm hnc hmc hac hbc (hX.keep sA) (hY.keep sA) hXl hYl pX.out pY.out tA
  clear h1 h2 h4 tA
  go_enter Try.func22, Try.ntmps22
  go_wp2_with fail
  refine I1.mono ?_
  rintro e w1 ⟨rfl, rfl⟩
  go_wp2_with fail
  refine I2.mono ?_
  rintro e w1 ⟨rfl, rfl⟩
  cases neg
  · clear q4
    go_wp2_with fail
    refine I3.mono ?_
    rintro e w3 ⟨v, g, rfl, ⟨a3, k, c3, Z, rfl, k1, k2, k3, L, F, l, p, e3⟩, hg, s3⟩
    have E := hide e3
    clear e3 I1 I2 I3
    go_wp2_with fail
    refine (isOne_any w3.heap.size 0 a3 g 0 k c3 Z _ (by simp [go_sem]) (L.keep ((World.Since.refl _ _).alloc (Nat.le_refl _) _)) l p).mono ?_
    rintro e w4 ⟨rfl, rfl⟩
    clear l p
    go_wp2
    go_ret
    exact ⟨ret_bool (by rw [E.out]; exact HR.out), (sA.trans (sinceMono s3 (by simp))).alloc (Nat.le_trans (by simp) s3.size) _⟩
  · have q5 : ((n : Int) == 0) = false := by simpa using q4
    clear q4
    go_wp2_with fail
    refine I3.mono ?_
    rintro e w3 ⟨v, g, rfl, ⟨a3, k, c3, Z, rfl, k1, k2, k3, L, F, l, p, e3⟩, hg, s3⟩
    have E := hide e3
    clear e3 I1 I2 I3
    go_wp2_with fail
    refine (isOne_any w3.heap.size 0 a3 g 0 k c3 Z _ (by simp [go_sem]) (L.keep ((World.Since.refl _ _).alloc (Nat.le_refl _) _)) l p).mono ?_
    rintro e w4 ⟨rfl, rfl⟩
    clear l p
    go_wp2
    go_ret
    exact ⟨ret_bool (by rw [E.out]; exact HR.out), (sA.trans (sinceMono s3 (by simp))).alloc (Nat.le_trans (by simp) s3.size) _⟩

end Go.Proofs.Ythaomfabdghfjaa

namespace Go.Proofs.Ythaomfabdghfjaa
open Go.RowKit

/-- The bits of a machine number. -/
def nb (v j : Nat) : Bool := v / 2 ^ j % 2 == 1

theorem bv_nb (v k : Nat) : bv (nb v) k = v % 2 ^ k := by
  induction k with
  | zero => simp [bv, Nat.mod_one]
  | succ k ih =>
    have h : bv (nb v) (k + 1) = bv (nb v) k + (nb v k).toNat * 2 ^ k := rfl
    rw [h, ih]
    unfold nb
    rw [toNat_beq, Nat.pow_succ, Nat.mod_mul, Nat.mul_comm (2 ^ k)]

set_option maxHeartbeats 1600000 in
set_option maxRecDepth 100000 in
theorem l1BitsOf_any (v : Nat) (w : World) (hv : v < 18446744073709551616) :
    Calls Try.prog 40 #[.int .u64 v] w fun e w' => ∃ x t B, e = .returned x ∧ t ≤ 64 ∧ Tr w' x t B ∧ bv B t = v ∧ w.Since w.heap.size w' := by
  obtain ⟨i0, hi, hz0, hz1, hz2⟩ := info_parts Try.info4
  go_enter Try.func40, Try.ntmps40
  go_wp2
  go_loopw [0, 3] (fun p o wr => ∃ k q : Nat, k ≤ 64 ∧ p = .int .u64 q ∧ q < 18446744073709551616 ∧ Hid (q = v / 2 ^ k) ∧ Hid (0 < k → 0 < v / 2 ^ (k - 1)) ∧ wr.ownsRow w.heap.size 4 1 o k (bl (nb v) k) ∧ w.Since w.heap.size wr) (fun p _ _ => (intOf p).toNat)
  case atStart => exact ⟨0, v, by omega, rfl, hv, hide (by simp), hide (fun h => absurd h (by omega)), World.ownsRow_made w #[] 0 (Nat.le_refl _) (by decide) rfl, (World.Since.refl _ _).alloc (Nat.le_refl _) _⟩
  case round =>
    obtain ⟨k, q, hk, rfl, hq, HQ, HP, hown, hs⟩ := hrel
    by_cases h0 : q = 0
    · subst h0
      obtain ⟨a', g, cap', rfl, hmc, hg, hB⟩ := own_bits hown
      go_wp2
      go_ret
      have hlt : v < 2 ^ k := by
        have := HQ.out
        have h2 : 0 < 2 ^ k := Nat.pow_pos (by omega)
        rcases Nat.lt_or_ge v (2 ^ k) with h | h
        · exact h
        · have := Nat.div_pos h h2; omega
      refine ⟨_, k, nb v, rfl, hk, ⟨a', g, 0, cap', rfl, hmc, hB, fun h => ?_⟩, (bv_nb v k).trans (Nat.mod_eq_of_lt hlt), hs⟩
      have h1 := HP.out h
      obtain ⟨j, rfl⟩ : ∃ j, k = j + 1 := ⟨k - 1, by omega⟩
      have h2 : v / 2 ^ j < 2 := by rw [Nat.div_lt_iff_lt_mul (Nat.pow_pos (by omega))]; rw [Nat.pow_succ] at hlt; omega
      simp only [Nat.add_sub_cancel] at h1 ⊢
      unfold nb
      rw [show v / 2 ^ j = 1 by omega]
      rfl
    · have hk2 : k < 64 := by
        rcases Nat.lt_or_ge k 64 with h | h
        · exact h
        · have e : k = 64 := by omega
          subst e
          have := HQ.out
          rw [Nat.div_eq_of_lt hv] at this
          omega
      have hne : 0 < q := by omega
      have hbit : ((q : Int) % 2 == 1) = nb v k := by
        rw [Bool.eq_iff_iff]
        simp only [nb, beq_iff_eq, ← HQ.out]
        omega
      have HB := hide hbit
      clear hbit h0
      go_wp2_with (at_builtin; refine wpList_append_own _ rfl _ _ 68 rfl w.heap.size 4 i0 (.bool false) 1 1 Try.underlying68 hi hz0 hz1 hz2 rfl (by decide) _ _ _ rfl (hown.alloc _) ⟨wr.heap.size, 0, none⟩ 1 1 [.bool ((q : Int) % 2 == 1)] rfl rfl (new_cell _ _ _) (one_one _ rfl) (by unfold maxLen; omega) (by omega) (by have := hs.size; simp; omega) ?_)
      intro v' w1 hown' hgrow _
      have hs1 : w.Since w.heap.size w1 := (hs.alloc hs.size _).grown hgrow (by have := hs.size; simp; omega) (fun k hk => (hown.lt k hk).1)
      rw [HB.out, ← bl_succ] at hown'
      clear hgrow hown hs
      go_wp2
      go_roundw
      case rel => exact ⟨k + 1, q / 2, by omega, by go_num, by omega, hide (by rw [HQ.out, Nat.div_div_eq_div_mul, Nat.pow_succ]), hide (fun _ => by rw [Nat.add_sub_cancel, ← HQ.out]; exact hne), hown', hs1⟩
      case measure => simp [intOf]; omega

/-- What l1IsSmall says. -/
def smallB (X : Nat → Nat) (n : Nat) (Y : Nat → Nat) (m : Nat) : Bool := decide (n ≤ 1 ∧ m ≤ 1 ∧ lv X n < 2147483648 ∧ lv Y m < 2147483648)

theorem smallB_iff {X Y : Nat → Nat} {n m : Nat} : smallB X n Y m = true ↔ n ≤ 1 ∧ m ≤ 1 ∧ lv X n < 2147483648 ∧ lv Y m < 2147483648 := by unfold smallB; exact decide_eq_true_iff

theorem smallB_not {X Y : Nat → Nat} {n m : Nat} (h : ¬ (n ≤ 1 ∧ m ≤ 1 ∧ lv X n < 2147483648 ∧ lv Y m < 2147483648)) : false = smallB X n Y m := by
  cases e : smallB X n Y m
  · rfl
  · exact absurd (smallB_iff.1 e) h

set_option maxHeartbeats 1600000 in
set_option maxRecDepth 100000 in
theorem l1IsSmall_any (neg : Bool) (a b : Option Addr) (ba oa n ca bb ob m cb : Nat) (X Y : Nat → Nat) (w : World) (hn : n ≤ 1048576) (hm : m ≤ 1048576)
    (hX : Limbs w a ba oa n X) (hY : Limbs w b bb ob m Y) (hXl : ∀ j, j < n → X j < 4294967296) (hYl : ∀ j, j < m → Y j < 4294967296) :
    Calls Try.prog 34 #[.agg #[.bool neg, .slice a n ca, .slice b m cb]] w fun e w' => e = .returned (.bool (smallB X n Y m)) ∧ w.Since w.heap.size w' := by
  have sA : w.Since w.heap.size (w.alloc (.cells #[.bool neg, .slice a n ca, .slice b m cb] 51)) := (World.Since.refl _ _).alloc (Nat.le_refl _) _
  by_cases h1 : 1 < n
  · have HR := hide (smallB_not (X := X) (Y := Y) (n := n) (m := m) (by omega))
    go_enter Try.func34, Try.ntmps34
    go_wp2
    go_ret
    exact ⟨ret_bool HR.out, sA⟩
  by_cases h2 : 1 < m
  · have HR := hide (smallB_not (X := X) (Y := Y) (n := n) (m := m) (by omega))
    go_enter Try.func34, Try.ntmps34
    go_wp2
    go_ret
    exact ⟨ret_bool HR.out, sA⟩
  have I1 := l1Small_any a ba oa n ca X _ (by omega) (hX.keep sA) hXl
  have I2 := l1Small_any b bb ob m cb Y _ (by omega) (hY.keep sA) hYl
  have h1 : n ≤ 1 := by omega
  have h2 : m ≤ 1 := by omega
  obtain ⟨x, hx⟩ : ∃ x : Int, x = ((lv X n : Nat) : Int) := ⟨_, rfl⟩
  obtain ⟨y, hy⟩ : ∃ y : Int, y = ((lv Y m : Nat) : Int) := ⟨_, rfl⟩
  rw [← hx] at I1
  rw [← hy] at I2
  have HR : Hid ((decide (x < 2147483648) && decide (y < 2147483648)) = smallB X n Y m) := by
    show _ = _
    rw [Bool.eq_iff_iff, Bool.and_eq_true, decide_eq_true_iff, decide_eq_true_iff, smallB_iff]
    omega
  clear hX hY hXl hYl hx hy
  by_cases h3 : x < 2147483648
  · have HR : Hid (decide (y < 2147483648) = smallB X n Y m) := by rw [← HR.out]; simp [Hid, h3]
    go_enter Try.func34, Try.ntmps34
    go_wp2_with fail
    refine I1.mono ?_
    rintro e w1 ⟨rfl, rfl⟩
    go_wp2_with fail
    refine I2.mono ?_
    rintro e w1 ⟨rfl, rfl⟩
    go_wp2
    go_ret
    exact ⟨ret_bool HR.out, sA⟩
  · have HR : Hid (false = smallB X n Y m) := by rw [← HR.out]; simp [Hid, h3]
    go_enter Try.func34, Try.ntmps34
    go_wp2_with fail
    refine I1.mono ?_
    rintro e w1 ⟨rfl, rfl⟩
    go_wp2
    go_ret
    exact ⟨ret_bool HR.out, sA⟩

end Go.Proofs.Ythaomfabdghfjaa

namespace Go.Proofs.Ythaomfabdghfjaa
open Go.RowKit

theorem box3 (w : World) (x y z : Value) (t : TypeId) : (w.alloc (.cells #[x, y, z] t)).cell? ⟨w.heap.size, 0, none⟩ = some x ∧ (w.alloc (.cells #[x, y, z] t)).cell? ⟨w.heap.size, 1, none⟩ = some y ∧ (w.alloc (.cells #[x, y, z] t)).cell? ⟨w.heap.size, 2, none⟩ = some z := by
  simp [go_sem]

theorem cmpN_one (x : Nat) : (cmpN x 1 == 0) = decide (x = 1) := by
  rw [Bool.eq_iff_iff]
  simp only [beq_iff_eq, decide_eq_true_eq]
  constructor
  · intro h
    rcases Nat.lt_trichotomy x 1 with h1 | h1 | h1
    · rw [cmpN_lt h1] at h; cases h
    · exact h1
    · rw [cmpN_gt h1] at h; cases h
  · intro h; exact cmpN_eq h

set_option maxHeartbeats 1600000 in
set_option maxRecDepth 100000 in
theorem specRatOk_small_z (neg : Bool) (a b : Option Addr) (ba oa n ca bb ob m cb : Nat) (X Y : Nat → Nat) (w : World) (hn : n ≤ 1048576) (hm : m ≤ 1048576)
    (hX : Limbs w a ba oa n X) (hY : Limbs w b bb ob m Y) (hXl : ∀ j, j < n → X j < 4294967296) (hYl : ∀ j, j < m → Y j < 4294967296) (h1 : plainB X n = true) (h2 : plainB Y m = true) (h3 : ¬ m = 0) (h4 : ¬ (n = 0 ∧ neg = true)) (hs : smallB X n Y m = true) (h5 : n = 0) :
    Calls Try.prog 25 #[.agg #[.bool neg, .slice a n ca, .slice b m cb]] w fun e w' => e = .returned (.bool (ratOkB neg X n Y m)) ∧ w.Since w.heap.size w' := by
  have sA : w.Since w.heap.size (w.alloc (.cells #[.bool neg, .slice a n ca, .slice b m cb] 51)) := (World.Since.refl _ _).alloc (Nat.le_refl _) _
  have I1 := l1Plain_any a ba oa n ca X _ hn (hX.keep sA)
  have I2 := l1Plain_any b bb ob m cb Y _ hm (hY.keep sA)
  rw [h1] at I1
  rw [h2] at I2
  have q3 : ((m : Int) == 0) = false := by simp; omega
  have HR := hide (show (decide (Nat.gcd (lv X n) (lv Y m) = 1)) = ratOkB neg X n Y m by
    have e3 : (m != 0) = true := by simp [h3]
    have e4 : (neg && n == 0) = false := by cases neg <;> simp at h4 ⊢; exact h4
    rw [Bool.eq_iff_iff]
    simp [ratOkB, h1, h2, e3, e4])
  obtain ⟨c0, c1, c2⟩ := box3 w (.bool neg) (.slice a n ca) (.slice b m cb) 51
  have I3 := l1IsSmall_any neg a b ba oa n ca bb ob m cb X Y _ hn hm (hX.keep sA) (hY.keep sA) hXl hYl
  have HN : Hid (n = 0 → neg = false) := fun h => by cases neg; rfl; exact absurd ⟨h, rfl⟩ h4
  clear h1 h2 h4
  have XA := hX.keep sA
  have YA := hY.keep sA
  obtain ⟨y1, y2, z3, z4⟩ := smallB_iff.1 hs
  have v1 : lv X n < 18446744073709551616 := by omega
  have v2 : lv Y m < 18446744073709551616 := by omega
  have V := hide (And.intro v1 v2)
  rw [hs] at I3
  clear hs z3 z4 v1 v2
  have h6 := HN.out h5
  subst h5 h6
  go_enter Try.func25, Try.ntmps25
  go_wp2_with fail
  refine I1.mono ?_
  rintro e w1 ⟨rfl, rfl⟩
  go_wp2_with fail
  refine I2.mono ?_
  rintro e w1 ⟨rfl, rfl⟩
  clear I1 I2
  generalize w.alloc (.cells #[.bool false, .slice a 0 ca, .slice b m cb] 51) = wA at *
  go_wp2_with fail
  refine I3.mono ?_
  rintro e w1 ⟨rfl, s1⟩
  clear I3
  have zA : w.heap.size < wA.heap.size := World.block_lt_of_cell? _ _ c0
  have d1 : w1.cell? ⟨w.heap.size, 1, none⟩ = some (.slice a 0 ca) := (s1.cell (a := ⟨w.heap.size, 1, none⟩) zA).trans c1
  have d2 : w1.cell? ⟨w.heap.size, 2, none⟩ = some (.slice b m cb) := (s1.cell (a := ⟨w.heap.size, 2, none⟩) zA).trans c2
  have S1 : w.Since w.heap.size w1.drew := by have h := sA.trans (sinceMono s1 sA.size); exact ⟨h.os, h.tape, h.output, h.size, h.block⟩
  have z1 : w.heap.size < w1.drew.heap.size := Nat.lt_of_lt_of_le zA s1.size
  have X0 := XA.keep s1
  have Y0 := YA.keep s1
  have X1 : Limbs w1.drew a ba oa 0 X := X0
  have Y1 : Limbs w1.drew b bb ob m Y := Y0
  have XL := hide hXl
  have YL := hide hYl
  clear hXl hYl XA YA s1 c0 c1 c2 X0 Y0
  go_wp2
  have J1 := l1Small_any a ba oa 0 ca X w1.drew y1 X1 XL.out
  have J2 := l1Small_any b bb ob m cb Y w1.drew y2 Y1 YL.out
  have J3 := l1GcdSmall_any (lv X 0) (lv Y m) w1.drew V.out.1 V.out.2
  clear V XL YL X1 Y1
  obtain ⟨gg, hgg⟩ : ∃ gg, gg = Nat.gcd (lv X 0) (lv Y m) := ⟨_, rfl⟩
  obtain ⟨xx, hxx⟩ : ∃ xx, xx = lv X 0 := ⟨_, rfl⟩
  obtain ⟨yy, hyy⟩ : ∃ yy, yy = lv Y m := ⟨_, rfl⟩
  have HR : Hid (decide (gg = 1) = ratOkB false X 0 Y m) := by rw [hgg]; exact HR.out
  rw [← hgg, ← hxx, ← hyy] at J3
  rw [← hxx] at J1
  rw [← hyy] at J2
  clear hgg hxx hyy
  go_region_held3 (fun w' => w'.cell? ⟨w.heap.size, 1, none⟩ = some (.slice a 0 ca) ∧ w'.cell? ⟨w.heap.size, 2, none⟩ = some (.slice b m cb)) (go_keep)
    (first | (go_at_call 35; with_reducible refine J3.mono ?_; rintro e w' ⟨rfl, rfl⟩) | (go_at_call 36; first | (with_reducible refine J1.mono ?_; rintro e w' ⟨rfl, rfl⟩) | (with_reducible refine J2.mono ?_; rintro e w' ⟨rfl, rfl⟩)))
  all_goals go_wp2
  all_goals go_ret
  all_goals exact ⟨ret_bool (by rw [← HR.out, Bool.eq_iff_iff]; simp only [beq_iff_eq, decide_eq_true_eq]; omega), S1⟩

set_option maxHeartbeats 1600000 in
set_option maxRecDepth 100000 in
theorem specRatOk_small_n (neg : Bool) (a b : Option Addr) (ba oa n ca bb ob m cb : Nat) (X Y : Nat → Nat) (w : World) (hn : n ≤ 1048576) (hm : m ≤ 1048576)
    (hX : Limbs w a ba oa n X) (hY : Limbs w b bb ob m Y) (hXl : ∀ j, j < n → X j < 4294967296) (hYl : ∀ j, j < m → Y j < 4294967296) (h1 : plainB X n = true) (h2 : plainB Y m = true) (h3 : ¬ m = 0) (h4 : ¬ (n = 0 ∧ neg = true)) (hs : smallB X n Y m = true) (h5 : ¬ n = 0) :
    Calls Try.prog 25 #[.agg #[.bool neg, .slice a n ca, .slice b m cb]] w fun e w' => e = .returned (.bool (ratOkB neg X n Y m)) ∧ w.Since w.heap.size w' := by
  have sA : w.Since w.heap.size (w.alloc (.cells #[.bool neg, .slice a n ca, .slice b m cb] 51)) := (World.Since.refl _ _).alloc (Nat.le_refl _) _
  have I1 := l1Plain_any a ba oa n ca X _ hn (hX.keep sA)
  have I2 := l1Plain_any b bb ob m cb Y _ hm (hY.keep sA)
  rw [h1] at I1
  rw [h2] at I2
  have q3 : ((m : Int) == 0) = false := by simp; omega
  have HR := hide (show (decide (Nat.gcd (lv X n) (lv Y m) = 1)) = ratOkB neg X n Y m by
    have e3 : (m != 0) = true := by simp [h3]
    have e4 : (neg && n == 0) = false := by cases neg <;> simp at h4 ⊢; exact h4
    rw [Bool.eq_iff_iff]
    simp [ratOkB, h1, h2, e3, e4])
  obtain ⟨c0, c1, c2⟩ := box3 w (.bool neg) (.slice a n ca) (.slice b m cb) 51
  have I3 := l1IsSmall_any neg a b ba oa n ca bb ob m cb X Y _ hn hm (hX.keep sA) (hY.keep sA) hXl hYl
  have HN : Hid (n = 0 → neg = false) := fun h => by cases neg; rfl; exact absurd ⟨h, rfl⟩ h4
  clear h1 h2 h4
  have XA := hX.keep sA
  have YA := hY.keep sA
  obtain ⟨y1, y2, z3, z4⟩ := smallB_iff.1 hs
  have v1 : lv X n < 18446744073709551616 := by omega
  have v2 : lv Y m < 18446744073709551616 := by omega
  have V := hide (And.intro v1 v2)
  rw [hs] at I3
  clear hs z3 z4 v1 v2
  go_enter Try.func25, Try.ntmps25
  go_wp2_with fail
  refine I1.mono ?_
  rintro e w1 ⟨rfl, rfl⟩
  go_wp2_with fail
  refine I2.mono ?_
  rintro e w1 ⟨rfl, rfl⟩
  clear I1 I2
  generalize w.alloc (.cells #[.bool neg, .slice a n ca, .slice b m cb] 51) = wA at *
  have h6 : ((n : Int) == 0) = false := by simp; omega
  go_wp2_with fail
  refine I3.mono ?_
  rintro e w1 ⟨rfl, s1⟩
  clear I3
  have zA : w.heap.size < wA.heap.size := World.block_lt_of_cell? _ _ c0
  have d1 : w1.cell? ⟨w.heap.size, 1, none⟩ = some (.slice a n ca) := (s1.cell (a := ⟨w.heap.size, 1, none⟩) zA).trans c1
  have d2 : w1.cell? ⟨w.heap.size, 2, none⟩ = some (.slice b m cb) := (s1.cell (a := ⟨w.heap.size, 2, none⟩) zA).trans c2
  have S1 : w.Since w.heap.size w1.drew := by have h := sA.trans (sinceMono s1 sA.size); exact ⟨h.os, h.tape, h.output, h.size, h.block⟩
  have z1 : w.heap.size < w1.drew.heap.size := Nat.lt_of_lt_of_le zA s1.size
  have X0 := XA.keep s1
  have Y0 := YA.keep s1
  have X1 : Limbs w1.drew a ba oa n X := X0
  have Y1 : Limbs w1.drew b bb ob m Y := Y0
  have XL := hide hXl
  have YL := hide hYl
  clear hXl hYl XA YA s1 c0 c1 c2 X0 Y0
  go_wp2
  have J1 := l1Small_any a ba oa n ca X w1.drew y1 X1 XL.out
  have J2 := l1Small_any b bb ob m cb Y w1.drew y2 Y1 YL.out
  have J3 := l1GcdSmall_any (lv X n) (lv Y m) w1.drew V.out.1 V.out.2
  clear V XL YL X1 Y1
  obtain ⟨gg, hgg⟩ : ∃ gg, gg = Nat.gcd (lv X n) (lv Y m) := ⟨_, rfl⟩
  obtain ⟨xx, hxx⟩ : ∃ xx, xx = lv X n := ⟨_, rfl⟩
  obtain ⟨yy, hyy⟩ : ∃ yy, yy = lv Y m := ⟨_, rfl⟩
  have HR : Hid (decide (gg = 1) = ratOkB neg X n Y m) := by rw [hgg]; exact HR.out
  rw [← hgg, ← hxx, ← hyy] at J3
  rw [← hxx] at J1
  rw [← hyy] at J2
  clear hgg hxx hyy
  go_region_held3 (fun w' => w'.cell? ⟨w.heap.size, 1, none⟩ = some (.slice a n ca) ∧ w'.cell? ⟨w.heap.size, 2, none⟩ = some (.slice b m cb)) (go_keep)
    (first | (go_at_call 35; with_reducible refine J3.mono ?_; rintro e w' ⟨rfl, rfl⟩) | (go_at_call 36; first | (with_reducible refine J1.mono ?_; rintro e w' ⟨rfl, rfl⟩) | (with_reducible refine J2.mono ?_; rintro e w' ⟨rfl, rfl⟩)))
  all_goals go_wp2
  all_goals go_ret
  all_goals exact ⟨ret_bool (by rw [← HR.out, Bool.eq_iff_iff]; simp only [beq_iff_eq, decide_eq_true_eq]; omega), S1⟩

set_option maxHeartbeats 1600000 in
set_option maxRecDepth 100000 in
theorem specRatOk_big_z (neg : Bool) (a b : Option Addr) (ba oa n ca bb ob m cb : Nat) (X Y : Nat → Nat) (w : World) (hn : n ≤ 1048576) (hm : m ≤ 1048576)
    (hX : Limbs w a ba oa n X) (hY : Limbs w b bb ob m Y) (hXl : ∀ j, j < n → X j < 4294967296) (hYl : ∀ j, j < m → Y j < 4294967296) (h1 : plainB X n = true) (h2 : plainB Y m = true) (h3 : ¬ m = 0) (h4 : ¬ (n = 0 ∧ neg = true)) (hs : ¬ smallB X n Y m = true) (h5 : n = 0) :
    Calls Try.prog 25 #[.agg #[.bool neg, .slice a n ca, .slice b m cb]] w fun e w' => e = .returned (.bool (ratOkB neg X n Y m)) ∧ w.Since w.heap.size w' := by
  have sA : w.Since w.heap.size (w.alloc (.cells #[.bool neg, .slice a n ca, .slice b m cb] 51)) := (World.Since.refl _ _).alloc (Nat.le_refl _) _
  have I1 := l1Plain_any a ba oa n ca X _ hn (hX.keep sA)
  have I2 := l1Plain_any b bb ob m cb Y _ hm (hY.keep sA)
  rw [h1] at I1
  rw [h2] at I2
  have q3 : ((m : Int) == 0) = false := by simp; omega
  have HR := hide (show (decide (Nat.gcd (lv X n) (lv Y m) = 1)) = ratOkB neg X n Y m by
    have e3 : (m != 0) = true := by simp [h3]
    have e4 : (neg && n == 0) = false := by cases neg <;> simp at h4 ⊢; exact h4
    rw [Bool.eq_iff_iff]
    simp [ratOkB, h1, h2, e3, e4])
  obtain ⟨c0, c1, c2⟩ := box3 w (.bool neg) (.slice a n ca) (.slice b m cb) 51
  have I3 := l1IsSmall_any neg a b ba oa n ca bb ob m cb X Y _ hn hm (hX.keep sA) (hY.keep sA) hXl hYl
  have HN : Hid (n = 0 → neg = false) := fun h => by cases neg; rfl; exact absurd ⟨h, rfl⟩ h4
  clear h1 h2 h4
  have XA := hX.keep sA
  have YA := hY.keep sA
  rw [show smallB X n Y m = false by simpa using hs] at I3
  clear hs
  have h6 := HN.out h5
  subst h5 h6
  go_enter Try.func25, Try.ntmps25
  go_wp2_with fail
  refine I1.mono ?_
  rintro e w1 ⟨rfl, rfl⟩
  go_wp2_with fail
  refine I2.mono ?_
  rintro e w1 ⟨rfl, rfl⟩
  clear I1 I2
  generalize w.alloc (.cells #[.bool false, .slice a 0 ca, .slice b m cb] 51) = wA at *
  go_wp2_with fail
  refine I3.mono ?_
  rintro e w1 ⟨rfl, s1⟩
  clear I3
  have zA : w.heap.size < wA.heap.size := World.block_lt_of_cell? _ _ c0
  have d1 : w1.cell? ⟨w.heap.size, 1, none⟩ = some (.slice a 0 ca) := (s1.cell (a := ⟨w.heap.size, 1, none⟩) zA).trans c1
  have d2 : w1.cell? ⟨w.heap.size, 2, none⟩ = some (.slice b m cb) := (s1.cell (a := ⟨w.heap.size, 2, none⟩) zA).trans c2
  have S1 : w.Since w.heap.size w1.drew := by have h := sA.trans (sinceMono s1 sA.size); exact ⟨h.os, h.tape, h.output, h.size, h.block⟩
  have z1 : w.heap.size < w1.drew.heap.size := Nat.lt_of_lt_of_le zA s1.size
  have X0 := XA.keep s1
  have Y0 := YA.keep s1
  have X1 : Limbs w1.drew a ba oa 0 X := X0
  have Y1 : Limbs w1.drew b bb ob m Y := Y0
  have XL := hide hXl
  have YL := hide hYl
  clear hXl hYl XA YA s1 c0 c1 c2 X0 Y0
  go_wp2
  have J1 := l1Bits_any a ba oa 0 ca X w1.drew (by omega) X1 XL.out
  go_region_held3 (fun w' => w'.cell? ⟨w.heap.size, 1, none⟩ = some (.slice a 0 ca) ∧ w'.cell? ⟨w.heap.size, 2, none⟩ = some (.slice b m cb)) (go_keep)
    (first
      | (go_at_call 39
         first
          | (with_reducible refine J1.mono ?_
             rintro e w2 ⟨a1, g1, m1, t1, B1, rfl, k1, k2, L1, -, p1, e1, s2⟩
             have T1 : Tr w2 (.slice a1 m1 t1) m1 B1 := ⟨a1, g1, 0, t1, rfl, k1, L1, p1⟩
             have E1 := hide e1
             clear L1 p1 e1
             have z2 := s2.size
             have J2 := l1Bits_any b bb ob m cb Y w2 (by omega) (Y1.keep s2) YL.out
             have f1 : w2.cell? ⟨w.heap.size, 1, none⟩ = some (.slice a 0 ca) := (s2.cell (a := ⟨w.heap.size, 1, none⟩) z1).trans d1
             have f2 : w2.cell? ⟨w.heap.size, 2, none⟩ = some (.slice b m cb) := (s2.cell (a := ⟨w.heap.size, 2, none⟩) z1).trans d2)
          | (with_reducible refine J2.mono ?_
             rintro e w3 ⟨a2, g2, m2, t2, B2, rfl, q1, q2, L2, -, p2, e2, s3⟩
             have T2 : Tr w3 (.slice a2 m2 t2) m2 B2 := ⟨a2, g2, 0, t2, rfl, q1, L2, p2⟩
             have E2 := hide e2
             clear L2 p2 e2
             have T1' := T1.keep s3
             have J3 := l1GcdBits_any _ _ m1 m2 B1 B2 w3 (by omega) (by omega) T1' T2
             have S3 : w.Since w.heap.size w3 := (S1.trans (sinceMono s2 S1.size)).trans (sinceMono s3 (Nat.le_trans S1.size s2.size))
             have f3 : w3.cell? ⟨w.heap.size, 1, none⟩ = some (.slice a 0 ca) := (s3.cell (a := ⟨w.heap.size, 1, none⟩) (Nat.lt_of_lt_of_le z1 z2)).trans f1
             have f4 : w3.cell? ⟨w.heap.size, 2, none⟩ = some (.slice b m cb) := (s3.cell (a := ⟨w.heap.size, 2, none⟩) (Nat.lt_of_lt_of_le z1 z2)).trans f2
             have z3 := s3.size))
      | (go_at_call 38
         with_reducible refine J3.mono ?_
         rintro e w4 ⟨v, t, O, rfl, ht, T3, e3, s4⟩
         have E3 := hide e3
         have J4 : Calls Try.prog 40 #[.int .u64 1] w4 _ := l1BitsOf_any 1 w4 (by omega)
         clear e3
         have f5 : w4.cell? ⟨w.heap.size, 1, none⟩ = some (.slice a 0 ca) := (s4.cell (a := ⟨w.heap.size, 1, none⟩) (Nat.lt_of_lt_of_le z1 (Nat.le_trans z2 z3))).trans f3
         have f6 : w4.cell? ⟨w.heap.size, 2, none⟩ = some (.slice b m cb) := (s4.cell (a := ⟨w.heap.size, 2, none⟩) (Nat.lt_of_lt_of_le z1 (Nat.le_trans z2 z3))).trans f4
         have z4 := s4.size)
      | (go_at_call 40
         with_reducible refine J4.mono ?_
         rintro e w5 ⟨x, t5, B5, rfl, ht5, T5, e5, s5⟩
         have E5 := hide e5
         clear e5
         obtain ⟨a3, b3, o3, c3, rfl, -, L3, p3⟩ := T3.keep s5
         obtain ⟨a5, b5, o5, c5, rfl, -, L5, p5⟩ := T5
         have S5 : w.Since w.heap.size w5 := (S3.trans (sinceMono s4 S3.size)).trans (sinceMono s5 (Nat.le_trans S3.size s4.size))
         have f7 : w5.cell? ⟨w.heap.size, 1, none⟩ = some (.slice a 0 ca) := (s5.cell (a := ⟨w.heap.size, 1, none⟩) (Nat.lt_of_lt_of_le z1 (Nat.le_trans (Nat.le_trans z2 z3) z4))).trans f5
         have f8 : w5.cell? ⟨w.heap.size, 2, none⟩ = some (.slice b m cb) := (s5.cell (a := ⟨w.heap.size, 2, none⟩) (Nat.lt_of_lt_of_le z1 (Nat.le_trans (Nat.le_trans z2 z3) z4))).trans f6
         have J := l1CmpBits_any a3 a5 b3 o3 t c3 b5 o5 t5 c5 O B5 w5 (by omega) (by omega) L3 L5 p3 p5
         rw [E5.out, E3.out, E1.out, E2.out] at J
         clear T3 L3 L5 p3 p5)
      | (go_at_call 37
         with_reducible refine J.mono ?_
         rintro e w6 ⟨rfl, s6⟩
         have f9 : w6.cell? ⟨w.heap.size, 1, none⟩ = some (.slice a 0 ca) := by rw [s6.cell]; exact f7
         have f10 : w6.cell? ⟨w.heap.size, 2, none⟩ = some (.slice b m cb) := by rw [s6.cell]; exact f8))
  all_goals go_wp2
  all_goals go_ret
  all_goals exact ⟨ret_bool ((cmpN_one (Nat.gcd (lv X 0) (lv Y m))).trans HR.out), S5.trans (s6.since _)⟩

set_option maxHeartbeats 1600000 in
set_option maxRecDepth 100000 in
theorem specRatOk_big_n (neg : Bool) (a b : Option Addr) (ba oa n ca bb ob m cb : Nat) (X Y : Nat → Nat) (w : World) (hn : n ≤ 1048576) (hm : m ≤ 1048576)
    (hX : Limbs w a ba oa n X) (hY : Limbs w b bb ob m Y) (hXl : ∀ j, j < n → X j < 4294967296) (hYl : ∀ j, j < m → Y j < 4294967296) (h1 : plainB X n = true) (h2 : plainB Y m = true) (h3 : ¬ m = 0) (h4 : ¬ (n = 0 ∧ neg = true)) (hs : ¬ smallB X n Y m = true) (h5 : ¬ n = 0) :
    Calls Try.prog 25 #[.agg #[.bool neg, .slice a n ca, .slice b m cb]] w fun e w' => e = .returned (.bool (ratOkB neg X n Y m)) ∧ w.Since w.heap.size w' := by
  have sA : w.Since w.heap.size (w.alloc (.cells #[.bool neg, .slice a n ca, .slice b m cb] 51)) := (World.Since.refl _ _).alloc (Nat.le_refl _) _
  have I1 := l1Plain_any a ba oa n ca X _ hn (hX.keep sA)
  have I2 := l1Plain_any b bb ob m cb Y _ hm (hY.keep sA)
  rw [h1] at I1
  rw [h2] at I2
  have q3 : ((m : Int) == 0) = false := by simp; omega
  have HR := hide (show (decide (Nat.gcd (lv X n) (lv Y m) = 1)) = ratOkB neg X n Y m by
    have e3 : (m != 0) = true := by simp [h3]
    have e4 : (neg && n == 0) = false := by cases neg <;> simp at h4 ⊢; exact h4
    rw [Bool.eq_iff_iff]
    simp [ratOkB, h1, h2, e3, e4])
  obtain ⟨c0, c1, c2⟩ := box3 w (.bool neg) (.slice a n ca) (.slice b m cb) 51
  have I3 := l1IsSmall_any neg a b ba oa n ca bb ob m cb X Y _ hn hm (hX.keep sA) (hY.keep sA) hXl hYl
  have HN : Hid (n = 0 → neg = false) := fun h => by cases neg; rfl; exact absurd ⟨h, rfl⟩ h4
  clear h1 h2 h4
  have XA := hX.keep sA
  have YA := hY.keep sA
  rw [show smallB X n Y m = false by simpa using hs] at I3
  clear hs
  go_enter Try.func25, Try.ntmps25
  go_wp2_with fail
  refine I1.mono ?_
  rintro e w1 ⟨rfl, rfl⟩
  go_wp2_with fail
  refine I2.mono ?_
  rintro e w1 ⟨rfl, rfl⟩
  clear I1 I2
  generalize w.alloc (.cells #[.bool neg, .slice a n ca, .slice b m cb] 51) = wA at *
  have h6 : ((n : Int) == 0) = false := by simp; omega
  go_wp2_with fail
  refine I3.mono ?_
  rintro e w1 ⟨rfl, s1⟩
  clear I3
  have zA : w.heap.size < wA.heap.size := World.block_lt_of_cell? _ _ c0
  have d1 : w1.cell? ⟨w.heap.size, 1, none⟩ = some (.slice a n ca) := (s1.cell (a := ⟨w.heap.size, 1, none⟩) zA).trans c1
  have d2 : w1.cell? ⟨w.heap.size, 2, none⟩ = some (.slice b m cb) := (s1.cell (a := ⟨w.heap.size, 2, none⟩) zA).trans c2
  have S1 : w.Since w.heap.size w1.drew := by have h := sA.trans (sinceMono s1 sA.size); exact ⟨h.os, h.tape, h.output, h.size, h.block⟩
  have z1 : w.heap.size < w1.drew.heap.size := Nat.lt_of_lt_of_le zA s1.size
  have X0 := XA.keep s1
  have Y0 := YA.keep s1
  have X1 : Limbs w1.drew a ba oa n X := X0
  have Y1 : Limbs w1.drew b bb ob m Y := Y0
  have XL := hide hXl
  have YL := hide hYl
  clear hXl hYl XA YA s1 c0 c1 c2 X0 Y0
  go_wp2
  have J1 := l1Bits_any a ba oa n ca X w1.drew (by omega) X1 XL.out
  go_region_held3 (fun w' => w'.cell? ⟨w.heap.size, 1, none⟩ = some (.slice a n ca) ∧ w'.cell? ⟨w.heap.size, 2, none⟩ = some (.slice b m cb)) (go_keep)
    (first
      | (go_at_call 39
         first
          | (with_reducible refine J1.mono ?_
             rintro e w2 ⟨a1, g1, m1, t1, B1, rfl, k1, k2, L1, -, p1, e1, s2⟩
             have T1 : Tr w2 (.slice a1 m1 t1) m1 B1 := ⟨a1, g1, 0, t1, rfl, k1, L1, p1⟩
             have E1 := hide e1
             clear L1 p1 e1
             have z2 := s2.size
             have J2 := l1Bits_any b bb ob m cb Y w2 (by omega) (Y1.keep s2) YL.out
             have f1 : w2.cell? ⟨w.heap.size, 1, none⟩ = some (.slice a n ca) := (s2.cell (a := ⟨w.heap.size, 1, none⟩) z1).trans d1
             have f2 : w2.cell? ⟨w.heap.size, 2, none⟩ = some (.slice b m cb) := (s2.cell (a := ⟨w.heap.size, 2, none⟩) z1).trans d2)
          | (with_reducible refine J2.mono ?_
             rintro e w3 ⟨a2, g2, m2, t2, B2, rfl, q1, q2, L2, -, p2, e2, s3⟩
             have T2 : Tr w3 (.slice a2 m2 t2) m2 B2 := ⟨a2, g2, 0, t2, rfl, q1, L2, p2⟩
             have E2 := hide e2
             clear L2 p2 e2
             have T1' := T1.keep s3
             have J3 := l1GcdBits_any _ _ m1 m2 B1 B2 w3 (by omega) (by omega) T1' T2
             have S3 : w.Since w.heap.size w3 := (S1.trans (sinceMono s2 S1.size)).trans (sinceMono s3 (Nat.le_trans S1.size s2.size))
             have f3 : w3.cell? ⟨w.heap.size, 1, none⟩ = some (.slice a n ca) := (s3.cell (a := ⟨w.heap.size, 1, none⟩) (Nat.lt_of_lt_of_le z1 z2)).trans f1
             have f4 : w3.cell? ⟨w.heap.size, 2, none⟩ = some (.slice b m cb) := (s3.cell (a := ⟨w.heap.size, 2, none⟩) (Nat.lt_of_lt_of_le z1 z2)).trans f2
             have z3 := s3.size))
      | (go_at_call 38
         with_reducible refine J3.mono ?_
         rintro e w4 ⟨v, t, O, rfl, ht, T3, e3, s4⟩
         have E3 := hide e3
         have J4 : Calls Try.prog 40 #[.int .u64 1] w4 _ := l1BitsOf_any 1 w4 (by omega)
         clear e3
         have f5 : w4.cell? ⟨w.heap.size, 1, none⟩ = some (.slice a n ca) := (s4.cell (a := ⟨w.heap.size, 1, none⟩) (Nat.lt_of_lt_of_le z1 (Nat.le_trans z2 z3))).trans f3
         have f6 : w4.cell? ⟨w.heap.size, 2, none⟩ = some (.slice b m cb) := (s4.cell (a := ⟨w.heap.size, 2, none⟩) (Nat.lt_of_lt_of_le z1 (Nat.le_trans z2 z3))).trans f4
         have z4 := s4.size)
      | (go_at_call 40
         with_reducible refine J4.mono ?_
         rintro e w5 ⟨x, t5, B5, rfl, ht5, T5, e5, s5⟩
         have E5 := hide e5
         clear e5
         obtain ⟨a3, b3, o3, c3, rfl, -, L3, p3⟩ := T3.keep s5
         obtain ⟨a5, b5, o5, c5, rfl, -, L5, p5⟩ := T5
         have S5 : w.Since w.heap.size w5 := (S3.trans (sinceMono s4 S3.size)).trans (sinceMono s5 (Nat.le_trans S3.size s4.size))
         have f7 : w5.cell? ⟨w.heap.size, 1, none⟩ = some (.slice a n ca) := (s5.cell (a := ⟨w.heap.size, 1, none⟩) (Nat.lt_of_lt_of_le z1 (Nat.le_trans (Nat.le_trans z2 z3) z4))).trans f5
         have f8 : w5.cell? ⟨w.heap.size, 2, none⟩ = some (.slice b m cb) := (s5.cell (a := ⟨w.heap.size, 2, none⟩) (Nat.lt_of_lt_of_le z1 (Nat.le_trans (Nat.le_trans z2 z3) z4))).trans f6
         have J := l1CmpBits_any a3 a5 b3 o3 t c3 b5 o5 t5 c5 O B5 w5 (by omega) (by omega) L3 L5 p3 p5
         rw [E5.out, E3.out, E1.out, E2.out] at J
         clear T3 L3 L5 p3 p5)
      | (go_at_call 37
         with_reducible refine J.mono ?_
         rintro e w6 ⟨rfl, s6⟩
         have f9 : w6.cell? ⟨w.heap.size, 1, none⟩ = some (.slice a n ca) := by rw [s6.cell]; exact f7
         have f10 : w6.cell? ⟨w.heap.size, 2, none⟩ = some (.slice b m cb) := by rw [s6.cell]; exact f8))
  all_goals go_wp2
  all_goals go_ret
  all_goals exact ⟨ret_bool ((cmpN_one (Nat.gcd (lv X n) (lv Y m))).trans HR.out), S5.trans (s6.since _)⟩

set_option maxHeartbeats 3200000 in
set_option maxRecDepth 100000 in
theorem specRatOk_any (neg : Bool) (a b : Option Addr) (ba oa n ca bb ob m cb : Nat) (X Y : Nat → Nat) (w : World) (hn : n ≤ 1048576) (hm : m ≤ 1048576)
    (hX : Limbs w a ba oa n X) (hY : Limbs w b bb ob m Y) (hXl : ∀ j, j < n → X j < 4294967296) (hYl : ∀ j, j < m → Y j < 4294967296) :
    Calls Try.prog 25 #[.agg #[.bool neg, .slice a n ca, .slice b m cb]] w fun e w' => e = .returned (.bool (ratOkB neg X n Y m)) ∧ w.Since w.heap.size w' := by
  have sA : w.Since w.heap.size (w.alloc (.cells #[.bool neg, .slice a n ca, .slice b m cb] 51)) := (World.Since.refl _ _).alloc (Nat.le_refl _) _
  have I1 := l1Plain_any a ba oa n ca X _ hn (hX.keep sA)
  have I2 := l1Plain_any b bb ob m cb Y _ hm (hY.keep sA)
  by_cases h1 : plainB X n = false
  · have HR := hide (show false = ratOkB neg X n Y m by simp [ratOkB, h1])
    rw [h1] at I1
    clear h1
    go_enter Try.func25, Try.ntmps25
    go_wp2_with fail
    refine I1.mono ?_
    rintro e w1 ⟨rfl, rfl⟩
    go_wp2
    go_ret
    exact ⟨ret_bool HR.out, sA⟩
  have h1 : plainB X n = true := by simpa using h1
  rw [h1] at I1
  by_cases h2 : plainB Y m = false
  · have HR := hide (show false = ratOkB neg X n Y m by simp [ratOkB, h2])
    rw [h2] at I2
    clear h1 h2
    go_enter Try.func25, Try.ntmps25
    go_wp2_with fail
    refine I1.mono ?_
    rintro e w1 ⟨rfl, rfl⟩
    go_wp2_with fail
    refine I2.mono ?_
    rintro e w1 ⟨rfl, rfl⟩
    go_wp2
    go_ret
    exact ⟨ret_bool HR.out, sA⟩
  have h2 : plainB Y m = true := by simpa using h2
  rw [h2] at I2
  by_cases h3 : m = 0
  · have HR := hide (show false = ratOkB neg X n Y m by simp [ratOkB, h3])
    clear h1 h2
    subst h3
    go_enter Try.func25, Try.ntmps25
    go_wp2_with fail
    refine I1.mono ?_
    rintro e w1 ⟨rfl, rfl⟩
    go_wp2_with fail
    refine I2.mono ?_
    rintro e w1 ⟨rfl, rfl⟩
    go_wp2
    go_ret
    exact ⟨ret_bool HR.out, sA⟩
  have q3 : ((m : Int) == 0) = false := by simp; omega
  by_cases h4 : n = 0 ∧ neg = true
  · obtain ⟨rfl, rfl⟩ := h4
    have HR := hide (show false = ratOkB true X 0 Y m by simp [ratOkB])
    clear h1 h2
    go_enter Try.func25, Try.ntmps25
    go_wp2_with fail
    refine I1.mono ?_
    rintro e w1 ⟨rfl, rfl⟩
    go_wp2_with fail
    refine I2.mono ?_
    rintro e w1 ⟨rfl, rfl⟩
    go_wp2
    go_ret
    exact ⟨ret_bool HR.out, sA⟩
  by_cases hs : smallB X n Y m = true
  · by_cases h5 : n = 0
    · exact specRatOk_small_z neg a b ba oa n ca bb ob m cb X Y w hn hm hX hY hXl hYl h1 h2 h3 h4 hs h5
    · exact specRatOk_small_n neg a b ba oa n ca bb ob m cb X Y w hn hm hX hY hXl hYl h1 h2 h3 h4 hs h5
  · by_cases h5 : n = 0
    · exact specRatOk_big_z neg a b ba oa n ca bb ob m cb X Y w hn hm hX hY hXl hYl h1 h2 h3 h4 hs h5
    · exact specRatOk_big_n neg a b ba oa n ca bb ob m cb X Y w hn hm hX hY hXl hYl h1 h2 h3 h4 hs h5

end Go.Proofs.Ythaomfabdghfjaa

namespace Go.Proofs.Ythaomfabdghfjaa
open Go.RowKit

set_option maxHeartbeats 800000 in
set_option maxRecDepth 100000 in
theorem szU_ok (a : Option Addr) (n cap L : Nat) (w : World) (hL : L ≤ 1048576) (hn : n ≤ L) :
    Calls Try.prog 49 #[.slice a n cap, .int .i64 L] w fun e w' => e = .returned (.int .i64 ((L - n : Nat) : Int)) ∧ w' = w := by
  have h : (L : Int) - n = ((L - n : Nat) : Int) := by omega
  have H := hide h
  clear h
  go_enter Try.func49, Try.ntmps49
  go_wp2
  go_ret
  exact ⟨ret_int H.out, rfl⟩

set_option maxHeartbeats 800000 in
set_option maxRecDepth 100000 in
theorem szU_no (a : Option Addr) (n cap L : Nat) (w : World) (hL : L ≤ 1048576) (hn : L < n) (hm : n ≤ 9223372036854775807) :
    Calls Try.prog 49 #[.slice a n cap, .int .i64 L] w fun e w' => e = .returned (.int .i64 (-1)) ∧ w' = w := by
  go_enter Try.func49, Try.ntmps49
  go_wp2
  go_ret
  exact ⟨rfl, rfl⟩

set_option maxHeartbeats 800000 in
set_option maxRecDepth 100000 in
theorem szRat_ok (neg : Bool) (a b : Option Addr) (n ca m cb L : Nat) (w : World) (hL : L ≤ 1048576) (hn : n + m ≤ L) :
    Calls Try.prog 32 #[.agg #[.bool neg, .slice a n ca, .slice b m cb], .int .i64 L] w fun e w' => e = .returned (.int .i64 ((L - n - m : Nat) : Int)) ∧ w.Since w.heap.size w' := by
  have sA : w.Since w.heap.size (w.alloc (.cells #[.bool neg, .slice a n ca, .slice b m cb] 63)) := (World.Since.refl _ _).alloc (Nat.le_refl _) _
  go_enter Try.func32, Try.ntmps32
  go_wp2_with fail
  refine (szU_ok a n ca L _ hL (by omega)).mono ?_
  rintro e w1 ⟨rfl, rfl⟩
  go_wp2_with fail
  refine (szU_ok b m cb (L - n) _ (by omega) (by omega)).mono ?_
  rintro e w1 ⟨rfl, rfl⟩
  go_wp2
  go_ret
  exact ⟨rfl, sA⟩

set_option maxHeartbeats 800000 in
set_option maxRecDepth 100000 in
theorem szRat_no (neg : Bool) (a b : Option Addr) (n ca m cb L : Nat) (w : World) (hL : L ≤ 1048576) (hn : L < n + m) (hn1 : n ≤ 9223372036854775807) (hm : m ≤ 9223372036854775807) :
    Calls Try.prog 32 #[.agg #[.bool neg, .slice a n ca, .slice b m cb], .int .i64 L] w fun e w' => e = .returned (.int .i64 (-1)) ∧ w.Since w.heap.size w' := by
  have sA : w.Since w.heap.size (w.alloc (.cells #[.bool neg, .slice a n ca, .slice b m cb] 63)) := (World.Since.refl _ _).alloc (Nat.le_refl _) _
  by_cases h : L < n
  · go_enter Try.func32, Try.ntmps32
    go_wp2_with fail
    refine (szU_no a n ca L _ hL h hn1).mono ?_
    rintro e w1 ⟨rfl, rfl⟩
    go_wp2
    go_ret
    exact ⟨rfl, sA⟩
  · go_enter Try.func32, Try.ntmps32
    go_wp2_with fail
    refine (szU_ok a n ca L _ hL (by omega)).mono ?_
    rintro e w1 ⟨rfl, rfl⟩
    go_wp2_with fail
    refine (szU_no b m cb (L - n) _ (by omega) (by omega) hm).mono ?_
    rintro e w1 ⟨rfl, rfl⟩
    go_wp2
    go_ret
    exact ⟨rfl, sA⟩

set_option maxHeartbeats 1600000 in
set_option maxRecDepth 100000 in
theorem toRat_any (neg : Bool) (a b : Option Addr) (ba oa n ca bb ob m cb : Nat) (X Y : Nat → Nat) (w : World) (hn : n ≤ 1048576) (hm : m ≤ 1048576) (hX : Limbs w a ba oa n X) (hY : Limbs w b bb ob m Y) :
    Calls Try.prog 41 #[.agg #[.bool neg, .slice a n ca, .slice b m cb]] w fun e w' => ∃ g h, e = .returned (.agg #[.bool neg, .slice (some ⟨g, 0, none⟩) n n, .slice (some ⟨h, 0, none⟩) m m]) ∧ w.Since w.heap.size w' ∧ w.heap.size ≤ g ∧ g < h ∧
      h < w'.heap.size ∧ Limbs w' (some ⟨g, 0, none⟩) g 0 n X ∧ Limbs w' (some ⟨h, 0, none⟩) h 0 m Y ∧ (∀ o, w'.frozen? ⟨g, o, none⟩ = false) ∧ (∀ o, w'.frozen? ⟨h, o, none⟩ = false) := by
  have sA : w.Since w.heap.size (((w.alloc (.cells #[.bool neg, .slice a n ca, .slice b m cb] 63)).alloc (.cells #[.bool false, .slice none 0 0, .slice none 0 0] 51)).alloc (.cells #[.bool neg, .slice none 0 0, .slice none 0 0] 51)) :=
    (((World.Since.refl _ _).alloc (Nat.le_refl _) _).alloc (by simp) _).alloc (by simp; omega) _
  have zA : (((w.alloc (.cells #[.bool neg, .slice a n ca, .slice b m cb] 63)).alloc (.cells #[.bool false, .slice none 0 0, .slice none 0 0] 51)).alloc (.cells #[.bool neg, .slice none 0 0, .slice none 0 0] 51)).heap.size = w.heap.size + 1 + 1 + 1 := by simp
  have bA : Box3 (((w.alloc (.cells #[.bool neg, .slice a n ca, .slice b m cb] 63)).alloc (.cells #[.bool false, .slice none 0 0, .slice none 0 0] 51)).alloc (.cells #[.bool neg, .slice none 0 0, .slice none 0 0] 51)) w.heap.size (.bool neg) (.slice a n ca) (.slice b m cb) := ((Box3.new w _ _ _ _).keep ((World.Since.refl _ _).alloc (Nat.le_refl _) _)).keep ((World.Since.refl _ _).alloc (Nat.le_refl _) _)
  have rA : Box3 (((w.alloc (.cells #[.bool neg, .slice a n ca, .slice b m cb] 63)).alloc (.cells #[.bool false, .slice none 0 0, .slice none 0 0] 51)).alloc (.cells #[.bool neg, .slice none 0 0, .slice none 0 0] 51)) (w.heap.size + 1) (.bool false) (.slice none 0 0) (.slice none 0 0) := by
    have := (Box3.new (w.alloc (.cells #[.bool neg, .slice a n ca, .slice b m cb] 63)) (.bool false) (.slice none 0 0) (.slice none 0 0) 51).keep ((World.Since.refl _ _).alloc (Nat.le_refl _) (.cells #[.bool neg, .slice none 0 0, .slice none 0 0] 51))
    simpa using this
  have oA : Box3 (((w.alloc (.cells #[.bool neg, .slice a n ca, .slice b m cb] 63)).alloc (.cells #[.bool false, .slice none 0 0, .slice none 0 0] 51)).alloc (.cells #[.bool neg, .slice none 0 0, .slice none 0 0] 51)) (w.heap.size + 1 + 1) (.bool neg) (.slice none 0 0) (.slice none 0 0) := by
    have := Box3.new ((w.alloc (.cells #[.bool neg, .slice a n ca, .slice b m cb] 63)).alloc (.cells #[.bool false, .slice none 0 0, .slice none 0 0] 51)) (.bool neg) (.slice none 0 0) (.slice none 0 0) 51
    simpa using this
  go_enter Try.func41, Try.ntmps41
  go_wp2_with fail
  generalize (((w.alloc (.cells #[.bool neg, .slice a n ca, .slice b m cb] 63)).alloc (.cells #[.bool false, .slice none 0 0, .slice none 0 0] 51)).alloc (.cells #[.bool neg, .slice none 0 0, .slice none 0 0] 51)) = wA at *
  refine (to_any a ba oa n ca X wA hn (hX.keep sA)).mono ?_
  rintro e w1 ⟨rfl, s1, r1⟩
  have z1 := s1.size
  have b1 := bA.keep s1
  have q1 := rA.keep s1
  have o1 := oA.keep s1
  have S1 : w.Since w.heap.size w1 := sA.trans (sinceMono s1 sA.size)
  have L1 := limbs_row r1
  have F1 : ∀ o, w1.frozen? ⟨wA.heap.size, o, none⟩ = false := fun o => r1.frozen o
  have t1 : wA.heap.size < w1.heap.size := r1.lt
  rw [zA] at L1 F1 t1
  clear r1 bA rA oA
  have k1 := b1.c2
  have k2 := o1.c1
  have k3 := o1.f 1
  go_wp2_with fail
  clear k1 k2 k3
  have M2 : Marked w1 (w1.setCell ⟨w.heap.size + 1 + 1, 1, none⟩ (.slice (some ⟨w.heap.size + 1 + 1 + 1, 0, none⟩) n n)) (w.heap.size + 1 + 1) := (Marked.refl w1 _).setCell _ _
  have o2 := o1.set1 (.slice (some ⟨w.heap.size + 1 + 1 + 1, 0, none⟩) n n)
  have q2 := q1.marked M2 (by omega)
  have S2 : w.Since w.heap.size (w1.setCell ⟨w.heap.size + 1 + 1, 1, none⟩ (.slice (some ⟨w.heap.size + 1 + 1 + 1, 0, none⟩) n n)) := S1.trans (M2.since (by omega))
  have L2 := L1.marked M2 (fun _ => by omega)
  have F2 : ∀ o, (w1.setCell ⟨w.heap.size + 1 + 1, 1, none⟩ (.slice (some ⟨w.heap.size + 1 + 1 + 1, 0, none⟩) n n)).frozen? ⟨w.heap.size + 1 + 1 + 1, o, none⟩ = false := fun o => by rw [M2.frozenO (a := ⟨w.heap.size + 1 + 1 + 1, o, none⟩) (by show w.heap.size + 1 + 1 + 1 ≠ _; omega)]; exact F1 o
  have z2 := M2.size
  generalize w1.setCell ⟨w.heap.size + 1 + 1, 1, none⟩ (.slice (some ⟨w.heap.size + 1 + 1 + 1, 0, none⟩) n n) = w2 at *
  refine (to_any b bb ob m cb Y w2 hm (hY.keep S2)).mono ?_
  rintro e w3 ⟨rfl, s3, r3⟩
  have z3 := s3.size
  have q3 := q2.keep s3
  have o3 := o2.keep s3
  have S3 : w.Since w.heap.size w3 := S2.trans (sinceMono s3 S2.size)
  have L3 := L2.keep s3
  have F3 : ∀ o, w3.frozen? ⟨w.heap.size + 1 + 1 + 1, o, none⟩ = false := fun o => by rw [s3.frozen (a := ⟨w.heap.size + 1 + 1 + 1, o, none⟩) (by show w.heap.size + 1 + 1 + 1 < _; omega)]; exact F2 o
  have K3 := limbs_row r3
  have G3 : ∀ o, w3.frozen? ⟨w2.heap.size, o, none⟩ = false := fun o => r3.frozen o
  have t3 : w2.heap.size < w3.heap.size := r3.lt
  clear r3 L1 L2 F1 F2 b1 q1 o1 q2 o2
  have q30 := q3.c0
  have q31 := q3.c1
  have q32 := q3.c2
  have q3f0 := q3.f 0
  have q3f1 := q3.f 1
  have q3f2 := q3.f 2
  have o30 := o3.c0
  have o31 := o3.c1
  have o32 := o3.c2
  have o3f2 := o3.f 2
  have M4 : Marked w3 (w3.setCell ⟨w.heap.size + 1 + 1, 2, none⟩ (.slice (some ⟨w1.heap.size, 0, none⟩) m m)) (w.heap.size + 1 + 1) := (Marked.refl w3 _).setCell _ _
  rw [z2] at K3 G3 t3
  go_wp2
  have q4 := (((q3.marked M4 (by omega)).set0 (.bool neg)).set1 (.slice (some ⟨w.heap.size + 1 + 1 + 1, 0, none⟩) n n)).set2 (.slice (some ⟨w1.heap.size, 0, none⟩) m m)
  refine bodyPost_ret (results_box3 rfl _ _ _ _ _ _ rfl q4) rfl ?_
  have M5 : Marked (w3.setCell ⟨w.heap.size + 1 + 1, 2, none⟩ (.slice (some ⟨w1.heap.size, 0, none⟩) m m)) _ (w.heap.size + 1) := (((Marked.refl _ _).setCell 0 (.bool neg)).setCell 1 (.slice (some ⟨w.heap.size + 1 + 1 + 1, 0, none⟩) n n)).setCell 2 (.slice (some ⟨w1.heap.size, 0, none⟩) m m)
  refine ⟨w.heap.size + 1 + 1 + 1, w1.heap.size, rfl, (S3.trans (M4.since (by omega))).trans (M5.since (by omega)), by omega, by omega, by rw [M5.size, M4.size]; omega,
    (L3.marked M4 (fun _ => by omega)).marked M5 (fun _ => by omega), (K3.marked M4 (fun _ => by omega)).marked M5 (fun _ => by omega), fun o => ?_, fun o => ?_⟩
  · rw [M5.frozenO (a := ⟨w.heap.size + 1 + 1 + 1, o, none⟩) (by show w.heap.size + 1 + 1 + 1 ≠ _; omega), M4.frozenO (a := ⟨w.heap.size + 1 + 1 + 1, o, none⟩) (by show w.heap.size + 1 + 1 + 1 ≠ _; omega)]; exact F3 o
  · rw [M5.frozenO (a := ⟨w1.heap.size, o, none⟩) (by show w1.heap.size ≠ _; omega), M4.frozenO (a := ⟨w1.heap.size, o, none⟩) (by show w1.heap.size ≠ _; omega)]; exact G3 o

set_option maxHeartbeats 800000 in
set_option maxRecDepth 100000 in
/-- eqRat at two Rats of the same fields. -/
theorem eqRat_true (neg : Bool) (a a' b b' : Option Addr) (ba oa ba' oa' n ca ca' bb ob bb' ob' m cb cb' : Nat) (X Y : Nat → Nat) (w : World) (hn : n ≤ 4194304) (hm : m ≤ 4194304)
    (hX : Limbs w a ba oa n X) (hX' : Limbs w a' ba' oa' n X) (hY : Limbs w b bb ob m Y) (hY' : Limbs w b' bb' ob' m Y) :
    Calls Try.prog 48 #[.agg #[.bool neg, .slice a n ca, .slice b m cb], .agg #[.bool neg, .slice a' n ca', .slice b' m cb']] w fun e w' => e = .returned (.bool true) ∧ w.Since w.heap.size w' := by
  have sA : w.Since w.heap.size ((w.alloc (.cells #[.bool neg, .slice a n ca, .slice b m cb] 51)).alloc (.cells #[.bool neg, .slice a' n ca', .slice b' m cb'] 51)) := ((World.Since.refl _ _).alloc (Nat.le_refl _) _).alloc (by simp) _
  have bA : Box3 ((w.alloc (.cells #[.bool neg, .slice a n ca, .slice b m cb] 51)).alloc (.cells #[.bool neg, .slice a' n ca', .slice b' m cb'] 51)) w.heap.size (.bool neg) (.slice a n ca) (.slice b m cb) := (Box3.new w _ _ _ _).keep ((World.Since.refl _ _).alloc (Nat.le_refl _) _)
  have cA : Box3 ((w.alloc (.cells #[.bool neg, .slice a n ca, .slice b m cb] 51)).alloc (.cells #[.bool neg, .slice a' n ca', .slice b' m cb'] 51)) (w.heap.size + 1) (.bool neg) (.slice a' n ca') (.slice b' m cb') := by
    have := Box3.new (w.alloc (.cells #[.bool neg, .slice a n ca, .slice b m cb] 51)) (.bool neg) (.slice a' n ca') (.slice b' m cb') 51
    simpa using this
  go_enter Try.func48, Try.ntmps48
  go_wp2_with fail
  generalize ((w.alloc (.cells #[.bool neg, .slice a n ca, .slice b m cb] 51)).alloc (.cells #[.bool neg, .slice a' n ca', .slice b' m cb'] 51)) = wA at *
  refine (eq_true a a' ba oa ba' oa' n ca ca' X wA hn (hX.keep sA) (hX'.keep sA)).mono ?_
  rintro e w1 ⟨rfl, s1⟩
  have S1 := s1.since wA.heap.size
  have k1 := (bA.keep S1).c2
  have k2 := (cA.keep S1).c2
  go_wp2_with fail
  refine (eq_true b b' bb ob bb' ob' m cb cb' Y w1 hm ((hY.keep sA).keep S1) ((hY'.keep sA).keep S1)).mono ?_
  rintro e w2 ⟨rfl, s2⟩
  go_wp2
  go_ret
  exact ⟨rfl, (sA.trans (sinceMono S1 sA.size)).trans (s2.since _)⟩

end Go.Proofs.Ythaomfabdghfjaa

namespace Go.Proofs.Ythaomfabdghfjaa
open Go.RowKit

/-- What a Rat holds. -/
structure RatD where
  neg : Bool
  n : Nat
  X : Nat → Nat
  m : Nat
  Y : Nat → Nat

def RatD.nul : RatD := ⟨false, 0, fun _ => 0, 0, fun _ => 0⟩

def RatD.ok (r : RatD) : Bool := ratOkB r.neg r.X r.n r.Y r.m

/-- Two slices that hold a Rat's lists, in blocks from lo on. -/
structure RatL (w : World) (lo : Nat) (r : RatD) (a b : Option Addr) (ca cb : Nat) : Prop where
  nc : r.n ≤ ca
  mc : r.m ≤ cb
  ac : a = none → ca = 0
  bc : b = none → cb = 0
  LX : ∃ ba oa, (0 < r.n → lo ≤ ba) ∧ Limbs w a ba oa r.n r.X
  LY : ∃ bb ob, (0 < r.m → lo ≤ bb) ∧ Limbs w b bb ob r.m r.Y
  lX : ∀ j, j < r.n → r.X j < 4294967296
  lY : ∀ j, j < r.m → r.Y j < 4294967296
  n63 : r.n ≤ 9223372036854775807
  m63 : r.m ≤ 9223372036854775807

section
variable {w w' : World} {lo lo' b off n c : Nat} {r : RatD} {a a1 a2 : Option Addr} {k1 k2 : Nat} {R : Nat → RatD}

theorem RatL.keep (h : RatL w lo r a1 a2 k1 k2) (s : w.Since w.heap.size w') : RatL w' lo r a1 a2 k1 k2 := by
  obtain ⟨ba, oa, l1, LX⟩ := h.LX
  obtain ⟨bb, ob, l2, LY⟩ := h.LY
  exact ⟨h.nc, h.mc, h.ac, h.bc, ⟨ba, oa, l1, LX.keep s⟩, ⟨bb, ob, l2, LY.keep s⟩, h.lX, h.lY, h.n63, h.m63⟩

theorem RatL.down (h : RatL w lo r a1 a2 k1 k2) (hl : lo' ≤ lo) : RatL w lo' r a1 a2 k1 k2 := by
  obtain ⟨ba, oa, l1, LX⟩ := h.LX
  obtain ⟨bb, ob, l2, LY⟩ := h.LY
  exact ⟨h.nc, h.mc, h.ac, h.bc, ⟨ba, oa, fun h => Nat.le_trans hl (l1 h), LX⟩, ⟨bb, ob, fun h => Nat.le_trans hl (l2 h), LY⟩, h.lX, h.lY, h.n63, h.m63⟩

theorem RatL.marked (h : RatL w lo r a1 a2 k1 k2) (s : Marked w w' c) (hc : c < lo) : RatL w' lo r a1 a2 k1 k2 := by
  obtain ⟨ba, oa, l1, LX⟩ := h.LX
  obtain ⟨bb, ob, l2, LY⟩ := h.LY
  exact ⟨h.nc, h.mc, h.ac, h.bc, ⟨ba, oa, l1, LX.marked s (fun h => by have := l1 h; omega)⟩, ⟨bb, ob, l2, LY.marked s (fun h => by have := l2 h; omega)⟩, h.lX, h.lY, h.n63, h.m63⟩

/-- A Rat that lies in memory. -/
structure RatM (w : World) (lo b off : Nat) (r : RatD) (a1 a2 : Option Addr) (k1 k2 : Nat) : Prop where
  c0 : w.cell? ⟨b, off, none⟩ = some (.bool r.neg)
  c1 : w.cell? ⟨b, off + 1, none⟩ = some (.slice a1 r.n k1)
  c2 : w.cell? ⟨b, off + 2, none⟩ = some (.slice a2 r.m k2)
  L : RatL w lo r a1 a2 k1 k2

theorem RatM.lt (h : RatM w lo b off r a1 a2 k1 k2) : b < w.heap.size := World.block_lt_of_cell? _ _ h.c0
theorem RatM.keep (h : RatM w lo b off r a1 a2 k1 k2) (s : w.Since w.heap.size w') : RatM w' lo b off r a1 a2 k1 k2 :=
  ⟨(s.cell (a := ⟨b, off, none⟩) h.lt).trans h.c0, (s.cell (a := ⟨b, off + 1, none⟩) h.lt).trans h.c1, (s.cell (a := ⟨b, off + 2, none⟩) h.lt).trans h.c2, h.L.keep s⟩
theorem RatM.down (h : RatM w lo b off r a1 a2 k1 k2) (hl : lo' ≤ lo) : RatM w lo' b off r a1 a2 k1 k2 := ⟨h.c0, h.c1, h.c2, h.L.down hl⟩
theorem RatM.marked (h : RatM w lo b off r a1 a2 k1 k2) (s : Marked w w' c) (hc : c < lo) (hb : b ≠ c) : RatM w' lo b off r a1 a2 k1 k2 :=
  ⟨(s.cell (a := ⟨b, off, none⟩) hb).trans h.c0, (s.cell (a := ⟨b, off + 1, none⟩) hb).trans h.c1, (s.cell (a := ⟨b, off + 2, none⟩) hb).trans h.c2, h.L.marked s hc⟩

/-- A slice of Rats. -/
def Rats (w : World) (lo : Nat) (a : Option Addr) (b off n : Nat) (R : Nat → RatD) : Prop :=
  ∀ i, i < n → a = some ⟨b, off, none⟩ ∧ ∃ a1 a2 k1 k2, RatM w lo b (off + i * 3) (R i) a1 a2 k1 k2

theorem Rats.keep (h : Rats w lo a b off n R) (s : w.Since w.heap.size w') : Rats w' lo a b off n R := fun i hi => by
  obtain ⟨h1, a1, a2, k1, k2, h2⟩ := h i hi
  exact ⟨h1, a1, a2, k1, k2, h2.keep s⟩
theorem Rats.down (h : Rats w lo a b off n R) (hl : lo' ≤ lo) : Rats w lo' a b off n R := fun i hi => by
  obtain ⟨h1, a1, a2, k1, k2, h2⟩ := h i hi
  exact ⟨h1, a1, a2, k1, k2, h2.down hl⟩
theorem Rats.marked (h : Rats w lo a b off n R) (s : Marked w w' c) (hc : c < lo) (hb : 0 < n → b ≠ c) : Rats w' lo a b off n R := fun i hi => by
  obtain ⟨h1, a1, a2, k1, k2, h2⟩ := h i hi
  exact ⟨h1, a1, a2, k1, k2, h2.marked s hc (hb (by omega))⟩
end

/-- How much a list of Rats counts. -/
def szR (R : Nat → RatD) : Nat → Nat
  | 0 => 0
  | n + 1 => szR R n + ((R n).n + (R n).m)

theorem szR_succ (R : Nat → RatD) (n : Nat) : szR R (n + 1) = szR R n + ((R n).n + (R n).m) := rfl

theorem szR_mono {R : Nat → RatD} {k n : Nat} (h : k ≤ n) : szR R k ≤ szR R n := by
  induction n with
  | zero => simp at h; subst h; exact Nat.le_refl _
  | succ n ih =>
    rcases Nat.lt_or_ge n k with h1 | h1
    · have : k = n + 1 := by omega
      subst this; exact Nat.le_refl _
    · have := ih h1
      rw [szR_succ]
      omega

theorem szR_at {R : Nat → RatD} {k n : Nat} (h : k < n) : (R k).n + (R k).m ≤ szR R n := by
  have := szR_mono (R := R) (show k + 1 ≤ n from h)
  rw [szR_succ] at this
  omega

/-- All are valid. -/
def RatsOk (R : Nat → RatD) (n : Nat) : Prop := ∀ i, i < n → (R i).ok = true

/-- What an affine map holds. -/
structure AffD where
  rows : Int
  cols : Int
  nw : Nat
  W : Nat → RatD
  nb : Nat
  B : Nat → RatD

def AffD.nul : AffD := ⟨0, 0, 0, fun _ => RatD.nul, 0, fun _ => RatD.nul⟩

def AffD.size (d : AffD) : Nat := d.nw + szR d.W d.nw + (d.nb + szR d.B d.nb)

/-- Two slices that hold an affine map's lists, in blocks from lo on. -/
structure AffL (w : World) (lo : Nat) (d : AffD) (a b : Option Addr) (ca cb : Nat) : Prop where
  nc : d.nw ≤ ca
  mc : d.nb ≤ cb
  LW : ∃ ba oa, (0 < d.nw → lo ≤ ba) ∧ Rats w lo a ba oa d.nw d.W
  LB : ∃ bb ob, (0 < d.nb → lo ≤ bb) ∧ Rats w lo b bb ob d.nb d.B
  r0 : -9223372036854775808 ≤ d.rows
  r1 : d.rows ≤ 9223372036854775807
  q0 : -9223372036854775808 ≤ d.cols
  q1 : d.cols ≤ 9223372036854775807
  n63 : d.nw ≤ 9223372036854775807
  m63 : d.nb ≤ 9223372036854775807

section
variable {w w' : World} {lo lo' b off n c : Nat} {d : AffD} {a a1 a2 : Option Addr} {k1 k2 : Nat} {A : Nat → AffD}

theorem AffL.keep (h : AffL w lo d a1 a2 k1 k2) (s : w.Since w.heap.size w') : AffL w' lo d a1 a2 k1 k2 := by
  obtain ⟨ba, oa, l1, LW⟩ := h.LW
  obtain ⟨bb, ob, l2, LB⟩ := h.LB
  exact ⟨h.nc, h.mc, ⟨ba, oa, l1, LW.keep s⟩, ⟨bb, ob, l2, LB.keep s⟩, h.r0, h.r1, h.q0, h.q1, h.n63, h.m63⟩
theorem AffL.down (h : AffL w lo d a1 a2 k1 k2) (hl : lo' ≤ lo) : AffL w lo' d a1 a2 k1 k2 := by
  obtain ⟨ba, oa, l1, LW⟩ := h.LW
  obtain ⟨bb, ob, l2, LB⟩ := h.LB
  exact ⟨h.nc, h.mc, ⟨ba, oa, fun h => Nat.le_trans hl (l1 h), LW.down hl⟩, ⟨bb, ob, fun h => Nat.le_trans hl (l2 h), LB.down hl⟩, h.r0, h.r1, h.q0, h.q1, h.n63, h.m63⟩
theorem AffL.marked (h : AffL w lo d a1 a2 k1 k2) (s : Marked w w' c) (hc : c < lo) : AffL w' lo d a1 a2 k1 k2 := by
  obtain ⟨ba, oa, l1, LW⟩ := h.LW
  obtain ⟨bb, ob, l2, LB⟩ := h.LB
  exact ⟨h.nc, h.mc, ⟨ba, oa, l1, LW.marked s hc (fun h => by have := l1 h; omega)⟩, ⟨bb, ob, l2, LB.marked s hc (fun h => by have := l2 h; omega)⟩, h.r0, h.r1, h.q0, h.q1, h.n63, h.m63⟩

/-- An affine map that lies in memory. -/
structure AffM (w : World) (lo b off : Nat) (d : AffD) (a1 a2 : Option Addr) (k1 k2 : Nat) : Prop where
  c0 : w.cell? ⟨b, off, none⟩ = some (.int .i64 d.rows)
  c1 : w.cell? ⟨b, off + 1, none⟩ = some (.int .i64 d.cols)
  c2 : w.cell? ⟨b, off + 2, none⟩ = some (.slice a1 d.nw k1)
  c3 : w.cell? ⟨b, off + 3, none⟩ = some (.slice a2 d.nb k2)
  L : AffL w lo d a1 a2 k1 k2

theorem AffM.lt (h : AffM w lo b off d a1 a2 k1 k2) : b < w.heap.size := World.block_lt_of_cell? _ _ h.c0
theorem AffM.keep (h : AffM w lo b off d a1 a2 k1 k2) (s : w.Since w.heap.size w') : AffM w' lo b off d a1 a2 k1 k2 :=
  ⟨(s.cell (a := ⟨b, off, none⟩) h.lt).trans h.c0, (s.cell (a := ⟨b, off + 1, none⟩) h.lt).trans h.c1, (s.cell (a := ⟨b, off + 2, none⟩) h.lt).trans h.c2, (s.cell (a := ⟨b, off + 3, none⟩) h.lt).trans h.c3, h.L.keep s⟩
theorem AffM.down (h : AffM w lo b off d a1 a2 k1 k2) (hl : lo' ≤ lo) : AffM w lo' b off d a1 a2 k1 k2 := ⟨h.c0, h.c1, h.c2, h.c3, h.L.down hl⟩

/-- A slice of affine maps. -/
def Affs (w : World) (lo : Nat) (a : Option Addr) (b off n : Nat) (A : Nat → AffD) : Prop :=
  ∀ i, i < n → a = some ⟨b, off, none⟩ ∧ ∃ a1 a2 k1 k2, AffM w lo b (off + i * 4) (A i) a1 a2 k1 k2

theorem Affs.keep (h : Affs w lo a b off n A) (s : w.Since w.heap.size w') : Affs w' lo a b off n A := fun i hi => by
  obtain ⟨h1, a1, a2, k1, k2, h2⟩ := h i hi
  exact ⟨h1, a1, a2, k1, k2, h2.keep s⟩
theorem Affs.down (h : Affs w lo a b off n A) (hl : lo' ≤ lo) : Affs w lo' a b off n A := fun i hi => by
  obtain ⟨h1, a1, a2, k1, k2, h2⟩ := h i hi
  exact ⟨h1, a1, a2, k1, k2, h2.down hl⟩
end

/-- How much a list of affine maps counts. -/
def szA (A : Nat → AffD) : Nat → Nat
  | 0 => 0
  | n + 1 => szA A n + (A n).size

theorem szA_succ (A : Nat → AffD) (n : Nat) : szA A (n + 1) = szA A n + (A n).size := rfl

theorem szA_mono {A : Nat → AffD} {k n : Nat} (h : k ≤ n) : szA A k ≤ szA A n := by
  induction n with
  | zero => simp at h; subst h; exact Nat.le_refl _
  | succ n ih =>
    rcases Nat.lt_or_ge n k with h1 | h1
    · have : k = n + 1 := by omega
      subst this; exact Nat.le_refl _
    · have := ih h1
      rw [szA_succ]
      omega

theorem szA_at {A : Nat → AffD} {k n : Nat} (h : k < n) : (A k).size ≤ szA A n := by
  have := szA_mono (A := A) (show k + 1 ≤ n from h)
  rw [szA_succ] at this
  omega

end Go.Proofs.Ythaomfabdghfjaa

namespace Go.Proofs.Ythaomfabdghfjaa
open Go.RowKit

/-- What a count leaves. -/
def szl (L t : Nat) : Int := if t ≤ L then ((L - t : Nat) : Int) else -1

theorem szl_ok {L t : Nat} (h : t ≤ L) : szl L t = ((L - t : Nat) : Int) := by simp [szl, h]
theorem szl_no {L t : Nat} (h : L < t) : szl L t = -1 := by simp [szl]; omega

set_option maxHeartbeats 1600000 in
set_option maxRecDepth 100000 in
theorem szRatS_any (a : Option Addr) (lo b off n cap L : Nat) (R : Nat → RatD) (w : World) (hL : L ≤ 1048576) (hn : n ≤ 9223372036854775807) (H : Rats w lo a b off n R) :
    Calls Try.prog 24 #[.slice a n cap, .int .i64 L] w fun e w' => e = .returned (.int .i64 (szl L (n + szR R n))) ∧ w.Since w.heap.size w' := by
  by_cases h : L < n
  · rw [szl_no (show L < n + szR R n by omega)]
    go_enter Try.func24, Try.ntmps24
    go_wp2
    go_ret
    exact ⟨rfl, World.Since.refl _ _⟩
  have h1 : (L : Int) - n = ((L - n : Nat) : Int) := by omega
  have H1 := hide h1
  clear h1
  go_enter Try.func24, Try.ntmps24
  go_wp2
  go_loopw [1, 5] (fun q i wr => ∃ k : Nat, k ≤ n ∧ i = .int .i64 k ∧ n + szR R k ≤ L ∧ q = .int .i64 ((L - n - szR R k : Nat) : Int) ∧ w.Since w.heap.size wr) (fun _ i _ => n - (intOf i).toNat)
  case atStart => exact ⟨0, Nat.zero_le _, rfl, by unfold szR; omega, by simp only [szR, Nat.sub_zero]; rw [← H1.out], World.Since.refl _ _⟩
  case round =>
    obtain ⟨k, hk, rfl, hs, rfl, s⟩ := hrel
    by_cases hlt : k < n
    · obtain ⟨rfl, a1, a2, k1, k2, M⟩ := H k hlt
      have M' := M.keep s
      have g0 := M'.c0
      have g1 := M'.c1
      have g2 := M'.c2
      have hz : (k : Int) < (n : Int) := by omega
      have e1 := szR_succ R k
      by_cases hf : n + szR R (k + 1) ≤ L
      · have H2 := hide e1
        clear e1
        go_wp2_with fail
        refine (szRat_ok (R k).neg a1 a2 (R k).n k1 (R k).m k2 (L - n - szR R k) wr (by omega) (by have := H2.out; omega)).mono ?_
        rintro e w1 ⟨rfl, s1⟩
        go_wp2
        go_roundw
        case rel => exact ⟨k + 1, by omega, by go_num, hf, by rw [H2.out]; congr 2; omega, s.trans (sinceMono s1 s.size)⟩
        case measure => simp [intOf]; omega
      · have hx := szR_mono (R := R) (show k + 1 ≤ n from hlt)
        have HZ := hide (szl_no (show L < n + szR R n by omega)).symm
        have H2 := hide e1
        clear e1
        go_wp2_with fail
        refine (szRat_no (R k).neg a1 a2 (R k).n k1 (R k).m k2 (L - n - szR R k) wr (by omega) (by have := H2.out; omega) M.L.n63 M.L.m63).mono ?_
        rintro e w1 ⟨rfl, s1⟩
        go_wp2
        go_ret
        exact ⟨ret_int HZ.out, s.trans (sinceMono s1 s.size)⟩
    · have e : k = n := by omega
      subst e
      go_wp2
      go_ret
      exact ⟨ret_int (by rw [szl_ok hs]; congr 1; omega), s⟩

end Go.Proofs.Ythaomfabdghfjaa

namespace Go.Proofs.Ythaomfabdghfjaa
open Go.RowKit

theorem szl_two {L s t : Nat} (h : s ≤ L) : szl (L - s) t = szl L (s + t) := by
  unfold szl
  by_cases h2 : t ≤ L - s
  · rw [if_pos h2, if_pos (by omega)]; congr 1; omega
  · rw [if_neg h2, if_neg (by omega)]

/-- The value of an affine map. -/
def affV (d : AffD) (a1 a2 : Option Addr) (k1 k2 : Nat) : Value := .agg #[.int .i64 d.rows, .int .i64 d.cols, .slice a1 d.nw k1, .slice a2 d.nb k2]

set_option maxHeartbeats 1600000 in
set_option maxRecDepth 100000 in
theorem szAffine_any (d : AffD) (a1 a2 : Option Addr) (lo k1 k2 L : Nat) (w : World) (hL : L ≤ 1048576) (H : AffL w lo d a1 a2 k1 k2) :
    Calls Try.prog 17 #[.agg #[.int .i64 d.rows, .int .i64 d.cols, .slice a1 d.nw k1, .slice a2 d.nb k2], .int .i64 L] w fun e w' => e = .returned (.int .i64 (szl L d.size)) ∧ w.Since w.heap.size w' := by
  have sA : w.Since w.heap.size (w.alloc (.cells #[.int .i64 d.rows, .int .i64 d.cols, .slice a1 d.nw k1, .slice a2 d.nb k2] 46)) := (World.Since.refl _ _).alloc (Nat.le_refl _) _
  have bA := Box4.new w (.int .i64 d.rows) (.int .i64 d.cols) (.slice a1 d.nw k1) (.slice a2 d.nb k2) 46
  have HA := H.keep sA
  obtain ⟨ba, oa, -, LW⟩ := HA.LW
  obtain ⟨bb, ob, -, LB⟩ := HA.LB
  have n63 := H.n63
  have m63 := H.m63
  by_cases h : d.nw + szR d.W d.nw ≤ L
  · have E := hide (szl_two (t := d.nb + szR d.B d.nb) h)
    have J1 := szRatS_any a1 lo ba oa d.nw k1 L d.W _ hL n63 LW
    rw [szl_ok h] at J1
    go_enter Try.func17, Try.ntmps17
    go_wp2_with fail
    generalize w.alloc (.cells #[.int .i64 d.rows, .int .i64 d.cols, .slice a1 d.nw k1, .slice a2 d.nb k2] 46) = wA at *
    refine J1.mono ?_
    rintro e w1 ⟨rfl, s1⟩
    have B1 := bA.keep s1
    have q2 := B1.c2
    have q3 := B1.c3
    have J2 := szRatS_any a2 lo bb ob d.nb k2 (L - (d.nw + szR d.W d.nw)) d.B w1 (by omega) m63 (LB.keep s1)
    clear J1
    by_cases h2 : d.nb + szR d.B d.nb ≤ L - (d.nw + szR d.W d.nw)
    · have E2 := hide (szl_ok h2)
      rw [szl_ok h2] at J2
      go_wp2_with fail
      refine J2.mono ?_
      rintro e w2 ⟨rfl, s2⟩
      go_wp2
      go_ret
      exact ⟨ret_int (by rw [← E2.out, E.out]; rfl), sA.trans (sinceMono (s1.trans (sinceMono s2 s1.size)) sA.size)⟩
    · have E2 := hide (szl_no (show L - (d.nw + szR d.W d.nw) < d.nb + szR d.B d.nb by omega))
      rw [E2.out] at J2
      go_wp2_with fail
      refine J2.mono ?_
      rintro e w2 ⟨rfl, s2⟩
      go_wp2
      go_ret
      exact ⟨ret_int (by rw [← E2.out, E.out]; rfl), sA.trans (sinceMono (s1.trans (sinceMono s2 s1.size)) sA.size)⟩
  · have J1 := szRatS_any a1 lo ba oa d.nw k1 L d.W _ hL n63 LW
    rw [szl_no (show L < d.nw + szR d.W d.nw by omega)] at J1
    have E := hide (szl_no (show L < d.size by unfold AffD.size; omega))
    go_enter Try.func17, Try.ntmps17
    go_wp2_with fail
    refine J1.mono ?_
    rintro e w1 ⟨rfl, s1⟩
    go_wp2
    go_ret
    exact ⟨ret_int E.out.symm, sA.trans (sinceMono s1 sA.size)⟩

set_option maxHeartbeats 1600000 in
set_option maxRecDepth 100000 in
theorem szAffineS_any (a : Option Addr) (lo b off n cap L : Nat) (A : Nat → AffD) (w : World) (hL : L ≤ 1048576) (hn : n ≤ 9223372036854775807) (H : Affs w lo a b off n A) :
    Calls Try.prog 9 #[.slice a n cap, .int .i64 L] w fun e w' => e = .returned (.int .i64 (szl L (n + szA A n))) ∧ w.Since w.heap.size w' := by
  by_cases h : L < n
  · rw [szl_no (show L < n + szA A n by omega)]
    go_enter Try.func9, Try.ntmps9
    go_wp2
    go_ret
    exact ⟨rfl, World.Since.refl _ _⟩
  have h1 : (L : Int) - n = ((L - n : Nat) : Int) := by omega
  have H1 := hide h1
  clear h1
  go_enter Try.func9, Try.ntmps9
  go_wp2
  go_loopw [1, 5] (fun q i wr => ∃ k : Nat, k ≤ n ∧ i = .int .i64 k ∧ n + szA A k ≤ L ∧ q = .int .i64 ((L - n - szA A k : Nat) : Int) ∧ w.Since w.heap.size wr) (fun _ i _ => n - (intOf i).toNat)
  case atStart => exact ⟨0, Nat.zero_le _, rfl, by unfold szA; omega, by simp only [szA, Nat.sub_zero]; rw [← H1.out], World.Since.refl _ _⟩
  case round =>
    obtain ⟨k, hk, rfl, hs, rfl, s⟩ := hrel
    by_cases hlt : k < n
    · obtain ⟨rfl, a1, a2, k1, k2, M⟩ := H k hlt
      have M' := M.keep s
      have g0 := M'.c0
      have g1 := M'.c1
      have g2 := M'.c2
      have g3 := M'.c3
      have hz : (k : Int) < (n : Int) := by omega
      have e1 := szA_succ A k
      have J1 := szAffine_any (A k) a1 a2 lo k1 k2 (L - n - szA A k) wr (by omega) M'.L
      by_cases hf : n + szA A (k + 1) ≤ L
      · have hf' : (A k).size ≤ L - n - szA A k := by omega
        rw [szl_ok hf'] at J1
        have H2 := hide e1
        clear e1
        go_wp2_with fail
        refine J1.mono ?_
        rintro e w1 ⟨rfl, s1⟩
        go_wp2
        go_roundw
        case rel => exact ⟨k + 1, by omega, by go_num, hf, by rw [H2.out]; congr 2; omega, s.trans (sinceMono s1 s.size)⟩
        case measure => simp [intOf]; omega
      · have hx := szA_mono (A := A) (show k + 1 ≤ n from hlt)
        have HZ := hide (szl_no (show L < n + szA A n by omega)).symm
        rw [szl_no (show L - n - szA A k < (A k).size by omega)] at J1
        clear e1
        go_wp2_with fail
        refine J1.mono ?_
        rintro e w1 ⟨rfl, s1⟩
        go_wp2
        go_ret
        exact ⟨ret_int HZ.out, s.trans (sinceMono s1 s.size)⟩
    · have e : k = n := by omega
      subst e
      go_wp2
      go_ret
      exact ⟨ret_int (by rw [szl_ok hs]; congr 1; omega), s⟩

set_option maxHeartbeats 1600000 in
set_option maxRecDepth 100000 in
theorem szNet_any (a : Option Addr) (lo b off n cap L : Nat) (A : Nat → AffD) (w : World) (hL : L ≤ 1048576) (hn : n ≤ 9223372036854775807) (H : Affs w lo a b off n A) :
    Calls Try.prog 4 #[.agg #[.slice a n cap], .int .i64 L] w fun e w' => e = .returned (.int .i64 (szl L (n + szA A n))) ∧ w.Since w.heap.size w' := by
  have sA : w.Since w.heap.size (w.alloc (.cells #[.slice a n cap] 24)) := (World.Since.refl _ _).alloc (Nat.le_refl _) _
  have J1 := szAffineS_any a lo b off n cap L A _ hL hn (H.keep sA)
  by_cases h : n + szA A n ≤ L
  · have E := hide (szl_ok h)
    rw [E.out] at J1 ⊢
    go_enter Try.func4, Try.ntmps4
    go_wp2_with fail
    refine J1.mono ?_
    rintro e w1 ⟨rfl, s1⟩
    go_wp2
    go_ret
    exact ⟨rfl, sA.trans (sinceMono s1 sA.size)⟩
  · have E := hide (szl_no (show L < n + szA A n by omega))
    rw [E.out] at J1 ⊢
    go_enter Try.func4, Try.ntmps4
    go_wp2_with fail
    refine J1.mono ?_
    rintro e w1 ⟨rfl, s1⟩
    go_wp2
    go_ret
    exact ⟨rfl, sA.trans (sinceMono s1 sA.size)⟩

end Go.Proofs.Ythaomfabdghfjaa

namespace Go.Proofs.Ythaomfabdghfjaa
open Go.RowKit

set_option maxHeartbeats 1600000 in
set_option maxRecDepth 100000 in
theorem l1AllOk_any (a : Option Addr) (lo b off n cap : Nat) (R : Nat → RatD) (w : World) (hn : n ≤ 1048576) (hs : szR R n ≤ 1048576) (H : Rats w lo a b off n R) :
    Calls Try.prog 18 #[.slice a n cap] w fun e w' => ∃ r : Bool, e = .returned (.bool r) ∧ (r = true ↔ RatsOk R n) ∧ w.Since w.heap.size w' := by
  go_enter Try.func18, Try.ntmps18
  go_wp2
  go_loopw [3] (fun i wr => ∃ k : Nat, k ≤ n ∧ i = .int .i64 k ∧ w.Since w.heap.size wr ∧ RatsOk R k) (fun i _ => n - (intOf i).toNat)
  case atStart => exact ⟨0, Nat.zero_le _, rfl, World.Since.refl _ _, fun i hi => absurd hi (by omega)⟩
  case round =>
    obtain ⟨k, hk, rfl, s, O⟩ := hrel
    by_cases hlt : k < n
    · obtain ⟨rfl, a1, a2, k1, k2, M⟩ := H k hlt
      have M' := M.keep s
      have g0 := M'.c0
      have g1 := M'.c1
      have g2 := M'.c2
      have hz : (k : Int) < (n : Int) := by omega
      have hsz := szR_at (R := R) hlt
      obtain ⟨ba, oa, -, LX⟩ := M'.L.LX
      obtain ⟨bb, ob, -, LY⟩ := M'.L.LY
      have J1 := specRatOk_any (R k).neg a1 a2 ba oa (R k).n k1 bb ob (R k).m k2 (R k).X (R k).Y wr (by omega) (by omega) LX LY M.L.lX M.L.lY
      rw [show ratOkB (R k).neg (R k).X (R k).n (R k).Y (R k).m = (R k).ok from rfl] at J1
      cases hok : (R k).ok
      · have HK := hide hok
        rw [hok] at J1
        clear hok
        go_wp2_with fail
        refine J1.mono ?_
        rintro e w2 ⟨rfl, s2⟩
        go_wp2
        go_ret
        refine ⟨false, rfl, ⟨(fun h => by cases h), fun h => ?_⟩, s.trans (sinceMono s2 s.size)⟩
        have := h k hlt
        rw [HK.out] at this
        cases this
      · have HK := hide hok
        rw [hok] at J1
        clear hok
        go_wp2_with fail
        refine J1.mono ?_
        rintro e w2 ⟨rfl, s2⟩
        go_wp2
        go_roundw
        case rel =>
          refine ⟨k + 1, by omega, by go_num, s.trans (sinceMono s2 s.size), fun i hi => ?_⟩
          by_cases e : i = k
          · subst e; exact HK.out
          · exact O i (by omega)
        case measure => simp [intOf]; omega
    · have e : k = n := by omega
      subst e
      go_wp2
      go_ret
      exact ⟨true, rfl, ⟨fun _ => O, fun _ => rfl⟩, s⟩

set_option maxHeartbeats 800000 in
set_option maxRecDepth 100000 in
theorem l2In_yes (x a b : Int) (w : World) (h1 : a ≤ x) (h2 : x ≤ b) :
    Calls Try.prog 10 #[.int .i64 x, .int .i64 a, .int .i64 b] w fun e w' => e = .returned (.bool true) ∧ w' = w := by
  go_enter Try.func10, Try.ntmps10
  go_wp2
  go_ret
  exact ⟨rfl, rfl⟩

set_option maxHeartbeats 800000 in
set_option maxRecDepth 100000 in
theorem l2In_no (x a b : Int) (w : World) (h : ¬ (a ≤ x ∧ x ≤ b)) :
    Calls Try.prog 10 #[.int .i64 x, .int .i64 a, .int .i64 b] w fun e w' => e = .returned (.bool false) ∧ w' = w := by
  by_cases h1 : a ≤ x
  · have h2 : ¬ x ≤ b := fun h2 => h ⟨h1, h2⟩
    clear h
    go_enter Try.func10, Try.ntmps10
    go_wp2
    go_ret
    exact ⟨rfl, rfl⟩
  · clear h
    go_enter Try.func10, Try.ntmps10
    go_wp2
    go_ret
    exact ⟨rfl, rfl⟩

/-- The sides are in their bounds. -/
def AffD.sides (d : AffD) : Prop := 0 ≤ d.rows ∧ d.rows ≤ 20000 ∧ 0 ≤ d.cols ∧ d.cols ≤ 20000

/-- .. and the lists as long as they say. -/
def AffD.shape (d : AffD) : Prop := d.sides ∧ (d.nw : Int) = d.rows * d.cols ∧ (d.nb : Int) = d.rows

/-- The cells of a map. -/
def AffD.cells (d : AffD) : Int := d.rows * (d.cols + 1)

def AffD.vals (d : AffD) : Prop := RatsOk d.W d.nw ∧ RatsOk d.B d.nb

theorem AffD.sides.bounds {d : AffD} (h : d.sides) : 0 ≤ d.cells ∧ d.cells ≤ 400020000 ∧ 0 ≤ d.rows * d.cols ∧ d.rows * d.cols ≤ 400000000 := by
  obtain ⟨h0, h1, h2, h3⟩ := h
  have a1 : d.rows * d.cols ≤ 20000 * 20000 := Int.mul_le_mul h1 h3 h2 (by omega)
  have a2 : 0 ≤ d.rows * d.cols := Int.mul_nonneg h0 h2
  have e : d.cells = d.rows * d.cols + d.rows := by unfold AffD.cells; rw [Int.mul_add, Int.mul_one]
  omega

set_option maxHeartbeats 800000 in
set_option maxRecDepth 100000 in
theorem l3Cells_any (d : AffD) (v2 v3 : Value) (w : World) (h : d.sides) :
    Calls Try.prog 12 #[.agg #[.int .i64 d.rows, .int .i64 d.cols, v2, v3]] w fun e w' => e = .returned (.int .i64 d.cells) ∧ w.Since w.heap.size w' := by
  have sA : w.Since w.heap.size (w.alloc (.cells #[.int .i64 d.rows, .int .i64 d.cols, v2, v3] 38)) := (World.Since.refl _ _).alloc (Nat.le_refl _) _
  have hb := h.bounds
  unfold AffD.cells at hb ⊢
  obtain ⟨h0, h1, h2, h3⟩ := h
  go_enter Try.func12, Try.ntmps12
  go_wp2
  go_ret
  exact ⟨rfl, sA⟩

set_option maxHeartbeats 3200000 in
set_option maxRecDepth 100000 in
theorem l3MapOk_any (d : AffD) (a1 a2 : Option Addr) (lo k1 k2 : Nat) (w : World) (hd : d.size ≤ 1048576) (H : AffL w lo d a1 a2 k1 k2) :
    Calls Try.prog 11 #[.agg #[.int .i64 d.rows, .int .i64 d.cols, .slice a1 d.nw k1, .slice a2 d.nb k2]] w fun e w' => ∃ r : Bool, e = .returned (.bool r) ∧ (r = true ↔ d.shape ∧ d.cells ≤ 20000 ∧ d.vals) ∧ w.Since w.heap.size w' := by
  have ts := hd
  unfold AffD.size at ts
  have sA : w.Since w.heap.size (w.alloc (.cells #[.int .i64 d.rows, .int .i64 d.cols, .slice a1 d.nw k1, .slice a2 d.nb k2] 38)) := (World.Since.refl _ _).alloc (Nat.le_refl _) _
  have bA := Box4.new w (.int .i64 d.rows) (.int .i64 d.cols) (.slice a1 d.nw k1) (.slice a2 d.nb k2) 38
  by_cases hr : 0 ≤ d.rows ∧ d.rows ≤ 20000
  rotate_left
  · have HN := hide (show ¬ d.shape from fun h => hr ⟨h.1.1, h.1.2.1⟩)
    go_enter Try.func11, Try.ntmps11
    go_wp2_with fail
    refine (l2In_no d.rows 0 20000 _ hr).mono ?_
    rintro e w1 ⟨rfl, rfl⟩
    clear hr
    go_wp2
    go_ret
    exact ⟨false, rfl, ⟨(fun h => by cases h), fun h => absurd h.1 HN.out⟩, sA⟩
  by_cases hc : 0 ≤ d.cols ∧ d.cols ≤ 20000
  rotate_left
  · have HN := hide (show ¬ d.shape from fun h => hc ⟨h.1.2.2.1, h.1.2.2.2⟩)
    go_enter Try.func11, Try.ntmps11
    go_wp2_with fail
    refine (l2In_yes d.rows 0 20000 _ hr.1 hr.2).mono ?_
    rintro e w1 ⟨rfl, rfl⟩
    go_wp2_with fail
    refine (l2In_no d.cols 0 20000 _ hc).mono ?_
    rintro e w1 ⟨rfl, rfl⟩
    clear hr hc
    go_wp2
    go_ret
    exact ⟨false, rfl, ⟨(fun h => by cases h), fun h => absurd h.1 HN.out⟩, sA⟩
  have hS : d.sides := ⟨hr.1, hr.2, hc.1, hc.2⟩
  have hb := hS.bounds
  obtain ⟨hr0, hr1⟩ := hr
  obtain ⟨hc0, hc1⟩ := hc
  obtain ⟨hb0, hb1, hb2, hb3⟩ := hb
  by_cases hw : (d.nw : Int) = d.rows * d.cols
  rotate_left
  · have HN := hide (show ¬ d.shape from fun h => hw h.2.1)
    go_enter Try.func11, Try.ntmps11
    go_wp2_with fail
    refine (l2In_yes d.rows 0 20000 _ hr0 hr1).mono ?_
    rintro e w1 ⟨rfl, rfl⟩
    go_wp2_with fail
    refine (l2In_yes d.cols 0 20000 _ hc0 hc1).mono ?_
    rintro e w1 ⟨rfl, rfl⟩
    go_wp2
    go_ret
    exact ⟨false, rfl, ⟨(fun h => by cases h), fun h => absurd h.1 HN.out⟩, sA⟩
  by_cases hv : (d.nb : Int) = d.rows
  rotate_left
  · have HN := hide (show ¬ d.shape from fun h => hv h.2.2)
    go_enter Try.func11, Try.ntmps11
    go_wp2_with fail
    refine (l2In_yes d.rows 0 20000 _ hr0 hr1).mono ?_
    rintro e w1 ⟨rfl, rfl⟩
    go_wp2_with fail
    refine (l2In_yes d.cols 0 20000 _ hc0 hc1).mono ?_
    rintro e w1 ⟨rfl, rfl⟩
    go_wp2
    go_ret
    exact ⟨false, rfl, ⟨(fun h => by cases h), fun h => absurd h.1 HN.out⟩, sA⟩
  have HS := hide (show d.shape from ⟨hS, hw, hv⟩)
  have q1 : ((d.nw : Int) != d.rows * d.cols) = false := by simpa using hw
  have q2 : ((d.nb : Int) != d.rows) = false := by simpa using hv
  clear hw hv
  go_enter Try.func11, Try.ntmps11
  go_wp2_with fail
  refine (l2In_yes d.rows 0 20000 _ hr0 hr1).mono ?_
  rintro e w1 ⟨rfl, rfl⟩
  go_wp2_with fail
  refine (l2In_yes d.cols 0 20000 _ hc0 hc1).mono ?_
  rintro e w1 ⟨rfl, rfl⟩
  go_wp2_with fail
  refine (l3Cells_any d _ _ _ hS).mono ?_
  rintro e w1 ⟨rfl, s1⟩
  have B1 := bA.keep s1
  have b2 := B1.c2
  have b3 := B1.c3
  have S1 : w.Since w.heap.size w1 := sA.trans (sinceMono s1 sA.size)
  obtain ⟨ba, oa, -, LW⟩ := (H.keep S1).LW
  obtain ⟨bb, ob, -, LB⟩ := (H.keep S1).LB
  by_cases hcl : d.cells ≤ 20000
  rotate_left
  · have hg : 20000 < d.cells := by omega
    have HN := hide hcl
    clear hcl bA
    go_wp2
    go_ret
    exact ⟨false, rfl, ⟨(fun h => by cases h), fun h => absurd h.2.1 (by have := HN.out; omega)⟩, S1⟩
  have hg : ¬ 20000 < d.cells := by omega
  have HC := hide hcl
  clear hcl bA
  go_wp2_with fail
  refine (l1AllOk_any a1 lo ba oa d.nw k1 d.W w1 (by omega) (by omega) LW).mono ?_
  rintro e w2 ⟨r1, rfl, i1, s2⟩
  have I1 := hide i1
  clear i1
  cases r1
  · go_wp2
    go_ret
    exact ⟨false, rfl, ⟨(fun h => by cases h), fun h => absurd (I1.out.2 h.2.2.1) (by simp)⟩, S1.trans (sinceMono s2 S1.size)⟩
  · have b3' := (B1.keep s2).c3
    clear b2 b3
    go_wp2_with fail
    refine (l1AllOk_any a2 lo bb ob d.nb k2 d.B w2 (by omega) (by omega) (LB.keep s2)).mono ?_
    rintro e w3 ⟨r2, rfl, i2, s3⟩
    have I2 := hide i2
    clear i2
    go_wp2
    go_ret
    exact ⟨r2, rfl, ⟨fun h => ⟨HS.out, HC.out, I1.out.1 (by simp), I2.out.1 h⟩, fun h => I2.out.2 h.2.2.2⟩, (S1.trans (sinceMono s2 S1.size)).trans (sinceMono s3 (Nat.le_trans S1.size s2.size))⟩

/-- The cells of the first k maps. -/
def sumC (A : Nat → AffD) : Nat → Int
  | 0 => 0
  | k + 1 => sumC A k + (A k).cells

theorem sumC_succ (A : Nat → AffD) (k : Nat) : sumC A (k + 1) = sumC A k + (A k).cells := rfl

/-- What NetOk asks. -/
structure NetP (n : Nat) (A : Nat → AffD) : Prop where
  n0 : 1 ≤ n
  n1 : n ≤ 10000
  shape : ∀ k, k < n → (A k).shape
  chain : ∀ k, k < n → 0 < k → (A k).cols = (A (k - 1)).rows
  sum : sumC A n ≤ 20000
  vals : ∀ k, k < n → (A k).vals

theorem sumC_bound {A : Nat → AffD} {k : Nat} (h : ∀ j, j < k → (A j).shape) : 0 ≤ sumC A k ∧ sumC A k ≤ 400020000 * k := by
  induction k with
  | zero => simp [sumC]
  | succ k ih =>
    obtain ⟨h1, h2⟩ := ih (fun j hj => h j (by omega))
    obtain ⟨h3, h4, -, -⟩ := (h k (by omega)).1.bounds
    rw [sumC_succ]
    omega

theorem sumC_mono {A : Nat → AffD} {k n : Nat} (h : ∀ j, j < n → (A j).shape) (hk : k ≤ n) : sumC A k ≤ sumC A n := by
  induction n with
  | zero => simp at hk; subst hk; exact Int.le_refl _
  | succ n ih =>
    rcases Nat.lt_or_ge n k with h1 | h1
    · have : k = n + 1 := by omega
      subst this; exact Int.le_refl _
    · have := ih (fun j hj => h j (by omega)) h1
      have := (h n (by omega)).1.bounds
      rw [sumC_succ]
      omega

theorem NetP.cells {n : Nat} {A : Nat → AffD} (h : NetP n A) {k : Nat} (hk : k < n) : (A k).cells ≤ 20000 := by
  have h1 := sumC_mono h.shape (show k + 1 ≤ n from hk)
  have h2 := (sumC_bound (A := A) (k := k) (fun j hj => h.shape j (by omega))).1
  have h3 := h.sum
  rw [sumC_succ] at h1
  omega

end Go.Proofs.Ythaomfabdghfjaa

namespace Go.Proofs.Ythaomfabdghfjaa
open Go.RowKit

theorem Tab.keepN {w w' : World} (_h : Tab w) (_hw : 0 ≤ w.heap.size) (_s : w.Since w.heap.size w') : Tab w' := trivial

set_option maxHeartbeats 1600000 in
set_option maxRecDepth 100000 in
theorem allValid_any (a : Option Addr) (lo b off n cap : Nat) (R : Nat → RatD) (w : World) (hw : 0 ≤ w.heap.size) (hT : Tab w) (hn : n ≤ 1048576) (hs : szR R n ≤ 1048576) (H : Rats w lo a b off n R) :
    Calls Try.prog 15 #[.slice a n cap] w fun e w' => ∃ r : Bool, e = .returned (.bool r) ∧ (r = true ↔ RatsOk R n) ∧ w.Since w.heap.size w' := by
  go_enter Try.func15, Try.ntmps15
  go_wp2
  go_loopw [7] (fun i wr => ∃ k : Nat, k ≤ n ∧ i = .int .i64 k ∧ w.Since w.heap.size wr ∧ RatsOk R k) (fun i _ => n - (intOf i).toNat)
  case atStart => exact ⟨0, Nat.zero_le _, rfl, World.Since.refl _ _, fun i hi => absurd hi (by omega)⟩
  case round =>
    obtain ⟨k, hk, rfl, s, O⟩ := hrel
    by_cases hlt : k < n
    · obtain ⟨rfl, a1, a2, k1, k2, M⟩ := H k hlt
      have M' := M.keep s
      have g0 := M'.c0
      have g1 := M'.c1
      have g2 := M'.c2
      have hz : (k : Int) < (n : Int) := by omega
      have hsz := szR_at (R := R) hlt
      have sA : w.Since w.heap.size (wr.alloc (.cells #[.bool (R k).neg, .slice a1 (R k).n k1, .slice a2 (R k).m k2] 51)) := s.alloc s.size _
      obtain ⟨ba, oa, -, LX⟩ := (M.L.keep sA).LX
      obtain ⟨bb, ob, -, LY⟩ := (M.L.keep sA).LY
      have J1 := implRatOk_any (R k).neg a1 a2 ba oa (R k).n k1 bb ob (R k).m k2 (R k).X (R k).Y _ (Nat.zero_le _) (by omega) (by omega) M.L.nc M.L.mc M.L.ac M.L.bc LX LY M.L.lX M.L.lY (hT.keepN hw sA)
      rw [show ratOkB (R k).neg (R k).X (R k).n (R k).Y (R k).m = (R k).ok from rfl] at J1
      cases hok : (R k).ok
      · have HK := hide hok
        rw [hok] at J1
        clear hok
        go_wp2_with fail
        refine J1.mono ?_
        rintro e w2 ⟨rfl, s2⟩
        go_wp2
        go_ret
        refine ⟨false, rfl, ⟨(fun h => by cases h), fun h => ?_⟩, sA.trans (sinceMono s2 sA.size)⟩
        have := h k hlt
        rw [HK.out] at this
        cases this
      · have HK := hide hok
        rw [hok] at J1
        clear hok
        go_wp2_with fail
        refine J1.mono ?_
        rintro e w2 ⟨rfl, s2⟩
        go_wp2
        go_roundw
        case rel =>
          refine ⟨k + 1, by omega, by go_num, sA.trans (sinceMono s2 sA.size), fun i hi => ?_⟩
          by_cases e : i = k
          · subst e; exact HK.out
          · exact O i (by omega)
        case measure => simp [intOf]; omega
    · have e : k = n := by omega
      subst e
      go_wp2
      go_ret
      exact ⟨true, rfl, ⟨fun _ => O, fun _ => rfl⟩, s⟩

set_option maxHeartbeats 800000 in
set_option maxRecDepth 100000 in
theorem sideFits_yes (x : Int) (w : World) (h1 : 0 ≤ x) (h2 : x ≤ 20000) :
    Calls Try.prog 27 #[.int .i64 x] w fun e w' => e = .returned (.bool true) ∧ w' = w := by
  go_enter Try.func27, Try.ntmps27
  go_wp2
  go_ret
  exact ⟨rfl, rfl⟩

set_option maxHeartbeats 800000 in
set_option maxRecDepth 100000 in
theorem sideFits_no (x : Int) (w : World) (h : ¬ (0 ≤ x ∧ x ≤ 20000)) :
    Calls Try.prog 27 #[.int .i64 x] w fun e w' => e = .returned (.bool false) ∧ w' = w := by
  by_cases h1 : 0 ≤ x
  · have h2 : ¬ x ≤ 20000 := fun h2 => h ⟨h1, h2⟩
    clear h
    go_enter Try.func27, Try.ntmps27
    go_wp2
    go_ret
    exact ⟨rfl, rfl⟩
  · clear h
    go_enter Try.func27, Try.ntmps27
    go_wp2
    go_ret
    exact ⟨rfl, rfl⟩

set_option maxHeartbeats 800000 in
set_option maxRecDepth 100000 in
theorem cellsOf_any (d : AffD) (w : World) (h : d.sides) :
    Calls Try.prog 21 #[.int .i64 d.rows, .int .i64 d.cols] w fun e w' => e = .returned (.int .i64 d.cells) ∧ w' = w := by
  have hb := h.bounds
  unfold AffD.cells at hb ⊢
  obtain ⟨h0, h1, h2, h3⟩ := h
  go_enter Try.func21, Try.ntmps21
  go_wp2
  go_ret
  exact ⟨rfl, rfl⟩

set_option maxHeartbeats 3200000 in
set_option maxRecDepth 100000 in
theorem shapeFits_any (d : AffD) (a1 a2 : Option Addr) (k1 k2 : Nat) (w : World) :
    Calls Try.prog 20 #[.agg #[.int .i64 d.rows, .int .i64 d.cols, .slice a1 d.nw k1, .slice a2 d.nb k2]] w fun e w' => ∃ r : Bool, e = .returned (.bool r) ∧ (r = true ↔ d.shape) ∧ w.Since w.heap.size w' := by
  have sA : w.Since w.heap.size (w.alloc (.cells #[.int .i64 d.rows, .int .i64 d.cols, .slice a1 d.nw k1, .slice a2 d.nb k2] 38)) := (World.Since.refl _ _).alloc (Nat.le_refl _) _
  by_cases hr : 0 ≤ d.rows ∧ d.rows ≤ 20000
  rotate_left
  · have HN := hide (show ¬ d.shape from fun h => hr ⟨h.1.1, h.1.2.1⟩)
    go_enter Try.func20, Try.ntmps20
    go_wp2_with fail
    refine (sideFits_no d.rows _ hr).mono ?_
    rintro e w1 ⟨rfl, rfl⟩
    clear hr
    go_wp2
    go_ret
    exact ⟨false, rfl, ⟨(fun h => by cases h), fun h => absurd h HN.out⟩, sA⟩
  by_cases hc : 0 ≤ d.cols ∧ d.cols ≤ 20000
  rotate_left
  · have HN := hide (show ¬ d.shape from fun h => hc ⟨h.1.2.2.1, h.1.2.2.2⟩)
    go_enter Try.func20, Try.ntmps20
    go_wp2_with fail
    refine (sideFits_yes d.rows _ hr.1 hr.2).mono ?_
    rintro e w1 ⟨rfl, rfl⟩
    go_wp2_with fail
    refine (sideFits_no d.cols _ hc).mono ?_
    rintro e w1 ⟨rfl, rfl⟩
    clear hr hc
    go_wp2
    go_ret
    exact ⟨false, rfl, ⟨(fun h => by cases h), fun h => absurd h HN.out⟩, sA⟩
  have hS : d.sides := ⟨hr.1, hr.2, hc.1, hc.2⟩
  have hb := hS.bounds
  obtain ⟨hr0, hr1⟩ := hr
  obtain ⟨hc0, hc1⟩ := hc
  obtain ⟨hb0, hb1, hb2, hb3⟩ := hb
  by_cases hw : (d.nw : Int) = d.rows * d.cols
  rotate_left
  · have HN := hide (show ¬ d.shape from fun h => hw h.2.1)
    have q : ((d.nw : Int) == d.rows * d.cols) = false := by simpa using hw
    clear hw
    go_enter Try.func20, Try.ntmps20
    go_wp2_with fail
    refine (sideFits_yes d.rows _ hr0 hr1).mono ?_
    rintro e w1 ⟨rfl, rfl⟩
    go_wp2_with fail
    refine (sideFits_yes d.cols _ hc0 hc1).mono ?_
    rintro e w1 ⟨rfl, rfl⟩
    go_wp2
    go_ret
    exact ⟨false, rfl, ⟨(fun h => by cases h), fun h => absurd h HN.out⟩, sA⟩
  have q : ((d.nw : Int) == d.rows * d.cols) = true := by simpa using hw
  by_cases hv : (d.nb : Int) = d.rows
  rotate_left
  · have HN := hide (show ¬ d.shape from fun h => hv h.2.2)
    have q2 : ((d.nb : Int) == d.rows) = false := by simpa using hv
    clear hv hw
    go_enter Try.func20, Try.ntmps20
    go_wp2_with fail
    refine (sideFits_yes d.rows _ hr0 hr1).mono ?_
    rintro e w1 ⟨rfl, rfl⟩
    go_wp2_with fail
    refine (sideFits_yes d.cols _ hc0 hc1).mono ?_
    rintro e w1 ⟨rfl, rfl⟩
    go_wp2
    go_ret
    exact ⟨false, rfl, ⟨(fun h => by cases h), fun h => absurd h HN.out⟩, sA⟩
  have HS := hide (show d.shape from ⟨hS, hw, hv⟩)
  have q2 : ((d.nb : Int) == d.rows) = true := by simpa using hv
  clear hw hv
  go_enter Try.func20, Try.ntmps20
  go_wp2_with fail
  refine (sideFits_yes d.rows _ hr0 hr1).mono ?_
  rintro e w1 ⟨rfl, rfl⟩
  go_wp2_with fail
  refine (sideFits_yes d.cols _ hc0 hc1).mono ?_
  rintro e w1 ⟨rfl, rfl⟩
  go_wp2
  go_ret
  exact ⟨true, rfl, ⟨fun _ => HS.out, fun _ => rfl⟩, sA⟩

end Go.Proofs.Ythaomfabdghfjaa
