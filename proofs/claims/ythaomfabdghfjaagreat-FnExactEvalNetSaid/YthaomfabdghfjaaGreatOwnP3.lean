import Derived.Test.YthaomfabdghfjaaGreatG1P12
import Derived.Test.YthaomfabdghfjaaGreatOwnP1
import Derived.Deep.RegionHeld3
import Derived.Test.YthaomfabdghfjaaGreatG1P3
import Derived.Deep.RegionWith
import Derived.Test.YthaomfabdghfjaaGreatG1P7
import Derived.Test.YthaomfabdghfjaaGreatG1P2
import Derived.Test.YthaomfabdghfjaaGreatG1P5
namespace Go.Proofs.YthaomfabdghfjaaGreat
open Go.RowKit

/-- A list of limbs is plain: no zero limb at its end. -/
def plainB (X : Nat → Nat) (n : Nat) : Bool := n == 0 || X (n - 1) != 0

theorem plainB_iff {X : Nat → Nat} {n : Nat} : plainB X n = true ↔ (0 < n → X (n - 1) ≠ 0) := by
  unfold plainB
  rcases Nat.eq_zero_or_pos n with h | h
  · simp [h]
  · have : n ≠ 0 := by omega
    simp [this, h]

set_option maxHeartbeats 800000 in
set_option maxRecDepth 100000 in
theorem l1Plain_any (a : Option Addr) (b off n cap : Nat) (X : Nat → Nat) (w : World) (hn : n ≤ 16777216) (hX : Limbs w a b off n X) :
    Calls Tryz.prog 100 #[.slice a n cap] w fun e w' => e = .returned (.bool (plainB X n)) ∧ w' = w := by
  by_cases h0 : n = 0
  · subst h0
    go_enter Tryz.func100, Tryz.ntmps100
    go_wp2
    go_ret
    exact ⟨rfl, rfl⟩
  · obtain ⟨k, rfl⟩ : ∃ k, n = k + 1 := ⟨n - 1, by omega⟩
    obtain ⟨rfl, hc⟩ := hX k (by omega)
    have hp : Ending.returned (.bool ((k : Int) + 1 == 0 || (X k : Int) != 0)) = .returned (.bool (plainB X (k + 1))) := by
      have h : ((k : Int) + 1 == 0 || (X k : Int) != 0) = plainB X (k + 1) := by
        rw [Bool.eq_iff_iff]; simp [plainB]; omega
      rw [h]
    have hp := hide hp
    go_enter Tryz.func100, Tryz.ntmps100
    go_wp2
    go_ret
    exact ⟨hp.out, rfl⟩

set_option maxHeartbeats 800000 in
set_option maxRecDepth 100000 in
theorem isPlain_any (a : Option Addr) (b off n cap : Nat) (X : Nat → Nat) (w : World) (hn : n ≤ 16777216) (hX : Limbs w a b off n X) :
    Calls Tryz.prog 114 #[.slice a n cap] w fun e w' => e = .returned (.bool (plainB X n)) ∧ w' = w := by
  by_cases h0 : n = 0
  · subst h0
    go_enter Tryz.func114, Tryz.ntmps114
    go_wp2
    go_ret
    exact ⟨rfl, rfl⟩
  · obtain ⟨k, rfl⟩ : ∃ k, n = k + 1 := ⟨n - 1, by omega⟩
    obtain ⟨rfl, hc⟩ := hX k (by omega)
    have hp : Ending.returned (.bool ((k : Int) + 1 == 0 || (X k : Int) != 0)) = .returned (.bool (plainB X (k + 1))) := by
      have h : ((k : Int) + 1 == 0 || (X k : Int) != 0) = plainB X (k + 1) := by
        rw [Bool.eq_iff_iff]; simp [plainB]; omega
      rw [h]
    have hp := hide hp
    go_enter Tryz.func114, Tryz.ntmps114
    go_wp2
    go_ret
    exact ⟨hp.out, rfl⟩

set_option maxHeartbeats 800000 in
set_option maxRecDepth 100000 in
/-- l1Small on a list of at most one limb. -/
theorem l1Small_any (a : Option Addr) (b off n cap : Nat) (X : Nat → Nat) (w : World) (hn : n ≤ 1) (hX : Limbs w a b off n X) (hXl : ∀ j, j < n → X j < 4294967296) :
    Calls Tryz.prog 103 #[.slice a n cap] w fun e w' => e = .returned (.int .u64 (lv X n : Nat)) ∧ w' = w := by
  by_cases h0 : n = 0
  · subst h0
    go_enter Tryz.func103, Tryz.ntmps103
    go_wp2
    go_ret
    exact ⟨rfl, rfl⟩
  · have e : n = 1 := by omega
    subst e
    obtain ⟨rfl, hc⟩ := hX 0 (by omega)
    have hl := hXl 0 (by omega)
    rw [Nat.add_zero] at hc
    have he : lv X 1 = X 0 := by simp [lv]
    rw [he]
    clear he hXl
    go_enter Tryz.func103, Tryz.ntmps103
    go_wp2
    go_ret
    exact ⟨rfl, rfl⟩

set_option maxHeartbeats 800000 in
set_option maxRecDepth 100000 in
theorem l1GcdSmall_any (x y : Nat) (w : World) (hx : x < 18446744073709551616) (hy : y < 18446744073709551616) :
    Calls Tryz.prog 102 #[.int .u64 x, .int .u64 y] w fun e w' => e = .returned (.int .u64 (Nat.gcd x y)) ∧ w' = w := by
  go_enter Tryz.func102, Tryz.ntmps102
  go_wp2
  go_loopw [0, 1] (fun p q wr => ∃ s t : Nat, p = .int .u64 s ∧ q = .int .u64 t ∧ s < 18446744073709551616 ∧ t < 18446744073709551616 ∧ Hid (Nat.gcd s t = Nat.gcd x y) ∧ wr = w) (fun _ q _ => (intOf q).toNat)
  case atStart => exact ⟨x, y, rfl, rfl, hx, hy, rfl, rfl⟩
  case round =>
    obtain ⟨s, t, rfl, rfl, hs, ht, HG, rfl⟩ := hrel
    by_cases h0 : t = 0
    · subst h0
      go_wp2
      go_ret
      exact ⟨ret_int (congrArg (fun x : Nat => (x : Int)) (by have := HG.out; rwa [Nat.gcd_zero_right] at this)), rfl⟩
    · have hne : ((t : Int) == 0) = false := by simp; omega
      have hne2 : ¬ (t : Int) = 0 := by omega
      obtain ⟨r, hr⟩ : ∃ r, r = s % t := ⟨_, rfl⟩
      have hrl : r < t := by rw [hr]; exact Nat.mod_lt _ (by omega)
      have w1 : IntKind.u64.wrap ((s : Int) % (t : Int)) = (r : Int) := by rw [← Int.natCast_emod, ← hr]; exact wrap_u64_id r (by omega)
      have HR := hide hr
      clear hr h0
      go_wp2
      go_roundw
      case rel =>
        refine ⟨t, r, rfl, ?_, ht, by omega, ?_, by trivial⟩
        · first | rfl | exact congrArg (Value.int .u64) (by rw [HR.out, Int.natCast_emod])
        · have h := HG.out
          rw [Nat.gcd_comm, Nat.gcd_rec, ← HR.out, Nat.gcd_comm] at h
          exact h
      case measure => simp [intOf]; have := Int.emod_lt_of_pos (s : Int) (show (0 : Int) < (t : Int) by omega); omega

end Go.Proofs.YthaomfabdghfjaaGreat

namespace Go.Proofs.YthaomfabdghfjaaGreat
open Go.RowKit

/-- What RatOk says of a Rat. -/
def ratOkB (neg : Bool) (X : Nat → Nat) (n : Nat) (Y : Nat → Nat) (m : Nat) : Bool :=
  plainB X n && plainB Y m && m != 0 && !(neg && n == 0) && Nat.gcd (lv X n) (lv Y m) == 1

set_option maxHeartbeats 1600000 in
set_option maxRecDepth 100000 in
theorem implRatOk_any (neg : Bool) (a b : Option Addr) (ba oa n ca bb ob m cb : Nat) (X Y : Nat → Nat) (w : World) (_hw : 0 ≤ w.heap.size) (hn : n ≤ 16777216) (hm : m ≤ 16777216) (hnc : n ≤ ca) (hmc : m ≤ cb) (hac : a = none → ca = 0) (hbc : b = none → cb = 0)
    (hX : Limbs w a ba oa n X) (hY : Limbs w b bb ob m Y) (hXl : ∀ j, j < n → X j < 4294967296) (hYl : ∀ j, j < m → Y j < 4294967296) (_hT : Tab w) :
    Calls Tryz.prog 71 #[.agg #[.bool neg, .slice a n ca, .slice b m cb]] w fun e w' => e = .returned (.bool (ratOkB neg X n Y m)) ∧ w.Since w.heap.size w' := by
  have sA : w.Since w.heap.size (w.alloc (.cells #[.bool neg, .slice a n ca, .slice b m cb] 70)) := (World.Since.refl _ _).alloc (Nat.le_refl _) _
  have I1 := isPlain_any a ba oa n ca X _ hn (hX.keep sA)
  have I2 := isPlain_any b bb ob m cb Y _ hm (hY.keep sA)
  by_cases h1 : plainB X n = false
  · have HR := hide (show false = ratOkB neg X n Y m by simp [ratOkB, h1])
    rw [h1] at I1
    clear h1
    go_enter Tryz.func71, Tryz.ntmps71
    go_wp2_with fail
    refine I1.mono ?_
    rintro e w1 ⟨rfl, rfl⟩
    go_wp2
    go_ret
    exact ⟨ret_bool HR.out, sA⟩
  have h1 : plainB X n = true := by simpa using h1
  rw [h1] at I1
  by_cases h2 : plainB Y m = false
  · have HR := hide (show false = ratOkB neg X n Y m by simp [ratOkB, h2])
    rw [h2] at I2
    clear h1 h2
    go_enter Tryz.func71, Tryz.ntmps71
    go_wp2_with fail
    refine I1.mono ?_
    rintro e w1 ⟨rfl, rfl⟩
    go_wp2_with fail
    refine I2.mono ?_
    rintro e w1 ⟨rfl, rfl⟩
    go_wp2
    go_ret
    exact ⟨ret_bool HR.out, sA⟩
  have h2 : plainB Y m = true := by simpa using h2
  rw [h2] at I2
  have pX := hide (plainB_iff.1 h1)
  have pY := hide (plainB_iff.1 h2)
  by_cases h3 : m = 0
  · have HR := hide (show false = ratOkB neg X n Y m by simp [ratOkB, h3])
    clear h1 h2
    subst h3
    go_enter Tryz.func71, Tryz.ntmps71
    go_wp2_with fail
    refine I1.mono ?_
    rintro e w1 ⟨rfl, rfl⟩
    go_wp2_with fail
    refine I2.mono ?_
    rintro e w1 ⟨rfl, rfl⟩
    go_wp2
    go_ret
    exact ⟨ret_bool HR.out, sA⟩
  have q3 : ((m : Int) == 0) = false := by simp; omega
  by_cases h4 : neg = true ∧ n = 0
  · obtain ⟨rfl, rfl⟩ := h4
    have HR := hide (show false = ratOkB true X 0 Y m by simp [ratOkB])
    clear h1 h2
    go_enter Tryz.func71, Tryz.ntmps71
    go_wp2_with fail
    refine I1.mono ?_
    rintro e w1 ⟨rfl, rfl⟩
    go_wp2_with fail
    refine I2.mono ?_
    rintro e w1 ⟨rfl, rfl⟩
    go_wp2
    go_ret
    exact ⟨ret_bool HR.out, sA⟩
  have HR := hide (show (decide (Nat.gcd (lv X n) (lv Y m) = 1)) = ratOkB neg X n Y m by
    have e3 : (m != 0) = true := by simp [h3]
    have e4 : (neg && n == 0) = false := by cases neg <;> simp at h4 ⊢; exact h4
    rw [Bool.eq_iff_iff]
    simp [ratOkB, h1, h2, e3, e4])
  have q4 : (neg && (n : Int) == 0) = false := by
    cases neg
    · rfl
    · simp at h4 ⊢; omega
  have tA : Tab (w.alloc (.cells #[.bool neg, .slice a n ca, .slice b m cb] 70)) := trivial
  have I3 := gcdOf_any a b ba oa n ca bb ob m cb X Y _ (Nat.zero_le _) hn hm hnc hmc hac hbc (hX.keep sA) (hY.keep sA) hXl hYl pX.out pY.out tA
  clear h1 h2 h4 tA
  go_enter Tryz.func71, Tryz.ntmps71
  go_wp2_with fail
  refine I1.mono ?_
  rintro e w1 ⟨rfl, rfl⟩
  go_wp2_with fail
  refine I2.mono ?_
  rintro e w1 ⟨rfl, rfl⟩
  cases neg
  · clear q4
    go_wp2_with fail
    refine I3.mono ?_
    rintro e w3 ⟨v, g, rfl, ⟨a3, k, c3, Z, rfl, k1, k2, k3, L, F, l, p, e3⟩, hg, s3⟩
    have E := hide e3
    clear e3 I1 I2 I3
    go_wp2_with fail
    refine (isOne_any w3.heap.size 0 a3 g 0 k c3 Z _ (by simp [go_sem]) (L.keep ((World.Since.refl _ _).alloc (Nat.le_refl _) _)) l p).mono ?_
    rintro e w4 ⟨rfl, rfl⟩
    clear l p
    go_wp2
    go_ret
    exact ⟨ret_bool (by rw [E.out]; exact HR.out), (sA.trans (sinceMono s3 (by simp))).alloc (Nat.le_trans (by simp) s3.size) _⟩
  · have q5 : ((n : Int) == 0) = false := by simpa using q4
    clear q4
    go_wp2_with fail
    refine I3.mono ?_
    rintro e w3 ⟨v, g, rfl, ⟨a3, k, c3, Z, rfl, k1, k2, k3, L, F, l, p, e3⟩, hg, s3⟩
    have E := hide e3
    clear e3 I1 I2 I3
    go_wp2_with fail
    refine (isOne_any w3.heap.size 0 a3 g 0 k c3 Z _ (by simp [go_sem]) (L.keep ((World.Since.refl _ _).alloc (Nat.le_refl _) _)) l p).mono ?_
    rintro e w4 ⟨rfl, rfl⟩
    clear l p
    go_wp2
    go_ret
    exact ⟨ret_bool (by rw [E.out]; exact HR.out), (sA.trans (sinceMono s3 (by simp))).alloc (Nat.le_trans (by simp) s3.size) _⟩

end Go.Proofs.YthaomfabdghfjaaGreat

namespace Go.Proofs.YthaomfabdghfjaaGreat
open Go.RowKit

/-- The bits of a machine number. -/
def nb (v j : Nat) : Bool := v / 2 ^ j % 2 == 1

theorem bv_nb (v k : Nat) : bv (nb v) k = v % 2 ^ k := by
  induction k with
  | zero => simp [bv, Nat.mod_one]
  | succ k ih =>
    have h : bv (nb v) (k + 1) = bv (nb v) k + (nb v k).toNat * 2 ^ k := rfl
    rw [h, ih]
    unfold nb
    rw [toNat_beq, Nat.pow_succ, Nat.mod_mul, Nat.mul_comm (2 ^ k)]

set_option maxHeartbeats 1600000 in
set_option maxRecDepth 100000 in
theorem l1BitsOf_any (v : Nat) (w : World) (hv : v < 18446744073709551616) :
    Calls Tryz.prog 107 #[.int .u64 v] w fun e w' => ∃ x t B, e = .returned x ∧ t ≤ 64 ∧ Tr w' x t B ∧ bv B t = v ∧ w.Since w.heap.size w' := by
  obtain ⟨i0, hi, hz0, hz1, hz2⟩ := info_parts Tryz.info4
  go_enter Tryz.func107, Tryz.ntmps107
  go_wp2
  go_loopw [0, 3] (fun p o wr => ∃ k q : Nat, k ≤ 64 ∧ p = .int .u64 q ∧ q < 18446744073709551616 ∧ Hid (q = v / 2 ^ k) ∧ Hid (0 < k → 0 < v / 2 ^ (k - 1)) ∧ wr.ownsRow w.heap.size 4 1 o k (bl (nb v) k) ∧ w.Since w.heap.size wr) (fun p _ _ => (intOf p).toNat)
  case atStart => exact ⟨0, v, by omega, rfl, hv, hide (by simp), hide (fun h => absurd h (by omega)), World.ownsRow_made w #[] 0 (Nat.le_refl _) (by decide) rfl, (World.Since.refl _ _).alloc (Nat.le_refl _) _⟩
  case round =>
    obtain ⟨k, q, hk, rfl, hq, HQ, HP, hown, hs⟩ := hrel
    by_cases h0 : q = 0
    · subst h0
      obtain ⟨a', g, cap', rfl, hmc, hg, hB⟩ := own_bits hown
      go_wp2
      go_ret
      have hlt : v < 2 ^ k := by
        have := HQ.out
        have h2 : 0 < 2 ^ k := Nat.pow_pos (by omega)
        rcases Nat.lt_or_ge v (2 ^ k) with h | h
        · exact h
        · have := Nat.div_pos h h2; omega
      refine ⟨_, k, nb v, rfl, hk, ⟨a', g, 0, cap', rfl, hmc, hB, fun h => ?_⟩, (bv_nb v k).trans (Nat.mod_eq_of_lt hlt), hs⟩
      have h1 := HP.out h
      obtain ⟨j, rfl⟩ : ∃ j, k = j + 1 := ⟨k - 1, by omega⟩
      have h2 : v / 2 ^ j < 2 := by rw [Nat.div_lt_iff_lt_mul (Nat.pow_pos (by omega))]; rw [Nat.pow_succ] at hlt; omega
      simp only [Nat.add_sub_cancel] at h1 ⊢
      unfold nb
      rw [show v / 2 ^ j = 1 by omega]
      rfl
    · have hk2 : k < 64 := by
        rcases Nat.lt_or_ge k 64 with h | h
        · exact h
        · have e : k = 64 := by omega
          subst e
          have := HQ.out
          rw [Nat.div_eq_of_lt hv] at this
          omega
      have hne : 0 < q := by omega
      have hbit : ((q : Int) % 2 == 1) = nb v k := by
        rw [Bool.eq_iff_iff]
        simp only [nb, beq_iff_eq, ← HQ.out]
        omega
      have HB := hide hbit
      clear hbit h0
      go_wp2_with (at_builtin; refine wpList_append_own _ rfl _ _ 156 rfl w.heap.size 4 i0 (.bool false) 1 1 Tryz.underlying156 hi hz0 hz1 hz2 rfl (by decide) _ _ _ rfl (hown.alloc _) ⟨wr.heap.size, 0, none⟩ 1 1 [.bool ((q : Int) % 2 == 1)] rfl rfl (new_cell _ _ _) (one_one _ rfl) (by unfold maxLen; omega) (by omega) (by have := hs.size; simp; omega) ?_)
      intro v' w1 hown' hgrow _
      have hs1 : w.Since w.heap.size w1 := (hs.alloc hs.size _).grown hgrow (by have := hs.size; simp; omega) (fun k hk => (hown.lt k hk).1)
      rw [HB.out, ← bl_succ] at hown'
      clear hgrow hown hs
      go_wp2
      go_roundw
      case rel => exact ⟨k + 1, q / 2, by omega, by go_num, by omega, hide (by rw [HQ.out, Nat.div_div_eq_div_mul, Nat.pow_succ]), hide (fun _ => by rw [Nat.add_sub_cancel, ← HQ.out]; exact hne), hown', hs1⟩
      case measure => simp [intOf]; omega

/-- What l1IsSmall says. -/
def smallB (X : Nat → Nat) (n : Nat) (Y : Nat → Nat) (m : Nat) : Bool := decide (n ≤ 1 ∧ m ≤ 1 ∧ lv X n < 2147483648 ∧ lv Y m < 2147483648)

theorem smallB_iff {X Y : Nat → Nat} {n m : Nat} : smallB X n Y m = true ↔ n ≤ 1 ∧ m ≤ 1 ∧ lv X n < 2147483648 ∧ lv Y m < 2147483648 := by unfold smallB; exact decide_eq_true_iff

theorem smallB_not {X Y : Nat → Nat} {n m : Nat} (h : ¬ (n ≤ 1 ∧ m ≤ 1 ∧ lv X n < 2147483648 ∧ lv Y m < 2147483648)) : false = smallB X n Y m := by
  cases e : smallB X n Y m
  · rfl
  · exact absurd (smallB_iff.1 e) h

set_option maxHeartbeats 1600000 in
set_option maxRecDepth 100000 in
theorem l1IsSmall_any (neg : Bool) (a b : Option Addr) (ba oa n ca bb ob m cb : Nat) (X Y : Nat → Nat) (w : World) (hn : n ≤ 16777216) (hm : m ≤ 16777216)
    (hX : Limbs w a ba oa n X) (hY : Limbs w b bb ob m Y) (hXl : ∀ j, j < n → X j < 4294967296) (hYl : ∀ j, j < m → Y j < 4294967296) :
    Calls Tryz.prog 101 #[.agg #[.bool neg, .slice a n ca, .slice b m cb]] w fun e w' => e = .returned (.bool (smallB X n Y m)) ∧ w.Since w.heap.size w' := by
  have sA : w.Since w.heap.size (w.alloc (.cells #[.bool neg, .slice a n ca, .slice b m cb] 70)) := (World.Since.refl _ _).alloc (Nat.le_refl _) _
  by_cases h1 : 1 < n
  · have HR := hide (smallB_not (X := X) (Y := Y) (n := n) (m := m) (by omega))
    go_enter Tryz.func101, Tryz.ntmps101
    go_wp2
    go_ret
    exact ⟨ret_bool HR.out, sA⟩
  by_cases h2 : 1 < m
  · have HR := hide (smallB_not (X := X) (Y := Y) (n := n) (m := m) (by omega))
    go_enter Tryz.func101, Tryz.ntmps101
    go_wp2
    go_ret
    exact ⟨ret_bool HR.out, sA⟩
  have I1 := l1Small_any a ba oa n ca X _ (by omega) (hX.keep sA) hXl
  have I2 := l1Small_any b bb ob m cb Y _ (by omega) (hY.keep sA) hYl
  have h1 : n ≤ 1 := by omega
  have h2 : m ≤ 1 := by omega
  obtain ⟨x, hx⟩ : ∃ x : Int, x = ((lv X n : Nat) : Int) := ⟨_, rfl⟩
  obtain ⟨y, hy⟩ : ∃ y : Int, y = ((lv Y m : Nat) : Int) := ⟨_, rfl⟩
  rw [← hx] at I1
  rw [← hy] at I2
  have HR : Hid ((decide (x < 2147483648) && decide (y < 2147483648)) = smallB X n Y m) := by
    show _ = _
    rw [Bool.eq_iff_iff, Bool.and_eq_true, decide_eq_true_iff, decide_eq_true_iff, smallB_iff]
    omega
  clear hX hY hXl hYl hx hy
  by_cases h3 : x < 2147483648
  · have HR : Hid (decide (y < 2147483648) = smallB X n Y m) := by rw [← HR.out]; simp [Hid, h3]
    go_enter Tryz.func101, Tryz.ntmps101
    go_wp2_with fail
    refine I1.mono ?_
    rintro e w1 ⟨rfl, rfl⟩
    go_wp2_with fail
    refine I2.mono ?_
    rintro e w1 ⟨rfl, rfl⟩
    go_wp2
    go_ret
    exact ⟨ret_bool HR.out, sA⟩
  · have HR : Hid (false = smallB X n Y m) := by rw [← HR.out]; simp [Hid, h3]
    go_enter Tryz.func101, Tryz.ntmps101
    go_wp2_with fail
    refine I1.mono ?_
    rintro e w1 ⟨rfl, rfl⟩
    go_wp2
    go_ret
    exact ⟨ret_bool HR.out, sA⟩

end Go.Proofs.YthaomfabdghfjaaGreat

namespace Go.Proofs.YthaomfabdghfjaaGreat
open Go.RowKit

theorem box3 (w : World) (x y z : Value) (t : TypeId) : (w.alloc (.cells #[x, y, z] t)).cell? ⟨w.heap.size, 0, none⟩ = some x ∧ (w.alloc (.cells #[x, y, z] t)).cell? ⟨w.heap.size, 1, none⟩ = some y ∧ (w.alloc (.cells #[x, y, z] t)).cell? ⟨w.heap.size, 2, none⟩ = some z := by
  simp [go_sem]

theorem cmpN_one (x : Nat) : (cmpN x 1 == 0) = decide (x = 1) := by
  rw [Bool.eq_iff_iff]
  simp only [beq_iff_eq, decide_eq_true_eq]
  constructor
  · intro h
    rcases Nat.lt_trichotomy x 1 with h1 | h1 | h1
    · rw [cmpN_lt h1] at h; cases h
    · exact h1
    · rw [cmpN_gt h1] at h; cases h
  · intro h; exact cmpN_eq h

set_option maxHeartbeats 1600000 in
set_option maxRecDepth 100000 in
theorem specRatOk_small_z (neg : Bool) (a b : Option Addr) (ba oa n ca bb ob m cb : Nat) (X Y : Nat → Nat) (w : World) (hn : n ≤ 16777216) (hm : m ≤ 16777216)
    (hX : Limbs w a ba oa n X) (hY : Limbs w b bb ob m Y) (hXl : ∀ j, j < n → X j < 4294967296) (hYl : ∀ j, j < m → Y j < 4294967296) (h1 : plainB X n = true) (h2 : plainB Y m = true) (h3 : ¬ m = 0) (h4 : ¬ (n = 0 ∧ neg = true)) (hs : smallB X n Y m = true) (h5 : n = 0) :
    Calls Tryz.prog 65 #[.agg #[.bool neg, .slice a n ca, .slice b m cb]] w fun e w' => e = .returned (.bool (ratOkB neg X n Y m)) ∧ w.Since w.heap.size w' := by
  have sA : w.Since w.heap.size (w.alloc (.cells #[.bool neg, .slice a n ca, .slice b m cb] 70)) := (World.Since.refl _ _).alloc (Nat.le_refl _) _
  have I1 := l1Plain_any a ba oa n ca X _ hn (hX.keep sA)
  have I2 := l1Plain_any b bb ob m cb Y _ hm (hY.keep sA)
  rw [h1] at I1
  rw [h2] at I2
  have q3 : ((m : Int) == 0) = false := by simp; omega
  have HR := hide (show (decide (Nat.gcd (lv X n) (lv Y m) = 1)) = ratOkB neg X n Y m by
    have e3 : (m != 0) = true := by simp [h3]
    have e4 : (neg && n == 0) = false := by cases neg <;> simp at h4 ⊢; exact h4
    rw [Bool.eq_iff_iff]
    simp [ratOkB, h1, h2, e3, e4])
  obtain ⟨c0, c1, c2⟩ := box3 w (.bool neg) (.slice a n ca) (.slice b m cb) 70
  have I3 := l1IsSmall_any neg a b ba oa n ca bb ob m cb X Y _ hn hm (hX.keep sA) (hY.keep sA) hXl hYl
  have HN : Hid (n = 0 → neg = false) := fun h => by cases neg; rfl; exact absurd ⟨h, rfl⟩ h4
  clear h1 h2 h4
  have XA := hX.keep sA
  have YA := hY.keep sA
  obtain ⟨y1, y2, z3, z4⟩ := smallB_iff.1 hs
  have v1 : lv X n < 18446744073709551616 := by omega
  have v2 : lv Y m < 18446744073709551616 := by omega
  have V := hide (And.intro v1 v2)
  rw [hs] at I3
  clear hs z3 z4 v1 v2
  have h6 := HN.out h5
  subst h5 h6
  go_enter Tryz.func65, Tryz.ntmps65
  go_wp2_with fail
  refine I1.mono ?_
  rintro e w1 ⟨rfl, rfl⟩
  go_wp2_with fail
  refine I2.mono ?_
  rintro e w1 ⟨rfl, rfl⟩
  clear I1 I2
  generalize w.alloc (.cells #[.bool false, .slice a 0 ca, .slice b m cb] 70) = wA at *
  go_wp2_with fail
  refine I3.mono ?_
  rintro e w1 ⟨rfl, s1⟩
  clear I3
  have zA : w.heap.size < wA.heap.size := World.block_lt_of_cell? _ _ c0
  have d1 : w1.cell? ⟨w.heap.size, 1, none⟩ = some (.slice a 0 ca) := (s1.cell (a := ⟨w.heap.size, 1, none⟩) zA).trans c1
  have d2 : w1.cell? ⟨w.heap.size, 2, none⟩ = some (.slice b m cb) := (s1.cell (a := ⟨w.heap.size, 2, none⟩) zA).trans c2
  have S1 : w.Since w.heap.size w1.drew := by have h := sA.trans (sinceMono s1 sA.size); exact ⟨h.os, h.tape, h.output, h.size, h.block⟩
  have z1 : w.heap.size < w1.drew.heap.size := Nat.lt_of_lt_of_le zA s1.size
  have X0 := XA.keep s1
  have Y0 := YA.keep s1
  have X1 : Limbs w1.drew a ba oa 0 X := X0
  have Y1 : Limbs w1.drew b bb ob m Y := Y0
  have XL := hide hXl
  have YL := hide hYl
  clear hXl hYl XA YA s1 c0 c1 c2 X0 Y0
  go_wp2
  have J1 := l1Small_any a ba oa 0 ca X w1.drew y1 X1 XL.out
  have J2 := l1Small_any b bb ob m cb Y w1.drew y2 Y1 YL.out
  have J3 := l1GcdSmall_any (lv X 0) (lv Y m) w1.drew V.out.1 V.out.2
  clear V XL YL X1 Y1
  obtain ⟨gg, hgg⟩ : ∃ gg, gg = Nat.gcd (lv X 0) (lv Y m) := ⟨_, rfl⟩
  obtain ⟨xx, hxx⟩ : ∃ xx, xx = lv X 0 := ⟨_, rfl⟩
  obtain ⟨yy, hyy⟩ : ∃ yy, yy = lv Y m := ⟨_, rfl⟩
  have HR : Hid (decide (gg = 1) = ratOkB false X 0 Y m) := by rw [hgg]; exact HR.out
  rw [← hgg, ← hxx, ← hyy] at J3
  rw [← hxx] at J1
  rw [← hyy] at J2
  clear hgg hxx hyy
  go_region_held3 (fun w' => w'.cell? ⟨w.heap.size, 1, none⟩ = some (.slice a 0 ca) ∧ w'.cell? ⟨w.heap.size, 2, none⟩ = some (.slice b m cb)) (go_keep)
    (first | (go_at_call 102; with_reducible refine J3.mono ?_; rintro e w' ⟨rfl, rfl⟩) | (go_at_call 103; first | (with_reducible refine J1.mono ?_; rintro e w' ⟨rfl, rfl⟩) | (with_reducible refine J2.mono ?_; rintro e w' ⟨rfl, rfl⟩)))
  all_goals go_wp2
  all_goals go_ret
  all_goals exact ⟨ret_bool (by rw [← HR.out, Bool.eq_iff_iff]; simp only [beq_iff_eq, decide_eq_true_eq]; omega), S1⟩

set_option maxHeartbeats 1600000 in
set_option maxRecDepth 100000 in
theorem specRatOk_small_n (neg : Bool) (a b : Option Addr) (ba oa n ca bb ob m cb : Nat) (X Y : Nat → Nat) (w : World) (hn : n ≤ 16777216) (hm : m ≤ 16777216)
    (hX : Limbs w a ba oa n X) (hY : Limbs w b bb ob m Y) (hXl : ∀ j, j < n → X j < 4294967296) (hYl : ∀ j, j < m → Y j < 4294967296) (h1 : plainB X n = true) (h2 : plainB Y m = true) (h3 : ¬ m = 0) (h4 : ¬ (n = 0 ∧ neg = true)) (hs : smallB X n Y m = true) (h5 : ¬ n = 0) :
    Calls Tryz.prog 65 #[.agg #[.bool neg, .slice a n ca, .slice b m cb]] w fun e w' => e = .returned (.bool (ratOkB neg X n Y m)) ∧ w.Since w.heap.size w' := by
  have sA : w.Since w.heap.size (w.alloc (.cells #[.bool neg, .slice a n ca, .slice b m cb] 70)) := (World.Since.refl _ _).alloc (Nat.le_refl _) _
  have I1 := l1Plain_any a ba oa n ca X _ hn (hX.keep sA)
  have I2 := l1Plain_any b bb ob m cb Y _ hm (hY.keep sA)
  rw [h1] at I1
  rw [h2] at I2
  have q3 : ((m : Int) == 0) = false := by simp; omega
  have HR := hide (show (decide (Nat.gcd (lv X n) (lv Y m) = 1)) = ratOkB neg X n Y m by
    have e3 : (m != 0) = true := by simp [h3]
    have e4 : (neg && n == 0) = false := by cases neg <;> simp at h4 ⊢; exact h4
    rw [Bool.eq_iff_iff]
    simp [ratOkB, h1, h2, e3, e4])
  obtain ⟨c0, c1, c2⟩ := box3 w (.bool neg) (.slice a n ca) (.slice b m cb) 70
  have I3 := l1IsSmall_any neg a b ba oa n ca bb ob m cb X Y _ hn hm (hX.keep sA) (hY.keep sA) hXl hYl
  have HN : Hid (n = 0 → neg = false) := fun h => by cases neg; rfl; exact absurd ⟨h, rfl⟩ h4
  clear h1 h2 h4
  have XA := hX.keep sA
  have YA := hY.keep sA
  obtain ⟨y1, y2, z3, z4⟩ := smallB_iff.1 hs
  have v1 : lv X n < 18446744073709551616 := by omega
  have v2 : lv Y m < 18446744073709551616 := by omega
  have V := hide (And.intro v1 v2)
  rw [hs] at I3
  clear hs z3 z4 v1 v2
  go_enter Tryz.func65, Tryz.ntmps65
  go_wp2_with fail
  refine I1.mono ?_
  rintro e w1 ⟨rfl, rfl⟩
  go_wp2_with fail
  refine I2.mono ?_
  rintro e w1 ⟨rfl, rfl⟩
  clear I1 I2
  generalize w.alloc (.cells #[.bool neg, .slice a n ca, .slice b m cb] 70) = wA at *
  have h6 : ((n : Int) == 0) = false := by simp; omega
  go_wp2_with fail
  refine I3.mono ?_
  rintro e w1 ⟨rfl, s1⟩
  clear I3
  have zA : w.heap.size < wA.heap.size := World.block_lt_of_cell? _ _ c0
  have d1 : w1.cell? ⟨w.heap.size, 1, none⟩ = some (.slice a n ca) := (s1.cell (a := ⟨w.heap.size, 1, none⟩) zA).trans c1
  have d2 : w1.cell? ⟨w.heap.size, 2, none⟩ = some (.slice b m cb) := (s1.cell (a := ⟨w.heap.size, 2, none⟩) zA).trans c2
  have S1 : w.Since w.heap.size w1.drew := by have h := sA.trans (sinceMono s1 sA.size); exact ⟨h.os, h.tape, h.output, h.size, h.block⟩
  have z1 : w.heap.size < w1.drew.heap.size := Nat.lt_of_lt_of_le zA s1.size
  have X0 := XA.keep s1
  have Y0 := YA.keep s1
  have X1 : Limbs w1.drew a ba oa n X := X0
  have Y1 : Limbs w1.drew b bb ob m Y := Y0
  have XL := hide hXl
  have YL := hide hYl
  clear hXl hYl XA YA s1 c0 c1 c2 X0 Y0
  go_wp2
  have J1 := l1Small_any a ba oa n ca X w1.drew y1 X1 XL.out
  have J2 := l1Small_any b bb ob m cb Y w1.drew y2 Y1 YL.out
  have J3 := l1GcdSmall_any (lv X n) (lv Y m) w1.drew V.out.1 V.out.2
  clear V XL YL X1 Y1
  obtain ⟨gg, hgg⟩ : ∃ gg, gg = Nat.gcd (lv X n) (lv Y m) := ⟨_, rfl⟩
  obtain ⟨xx, hxx⟩ : ∃ xx, xx = lv X n := ⟨_, rfl⟩
  obtain ⟨yy, hyy⟩ : ∃ yy, yy = lv Y m := ⟨_, rfl⟩
  have HR : Hid (decide (gg = 1) = ratOkB neg X n Y m) := by rw [hgg]; exact HR.out
  rw [← hgg, ← hxx, ← hyy] at J3
  rw [← hxx] at J1
  rw [← hyy] at J2
  clear hgg hxx hyy
  go_region_held3 (fun w' => w'.cell? ⟨w.heap.size, 1, none⟩ = some (.slice a n ca) ∧ w'.cell? ⟨w.heap.size, 2, none⟩ = some (.slice b m cb)) (go_keep)
    (first | (go_at_call 102; with_reducible refine J3.mono ?_; rintro e w' ⟨rfl, rfl⟩) | (go_at_call 103; first | (with_reducible refine J1.mono ?_; rintro e w' ⟨rfl, rfl⟩) | (with_reducible refine J2.mono ?_; rintro e w' ⟨rfl, rfl⟩)))
  all_goals go_wp2
  all_goals go_ret
  all_goals exact ⟨ret_bool (by rw [← HR.out, Bool.eq_iff_iff]; simp only [beq_iff_eq, decide_eq_true_eq]; omega), S1⟩

set_option maxHeartbeats 1600000 in
set_option maxRecDepth 100000 in
theorem specRatOk_big_z (neg : Bool) (a b : Option Addr) (ba oa n ca bb ob m cb : Nat) (X Y : Nat → Nat) (w : World) (hn : n ≤ 16777216) (hm : m ≤ 16777216)
    (hX : Limbs w a ba oa n X) (hY : Limbs w b bb ob m Y) (hXl : ∀ j, j < n → X j < 4294967296) (hYl : ∀ j, j < m → Y j < 4294967296) (h1 : plainB X n = true) (h2 : plainB Y m = true) (h3 : ¬ m = 0) (h4 : ¬ (n = 0 ∧ neg = true)) (hs : ¬ smallB X n Y m = true) (h5 : n = 0) :
    Calls Tryz.prog 65 #[.agg #[.bool neg, .slice a n ca, .slice b m cb]] w fun e w' => e = .returned (.bool (ratOkB neg X n Y m)) ∧ w.Since w.heap.size w' := by
  have sA : w.Since w.heap.size (w.alloc (.cells #[.bool neg, .slice a n ca, .slice b m cb] 70)) := (World.Since.refl _ _).alloc (Nat.le_refl _) _
  have I1 := l1Plain_any a ba oa n ca X _ hn (hX.keep sA)
  have I2 := l1Plain_any b bb ob m cb Y _ hm (hY.keep sA)
  rw [h1] at I1
  rw [h2] at I2
  have q3 : ((m : Int) == 0) = false := by simp; omega
  have HR := hide (show (decide (Nat.gcd (lv X n) (lv Y m) = 1)) = ratOkB neg X n Y m by
    have e3 : (m != 0) = true := by simp [h3]
    have e4 : (neg && n == 0) = false := by cases neg <;> simp at h4 ⊢; exact h4
    rw [Bool.eq_iff_iff]
    simp [ratOkB, h1, h2, e3, e4])
  obtain ⟨c0, c1, c2⟩ := box3 w (.bool neg) (.slice a n ca) (.slice b m cb) 70
  have I3 := l1IsSmall_any neg a b ba oa n ca bb ob m cb X Y _ hn hm (hX.keep sA) (hY.keep sA) hXl hYl
  have HN : Hid (n = 0 → neg = false) := fun h => by cases neg; rfl; exact absurd ⟨h, rfl⟩ h4
  clear h1 h2 h4
  have XA := hX.keep sA
  have YA := hY.keep sA
  rw [show smallB X n Y m = false by simpa using hs] at I3
  clear hs
  have h6 := HN.out h5
  subst h5 h6
  go_enter Tryz.func65, Tryz.ntmps65
  go_wp2_with fail
  refine I1.mono ?_
  rintro e w1 ⟨rfl, rfl⟩
  go_wp2_with fail
  refine I2.mono ?_
  rintro e w1 ⟨rfl, rfl⟩
  clear I1 I2
  generalize w.alloc (.cells #[.bool false, .slice a 0 ca, .slice b m cb] 70) = wA at *
  go_wp2_with fail
  refine I3.mono ?_
  rintro e w1 ⟨rfl, s1⟩
  clear I3
  have zA : w.heap.size < wA.heap.size := World.block_lt_of_cell? _ _ c0
  have d1 : w1.cell? ⟨w.heap.size, 1, none⟩ = some (.slice a 0 ca) := (s1.cell (a := ⟨w.heap.size, 1, none⟩) zA).trans c1
  have d2 : w1.cell? ⟨w.heap.size, 2, none⟩ = some (.slice b m cb) := (s1.cell (a := ⟨w.heap.size, 2, none⟩) zA).trans c2
  have S1 : w.Since w.heap.size w1.drew := by have h := sA.trans (sinceMono s1 sA.size); exact ⟨h.os, h.tape, h.output, h.size, h.block⟩
  have z1 : w.heap.size < w1.drew.heap.size := Nat.lt_of_lt_of_le zA s1.size
  have X0 := XA.keep s1
  have Y0 := YA.keep s1
  have X1 : Limbs w1.drew a ba oa 0 X := X0
  have Y1 : Limbs w1.drew b bb ob m Y := Y0
  have XL := hide hXl
  have YL := hide hYl
  clear hXl hYl XA YA s1 c0 c1 c2 X0 Y0
  go_wp2
  have J1 := l1Bits_any a ba oa 0 ca X w1.drew (by omega) X1 XL.out
  go_region_held3 (fun w' => w'.cell? ⟨w.heap.size, 1, none⟩ = some (.slice a 0 ca) ∧ w'.cell? ⟨w.heap.size, 2, none⟩ = some (.slice b m cb)) (go_keep)
    (first
      | (go_at_call 106
         first
          | (with_reducible refine J1.mono ?_
             rintro e w2 ⟨a1, g1, m1, t1, B1, rfl, k1, k2, L1, -, p1, e1, s2⟩
             have T1 : Tr w2 (.slice a1 m1 t1) m1 B1 := ⟨a1, g1, 0, t1, rfl, k1, L1, p1⟩
             have E1 := hide e1
             clear L1 p1 e1
             have z2 := s2.size
             have J2 := l1Bits_any b bb ob m cb Y w2 (by omega) (Y1.keep s2) YL.out
             have f1 : w2.cell? ⟨w.heap.size, 1, none⟩ = some (.slice a 0 ca) := (s2.cell (a := ⟨w.heap.size, 1, none⟩) z1).trans d1
             have f2 : w2.cell? ⟨w.heap.size, 2, none⟩ = some (.slice b m cb) := (s2.cell (a := ⟨w.heap.size, 2, none⟩) z1).trans d2)
          | (with_reducible refine J2.mono ?_
             rintro e w3 ⟨a2, g2, m2, t2, B2, rfl, q1, q2, L2, -, p2, e2, s3⟩
             have T2 : Tr w3 (.slice a2 m2 t2) m2 B2 := ⟨a2, g2, 0, t2, rfl, q1, L2, p2⟩
             have E2 := hide e2
             clear L2 p2 e2
             have T1' := T1.keep s3
             have J3 := l1GcdBits_any _ _ m1 m2 B1 B2 w3 (by omega) (by omega) T1' T2
             have S3 : w.Since w.heap.size w3 := (S1.trans (sinceMono s2 S1.size)).trans (sinceMono s3 (Nat.le_trans S1.size s2.size))
             have f3 : w3.cell? ⟨w.heap.size, 1, none⟩ = some (.slice a 0 ca) := (s3.cell (a := ⟨w.heap.size, 1, none⟩) (Nat.lt_of_lt_of_le z1 z2)).trans f1
             have f4 : w3.cell? ⟨w.heap.size, 2, none⟩ = some (.slice b m cb) := (s3.cell (a := ⟨w.heap.size, 2, none⟩) (Nat.lt_of_lt_of_le z1 z2)).trans f2
             have z3 := s3.size))
      | (go_at_call 105
         with_reducible refine J3.mono ?_
         rintro e w4 ⟨v, t, O, rfl, ht, T3, e3, s4⟩
         have E3 := hide e3
         have J4 : Calls Tryz.prog 107 #[.int .u64 1] w4 _ := l1BitsOf_any 1 w4 (by omega)
         clear e3
         have f5 : w4.cell? ⟨w.heap.size, 1, none⟩ = some (.slice a 0 ca) := (s4.cell (a := ⟨w.heap.size, 1, none⟩) (Nat.lt_of_lt_of_le z1 (Nat.le_trans z2 z3))).trans f3
         have f6 : w4.cell? ⟨w.heap.size, 2, none⟩ = some (.slice b m cb) := (s4.cell (a := ⟨w.heap.size, 2, none⟩) (Nat.lt_of_lt_of_le z1 (Nat.le_trans z2 z3))).trans f4
         have z4 := s4.size)
      | (go_at_call 107
         with_reducible refine J4.mono ?_
         rintro e w5 ⟨x, t5, B5, rfl, ht5, T5, e5, s5⟩
         have E5 := hide e5
         clear e5
         obtain ⟨a3, b3, o3, c3, rfl, -, L3, p3⟩ := T3.keep s5
         obtain ⟨a5, b5, o5, c5, rfl, -, L5, p5⟩ := T5
         have S5 : w.Since w.heap.size w5 := (S3.trans (sinceMono s4 S3.size)).trans (sinceMono s5 (Nat.le_trans S3.size s4.size))
         have f7 : w5.cell? ⟨w.heap.size, 1, none⟩ = some (.slice a 0 ca) := (s5.cell (a := ⟨w.heap.size, 1, none⟩) (Nat.lt_of_lt_of_le z1 (Nat.le_trans (Nat.le_trans z2 z3) z4))).trans f5
         have f8 : w5.cell? ⟨w.heap.size, 2, none⟩ = some (.slice b m cb) := (s5.cell (a := ⟨w.heap.size, 2, none⟩) (Nat.lt_of_lt_of_le z1 (Nat.le_trans (Nat.le_trans z2 z3) z4))).trans f6
         have J := l1CmpBits_any a3 a5 b3 o3 t c3 b5 o5 t5 c5 O B5 w5 (by omega) (by omega) L3 L5 p3 p5
         rw [E5.out, E3.out, E1.out, E2.out] at J
         clear T3 L3 L5 p3 p5)
      | (go_at_call 104
         with_reducible refine J.mono ?_
         rintro e w6 ⟨rfl, s6⟩
         have f9 : w6.cell? ⟨w.heap.size, 1, none⟩ = some (.slice a 0 ca) := by rw [s6.cell]; exact f7
         have f10 : w6.cell? ⟨w.heap.size, 2, none⟩ = some (.slice b m cb) := by rw [s6.cell]; exact f8))
  all_goals go_wp2
  all_goals go_ret
  all_goals exact ⟨ret_bool ((cmpN_one (Nat.gcd (lv X 0) (lv Y m))).trans HR.out), S5.trans (s6.since _)⟩

set_option maxHeartbeats 1600000 in
set_option maxRecDepth 100000 in
theorem specRatOk_big_n (neg : Bool) (a b : Option Addr) (ba oa n ca bb ob m cb : Nat) (X Y : Nat → Nat) (w : World) (hn : n ≤ 16777216) (hm : m ≤ 16777216)
    (hX : Limbs w a ba oa n X) (hY : Limbs w b bb ob m Y) (hXl : ∀ j, j < n → X j < 4294967296) (hYl : ∀ j, j < m → Y j < 4294967296) (h1 : plainB X n = true) (h2 : plainB Y m = true) (h3 : ¬ m = 0) (h4 : ¬ (n = 0 ∧ neg = true)) (hs : ¬ smallB X n Y m = true) (h5 : ¬ n = 0) :
    Calls Tryz.prog 65 #[.agg #[.bool neg, .slice a n ca, .slice b m cb]] w fun e w' => e = .returned (.bool (ratOkB neg X n Y m)) ∧ w.Since w.heap.size w' := by
  have sA : w.Since w.heap.size (w.alloc (.cells #[.bool neg, .slice a n ca, .slice b m cb] 70)) := (World.Since.refl _ _).alloc (Nat.le_refl _) _
  have I1 := l1Plain_any a ba oa n ca X _ hn (hX.keep sA)
  have I2 := l1Plain_any b bb ob m cb Y _ hm (hY.keep sA)
  rw [h1] at I1
  rw [h2] at I2
  have q3 : ((m : Int) == 0) = false := by simp; omega
  have HR := hide (show (decide (Nat.gcd (lv X n) (lv Y m) = 1)) = ratOkB neg X n Y m by
    have e3 : (m != 0) = true := by simp [h3]
    have e4 : (neg && n == 0) = false := by cases neg <;> simp at h4 ⊢; exact h4
    rw [Bool.eq_iff_iff]
    simp [ratOkB, h1, h2, e3, e4])
  obtain ⟨c0, c1, c2⟩ := box3 w (.bool neg) (.slice a n ca) (.slice b m cb) 70
  have I3 := l1IsSmall_any neg a b ba oa n ca bb ob m cb X Y _ hn hm (hX.keep sA) (hY.keep sA) hXl hYl
  have HN : Hid (n = 0 → neg = false) := fun h => by cases neg; rfl; exact absurd ⟨h, rfl⟩ h4
  clear h1 h2 h4
  have XA := hX.keep sA
  have YA := hY.keep sA
  rw [show smallB X n Y m = false by simpa using hs] at I3
  clear hs
  go_enter Tryz.func65, Tryz.ntmps65
  go_wp2_with fail
  refine I1.mono ?_
  rintro e w1 ⟨rfl, rfl⟩
  go_wp2_with fail
  refine I2.mono ?_
  rintro e w1 ⟨rfl, rfl⟩
  clear I1 I2
  generalize w.alloc (.cells #[.bool neg, .slice a n ca, .slice b m cb] 70) = wA at *
  have h6 : ((n : Int) == 0) = false := by simp; omega
  go_wp2_with fail
  refine I3.mono ?_
  rintro e w1 ⟨rfl, s1⟩
  clear I3
  have zA : w.heap.size < wA.heap.size := World.block_lt_of_cell? _ _ c0
  have d1 : w1.cell? ⟨w.heap.size, 1, none⟩ = some (.slice a n ca) := (s1.cell (a := ⟨w.heap.size, 1, none⟩) zA).trans c1
  have d2 : w1.cell? ⟨w.heap.size, 2, none⟩ = some (.slice b m cb) := (s1.cell (a := ⟨w.heap.size, 2, none⟩) zA).trans c2
  have S1 : w.Since w.heap.size w1.drew := by have h := sA.trans (sinceMono s1 sA.size); exact ⟨h.os, h.tape, h.output, h.size, h.block⟩
  have z1 : w.heap.size < w1.drew.heap.size := Nat.lt_of_lt_of_le zA s1.size
  have X0 := XA.keep s1
  have Y0 := YA.keep s1
  have X1 : Limbs w1.drew a ba oa n X := X0
  have Y1 : Limbs w1.drew b bb ob m Y := Y0
  have XL := hide hXl
  have YL := hide hYl
  clear hXl hYl XA YA s1 c0 c1 c2 X0 Y0
  go_wp2
  have J1 := l1Bits_any a ba oa n ca X w1.drew (by omega) X1 XL.out
  go_region_held3 (fun w' => w'.cell? ⟨w.heap.size, 1, none⟩ = some (.slice a n ca) ∧ w'.cell? ⟨w.heap.size, 2, none⟩ = some (.slice b m cb)) (go_keep)
    (first
      | (go_at_call 106
         first
          | (with_reducible refine J1.mono ?_
             rintro e w2 ⟨a1, g1, m1, t1, B1, rfl, k1, k2, L1, -, p1, e1, s2⟩
             have T1 : Tr w2 (.slice a1 m1 t1) m1 B1 := ⟨a1, g1, 0, t1, rfl, k1, L1, p1⟩
             have E1 := hide e1
             clear L1 p1 e1
             have z2 := s2.size
             have J2 := l1Bits_any b bb ob m cb Y w2 (by omega) (Y1.keep s2) YL.out
             have f1 : w2.cell? ⟨w.heap.size, 1, none⟩ = some (.slice a n ca) := (s2.cell (a := ⟨w.heap.size, 1, none⟩) z1).trans d1
             have f2 : w2.cell? ⟨w.heap.size, 2, none⟩ = some (.slice b m cb) := (s2.cell (a := ⟨w.heap.size, 2, none⟩) z1).trans d2)
          | (with_reducible refine J2.mono ?_
             rintro e w3 ⟨a2, g2, m2, t2, B2, rfl, q1, q2, L2, -, p2, e2, s3⟩
             have T2 : Tr w3 (.slice a2 m2 t2) m2 B2 := ⟨a2, g2, 0, t2, rfl, q1, L2, p2⟩
             have E2 := hide e2
             clear L2 p2 e2
             have T1' := T1.keep s3
             have J3 := l1GcdBits_any _ _ m1 m2 B1 B2 w3 (by omega) (by omega) T1' T2
             have S3 : w.Since w.heap.size w3 := (S1.trans (sinceMono s2 S1.size)).trans (sinceMono s3 (Nat.le_trans S1.size s2.size))
             have f3 : w3.cell? ⟨w.heap.size, 1, none⟩ = some (.slice a n ca) := (s3.cell (a := ⟨w.heap.size, 1, none⟩) (Nat.lt_of_lt_of_le z1 z2)).trans f1
             have f4 : w3.cell? ⟨w.heap.size, 2, none⟩ = some (.slice b m cb) := (s3.cell (a := ⟨w.heap.size, 2, none⟩) (Nat.lt_of_lt_of_le z1 z2)).trans f2
             have z3 := s3.size))
      | (go_at_call 105
         with_reducible refine J3.mono ?_
         rintro e w4 ⟨v, t, O, rfl, ht, T3, e3, s4⟩
         have E3 := hide e3
         have J4 : Calls Tryz.prog 107 #[.int .u64 1] w4 _ := l1BitsOf_any 1 w4 (by omega)
         clear e3
         have f5 : w4.cell? ⟨w.heap.size, 1, none⟩ = some (.slice a n ca) := (s4.cell (a := ⟨w.heap.size, 1, none⟩) (Nat.lt_of_lt_of_le z1 (Nat.le_trans z2 z3))).trans f3
         have f6 : w4.cell? ⟨w.heap.size, 2, none⟩ = some (.slice b m cb) := (s4.cell (a := ⟨w.heap.size, 2, none⟩) (Nat.lt_of_lt_of_le z1 (Nat.le_trans z2 z3))).trans f4
         have z4 := s4.size)
      | (go_at_call 107
         with_reducible refine J4.mono ?_
         rintro e w5 ⟨x, t5, B5, rfl, ht5, T5, e5, s5⟩
         have E5 := hide e5
         clear e5
         obtain ⟨a3, b3, o3, c3, rfl, -, L3, p3⟩ := T3.keep s5
         obtain ⟨a5, b5, o5, c5, rfl, -, L5, p5⟩ := T5
         have S5 : w.Since w.heap.size w5 := (S3.trans (sinceMono s4 S3.size)).trans (sinceMono s5 (Nat.le_trans S3.size s4.size))
         have f7 : w5.cell? ⟨w.heap.size, 1, none⟩ = some (.slice a n ca) := (s5.cell (a := ⟨w.heap.size, 1, none⟩) (Nat.lt_of_lt_of_le z1 (Nat.le_trans (Nat.le_trans z2 z3) z4))).trans f5
         have f8 : w5.cell? ⟨w.heap.size, 2, none⟩ = some (.slice b m cb) := (s5.cell (a := ⟨w.heap.size, 2, none⟩) (Nat.lt_of_lt_of_le z1 (Nat.le_trans (Nat.le_trans z2 z3) z4))).trans f6
         have J := l1CmpBits_any a3 a5 b3 o3 t c3 b5 o5 t5 c5 O B5 w5 (by omega) (by omega) L3 L5 p3 p5
         rw [E5.out, E3.out, E1.out, E2.out] at J
         clear T3 L3 L5 p3 p5)
      | (go_at_call 104
         with_reducible refine J.mono ?_
         rintro e w6 ⟨rfl, s6⟩
         have f9 : w6.cell? ⟨w.heap.size, 1, none⟩ = some (.slice a n ca) := by rw [s6.cell]; exact f7
         have f10 : w6.cell? ⟨w.heap.size, 2, none⟩ = some (.slice b m cb) := by rw [s6.cell]; exact f8))
  all_goals go_wp2
  all_goals go_ret
  all_goals exact ⟨ret_bool ((cmpN_one (Nat.gcd (lv X n) (lv Y m))).trans HR.out), S5.trans (s6.since _)⟩

set_option maxHeartbeats 3200000 in
set_option maxRecDepth 100000 in
theorem specRatOk_any (neg : Bool) (a b : Option Addr) (ba oa n ca bb ob m cb : Nat) (X Y : Nat → Nat) (w : World) (hn : n ≤ 16777216) (hm : m ≤ 16777216)
    (hX : Limbs w a ba oa n X) (hY : Limbs w b bb ob m Y) (hXl : ∀ j, j < n → X j < 4294967296) (hYl : ∀ j, j < m → Y j < 4294967296) :
    Calls Tryz.prog 65 #[.agg #[.bool neg, .slice a n ca, .slice b m cb]] w fun e w' => e = .returned (.bool (ratOkB neg X n Y m)) ∧ w.Since w.heap.size w' := by
  have sA : w.Since w.heap.size (w.alloc (.cells #[.bool neg, .slice a n ca, .slice b m cb] 70)) := (World.Since.refl _ _).alloc (Nat.le_refl _) _
  have I1 := l1Plain_any a ba oa n ca X _ hn (hX.keep sA)
  have I2 := l1Plain_any b bb ob m cb Y _ hm (hY.keep sA)
  by_cases h1 : plainB X n = false
  · have HR := hide (show false = ratOkB neg X n Y m by simp [ratOkB, h1])
    rw [h1] at I1
    clear h1
    go_enter Tryz.func65, Tryz.ntmps65
    go_wp2_with fail
    refine I1.mono ?_
    rintro e w1 ⟨rfl, rfl⟩
    go_wp2
    go_ret
    exact ⟨ret_bool HR.out, sA⟩
  have h1 : plainB X n = true := by simpa using h1
  rw [h1] at I1
  by_cases h2 : plainB Y m = false
  · have HR := hide (show false = ratOkB neg X n Y m by simp [ratOkB, h2])
    rw [h2] at I2
    clear h1 h2
    go_enter Tryz.func65, Tryz.ntmps65
    go_wp2_with fail
    refine I1.mono ?_
    rintro e w1 ⟨rfl, rfl⟩
    go_wp2_with fail
    refine I2.mono ?_
    rintro e w1 ⟨rfl, rfl⟩
    go_wp2
    go_ret
    exact ⟨ret_bool HR.out, sA⟩
  have h2 : plainB Y m = true := by simpa using h2
  rw [h2] at I2
  by_cases h3 : m = 0
  · have HR := hide (show false = ratOkB neg X n Y m by simp [ratOkB, h3])
    clear h1 h2
    subst h3
    go_enter Tryz.func65, Tryz.ntmps65
    go_wp2_with fail
    refine I1.mono ?_
    rintro e w1 ⟨rfl, rfl⟩
    go_wp2_with fail
    refine I2.mono ?_
    rintro e w1 ⟨rfl, rfl⟩
    go_wp2
    go_ret
    exact ⟨ret_bool HR.out, sA⟩
  have q3 : ((m : Int) == 0) = false := by simp; omega
  by_cases h4 : n = 0 ∧ neg = true
  · obtain ⟨rfl, rfl⟩ := h4
    have HR := hide (show false = ratOkB true X 0 Y m by simp [ratOkB])
    clear h1 h2
    go_enter Tryz.func65, Tryz.ntmps65
    go_wp2_with fail
    refine I1.mono ?_
    rintro e w1 ⟨rfl, rfl⟩
    go_wp2_with fail
    refine I2.mono ?_
    rintro e w1 ⟨rfl, rfl⟩
    go_wp2
    go_ret
    exact ⟨ret_bool HR.out, sA⟩
  by_cases hs : smallB X n Y m = true
  · by_cases h5 : n = 0
    · exact specRatOk_small_z neg a b ba oa n ca bb ob m cb X Y w hn hm hX hY hXl hYl h1 h2 h3 h4 hs h5
    · exact specRatOk_small_n neg a b ba oa n ca bb ob m cb X Y w hn hm hX hY hXl hYl h1 h2 h3 h4 hs h5
  · by_cases h5 : n = 0
    · exact specRatOk_big_z neg a b ba oa n ca bb ob m cb X Y w hn hm hX hY hXl hYl h1 h2 h3 h4 hs h5
    · exact specRatOk_big_n neg a b ba oa n ca bb ob m cb X Y w hn hm hX hY hXl hYl h1 h2 h3 h4 hs h5

end Go.Proofs.YthaomfabdghfjaaGreat

namespace Go.Proofs.YthaomfabdghfjaaGreat
open Go.RowKit

/-- A natural in an answer: a slice in a block of its own, plain. -/
def NatV (w : World) (v : Value) (g N M : Nat) : Prop :=
  ∃ a m cap Y, v = .slice a m cap ∧ m ≤ cap ∧ m ≤ M ∧ (a = none → cap = 0) ∧ Limbs w a g 0 m Y ∧ (0 < m → ∀ o, w.frozen? ⟨g, o, none⟩ = false) ∧ (∀ j, j < m → Y j < 4294967296) ∧ (0 < m → Y (m - 1) ≠ 0) ∧ lv Y m = N

theorem natV_natAt {w : World} {v : Value} {g N M : Nat} : NatV w v g N M = NatAt w v g N M := rfl

/-- A Rat in an answer: its two lists lie in blocks of their own. -/
def RatV (w : World) (v : Value) (neg : Bool) (N D B M : Nat) : Prop :=
  ∃ v1 v2 g h, v = .agg #[.bool neg, v1, v2] ∧ NatAt w v1 g N M ∧ NatAt w v2 h D M ∧ B ≤ g ∧ B ≤ h ∧ g ≠ h

theorem natAt_nil (w : World) (g M : Nat) : NatAt w (.slice none 0 0) g 0 M :=
  ⟨none, 0, 0, fun _ => 0, rfl, Nat.le_refl _, Nat.zero_le _, fun _ => rfl, fun j hj => absurd hj (by omega), fun h => absurd h (by omega), fun j hj => absurd hj (by omega), fun h => absurd h (by omega), rfl⟩

theorem natAt_empty (w : World) (a : Addr) (cap g M : Nat) : NatAt w (.slice (some a) 0 cap) g 0 M :=
  ⟨some a, 0, cap, fun _ => 0, rfl, Nat.zero_le _, Nat.zero_le _, fun h => (by cases h), fun j hj => absurd hj (by omega), fun h => absurd h (by omega), fun j hj => absurd hj (by omega), fun h => absurd h (by omega), rfl⟩

theorem NatAt.keep {w w' : World} {v : Value} {g N M : Nat} (h : NatAt w v g N M) (s : w.Since w.heap.size w') : NatAt w' v g N M := by
  obtain ⟨a, m, cap, Y, h1, h2, h3, h4, h5, h6, h7, h8, h9⟩ := h
  exact ⟨a, m, cap, Y, h1, h2, h3, h4, h5.keep s, fun h0 o => by rw [s.frozen (a := ⟨g, o, none⟩) (h5.lt h0)]; exact h6 h0 o, h7, h8, h9⟩

theorem NatAt.marked {w w' : World} {v : Value} {g N M c : Nat} (h : NatAt w v g N M) (s : Marked w w' c) (hne : g ≠ c) : NatAt w' v g N M := by
  obtain ⟨a, m, cap, Y, h1, h2, h3, h4, h5, h6, h7, h8, h9⟩ := h
  exact ⟨a, m, cap, Y, h1, h2, h3, h4, h5.marked s (fun _ => hne), fun h0 o => by rw [s.frozenO (a := ⟨g, o, none⟩) hne]; exact h6 h0 o, h7, h8, h9⟩

theorem NatAt.more {w : World} {v : Value} {g N M M' : Nat} (h : NatAt w v g N M) (hM : M ≤ M') : NatAt w v g N M' := by
  obtain ⟨a, m, cap, Y, h1, h2, h3, h4⟩ := h
  exact ⟨a, m, cap, Y, h1, h2, Nat.le_trans h3 hM, h4⟩

theorem RatV.keep {w w' : World} {v : Value} {neg : Bool} {N D B M : Nat} (h : RatV w v neg N D B M) (s : w.Since w.heap.size w') : RatV w' v neg N D B M := by
  obtain ⟨v1, v2, g, k, h1, h2, h3, h4⟩ := h
  exact ⟨v1, v2, g, k, h1, h2.keep s, h3.keep s, h4⟩

theorem RatV.down {w : World} {v : Value} {neg : Bool} {N D B B' M : Nat} (h : RatV w v neg N D B M) (hB : B' ≤ B) : RatV w v neg N D B' M := by
  obtain ⟨v1, v2, g, k, h1, h2, h3, h4, h5, h6⟩ := h
  exact ⟨v1, v2, g, k, h1, h2, h3, by omega, by omega, h6⟩

theorem RatV.more {w : World} {v : Value} {neg : Bool} {N D B M M' : Nat} (h : RatV w v neg N D B M) (hM : M ≤ M') : RatV w v neg N D B M' := by
  obtain ⟨v1, v2, g, k, h1, h2, h3, h4⟩ := h
  exact ⟨v1, v2, g, k, h1, h2.more hM, h3.more hM, h4⟩

set_option maxHeartbeats 800000 in
set_option maxRecDepth 100000 in
theorem zeroRat_any (w : World) : Calls Tryz.prog 75 #[] w fun e w' => ∃ v, e = .returned v ∧ RatV w' v false 0 1 w.heap.size 67108864 ∧ w.Since w.heap.size w' := by
  have sA : w.Since w.heap.size ((w.alloc (.cells #[.bool false, .slice none 0 0, .slice (some ⟨w.heap.size + 1, 0, none⟩) 1 1] 70)).alloc (.cells #[.int .u32 1] 119)) := ((World.Since.refl _ _).alloc (Nat.le_refl _) _).alloc (by simp) _
  have bA : Box3 ((w.alloc (.cells #[.bool false, .slice none 0 0, .slice (some ⟨w.heap.size + 1, 0, none⟩) 1 1] 70)).alloc (.cells #[.int .u32 1] 119)) w.heap.size (.bool false) (.slice none 0 0) (.slice (some ⟨w.heap.size + 1, 0, none⟩) 1 1) :=
    (Box3.new w _ _ _ _).keep ((World.Since.refl _ _).alloc (Nat.le_refl _) _)
  have n1 := natAt_one (w.alloc (.cells #[.bool false, .slice none 0 0, .slice (some ⟨w.heap.size + 1, 0, none⟩) 1 1] 70))
  rw [show (w.alloc (.cells #[.bool false, .slice none 0 0, .slice (some ⟨w.heap.size + 1, 0, none⟩) 1 1] 70)).heap.size = w.heap.size + 1 by simp] at n1
  go_enter Tryz.func75, Tryz.ntmps75
  go_wp2
  refine bodyPost_ret (results_box3 rfl _ _ _ _ _ _ rfl bA) rfl ?_
  exact ⟨_, rfl, ⟨_, _, w.heap.size + 2, w.heap.size + 1, rfl, natAt_nil _ _ _, n1, by omega, by omega, by omega⟩, sA⟩

set_option maxHeartbeats 800000 in
set_option maxRecDepth 100000 in
theorem l1Zero_any (w : World) : Calls Tryz.prog 109 #[] w fun e w' => ∃ v, e = .returned v ∧ RatV w' v false 0 1 w.heap.size 67108864 ∧ w.Since w.heap.size w' := by
  have sA : w.Since w.heap.size (((w.alloc (.cells #[.bool false, .slice (some ⟨w.heap.size + 1, 0, none⟩) 0 0, .slice (some ⟨w.heap.size + 1 + 1, 0, none⟩) 1 1] 70)).alloc (.cells #[] 119)).alloc (.cells #[.int .u32 1] 119)) :=
    (((World.Since.refl _ _).alloc (Nat.le_refl _) _).alloc (by simp) _).alloc (by simp; omega) _
  have bA : Box3 (((w.alloc (.cells #[.bool false, .slice (some ⟨w.heap.size + 1, 0, none⟩) 0 0, .slice (some ⟨w.heap.size + 1 + 1, 0, none⟩) 1 1] 70)).alloc (.cells #[] 119)).alloc (.cells #[.int .u32 1] 119)) w.heap.size (.bool false) (.slice (some ⟨w.heap.size + 1, 0, none⟩) 0 0) (.slice (some ⟨w.heap.size + 1 + 1, 0, none⟩) 1 1) :=
    ((Box3.new w _ _ _ _).keep ((World.Since.refl _ _).alloc (Nat.le_refl _) _)).keep ((World.Since.refl _ _).alloc (Nat.le_refl _) _)
  have n1 := natAt_one ((w.alloc (.cells #[.bool false, .slice (some ⟨w.heap.size + 1, 0, none⟩) 0 0, .slice (some ⟨w.heap.size + 1 + 1, 0, none⟩) 1 1] 70)).alloc (.cells #[] 119))
  rw [show ((w.alloc (.cells #[.bool false, .slice (some ⟨w.heap.size + 1, 0, none⟩) 0 0, .slice (some ⟨w.heap.size + 1 + 1, 0, none⟩) 1 1] 70)).alloc (.cells #[] 119)).heap.size = w.heap.size + 1 + 1 by simp] at n1
  go_enter Tryz.func109, Tryz.ntmps109
  go_wp2
  refine bodyPost_ret (results_box3 rfl _ _ _ _ _ _ rfl bA) rfl ?_
  exact ⟨_, rfl, ⟨_, _, w.heap.size + 1, w.heap.size + 1 + 1, rfl, natAt_empty _ _ _ _ _, n1, by omega, by omega, by omega⟩, sA⟩

theorem tlen_plain {X : Nat → Nat} {n : Nat} (p : 0 < n → X (n - 1) ≠ 0) : tlen (nz X) n = n := by
  cases n with
  | zero => rfl
  | succ n => simp [tlen, nz]; exact fun h => absurd h (p (by omega))

set_option maxHeartbeats 1600000 in
set_option maxRecDepth 100000 in
/-- fractionOf of a Rat with plain lists shares them. -/
theorem fractionOf_any (neg : Bool) (a b : Option Addr) (ba oa n ca bb ob m cb : Nat) (X Y : Nat → Nat) (w : World) (hn : n ≤ 16777216) (hm : m ≤ 16777216) (hnc : n ≤ ca) (hmc : m ≤ cb)
    (hX : Limbs w a ba oa n X) (hY : Limbs w b bb ob m Y) (pX : 0 < n → X (n - 1) ≠ 0) (pY : 0 < m → Y (m - 1) ≠ 0) :
    Calls Tryz.prog 85 #[.agg #[.bool neg, .slice a n ca, .slice b m cb]] w fun e w' => e = .returned (.agg #[.bool neg, .slice a n ca, .slice b m cb, .slice none 0 0]) ∧ w.Since w.heap.size w' := by
  have eX := tlen_plain pX
  have eY := tlen_plain pY
  clear pX pY
  have sA : w.Since w.heap.size ((w.alloc (.cells #[.bool neg, .slice a n ca, .slice b m cb] 70)).alloc (.cells #[.bool false, .slice none 0 0, .slice none 0 0, .slice none 0 0] 129)) := ((World.Since.refl _ _).alloc (Nat.le_refl _) _).alloc (by simp) _
  have bA : Box3 ((w.alloc (.cells #[.bool neg, .slice a n ca, .slice b m cb] 70)).alloc (.cells #[.bool false, .slice none 0 0, .slice none 0 0, .slice none 0 0] 129)) w.heap.size (.bool neg) (.slice a n ca) (.slice b m cb) := (Box3.new w _ _ _ _).keep ((World.Since.refl _ _).alloc (Nat.le_refl _) _)
  have qA : Box4 ((w.alloc (.cells #[.bool neg, .slice a n ca, .slice b m cb] 70)).alloc (.cells #[.bool false, .slice none 0 0, .slice none 0 0, .slice none 0 0] 129)) (w.heap.size + 1) (.bool false) (.slice none 0 0) (.slice none 0 0) (.slice none 0 0) := by
    have := Box4.new (w.alloc (.cells #[.bool neg, .slice a n ca, .slice b m cb] 70)) (.bool false) (.slice none 0 0) (.slice none 0 0) (.slice none 0 0) 129
    simpa using this
  go_enter Tryz.func85, Tryz.ntmps85
  go_wp2
  generalize ((w.alloc (.cells #[.bool neg, .slice a n ca, .slice b m cb] 70)).alloc (.cells #[.bool false, .slice none 0 0, .slice none 0 0, .slice none 0 0] 129)) = wA at *
  have SD : w.Since w.heap.size wA.drew := ⟨sA.os, sA.tape, sA.output, sA.size, sA.block⟩
  have bD : Box3 wA.drew w.heap.size (.bool neg) (.slice a n ca) (.slice b m cb) := ⟨bA.c0, bA.c1, bA.c2, bA.f⟩
  have qD : Box4 wA.drew (w.heap.size + 1) (.bool false) (.slice none 0 0) (.slice none 0 0) (.slice none 0 0) := ⟨qA.c0, qA.c1, qA.c2, qA.c3, qA.f⟩
  have k0 := bA.c0
  have k1 := bA.c1
  have k2 := bA.c2
  have J1 := readOnly_any a ba oa n ca X wA.drew (by omega) hnc (hX.keep SD)
  rw [eX] at J1
  clear sA bA qA
  go_region_held3 (fun w' => w'.cell? ⟨w.heap.size, 0, none⟩ = some (.bool neg) ∧ w'.cell? ⟨w.heap.size, 1, none⟩ = some (.slice a n ca) ∧ w'.cell? ⟨w.heap.size, 2, none⟩ = some (.slice b m cb)) (go_keep)
    (first
      | (go_at_call 119
         first
          | (with_reducible refine J1.mono ?_
             rintro e w1 ⟨rfl, s1⟩
             have S1 : w.Since w.heap.size w1 := SD.trans (sinceMono s1 SD.size)
             have b1 := bD.keep s1
             have q1 := qD.keep s1
             have i0 := b1.c0
             have i1 := b1.c1
             have i2 := b1.c2
             have J2 := readOnly_any b bb ob m cb Y w1 (by omega) hmc (hY.keep S1)
             rw [eY] at J2)
          | (with_reducible refine J2.mono ?_
             rintro e w2 ⟨rfl, s2⟩
             have S2 : w.Since w.heap.size w2 := S1.trans (sinceMono s2 S1.size)
             have b2 := b1.keep s2
             have q2 := q1.keep s2
             have i0 := b2.c0
             have i1 := b2.c1
             have i2 := b2.c2
             have j0 := q2.c0
             have j1 := q2.c1
             have j2 := q2.c2
             have j3 := q2.c3
             have f0 := q2.f 0
             have f1 := q2.f 1
             have f2 := q2.f 2
             have f3 := q2.f 3)))
  all_goals go_wp2
  all_goals
    have q3 := (((q2.set0 (.bool neg)).set1 (.slice a n ca)).set2 (.slice b m cb)).set3 (.slice none 0 0)
    refine bodyPost_ret (results_box4T rfl Tryz.underlying129 rfl fracInfo _ _ _ _ _ _ _ rfl q3) rfl ?_
    have M : Marked w2 _ (w.heap.size + 1) := ((((Marked.refl w2 _).setCell 0 (.bool neg)).setCell 1 (.slice a n ca)).setCell 2 (.slice b m cb)).setCell 3 (.slice none 0 0)
    exact ⟨rfl, S2.trans (M.since (by omega))⟩

end Go.Proofs.YthaomfabdghfjaaGreat

namespace Go.Proofs.YthaomfabdghfjaaGreat
open Go.RowKit

/-- Old memory but for one block stands. -/
structure Oth (c : Nat) (w w' : World) : Prop where
  os : w'.os = w.os
  tape : w'.tape = w.tape
  output : w'.output = w.output
  size : w.heap.size ≤ w'.heap.size
  block : ∀ k, k < w.heap.size → k ≠ c → w'.heap[k]? = w.heap[k]?

section
variable {c d n g N M off : Nat} {w w' w1 w2 : World} {a : Option Addr} {X : Nat → Nat} {v x y z : Value}
theorem Oth.refl (c : Nat) (w : World) : Oth c w w := ⟨rfl, rfl, rfl, Nat.le_refl _, fun _ _ _ => rfl⟩
theorem Oth.trans (h : Oth c w w1) (k : Oth c w1 w2) : Oth c w w2 := ⟨k.os.trans h.os, k.tape.trans h.tape, k.output.trans h.output, Nat.le_trans h.size k.size, fun i h1 h2 => (k.block i (Nat.lt_of_lt_of_le h1 h.size) h2).trans (h.block i h1 h2)⟩
theorem Oth.ofSince (c : Nat) (h : w.Since w.heap.size w') : Oth c w w' := ⟨h.os, h.tape, h.output, h.size, fun k hk _ => h.block k hk⟩
theorem Oth.ofMarked (h : Marked w w' c) : Oth c w w' := ⟨h.os, h.tape, h.output, by rw [h.size]; exact Nat.le_refl _, fun k _ hk => h.other k hk⟩
theorem Oth.since (h : Oth c w w') (hc : c ≤ w.heap.size) : w.Since c w' := ⟨h.os, h.tape, h.output, h.size, fun k hk => h.block k (by omega) (by omega)⟩
theorem Oth.cell (h : Oth c w w') {a : Addr} (hl : a.block < w.heap.size) (hne : a.block ≠ c) : w'.cell? a = w.cell? a := World.cell?_of_block (w := w) (h.block _ hl hne)
theorem Oth.frozen (h : Oth c w w') {a : Addr} (hl : a.block < w.heap.size) (hne : a.block ≠ c) : w'.frozen? a = w.frozen? a := World.frozen?_of_block (w := w) (h.block _ hl hne)
theorem Limbs.oth (h : Limbs w a g off n X) (s : Oth c w w') (hne : 0 < n → g ≠ c) : Limbs w' a g off n X := fun j hj => ⟨(h j hj).1, by rw [s.cell (a := ⟨g, off + j, none⟩) (h.lt (by omega)) (hne (by omega))]; exact (h j hj).2⟩
theorem NatAt.oth (h : NatAt w v g N M) (s : Oth c w w') (hne : g ≠ c) : NatAt w' v g N M := by
  obtain ⟨a, m, cap, Y, h1, h2, h3, h4, h5, h6, h7, h8, h9⟩ := h
  exact ⟨a, m, cap, Y, h1, h2, h3, h4, h5.oth s (fun _ => hne), fun h0 o => by rw [s.frozen (a := ⟨g, o, none⟩) (h5.lt h0) hne]; exact h6 h0 o, h7, h8, h9⟩
theorem Box3.oth (h : Box3 w d x y z) (s : Oth c w w') (hne : d ≠ c) : Box3 w' d x y z :=
  ⟨(s.cell (a := ⟨d, 0, none⟩) h.lt hne).trans h.c0, (s.cell (a := ⟨d, 1, none⟩) h.lt hne).trans h.c1, (s.cell (a := ⟨d, 2, none⟩) h.lt hne).trans h.c2, fun k => (s.frozen (a := ⟨d, k, none⟩) h.lt hne).trans (h.f k)⟩
end

theorem Box3.drew {w : World} {c : Nat} {x y z : Value} (h : Box3 w c x y z) : Box3 w.drew c x y z := ⟨h.c0, h.c1, h.c2, h.f⟩
theorem Oth.drew {w w' : World} {c : Nat} (h : Oth c w w') : Oth c w w'.drew := ⟨h.os, h.tape, h.output, h.size, h.block⟩
theorem Limbs.drew {w : World} {a : Option Addr} {b off n : Nat} {X : Nat → Nat} (h : Limbs w a b off n X) : Limbs w.drew a b off n X := h
theorem NatAt.drew {w : World} {v : Value} {g N M : Nat} (h : NatAt w v g N M) : NatAt w.drew v g N M := h
theorem since_drew {w w' : World} {B : Nat} (h : w.Since B w') : w.Since B w'.drew := ⟨h.os, h.tape, h.output, h.size, h.block⟩

theorem natAt_row {w2 : World} {g n : Nat} {P : Nat → Nat} (r : w2.rowIs g 119 n (fun j => .int .u32 (P j : Nat))) (hP : ∀ k, P k < 4294967296) {N : Nat} (hN : lv P n = N) : NatAt w2 (.slice (some ⟨g, 0, none⟩) (tlen (nz P) n) n) g N n :=
  ⟨_, _, _, P, rfl, tlen_le _ _, tlen_le _ _, fun h => (by cases h), (limbs_row r).take (tlen_le _ _), fun _ o => r.frozen o, fun j _ => hP j, fun h => by have := tlen_top (nz P) n h; simpa [nz] using this, by rw [lv_tlen]; exact hN⟩

theorem Box4.oth {c d : Nat} {w w' : World} {x y z u : Value} (h : Box4 w d x y z u) (s : Oth c w w') (hne : d ≠ c) : Box4 w' d x y z u :=
  ⟨(s.cell (a := ⟨d, 0, none⟩) h.lt hne).trans h.c0, (s.cell (a := ⟨d, 1, none⟩) h.lt hne).trans h.c1, (s.cell (a := ⟨d, 2, none⟩) h.lt hne).trans h.c2, (s.cell (a := ⟨d, 3, none⟩) h.lt hne).trans h.c3, fun k => (World.frozen?_of_block (w := w) (a := ⟨d, k, none⟩) (s.block d h.lt hne)).trans (h.f k)⟩
theorem Box4.drew {w : World} {c : Nat} {x y z u : Value} (h : Box4 w c x y z u) : Box4 w.drew c x y z u := ⟨h.c0, h.c1, h.c2, h.c3, h.f⟩

theorem row_keep {w w' : World} {g t n : Nat} {F : Nat → Value} (h : w.rowIs g t n F) (s : w.Since w.heap.size w') : w'.rowIs g t n F := h.of_block (s.block g h.lt)
theorem row_oth {w w' : World} {g t n c : Nat} {F : Nat → Value} (h : w.rowIs g t n F) (s : Oth c w w') (hne : g ≠ c) : w'.rowIs g t n F := h.of_block (s.block g h.lt hne)

theorem Oth.up {c d : Nat} {w w1 w2 : World} (x : Oth c w w1) (y : Oth d w1 w2) (hd : w.heap.size ≤ d) : Oth c w w2 :=
  ⟨y.os.trans x.os, y.tape.trans x.tape, y.output.trans x.output, Nat.le_trans x.size y.size, fun k h1 h2 => (y.block k (Nat.lt_of_lt_of_le h1 x.size) (by omega)).trans (x.block k h1 h2)⟩
/-- multiply at the second cell of a struct. -/
theorem mulAt1 (c : Nat) (x z u : Value) (a a' : Option Addr) (b off n cap b' off' m cap' : Nat) (X Y : Nat → Nat) (w : World) (hn : n ≤ 67108864) (hm : m ≤ 67108864) (hX : Limbs w a b off n X) (hY : Limbs w a' b' off' m Y)
    (hXl : ∀ j, j < n → X j < 4294967296) (hYl : ∀ j, j < m → Y j < 4294967296) (B : Box4 w c x (.slice a n cap) z u) :
    Calls Tryz.prog 124 #[.pointer (some ⟨c, 1, none⟩), .slice a' m cap'] w fun e w' => e = .returned (.tuple #[]) ∧ ∃ v, Box4 w' c x v z u ∧ NatAt w' v w.heap.size (lv X n * lv Y m) (n + m) ∧ Oth c w w' ∧ w.heap.size < w'.heap.size := by
  refine (multiply_any c 1 a a' b off n cap b' off' m cap' X Y w hn hm hX hY hXl hYl B.c1 (B.f 1)).mono ?_
  rintro e w' ⟨rfl, w2, P, s, r, hP, hv, rfl⟩
  have M := (Marked.refl w2 c).setCell 1 (.slice (some ⟨w.heap.size, 0, none⟩) (tlen (nz P) (n + m)) (n + m))
  exact ⟨rfl, _, (B.keep s).set1 _, (natAt_row r hP hv).marked M (Nat.ne_of_gt B.lt), (Oth.ofSince c s).trans (Oth.ofMarked M), by rw [M.size]; exact r.lt⟩

/-- multiply at the third cell of a struct. -/
theorem mulAt2 (c : Nat) (x z u : Value) (a a' : Option Addr) (b off n cap b' off' m cap' : Nat) (X Y : Nat → Nat) (w : World) (hn : n ≤ 67108864) (hm : m ≤ 67108864) (hX : Limbs w a b off n X) (hY : Limbs w a' b' off' m Y)
    (hXl : ∀ j, j < n → X j < 4294967296) (hYl : ∀ j, j < m → Y j < 4294967296) (B : Box4 w c x z (.slice a n cap) u) :
    Calls Tryz.prog 124 #[.pointer (some ⟨c, 2, none⟩), .slice a' m cap'] w fun e w' => e = .returned (.tuple #[]) ∧ ∃ v, Box4 w' c x z v u ∧ NatAt w' v w.heap.size (lv X n * lv Y m) (n + m) ∧ Oth c w w' ∧ w.heap.size < w'.heap.size := by
  refine (multiply_any c 2 a a' b off n cap b' off' m cap' X Y w hn hm hX hY hXl hYl B.c2 (B.f 2)).mono ?_
  rintro e w' ⟨rfl, w2, P, s, r, hP, hv, rfl⟩
  have M := (Marked.refl w2 c).setCell 2 (.slice (some ⟨w.heap.size, 0, none⟩) (tlen (nz P) (n + m)) (n + m))
  exact ⟨rfl, _, (B.keep s).set2 _, (natAt_row r hP hv).marked M (Nat.ne_of_gt B.lt), (Oth.ofSince c s).trans (Oth.ofMarked M), by rw [M.size]; exact r.lt⟩

/-- multiply at the second cell of a struct: the row told. -/
theorem mulAt1r (c : Nat) (x z u : Value) (a a' : Option Addr) (b off n cap b' off' m cap' : Nat) (X Y : Nat → Nat) (w : World) (hn : n ≤ 67108864) (hm : m ≤ 67108864) (hX : Limbs w a b off n X) (hY : Limbs w a' b' off' m Y)
    (hXl : ∀ j, j < n → X j < 4294967296) (hYl : ∀ j, j < m → Y j < 4294967296) (B : Box4 w c x (.slice a n cap) z u) :
    Calls Tryz.prog 124 #[.pointer (some ⟨c, 1, none⟩), .slice a' m cap'] w fun e w' => e = .returned (.tuple #[]) ∧ ∃ P : Nat → Nat, Box4 w' c x (.slice (some ⟨w.heap.size, 0, none⟩) (tlen (nz P) (n + m)) (n + m)) z u ∧ w'.rowIs w.heap.size 119 (n + m) (fun j => .int .u32 (P j : Nat)) ∧
      (∀ k, P k < 4294967296) ∧ lv P (n + m) = lv X n * lv Y m ∧ Oth c w w' ∧ w.heap.size < w'.heap.size := by
  refine (multiply_any c 1 a a' b off n cap b' off' m cap' X Y w hn hm hX hY hXl hYl B.c1 (B.f 1)).mono ?_
  rintro e w' ⟨rfl, w2, P, s, r, hP, hv, rfl⟩
  have M := (Marked.refl w2 c).setCell 1 (.slice (some ⟨w.heap.size, 0, none⟩) (tlen (nz P) (n + m)) (n + m))
  exact ⟨rfl, P, (B.keep s).set1 _, r.of_block (M.other _ (Nat.ne_of_gt B.lt)), hP, hv, (Oth.ofSince c s).trans (Oth.ofMarked M), by rw [M.size]; exact r.lt⟩

/-- multiply at a box of one cell: the row told. -/
theorem mulAtR (c : Nat) (a a' : Option Addr) (b off n cap b' off' m cap' : Nat) (X Y : Nat → Nat) (w : World) (hn : n ≤ 67108864) (hm : m ≤ 67108864) (hX : Limbs w a b off n X) (hY : Limbs w a' b' off' m Y)
    (hXl : ∀ j, j < n → X j < 4294967296) (hYl : ∀ j, j < m → Y j < 4294967296) (hc0 : w.cell? ⟨c, 0, none⟩ = some (.slice a n cap)) (hf0 : w.frozen? ⟨c, 0, none⟩ = false) :
    Calls Tryz.prog 124 #[.pointer (some ⟨c, 0, none⟩), .slice a' m cap'] w fun e w' => e = .returned (.tuple #[]) ∧ ∃ P : Nat → Nat, w'.cell? ⟨c, 0, none⟩ = some (.slice (some ⟨w.heap.size, 0, none⟩) (tlen (nz P) (n + m)) (n + m)) ∧ w'.frozen? ⟨c, 0, none⟩ = false ∧ w'.rowIs w.heap.size 119 (n + m) (fun j => .int .u32 (P j : Nat)) ∧
      (∀ k, P k < 4294967296) ∧ lv P (n + m) = lv X n * lv Y m ∧ Oth c w w' ∧ w.heap.size < w'.heap.size := by
  have hcl := World.block_lt_of_cell? _ _ hc0
  refine (multiply_any c 0 a a' b off n cap b' off' m cap' X Y w hn hm hX hY hXl hYl hc0 hf0).mono ?_
  rintro e w' ⟨rfl, w2, P, s, r, hP, hv, rfl⟩
  have M := (Marked.refl w2 c).setCell 0 (.slice (some ⟨w.heap.size, 0, none⟩) (tlen (nz P) (n + m)) (n + m))
  have h2 : w2.cell? ⟨c, 0, none⟩ = some (.slice a n cap) := by rw [s.cell (a := ⟨c, 0, none⟩) hcl]; exact hc0
  exact ⟨rfl, P, World.cell?_setCell_same _ _ _ h2, by rw [M.frozen, s.frozen (a := ⟨c, 0, none⟩) hcl]; exact hf0, r.of_block (M.other _ (Nat.ne_of_gt hcl)), hP, hv, (Oth.ofSince c s).trans (Oth.ofMarked M), by rw [M.size]; exact r.lt⟩

theorem top_row {P : Nat → Nat} {q : Nat} : 0 < tlen (nz P) q → P (tlen (nz P) q - 1) ≠ 0 := fun h => by have := tlen_top (nz P) q h; simpa [nz] using this

end Go.Proofs.YthaomfabdghfjaaGreat

namespace Go.Proofs.YthaomfabdghfjaaGreat
open Go.RowKit

/-- What writing into one cell of a box and into one row leaves. -/
structure At1 (c o : Nat) (r : Option Nat) (w w' : World) : Prop where
  os : w'.os = w.os
  tape : w'.tape = w.tape
  output : w'.output = w.output
  size : w.heap.size ≤ w'.heap.size
  block : ∀ k, k < w.heap.size → k ≠ c → some k ≠ r → w'.heap[k]? = w.heap[k]?
  cell : ∀ x, x ≠ o → w'.cell? ⟨c, x, none⟩ = w.cell? ⟨c, x, none⟩
  frozen : ∀ x, w'.frozen? ⟨c, x, none⟩ = w.frozen? ⟨c, x, none⟩

section
variable {c o : Nat} {r : Option Nat} {w w' w'' : World}
theorem At1.refl (c o : Nat) (r : Option Nat) (w : World) : At1 c o r w w := ⟨rfl, rfl, rfl, Nat.le_refl _, fun _ _ _ _ => rfl, fun _ _ => rfl, fun _ => rfl⟩
theorem At1.alloc (h : At1 c o r w w') (hc : c < w.heap.size) (b : Obj) : At1 c o r w (w'.alloc b) := by
  have s : w'.Since w'.heap.size (w'.alloc b) := (World.Since.refl _ _).alloc (Nat.le_refl _) _
  have hl := h.size
  exact ⟨h.os, h.tape, h.output, Nat.le_trans h.size s.size, fun k h1 h2 h3 => (s.block k (by omega)).trans (h.block k h1 h2 h3), fun x hx => (s.cell (a := ⟨c, x, none⟩) (by show c < _; omega)).trans (h.cell x hx), fun x => (s.frozen (a := ⟨c, x, none⟩) (by show c < _; omega)).trans (h.frozen x)⟩
theorem At1.grown {row : Option Nat} (h : At1 c o r w w') (g : w'.grownBy w'' row) (hc : c < w.heap.size) (hr : row = r ∨ ∀ k, row = some k → w.heap.size ≤ k) (hrc : some c ≠ row) : At1 c o r w w'' := by
  have hl := h.size
  refine ⟨g.os.trans h.os, g.tape.trans h.tape, g.output.trans h.output, Nat.le_trans h.size g.size, fun k h1 h2 h3 => (g.block k (by omega) ?_).trans (h.block k h1 h2 h3), fun x hx => (World.cell?_of_block (w := w') (a := ⟨c, x, none⟩) (g.block c (by omega) hrc)).trans (h.cell x hx), fun x => (World.frozen?_of_block (w := w') (a := ⟨c, x, none⟩) (g.block c (by omega) hrc)).trans (h.frozen x)⟩
  rcases hr with rfl | hr
  · exact h3
  · intro e; have := hr k e.symm; omega
theorem At1.setRow (h : At1 c o r w w') (g i : Nat) (v : Value) (hr : some g = r ∨ w.heap.size ≤ g) (hc : g ≠ c) : At1 c o r w (w'.setCell ⟨g, i, none⟩ v) := by
  have M := (Marked.refl w' g).setCell i v
  refine ⟨M.os.trans h.os, M.tape.trans h.tape, M.output.trans h.output, by rw [M.size]; exact h.size, fun k h1 h2 h3 => (M.other k ?_).trans (h.block k h1 h2 h3), fun x hx => (M.cell (a := ⟨c, x, none⟩) (Ne.symm hc)).trans (h.cell x hx), fun x => (M.frozenO (a := ⟨c, x, none⟩) (Ne.symm hc)).trans (h.frozen x)⟩
  rcases hr with rfl | hr
  · intro e; exact h3 (by rw [e])
  · omega
theorem At1.setC (h : At1 c o r w w') (v : Value) : At1 c o r w (w'.setCell ⟨c, o, none⟩ v) := by
  have M := (Marked.refl w' c).setCell o v
  refine ⟨M.os.trans h.os, M.tape.trans h.tape, M.output.trans h.output, by rw [M.size]; exact h.size, fun k h1 h2 h3 => (M.other k h2).trans (h.block k h1 h2 h3), fun x hx => ?_, fun x => (M.frozen x).trans (h.frozen x)⟩
  rw [← h.cell x hx]
  exact World.cell?_setCell_other _ _ _ _ (by simp)
end

/-- What holds when i limbs have been added. -/
def AddL (X V Y : Nat → Nat) (n m i c : Nat) : Prop := lv V i + c * 2 ^ (32 * i) = lv (extL X n) i + lv (extL Y m) i ∧ c ≤ 1 ∧ (∀ k, i ≤ k → V k = extL X n k) ∧ ∀ k, k < i → V k < 4294967296

theorem addL_step {X V Y : Nat → Nat} {n m i c s c' x y : Nat} (h : AddL X V Y n m i c) (hx : V i = x) (hy : extL Y m i = y) (hs : s < 4294967296) (hc : c' ≤ 1) (e : s + c' * 4294967296 = x + y + c) : AddL X (upd V i s) Y n m (i + 1) c' := by
  obtain ⟨h1, h2, h3, h4⟩ := h
  have hx0 : extL X n i = x := by rw [← hx]; exact (h3 i (Nat.le_refl _)).symm
  refine ⟨?_, hc, fun k hk => by rw [upd_other _ _ _ _ (by omega)]; exact h3 k (by omega), fun k hk => ?_⟩
  · simp only [lv, upd_same, lv_upd V i s i (Nat.le_refl _), hx0, hy]
    rw [pow32]
    generalize 2 ^ (32 * i) = P at *
    have e2 : s * P + c' * (4294967296 * P) = x * P + y * P + c * P := by rw [← Nat.mul_assoc, ← Nat.add_mul, ← Nat.add_mul, ← Nat.add_mul, e]
    omega
  · by_cases e2 : k = i
    · subst e2; rw [upd_same]; exact hs
    · rw [upd_other _ _ _ _ e2]; exact h4 k (by omega)

theorem addL_end {X V Y : Nat → Nat} {n m k c : Nat} (h : AddL X V Y n m k c) (hn : n ≤ k) (hm : m ≤ k) : lv V k + c * 2 ^ (32 * k) = lv X n + lv Y m := by
  have := h.1
  rw [lv_extL X n k hn, lv_extL Y m k hm] at this
  exact this

end Go.Proofs.YthaomfabdghfjaaGreat

namespace Go.Proofs.YthaomfabdghfjaaGreat
open Go.RowKit

theorem Limbs.at1 {c o : Nat} {r : Option Nat} {w w' : World} {a : Option Addr} {b off m : Nat} {Y : Nat → Nat} (h : Limbs w a b off m Y) (s : At1 c o r w w') (h1 : 0 < m → b ≠ c) (h2 : 0 < m → r ≠ some b) : Limbs w' a b off m Y :=
  fun j hj => ⟨(h j hj).1, (World.cell?_of_block (w := w) (a := ⟨b, off + j, none⟩) (s.block b (h.lt (by omega)) (h1 (by omega)) (fun e => h2 (by omega) e.symm))).trans (h j hj).2⟩

set_option maxHeartbeats 3200000 in
set_option maxRecDepth 100000 in
/-- (*nat).add into a row of its own. -/
theorem add_any (c o base n : Nat) (v0 : Value) (a' : Option Addr) (b' off' m cap' : Nat) (X Y : Nat → Nat) (w : World) (hn : n ≤ 67108864) (hm : m ≤ 67108864) (hc0 : w.cell? ⟨c, o, none⟩ = some v0) (hf0 : w.frozen? ⟨c, o, none⟩ = false)
    (hown : w.ownsRow base 119 1 v0 n (ll X n)) (hcb : c < base) (hbase : base ≤ w.heap.size) (hne : 0 < m → v0.ownBlock ≠ some b') (hbc : 0 < m → b' ≠ c) (hY : Limbs w a' b' off' m Y) (hXl : ∀ j, j < n → X j < 4294967296) (hYl : ∀ j, j < m → Y j < 4294967296) :
    Calls Tryz.prog 169 #[.pointer (some ⟨c, o, none⟩), .slice a' m cap'] w fun e w' => e = .returned (.tuple #[]) ∧ ∃ v k V, w'.cell? ⟨c, o, none⟩ = some v ∧ w'.ownsRow base 119 1 v k (ll V k) ∧ (∀ q, v.ownBlock = some q → v0.ownBlock = some q ∨ w.heap.size ≤ q) ∧
      At1 c o v0.ownBlock w w' ∧ (∀ j, j < k → V j < 4294967296) ∧ lv V k = lv X n + lv Y m ∧ k ≤ max n m + 1 ∧ (k = n ∨ k = m ∨ V (k - 1) ≠ 0) := by
  obtain ⟨i0, hi, hz0, hz1, hz2⟩ := info_parts Tryz.info119
  have hcl : c < w.heap.size := by omega
  have HXl := hide hXl
  have HYl := hide hYl
  clear hXl hYl
  have HLL : Hid (ll (extL X n) n = ll X n) := by
    simp only [Hid, ll]
    exact List.map_congr_left fun j hj => by simp [extL, List.mem_range.1 hj]
  go_enter Tryz.func169, Tryz.ntmps169
  go_wp2
  go_loopg [] (m - n) (fun g wr => ∃ (k : Nat) (v : Value), n ≤ k ∧ (k = n ∨ k ≤ m) ∧ Hid (g = m - k) ∧ wr.cell? ⟨c, o, none⟩ = some v ∧ wr.ownsRow base 119 1 v k (ll (extL X n) k) ∧ Hid (∀ q, v.ownBlock = some q → v0.ownBlock = some q ∨ w.heap.size ≤ q) ∧ At1 c o v0.ownBlock w wr)
  case atStart => exact ⟨n, v0, Nat.le_refl _, Or.inl rfl, hide rfl, hc0, by rw [HLL.out]; exact hown, hide (fun q hq => Or.inl hq), At1.refl _ _ _ _⟩
  case round =>
    obtain ⟨k, v, hnk, hkm, HG, q0, ho, HB, hs⟩ := hrel
    obtain ⟨a, cap, rfl, hkc, hac, hag⟩ := own_slice ho
    have qf : wr.frozen? ⟨c, o, none⟩ = false := by rw [hs.frozen]; exact hf0
    have hsz := hs.size
    by_cases hlt : k < m
    · have HO := hide hown
      clear hown
      have hC : some c ≠ (Value.slice a k cap).ownBlock := fun e => by have := (ho.lt c e.symm).1; omega
      go_wp2_with (at_builtin; refine wpList_append_own_at _ rfl _ _ 115 rfl base 119 i0 (.int .u32 0) 1 4 Tryz.underlying115 hi hz0 hz1 hz2 rfl (by decide) _ _ _ rfl (ho.alloc _) ⟨wr.heap.size, 0, none⟩ 1 1 [.int .u32 0] rfl rfl (new_cell _ _ _) (one_one _ rfl) (by unfold maxLen; omega) (by omega) (by simp; omega) ?_)
      intro v' w1 hown' hgrow hnn hat
      rw [ll_snoc X n k hnk] at hown'
      have sW := (World.Since.refl wr.heap.size wr).alloc (Nat.le_refl _) (.cells #[.int .u32 0] 119)
      have hR : (Value.slice a k cap).ownBlock = v0.ownBlock ∨ ∀ q, (Value.slice a k cap).ownBlock = some q → w.heap.size ≤ q := by
        cases e : (Value.slice a k cap).ownBlock with
        | none => exact Or.inr (fun q h => by cases h)
        | some q =>
          rcases HB.out q e with h | h
          · exact Or.inl h.symm
          · exact Or.inr (fun q' h' => by cases h'; exact h)
      have hs1 : At1 c o v0.ownBlock w w1 := (hs.alloc hcl _).grown hgrow hcl hR hC
      have q1 : w1.cell? ⟨c, o, none⟩ = some (.slice a k cap) := hgrow.cell ((sW.cell (a := ⟨c, o, none⟩) (show c < wr.heap.size by omega)).trans q0) hC
      have f1 : w1.frozen? ⟨c, o, none⟩ = false := by rw [hs1.frozen]; exact hf0
      have HB1 := hide (fun q (hq : v'.ownBlock = some q) => show v0.ownBlock = some q ∨ w.heap.size ≤ q by
        rcases hat with h | h
        · exact HB.out q (h.symm.trans hq)
        · rw [hq] at h; simp at h; omega)
      obtain ⟨a1, cap1, rfl, hkc1, hac1, hag1⟩ := own_slice hown'
      have hCv : (Value.slice a1 (k + 1) cap1).ownBlock ≠ some c := fun e => by have := (hown'.lt c e).1; omega
      clear hgrow hnn hat sW hR ho hs HB q0 qf hC
      go_wp2
      go_roundg (m - (k + 1))
      case rel => exact ⟨k + 1, _, by omega, Or.inr (by omega), hide rfl, World.cell?_setCell_same _ _ _ q1, ownsRow_setCell_other hown' hCv _, HB1, hs1.setC _⟩
      case measure => have := HG.out; omega
    · have hmk : m ≤ k := by omega
      have hkb : k ≤ 67108864 := by omega
      have HKK : Hid (k = n ∨ k = m) := hide (by omega)
      have HV0 : Hid (AddL X (extL X n) Y n m 0 0) := hide ⟨by simp [lv], by omega, fun _ _ => rfl, fun j hj => absurd hj (by omega)⟩
      have HK : Hid (k ≤ max n m) := hide (by omega)
      clear hown hc0 hlt hkm HG
      go_wp2
      go_loopw [4, 26] (fun q t wr => ∃ (i cb : Nat) (V : Nat → Nat), i ≤ k ∧ t = .int .i64 i ∧ q = .int .u64 cb ∧ cb ≤ 1 ∧ wr.cell? ⟨c, o, none⟩ = some (.slice a k cap) ∧ wr.ownsRow base 119 1 (.slice a k cap) k (ll V k) ∧ At1 c o v0.ownBlock w wr ∧ Hid (AddL X V Y n m i cb)) (fun _ t _ => k - (intOf t).toNat)
      case atStart => exact ⟨0, 0, extL X n, Nat.zero_le _, rfl, rfl, by omega, q0, ho, hs, HV0⟩
      case round =>
        obtain ⟨i, cb, V, hik, rfl, rfl, hcb1, q2, ho2, hs2, HR⟩ := hrel
        clear ho hs q0 qf HV0
        by_cases hlt : i < k
        · obtain ⟨g, rfl⟩ := hag i hlt
          obtain ⟨g', cap', e, -, hbg, hgl, LV, FV⟩ := own_limbs_some ho2 (by simp)
          cases e
          have g1 : wr.cell? ⟨g, i, none⟩ = some (.int .u32 (V i)) := by simpa using (LV i hlt).2
          have g2 : wr.frozen? ⟨g, i, none⟩ = false := FV i
          have hgr : some g = v0.ownBlock ∨ w.heap.size ≤ g := by
            rcases HB.out g rfl with h | h
            · exact Or.inl h.symm
            · exact Or.inr h
          have hxl : V i < 4294967296 := by
            rw [HR.out.2.2.1 i (Nat.le_refl _)]
            unfold extL
            split
            · exact HXl.out i (by assumption)
            · omega
          have STEP := hide (fun (s c' : Nat) (y : Nat) (hy : extL Y m i = y) => addL_step (s := s) (c' := c') HR.out rfl hy)
          obtain ⟨x, ex⟩ : ∃ y, y = V i := ⟨_, rfl⟩
          rw [← ex] at g1 hxl STEP
          clear ex LV FV
          have hin : (i : Int) < (k : Int) := by omega
          have hcg : g ≠ c := by omega
          have q3 : ∀ u, (wr.setCell ⟨g, i, none⟩ u).cell? ⟨c, o, none⟩ = some (.slice (some ⟨g, 0, none⟩) k cap) := fun u => by rw [((Marked.refl wr g).setCell i u).cell (a := ⟨c, o, none⟩) (Ne.symm hcg)]; exact q2
          by_cases him : i < m
          · obtain ⟨rfl, ky⟩ := (hY.at1 hs2 hbc hne) i him
            have hyl := HYl.out i him
            have HEy : Hid (extL Y m i = Y i) := by simp [Hid, extL, him]
            obtain ⟨y, ey⟩ : ∃ y, y = Y i := ⟨_, rfl⟩
            rw [← ey] at ky hyl HEy
            clear ey
            by_cases hb : x + cb + y < 4294967296
            · go_wp2
              go_roundw
              case rel => go_light; exact ⟨i + 1, 0, _, by omega, by go_num, congrArg (Value.int .u64) (by omega), by omega, q3 _, own_setI ho2 i (x + cb + y) hlt _ (by omega), hs2.setRow g i _ hgr hcg, STEP.out _ _ y HEy.out (by omega) (by omega) (by omega)⟩
              case measure => simp [intOf]; omega
            · go_wp2
              go_roundw
              case rel => go_light; exact ⟨i + 1, 1, _, by omega, by go_num, congrArg (Value.int .u64) (by omega), by omega, q3 _, own_setI ho2 i (x + cb + y - 4294967296) hlt _ (by omega), hs2.setRow g i _ hgr hcg, STEP.out _ _ y HEy.out (by omega) (by omega) (by omega)⟩
              case measure => simp [intOf]; omega
          · have HEy : Hid (extL Y m i = 0) := by simp [Hid, extL, him]
            by_cases hb : x + cb < 4294967296
            · go_wp2
              go_roundw
              case rel => go_light; exact ⟨i + 1, 0, _, by omega, by go_num, congrArg (Value.int .u64) (by omega), by omega, q3 _, own_setI ho2 i (x + cb) hlt _ (by omega), hs2.setRow g i _ hgr hcg, STEP.out _ _ 0 HEy.out (by omega) (by omega) (by omega)⟩
              case measure => simp [intOf]; omega
            · go_wp2
              go_roundw
              case rel => go_light; exact ⟨i + 1, 1, _, by omega, by go_num, congrArg (Value.int .u64) (by omega), by omega, q3 _, own_setI ho2 i (x + cb - 4294967296) hlt _ (by omega), hs2.setRow g i _ hgr hcg, STEP.out _ _ 0 HEy.out (by omega) (by omega) (by omega)⟩
              case measure => simp [intOf]; omega
        · have e : i = k := by omega
          subst e
          have HE := hide (addL_end HR.out hnk hmk)
          have hc2 : cb = 0 ∨ cb = 1 := by omega
          rcases hc2 with rfl | rfl
          · go_wp2
            go_end0
            exact ⟨rfl, _, i, V, q2, ho2, HB.out, hs2, HR.out.2.2.2, by have := HE.out; omega, by have := HK.out; omega, by rcases HKK.out with h | h <;> simp [h]⟩
          · have hC : some c ≠ (Value.slice a i cap).ownBlock := fun e => by have := (ho2.lt c e.symm).1; omega
            have hsz2 := hs2.size
            go_wp2_with (at_builtin; refine wpList_append_own_at _ rfl _ _ 115 rfl base 119 i0 (.int .u32 0) 1 4 Tryz.underlying115 hi hz0 hz1 hz2 rfl (by decide) _ _ _ rfl (ho2.alloc _) ⟨wr.heap.size, 0, none⟩ 1 1 [.int .u32 1] rfl rfl (new_cell _ _ _) (one_one _ rfl) (by unfold maxLen; omega) (by omega) (by simp; omega) ?_)
            intro v' w1 hown' hgrow hnn hat
            rw [show ll V i ++ [.int .u32 1] = ll (upd V i 1) (i + 1) from by rw [ll_succ, upd_same, ll_congr (fun j hj => upd_other _ _ _ _ (show j ≠ i by omega))]; rfl] at hown'
            have sW := (World.Since.refl wr.heap.size wr).alloc (Nat.le_refl _) (.cells #[.int .u32 1] 119)
            have hR : (Value.slice a i cap).ownBlock = v0.ownBlock ∨ ∀ q, (Value.slice a i cap).ownBlock = some q → w.heap.size ≤ q := by
              cases e : (Value.slice a i cap).ownBlock with
              | none => exact Or.inr (fun q h => by cases h)
              | some q =>
                rcases HB.out q e with h | h
                · exact Or.inl h.symm
                · exact Or.inr (fun q' h' => by cases h'; exact h)
            have hs1 : At1 c o v0.ownBlock w w1 := (hs2.alloc hcl _).grown hgrow hcl hR hC
            have q1 : w1.cell? ⟨c, o, none⟩ = some (.slice a i cap) := hgrow.cell ((sW.cell (a := ⟨c, o, none⟩) (show c < wr.heap.size by omega)).trans q2) hC
            have f1 : w1.frozen? ⟨c, o, none⟩ = false := by rw [hs1.frozen]; exact hf0
            have HB1 := hide (fun q (hq : v'.ownBlock = some q) => show v0.ownBlock = some q ∨ w.heap.size ≤ q by
              rcases hat with h | h
              · exact HB.out q (h.symm.trans hq)
              · rw [hq] at h; simp at h; omega)
            obtain ⟨a1, cap1, rfl, hkc1, hac1, hag1⟩ := own_slice hown'
            have hCv : (Value.slice a1 (i + 1) cap1).ownBlock ≠ some c := fun e => by have := (hown'.lt c e).1; omega
            have HV1 := hide HR.out.2.2.2
            clear hgrow hnn hat sW hR ho2 hs2 HB q2 hC HR
            go_wp2
            go_end0
            refine ⟨rfl, _, i + 1, upd V i 1, World.cell?_setCell_same _ _ _ q1, ownsRow_setCell_other hown' hCv _, HB1.out, hs1.setC _, fun j hj => ?_, ?_, by have := HK.out; omega, Or.inr (Or.inr (by rw [show i + 1 - 1 = i by omega, upd_same]; omega))⟩
            · by_cases e2 : j = i
              · subst e2; rw [upd_same]; omega
              · rw [upd_other _ _ _ _ e2]; exact HV1.out j (by omega)
            · have := HE.out
              simp only [lv, upd_same, lv_upd V i 1 i (Nat.le_refl _)]
              exact this

end Go.Proofs.YthaomfabdghfjaaGreat

namespace Go.Proofs.YthaomfabdghfjaaGreat
open Go.RowKit

/-- Old memory but for three blocks stands. -/
structure Oth3 (c g h : Nat) (w w' : World) : Prop where
  os : w'.os = w.os
  tape : w'.tape = w.tape
  output : w'.output = w.output
  size : w.heap.size ≤ w'.heap.size
  block : ∀ k, k < w.heap.size → k ≠ c → k ≠ g → k ≠ h → w'.heap[k]? = w.heap[k]?

theorem Oth3.refl (c g h : Nat) (w : World) : Oth3 c g h w w := ⟨rfl, rfl, rfl, Nat.le_refl _, fun _ _ _ _ _ => rfl⟩
theorem Oth3.trans {c g h : Nat} {w w1 w2 : World} (x : Oth3 c g h w w1) (y : Oth3 c g h w1 w2) : Oth3 c g h w w2 :=
  ⟨y.os.trans x.os, y.tape.trans x.tape, y.output.trans x.output, Nat.le_trans x.size y.size, fun k h1 h2 h3 h4 => (y.block k (Nat.lt_of_lt_of_le h1 x.size) h2 h3 h4).trans (x.block k h1 h2 h3 h4)⟩
theorem Oth3.ofMarked {c g h b : Nat} {w w' : World} (m : Marked w w' b) (hb : b = c ∨ b = g ∨ b = h) : Oth3 c g h w w' :=
  ⟨m.os, m.tape, m.output, by rw [m.size]; exact Nat.le_refl _, fun k _ h2 h3 h4 => m.other k (by omega)⟩
theorem Oth3.ofAt1 {c o g h : Nat} {w w' : World} (m : At1 c o (some g) w w') : Oth3 c g h w w' :=
  ⟨m.os, m.tape, m.output, m.size, fun k h1 h2 h3 _ => m.block k h1 h2 (by simp; exact h3)⟩
theorem Oth3.since {c g h B : Nat} {w w' : World} (s : Oth3 c g h w w') (hB : B ≤ w.heap.size) (hc : B ≤ c) (hg : B ≤ g) (hh : B ≤ h) : w.Since B w' :=
  ⟨s.os, s.tape, s.output, s.size, fun k hk => s.block k (by omega) (by omega) (by omega) (by omega)⟩

/-- The sign and the numerator of a sum. -/
def sumNeg (f f' : Bool) (x y : Nat) : Bool := if f = f' then f else if x < y then f' else f
def sumTop (f f' : Bool) (x y : Nat) : Nat := if f = f' then x + y else if x < y then y - x else x - y

theorem top_of_sum {X Y V : Nat → Nat} {n m k : Nat} (lV : ∀ j, j < k → V j < 4294967296) (e : lv V k = lv X n + lv Y m) (hk : k = n ∨ k = m ∨ V (k - 1) ≠ 0) (pX : 0 < n → X (n - 1) ≠ 0) (pY : 0 < m → Y (m - 1) ≠ 0) (h0 : 0 < k) : V (k - 1) ≠ 0 := by
  intro hz
  have e2 : lv V k = lv V (k - 1) := lv_more V (k - 1) k (by omega) (fun j h1 h2 => by rw [show j = k - 1 by omega]; exact hz)
  rcases hk with rfl | rfl | h
  · have := lv_short (A := V) (B := X) (n := k - 1) (m := k) (fun j hj => lV j (by omega)) (by omega) pX
    omega
  · have := lv_short (A := V) (B := Y) (n := k - 1) (m := k) (fun j hj => lV j (by omega)) (by omega) pY
    omega
  · exact h hz


theorem subAt1 (c : Nat) (x z u : Value) (b n cap : Nat) (a' : Option Addr) (b' off' m cap' : Nat) (X Y : Nat → Nat) (w : World) (hn : n ≤ 268435456) (hnc : n ≤ cap) (B : Box4 w c x (.slice (some ⟨b, 0, none⟩) n cap) z u)
    (hf : ∀ x, w.frozen? ⟨b, x, none⟩ = false) (hcb : c ≠ b) (hbb : b' ≠ b) (hX : Limbs w (some ⟨b, 0, none⟩) b 0 n X) (hY : Limbs w a' b' off' m Y) (hXl : ∀ j, j < n → X j < 4294967296) (hYl : ∀ j, j < m → Y j < 4294967296) (pY : 0 < m → Y (m - 1) ≠ 0) (hle : lv Y m ≤ lv X n) (g h : Nat) (hb : b = g ∨ b = h) :
    Calls Tryz.prog 170 #[.pointer (some ⟨c, 1, none⟩), .slice a' m cap'] w fun e w' => e = .returned (.tuple #[]) ∧ ∃ v, Box4 w' c x v z u ∧ NatAt w' v b (lv X n - lv Y m) n ∧ Oth3 c g h w w' := by
  have hmn : m ≤ n := by
    rcases Nat.lt_or_ge n m with h1 | h1
    · have := lv_short (A := X) (B := Y) (n := n) (m := m) hXl h1 pY
      omega
    · exact h1
  refine (subtract_any c 1 b n cap a' b' off' m cap' X Y w hn hnc hmn B.c1 (B.f 1) hf hcb hbb hX hY hXl hYl hle).mono ?_
  rintro e w' ⟨rfl, w2, V, M, L, lV, eV, rfl⟩
  have M2 := (Marked.refl w2 c).setCell 1 (.slice (some ⟨b, 0, none⟩) (tlen (nz V) n) cap)
  have N2 : NatAt w2 (.slice (some ⟨b, 0, none⟩) (tlen (nz V) n) cap) b (lv X n - lv Y m) n :=
    ⟨_, _, _, V, rfl, Nat.le_trans (tlen_le _ _) hnc, tlen_le _ _, fun h => (by cases h), L.take (tlen_le _ _), fun _ o => by rw [M.frozen o]; exact hf o, fun j hj => lV j (Nat.lt_of_lt_of_le hj (tlen_le _ _)), top_row, by rw [lv_tlen]; exact eV⟩
  exact ⟨rfl, _, (B.marked M hcb).set1 _, N2.marked M2 (Ne.symm hcb), (Oth3.ofMarked M (by omega)).trans (Oth3.ofMarked M2 (Or.inl rfl))⟩

end Go.Proofs.YthaomfabdghfjaaGreat

namespace Go.Proofs.YthaomfabdghfjaaGreat
open Go.RowKit

set_option maxHeartbeats 1600000 in
set_option maxRecDepth 100000 in
/-- (*fraction).addTop. -/
theorem addTop_any (c : Nat) (f f' : Bool) (v2 v3 : Value) (g h qg qh : Nat) (P Q : Nat → Nat) (w : World) (hqg : qg ≤ 16777215) (hqh : qh ≤ 16777215) (B : Box4 w c (.bool f) (.slice (some ⟨g, 0, none⟩) (tlen (nz P) qg) qg) v2 v3)
    (rg : w.rowIs g 119 qg (fun j => .int .u32 (P j : Nat))) (rh : w.rowIs h 119 qh (fun j => .int .u32 (Q j : Nat))) (hP : ∀ k, P k < 4294967296) (hQ : ∀ k, Q k < 4294967296) (hcg : c < g) (hgh : h ≠ g) (hch : c ≠ h) :
    Calls Tryz.prog 164 #[.pointer (some ⟨c, 0, none⟩), .bool f', .slice (some ⟨h, 0, none⟩) (tlen (nz Q) qh) qh] w fun e w' => e = .returned (.tuple #[]) ∧ ∃ v gg, Box4 w' c (.bool (sumNeg f f' (lv P qg) (lv Q qh))) v v2 v3 ∧
      NatAt w' v gg (sumTop f f' (lv P qg) (lv Q qh)) 16777216 ∧ (gg = g ∨ gg = h ∨ w.heap.size ≤ gg) ∧ gg < w'.heap.size ∧ Oth3 c g h w w' := by
  have tP := tlen_le (nz P) qg
  have tQ := tlen_le (nz Q) qh
  have LP := (limbs_row rg).take tP
  have LQ := (limbs_row rh).take tQ
  have pP : 0 < tlen (nz P) qg → P (tlen (nz P) qg - 1) ≠ 0 := top_row
  have pQ : 0 < tlen (nz Q) qh → Q (tlen (nz Q) qh - 1) ≠ 0 := top_row
  have eP := lv_tlen P qg
  have eQ := lv_tlen Q qh
  have oP : w.ownsRow g 119 1 (.slice (some ⟨g, 0, none⟩) (tlen (nz P) qg) qg) (tlen (nz P) qg) (ll P (tlen (nz P) qg)) := row_own rg tP (by unfold maxLen; omega) (Nat.le_refl _)
  have fg := rg.frozen
  have fh := rh.frozen
  have gl := rg.lt
  have hl := rh.lt
  clear rg rh
  generalize tlen (nz P) qg = n at *
  generalize tlen (nz Q) qh = m at *
  have hcl := B.lt
  by_cases hff : f = f'
  · have hN : sumNeg f f' (lv P qg) (lv Q qh) = f := by simp [sumNeg, hff]
    have hT : sumTop f f' (lv P qg) (lv Q qh) = lv P n + lv Q m := by simp [sumTop, hff, eP, eQ]
    rw [hN, hT]
    clear hN hT eP eQ
    subst hff
    have k0 := B.c0
    go_enter Tryz.func164, Tryz.ntmps164
    go_wp2_with fail
    refine (add_any c 1 g n (.slice (some ⟨g, 0, none⟩) n qg) (some ⟨h, 0, none⟩) h 0 m qh P Q w (by omega) (by omega) B.c1 (B.f 1) oP hcg (by omega) (fun _ e => hgh (by simpa [Value.ownBlock] using e.symm)) (fun _ => Ne.symm hch) LQ (fun j _ => hP j) (fun j _ => hQ j)).mono ?_
    rintro e w1 ⟨rfl, v, k, V, c1, o1, b1, A1, lV, eV, kk, tk⟩
    go_wp2
    refine bodyPost_ret (results_none rfl _ _ _) rfl ?_
    have top := top_of_sum lV eV tk pP pQ
    have Bx : Box4 w1 c (.bool f) v v2 v3 := ⟨by rw [A1.cell 0 (by omega)]; exact B.c0, c1, by rw [A1.cell 2 (by omega)]; exact B.c2, by rw [A1.cell 3 (by omega)]; exact B.c3, fun x => by rw [A1.frozen]; exact B.f x⟩
    have hs := A1.size
    have hk : k ≤ 16777216 := by omega
    have O : Oth3 c g h w w1 := Oth3.ofAt1 A1
    have hc := @World.ownsRow.cells _ _ _ _ _ _ _ o1
    rcases o1.2 with ⟨rfl, rfl⟩ | ⟨g', cap, cur, rfl, hb, hg, hm, _⟩
    · exact ⟨rfl, _, g, Bx, by rw [← eV]; exact natAt_nil _ _ _, Or.inl rfl, by omega, O⟩
    · have hlt := (Array.getElem?_eq_some_iff.1 hg).1
      refine ⟨rfl, _, g', Bx, ⟨_, k, cap, V, rfl, hm, hk, fun h => (by cases h), fun j hj => ⟨rfl, ?_⟩, fun _ o => by simp [World.frozen?, hg], lV, top, eV⟩, ?_, hlt, O⟩
      · have := hc (g := g') rfl j _ (ll_get V k j hj)
        rw [Addr.add_lit] at this; exact this
      · rcases b1 g' rfl with e | e
        · simp [Value.ownBlock] at e; exact Or.inl e.symm
        · exact Or.inr (Or.inr e)
  · have k0 := B.c0
    have HFF := hide hff
    have hfb : (f == f') = false := by simp [hff]
    by_cases hlt : lv P n < lv Q m
    · have hN : sumNeg f f' (lv P qg) (lv Q qh) = f' := by rw [← eP, ← eQ]; simp [sumNeg, hff, hlt]
      have hT : sumTop f f' (lv P qg) (lv Q qh) = lv Q m - lv P n := by rw [← eP, ← eQ]; simp [sumTop, hff, hlt]
      rw [hN, hT]
      clear hN hT eP eQ hff
      have hcp := cmpN_neg2 hlt
      have HL := hide hlt
      clear hlt
      go_enter Tryz.func164, Tryz.ntmps164
      go_wp2_with fail
      refine (compare_any c 1 (some ⟨g, 0, none⟩) (some ⟨h, 0, none⟩) g 0 n qg h 0 m qh P Q w (by omega) (by omega) B.c1 LP LQ (fun j _ => hP j) (fun j _ => hQ j) pP pQ).mono ?_
      rintro e w1 ⟨rfl, s1⟩
      have B1 : Box4 w1 c (.bool f) (.slice (some ⟨g, 0, none⟩) n qg) v2 v3 := ⟨by rw [s1.cell]; exact B.c0, by rw [s1.cell]; exact B.c1, by rw [s1.cell]; exact B.c2, by rw [s1.cell]; exact B.c3, fun x => by rw [s1.frozen]; exact B.f x⟩
      have j1 := B1.c1
      have j0 := B1.c0
      have jf0 := B1.f 0
      have jf1 := B1.f 1
      go_wp2_with fail
      have M1 : Marked w1 ((w1.setCell ⟨c, 1, none⟩ (.slice (some ⟨h, 0, none⟩) m qh)).setCell ⟨c, 0, none⟩ (.bool f')) c := ((Marked.refl w1 c).setCell 1 _).setCell 0 _
      have B2 := (B1.set1 (.slice (some ⟨h, 0, none⟩) m qh)).set0 (.bool f')
      have O1 : Oth3 c g h w w1 := ⟨s1.os, s1.tape, s1.output, by rw [s1.size]; exact Nat.le_refl _, fun k _ _ _ _ => by rw [s1.heap]⟩
      have O2 := O1.trans (Oth3.ofMarked (c := c) (g := g) (h := h) M1 (Or.inl rfl))
      refine (subAt1 c _ _ _ h m qh (some ⟨g, 0, none⟩) g 0 n qg Q P _ (by omega) tQ B2 (fun x => by rw [M1.frozenO (a := ⟨h, x, none⟩) (Ne.symm hch), s1.frozen]; exact fh x) hch (Ne.symm hgh) ((LQ.same s1).marked M1 (fun _ => Ne.symm hch)) ((LP.same s1).marked M1 (fun _ => by omega)) (fun j _ => hQ j) (fun j _ => hP j) pP (Nat.le_of_lt HL.out) g h (Or.inr rfl)).mono ?_
      rintro e w2 ⟨rfl, v, B3, N3, O3⟩
      have O := O2.trans O3
      go_wp2
      go_end0
      exact ⟨rfl, v, h, B3, N3.more (by omega), Or.inr (Or.inl rfl), Nat.lt_of_lt_of_le hl O.size, O⟩
    · have hN : sumNeg f f' (lv P qg) (lv Q qh) = f := by rw [← eP, ← eQ]; simp [sumNeg, hff, hlt]
      have hT : sumTop f f' (lv P qg) (lv Q qh) = lv P n - lv Q m := by rw [← eP, ← eQ]; simp [sumTop, hff, hlt]
      rw [hN, hT]
      clear hN hT eP eQ hff
      have hcp := cmpN_nonneg2 (Nat.le_of_not_lt hlt)
      have HL := hide (Nat.le_of_not_lt hlt)
      clear hlt
      go_enter Tryz.func164, Tryz.ntmps164
      go_wp2_with fail
      refine (compare_any c 1 (some ⟨g, 0, none⟩) (some ⟨h, 0, none⟩) g 0 n qg h 0 m qh P Q w (by omega) (by omega) B.c1 LP LQ (fun j _ => hP j) (fun j _ => hQ j) pP pQ).mono ?_
      rintro e w1 ⟨rfl, s1⟩
      have B1 : Box4 w1 c (.bool f) (.slice (some ⟨g, 0, none⟩) n qg) v2 v3 := ⟨by rw [s1.cell]; exact B.c0, by rw [s1.cell]; exact B.c1, by rw [s1.cell]; exact B.c2, by rw [s1.cell]; exact B.c3, fun x => by rw [s1.frozen]; exact B.f x⟩
      go_wp2_with fail
      refine (subAt1 c _ _ _ g n qg (some ⟨h, 0, none⟩) h 0 m qh P Q w1 (by omega) tP B1 (fun x => by rw [s1.frozen]; exact fg x) (by omega) hgh (LP.same s1) (LQ.same s1) (fun j _ => hP j) (fun j _ => hQ j) pQ HL.out g h (Or.inl rfl)).mono ?_
      rintro e w2 ⟨rfl, v, B2, N2, O2⟩
      have O1 : Oth3 c g h w w1 := ⟨s1.os, s1.tape, s1.output, by rw [s1.size]; exact Nat.le_refl _, fun k _ _ _ _ => by rw [s1.heap]⟩
      have O := O1.trans O2
      go_wp2
      go_end0
      exact ⟨rfl, v, g, B2, N2.more (by omega), Or.inl rfl, Nat.lt_of_lt_of_le gl O.size, O⟩

end Go.Proofs.YthaomfabdghfjaaGreat

namespace Go.Proofs.YthaomfabdghfjaaGreat
open Go.RowKit

set_option maxHeartbeats 1600000 in
set_option maxRecDepth 100000 in
/-- (*fraction).compare at differing signs. -/
theorem fracCmp_sign (c : Nat) (f f' : Bool) (a b a' b' : Option Addr) (n ca m cb n' ca' m' cb' : Nat) (w : World) (B : Box4 w c (.bool f) (.slice a n ca) (.slice b m cb) (.slice none 0 0)) (hne : f ≠ f') :
    Calls Tryz.prog 86 #[.pointer (some ⟨c, 0, none⟩), .agg #[.bool f', .slice a' n' ca', .slice b' m' cb', .slice none 0 0]] w fun e w' => e = .returned (.int .i64 (if f then -1 else 1)) ∧ w.Since w.heap.size w' := by
  have sA : w.Since w.heap.size (w.alloc (.cells #[.bool f', .slice a' n' ca', .slice b' m' cb', .slice none 0 0] 129)) := (World.Since.refl _ _).alloc (Nat.le_refl _) _
  have BA := B.keep sA
  have gA := Box4.new w (.bool f') (.slice a' n' ca') (.slice b' m' cb') (.slice none 0 0) 129
  have k0 := BA.c0
  have g0 := gA.c0
  cases f <;> cases f'
  · exact absurd rfl hne
  · go_enter Tryz.func86, Tryz.ntmps86
    go_wp2
    go_quiet (fail)
    go_wp2
    go_ret
    exact ⟨rfl, ⟨sA.os, sA.tape, sA.output, sA.size, sA.block⟩⟩
  · go_enter Tryz.func86, Tryz.ntmps86
    go_wp2
    go_quiet (fail)
    go_wp2
    go_ret
    exact ⟨rfl, ⟨sA.os, sA.tape, sA.output, sA.size, sA.block⟩⟩
  · exact absurd rfl hne

end Go.Proofs.YthaomfabdghfjaaGreat

namespace Go.Proofs.YthaomfabdghfjaaGreat
open Go.RowKit

set_option maxHeartbeats 1600000 in
set_option maxRecDepth 100000 in
/-- (*fraction).compare at like signs. -/
theorem fracCmp_same (c : Nat) (f : Bool) (a b a' b' : Option Addr) (ba oa n ca bb ob m cb ba' oa' n' ca' bb' ob' m' cb' : Nat) (X Y X' Y' : Nat → Nat) (w : World) (hn : n + n' + m + m' ≤ 16777216)
    (hX : Limbs w a ba oa n X) (hY : Limbs w b bb ob m Y) (hX' : Limbs w a' ba' oa' n' X') (hY' : Limbs w b' bb' ob' m' Y') (hXl : ∀ j, j < n → X j < 4294967296) (hYl : ∀ j, j < m → Y j < 4294967296) (hXl' : ∀ j, j < n' → X' j < 4294967296) (hYl' : ∀ j, j < m' → Y' j < 4294967296)
    (B : Box4 w c (.bool f) (.slice a n ca) (.slice b m cb) (.slice none 0 0)) :
    Calls Tryz.prog 86 #[.pointer (some ⟨c, 0, none⟩), .agg #[.bool f, .slice a' n' ca', .slice b' m' cb', .slice none 0 0]] w fun e w' => e = .returned (.int .i64 (if f then cmpN (lv X' n' * lv Y m) (lv X n * lv Y' m') else cmpN (lv X n * lv Y' m') (lv X' n' * lv Y m))) ∧ w.Since w.heap.size w' := by
  have sA : w.Since w.heap.size (w.alloc (.cells #[.bool f, .slice a' n' ca', .slice b' m' cb', .slice none 0 0] 129)) := (World.Since.refl _ _).alloc (Nat.le_refl _) _
  have BA := B.keep sA
  have gA := Box4.new w (.bool f) (.slice a' n' ca') (.slice b' m' cb') (.slice none 0 0) 129
  have hcl := B.lt
  have zA : (w.alloc (.cells #[.bool f, .slice a' n' ca', .slice b' m' cb', .slice none 0 0] 129)).heap.size = w.heap.size + 1 := by simp
  have k0 := BA.c0
  have k1 := BA.c1
  have g0 := gA.c0
  have g1 := gA.c1
  go_enter Tryz.func86, Tryz.ntmps86
  go_wp2
  go_quiet (fail)
  go_wp2
  have S1 : w.Since w.heap.size ((w.alloc (.cells #[.bool f, .slice a' n' ca', .slice b' m' cb', .slice none 0 0] 129)).drewN nq) := ⟨sA.os, sA.tape, sA.output, sA.size, sA.block⟩
  have B1 : Box4 ((w.alloc (.cells #[.bool f, .slice a' n' ca', .slice b' m' cb', .slice none 0 0] 129)).drewN nq) c (.bool f) (.slice a n ca) (.slice b m cb) (.slice none 0 0) := ⟨BA.c0, BA.c1, BA.c2, BA.c3, BA.f⟩
  have G1 : Box4 ((w.alloc (.cells #[.bool f, .slice a' n' ca', .slice b' m' cb', .slice none 0 0] 129)).drewN nq) w.heap.size (.bool f) (.slice a' n' ca') (.slice b' m' cb') (.slice none 0 0) := ⟨gA.c0, gA.c1, gA.c2, gA.c3, gA.f⟩
  have zl : w.heap.size + 1 ≤ ((w.alloc (.cells #[.bool f, .slice a' n' ca', .slice b' m' cb', .slice none 0 0] 129)).drewN nq).heap.size := Nat.le_of_eq zA.symm
  clear sA BA gA zA k0 k1 g0 g1
  generalize (w.alloc (.cells #[.bool f, .slice a' n' ca', .slice b' m' cb', .slice none 0 0] 129)).drewN nq = w1 at *
  have n1 : w1.heap.size ≠ c := by omega
  have n2 : w1.heap.size ≠ w.heap.size := by omega
  have n3 : w1.heap.size + 1 ≠ c := by omega
  have n4 : w1.heap.size + 1 ≠ w.heap.size := by omega
  have kk := And.intro B1.c1 G1.c1
  have tZ : (w1.drew.alloc (.cells #[.slice none 0 0] 115)).Since (w1.drew.alloc (.cells #[.slice none 0 0] 115)).heap.size ((w1.drew.alloc (.cells #[.slice none 0 0] 115)).alloc (.cells #[.slice none 0 0] 115)) := (World.Since.refl _ _).alloc (Nat.le_refl _) _
  have a1 : ((w1.drew.alloc (.cells #[.slice none 0 0] 115)).alloc (.cells #[.slice none 0 0] 115)).cell? ⟨w1.heap.size, 0, none⟩ = some (.slice none 0 0) := by rw [tZ.cell (a := ⟨w1.heap.size, 0, none⟩) (by show w1.drew.heap.size < _; simp)]; exact World.cell?_alloc_new w1.drew _ _ 0
  clear tZ
  go_region_held3 (fun w' => w'.cell? ⟨c, 1, none⟩ = some (.slice a n ca) ∧ w'.cell? ⟨w.heap.size, 1, none⟩ = some (.slice a' n' ca')) (go_keep) (fail)
  all_goals
    first
    | (with_reducible show Exit.then _ _ Exit.normal _ ((w1.alloc (.cells #[.slice a n ca] 115)).alloc (.cells #[.slice a' n' ca'] 115)).drew
       have tV : w1.Since w1.heap.size (w1.alloc (.cells #[.slice a n ca] 115)) := (World.Since.refl _ _).alloc (Nat.le_refl _) _
       have tW : (w1.alloc (.cells #[.slice a n ca] 115)).Since (w1.alloc (.cells #[.slice a n ca] 115)).heap.size ((w1.alloc (.cells #[.slice a n ca] 115)).alloc (.cells #[.slice a' n' ca'] 115)) := (World.Since.refl _ _).alloc (Nat.le_refl _) _
       have tt : w1.Since w1.heap.size ((w1.alloc (.cells #[.slice a n ca] 115)).alloc (.cells #[.slice a' n' ca'] 115)).drew := since_drew (tV.trans (sinceMono tW tV.size))
       have zV : (w1.alloc (.cells #[.slice a n ca] 115)).heap.size = w1.heap.size + 1 := by simp
       have zW : ((w1.alloc (.cells #[.slice a n ca] 115)).alloc (.cells #[.slice a' n' ca'] 115)).drew.heap.size = w1.heap.size + 2 := by show ((w1.alloc (.cells #[.slice a n ca] 115)).alloc (.cells #[.slice a' n' ca'] 115)).heap.size = _; simp
       have ql : ((w1.alloc (.cells #[.slice a n ca] 115)).alloc (.cells #[.slice a' n' ca'] 115)).drew.cell? ⟨w1.heap.size, 0, none⟩ = some (.slice a n ca) := (tW.cell (a := ⟨w1.heap.size, 0, none⟩) (by show w1.heap.size < _; omega)).trans (World.cell?_alloc_new w1 _ _ 0)
       have fl : ((w1.alloc (.cells #[.slice a n ca] 115)).alloc (.cells #[.slice a' n' ca'] 115)).drew.frozen? ⟨w1.heap.size, 0, none⟩ = false := (tW.frozen (a := ⟨w1.heap.size, 0, none⟩) (by show w1.heap.size < _; omega)).trans (by simp)
       have qr : ((w1.alloc (.cells #[.slice a n ca] 115)).alloc (.cells #[.slice a' n' ca'] 115)).drew.cell? ⟨w1.heap.size + 1, 0, none⟩ = some (.slice a' n' ca') := by have := World.cell?_alloc_new (w1.alloc (.cells #[.slice a n ca] 115)) #[.slice a' n' ca'] 115 0; rw [zV] at this; exact this
       have fr : ((w1.alloc (.cells #[.slice a n ca] 115)).alloc (.cells #[.slice a' n' ca'] 115)).drew.frozen? ⟨w1.heap.size + 1, 0, none⟩ = false := by have h9 : ((w1.alloc (.cells #[.slice a n ca] 115)).alloc (.cells #[.slice a' n' ca'] 115)).frozen? ⟨(w1.alloc (.cells #[.slice a n ca] 115)).heap.size, 0, none⟩ = false := (by simp); rw [zV] at h9; exact h9
       have S2 := S1.trans (sinceMono tt S1.size)
       have B2 := B1.keep tt
       have G2 := G1.keep tt
       obtain ⟨L, hL⟩ : ∃ L, L = w1.heap.size := ⟨_, rfl⟩
       obtain ⟨R, hR⟩ : ∃ R, R = w1.heap.size + 1 := ⟨_, rfl⟩
       have hLR : L ≠ R ∧ w.heap.size < L ∧ w.heap.size < R ∧ L < ((w1.alloc (.cells #[.slice a n ca] 115)).alloc (.cells #[.slice a' n' ca'] 115)).drew.heap.size ∧ R < ((w1.alloc (.cells #[.slice a n ca] 115)).alloc (.cells #[.slice a' n' ca'] 115)).drew.heap.size := by omega
       rw [← hR, ← hL]
       rw [← hL] at ql fl
       rw [← hR] at qr fr
       clear tV tW tt zV zW
       generalize ((w1.alloc (.cells #[.slice a n ca] 115)).alloc (.cells #[.slice a' n' ca'] 115)).drew = w2 at *)
    | (with_reducible show Exit.then _ _ Exit.normal _ ((w1.alloc (.cells #[.slice a' n' ca'] 115)).alloc (.cells #[.slice a n ca] 115)).drew
       have tV : w1.Since w1.heap.size (w1.alloc (.cells #[.slice a' n' ca'] 115)) := (World.Since.refl _ _).alloc (Nat.le_refl _) _
       have tW : (w1.alloc (.cells #[.slice a' n' ca'] 115)).Since (w1.alloc (.cells #[.slice a' n' ca'] 115)).heap.size ((w1.alloc (.cells #[.slice a' n' ca'] 115)).alloc (.cells #[.slice a n ca] 115)) := (World.Since.refl _ _).alloc (Nat.le_refl _) _
       have tt : w1.Since w1.heap.size ((w1.alloc (.cells #[.slice a' n' ca'] 115)).alloc (.cells #[.slice a n ca] 115)).drew := since_drew (tV.trans (sinceMono tW tV.size))
       have zV : (w1.alloc (.cells #[.slice a' n' ca'] 115)).heap.size = w1.heap.size + 1 := by simp
       have zW : ((w1.alloc (.cells #[.slice a' n' ca'] 115)).alloc (.cells #[.slice a n ca] 115)).drew.heap.size = w1.heap.size + 2 := by show ((w1.alloc (.cells #[.slice a' n' ca'] 115)).alloc (.cells #[.slice a n ca] 115)).heap.size = _; simp
       have qr : ((w1.alloc (.cells #[.slice a' n' ca'] 115)).alloc (.cells #[.slice a n ca] 115)).drew.cell? ⟨w1.heap.size, 0, none⟩ = some (.slice a' n' ca') := (tW.cell (a := ⟨w1.heap.size, 0, none⟩) (by show w1.heap.size < _; omega)).trans (World.cell?_alloc_new w1 _ _ 0)
       have fr : ((w1.alloc (.cells #[.slice a' n' ca'] 115)).alloc (.cells #[.slice a n ca] 115)).drew.frozen? ⟨w1.heap.size, 0, none⟩ = false := (tW.frozen (a := ⟨w1.heap.size, 0, none⟩) (by show w1.heap.size < _; omega)).trans (by simp)
       have ql : ((w1.alloc (.cells #[.slice a' n' ca'] 115)).alloc (.cells #[.slice a n ca] 115)).drew.cell? ⟨w1.heap.size + 1, 0, none⟩ = some (.slice a n ca) := by have := World.cell?_alloc_new (w1.alloc (.cells #[.slice a' n' ca'] 115)) #[.slice a n ca] 115 0; rw [zV] at this; exact this
       have fl : ((w1.alloc (.cells #[.slice a' n' ca'] 115)).alloc (.cells #[.slice a n ca] 115)).drew.frozen? ⟨w1.heap.size + 1, 0, none⟩ = false := by have h9 : ((w1.alloc (.cells #[.slice a' n' ca'] 115)).alloc (.cells #[.slice a n ca] 115)).frozen? ⟨(w1.alloc (.cells #[.slice a' n' ca'] 115)).heap.size, 0, none⟩ = false := (by simp); rw [zV] at h9; exact h9
       have S2 := S1.trans (sinceMono tt S1.size)
       have B2 := B1.keep tt
       have G2 := G1.keep tt
       obtain ⟨L, hL⟩ : ∃ L, L = w1.heap.size + 1 := ⟨_, rfl⟩
       obtain ⟨R, hR⟩ : ∃ R, R = w1.heap.size := ⟨_, rfl⟩
       have hLR : L ≠ R ∧ w.heap.size < L ∧ w.heap.size < R ∧ L < ((w1.alloc (.cells #[.slice a' n' ca'] 115)).alloc (.cells #[.slice a n ca] 115)).drew.heap.size ∧ R < ((w1.alloc (.cells #[.slice a' n' ca'] 115)).alloc (.cells #[.slice a n ca] 115)).drew.heap.size := by omega
       rw [← hL, ← hR]
       rw [← hL] at ql fl
       rw [← hR] at qr fr
       clear tV tW tt zV zW
       generalize ((w1.alloc (.cells #[.slice a' n' ca'] 115)).alloc (.cells #[.slice a n ca] 115)).drew = w2 at *)
  all_goals
    obtain ⟨hLR, hwL, hwR, hL2, hR2⟩ := hLR
    clear hL hR a1 n1 n2 n3 n4 kk zl S1 B1 G1
    have k2 := G2.c2
    go_wp2_with fail
    refine (mulAtR L a b' ba oa n ca bb' ob' m' cb' X Y' w2 (by omega) (by omega) (hX.keep S2) (hY'.keep S2) hXl hYl' ql fl).mono ?_
    rintro e w3 ⟨rfl, P, q3, f3, r3, hP, eP, O3, z3⟩
    have O03 : Oth w.heap.size w w3 := (Oth.ofSince _ S2).up O3 (by omega)
    have S3 : w.Since w.heap.size w3 := O03.since (Nat.le_refl _)
    have B3 := B2.oth O3 (by omega)
    have q4 : w3.cell? ⟨R, 0, none⟩ = some (.slice a' n' ca') := (O3.cell (a := ⟨R, 0, none⟩) hR2 (Ne.symm hLR)).trans qr
    have f4 : w3.frozen? ⟨R, 0, none⟩ = false := (O3.frozen (a := ⟨R, 0, none⟩) hR2 (Ne.symm hLR)).trans fr
    clear k2 G2 ql fl qr fr O03
    have k2 := B3.c2
    go_wp2_with fail
    refine (mulAtR R a' b ba' oa' n' ca' bb ob m cb X' Y w3 (by omega) (by omega) (hX'.keep S3) (hY.keep S3) hXl' hYl q4 f4).mono ?_
    rintro e w4 ⟨rfl, Q, q5, f5, r5, hQ, eQ, O4, z4⟩
    have hs3 := O3.size
    have O04 : Oth w.heap.size w w4 := (Oth.ofSince _ S3).up O4 (by omega)
    have S4 : w.Since w.heap.size w4 := O04.since (Nat.le_refl _)
    have B4 := B3.oth O4 (by omega)
    have q6 : w4.cell? ⟨L, 0, none⟩ = _ := (O4.cell (a := ⟨L, 0, none⟩) (show L < _ by omega) hLR).trans q3
    have r6 := row_oth r3 O4 (by omega)
    clear k2 B3 q3 f3 q4 f4 r3 O04 B2 O3 O4
    have k0 := B4.c0
    have tP := tlen_le (nz P) (n + m')
    have tQ := tlen_le (nz Q) (n' + m)
    have LP := (limbs_row r6).take tP
    have LQ := (limbs_row r5).take tQ
    have JA := compare_any R 0 (some ⟨w3.heap.size, 0, none⟩) (some ⟨w2.heap.size, 0, none⟩) w3.heap.size 0 (tlen (nz Q) (n' + m)) (n' + m) w2.heap.size 0 (tlen (nz P) (n + m')) (n + m') Q P w4 (by omega) (by omega) q5 LQ LP (fun j _ => hQ j) (fun j _ => hP j) top_row top_row
    have JB := compare_any L 0 (some ⟨w2.heap.size, 0, none⟩) (some ⟨w3.heap.size, 0, none⟩) w2.heap.size 0 (tlen (nz P) (n + m')) (n + m') w3.heap.size 0 (tlen (nz Q) (n' + m)) (n' + m) P Q w4 (by omega) (by omega) q6 LP LQ (fun j _ => hP j) (fun j _ => hQ j) top_row top_row
    rw [lv_tlen, lv_tlen, eP, eQ] at JA JB
    clear r5 r6 LP LQ hP hQ eP eQ tP tQ
    cases f
    · go_wp2_with fail
      refine JB.mono ?_
      rintro e w5 ⟨rfl, s5⟩
      go_wp2
      go_ret
      exact ⟨rfl, S4.trans (sinceMono (s5.since w4.heap.size) S4.size)⟩
    · go_wp2_with fail
      refine JA.mono ?_
      rintro e w5 ⟨rfl, s5⟩
      go_wp2
      go_ret
      exact ⟨rfl, S4.trans (sinceMono (s5.since w4.heap.size) S4.size)⟩

end Go.Proofs.YthaomfabdghfjaaGreat
