import Derived.Test.YthaomfabdghfjaaGreatG1P12
import Derived.Test.YthaomfabdghfjaaGreatOwnP1
import Derived.Deep.RegionHeld3
import Derived.Test.YthaomfabdghfjaaGreatG1P3
namespace Go.Proofs.YthaomfabdghfjaaGreat
open Go.RowKit

/-- A list of limbs is plain: no zero limb at its end. -/
def plainB (X : Nat → Nat) (n : Nat) : Bool := n == 0 || X (n - 1) != 0

theorem plainB_iff {X : Nat → Nat} {n : Nat} : plainB X n = true ↔ (0 < n → X (n - 1) ≠ 0) := by
  unfold plainB
  rcases Nat.eq_zero_or_pos n with h | h
  · simp [h]
  · have : n ≠ 0 := by omega
    simp [this, h]

set_option maxHeartbeats 800000 in
set_option maxRecDepth 100000 in
theorem l1Plain_any (a : Option Addr) (b off n cap : Nat) (X : Nat → Nat) (w : World) (hn : n ≤ 16777216) (hX : Limbs w a b off n X) :
    Calls Tryz.prog 100 #[.slice a n cap] w fun e w' => e = .returned (.bool (plainB X n)) ∧ w' = w := by
  by_cases h0 : n = 0
  · subst h0
    go_enter Tryz.func100, Tryz.ntmps100
    go_wp2
    go_ret
    exact ⟨rfl, rfl⟩
  · obtain ⟨k, rfl⟩ : ∃ k, n = k + 1 := ⟨n - 1, by omega⟩
    obtain ⟨rfl, hc⟩ := hX k (by omega)
    have hp : Ending.returned (.bool ((k : Int) + 1 == 0 || (X k : Int) != 0)) = .returned (.bool (plainB X (k + 1))) := by
      have h : ((k : Int) + 1 == 0 || (X k : Int) != 0) = plainB X (k + 1) := by
        rw [Bool.eq_iff_iff]; simp [plainB]; omega
      rw [h]
    have hp := hide hp
    go_enter Tryz.func100, Tryz.ntmps100
    go_wp2
    go_ret
    exact ⟨hp.out, rfl⟩

set_option maxHeartbeats 800000 in
set_option maxRecDepth 100000 in
theorem isPlain_any (a : Option Addr) (b off n cap : Nat) (X : Nat → Nat) (w : World) (hn : n ≤ 16777216) (hX : Limbs w a b off n X) :
    Calls Tryz.prog 114 #[.slice a n cap] w fun e w' => e = .returned (.bool (plainB X n)) ∧ w' = w := by
  by_cases h0 : n = 0
  · subst h0
    go_enter Tryz.func114, Tryz.ntmps114
    go_wp2
    go_ret
    exact ⟨rfl, rfl⟩
  · obtain ⟨k, rfl⟩ : ∃ k, n = k + 1 := ⟨n - 1, by omega⟩
    obtain ⟨rfl, hc⟩ := hX k (by omega)
    have hp : Ending.returned (.bool ((k : Int) + 1 == 0 || (X k : Int) != 0)) = .returned (.bool (plainB X (k + 1))) := by
      have h : ((k : Int) + 1 == 0 || (X k : Int) != 0) = plainB X (k + 1) := by
        rw [Bool.eq_iff_iff]; simp [plainB]; omega
      rw [h]
    have hp := hide hp
    go_enter Tryz.func114, Tryz.ntmps114
    go_wp2
    go_ret
    exact ⟨hp.out, rfl⟩

set_option maxHeartbeats 800000 in
set_option maxRecDepth 100000 in
/-- l1Small on a list of at most one limb. -/
theorem l1Small_any (a : Option Addr) (b off n cap : Nat) (X : Nat → Nat) (w : World) (hn : n ≤ 1) (hX : Limbs w a b off n X) (hXl : ∀ j, j < n → X j < 4294967296) :
    Calls Tryz.prog 103 #[.slice a n cap] w fun e w' => e = .returned (.int .u64 (lv X n : Nat)) ∧ w' = w := by
  by_cases h0 : n = 0
  · subst h0
    go_enter Tryz.func103, Tryz.ntmps103
    go_wp2
    go_ret
    exact ⟨rfl, rfl⟩
  · have e : n = 1 := by omega
    subst e
    obtain ⟨rfl, hc⟩ := hX 0 (by omega)
    have hl := hXl 0 (by omega)
    rw [Nat.add_zero] at hc
    have he : lv X 1 = X 0 := by simp [lv]
    rw [he]
    clear he hXl
    go_enter Tryz.func103, Tryz.ntmps103
    go_wp2
    go_ret
    exact ⟨rfl, rfl⟩

set_option maxHeartbeats 800000 in
set_option maxRecDepth 100000 in
theorem l1GcdSmall_any (x y : Nat) (w : World) (hx : x < 18446744073709551616) (hy : y < 18446744073709551616) :
    Calls Tryz.prog 102 #[.int .u64 x, .int .u64 y] w fun e w' => e = .returned (.int .u64 (Nat.gcd x y)) ∧ w' = w := by
  go_enter Tryz.func102, Tryz.ntmps102
  go_wp2
  go_loopw [0, 1] (fun p q wr => ∃ s t : Nat, p = .int .u64 s ∧ q = .int .u64 t ∧ s < 18446744073709551616 ∧ t < 18446744073709551616 ∧ Hid (Nat.gcd s t = Nat.gcd x y) ∧ wr = w) (fun _ q _ => (intOf q).toNat)
  case atStart => exact ⟨x, y, rfl, rfl, hx, hy, rfl, rfl⟩
  case round =>
    obtain ⟨s, t, rfl, rfl, hs, ht, HG, rfl⟩ := hrel
    by_cases h0 : t = 0
    · subst h0
      go_wp2
      go_ret
      exact ⟨ret_int (congrArg (fun x : Nat => (x : Int)) (by have := HG.out; rwa [Nat.gcd_zero_right] at this)), rfl⟩
    · have hne : ((t : Int) == 0) = false := by simp; omega
      have hne2 : ¬ (t : Int) = 0 := by omega
      obtain ⟨r, hr⟩ : ∃ r, r = s % t := ⟨_, rfl⟩
      have hrl : r < t := by rw [hr]; exact Nat.mod_lt _ (by omega)
      have w1 : IntKind.u64.wrap ((s : Int) % (t : Int)) = (r : Int) := by rw [← Int.natCast_emod, ← hr]; exact wrap_u64_id r (by omega)
      have HR := hide hr
      clear hr h0
      go_wp2
      go_roundw
      case rel =>
        refine ⟨t, r, rfl, ?_, ht, by omega, ?_, by trivial⟩
        · first | rfl | exact congrArg (Value.int .u64) (by rw [HR.out, Int.natCast_emod])
        · have h := HG.out
          rw [Nat.gcd_comm, Nat.gcd_rec, ← HR.out, Nat.gcd_comm] at h
          exact h
      case measure => simp [intOf]; have := Int.emod_lt_of_pos (s : Int) (show (0 : Int) < (t : Int) by omega); omega

end Go.Proofs.YthaomfabdghfjaaGreat

namespace Go.Proofs.YthaomfabdghfjaaGreat
open Go.RowKit

/-- What RatOk says of a Rat. -/
def ratOkB (neg : Bool) (X : Nat → Nat) (n : Nat) (Y : Nat → Nat) (m : Nat) : Bool :=
  plainB X n && plainB Y m && m != 0 && !(neg && n == 0) && Nat.gcd (lv X n) (lv Y m) == 1

set_option maxHeartbeats 1600000 in
set_option maxRecDepth 100000 in
theorem implRatOk_any (neg : Bool) (a b : Option Addr) (ba oa n ca bb ob m cb : Nat) (X Y : Nat → Nat) (w : World) (_hw : 0 ≤ w.heap.size) (hn : n ≤ 16777216) (hm : m ≤ 16777216) (hnc : n ≤ ca) (hmc : m ≤ cb) (hac : a = none → ca = 0) (hbc : b = none → cb = 0)
    (hX : Limbs w a ba oa n X) (hY : Limbs w b bb ob m Y) (hXl : ∀ j, j < n → X j < 4294967296) (hYl : ∀ j, j < m → Y j < 4294967296) (_hT : Tab w) :
    Calls Tryz.prog 71 #[.agg #[.bool neg, .slice a n ca, .slice b m cb]] w fun e w' => e = .returned (.bool (ratOkB neg X n Y m)) ∧ w.Since w.heap.size w' := by
  have sA : w.Since w.heap.size (w.alloc (.cells #[.bool neg, .slice a n ca, .slice b m cb] 70)) := (World.Since.refl _ _).alloc (Nat.le_refl _) _
  have I1 := isPlain_any a ba oa n ca X _ hn (hX.keep sA)
  have I2 := isPlain_any b bb ob m cb Y _ hm (hY.keep sA)
  by_cases h1 : plainB X n = false
  · have HR := hide (show false = ratOkB neg X n Y m by simp [ratOkB, h1])
    rw [h1] at I1
    clear h1
    go_enter Tryz.func71, Tryz.ntmps71
    go_wp2_with fail
    refine I1.mono ?_
    rintro e w1 ⟨rfl, rfl⟩
    go_wp2
    go_ret
    exact ⟨ret_bool HR.out, sA⟩
  have h1 : plainB X n = true := by simpa using h1
  rw [h1] at I1
  by_cases h2 : plainB Y m = false
  · have HR := hide (show false = ratOkB neg X n Y m by simp [ratOkB, h2])
    rw [h2] at I2
    clear h1 h2
    go_enter Tryz.func71, Tryz.ntmps71
    go_wp2_with fail
    refine I1.mono ?_
    rintro e w1 ⟨rfl, rfl⟩
    go_wp2_with fail
    refine I2.mono ?_
    rintro e w1 ⟨rfl, rfl⟩
    go_wp2
    go_ret
    exact ⟨ret_bool HR.out, sA⟩
  have h2 : plainB Y m = true := by simpa using h2
  rw [h2] at I2
  have pX := hide (plainB_iff.1 h1)
  have pY := hide (plainB_iff.1 h2)
  by_cases h3 : m = 0
  · have HR := hide (show false = ratOkB neg X n Y m by simp [ratOkB, h3])
    clear h1 h2
    subst h3
    go_enter Tryz.func71, Tryz.ntmps71
    go_wp2_with fail
    refine I1.mono ?_
    rintro e w1 ⟨rfl, rfl⟩
    go_wp2_with fail
    refine I2.mono ?_
    rintro e w1 ⟨rfl, rfl⟩
    go_wp2
    go_ret
    exact ⟨ret_bool HR.out, sA⟩
  have q3 : ((m : Int) == 0) = false := by simp; omega
  by_cases h4 : neg = true ∧ n = 0
  · obtain ⟨rfl, rfl⟩ := h4
    have HR := hide (show false = ratOkB true X 0 Y m by simp [ratOkB])
    clear h1 h2
    go_enter Tryz.func71, Tryz.ntmps71
    go_wp2_with fail
    refine I1.mono ?_
    rintro e w1 ⟨rfl, rfl⟩
    go_wp2_with fail
    refine I2.mono ?_
    rintro e w1 ⟨rfl, rfl⟩
    go_wp2
    go_ret
    exact ⟨ret_bool HR.out, sA⟩
  have HR := hide (show (decide (Nat.gcd (lv X n) (lv Y m) = 1)) = ratOkB neg X n Y m by
    have e3 : (m != 0) = true := by simp [h3]
    have e4 : (neg && n == 0) = false := by cases neg <;> simp at h4 ⊢; exact h4
    rw [Bool.eq_iff_iff]
    simp [ratOkB, h1, h2, e3, e4])
  have q4 : (neg && (n : Int) == 0) = false := by
    cases neg
    · rfl
    · simp at h4 ⊢; omega
  have tA : Tab (w.alloc (.cells #[.bool neg, .slice a n ca, .slice b m cb] 70)) := trivial
  have I3 := gcdOf_any a b ba oa n ca bb ob m cb X Y _ (Nat.zero_le _) hn hm hnc hmc hac hbc (hX.keep sA) (hY.keep sA) hXl hYl pX.out pY.out tA
  clear h1 h2 h4 tA
  go_enter Tryz.func71, Tryz.ntmps71
  go_wp2_with fail
  refine I1.mono ?_
  rintro e w1 ⟨rfl, rfl⟩
  go_wp2_with fail
  refine I2.mono ?_
  rintro e w1 ⟨rfl, rfl⟩
  cases neg
  · clear q4
    go_wp2_with fail
    refine I3.mono ?_
    rintro e w3 ⟨v, g, rfl, ⟨a3, k, c3, Z, rfl, k1, k2, k3, L, F, l, p, e3⟩, hg, s3⟩
    have E := hide e3
    clear e3 I1 I2 I3
    go_wp2_with fail
    refine (isOne_any w3.heap.size 0 a3 g 0 k c3 Z _ (by simp [go_sem]) (L.keep ((World.Since.refl _ _).alloc (Nat.le_refl _) _)) l p).mono ?_
    rintro e w4 ⟨rfl, rfl⟩
    clear l p
    go_wp2
    go_ret
    exact ⟨ret_bool (by rw [E.out]; exact HR.out), (sA.trans (sinceMono s3 (by simp))).alloc (Nat.le_trans (by simp) s3.size) _⟩
  · have q5 : ((n : Int) == 0) = false := by simpa using q4
    clear q4
    go_wp2_with fail
    refine I3.mono ?_
    rintro e w3 ⟨v, g, rfl, ⟨a3, k, c3, Z, rfl, k1, k2, k3, L, F, l, p, e3⟩, hg, s3⟩
    have E := hide e3
    clear e3 I1 I2 I3
    go_wp2_with fail
    refine (isOne_any w3.heap.size 0 a3 g 0 k c3 Z _ (by simp [go_sem]) (L.keep ((World.Since.refl _ _).alloc (Nat.le_refl _) _)) l p).mono ?_
    rintro e w4 ⟨rfl, rfl⟩
    clear l p
    go_wp2
    go_ret
    exact ⟨ret_bool (by rw [E.out]; exact HR.out), (sA.trans (sinceMono s3 (by simp))).alloc (Nat.le_trans (by simp) s3.size) _⟩

end Go.Proofs.YthaomfabdghfjaaGreat

namespace Go.Proofs.YthaomfabdghfjaaGreat
open Go.RowKit

/-- The bits of a machine number. -/
def nb (v j : Nat) : Bool := v / 2 ^ j % 2 == 1

theorem bv_nb (v k : Nat) : bv (nb v) k = v % 2 ^ k := by
  induction k with
  | zero => simp [bv, Nat.mod_one]
  | succ k ih =>
    have h : bv (nb v) (k + 1) = bv (nb v) k + (nb v k).toNat * 2 ^ k := rfl
    rw [h, ih]
    unfold nb
    rw [toNat_beq, Nat.pow_succ, Nat.mod_mul, Nat.mul_comm (2 ^ k)]

set_option maxHeartbeats 1600000 in
set_option maxRecDepth 100000 in
theorem l1BitsOf_any (v : Nat) (w : World) (hv : v < 18446744073709551616) :
    Calls Tryz.prog 107 #[.int .u64 v] w fun e w' => ∃ x t B, e = .returned x ∧ t ≤ 64 ∧ Tr w' x t B ∧ bv B t = v ∧ w.Since w.heap.size w' := by
  obtain ⟨i0, hi, hz0, hz1, hz2⟩ := info_parts Tryz.info4
  go_enter Tryz.func107, Tryz.ntmps107
  go_wp2
  go_loopw [0, 3] (fun p o wr => ∃ k q : Nat, k ≤ 64 ∧ p = .int .u64 q ∧ q < 18446744073709551616 ∧ Hid (q = v / 2 ^ k) ∧ Hid (0 < k → 0 < v / 2 ^ (k - 1)) ∧ wr.ownsRow w.heap.size 4 1 o k (bl (nb v) k) ∧ w.Since w.heap.size wr) (fun p _ _ => (intOf p).toNat)
  case atStart => exact ⟨0, v, by omega, rfl, hv, hide (by simp), hide (fun h => absurd h (by omega)), World.ownsRow_made w #[] 0 (Nat.le_refl _) (by decide) rfl, (World.Since.refl _ _).alloc (Nat.le_refl _) _⟩
  case round =>
    obtain ⟨k, q, hk, rfl, hq, HQ, HP, hown, hs⟩ := hrel
    by_cases h0 : q = 0
    · subst h0
      obtain ⟨a', g, cap', rfl, hmc, hg, hB⟩ := own_bits hown
      go_wp2
      go_ret
      have hlt : v < 2 ^ k := by
        have := HQ.out
        have h2 : 0 < 2 ^ k := Nat.pow_pos (by omega)
        rcases Nat.lt_or_ge v (2 ^ k) with h | h
        · exact h
        · have := Nat.div_pos h h2; omega
      refine ⟨_, k, nb v, rfl, hk, ⟨a', g, 0, cap', rfl, hmc, hB, fun h => ?_⟩, (bv_nb v k).trans (Nat.mod_eq_of_lt hlt), hs⟩
      have h1 := HP.out h
      obtain ⟨j, rfl⟩ : ∃ j, k = j + 1 := ⟨k - 1, by omega⟩
      have h2 : v / 2 ^ j < 2 := by rw [Nat.div_lt_iff_lt_mul (Nat.pow_pos (by omega))]; rw [Nat.pow_succ] at hlt; omega
      simp only [Nat.add_sub_cancel] at h1 ⊢
      unfold nb
      rw [show v / 2 ^ j = 1 by omega]
      rfl
    · have hk2 : k < 64 := by
        rcases Nat.lt_or_ge k 64 with h | h
        · exact h
        · have e : k = 64 := by omega
          subst e
          have := HQ.out
          rw [Nat.div_eq_of_lt hv] at this
          omega
      have hne : 0 < q := by omega
      have hbit : ((q : Int) % 2 == 1) = nb v k := by
        rw [Bool.eq_iff_iff]
        simp only [nb, beq_iff_eq, ← HQ.out]
        omega
      have HB := hide hbit
      clear hbit h0
      go_wp2_with (at_builtin; refine wpList_append_own _ rfl _ _ 156 rfl w.heap.size 4 i0 (.bool false) 1 1 Tryz.underlying156 hi hz0 hz1 hz2 rfl (by decide) _ _ _ rfl (hown.alloc _) ⟨wr.heap.size, 0, none⟩ 1 1 [.bool ((q : Int) % 2 == 1)] rfl rfl (new_cell _ _ _) (one_one _ rfl) (by unfold maxLen; omega) (by omega) (by have := hs.size; simp; omega) ?_)
      intro v' w1 hown' hgrow _
      have hs1 : w.Since w.heap.size w1 := (hs.alloc hs.size _).grown hgrow (by have := hs.size; simp; omega) (fun k hk => (hown.lt k hk).1)
      rw [HB.out, ← bl_succ] at hown'
      clear hgrow hown hs
      go_wp2
      go_roundw
      case rel => exact ⟨k + 1, q / 2, by omega, by go_num, by omega, hide (by rw [HQ.out, Nat.div_div_eq_div_mul, Nat.pow_succ]), hide (fun _ => by rw [Nat.add_sub_cancel, ← HQ.out]; exact hne), hown', hs1⟩
      case measure => simp [intOf]; omega

/-- What l1IsSmall says. -/
def smallB (X : Nat → Nat) (n : Nat) (Y : Nat → Nat) (m : Nat) : Bool := decide (n ≤ 1 ∧ m ≤ 1 ∧ lv X n < 2147483648 ∧ lv Y m < 2147483648)

theorem smallB_iff {X Y : Nat → Nat} {n m : Nat} : smallB X n Y m = true ↔ n ≤ 1 ∧ m ≤ 1 ∧ lv X n < 2147483648 ∧ lv Y m < 2147483648 := by unfold smallB; exact decide_eq_true_iff

theorem smallB_not {X Y : Nat → Nat} {n m : Nat} (h : ¬ (n ≤ 1 ∧ m ≤ 1 ∧ lv X n < 2147483648 ∧ lv Y m < 2147483648)) : false = smallB X n Y m := by
  cases e : smallB X n Y m
  · rfl
  · exact absurd (smallB_iff.1 e) h

set_option maxHeartbeats 1600000 in
set_option maxRecDepth 100000 in
theorem l1IsSmall_any (neg : Bool) (a b : Option Addr) (ba oa n ca bb ob m cb : Nat) (X Y : Nat → Nat) (w : World) (hn : n ≤ 16777216) (hm : m ≤ 16777216)
    (hX : Limbs w a ba oa n X) (hY : Limbs w b bb ob m Y) (hXl : ∀ j, j < n → X j < 4294967296) (hYl : ∀ j, j < m → Y j < 4294967296) :
    Calls Tryz.prog 101 #[.agg #[.bool neg, .slice a n ca, .slice b m cb]] w fun e w' => e = .returned (.bool (smallB X n Y m)) ∧ w.Since w.heap.size w' := by
  have sA : w.Since w.heap.size (w.alloc (.cells #[.bool neg, .slice a n ca, .slice b m cb] 70)) := (World.Since.refl _ _).alloc (Nat.le_refl _) _
  by_cases h1 : 1 < n
  · have HR := hide (smallB_not (X := X) (Y := Y) (n := n) (m := m) (by omega))
    go_enter Tryz.func101, Tryz.ntmps101
    go_wp2
    go_ret
    exact ⟨ret_bool HR.out, sA⟩
  by_cases h2 : 1 < m
  · have HR := hide (smallB_not (X := X) (Y := Y) (n := n) (m := m) (by omega))
    go_enter Tryz.func101, Tryz.ntmps101
    go_wp2
    go_ret
    exact ⟨ret_bool HR.out, sA⟩
  have I1 := l1Small_any a ba oa n ca X _ (by omega) (hX.keep sA) hXl
  have I2 := l1Small_any b bb ob m cb Y _ (by omega) (hY.keep sA) hYl
  have h1 : n ≤ 1 := by omega
  have h2 : m ≤ 1 := by omega
  obtain ⟨x, hx⟩ : ∃ x : Int, x = ((lv X n : Nat) : Int) := ⟨_, rfl⟩
  obtain ⟨y, hy⟩ : ∃ y : Int, y = ((lv Y m : Nat) : Int) := ⟨_, rfl⟩
  rw [← hx] at I1
  rw [← hy] at I2
  have HR : Hid ((decide (x < 2147483648) && decide (y < 2147483648)) = smallB X n Y m) := by
    show _ = _
    rw [Bool.eq_iff_iff, Bool.and_eq_true, decide_eq_true_iff, decide_eq_true_iff, smallB_iff]
    omega
  clear hX hY hXl hYl hx hy
  by_cases h3 : x < 2147483648
  · have HR : Hid (decide (y < 2147483648) = smallB X n Y m) := by rw [← HR.out]; simp [Hid, h3]
    go_enter Tryz.func101, Tryz.ntmps101
    go_wp2_with fail
    refine I1.mono ?_
    rintro e w1 ⟨rfl, rfl⟩
    go_wp2_with fail
    refine I2.mono ?_
    rintro e w1 ⟨rfl, rfl⟩
    go_wp2
    go_ret
    exact ⟨ret_bool HR.out, sA⟩
  · have HR : Hid (false = smallB X n Y m) := by rw [← HR.out]; simp [Hid, h3]
    go_enter Tryz.func101, Tryz.ntmps101
    go_wp2_with fail
    refine I1.mono ?_
    rintro e w1 ⟨rfl, rfl⟩
    go_wp2
    go_ret
    exact ⟨ret_bool HR.out, sA⟩

end Go.Proofs.YthaomfabdghfjaaGreat

namespace Go.Proofs.YthaomfabdghfjaaGreat
open Go.RowKit

theorem box3 (w : World) (x y z : Value) (t : TypeId) : (w.alloc (.cells #[x, y, z] t)).cell? ⟨w.heap.size, 0, none⟩ = some x ∧ (w.alloc (.cells #[x, y, z] t)).cell? ⟨w.heap.size, 1, none⟩ = some y ∧ (w.alloc (.cells #[x, y, z] t)).cell? ⟨w.heap.size, 2, none⟩ = some z := by
  simp [go_sem]

theorem cmpN_one (x : Nat) : (cmpN x 1 == 0) = decide (x = 1) := by
  rw [Bool.eq_iff_iff]
  simp only [beq_iff_eq, decide_eq_true_eq]
  constructor
  · intro h
    rcases Nat.lt_trichotomy x 1 with h1 | h1 | h1
    · rw [cmpN_lt h1] at h; cases h
    · exact h1
    · rw [cmpN_gt h1] at h; cases h
  · intro h; exact cmpN_eq h

set_option maxHeartbeats 1600000 in
set_option maxRecDepth 100000 in
theorem specRatOk_small_z (neg : Bool) (a b : Option Addr) (ba oa n ca bb ob m cb : Nat) (X Y : Nat → Nat) (w : World) (hn : n ≤ 16777216) (hm : m ≤ 16777216)
    (hX : Limbs w a ba oa n X) (hY : Limbs w b bb ob m Y) (hXl : ∀ j, j < n → X j < 4294967296) (hYl : ∀ j, j < m → Y j < 4294967296) (h1 : plainB X n = true) (h2 : plainB Y m = true) (h3 : ¬ m = 0) (h4 : ¬ (n = 0 ∧ neg = true)) (hs : smallB X n Y m = true) (h5 : n = 0) :
    Calls Tryz.prog 65 #[.agg #[.bool neg, .slice a n ca, .slice b m cb]] w fun e w' => e = .returned (.bool (ratOkB neg X n Y m)) ∧ w.Since w.heap.size w' := by
  have sA : w.Since w.heap.size (w.alloc (.cells #[.bool neg, .slice a n ca, .slice b m cb] 70)) := (World.Since.refl _ _).alloc (Nat.le_refl _) _
  have I1 := l1Plain_any a ba oa n ca X _ hn (hX.keep sA)
  have I2 := l1Plain_any b bb ob m cb Y _ hm (hY.keep sA)
  rw [h1] at I1
  rw [h2] at I2
  have q3 : ((m : Int) == 0) = false := by simp; omega
  have HR := hide (show (decide (Nat.gcd (lv X n) (lv Y m) = 1)) = ratOkB neg X n Y m by
    have e3 : (m != 0) = true := by simp [h3]
    have e4 : (neg && n == 0) = false := by cases neg <;> simp at h4 ⊢; exact h4
    rw [Bool.eq_iff_iff]
    simp [ratOkB, h1, h2, e3, e4])
  obtain ⟨c0, c1, c2⟩ := box3 w (.bool neg) (.slice a n ca) (.slice b m cb) 70
  have I3 := l1IsSmall_any neg a b ba oa n ca bb ob m cb X Y _ hn hm (hX.keep sA) (hY.keep sA) hXl hYl
  have HN : Hid (n = 0 → neg = false) := fun h => by cases neg; rfl; exact absurd ⟨h, rfl⟩ h4
  clear h1 h2 h4
  have XA := hX.keep sA
  have YA := hY.keep sA
  obtain ⟨y1, y2, z3, z4⟩ := smallB_iff.1 hs
  have v1 : lv X n < 18446744073709551616 := by omega
  have v2 : lv Y m < 18446744073709551616 := by omega
  have V := hide (And.intro v1 v2)
  rw [hs] at I3
  clear hs z3 z4 v1 v2
  have h6 := HN.out h5
  subst h5 h6
  go_enter Tryz.func65, Tryz.ntmps65
  go_wp2_with fail
  refine I1.mono ?_
  rintro e w1 ⟨rfl, rfl⟩
  go_wp2_with fail
  refine I2.mono ?_
  rintro e w1 ⟨rfl, rfl⟩
  clear I1 I2
  generalize w.alloc (.cells #[.bool false, .slice a 0 ca, .slice b m cb] 70) = wA at *
  go_wp2_with fail
  refine I3.mono ?_
  rintro e w1 ⟨rfl, s1⟩
  clear I3
  have zA : w.heap.size < wA.heap.size := World.block_lt_of_cell? _ _ c0
  have d1 : w1.cell? ⟨w.heap.size, 1, none⟩ = some (.slice a 0 ca) := (s1.cell (a := ⟨w.heap.size, 1, none⟩) zA).trans c1
  have d2 : w1.cell? ⟨w.heap.size, 2, none⟩ = some (.slice b m cb) := (s1.cell (a := ⟨w.heap.size, 2, none⟩) zA).trans c2
  have S1 : w.Since w.heap.size w1.drew := by have h := sA.trans (sinceMono s1 sA.size); exact ⟨h.os, h.tape, h.output, h.size, h.block⟩
  have z1 : w.heap.size < w1.drew.heap.size := Nat.lt_of_lt_of_le zA s1.size
  have X0 := XA.keep s1
  have Y0 := YA.keep s1
  have X1 : Limbs w1.drew a ba oa 0 X := X0
  have Y1 : Limbs w1.drew b bb ob m Y := Y0
  have XL := hide hXl
  have YL := hide hYl
  clear hXl hYl XA YA s1 c0 c1 c2 X0 Y0
  go_wp2
  have J1 := l1Small_any a ba oa 0 ca X w1.drew y1 X1 XL.out
  have J2 := l1Small_any b bb ob m cb Y w1.drew y2 Y1 YL.out
  have J3 := l1GcdSmall_any (lv X 0) (lv Y m) w1.drew V.out.1 V.out.2
  clear V XL YL X1 Y1
  obtain ⟨gg, hgg⟩ : ∃ gg, gg = Nat.gcd (lv X 0) (lv Y m) := ⟨_, rfl⟩
  obtain ⟨xx, hxx⟩ : ∃ xx, xx = lv X 0 := ⟨_, rfl⟩
  obtain ⟨yy, hyy⟩ : ∃ yy, yy = lv Y m := ⟨_, rfl⟩
  have HR : Hid (decide (gg = 1) = ratOkB false X 0 Y m) := by rw [hgg]; exact HR.out
  rw [← hgg, ← hxx, ← hyy] at J3
  rw [← hxx] at J1
  rw [← hyy] at J2
  clear hgg hxx hyy
  go_region_held3 (fun w' => w'.cell? ⟨w.heap.size, 1, none⟩ = some (.slice a 0 ca) ∧ w'.cell? ⟨w.heap.size, 2, none⟩ = some (.slice b m cb)) (go_keep)
    (first | (go_at_call 102; with_reducible refine J3.mono ?_; rintro e w' ⟨rfl, rfl⟩) | (go_at_call 103; first | (with_reducible refine J1.mono ?_; rintro e w' ⟨rfl, rfl⟩) | (with_reducible refine J2.mono ?_; rintro e w' ⟨rfl, rfl⟩)))
  all_goals go_wp2
  all_goals go_ret
  all_goals exact ⟨ret_bool (by rw [← HR.out, Bool.eq_iff_iff]; simp only [beq_iff_eq, decide_eq_true_eq]; omega), S1⟩

set_option maxHeartbeats 1600000 in
set_option maxRecDepth 100000 in
theorem specRatOk_small_n (neg : Bool) (a b : Option Addr) (ba oa n ca bb ob m cb : Nat) (X Y : Nat → Nat) (w : World) (hn : n ≤ 16777216) (hm : m ≤ 16777216)
    (hX : Limbs w a ba oa n X) (hY : Limbs w b bb ob m Y) (hXl : ∀ j, j < n → X j < 4294967296) (hYl : ∀ j, j < m → Y j < 4294967296) (h1 : plainB X n = true) (h2 : plainB Y m = true) (h3 : ¬ m = 0) (h4 : ¬ (n = 0 ∧ neg = true)) (hs : smallB X n Y m = true) (h5 : ¬ n = 0) :
    Calls Tryz.prog 65 #[.agg #[.bool neg, .slice a n ca, .slice b m cb]] w fun e w' => e = .returned (.bool (ratOkB neg X n Y m)) ∧ w.Since w.heap.size w' := by
  have sA : w.Since w.heap.size (w.alloc (.cells #[.bool neg, .slice a n ca, .slice b m cb] 70)) := (World.Since.refl _ _).alloc (Nat.le_refl _) _
  have I1 := l1Plain_any a ba oa n ca X _ hn (hX.keep sA)
  have I2 := l1Plain_any b bb ob m cb Y _ hm (hY.keep sA)
  rw [h1] at I1
  rw [h2] at I2
  have q3 : ((m : Int) == 0) = false := by simp; omega
  have HR := hide (show (decide (Nat.gcd (lv X n) (lv Y m) = 1)) = ratOkB neg X n Y m by
    have e3 : (m != 0) = true := by simp [h3]
    have e4 : (neg && n == 0) = false := by cases neg <;> simp at h4 ⊢; exact h4
    rw [Bool.eq_iff_iff]
    simp [ratOkB, h1, h2, e3, e4])
  obtain ⟨c0, c1, c2⟩ := box3 w (.bool neg) (.slice a n ca) (.slice b m cb) 70
  have I3 := l1IsSmall_any neg a b ba oa n ca bb ob m cb X Y _ hn hm (hX.keep sA) (hY.keep sA) hXl hYl
  have HN : Hid (n = 0 → neg = false) := fun h => by cases neg; rfl; exact absurd ⟨h, rfl⟩ h4
  clear h1 h2 h4
  have XA := hX.keep sA
  have YA := hY.keep sA
  obtain ⟨y1, y2, z3, z4⟩ := smallB_iff.1 hs
  have v1 : lv X n < 18446744073709551616 := by omega
  have v2 : lv Y m < 18446744073709551616 := by omega
  have V := hide (And.intro v1 v2)
  rw [hs] at I3
  clear hs z3 z4 v1 v2
  go_enter Tryz.func65, Tryz.ntmps65
  go_wp2_with fail
  refine I1.mono ?_
  rintro e w1 ⟨rfl, rfl⟩
  go_wp2_with fail
  refine I2.mono ?_
  rintro e w1 ⟨rfl, rfl⟩
  clear I1 I2
  generalize w.alloc (.cells #[.bool neg, .slice a n ca, .slice b m cb] 70) = wA at *
  have h6 : ((n : Int) == 0) = false := by simp; omega
  go_wp2_with fail
  refine I3.mono ?_
  rintro e w1 ⟨rfl, s1⟩
  clear I3
  have zA : w.heap.size < wA.heap.size := World.block_lt_of_cell? _ _ c0
  have d1 : w1.cell? ⟨w.heap.size, 1, none⟩ = some (.slice a n ca) := (s1.cell (a := ⟨w.heap.size, 1, none⟩) zA).trans c1
  have d2 : w1.cell? ⟨w.heap.size, 2, none⟩ = some (.slice b m cb) := (s1.cell (a := ⟨w.heap.size, 2, none⟩) zA).trans c2
  have S1 : w.Since w.heap.size w1.drew := by have h := sA.trans (sinceMono s1 sA.size); exact ⟨h.os, h.tape, h.output, h.size, h.block⟩
  have z1 : w.heap.size < w1.drew.heap.size := Nat.lt_of_lt_of_le zA s1.size
  have X0 := XA.keep s1
  have Y0 := YA.keep s1
  have X1 : Limbs w1.drew a ba oa n X := X0
  have Y1 : Limbs w1.drew b bb ob m Y := Y0
  have XL := hide hXl
  have YL := hide hYl
  clear hXl hYl XA YA s1 c0 c1 c2 X0 Y0
  go_wp2
  have J1 := l1Small_any a ba oa n ca X w1.drew y1 X1 XL.out
  have J2 := l1Small_any b bb ob m cb Y w1.drew y2 Y1 YL.out
  have J3 := l1GcdSmall_any (lv X n) (lv Y m) w1.drew V.out.1 V.out.2
  clear V XL YL X1 Y1
  obtain ⟨gg, hgg⟩ : ∃ gg, gg = Nat.gcd (lv X n) (lv Y m) := ⟨_, rfl⟩
  obtain ⟨xx, hxx⟩ : ∃ xx, xx = lv X n := ⟨_, rfl⟩
  obtain ⟨yy, hyy⟩ : ∃ yy, yy = lv Y m := ⟨_, rfl⟩
  have HR : Hid (decide (gg = 1) = ratOkB neg X n Y m) := by rw [hgg]; exact HR.out
  rw [← hgg, ← hxx, ← hyy] at J3
  rw [← hxx] at J1
  rw [← hyy] at J2
  clear hgg hxx hyy
  go_region_held3 (fun w' => w'.cell? ⟨w.heap.size, 1, none⟩ = some (.slice a n ca) ∧ w'.cell? ⟨w.heap.size, 2, none⟩ = some (.slice b m cb)) (go_keep)
    (first | (go_at_call 102; with_reducible refine J3.mono ?_; rintro e w' ⟨rfl, rfl⟩) | (go_at_call 103; first | (with_reducible refine J1.mono ?_; rintro e w' ⟨rfl, rfl⟩) | (with_reducible refine J2.mono ?_; rintro e w' ⟨rfl, rfl⟩)))
  all_goals go_wp2
  all_goals go_ret
  all_goals exact ⟨ret_bool (by rw [← HR.out, Bool.eq_iff_iff]; simp only [beq_iff_eq, decide_eq_true_eq]; omega), S1⟩

set_option maxHeartbeats 1600000 in
set_option maxRecDepth 100000 in
theorem specRatOk_big_z (neg : Bool) (a b : Option Addr) (ba oa n ca bb ob m cb : Nat) (X Y : Nat → Nat) (w : World) (hn : n ≤ 16777216) (hm : m ≤ 16777216)
    (hX : Limbs w a ba oa n X) (hY : Limbs w b bb ob m Y) (hXl : ∀ j, j < n → X j < 4294967296) (hYl : ∀ j, j < m → Y j < 4294967296) (h1 : plainB X n = true) (h2 : plainB Y m = true) (h3 : ¬ m = 0) (h4 : ¬ (n = 0 ∧ neg = true)) (hs : ¬ smallB X n Y m = true) (h5 : n = 0) :
    Calls Tryz.prog 65 #[.agg #[.bool neg, .slice a n ca, .slice b m cb]] w fun e w' => e = .returned (.bool (ratOkB neg X n Y m)) ∧ w.Since w.heap.size w' := by
  have sA : w.Since w.heap.size (w.alloc (.cells #[.bool neg, .slice a n ca, .slice b m cb] 70)) := (World.Since.refl _ _).alloc (Nat.le_refl _) _
  have I1 := l1Plain_any a ba oa n ca X _ hn (hX.keep sA)
  have I2 := l1Plain_any b bb ob m cb Y _ hm (hY.keep sA)
  rw [h1] at I1
  rw [h2] at I2
  have q3 : ((m : Int) == 0) = false := by simp; omega
  have HR := hide (show (decide (Nat.gcd (lv X n) (lv Y m) = 1)) = ratOkB neg X n Y m by
    have e3 : (m != 0) = true := by simp [h3]
    have e4 : (neg && n == 0) = false := by cases neg <;> simp at h4 ⊢; exact h4
    rw [Bool.eq_iff_iff]
    simp [ratOkB, h1, h2, e3, e4])
  obtain ⟨c0, c1, c2⟩ := box3 w (.bool neg) (.slice a n ca) (.slice b m cb) 70
  have I3 := l1IsSmall_any neg a b ba oa n ca bb ob m cb X Y _ hn hm (hX.keep sA) (hY.keep sA) hXl hYl
  have HN : Hid (n = 0 → neg = false) := fun h => by cases neg; rfl; exact absurd ⟨h, rfl⟩ h4
  clear h1 h2 h4
  have XA := hX.keep sA
  have YA := hY.keep sA
  rw [show smallB X n Y m = false by simpa using hs] at I3
  clear hs
  have h6 := HN.out h5
  subst h5 h6
  go_enter Tryz.func65, Tryz.ntmps65
  go_wp2_with fail
  refine I1.mono ?_
  rintro e w1 ⟨rfl, rfl⟩
  go_wp2_with fail
  refine I2.mono ?_
  rintro e w1 ⟨rfl, rfl⟩
  clear I1 I2
  generalize w.alloc (.cells #[.bool false, .slice a 0 ca, .slice b m cb] 70) = wA at *
  go_wp2_with fail
  refine I3.mono ?_
  rintro e w1 ⟨rfl, s1⟩
  clear I3
  have zA : w.heap.size < wA.heap.size := World.block_lt_of_cell? _ _ c0
  have d1 : w1.cell? ⟨w.heap.size, 1, none⟩ = some (.slice a 0 ca) := (s1.cell (a := ⟨w.heap.size, 1, none⟩) zA).trans c1
  have d2 : w1.cell? ⟨w.heap.size, 2, none⟩ = some (.slice b m cb) := (s1.cell (a := ⟨w.heap.size, 2, none⟩) zA).trans c2
  have S1 : w.Since w.heap.size w1.drew := by have h := sA.trans (sinceMono s1 sA.size); exact ⟨h.os, h.tape, h.output, h.size, h.block⟩
  have z1 : w.heap.size < w1.drew.heap.size := Nat.lt_of_lt_of_le zA s1.size
  have X0 := XA.keep s1
  have Y0 := YA.keep s1
  have X1 : Limbs w1.drew a ba oa 0 X := X0
  have Y1 : Limbs w1.drew b bb ob m Y := Y0
  have XL := hide hXl
  have YL := hide hYl
  clear hXl hYl XA YA s1 c0 c1 c2 X0 Y0
  go_wp2
  have J1 := l1Bits_any a ba oa 0 ca X w1.drew (by omega) X1 XL.out
  go_region_held3 (fun w' => w'.cell? ⟨w.heap.size, 1, none⟩ = some (.slice a 0 ca) ∧ w'.cell? ⟨w.heap.size, 2, none⟩ = some (.slice b m cb)) (go_keep)
    (first
      | (go_at_call 106
         first
          | (with_reducible refine J1.mono ?_
             rintro e w2 ⟨a1, g1, m1, t1, B1, rfl, k1, k2, L1, -, p1, e1, s2⟩
             have T1 : Tr w2 (.slice a1 m1 t1) m1 B1 := ⟨a1, g1, 0, t1, rfl, k1, L1, p1⟩
             have E1 := hide e1
             clear L1 p1 e1
             have z2 := s2.size
             have J2 := l1Bits_any b bb ob m cb Y w2 (by omega) (Y1.keep s2) YL.out
             have f1 : w2.cell? ⟨w.heap.size, 1, none⟩ = some (.slice a 0 ca) := (s2.cell (a := ⟨w.heap.size, 1, none⟩) z1).trans d1
             have f2 : w2.cell? ⟨w.heap.size, 2, none⟩ = some (.slice b m cb) := (s2.cell (a := ⟨w.heap.size, 2, none⟩) z1).trans d2)
          | (with_reducible refine J2.mono ?_
             rintro e w3 ⟨a2, g2, m2, t2, B2, rfl, q1, q2, L2, -, p2, e2, s3⟩
             have T2 : Tr w3 (.slice a2 m2 t2) m2 B2 := ⟨a2, g2, 0, t2, rfl, q1, L2, p2⟩
             have E2 := hide e2
             clear L2 p2 e2
             have T1' := T1.keep s3
             have J3 := l1GcdBits_any _ _ m1 m2 B1 B2 w3 (by omega) (by omega) T1' T2
             have S3 : w.Since w.heap.size w3 := (S1.trans (sinceMono s2 S1.size)).trans (sinceMono s3 (Nat.le_trans S1.size s2.size))
             have f3 : w3.cell? ⟨w.heap.size, 1, none⟩ = some (.slice a 0 ca) := (s3.cell (a := ⟨w.heap.size, 1, none⟩) (Nat.lt_of_lt_of_le z1 z2)).trans f1
             have f4 : w3.cell? ⟨w.heap.size, 2, none⟩ = some (.slice b m cb) := (s3.cell (a := ⟨w.heap.size, 2, none⟩) (Nat.lt_of_lt_of_le z1 z2)).trans f2
             have z3 := s3.size))
      | (go_at_call 105
         with_reducible refine J3.mono ?_
         rintro e w4 ⟨v, t, O, rfl, ht, T3, e3, s4⟩
         have E3 := hide e3
         have J4 : Calls Tryz.prog 107 #[.int .u64 1] w4 _ := l1BitsOf_any 1 w4 (by omega)
         clear e3
         have f5 : w4.cell? ⟨w.heap.size, 1, none⟩ = some (.slice a 0 ca) := (s4.cell (a := ⟨w.heap.size, 1, none⟩) (Nat.lt_of_lt_of_le z1 (Nat.le_trans z2 z3))).trans f3
         have f6 : w4.cell? ⟨w.heap.size, 2, none⟩ = some (.slice b m cb) := (s4.cell (a := ⟨w.heap.size, 2, none⟩) (Nat.lt_of_lt_of_le z1 (Nat.le_trans z2 z3))).trans f4
         have z4 := s4.size)
      | (go_at_call 107
         with_reducible refine J4.mono ?_
         rintro e w5 ⟨x, t5, B5, rfl, ht5, T5, e5, s5⟩
         have E5 := hide e5
         clear e5
         obtain ⟨a3, b3, o3, c3, rfl, -, L3, p3⟩ := T3.keep s5
         obtain ⟨a5, b5, o5, c5, rfl, -, L5, p5⟩ := T5
         have S5 : w.Since w.heap.size w5 := (S3.trans (sinceMono s4 S3.size)).trans (sinceMono s5 (Nat.le_trans S3.size s4.size))
         have f7 : w5.cell? ⟨w.heap.size, 1, none⟩ = some (.slice a 0 ca) := (s5.cell (a := ⟨w.heap.size, 1, none⟩) (Nat.lt_of_lt_of_le z1 (Nat.le_trans (Nat.le_trans z2 z3) z4))).trans f5
         have f8 : w5.cell? ⟨w.heap.size, 2, none⟩ = some (.slice b m cb) := (s5.cell (a := ⟨w.heap.size, 2, none⟩) (Nat.lt_of_lt_of_le z1 (Nat.le_trans (Nat.le_trans z2 z3) z4))).trans f6
         have J := l1CmpBits_any a3 a5 b3 o3 t c3 b5 o5 t5 c5 O B5 w5 (by omega) (by omega) L3 L5 p3 p5
         rw [E5.out, E3.out, E1.out, E2.out] at J
         clear T3 L3 L5 p3 p5)
      | (go_at_call 104
         with_reducible refine J.mono ?_
         rintro e w6 ⟨rfl, s6⟩
         have f9 : w6.cell? ⟨w.heap.size, 1, none⟩ = some (.slice a 0 ca) := by rw [s6.cell]; exact f7
         have f10 : w6.cell? ⟨w.heap.size, 2, none⟩ = some (.slice b m cb) := by rw [s6.cell]; exact f8))
  all_goals go_wp2
  all_goals go_ret
  all_goals exact ⟨ret_bool ((cmpN_one (Nat.gcd (lv X 0) (lv Y m))).trans HR.out), S5.trans (s6.since _)⟩

set_option maxHeartbeats 1600000 in
set_option maxRecDepth 100000 in
theorem specRatOk_big_n (neg : Bool) (a b : Option Addr) (ba oa n ca bb ob m cb : Nat) (X Y : Nat → Nat) (w : World) (hn : n ≤ 16777216) (hm : m ≤ 16777216)
    (hX : Limbs w a ba oa n X) (hY : Limbs w b bb ob m Y) (hXl : ∀ j, j < n → X j < 4294967296) (hYl : ∀ j, j < m → Y j < 4294967296) (h1 : plainB X n = true) (h2 : plainB Y m = true) (h3 : ¬ m = 0) (h4 : ¬ (n = 0 ∧ neg = true)) (hs : ¬ smallB X n Y m = true) (h5 : ¬ n = 0) :
    Calls Tryz.prog 65 #[.agg #[.bool neg, .slice a n ca, .slice b m cb]] w fun e w' => e = .returned (.bool (ratOkB neg X n Y m)) ∧ w.Since w.heap.size w' := by
  have sA : w.Since w.heap.size (w.alloc (.cells #[.bool neg, .slice a n ca, .slice b m cb] 70)) := (World.Since.refl _ _).alloc (Nat.le_refl _) _
  have I1 := l1Plain_any a ba oa n ca X _ hn (hX.keep sA)
  have I2 := l1Plain_any b bb ob m cb Y _ hm (hY.keep sA)
  rw [h1] at I1
  rw [h2] at I2
  have q3 : ((m : Int) == 0) = false := by simp; omega
  have HR := hide (show (decide (Nat.gcd (lv X n) (lv Y m) = 1)) = ratOkB neg X n Y m by
    have e3 : (m != 0) = true := by simp [h3]
    have e4 : (neg && n == 0) = false := by cases neg <;> simp at h4 ⊢; exact h4
    rw [Bool.eq_iff_iff]
    simp [ratOkB, h1, h2, e3, e4])
  obtain ⟨c0, c1, c2⟩ := box3 w (.bool neg) (.slice a n ca) (.slice b m cb) 70
  have I3 := l1IsSmall_any neg a b ba oa n ca bb ob m cb X Y _ hn hm (hX.keep sA) (hY.keep sA) hXl hYl
  have HN : Hid (n = 0 → neg = false) := fun h => by cases neg; rfl; exact absurd ⟨h, rfl⟩ h4
  clear h1 h2 h4
  have XA := hX.keep sA
  have YA := hY.keep sA
  rw [show smallB X n Y m = false by simpa using hs] at I3
  clear hs
  go_enter Tryz.func65, Tryz.ntmps65
  go_wp2_with fail
  refine I1.mono ?_
  rintro e w1 ⟨rfl, rfl⟩
  go_wp2_with fail
  refine I2.mono ?_
  rintro e w1 ⟨rfl, rfl⟩
  clear I1 I2
  generalize w.alloc (.cells #[.bool neg, .slice a n ca, .slice b m cb] 70) = wA at *
  have h6 : ((n : Int) == 0) = false := by simp; omega
  go_wp2_with fail
  refine I3.mono ?_
  rintro e w1 ⟨rfl, s1⟩
  clear I3
  have zA : w.heap.size < wA.heap.size := World.block_lt_of_cell? _ _ c0
  have d1 : w1.cell? ⟨w.heap.size, 1, none⟩ = some (.slice a n ca) := (s1.cell (a := ⟨w.heap.size, 1, none⟩) zA).trans c1
  have d2 : w1.cell? ⟨w.heap.size, 2, none⟩ = some (.slice b m cb) := (s1.cell (a := ⟨w.heap.size, 2, none⟩) zA).trans c2
  have S1 : w.Since w.heap.size w1.drew := by have h := sA.trans (sinceMono s1 sA.size); exact ⟨h.os, h.tape, h.output, h.size, h.block⟩
  have z1 : w.heap.size < w1.drew.heap.size := Nat.lt_of_lt_of_le zA s1.size
  have X0 := XA.keep s1
  have Y0 := YA.keep s1
  have X1 : Limbs w1.drew a ba oa n X := X0
  have Y1 : Limbs w1.drew b bb ob m Y := Y0
  have XL := hide hXl
  have YL := hide hYl
  clear hXl hYl XA YA s1 c0 c1 c2 X0 Y0
  go_wp2
  have J1 := l1Bits_any a ba oa n ca X w1.drew (by omega) X1 XL.out
  go_region_held3 (fun w' => w'.cell? ⟨w.heap.size, 1, none⟩ = some (.slice a n ca) ∧ w'.cell? ⟨w.heap.size, 2, none⟩ = some (.slice b m cb)) (go_keep)
    (first
      | (go_at_call 106
         first
          | (with_reducible refine J1.mono ?_
             rintro e w2 ⟨a1, g1, m1, t1, B1, rfl, k1, k2, L1, -, p1, e1, s2⟩
             have T1 : Tr w2 (.slice a1 m1 t1) m1 B1 := ⟨a1, g1, 0, t1, rfl, k1, L1, p1⟩
             have E1 := hide e1
             clear L1 p1 e1
             have z2 := s2.size
             have J2 := l1Bits_any b bb ob m cb Y w2 (by omega) (Y1.keep s2) YL.out
             have f1 : w2.cell? ⟨w.heap.size, 1, none⟩ = some (.slice a n ca) := (s2.cell (a := ⟨w.heap.size, 1, none⟩) z1).trans d1
             have f2 : w2.cell? ⟨w.heap.size, 2, none⟩ = some (.slice b m cb) := (s2.cell (a := ⟨w.heap.size, 2, none⟩) z1).trans d2)
          | (with_reducible refine J2.mono ?_
             rintro e w3 ⟨a2, g2, m2, t2, B2, rfl, q1, q2, L2, -, p2, e2, s3⟩
             have T2 : Tr w3 (.slice a2 m2 t2) m2 B2 := ⟨a2, g2, 0, t2, rfl, q1, L2, p2⟩
             have E2 := hide e2
             clear L2 p2 e2
             have T1' := T1.keep s3
             have J3 := l1GcdBits_any _ _ m1 m2 B1 B2 w3 (by omega) (by omega) T1' T2
             have S3 : w.Since w.heap.size w3 := (S1.trans (sinceMono s2 S1.size)).trans (sinceMono s3 (Nat.le_trans S1.size s2.size))
             have f3 : w3.cell? ⟨w.heap.size, 1, none⟩ = some (.slice a n ca) := (s3.cell (a := ⟨w.heap.size, 1, none⟩) (Nat.lt_of_lt_of_le z1 z2)).trans f1
             have f4 : w3.cell? ⟨w.heap.size, 2, none⟩ = some (.slice b m cb) := (s3.cell (a := ⟨w.heap.size, 2, none⟩) (Nat.lt_of_lt_of_le z1 z2)).trans f2
             have z3 := s3.size))
      | (go_at_call 105
         with_reducible refine J3.mono ?_
         rintro e w4 ⟨v, t, O, rfl, ht, T3, e3, s4⟩
         have E3 := hide e3
         have J4 : Calls Tryz.prog 107 #[.int .u64 1] w4 _ := l1BitsOf_any 1 w4 (by omega)
         clear e3
         have f5 : w4.cell? ⟨w.heap.size, 1, none⟩ = some (.slice a n ca) := (s4.cell (a := ⟨w.heap.size, 1, none⟩) (Nat.lt_of_lt_of_le z1 (Nat.le_trans z2 z3))).trans f3
         have f6 : w4.cell? ⟨w.heap.size, 2, none⟩ = some (.slice b m cb) := (s4.cell (a := ⟨w.heap.size, 2, none⟩) (Nat.lt_of_lt_of_le z1 (Nat.le_trans z2 z3))).trans f4
         have z4 := s4.size)
      | (go_at_call 107
         with_reducible refine J4.mono ?_
         rintro e w5 ⟨x, t5, B5, rfl, ht5, T5, e5, s5⟩
         have E5 := hide e5
         clear e5
         obtain ⟨a3, b3, o3, c3, rfl, -, L3, p3⟩ := T3.keep s5
         obtain ⟨a5, b5, o5, c5, rfl, -, L5, p5⟩ := T5
         have S5 : w.Since w.heap.size w5 := (S3.trans (sinceMono s4 S3.size)).trans (sinceMono s5 (Nat.le_trans S3.size s4.size))
         have f7 : w5.cell? ⟨w.heap.size, 1, none⟩ = some (.slice a n ca) := (s5.cell (a := ⟨w.heap.size, 1, none⟩) (Nat.lt_of_lt_of_le z1 (Nat.le_trans (Nat.le_trans z2 z3) z4))).trans f5
         have f8 : w5.cell? ⟨w.heap.size, 2, none⟩ = some (.slice b m cb) := (s5.cell (a := ⟨w.heap.size, 2, none⟩) (Nat.lt_of_lt_of_le z1 (Nat.le_trans (Nat.le_trans z2 z3) z4))).trans f6
         have J := l1CmpBits_any a3 a5 b3 o3 t c3 b5 o5 t5 c5 O B5 w5 (by omega) (by omega) L3 L5 p3 p5
         rw [E5.out, E3.out, E1.out, E2.out] at J
         clear T3 L3 L5 p3 p5)
      | (go_at_call 104
         with_reducible refine J.mono ?_
         rintro e w6 ⟨rfl, s6⟩
         have f9 : w6.cell? ⟨w.heap.size, 1, none⟩ = some (.slice a n ca) := by rw [s6.cell]; exact f7
         have f10 : w6.cell? ⟨w.heap.size, 2, none⟩ = some (.slice b m cb) := by rw [s6.cell]; exact f8))
  all_goals go_wp2
  all_goals go_ret
  all_goals exact ⟨ret_bool ((cmpN_one (Nat.gcd (lv X n) (lv Y m))).trans HR.out), S5.trans (s6.since _)⟩

set_option maxHeartbeats 3200000 in
set_option maxRecDepth 100000 in
theorem specRatOk_any (neg : Bool) (a b : Option Addr) (ba oa n ca bb ob m cb : Nat) (X Y : Nat → Nat) (w : World) (hn : n ≤ 16777216) (hm : m ≤ 16777216)
    (hX : Limbs w a ba oa n X) (hY : Limbs w b bb ob m Y) (hXl : ∀ j, j < n → X j < 4294967296) (hYl : ∀ j, j < m → Y j < 4294967296) :
    Calls Tryz.prog 65 #[.agg #[.bool neg, .slice a n ca, .slice b m cb]] w fun e w' => e = .returned (.bool (ratOkB neg X n Y m)) ∧ w.Since w.heap.size w' := by
  have sA : w.Since w.heap.size (w.alloc (.cells #[.bool neg, .slice a n ca, .slice b m cb] 70)) := (World.Since.refl _ _).alloc (Nat.le_refl _) _
  have I1 := l1Plain_any a ba oa n ca X _ hn (hX.keep sA)
  have I2 := l1Plain_any b bb ob m cb Y _ hm (hY.keep sA)
  by_cases h1 : plainB X n = false
  · have HR := hide (show false = ratOkB neg X n Y m by simp [ratOkB, h1])
    rw [h1] at I1
    clear h1
    go_enter Tryz.func65, Tryz.ntmps65
    go_wp2_with fail
    refine I1.mono ?_
    rintro e w1 ⟨rfl, rfl⟩
    go_wp2
    go_ret
    exact ⟨ret_bool HR.out, sA⟩
  have h1 : plainB X n = true := by simpa using h1
  rw [h1] at I1
  by_cases h2 : plainB Y m = false
  · have HR := hide (show false = ratOkB neg X n Y m by simp [ratOkB, h2])
    rw [h2] at I2
    clear h1 h2
    go_enter Tryz.func65, Tryz.ntmps65
    go_wp2_with fail
    refine I1.mono ?_
    rintro e w1 ⟨rfl, rfl⟩
    go_wp2_with fail
    refine I2.mono ?_
    rintro e w1 ⟨rfl, rfl⟩
    go_wp2
    go_ret
    exact ⟨ret_bool HR.out, sA⟩
  have h2 : plainB Y m = true := by simpa using h2
  rw [h2] at I2
  by_cases h3 : m = 0
  · have HR := hide (show false = ratOkB neg X n Y m by simp [ratOkB, h3])
    clear h1 h2
    subst h3
    go_enter Tryz.func65, Tryz.ntmps65
    go_wp2_with fail
    refine I1.mono ?_
    rintro e w1 ⟨rfl, rfl⟩
    go_wp2_with fail
    refine I2.mono ?_
    rintro e w1 ⟨rfl, rfl⟩
    go_wp2
    go_ret
    exact ⟨ret_bool HR.out, sA⟩
  have q3 : ((m : Int) == 0) = false := by simp; omega
  by_cases h4 : n = 0 ∧ neg = true
  · obtain ⟨rfl, rfl⟩ := h4
    have HR := hide (show false = ratOkB true X 0 Y m by simp [ratOkB])
    clear h1 h2
    go_enter Tryz.func65, Tryz.ntmps65
    go_wp2_with fail
    refine I1.mono ?_
    rintro e w1 ⟨rfl, rfl⟩
    go_wp2_with fail
    refine I2.mono ?_
    rintro e w1 ⟨rfl, rfl⟩
    go_wp2
    go_ret
    exact ⟨ret_bool HR.out, sA⟩
  by_cases hs : smallB X n Y m = true
  · by_cases h5 : n = 0
    · exact specRatOk_small_z neg a b ba oa n ca bb ob m cb X Y w hn hm hX hY hXl hYl h1 h2 h3 h4 hs h5
    · exact specRatOk_small_n neg a b ba oa n ca bb ob m cb X Y w hn hm hX hY hXl hYl h1 h2 h3 h4 hs h5
  · by_cases h5 : n = 0
    · exact specRatOk_big_z neg a b ba oa n ca bb ob m cb X Y w hn hm hX hY hXl hYl h1 h2 h3 h4 hs h5
    · exact specRatOk_big_n neg a b ba oa n ca bb ob m cb X Y w hn hm hX hY hXl hYl h1 h2 h3 h4 hs h5

end Go.Proofs.YthaomfabdghfjaaGreat

namespace Go.Proofs.YthaomfabdghfjaaGreat
open Go.RowKit

set_option maxHeartbeats 800000 in
set_option maxRecDepth 100000 in
theorem szU_ok (a : Option Addr) (n cap L : Nat) (w : World) (hL : L ≤ 16777216) (hn : n ≤ L) :
    Calls Tryz.prog 62 #[.slice a n cap, .int .i64 L] w fun e w' => e = .returned (.int .i64 ((L - n : Nat) : Int)) ∧ w' = w := by
  have h : (L : Int) - n = ((L - n : Nat) : Int) := by omega
  have H := hide h
  clear h
  go_enter Tryz.func62, Tryz.ntmps62
  go_wp2
  go_ret
  exact ⟨ret_int H.out, rfl⟩

set_option maxHeartbeats 800000 in
set_option maxRecDepth 100000 in
theorem szU_no (a : Option Addr) (n cap L : Nat) (w : World) (hL : L ≤ 16777216) (hn : L < n) (hm : n ≤ 9223372036854775807) :
    Calls Tryz.prog 62 #[.slice a n cap, .int .i64 L] w fun e w' => e = .returned (.int .i64 (-1)) ∧ w' = w := by
  go_enter Tryz.func62, Tryz.ntmps62
  go_wp2
  go_ret
  exact ⟨rfl, rfl⟩

set_option maxHeartbeats 800000 in
set_option maxRecDepth 100000 in
theorem szRat_ok (neg : Bool) (a b : Option Addr) (n ca m cb L : Nat) (w : World) (hL : L ≤ 16777216) (hn : n + m ≤ L) :
    Calls Tryz.prog 29 #[.agg #[.bool neg, .slice a n ca, .slice b m cb], .int .i64 L] w fun e w' => e = .returned (.int .i64 ((L - n - m : Nat) : Int)) ∧ w.Since w.heap.size w' := by
  have sA : w.Since w.heap.size (w.alloc (.cells #[.bool neg, .slice a n ca, .slice b m cb] 63)) := (World.Since.refl _ _).alloc (Nat.le_refl _) _
  go_enter Tryz.func29, Tryz.ntmps29
  go_wp2_with fail
  refine (szU_ok a n ca L _ hL (by omega)).mono ?_
  rintro e w1 ⟨rfl, rfl⟩
  go_wp2_with fail
  refine (szU_ok b m cb (L - n) _ (by omega) (by omega)).mono ?_
  rintro e w1 ⟨rfl, rfl⟩
  go_wp2
  go_ret
  exact ⟨rfl, sA⟩

set_option maxHeartbeats 800000 in
set_option maxRecDepth 100000 in
theorem szRat_no (neg : Bool) (a b : Option Addr) (n ca m cb L : Nat) (w : World) (hL : L ≤ 16777216) (hn : L < n + m) (hn1 : n ≤ 9223372036854775807) (hm : m ≤ 9223372036854775807) :
    Calls Tryz.prog 29 #[.agg #[.bool neg, .slice a n ca, .slice b m cb], .int .i64 L] w fun e w' => e = .returned (.int .i64 (-1)) ∧ w.Since w.heap.size w' := by
  have sA : w.Since w.heap.size (w.alloc (.cells #[.bool neg, .slice a n ca, .slice b m cb] 63)) := (World.Since.refl _ _).alloc (Nat.le_refl _) _
  by_cases h : L < n
  · go_enter Tryz.func29, Tryz.ntmps29
    go_wp2_with fail
    refine (szU_no a n ca L _ hL h hn1).mono ?_
    rintro e w1 ⟨rfl, rfl⟩
    go_wp2
    go_ret
    exact ⟨rfl, sA⟩
  · go_enter Tryz.func29, Tryz.ntmps29
    go_wp2_with fail
    refine (szU_ok a n ca L _ hL (by omega)).mono ?_
    rintro e w1 ⟨rfl, rfl⟩
    go_wp2_with fail
    refine (szU_no b m cb (L - n) _ (by omega) (by omega) hm).mono ?_
    rintro e w1 ⟨rfl, rfl⟩
    go_wp2
    go_ret
    exact ⟨rfl, sA⟩

set_option maxHeartbeats 1600000 in
set_option maxRecDepth 100000 in
theorem toRat_any (neg : Bool) (a b : Option Addr) (ba oa n ca bb ob m cb : Nat) (X Y : Nat → Nat) (w : World) (hn : n ≤ 16777216) (hm : m ≤ 16777216) (hX : Limbs w a ba oa n X) (hY : Limbs w b bb ob m Y) :
    Calls Tryz.prog 34 #[.agg #[.bool neg, .slice a n ca, .slice b m cb]] w fun e w' => ∃ g h, e = .returned (.agg #[.bool neg, .slice (some ⟨g, 0, none⟩) n n, .slice (some ⟨h, 0, none⟩) m m]) ∧ w.Since w.heap.size w' ∧ w.heap.size ≤ g ∧ g < h ∧
      h < w'.heap.size ∧ Limbs w' (some ⟨g, 0, none⟩) g 0 n X ∧ Limbs w' (some ⟨h, 0, none⟩) h 0 m Y ∧ (∀ o, w'.frozen? ⟨g, o, none⟩ = false) ∧ (∀ o, w'.frozen? ⟨h, o, none⟩ = false) := by
  have sA : w.Since w.heap.size (((w.alloc (.cells #[.bool neg, .slice a n ca, .slice b m cb] 63)).alloc (.cells #[.bool false, .slice none 0 0, .slice none 0 0] 70)).alloc (.cells #[.bool neg, .slice none 0 0, .slice none 0 0] 70)) :=
    (((World.Since.refl _ _).alloc (Nat.le_refl _) _).alloc (by simp) _).alloc (by simp; omega) _
  have zA : (((w.alloc (.cells #[.bool neg, .slice a n ca, .slice b m cb] 63)).alloc (.cells #[.bool false, .slice none 0 0, .slice none 0 0] 70)).alloc (.cells #[.bool neg, .slice none 0 0, .slice none 0 0] 70)).heap.size = w.heap.size + 1 + 1 + 1 := by simp
  have bA : Box3 (((w.alloc (.cells #[.bool neg, .slice a n ca, .slice b m cb] 63)).alloc (.cells #[.bool false, .slice none 0 0, .slice none 0 0] 70)).alloc (.cells #[.bool neg, .slice none 0 0, .slice none 0 0] 70)) w.heap.size (.bool neg) (.slice a n ca) (.slice b m cb) := ((Box3.new w _ _ _ _).keep ((World.Since.refl _ _).alloc (Nat.le_refl _) _)).keep ((World.Since.refl _ _).alloc (Nat.le_refl _) _)
  have rA : Box3 (((w.alloc (.cells #[.bool neg, .slice a n ca, .slice b m cb] 63)).alloc (.cells #[.bool false, .slice none 0 0, .slice none 0 0] 70)).alloc (.cells #[.bool neg, .slice none 0 0, .slice none 0 0] 70)) (w.heap.size + 1) (.bool false) (.slice none 0 0) (.slice none 0 0) := by
    have := (Box3.new (w.alloc (.cells #[.bool neg, .slice a n ca, .slice b m cb] 63)) (.bool false) (.slice none 0 0) (.slice none 0 0) 70).keep ((World.Since.refl _ _).alloc (Nat.le_refl _) (.cells #[.bool neg, .slice none 0 0, .slice none 0 0] 70))
    simpa using this
  have oA : Box3 (((w.alloc (.cells #[.bool neg, .slice a n ca, .slice b m cb] 63)).alloc (.cells #[.bool false, .slice none 0 0, .slice none 0 0] 70)).alloc (.cells #[.bool neg, .slice none 0 0, .slice none 0 0] 70)) (w.heap.size + 1 + 1) (.bool neg) (.slice none 0 0) (.slice none 0 0) := by
    have := Box3.new ((w.alloc (.cells #[.bool neg, .slice a n ca, .slice b m cb] 63)).alloc (.cells #[.bool false, .slice none 0 0, .slice none 0 0] 70)) (.bool neg) (.slice none 0 0) (.slice none 0 0) 70
    simpa using this
  go_enter Tryz.func34, Tryz.ntmps34
  go_wp2_with fail
  generalize (((w.alloc (.cells #[.bool neg, .slice a n ca, .slice b m cb] 63)).alloc (.cells #[.bool false, .slice none 0 0, .slice none 0 0] 70)).alloc (.cells #[.bool neg, .slice none 0 0, .slice none 0 0] 70)) = wA at *
  refine (to_any a ba oa n ca X wA hn (hX.keep sA)).mono ?_
  rintro e w1 ⟨rfl, s1, r1⟩
  have z1 := s1.size
  have b1 := bA.keep s1
  have q1 := rA.keep s1
  have o1 := oA.keep s1
  have S1 : w.Since w.heap.size w1 := sA.trans (sinceMono s1 sA.size)
  have L1 := limbs_row r1
  have F1 : ∀ o, w1.frozen? ⟨wA.heap.size, o, none⟩ = false := fun o => r1.frozen o
  have t1 : wA.heap.size < w1.heap.size := r1.lt
  rw [zA] at L1 F1 t1
  clear r1 bA rA oA
  have k1 := b1.c2
  have k2 := o1.c1
  have k3 := o1.f 1
  go_wp2_with fail
  clear k1 k2 k3
  have M2 : Marked w1 (w1.setCell ⟨w.heap.size + 1 + 1, 1, none⟩ (.slice (some ⟨w.heap.size + 1 + 1 + 1, 0, none⟩) n n)) (w.heap.size + 1 + 1) := (Marked.refl w1 _).setCell _ _
  have o2 := o1.set1 (.slice (some ⟨w.heap.size + 1 + 1 + 1, 0, none⟩) n n)
  have q2 := q1.marked M2 (by omega)
  have S2 : w.Since w.heap.size (w1.setCell ⟨w.heap.size + 1 + 1, 1, none⟩ (.slice (some ⟨w.heap.size + 1 + 1 + 1, 0, none⟩) n n)) := S1.trans (M2.since (by omega))
  have L2 := L1.marked M2 (fun _ => by omega)
  have F2 : ∀ o, (w1.setCell ⟨w.heap.size + 1 + 1, 1, none⟩ (.slice (some ⟨w.heap.size + 1 + 1 + 1, 0, none⟩) n n)).frozen? ⟨w.heap.size + 1 + 1 + 1, o, none⟩ = false := fun o => by rw [M2.frozenO (a := ⟨w.heap.size + 1 + 1 + 1, o, none⟩) (by show w.heap.size + 1 + 1 + 1 ≠ _; omega)]; exact F1 o
  have z2 := M2.size
  generalize w1.setCell ⟨w.heap.size + 1 + 1, 1, none⟩ (.slice (some ⟨w.heap.size + 1 + 1 + 1, 0, none⟩) n n) = w2 at *
  refine (to_any b bb ob m cb Y w2 hm (hY.keep S2)).mono ?_
  rintro e w3 ⟨rfl, s3, r3⟩
  have z3 := s3.size
  have q3 := q2.keep s3
  have o3 := o2.keep s3
  have S3 : w.Since w.heap.size w3 := S2.trans (sinceMono s3 S2.size)
  have L3 := L2.keep s3
  have F3 : ∀ o, w3.frozen? ⟨w.heap.size + 1 + 1 + 1, o, none⟩ = false := fun o => by rw [s3.frozen (a := ⟨w.heap.size + 1 + 1 + 1, o, none⟩) (by show w.heap.size + 1 + 1 + 1 < _; omega)]; exact F2 o
  have K3 := limbs_row r3
  have G3 : ∀ o, w3.frozen? ⟨w2.heap.size, o, none⟩ = false := fun o => r3.frozen o
  have t3 : w2.heap.size < w3.heap.size := r3.lt
  clear r3 L1 L2 F1 F2 b1 q1 o1 q2 o2
  have q30 := q3.c0
  have q31 := q3.c1
  have q32 := q3.c2
  have q3f0 := q3.f 0
  have q3f1 := q3.f 1
  have q3f2 := q3.f 2
  have o30 := o3.c0
  have o31 := o3.c1
  have o32 := o3.c2
  have o3f2 := o3.f 2
  have M4 : Marked w3 (w3.setCell ⟨w.heap.size + 1 + 1, 2, none⟩ (.slice (some ⟨w1.heap.size, 0, none⟩) m m)) (w.heap.size + 1 + 1) := (Marked.refl w3 _).setCell _ _
  rw [z2] at K3 G3 t3
  go_wp2
  have q4 := (((q3.marked M4 (by omega)).set0 (.bool neg)).set1 (.slice (some ⟨w.heap.size + 1 + 1 + 1, 0, none⟩) n n)).set2 (.slice (some ⟨w1.heap.size, 0, none⟩) m m)
  refine bodyPost_ret (results_box3 rfl _ _ _ _ _ _ rfl q4) rfl ?_
  have M5 : Marked (w3.setCell ⟨w.heap.size + 1 + 1, 2, none⟩ (.slice (some ⟨w1.heap.size, 0, none⟩) m m)) _ (w.heap.size + 1) := (((Marked.refl _ _).setCell 0 (.bool neg)).setCell 1 (.slice (some ⟨w.heap.size + 1 + 1 + 1, 0, none⟩) n n)).setCell 2 (.slice (some ⟨w1.heap.size, 0, none⟩) m m)
  refine ⟨w.heap.size + 1 + 1 + 1, w1.heap.size, rfl, (S3.trans (M4.since (by omega))).trans (M5.since (by omega)), by omega, by omega, by rw [M5.size, M4.size]; omega,
    (L3.marked M4 (fun _ => by omega)).marked M5 (fun _ => by omega), (K3.marked M4 (fun _ => by omega)).marked M5 (fun _ => by omega), fun o => ?_, fun o => ?_⟩
  · rw [M5.frozenO (a := ⟨w.heap.size + 1 + 1 + 1, o, none⟩) (by show w.heap.size + 1 + 1 + 1 ≠ _; omega), M4.frozenO (a := ⟨w.heap.size + 1 + 1 + 1, o, none⟩) (by show w.heap.size + 1 + 1 + 1 ≠ _; omega)]; exact F3 o
  · rw [M5.frozenO (a := ⟨w1.heap.size, o, none⟩) (by show w1.heap.size ≠ _; omega), M4.frozenO (a := ⟨w1.heap.size, o, none⟩) (by show w1.heap.size ≠ _; omega)]; exact G3 o

set_option maxHeartbeats 800000 in
set_option maxRecDepth 100000 in
/-- eqRat at two Rats of the same fields. -/
theorem eqRat_true (neg : Bool) (a a' b b' : Option Addr) (ba oa ba' oa' n ca ca' bb ob bb' ob' m cb cb' : Nat) (X Y : Nat → Nat) (w : World) (hn : n ≤ 67108864) (hm : m ≤ 67108864)
    (hX : Limbs w a ba oa n X) (hX' : Limbs w a' ba' oa' n X) (hY : Limbs w b bb ob m Y) (hY' : Limbs w b' bb' ob' m Y) :
    Calls Tryz.prog 40 #[.agg #[.bool neg, .slice a n ca, .slice b m cb], .agg #[.bool neg, .slice a' n ca', .slice b' m cb']] w fun e w' => e = .returned (.bool true) ∧ w.Since w.heap.size w' := by
  have sA : w.Since w.heap.size ((w.alloc (.cells #[.bool neg, .slice a n ca, .slice b m cb] 70)).alloc (.cells #[.bool neg, .slice a' n ca', .slice b' m cb'] 70)) := ((World.Since.refl _ _).alloc (Nat.le_refl _) _).alloc (by simp) _
  have bA : Box3 ((w.alloc (.cells #[.bool neg, .slice a n ca, .slice b m cb] 70)).alloc (.cells #[.bool neg, .slice a' n ca', .slice b' m cb'] 70)) w.heap.size (.bool neg) (.slice a n ca) (.slice b m cb) := (Box3.new w _ _ _ _).keep ((World.Since.refl _ _).alloc (Nat.le_refl _) _)
  have cA : Box3 ((w.alloc (.cells #[.bool neg, .slice a n ca, .slice b m cb] 70)).alloc (.cells #[.bool neg, .slice a' n ca', .slice b' m cb'] 70)) (w.heap.size + 1) (.bool neg) (.slice a' n ca') (.slice b' m cb') := by
    have := Box3.new (w.alloc (.cells #[.bool neg, .slice a n ca, .slice b m cb] 70)) (.bool neg) (.slice a' n ca') (.slice b' m cb') 70
    simpa using this
  go_enter Tryz.func40, Tryz.ntmps40
  go_wp2_with fail
  generalize ((w.alloc (.cells #[.bool neg, .slice a n ca, .slice b m cb] 70)).alloc (.cells #[.bool neg, .slice a' n ca', .slice b' m cb'] 70)) = wA at *
  refine (eq_true a a' ba oa ba' oa' n ca ca' X wA hn (hX.keep sA) (hX'.keep sA)).mono ?_
  rintro e w1 ⟨rfl, s1⟩
  have S1 := s1.since wA.heap.size
  have k1 := (bA.keep S1).c2
  have k2 := (cA.keep S1).c2
  go_wp2_with fail
  refine (eq_true b b' bb ob bb' ob' m cb cb' Y w1 hm ((hY.keep sA).keep S1) ((hY'.keep sA).keep S1)).mono ?_
  rintro e w2 ⟨rfl, s2⟩
  go_wp2
  go_ret
  exact ⟨rfl, (sA.trans (sinceMono S1 sA.size)).trans (s2.since _)⟩

end Go.Proofs.YthaomfabdghfjaaGreat

namespace Go.Proofs.YthaomfabdghfjaaGreat
open Go.RowKit

/-- What a Rat holds. -/
structure RatD where
  neg : Bool
  n : Nat
  X : Nat → Nat
  m : Nat
  Y : Nat → Nat

def RatD.nul : RatD := ⟨false, 0, fun _ => 0, 0, fun _ => 0⟩

def RatD.ok (r : RatD) : Bool := ratOkB r.neg r.X r.n r.Y r.m

/-- Two slices that hold a Rat's lists, in blocks from lo on. -/
structure RatL (w : World) (lo : Nat) (r : RatD) (a b : Option Addr) (ca cb : Nat) : Prop where
  nc : r.n ≤ ca
  mc : r.m ≤ cb
  ac : a = none → ca = 0
  bc : b = none → cb = 0
  LX : ∃ ba oa, (0 < r.n → lo ≤ ba) ∧ Limbs w a ba oa r.n r.X
  LY : ∃ bb ob, (0 < r.m → lo ≤ bb) ∧ Limbs w b bb ob r.m r.Y
  lX : ∀ j, j < r.n → r.X j < 4294967296
  lY : ∀ j, j < r.m → r.Y j < 4294967296
  n63 : r.n ≤ 9223372036854775807
  m63 : r.m ≤ 9223372036854775807

section
variable {w w' : World} {lo lo' b off n c : Nat} {r : RatD} {a a1 a2 : Option Addr} {k1 k2 : Nat} {R : Nat → RatD}

theorem RatL.keep (h : RatL w lo r a1 a2 k1 k2) (s : w.Since w.heap.size w') : RatL w' lo r a1 a2 k1 k2 := by
  obtain ⟨ba, oa, l1, LX⟩ := h.LX
  obtain ⟨bb, ob, l2, LY⟩ := h.LY
  exact ⟨h.nc, h.mc, h.ac, h.bc, ⟨ba, oa, l1, LX.keep s⟩, ⟨bb, ob, l2, LY.keep s⟩, h.lX, h.lY, h.n63, h.m63⟩

theorem RatL.down (h : RatL w lo r a1 a2 k1 k2) (hl : lo' ≤ lo) : RatL w lo' r a1 a2 k1 k2 := by
  obtain ⟨ba, oa, l1, LX⟩ := h.LX
  obtain ⟨bb, ob, l2, LY⟩ := h.LY
  exact ⟨h.nc, h.mc, h.ac, h.bc, ⟨ba, oa, fun h => Nat.le_trans hl (l1 h), LX⟩, ⟨bb, ob, fun h => Nat.le_trans hl (l2 h), LY⟩, h.lX, h.lY, h.n63, h.m63⟩

theorem RatL.marked (h : RatL w lo r a1 a2 k1 k2) (s : Marked w w' c) (hc : c < lo) : RatL w' lo r a1 a2 k1 k2 := by
  obtain ⟨ba, oa, l1, LX⟩ := h.LX
  obtain ⟨bb, ob, l2, LY⟩ := h.LY
  exact ⟨h.nc, h.mc, h.ac, h.bc, ⟨ba, oa, l1, LX.marked s (fun h => by have := l1 h; omega)⟩, ⟨bb, ob, l2, LY.marked s (fun h => by have := l2 h; omega)⟩, h.lX, h.lY, h.n63, h.m63⟩

/-- A Rat that lies in memory. -/
structure RatM (w : World) (lo b off : Nat) (r : RatD) (a1 a2 : Option Addr) (k1 k2 : Nat) : Prop where
  c0 : w.cell? ⟨b, off, none⟩ = some (.bool r.neg)
  c1 : w.cell? ⟨b, off + 1, none⟩ = some (.slice a1 r.n k1)
  c2 : w.cell? ⟨b, off + 2, none⟩ = some (.slice a2 r.m k2)
  L : RatL w lo r a1 a2 k1 k2

theorem RatM.lt (h : RatM w lo b off r a1 a2 k1 k2) : b < w.heap.size := World.block_lt_of_cell? _ _ h.c0
theorem RatM.keep (h : RatM w lo b off r a1 a2 k1 k2) (s : w.Since w.heap.size w') : RatM w' lo b off r a1 a2 k1 k2 :=
  ⟨(s.cell (a := ⟨b, off, none⟩) h.lt).trans h.c0, (s.cell (a := ⟨b, off + 1, none⟩) h.lt).trans h.c1, (s.cell (a := ⟨b, off + 2, none⟩) h.lt).trans h.c2, h.L.keep s⟩
theorem RatM.down (h : RatM w lo b off r a1 a2 k1 k2) (hl : lo' ≤ lo) : RatM w lo' b off r a1 a2 k1 k2 := ⟨h.c0, h.c1, h.c2, h.L.down hl⟩
theorem RatM.marked (h : RatM w lo b off r a1 a2 k1 k2) (s : Marked w w' c) (hc : c < lo) (hb : b ≠ c) : RatM w' lo b off r a1 a2 k1 k2 :=
  ⟨(s.cell (a := ⟨b, off, none⟩) hb).trans h.c0, (s.cell (a := ⟨b, off + 1, none⟩) hb).trans h.c1, (s.cell (a := ⟨b, off + 2, none⟩) hb).trans h.c2, h.L.marked s hc⟩

/-- A slice of Rats. -/
def Rats (w : World) (lo : Nat) (a : Option Addr) (b off n : Nat) (R : Nat → RatD) : Prop :=
  ∀ i, i < n → a = some ⟨b, off, none⟩ ∧ ∃ a1 a2 k1 k2, RatM w lo b (off + i * 3) (R i) a1 a2 k1 k2

theorem Rats.keep (h : Rats w lo a b off n R) (s : w.Since w.heap.size w') : Rats w' lo a b off n R := fun i hi => by
  obtain ⟨h1, a1, a2, k1, k2, h2⟩ := h i hi
  exact ⟨h1, a1, a2, k1, k2, h2.keep s⟩
theorem Rats.down (h : Rats w lo a b off n R) (hl : lo' ≤ lo) : Rats w lo' a b off n R := fun i hi => by
  obtain ⟨h1, a1, a2, k1, k2, h2⟩ := h i hi
  exact ⟨h1, a1, a2, k1, k2, h2.down hl⟩
theorem Rats.marked (h : Rats w lo a b off n R) (s : Marked w w' c) (hc : c < lo) (hb : 0 < n → b ≠ c) : Rats w' lo a b off n R := fun i hi => by
  obtain ⟨h1, a1, a2, k1, k2, h2⟩ := h i hi
  exact ⟨h1, a1, a2, k1, k2, h2.marked s hc (hb (by omega))⟩
end

/-- How much a list of Rats counts. -/
def szR (R : Nat → RatD) : Nat → Nat
  | 0 => 0
  | n + 1 => szR R n + ((R n).n + (R n).m)

theorem szR_succ (R : Nat → RatD) (n : Nat) : szR R (n + 1) = szR R n + ((R n).n + (R n).m) := rfl

theorem szR_mono {R : Nat → RatD} {k n : Nat} (h : k ≤ n) : szR R k ≤ szR R n := by
  induction n with
  | zero => simp at h; subst h; exact Nat.le_refl _
  | succ n ih =>
    rcases Nat.lt_or_ge n k with h1 | h1
    · have : k = n + 1 := by omega
      subst this; exact Nat.le_refl _
    · have := ih h1
      rw [szR_succ]
      omega

theorem szR_at {R : Nat → RatD} {k n : Nat} (h : k < n) : (R k).n + (R k).m ≤ szR R n := by
  have := szR_mono (R := R) (show k + 1 ≤ n from h)
  rw [szR_succ] at this
  omega

/-- All are valid. -/
def RatsOk (R : Nat → RatD) (n : Nat) : Prop := ∀ i, i < n → (R i).ok = true

/-- What an affine map holds. -/
structure AffD where
  rows : Int
  cols : Int
  nw : Nat
  W : Nat → RatD
  nb : Nat
  B : Nat → RatD

def AffD.nul : AffD := ⟨0, 0, 0, fun _ => RatD.nul, 0, fun _ => RatD.nul⟩

def AffD.size (d : AffD) : Nat := d.nw + szR d.W d.nw + (d.nb + szR d.B d.nb)

/-- Two slices that hold an affine map's lists, in blocks from lo on. -/
structure AffL (w : World) (lo : Nat) (d : AffD) (a b : Option Addr) (ca cb : Nat) : Prop where
  nc : d.nw ≤ ca
  mc : d.nb ≤ cb
  LW : ∃ ba oa, (0 < d.nw → lo ≤ ba) ∧ Rats w lo a ba oa d.nw d.W
  LB : ∃ bb ob, (0 < d.nb → lo ≤ bb) ∧ Rats w lo b bb ob d.nb d.B
  r0 : -9223372036854775808 ≤ d.rows
  r1 : d.rows ≤ 9223372036854775807
  q0 : -9223372036854775808 ≤ d.cols
  q1 : d.cols ≤ 9223372036854775807
  n63 : d.nw ≤ 9223372036854775807
  m63 : d.nb ≤ 9223372036854775807

section
variable {w w' : World} {lo lo' b off n c : Nat} {d : AffD} {a a1 a2 : Option Addr} {k1 k2 : Nat} {A : Nat → AffD}

theorem AffL.keep (h : AffL w lo d a1 a2 k1 k2) (s : w.Since w.heap.size w') : AffL w' lo d a1 a2 k1 k2 := by
  obtain ⟨ba, oa, l1, LW⟩ := h.LW
  obtain ⟨bb, ob, l2, LB⟩ := h.LB
  exact ⟨h.nc, h.mc, ⟨ba, oa, l1, LW.keep s⟩, ⟨bb, ob, l2, LB.keep s⟩, h.r0, h.r1, h.q0, h.q1, h.n63, h.m63⟩
theorem AffL.down (h : AffL w lo d a1 a2 k1 k2) (hl : lo' ≤ lo) : AffL w lo' d a1 a2 k1 k2 := by
  obtain ⟨ba, oa, l1, LW⟩ := h.LW
  obtain ⟨bb, ob, l2, LB⟩ := h.LB
  exact ⟨h.nc, h.mc, ⟨ba, oa, fun h => Nat.le_trans hl (l1 h), LW.down hl⟩, ⟨bb, ob, fun h => Nat.le_trans hl (l2 h), LB.down hl⟩, h.r0, h.r1, h.q0, h.q1, h.n63, h.m63⟩
theorem AffL.marked (h : AffL w lo d a1 a2 k1 k2) (s : Marked w w' c) (hc : c < lo) : AffL w' lo d a1 a2 k1 k2 := by
  obtain ⟨ba, oa, l1, LW⟩ := h.LW
  obtain ⟨bb, ob, l2, LB⟩ := h.LB
  exact ⟨h.nc, h.mc, ⟨ba, oa, l1, LW.marked s hc (fun h => by have := l1 h; omega)⟩, ⟨bb, ob, l2, LB.marked s hc (fun h => by have := l2 h; omega)⟩, h.r0, h.r1, h.q0, h.q1, h.n63, h.m63⟩

/-- An affine map that lies in memory. -/
structure AffM (w : World) (lo b off : Nat) (d : AffD) (a1 a2 : Option Addr) (k1 k2 : Nat) : Prop where
  c0 : w.cell? ⟨b, off, none⟩ = some (.int .i64 d.rows)
  c1 : w.cell? ⟨b, off + 1, none⟩ = some (.int .i64 d.cols)
  c2 : w.cell? ⟨b, off + 2, none⟩ = some (.slice a1 d.nw k1)
  c3 : w.cell? ⟨b, off + 3, none⟩ = some (.slice a2 d.nb k2)
  L : AffL w lo d a1 a2 k1 k2

theorem AffM.lt (h : AffM w lo b off d a1 a2 k1 k2) : b < w.heap.size := World.block_lt_of_cell? _ _ h.c0
theorem AffM.keep (h : AffM w lo b off d a1 a2 k1 k2) (s : w.Since w.heap.size w') : AffM w' lo b off d a1 a2 k1 k2 :=
  ⟨(s.cell (a := ⟨b, off, none⟩) h.lt).trans h.c0, (s.cell (a := ⟨b, off + 1, none⟩) h.lt).trans h.c1, (s.cell (a := ⟨b, off + 2, none⟩) h.lt).trans h.c2, (s.cell (a := ⟨b, off + 3, none⟩) h.lt).trans h.c3, h.L.keep s⟩
theorem AffM.down (h : AffM w lo b off d a1 a2 k1 k2) (hl : lo' ≤ lo) : AffM w lo' b off d a1 a2 k1 k2 := ⟨h.c0, h.c1, h.c2, h.c3, h.L.down hl⟩

/-- A slice of affine maps. -/
def Affs (w : World) (lo : Nat) (a : Option Addr) (b off n : Nat) (A : Nat → AffD) : Prop :=
  ∀ i, i < n → a = some ⟨b, off, none⟩ ∧ ∃ a1 a2 k1 k2, AffM w lo b (off + i * 4) (A i) a1 a2 k1 k2

theorem Affs.keep (h : Affs w lo a b off n A) (s : w.Since w.heap.size w') : Affs w' lo a b off n A := fun i hi => by
  obtain ⟨h1, a1, a2, k1, k2, h2⟩ := h i hi
  exact ⟨h1, a1, a2, k1, k2, h2.keep s⟩
theorem Affs.down (h : Affs w lo a b off n A) (hl : lo' ≤ lo) : Affs w lo' a b off n A := fun i hi => by
  obtain ⟨h1, a1, a2, k1, k2, h2⟩ := h i hi
  exact ⟨h1, a1, a2, k1, k2, h2.down hl⟩
end

/-- How much a list of affine maps counts. -/
def szA (A : Nat → AffD) : Nat → Nat
  | 0 => 0
  | n + 1 => szA A n + (A n).size

theorem szA_succ (A : Nat → AffD) (n : Nat) : szA A (n + 1) = szA A n + (A n).size := rfl

theorem szA_mono {A : Nat → AffD} {k n : Nat} (h : k ≤ n) : szA A k ≤ szA A n := by
  induction n with
  | zero => simp at h; subst h; exact Nat.le_refl _
  | succ n ih =>
    rcases Nat.lt_or_ge n k with h1 | h1
    · have : k = n + 1 := by omega
      subst this; exact Nat.le_refl _
    · have := ih h1
      rw [szA_succ]
      omega

theorem szA_at {A : Nat → AffD} {k n : Nat} (h : k < n) : (A k).size ≤ szA A n := by
  have := szA_mono (A := A) (show k + 1 ≤ n from h)
  rw [szA_succ] at this
  omega

end Go.Proofs.YthaomfabdghfjaaGreat

namespace Go.Proofs.YthaomfabdghfjaaGreat
open Go.RowKit

/-- What a count leaves. -/
def szl (L t : Nat) : Int := if t ≤ L then ((L - t : Nat) : Int) else -1

theorem szl_ok {L t : Nat} (h : t ≤ L) : szl L t = ((L - t : Nat) : Int) := by simp [szl, h]
theorem szl_no {L t : Nat} (h : L < t) : szl L t = -1 := by simp [szl]; omega

set_option maxHeartbeats 1600000 in
set_option maxRecDepth 100000 in
theorem szRatS_any (a : Option Addr) (lo b off n cap L : Nat) (R : Nat → RatD) (w : World) (hL : L ≤ 16777216) (hn : n ≤ 9223372036854775807) (H : Rats w lo a b off n R) :
    Calls Tryz.prog 7 #[.slice a n cap, .int .i64 L] w fun e w' => e = .returned (.int .i64 (szl L (n + szR R n))) ∧ w.Since w.heap.size w' := by
  by_cases h : L < n
  · rw [szl_no (show L < n + szR R n by omega)]
    go_enter Tryz.func7, Tryz.ntmps7
    go_wp2
    go_ret
    exact ⟨rfl, World.Since.refl _ _⟩
  have h1 : (L : Int) - n = ((L - n : Nat) : Int) := by omega
  have H1 := hide h1
  clear h1
  go_enter Tryz.func7, Tryz.ntmps7
  go_wp2
  go_loopw [1, 5] (fun q i wr => ∃ k : Nat, k ≤ n ∧ i = .int .i64 k ∧ n + szR R k ≤ L ∧ q = .int .i64 ((L - n - szR R k : Nat) : Int) ∧ w.Since w.heap.size wr) (fun _ i _ => n - (intOf i).toNat)
  case atStart => exact ⟨0, Nat.zero_le _, rfl, by unfold szR; omega, by simp only [szR, Nat.sub_zero]; rw [← H1.out], World.Since.refl _ _⟩
  case round =>
    obtain ⟨k, hk, rfl, hs, rfl, s⟩ := hrel
    by_cases hlt : k < n
    · obtain ⟨rfl, a1, a2, k1, k2, M⟩ := H k hlt
      have M' := M.keep s
      have g0 := M'.c0
      have g1 := M'.c1
      have g2 := M'.c2
      have hz : (k : Int) < (n : Int) := by omega
      have e1 := szR_succ R k
      by_cases hf : n + szR R (k + 1) ≤ L
      · have H2 := hide e1
        clear e1
        go_wp2_with fail
        refine (szRat_ok (R k).neg a1 a2 (R k).n k1 (R k).m k2 (L - n - szR R k) wr (by omega) (by have := H2.out; omega)).mono ?_
        rintro e w1 ⟨rfl, s1⟩
        go_wp2
        go_roundw
        case rel => exact ⟨k + 1, by omega, by go_num, hf, by rw [H2.out]; congr 2; omega, s.trans (sinceMono s1 s.size)⟩
        case measure => simp [intOf]; omega
      · have hx := szR_mono (R := R) (show k + 1 ≤ n from hlt)
        have HZ := hide (szl_no (show L < n + szR R n by omega)).symm
        have H2 := hide e1
        clear e1
        go_wp2_with fail
        refine (szRat_no (R k).neg a1 a2 (R k).n k1 (R k).m k2 (L - n - szR R k) wr (by omega) (by have := H2.out; omega) M.L.n63 M.L.m63).mono ?_
        rintro e w1 ⟨rfl, s1⟩
        go_wp2
        go_ret
        exact ⟨ret_int HZ.out, s.trans (sinceMono s1 s.size)⟩
    · have e : k = n := by omega
      subst e
      go_wp2
      go_ret
      exact ⟨ret_int (by rw [szl_ok hs]; congr 1; omega), s⟩

end Go.Proofs.YthaomfabdghfjaaGreat

namespace Go.Proofs.YthaomfabdghfjaaGreat
open Go.RowKit

theorem szl_two {L s t : Nat} (h : s ≤ L) : szl (L - s) t = szl L (s + t) := by
  unfold szl
  by_cases h2 : t ≤ L - s
  · rw [if_pos h2, if_pos (by omega)]; congr 1; omega
  · rw [if_neg h2, if_neg (by omega)]

/-- The value of an affine map. -/
def affV (d : AffD) (a1 a2 : Option Addr) (k1 k2 : Nat) : Value := .agg #[.int .i64 d.rows, .int .i64 d.cols, .slice a1 d.nw k1, .slice a2 d.nb k2]

set_option maxHeartbeats 1600000 in
set_option maxRecDepth 100000 in
theorem szAffine_any (d : AffD) (a1 a2 : Option Addr) (lo k1 k2 L : Nat) (w : World) (hL : L ≤ 16777216) (H : AffL w lo d a1 a2 k1 k2) :
    Calls Tryz.prog 61 #[.agg #[.int .i64 d.rows, .int .i64 d.cols, .slice a1 d.nw k1, .slice a2 d.nb k2], .int .i64 L] w fun e w' => e = .returned (.int .i64 (szl L d.size)) ∧ w.Since w.heap.size w' := by
  have sA : w.Since w.heap.size (w.alloc (.cells #[.int .i64 d.rows, .int .i64 d.cols, .slice a1 d.nw k1, .slice a2 d.nb k2] 103)) := (World.Since.refl _ _).alloc (Nat.le_refl _) _
  have bA := Box4.new w (.int .i64 d.rows) (.int .i64 d.cols) (.slice a1 d.nw k1) (.slice a2 d.nb k2) 103
  have HA := H.keep sA
  obtain ⟨ba, oa, -, LW⟩ := HA.LW
  obtain ⟨bb, ob, -, LB⟩ := HA.LB
  have n63 := H.n63
  have m63 := H.m63
  by_cases h : d.nw + szR d.W d.nw ≤ L
  · have E := hide (szl_two (t := d.nb + szR d.B d.nb) h)
    have J1 := szRatS_any a1 lo ba oa d.nw k1 L d.W _ hL n63 LW
    rw [szl_ok h] at J1
    go_enter Tryz.func61, Tryz.ntmps61
    go_wp2_with fail
    generalize w.alloc (.cells #[.int .i64 d.rows, .int .i64 d.cols, .slice a1 d.nw k1, .slice a2 d.nb k2] 103) = wA at *
    refine J1.mono ?_
    rintro e w1 ⟨rfl, s1⟩
    have B1 := bA.keep s1
    have q2 := B1.c2
    have q3 := B1.c3
    have J2 := szRatS_any a2 lo bb ob d.nb k2 (L - (d.nw + szR d.W d.nw)) d.B w1 (by omega) m63 (LB.keep s1)
    clear J1
    by_cases h2 : d.nb + szR d.B d.nb ≤ L - (d.nw + szR d.W d.nw)
    · have E2 := hide (szl_ok h2)
      rw [szl_ok h2] at J2
      go_wp2_with fail
      refine J2.mono ?_
      rintro e w2 ⟨rfl, s2⟩
      go_wp2
      go_ret
      exact ⟨ret_int (by rw [← E2.out, E.out]; rfl), sA.trans (sinceMono (s1.trans (sinceMono s2 s1.size)) sA.size)⟩
    · have E2 := hide (szl_no (show L - (d.nw + szR d.W d.nw) < d.nb + szR d.B d.nb by omega))
      rw [E2.out] at J2
      go_wp2_with fail
      refine J2.mono ?_
      rintro e w2 ⟨rfl, s2⟩
      go_wp2
      go_ret
      exact ⟨ret_int (by rw [← E2.out, E.out]; rfl), sA.trans (sinceMono (s1.trans (sinceMono s2 s1.size)) sA.size)⟩
  · have J1 := szRatS_any a1 lo ba oa d.nw k1 L d.W _ hL n63 LW
    rw [szl_no (show L < d.nw + szR d.W d.nw by omega)] at J1
    have E := hide (szl_no (show L < d.size by unfold AffD.size; omega))
    go_enter Tryz.func61, Tryz.ntmps61
    go_wp2_with fail
    refine J1.mono ?_
    rintro e w1 ⟨rfl, s1⟩
    go_wp2
    go_ret
    exact ⟨ret_int E.out.symm, sA.trans (sinceMono s1 sA.size)⟩

set_option maxHeartbeats 1600000 in
set_option maxRecDepth 100000 in
theorem szAffineS_any (a : Option Addr) (lo b off n cap L : Nat) (A : Nat → AffD) (w : World) (hL : L ≤ 16777216) (hn : n ≤ 9223372036854775807) (H : Affs w lo a b off n A) :
    Calls Tryz.prog 28 #[.slice a n cap, .int .i64 L] w fun e w' => e = .returned (.int .i64 (szl L (n + szA A n))) ∧ w.Since w.heap.size w' := by
  by_cases h : L < n
  · rw [szl_no (show L < n + szA A n by omega)]
    go_enter Tryz.func28, Tryz.ntmps28
    go_wp2
    go_ret
    exact ⟨rfl, World.Since.refl _ _⟩
  have h1 : (L : Int) - n = ((L - n : Nat) : Int) := by omega
  have H1 := hide h1
  clear h1
  go_enter Tryz.func28, Tryz.ntmps28
  go_wp2
  go_loopw [1, 5] (fun q i wr => ∃ k : Nat, k ≤ n ∧ i = .int .i64 k ∧ n + szA A k ≤ L ∧ q = .int .i64 ((L - n - szA A k : Nat) : Int) ∧ w.Since w.heap.size wr) (fun _ i _ => n - (intOf i).toNat)
  case atStart => exact ⟨0, Nat.zero_le _, rfl, by unfold szA; omega, by simp only [szA, Nat.sub_zero]; rw [← H1.out], World.Since.refl _ _⟩
  case round =>
    obtain ⟨k, hk, rfl, hs, rfl, s⟩ := hrel
    by_cases hlt : k < n
    · obtain ⟨rfl, a1, a2, k1, k2, M⟩ := H k hlt
      have M' := M.keep s
      have g0 := M'.c0
      have g1 := M'.c1
      have g2 := M'.c2
      have g3 := M'.c3
      have hz : (k : Int) < (n : Int) := by omega
      have e1 := szA_succ A k
      have J1 := szAffine_any (A k) a1 a2 lo k1 k2 (L - n - szA A k) wr (by omega) M'.L
      by_cases hf : n + szA A (k + 1) ≤ L
      · have hf' : (A k).size ≤ L - n - szA A k := by omega
        rw [szl_ok hf'] at J1
        have H2 := hide e1
        clear e1
        go_wp2_with fail
        refine J1.mono ?_
        rintro e w1 ⟨rfl, s1⟩
        go_wp2
        go_roundw
        case rel => exact ⟨k + 1, by omega, by go_num, hf, by rw [H2.out]; congr 2; omega, s.trans (sinceMono s1 s.size)⟩
        case measure => simp [intOf]; omega
      · have hx := szA_mono (A := A) (show k + 1 ≤ n from hlt)
        have HZ := hide (szl_no (show L < n + szA A n by omega)).symm
        rw [szl_no (show L - n - szA A k < (A k).size by omega)] at J1
        clear e1
        go_wp2_with fail
        refine J1.mono ?_
        rintro e w1 ⟨rfl, s1⟩
        go_wp2
        go_ret
        exact ⟨ret_int HZ.out, s.trans (sinceMono s1 s.size)⟩
    · have e : k = n := by omega
      subst e
      go_wp2
      go_ret
      exact ⟨ret_int (by rw [szl_ok hs]; congr 1; omega), s⟩

set_option maxHeartbeats 1600000 in
set_option maxRecDepth 100000 in
theorem szNet_any (a : Option Addr) (lo b off n cap L : Nat) (A : Nat → AffD) (w : World) (hL : L ≤ 16777216) (hn : n ≤ 9223372036854775807) (H : Affs w lo a b off n A) :
    Calls Tryz.prog 6 #[.agg #[.slice a n cap], .int .i64 L] w fun e w' => e = .returned (.int .i64 (szl L (n + szA A n))) ∧ w.Since w.heap.size w' := by
  have sA : w.Since w.heap.size (w.alloc (.cells #[.slice a n cap] 24)) := (World.Since.refl _ _).alloc (Nat.le_refl _) _
  have J1 := szAffineS_any a lo b off n cap L A _ hL hn (H.keep sA)
  by_cases h : n + szA A n ≤ L
  · have E := hide (szl_ok h)
    rw [E.out] at J1 ⊢
    go_enter Tryz.func6, Tryz.ntmps6
    go_wp2_with fail
    refine J1.mono ?_
    rintro e w1 ⟨rfl, s1⟩
    go_wp2
    go_ret
    exact ⟨rfl, sA.trans (sinceMono s1 sA.size)⟩
  · have E := hide (szl_no (show L < n + szA A n by omega))
    rw [E.out] at J1 ⊢
    go_enter Tryz.func6, Tryz.ntmps6
    go_wp2_with fail
    refine J1.mono ?_
    rintro e w1 ⟨rfl, s1⟩
    go_wp2
    go_ret
    exact ⟨rfl, sA.trans (sinceMono s1 sA.size)⟩

end Go.Proofs.YthaomfabdghfjaaGreat

namespace Go.Proofs.YthaomfabdghfjaaGreat
open Go.RowKit

/-- 'make([]T, n)', T of several cells. -/
theorem run_make_wide {P : Program} (t e : TypeId) (z : Value) (size bytes : Nat) (ht : P.underlying t = some (.slice e)) (hinfo : (P.info? e).map (fun i => (i.zero, i.size, i.bytes)) = some (some z, size, bytes))
    (kl kc : IntKind) (n : Nat) (hbytes : bytes * n ≤ 281474976710656) (h63 : n ≤ 9223372036854775807) (w : World) :
    (Instr.makeSlice t (.int kl (n : Int)) (.int kc (n : Int))).run P w = .ok (.slice (some ⟨w.heap.size, 0, none⟩) n n) (w.alloc (.cells (madeCells z.cells (n * size)) e)) := by
  obtain ⟨i, hi, hzz⟩ := Option.map_eq_some_iff.1 hinfo
  simp only [Prod.mk.injEq] at hzz
  obtain ⟨hz, hs, hb⟩ := hzz
  have hb' : (i.bytes : Int) * (n : Int) ≤ 281474976710656 := by
    have h : ((i.bytes * n : Nat) : Int) ≤ 281474976710656 := by rw [hb]; omega
    rwa [Int.natCast_mul] at h
  have hr := run_make (P := P) w t e i z ht hi hz kl kc n n (by omega) (Int.le_refl _) hb' (by omega)
  simp only [Int.toNat_natCast, hs] at hr
  exact hr

/-- A block of N cells that may be written. -/
structure Room (w : World) (c N : Nat) : Prop where
  lt : c < w.heap.size
  cell : ∀ o, o < N → ∃ v, w.cell? ⟨c, o, none⟩ = some v
  f : ∀ o, w.frozen? ⟨c, o, none⟩ = false

theorem Room.new (w : World) (z : Array Value) (N : Nat) (t : TypeId) : Room (w.alloc (.cells (madeCells z N) t)) w.heap.size N :=
  ⟨by simp, fun o ho => ⟨_, by simp [go_sem, madeCells, ho]; rfl⟩, fun o => by simp [go_sem]⟩

theorem Room.keep {w w' : World} {c N : Nat} (h : Room w c N) (s : w.Since w.heap.size w') : Room w' c N :=
  ⟨Nat.lt_of_lt_of_le h.lt s.size, fun o ho => by obtain ⟨v, hv⟩ := h.cell o ho; exact ⟨v, (s.cell (a := ⟨c, o, none⟩) h.lt).trans hv⟩, fun o => (s.frozen (a := ⟨c, o, none⟩) h.lt).trans (h.f o)⟩

theorem Room.set {w : World} {c N : Nat} (h : Room w c N) (q : Nat) (v : Value) : Room (w.setCell ⟨c, q, none⟩ v) c N := by
  have M : Marked w (w.setCell ⟨c, q, none⟩ v) c := (Marked.refl w c).setCell q v
  refine ⟨by rw [M.size]; exact h.lt, fun o ho => ?_, fun o => by rw [M.frozen]; exact h.f o⟩
  obtain ⟨u, hu⟩ := h.cell o ho
  by_cases e : o = q
  · subst e; exact ⟨v, World.cell?_setCell_same _ _ _ hu⟩
  · exact ⟨u, (World.cell?_setCell_other _ _ _ _ (fun h => e (congrArg Addr.off h).symm)).trans hu⟩

theorem Room.marked {w w' : World} {c d N : Nat} (h : Room w c N) (s : Marked w w' d) (hc : c ≠ d) : Room w' c N :=
  ⟨by rw [s.size]; exact h.lt, fun o ho => by obtain ⟨v, hv⟩ := h.cell o ho; exact ⟨v, (s.cell (a := ⟨c, o, none⟩) hc).trans hv⟩, fun o => (s.frozenO (a := ⟨c, o, none⟩) hc).trans (h.f o)⟩

theorem cell_put {w : World} {c N : Nat} (h : Room w c N) {q : Nat} (hq : q < N) (v : Value) : (w.setCell ⟨c, q, none⟩ v).cell? ⟨c, q, none⟩ = some v := by
  obtain ⟨u, hu⟩ := h.cell q hq
  exact World.cell?_setCell_same _ _ _ hu

theorem cell_else (w : World) (c : Nat) {q o : Nat} (h : o ≠ q) (v : Value) : (w.setCell ⟨c, q, none⟩ v).cell? ⟨c, o, none⟩ = w.cell? ⟨c, o, none⟩ :=
  World.cell?_setCell_other _ _ _ _ (fun e => h (congrArg Addr.off e).symm)

/-- Three cells put down in a row. -/
theorem put3 {w : World} {c N q : Nat} (h : Room w c N) (hq : q + 2 < N) (x y z : Value) :
    ∃ w', w' = ((w.setCell ⟨c, q, none⟩ x).setCell ⟨c, q + 1, none⟩ y).setCell ⟨c, q + 2, none⟩ z ∧ Marked w w' c ∧ Room w' c N ∧ w'.cell? ⟨c, q, none⟩ = some x ∧ w'.cell? ⟨c, q + 1, none⟩ = some y ∧ w'.cell? ⟨c, q + 2, none⟩ = some z ∧
      ∀ o, o < q ∨ q + 2 < o → w'.cell? ⟨c, o, none⟩ = w.cell? ⟨c, o, none⟩ := by
  refine ⟨_, rfl, (((Marked.refl w c).setCell _ _).setCell _ _).setCell _ _, ((h.set _ _).set _ _).set _ _, ?_, ?_, ?_, fun o ho => ?_⟩
  · rw [cell_else _ _ (by omega), cell_else _ _ (by omega)]; exact cell_put h (by omega) x
  · rw [cell_else _ _ (by omega)]; exact cell_put (h.set _ _) (by omega) y
  · exact cell_put ((h.set _ _).set _ _) (by omega) z
  · rw [cell_else _ _ (by omega), cell_else _ _ (by omega), cell_else _ _ (by omega)]

/-- Four cells put down in a row. -/
theorem put4 {w : World} {c N q : Nat} (h : Room w c N) (hq : q + 3 < N) (x y z u : Value) :
    ∃ w', w' = (((w.setCell ⟨c, q, none⟩ x).setCell ⟨c, q + 1, none⟩ y).setCell ⟨c, q + 2, none⟩ z).setCell ⟨c, q + 3, none⟩ u ∧ Marked w w' c ∧ Room w' c N ∧ w'.cell? ⟨c, q, none⟩ = some x ∧ w'.cell? ⟨c, q + 1, none⟩ = some y ∧
      w'.cell? ⟨c, q + 2, none⟩ = some z ∧ w'.cell? ⟨c, q + 3, none⟩ = some u ∧ ∀ o, o < q ∨ q + 3 < o → w'.cell? ⟨c, o, none⟩ = w.cell? ⟨c, o, none⟩ := by
  refine ⟨_, rfl, ((((Marked.refl w c).setCell _ _).setCell _ _).setCell _ _).setCell _ _, (((h.set _ _).set _ _).set _ _).set _ _, ?_, ?_, ?_, ?_, fun o ho => ?_⟩
  · rw [cell_else _ _ (by omega), cell_else _ _ (by omega), cell_else _ _ (by omega)]; exact cell_put h (by omega) x
  · rw [cell_else _ _ (by omega), cell_else _ _ (by omega)]; exact cell_put (h.set _ _) (by omega) y
  · rw [cell_else _ _ (by omega)]; exact cell_put ((h.set _ _).set _ _) (by omega) z
  · exact cell_put (((h.set _ _).set _ _).set _ _) (by omega) u
  · rw [cell_else _ _ (by omega), cell_else _ _ (by omega), cell_else _ _ (by omega), cell_else _ _ (by omega)]

/-- A list of Rats grows by one in its room. -/
theorem Rats.put {w w' : World} {c k : Nat} {R : Nat → RatD} {a1 a2 : Option Addr} {k1 k2 : Nat} (h : Rats w (c + 1) (some ⟨c, 0, none⟩) c 0 k R) (M : Marked w w' c) (hc : ∀ o, o < k * 3 → w'.cell? ⟨c, o, none⟩ = w.cell? ⟨c, o, none⟩)
    (L : RatL w (c + 1) (R k) a1 a2 k1 k2) (c0 : w'.cell? ⟨c, k * 3, none⟩ = some (.bool (R k).neg)) (c1 : w'.cell? ⟨c, k * 3 + 1, none⟩ = some (.slice a1 (R k).n k1)) (c2 : w'.cell? ⟨c, k * 3 + 2, none⟩ = some (.slice a2 (R k).m k2)) :
    Rats w' (c + 1) (some ⟨c, 0, none⟩) c 0 (k + 1) R := fun i hi => by
  refine ⟨rfl, ?_⟩
  by_cases e : i = k
  · subst e
    exact ⟨a1, a2, k1, k2, by rw [Nat.zero_add]; exact c0, by rw [Nat.zero_add]; exact c1, by rw [Nat.zero_add]; exact c2, L.marked M (by omega)⟩
  · obtain ⟨-, b1, b2, l1, l2, m⟩ := h i (by omega)
    exact ⟨b1, b2, l1, l2, (hc _ (by omega)).trans m.c0, (hc _ (by omega)).trans m.c1, (hc _ (by omega)).trans m.c2, m.L.marked M (by omega)⟩

theorem info_Rat : (Tryz.prog.info? 70).map (fun i => (i.zero, i.size, i.bytes)) = some (some (.agg #[.bool false, .slice none 0 0, .slice none 0 0]), 3, 56) := by kernel_rfl

set_option maxHeartbeats 1600000 in
set_option maxRecDepth 100000 in
theorem toRatS_any (a : Option Addr) (lo b off n cap : Nat) (R : Nat → RatD) (w : World) (hn : n ≤ 16777216) (hs : szR R n ≤ 16777216) (H : Rats w lo a b off n R) :
    Calls Tryz.prog 10 #[.slice a n cap] w fun e w' => ∃ c, e = .returned (.slice (some ⟨c, 0, none⟩) n n) ∧ w.heap.size ≤ c ∧ c < w'.heap.size ∧ Rats w' (c + 1) (some ⟨c, 0, none⟩) c 0 n R ∧ w.Since w.heap.size w' := by
  have hmk := run_make_wide (P := Tryz.prog) 28 70 _ 3 56 Tryz.underlying28 info_Rat .i64 .i64 n (by omega) (by omega)
  have sA := (World.Since.refl w.heap.size w).alloc (Nat.le_refl _) (.cells (madeCells #[.bool false, .slice none 0 0, .slice none 0 0] (n * 3)) 70)
  have rA := Room.new w #[.bool false, .slice none 0 0, .slice none 0 0] (n * 3) 70
  go_enter Tryz.func10, Tryz.ntmps10
  go_wp2
  go_loopw [4] (fun i wr => ∃ k : Nat, k ≤ n ∧ i = .int .i64 k ∧ w.Since w.heap.size wr ∧ Room wr w.heap.size (n * 3) ∧ Rats wr (w.heap.size + 1) (some ⟨w.heap.size, 0, none⟩) w.heap.size 0 k R) (fun i _ => n - (intOf i).toNat)
  case atStart => exact ⟨0, Nat.zero_le _, rfl, sA, rA, fun i hi => absurd hi (by omega)⟩
  case round =>
    obtain ⟨k, hk, rfl, s, r, T⟩ := hrel
    by_cases hlt : k < n
    · obtain ⟨rfl, a1, a2, k1, k2, M⟩ := H k hlt
      have M' := M.keep s
      have g0 := M'.c0
      have g1 := M'.c1
      have g2 := M'.c2
      have hz : (k : Int) < (n : Int) := by omega
      have hsz := szR_at (R := R) hlt
      obtain ⟨ba, oa, -, LX⟩ := M'.L.LX
      obtain ⟨bb, ob, -, LY⟩ := M'.L.LY
      go_wp2_with fail
      refine (toRat_any (R k).neg a1 a2 ba oa (R k).n k1 bb ob (R k).m k2 (R k).X (R k).Y wr (by omega) (by omega) LX LY).mono ?_
      rintro e w2 ⟨g, h, rfl, s2, l1, l2, l3, LX2, LY2, -, -⟩
      have r2 := r.keep s2
      have T2 := T.keep s2
      have S2 : w.Since w.heap.size w2 := s.trans (sinceMono s2 s.size)
      obtain ⟨v0, u0⟩ := r2.cell (k * 3) (by omega)
      obtain ⟨v1, u1⟩ := r2.cell (k * 3 + 1) (by omega)
      obtain ⟨v2, u2⟩ := r2.cell (k * 3 + 2) (by omega)
      have f0 := r2.f (k * 3)
      have f1 := r2.f (k * 3 + 1)
      have f2 := r2.f (k * 3 + 2)
      have rl := r.lt
      clear g0 g1 g2
      go_wp2
      go_roundw
      case rel =>
        go_light
        obtain ⟨w3, e3, M3, R3, x0, x1, x2, xo⟩ := put3 (q := k * 3) r2 (by omega) (.bool (R k).neg) (.slice (some ⟨g, 0, none⟩) (R k).n (R k).n) (.slice (some ⟨h, 0, none⟩) (R k).m (R k).m)
        rw [← e3]
        exact ⟨k + 1, by omega, by go_num, S2.trans (M3.since (Nat.le_refl _)), R3, T2.put M3 (fun o ho => xo o (by omega)) ⟨Nat.le_refl _, Nat.le_refl _, (fun h => by cases h), (fun h => by cases h), ⟨g, 0, fun _ => by omega, LX2⟩, ⟨h, 0, fun _ => by omega, LY2⟩, M.L.lX, M.L.lY, M.L.n63, M.L.m63⟩ x0 x1 x2⟩
      case measure => simp [intOf]; omega
    · have e : k = n := by omega
      subst e
      have rl := r.lt
      go_wp2
      go_ret
      exact ⟨w.heap.size, rfl, Nat.le_refl _, rl, T, s⟩

/-- A list of affine maps grows by one in its room. -/
theorem Affs.put {w w' : World} {c k : Nat} {A : Nat → AffD} {a1 a2 : Option Addr} {k1 k2 : Nat} (h : Affs w (c + 1) (some ⟨c, 0, none⟩) c 0 k A) (M : Marked w w' c) (hc : ∀ o, o < k * 4 → w'.cell? ⟨c, o, none⟩ = w.cell? ⟨c, o, none⟩)
    (L : AffL w (c + 1) (A k) a1 a2 k1 k2) (c0 : w'.cell? ⟨c, k * 4, none⟩ = some (.int .i64 (A k).rows)) (c1 : w'.cell? ⟨c, k * 4 + 1, none⟩ = some (.int .i64 (A k).cols)) (c2 : w'.cell? ⟨c, k * 4 + 2, none⟩ = some (.slice a1 (A k).nw k1))
    (c3 : w'.cell? ⟨c, k * 4 + 3, none⟩ = some (.slice a2 (A k).nb k2)) :
    Affs w' (c + 1) (some ⟨c, 0, none⟩) c 0 (k + 1) A := fun i hi => by
  refine ⟨rfl, ?_⟩
  by_cases e : i = k
  · subst e
    exact ⟨a1, a2, k1, k2, by rw [Nat.zero_add]; exact c0, by rw [Nat.zero_add]; exact c1, by rw [Nat.zero_add]; exact c2, by rw [Nat.zero_add]; exact c3, L.marked M (by omega)⟩
  · obtain ⟨-, b1, b2, l1, l2, m⟩ := h i (by omega)
    exact ⟨b1, b2, l1, l2, (hc _ (by omega)).trans m.c0, (hc _ (by omega)).trans m.c1, (hc _ (by omega)).trans m.c2, (hc _ (by omega)).trans m.c3, m.L.marked M (by omega)⟩

theorem info_Affine : (Tryz.prog.info? 66).map (fun i => (i.zero, i.size, i.bytes)) = some (some (.agg #[.int .i64 0, .int .i64 0, .slice none 0 0, .slice none 0 0]), 4, 64) := by kernel_rfl
theorem size_Affine : (Tryz.prog.info? 66).map (·.size) = some 4 := by kernel_rfl
theorem size_Net : (Tryz.prog.info? 33).map (·.size) = some 1 := by kernel_rfl

set_option maxHeartbeats 3200000 in
set_option maxRecDepth 100000 in
theorem toAffine_any (d : AffD) (a1 a2 : Option Addr) (lo k1 k2 : Nat) (w : World) (hd : d.size ≤ 16777216) (H : AffL w lo d a1 a2 k1 k2) :
    Calls Tryz.prog 68 #[.agg #[.int .i64 d.rows, .int .i64 d.cols, .slice a1 d.nw k1, .slice a2 d.nb k2]] w fun e w' => ∃ b1 b2, e = .returned (.agg #[.int .i64 d.rows, .int .i64 d.cols, .slice b1 d.nw d.nw, .slice b2 d.nb d.nb]) ∧
      AffL w' w.heap.size d b1 b2 d.nw d.nb ∧ w.Since w.heap.size w' := by
  have ts := hd
  unfold AffD.size at ts
  have e1 : ∃ wA : World, wA = (((w.alloc (.cells #[.int .i64 d.rows, .int .i64 d.cols, .slice a1 d.nw k1, .slice a2 d.nb k2] 103)).alloc (.cells #[.int .i64 0, .int .i64 0, .slice none 0 0, .slice none 0 0] 66)).alloc (.cells #[.int .i64 d.rows, .int .i64 d.cols, .slice none 0 0, .slice none 0 0] 66)) := ⟨_, rfl⟩
  obtain ⟨wA, eA⟩ := e1
  have sA : w.Since w.heap.size wA := by rw [eA]; exact (((World.Since.refl _ _).alloc (Nat.le_refl _) _).alloc (by simp) _).alloc (by simp; omega) _
  have zA : wA.heap.size = w.heap.size + 1 + 1 + 1 := by rw [eA]; simp
  have bA : Box4 wA w.heap.size (.int .i64 d.rows) (.int .i64 d.cols) (.slice a1 d.nw k1) (.slice a2 d.nb k2) := by rw [eA]; exact ((Box4.new w _ _ _ _ _).keep ((World.Since.refl _ _).alloc (Nat.le_refl _) _)).keep ((World.Since.refl _ _).alloc (Nat.le_refl _) _)
  have rA : Box4 wA (w.heap.size + 1) (.int .i64 0) (.int .i64 0) (.slice none 0 0) (.slice none 0 0) := by
    rw [eA]
    have := (Box4.new (w.alloc (.cells #[.int .i64 d.rows, .int .i64 d.cols, .slice a1 d.nw k1, .slice a2 d.nb k2] 103)) (.int .i64 0) (.int .i64 0) (.slice none 0 0) (.slice none 0 0) 66).keep ((World.Since.refl _ _).alloc (Nat.le_refl _) (.cells #[.int .i64 d.rows, .int .i64 d.cols, .slice none 0 0, .slice none 0 0] 66))
    simpa using this
  have oA : Box4 wA (w.heap.size + 1 + 1) (.int .i64 d.rows) (.int .i64 d.cols) (.slice none 0 0) (.slice none 0 0) := by
    rw [eA]
    have := Box4.new ((w.alloc (.cells #[.int .i64 d.rows, .int .i64 d.cols, .slice a1 d.nw k1, .slice a2 d.nb k2] 103)).alloc (.cells #[.int .i64 0, .int .i64 0, .slice none 0 0, .slice none 0 0] 66)) (.int .i64 d.rows) (.int .i64 d.cols) (.slice none 0 0) (.slice none 0 0) 66
    simpa using this
  have HA := H.keep sA
  obtain ⟨ba, oa, -, LW⟩ := HA.LW
  obtain ⟨bb, ob, -, LB⟩ := HA.LB
  have EA := hide eA
  clear eA
  go_enter Tryz.func68, Tryz.ntmps68
  go_wp2_with fail
  rw [← EA.out]
  refine (toRatS_any a1 lo ba oa d.nw k1 d.W wA (by omega) (by omega) LW).mono ?_
  rintro e w1 ⟨g1, rfl, l1, l1', R1, s1⟩
  have S1 : w.Since w.heap.size w1 := sA.trans (sinceMono s1 sA.size)
  have B1 := bA.keep s1
  have Q1 := rA.keep s1
  have O1 := oA.keep s1
  have LB1 := LB.keep s1
  have b3 := B1.c3
  have o2 := O1.c2
  have f2 := O1.f 2
  have ll := B1.lt
  clear bA rA oA LW LB EA
  go_wp2_with fail
  have M2 : Marked w1 (w1.setCell ⟨w.heap.size + 1 + 1, 2, none⟩ (.slice (some ⟨g1, 0, none⟩) d.nw d.nw)) (w.heap.size + 1 + 1) := (Marked.refl w1 _).setCell _ _
  have O2 := O1.set2 (.slice (some ⟨g1, 0, none⟩) d.nw d.nw)
  have Q2 := Q1.marked M2 (by omega)
  have R2 := R1.marked M2 (by omega) (fun _ => by omega)
  have S2 := S1.trans (M2.since (B := w.heap.size) (by omega))
  have LB2 : Rats (w1.setCell ⟨w.heap.size + 1 + 1, 2, none⟩ (.slice (some ⟨g1, 0, none⟩) d.nw d.nw)) lo a2 bb ob d.nb d.B := by
    obtain ⟨bb', ob', -, L'⟩ := (H.keep S2).LB
    intro i hi
    obtain ⟨p1, -⟩ := LB1 i hi
    obtain ⟨q1, x1, x2, y1, y2, m⟩ := L' i hi
    obtain ⟨rfl, rfl⟩ : bb = bb' ∧ ob = ob' := by rw [p1] at q1; simpa using q1
    exact ⟨p1, x1, x2, y1, y2, m⟩
  have z2 := M2.size
  clear b3 o2 f2 B1 LB1 M2 O1 Q1 R1 S1
  generalize w1.setCell ⟨w.heap.size + 1 + 1, 2, none⟩ (.slice (some ⟨g1, 0, none⟩) d.nw d.nw) = w2 at *
  refine (toRatS_any a2 lo bb ob d.nb k2 d.B w2 (by omega) (by omega) LB2).mono ?_
  rintro e w3 ⟨g3, rfl, l3, l3', R3, s3⟩
  have S3 : w.Since w.heap.size w3 := S2.trans (sinceMono s3 S2.size)
  have Q3 := Q2.keep s3
  have O3 := O2.keep s3
  have R2' := R2.keep s3
  have o0 := O3.c0
  have o1 := O3.c1
  have o2 := O3.c2
  have o3 := O3.c3
  have of3 := O3.f 3
  have q0 := Q3.c0
  have q1 := Q3.c1
  have q2 := Q3.c2
  have q3 := Q3.c3
  have qf0 := Q3.f 0
  have qf1 := Q3.f 1
  have qf2 := Q3.f 2
  have qf3 := Q3.f 3
  clear LB2 R2 S2 O2 Q2
  have M4 : Marked w3 (w3.setCell ⟨w.heap.size + 1 + 1, 3, none⟩ (.slice (some ⟨g3, 0, none⟩) d.nb d.nb)) (w.heap.size + 1 + 1) := (Marked.refl w3 _).setCell _ _
  go_wp2
  have Q4 := ((((Q3.marked M4 (by omega)).set0 (.int .i64 d.rows)).set1 (.int .i64 d.cols)).set2 (.slice (some ⟨g1, 0, none⟩) d.nw d.nw)).set3 (.slice (some ⟨g3, 0, none⟩) d.nb d.nb)
  refine bodyPost_ret (results_box4T rfl Tryz.underlying66 rfl size_Affine _ _ _ _ _ _ _ rfl Q4) rfl ?_
  have M5 : Marked (w3.setCell ⟨w.heap.size + 1 + 1, 3, none⟩ (.slice (some ⟨g3, 0, none⟩) d.nb d.nb)) _ (w.heap.size + 1) := ((((Marked.refl _ _).setCell 0 (.int .i64 d.rows)).setCell 1 (.int .i64 d.cols)).setCell 2 (.slice (some ⟨g1, 0, none⟩) d.nw d.nw)).setCell 3 (.slice (some ⟨g3, 0, none⟩) d.nb d.nb)
  refine ⟨_, _, rfl, ⟨Nat.le_refl _, Nat.le_refl _, ⟨g1, 0, fun _ => by omega, ?_⟩, ⟨g3, 0, fun _ => by omega, ?_⟩, H.r0, H.r1, H.q0, H.q1, H.n63, H.m63⟩, (S3.trans (M4.since (by omega))).trans (M5.since (by omega))⟩
  · exact ((R2'.marked M4 (by omega) (fun _ => by omega)).marked M5 (by omega) (fun _ => by omega)).down (by omega)
  · exact ((R3.marked M4 (by omega) (fun _ => by omega)).marked M5 (by omega) (fun _ => by omega)).down (by omega)

end Go.Proofs.YthaomfabdghfjaaGreat

namespace Go.Proofs.YthaomfabdghfjaaGreat
open Go.RowKit

/-- A struct of six cells in a block of its own. -/
structure Box6 (w : World) (c : Nat) (x y z u v t : Value) : Prop where
  c0 : w.cell? ⟨c, 0, none⟩ = some x
  c1 : w.cell? ⟨c, 1, none⟩ = some y
  c2 : w.cell? ⟨c, 2, none⟩ = some z
  c3 : w.cell? ⟨c, 3, none⟩ = some u
  c4 : w.cell? ⟨c, 4, none⟩ = some v
  c5 : w.cell? ⟨c, 5, none⟩ = some t
  f : ∀ k, w.frozen? ⟨c, k, none⟩ = false

section
variable {w w' : World} {c d B : Nat} {x y z u v t : Value}
theorem Box6.lt (h : Box6 w c x y z u v t) : c < w.heap.size := World.block_lt_of_cell? _ _ h.c0
theorem Box6.new (w : World) (x y z u v t : Value) (T : TypeId) : Box6 (w.alloc (.cells #[x, y, z, u, v, t] T)) w.heap.size x y z u v t := ⟨by simp [go_sem], by simp [go_sem], by simp [go_sem], by simp [go_sem], by simp [go_sem], by simp [go_sem], fun k => by simp [go_sem]⟩
theorem Box6.since (h : Box6 w c x y z u v t) (s : w.Since B w') (hc : c < B) : Box6 w' c x y z u v t :=
  ⟨(s.cell (a := ⟨c, 0, none⟩) hc).trans h.c0, (s.cell (a := ⟨c, 1, none⟩) hc).trans h.c1, (s.cell (a := ⟨c, 2, none⟩) hc).trans h.c2, (s.cell (a := ⟨c, 3, none⟩) hc).trans h.c3, (s.cell (a := ⟨c, 4, none⟩) hc).trans h.c4, (s.cell (a := ⟨c, 5, none⟩) hc).trans h.c5, fun k => (s.frozen (a := ⟨c, k, none⟩) hc).trans (h.f k)⟩
theorem Box6.keep (h : Box6 w c x y z u v t) (s : w.Since w.heap.size w') : Box6 w' c x y z u v t := h.since s h.lt
theorem Box6.marked (h : Box6 w c x y z u v t) (s : Marked w w' d) (hc : c ≠ d) : Box6 w' c x y z u v t :=
  ⟨(s.cell (a := ⟨c, 0, none⟩) hc).trans h.c0, (s.cell (a := ⟨c, 1, none⟩) hc).trans h.c1, (s.cell (a := ⟨c, 2, none⟩) hc).trans h.c2, (s.cell (a := ⟨c, 3, none⟩) hc).trans h.c3, (s.cell (a := ⟨c, 4, none⟩) hc).trans h.c4, (s.cell (a := ⟨c, 5, none⟩) hc).trans h.c5, fun k => (s.frozenO (a := ⟨c, k, none⟩) hc).trans (h.f k)⟩
theorem Box6.set0 (h : Box6 w c x y z u v t) (q : Value) : Box6 (w.setCell ⟨c, 0, none⟩ q) c q y z u v t :=
  ⟨World.cell?_setCell_same _ _ _ h.c0, (World.cell?_setCell_other _ _ _ _ (by simp)).trans h.c1, (World.cell?_setCell_other _ _ _ _ (by simp)).trans h.c2, (World.cell?_setCell_other _ _ _ _ (by simp)).trans h.c3, (World.cell?_setCell_other _ _ _ _ (by simp)).trans h.c4, (World.cell?_setCell_other _ _ _ _ (by simp)).trans h.c5, fun k => by rw [((Marked.refl w c).setCell 0 q).frozen]; exact h.f k⟩
theorem Box6.set1 (h : Box6 w c x y z u v t) (q : Value) : Box6 (w.setCell ⟨c, 1, none⟩ q) c x q z u v t :=
  ⟨(World.cell?_setCell_other _ _ _ _ (by simp)).trans h.c0, World.cell?_setCell_same _ _ _ h.c1, (World.cell?_setCell_other _ _ _ _ (by simp)).trans h.c2, (World.cell?_setCell_other _ _ _ _ (by simp)).trans h.c3, (World.cell?_setCell_other _ _ _ _ (by simp)).trans h.c4, (World.cell?_setCell_other _ _ _ _ (by simp)).trans h.c5, fun k => by rw [((Marked.refl w c).setCell 1 q).frozen]; exact h.f k⟩
theorem Box6.set2 (h : Box6 w c x y z u v t) (q : Value) : Box6 (w.setCell ⟨c, 2, none⟩ q) c x y q u v t :=
  ⟨(World.cell?_setCell_other _ _ _ _ (by simp)).trans h.c0, (World.cell?_setCell_other _ _ _ _ (by simp)).trans h.c1, World.cell?_setCell_same _ _ _ h.c2, (World.cell?_setCell_other _ _ _ _ (by simp)).trans h.c3, (World.cell?_setCell_other _ _ _ _ (by simp)).trans h.c4, (World.cell?_setCell_other _ _ _ _ (by simp)).trans h.c5, fun k => by rw [((Marked.refl w c).setCell 2 q).frozen]; exact h.f k⟩
theorem Box6.set3 (h : Box6 w c x y z u v t) (q : Value) : Box6 (w.setCell ⟨c, 3, none⟩ q) c x y z q v t :=
  ⟨(World.cell?_setCell_other _ _ _ _ (by simp)).trans h.c0, (World.cell?_setCell_other _ _ _ _ (by simp)).trans h.c1, (World.cell?_setCell_other _ _ _ _ (by simp)).trans h.c2, World.cell?_setCell_same _ _ _ h.c3, (World.cell?_setCell_other _ _ _ _ (by simp)).trans h.c4, (World.cell?_setCell_other _ _ _ _ (by simp)).trans h.c5, fun k => by rw [((Marked.refl w c).setCell 3 q).frozen]; exact h.f k⟩
theorem Box6.set4 (h : Box6 w c x y z u v t) (q : Value) : Box6 (w.setCell ⟨c, 4, none⟩ q) c x y z u q t :=
  ⟨(World.cell?_setCell_other _ _ _ _ (by simp)).trans h.c0, (World.cell?_setCell_other _ _ _ _ (by simp)).trans h.c1, (World.cell?_setCell_other _ _ _ _ (by simp)).trans h.c2, (World.cell?_setCell_other _ _ _ _ (by simp)).trans h.c3, World.cell?_setCell_same _ _ _ h.c4, (World.cell?_setCell_other _ _ _ _ (by simp)).trans h.c5, fun k => by rw [((Marked.refl w c).setCell 4 q).frozen]; exact h.f k⟩
theorem Box6.set5 (h : Box6 w c x y z u v t) (q : Value) : Box6 (w.setCell ⟨c, 5, none⟩ q) c x y z u v q :=
  ⟨(World.cell?_setCell_other _ _ _ _ (by simp)).trans h.c0, (World.cell?_setCell_other _ _ _ _ (by simp)).trans h.c1, (World.cell?_setCell_other _ _ _ _ (by simp)).trans h.c2, (World.cell?_setCell_other _ _ _ _ (by simp)).trans h.c3, (World.cell?_setCell_other _ _ _ _ (by simp)).trans h.c4, World.cell?_setCell_same _ _ _ h.c5, fun k => by rw [((Marked.refl w c).setCell 5 q).frozen]; exact h.f k⟩
end

/-- A struct answer of six cells that lies in a box. -/
theorem results_box6T {fn : Func} {p : Tmp} {T : TypeId} {d : TypeDesc} (h : fn.results = #[.cell p T]) (hu : Tryz.prog.underlying T = some d) (hd : d.isRow = true) (hi : (Tryz.prog.info? T).map (·.size) = some 6) (tmps : Array Value) (w : World) (c : Nat) (x y z u v t : Value)
    (hp : tmps.getD p undef = .pointer (some ⟨c, 0, none⟩)) (B : Box6 w c x y z u v t) : (results fn tmps).run Tryz.prog w = .ok (.agg #[x, y, z, u, v, t]) w := by
  have hp' : tmps[p]?.getD undef = .pointer (some ⟨c, 0, none⟩) := by simpa using hp
  have hl := run_loadVar_mid (P := Tryz.prog) w c 0 T [x, y, z, u, v, t] d (fun j q hv => by
    rcases j with _ | _ | _ | _ | _ | _ | j
    · simp at hv; subst hv; exact B.c0
    · simp at hv; subst hv; exact B.c1
    · simp at hv; subst hv; exact B.c2
    · simp at hv; subst hv; exact B.c3
    · simp at hv; subst hv; exact B.c4
    · simp at hv; subst hv; exact B.c5
    · simp at hv) hu hd hi
  simp [results, h, hp', asAddr, hl]

/-- Six cells put down in a row. -/
theorem put6 {w : World} {c N q : Nat} (h : Room w c N) (hq : q + 5 < N) (x y z u v t : Value) :
    ∃ w', w' = (((((w.setCell ⟨c, q, none⟩ x).setCell ⟨c, q + 1, none⟩ y).setCell ⟨c, q + 2, none⟩ z).setCell ⟨c, q + 3, none⟩ u).setCell ⟨c, q + 4, none⟩ v).setCell ⟨c, q + 5, none⟩ t ∧ Marked w w' c ∧ Room w' c N ∧ w'.cell? ⟨c, q, none⟩ = some x ∧ w'.cell? ⟨c, q + 1, none⟩ = some y ∧ w'.cell? ⟨c, q + 2, none⟩ = some z ∧ w'.cell? ⟨c, q + 3, none⟩ = some u ∧ w'.cell? ⟨c, q + 4, none⟩ = some v ∧ w'.cell? ⟨c, q + 5, none⟩ = some t ∧
      ∀ o, o < q ∨ q + 5 < o → w'.cell? ⟨c, o, none⟩ = w.cell? ⟨c, o, none⟩ := by
  refine ⟨_, rfl, ((((((Marked.refl w c).setCell _ _).setCell _ _).setCell _ _).setCell _ _).setCell _ _).setCell _ _, (((((h.set _ _).set _ _).set _ _).set _ _).set _ _).set _ _, ?_, ?_, ?_, ?_, ?_, ?_, fun o ho => ?_⟩
  · rw [cell_else _ _ (by omega), cell_else _ _ (by omega), cell_else _ _ (by omega), cell_else _ _ (by omega), cell_else _ _ (by omega)]; exact cell_put h (by omega) x
  · rw [cell_else _ _ (by omega), cell_else _ _ (by omega), cell_else _ _ (by omega), cell_else _ _ (by omega)]; exact cell_put (h.set _ _) (by omega) y
  · rw [cell_else _ _ (by omega), cell_else _ _ (by omega), cell_else _ _ (by omega)]; exact cell_put ((h.set _ _).set _ _) (by omega) z
  · rw [cell_else _ _ (by omega), cell_else _ _ (by omega)]; exact cell_put (((h.set _ _).set _ _).set _ _) (by omega) u
  · rw [cell_else _ _ (by omega)]; exact cell_put ((((h.set _ _).set _ _).set _ _).set _ _) (by omega) v
  · exact cell_put (((((h.set _ _).set _ _).set _ _).set _ _).set _ _) (by omega) t
  · rw [cell_else _ _ (by omega), cell_else _ _ (by omega), cell_else _ _ (by omega), cell_else _ _ (by omega), cell_else _ _ (by omega), cell_else _ _ (by omega)]

/-- What a node holds. -/
structure NodeD where
  op : Int
  a : Int
  b : Int
  k : Int
  s : Int
  nv : Nat
  V : Nat → RatD

def NodeD.nul : NodeD := ⟨0, 0, 0, 0, 0, 0, fun _ => RatD.nul⟩

def NodeD.size (d : NodeD) : Nat := d.nv + szR d.V d.nv

def I64 (z : Int) : Prop := -9223372036854775808 ≤ z ∧ z ≤ 9223372036854775807

/-- A slice that holds a node's numbers, in blocks from lo on. -/
structure NodL (w : World) (lo : Nat) (d : NodeD) (a : Option Addr) (ca : Nat) : Prop where
  nc : d.nv ≤ ca
  LV : ∃ ba oa, (0 < d.nv → lo ≤ ba) ∧ Rats w lo a ba oa d.nv d.V
  iop : I64 d.op
  ia : I64 d.a
  ib : I64 d.b
  ik : I64 d.k
  is : I64 d.s
  n63 : d.nv ≤ 9223372036854775807

section
variable {w w' : World} {lo lo' b off n c : Nat} {d : NodeD} {a a1 : Option Addr} {k1 : Nat} {A : Nat → NodeD}

theorem NodL.keep (h : NodL w lo d a1 k1) (s : w.Since w.heap.size w') : NodL w' lo d a1 k1 := by
  obtain ⟨ba, oa, l1, LV⟩ := h.LV
  exact ⟨h.nc, ⟨ba, oa, l1, LV.keep s⟩, h.iop, h.ia, h.ib, h.ik, h.is, h.n63⟩
theorem NodL.down (h : NodL w lo d a1 k1) (hl : lo' ≤ lo) : NodL w lo' d a1 k1 := by
  obtain ⟨ba, oa, l1, LV⟩ := h.LV
  exact ⟨h.nc, ⟨ba, oa, fun h => Nat.le_trans hl (l1 h), LV.down hl⟩, h.iop, h.ia, h.ib, h.ik, h.is, h.n63⟩
theorem NodL.marked (h : NodL w lo d a1 k1) (s : Marked w w' c) (hc : c < lo) : NodL w' lo d a1 k1 := by
  obtain ⟨ba, oa, l1, LV⟩ := h.LV
  exact ⟨h.nc, ⟨ba, oa, l1, LV.marked s hc (fun h => by have := l1 h; omega)⟩, h.iop, h.ia, h.ib, h.ik, h.is, h.n63⟩

/-- A node that lies in memory. -/
structure NodM (w : World) (lo b off : Nat) (d : NodeD) (a1 : Option Addr) (k1 : Nat) : Prop where
  c0 : w.cell? ⟨b, off, none⟩ = some (.int .i64 d.op)
  c1 : w.cell? ⟨b, off + 1, none⟩ = some (.int .i64 d.a)
  c2 : w.cell? ⟨b, off + 2, none⟩ = some (.int .i64 d.b)
  c3 : w.cell? ⟨b, off + 3, none⟩ = some (.int .i64 d.k)
  c4 : w.cell? ⟨b, off + 4, none⟩ = some (.int .i64 d.s)
  c5 : w.cell? ⟨b, off + 5, none⟩ = some (.slice a1 d.nv k1)
  L : NodL w lo d a1 k1

theorem NodM.lt (h : NodM w lo b off d a1 k1) : b < w.heap.size := World.block_lt_of_cell? _ _ h.c0
theorem NodM.keep (h : NodM w lo b off d a1 k1) (s : w.Since w.heap.size w') : NodM w' lo b off d a1 k1 :=
  ⟨(s.cell (a := ⟨b, off, none⟩) h.lt).trans h.c0, (s.cell (a := ⟨b, off + 1, none⟩) h.lt).trans h.c1, (s.cell (a := ⟨b, off + 2, none⟩) h.lt).trans h.c2, (s.cell (a := ⟨b, off + 3, none⟩) h.lt).trans h.c3, (s.cell (a := ⟨b, off + 4, none⟩) h.lt).trans h.c4, (s.cell (a := ⟨b, off + 5, none⟩) h.lt).trans h.c5, h.L.keep s⟩
theorem NodM.down (h : NodM w lo b off d a1 k1) (hl : lo' ≤ lo) : NodM w lo' b off d a1 k1 := ⟨h.c0, h.c1, h.c2, h.c3, h.c4, h.c5, h.L.down hl⟩
theorem NodM.marked (h : NodM w lo b off d a1 k1) (s : Marked w w' c) (hc : c < lo) (hb : b ≠ c) : NodM w' lo b off d a1 k1 :=
  ⟨(s.cell (a := ⟨b, off, none⟩) hb).trans h.c0, (s.cell (a := ⟨b, off + 1, none⟩) hb).trans h.c1, (s.cell (a := ⟨b, off + 2, none⟩) hb).trans h.c2, (s.cell (a := ⟨b, off + 3, none⟩) hb).trans h.c3, (s.cell (a := ⟨b, off + 4, none⟩) hb).trans h.c4, (s.cell (a := ⟨b, off + 5, none⟩) hb).trans h.c5, h.L.marked s hc⟩

/-- A slice of nodes. -/
def Nods (w : World) (lo : Nat) (a : Option Addr) (b off n : Nat) (A : Nat → NodeD) : Prop :=
  ∀ i, i < n → a = some ⟨b, off, none⟩ ∧ ∃ a1 k1, NodM w lo b (off + i * 6) (A i) a1 k1

theorem Nods.keep (h : Nods w lo a b off n A) (s : w.Since w.heap.size w') : Nods w' lo a b off n A := fun i hi => by
  obtain ⟨h1, a1, k1, h2⟩ := h i hi
  exact ⟨h1, a1, k1, h2.keep s⟩
theorem Nods.down (h : Nods w lo a b off n A) (hl : lo' ≤ lo) : Nods w lo' a b off n A := fun i hi => by
  obtain ⟨h1, a1, k1, h2⟩ := h i hi
  exact ⟨h1, a1, k1, h2.down hl⟩
theorem Nods.marked (h : Nods w lo a b off n A) (s : Marked w w' c) (hc : c < lo) (hb : 0 < n → b ≠ c) : Nods w' lo a b off n A := fun i hi => by
  obtain ⟨h1, a1, k1, h2⟩ := h i hi
  exact ⟨h1, a1, k1, h2.marked s hc (hb (by omega))⟩

/-- A list of nodes grows by one in its room. -/
theorem Nods.put {k : Nat} (h : Nods w (c + 1) (some ⟨c, 0, none⟩) c 0 k A) (M : Marked w w' c) (hc : ∀ o, o < k * 6 → w'.cell? ⟨c, o, none⟩ = w.cell? ⟨c, o, none⟩)
    (L : NodL w (c + 1) (A k) a1 k1) (c0 : w'.cell? ⟨c, k * 6, none⟩ = some (.int .i64 (A k).op)) (c1 : w'.cell? ⟨c, k * 6 + 1, none⟩ = some (.int .i64 (A k).a)) (c2 : w'.cell? ⟨c, k * 6 + 2, none⟩ = some (.int .i64 (A k).b))
    (c3 : w'.cell? ⟨c, k * 6 + 3, none⟩ = some (.int .i64 (A k).k)) (c4 : w'.cell? ⟨c, k * 6 + 4, none⟩ = some (.int .i64 (A k).s)) (c5 : w'.cell? ⟨c, k * 6 + 5, none⟩ = some (.slice a1 (A k).nv k1)) :
    Nods w' (c + 1) (some ⟨c, 0, none⟩) c 0 (k + 1) A := fun i hi => by
  refine ⟨rfl, ?_⟩
  by_cases e : i = k
  · subst e
    exact ⟨a1, k1, by rw [Nat.zero_add]; exact c0, by rw [Nat.zero_add]; exact c1, by rw [Nat.zero_add]; exact c2, by rw [Nat.zero_add]; exact c3, by rw [Nat.zero_add]; exact c4, by rw [Nat.zero_add]; exact c5, L.marked M (by omega)⟩
  · obtain ⟨-, b1, l1, m⟩ := h i (by omega)
    exact ⟨b1, l1, (hc _ (by omega)).trans m.c0, (hc _ (by omega)).trans m.c1, (hc _ (by omega)).trans m.c2, (hc _ (by omega)).trans m.c3, (hc _ (by omega)).trans m.c4, (hc _ (by omega)).trans m.c5, m.L.marked M (by omega)⟩
end

/-- How much a list of nodes counts. -/
def szN (A : Nat → NodeD) : Nat → Nat
  | 0 => 0
  | n + 1 => szN A n + (A n).size

theorem szN_succ (A : Nat → NodeD) (n : Nat) : szN A (n + 1) = szN A n + (A n).size := rfl

theorem szN_mono {A : Nat → NodeD} {k n : Nat} (h : k ≤ n) : szN A k ≤ szN A n := by
  induction n with
  | zero => simp at h; subst h; exact Nat.le_refl _
  | succ n ih =>
    rcases Nat.lt_or_ge n k with h1 | h1
    · have : k = n + 1 := by omega
      subst this; exact Nat.le_refl _
    · have := ih h1
      rw [szN_succ]
      omega

theorem szN_at {A : Nat → NodeD} {k n : Nat} (h : k < n) : (A k).size ≤ szN A n := by
  have := szN_mono (A := A) (show k + 1 ≤ n from h)
  rw [szN_succ] at this
  omega

/-- What a graph holds. -/
structure GraphD where
  inn : Int
  rounds : Int
  nl : Nat
  Lo : Nat → RatD
  nh : Nat
  Hi : Nat → RatD
  nn : Nat
  N : Nat → NodeD
  out : Int

def GraphD.size (g : GraphD) : Nat := (g.nl + szR g.Lo g.nl) + (g.nh + szR g.Hi g.nh) + (g.nn + szN g.N g.nn)

/-- Three slices that hold a graph's lists, in blocks from lo on. -/
structure GraL (w : World) (lo : Nat) (g : GraphD) (aL aH aN : Option Addr) (kL kH kN : Nat) : Prop where
  lc : g.nl ≤ kL
  hc : g.nh ≤ kH
  nc : g.nn ≤ kN
  LL : ∃ b o, (0 < g.nl → lo ≤ b) ∧ Rats w lo aL b o g.nl g.Lo
  LH : ∃ b o, (0 < g.nh → lo ≤ b) ∧ Rats w lo aH b o g.nh g.Hi
  LN : ∃ b o, (0 < g.nn → lo ≤ b) ∧ Nods w lo aN b o g.nn g.N
  ii : I64 g.inn
  ir : I64 g.rounds
  io : I64 g.out
  l63 : g.nl ≤ 9223372036854775807
  h63 : g.nh ≤ 9223372036854775807
  n63 : g.nn ≤ 9223372036854775807

section
variable {w w' : World} {lo lo' c : Nat} {g : GraphD} {aL aH aN : Option Addr} {kL kH kN : Nat}
theorem GraL.keep (h : GraL w lo g aL aH aN kL kH kN) (s : w.Since w.heap.size w') : GraL w' lo g aL aH aN kL kH kN := by
  obtain ⟨b1, o1, l1, L1⟩ := h.LL
  obtain ⟨b2, o2, l2, L2⟩ := h.LH
  obtain ⟨b3, o3, l3, L3⟩ := h.LN
  exact ⟨h.lc, h.hc, h.nc, ⟨b1, o1, l1, L1.keep s⟩, ⟨b2, o2, l2, L2.keep s⟩, ⟨b3, o3, l3, L3.keep s⟩, h.ii, h.ir, h.io, h.l63, h.h63, h.n63⟩
theorem GraL.down (h : GraL w lo g aL aH aN kL kH kN) (hl : lo' ≤ lo) : GraL w lo' g aL aH aN kL kH kN := by
  obtain ⟨b1, o1, l1, L1⟩ := h.LL
  obtain ⟨b2, o2, l2, L2⟩ := h.LH
  obtain ⟨b3, o3, l3, L3⟩ := h.LN
  exact ⟨h.lc, h.hc, h.nc, ⟨b1, o1, fun h => Nat.le_trans hl (l1 h), L1.down hl⟩, ⟨b2, o2, fun h => Nat.le_trans hl (l2 h), L2.down hl⟩, ⟨b3, o3, fun h => Nat.le_trans hl (l3 h), L3.down hl⟩, h.ii, h.ir, h.io, h.l63, h.h63, h.n63⟩
theorem GraL.marked (h : GraL w lo g aL aH aN kL kH kN) (s : Marked w w' c) (hc : c < lo) : GraL w' lo g aL aH aN kL kH kN := by
  obtain ⟨b1, o1, l1, L1⟩ := h.LL
  obtain ⟨b2, o2, l2, L2⟩ := h.LH
  obtain ⟨b3, o3, l3, L3⟩ := h.LN
  exact ⟨h.lc, h.hc, h.nc, ⟨b1, o1, l1, L1.marked s hc (fun h => by have := l1 h; omega)⟩, ⟨b2, o2, l2, L2.marked s hc (fun h => by have := l2 h; omega)⟩, ⟨b3, o3, l3, L3.marked s hc (fun h => by have := l3 h; omega)⟩, h.ii, h.ir, h.io, h.l63, h.h63, h.n63⟩
end

end Go.Proofs.YthaomfabdghfjaaGreat
