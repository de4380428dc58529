import Derived.Test.YtcenondecckdfaaDoorG1P12
import Derived.Test.YtcenondecckdfaaDoorOwnP3
import Derived.Deep.RegionHeld3
import Derived.Test.YtcenondecckdfaaDoorG1P3
import Derived.Deep.RegionWith
import Derived.Test.YtcenondecckdfaaDoorG1P7
namespace Go.Proofs.YtcenondecckdfaaDoor
open Go.RowKit

/-- A list of limbs is plain: no zero limb at its end. -/
def plainB (X : Nat → Nat) (n : Nat) : Bool := n == 0 || X (n - 1) != 0

theorem plainB_iff {X : Nat → Nat} {n : Nat} : plainB X n = true ↔ (0 < n → X (n - 1) ≠ 0) := by
  unfold plainB
  rcases Nat.eq_zero_or_pos n with h | h
  · simp [h]
  · have : n ≠ 0 := by omega
    simp [this, h]

set_option maxHeartbeats 800000 in
set_option maxRecDepth 100000 in
theorem l1Plain_any (a : Option Addr) (b off n cap : Nat) (X : Nat → Nat) (w : World) (hn : n ≤ 1048576) (hX : Limbs w a b off n X) :
    Calls Tryd.prog 16 #[.slice a n cap] w fun e w' => e = .returned (.bool (plainB X n)) ∧ w' = w := by
  by_cases h0 : n = 0
  · subst h0
    go_enter Tryd.func16, Tryd.ntmps16
    go_wp2
    go_ret
    exact ⟨rfl, rfl⟩
  · obtain ⟨k, rfl⟩ : ∃ k, n = k + 1 := ⟨n - 1, by omega⟩
    obtain ⟨rfl, hc⟩ := hX k (by omega)
    have hp : Ending.returned (.bool ((k : Int) + 1 == 0 || (X k : Int) != 0)) = .returned (.bool (plainB X (k + 1))) := by
      have h : ((k : Int) + 1 == 0 || (X k : Int) != 0) = plainB X (k + 1) := by
        rw [Bool.eq_iff_iff]; simp [plainB]; omega
      rw [h]
    have hp := hide hp
    go_enter Tryd.func16, Tryd.ntmps16
    go_wp2
    go_ret
    exact ⟨hp.out, rfl⟩

set_option maxHeartbeats 800000 in
set_option maxRecDepth 100000 in
theorem isPlain_any (a : Option Addr) (b off n cap : Nat) (X : Nat → Nat) (w : World) (hn : n ≤ 1048576) (hX : Limbs w a b off n X) :
    Calls Tryd.prog 25 #[.slice a n cap] w fun e w' => e = .returned (.bool (plainB X n)) ∧ w' = w := by
  by_cases h0 : n = 0
  · subst h0
    go_enter Tryd.func25, Tryd.ntmps25
    go_wp2
    go_ret
    exact ⟨rfl, rfl⟩
  · obtain ⟨k, rfl⟩ : ∃ k, n = k + 1 := ⟨n - 1, by omega⟩
    obtain ⟨rfl, hc⟩ := hX k (by omega)
    have hp : Ending.returned (.bool ((k : Int) + 1 == 0 || (X k : Int) != 0)) = .returned (.bool (plainB X (k + 1))) := by
      have h : ((k : Int) + 1 == 0 || (X k : Int) != 0) = plainB X (k + 1) := by
        rw [Bool.eq_iff_iff]; simp [plainB]; omega
      rw [h]
    have hp := hide hp
    go_enter Tryd.func25, Tryd.ntmps25
    go_wp2
    go_ret
    exact ⟨hp.out, rfl⟩

set_option maxHeartbeats 800000 in
set_option maxRecDepth 100000 in
/-- l1Small on a list of at most one limb. -/
theorem l1Small_any (a : Option Addr) (b off n cap : Nat) (X : Nat → Nat) (w : World) (hn : n ≤ 1) (hX : Limbs w a b off n X) (hXl : ∀ j, j < n → X j < 4294967296) :
    Calls Tryd.prog 19 #[.slice a n cap] w fun e w' => e = .returned (.int .u64 (lv X n : Nat)) ∧ w' = w := by
  by_cases h0 : n = 0
  · subst h0
    go_enter Tryd.func19, Tryd.ntmps19
    go_wp2
    go_ret
    exact ⟨rfl, rfl⟩
  · have e : n = 1 := by omega
    subst e
    obtain ⟨rfl, hc⟩ := hX 0 (by omega)
    have hl := hXl 0 (by omega)
    rw [Nat.add_zero] at hc
    have he : lv X 1 = X 0 := by simp [lv]
    rw [he]
    clear he hXl
    go_enter Tryd.func19, Tryd.ntmps19
    go_wp2
    go_ret
    exact ⟨rfl, rfl⟩

set_option maxHeartbeats 800000 in
set_option maxRecDepth 100000 in
theorem l1GcdSmall_any (x y : Nat) (w : World) (hx : x < 18446744073709551616) (hy : y < 18446744073709551616) :
    Calls Tryd.prog 18 #[.int .u64 x, .int .u64 y] w fun e w' => e = .returned (.int .u64 (Nat.gcd x y)) ∧ w' = w := by
  go_enter Tryd.func18, Tryd.ntmps18
  go_wp2
  go_loopw [0, 1] (fun p q wr => ∃ s t : Nat, p = .int .u64 s ∧ q = .int .u64 t ∧ s < 18446744073709551616 ∧ t < 18446744073709551616 ∧ Hid (Nat.gcd s t = Nat.gcd x y) ∧ wr = w) (fun _ q _ => (intOf q).toNat)
  case atStart => exact ⟨x, y, rfl, rfl, hx, hy, rfl, rfl⟩
  case round =>
    obtain ⟨s, t, rfl, rfl, hs, ht, HG, rfl⟩ := hrel
    by_cases h0 : t = 0
    · subst h0
      go_wp2
      go_ret
      exact ⟨ret_int (congrArg (fun x : Nat => (x : Int)) (by have := HG.out; rwa [Nat.gcd_zero_right] at this)), rfl⟩
    · have hne : ((t : Int) == 0) = false := by simp; omega
      have hne2 : ¬ (t : Int) = 0 := by omega
      obtain ⟨r, hr⟩ : ∃ r, r = s % t := ⟨_, rfl⟩
      have hrl : r < t := by rw [hr]; exact Nat.mod_lt _ (by omega)
      have w1 : IntKind.u64.wrap ((s : Int) % (t : Int)) = (r : Int) := by rw [← Int.natCast_emod, ← hr]; exact wrap_u64_id r (by omega)
      have HR := hide hr
      clear hr h0
      go_wp2
      go_roundw
      case rel =>
        refine ⟨t, r, rfl, ?_, ht, by omega, ?_, by trivial⟩
        · first | rfl | exact congrArg (Value.int .u64) (by rw [HR.out, Int.natCast_emod])
        · have h := HG.out
          rw [Nat.gcd_comm, Nat.gcd_rec, ← HR.out, Nat.gcd_comm] at h
          exact h
      case measure => simp [intOf]; have := Int.emod_lt_of_pos (s : Int) (show (0 : Int) < (t : Int) by omega); omega

end Go.Proofs.YtcenondecckdfaaDoor

namespace Go.Proofs.YtcenondecckdfaaDoor
open Go.RowKit

/-- What RatOk says of a Rat. -/
def ratOkB (neg : Bool) (X : Nat → Nat) (n : Nat) (Y : Nat → Nat) (m : Nat) : Bool :=
  plainB X n && plainB Y m && m != 0 && !(neg && n == 0) && Nat.gcd (lv X n) (lv Y m) == 1

set_option maxHeartbeats 1600000 in
set_option maxRecDepth 100000 in
theorem implRatOk_any (neg : Bool) (a b : Option Addr) (ba oa n ca bb ob m cb : Nat) (X Y : Nat → Nat) (w : World) (_hw : 0 ≤ w.heap.size) (hn : n ≤ 1048576) (hm : m ≤ 1048576) (hnc : n ≤ ca) (hmc : m ≤ cb) (hac : a = none → ca = 0) (hbc : b = none → cb = 0)
    (hX : Limbs w a ba oa n X) (hY : Limbs w b bb ob m Y) (hXl : ∀ j, j < n → X j < 4294967296) (hYl : ∀ j, j < m → Y j < 4294967296) (_hT : Tab w) :
    Calls Tryd.prog 13 #[.agg #[.bool neg, .slice a n ca, .slice b m cb]] w fun e w' => e = .returned (.bool (ratOkB neg X n Y m)) ∧ w.Since w.heap.size w' := by
  have sA : w.Since w.heap.size (w.alloc (.cells #[.bool neg, .slice a n ca, .slice b m cb] 27)) := (World.Since.refl _ _).alloc (Nat.le_refl _) _
  have I1 := isPlain_any a ba oa n ca X _ hn (hX.keep sA)
  have I2 := isPlain_any b bb ob m cb Y _ hm (hY.keep sA)
  by_cases h1 : plainB X n = false
  · have HR := hide (show false = ratOkB neg X n Y m by simp [ratOkB, h1])
    rw [h1] at I1
    clear h1
    go_enter Tryd.func13, Tryd.ntmps13
    go_wp2_with fail
    refine I1.mono ?_
    rintro e w1 ⟨rfl, rfl⟩
    go_wp2
    go_ret
    exact ⟨ret_bool HR.out, sA⟩
  have h1 : plainB X n = true := by simpa using h1
  rw [h1] at I1
  by_cases h2 : plainB Y m = false
  · have HR := hide (show false = ratOkB neg X n Y m by simp [ratOkB, h2])
    rw [h2] at I2
    clear h1 h2
    go_enter Tryd.func13, Tryd.ntmps13
    go_wp2_with fail
    refine I1.mono ?_
    rintro e w1 ⟨rfl, rfl⟩
    go_wp2_with fail
    refine I2.mono ?_
    rintro e w1 ⟨rfl, rfl⟩
    go_wp2
    go_ret
    exact ⟨ret_bool HR.out, sA⟩
  have h2 : plainB Y m = true := by simpa using h2
  rw [h2] at I2
  have pX := hide (plainB_iff.1 h1)
  have pY := hide (plainB_iff.1 h2)
  by_cases h3 : m = 0
  · have HR := hide (show false = ratOkB neg X n Y m by simp [ratOkB, h3])
    clear h1 h2
    subst h3
    go_enter Tryd.func13, Tryd.ntmps13
    go_wp2_with fail
    refine I1.mono ?_
    rintro e w1 ⟨rfl, rfl⟩
    go_wp2_with fail
    refine I2.mono ?_
    rintro e w1 ⟨rfl, rfl⟩
    go_wp2
    go_ret
    exact ⟨ret_bool HR.out, sA⟩
  have q3 : ((m : Int) == 0) = false := by simp; omega
  by_cases h4 : neg = true ∧ n = 0
  · obtain ⟨rfl, rfl⟩ := h4
    have HR := hide (show false = ratOkB true X 0 Y m by simp [ratOkB])
    clear h1 h2
    go_enter Tryd.func13, Tryd.ntmps13
    go_wp2_with fail
    refine I1.mono ?_
    rintro e w1 ⟨rfl, rfl⟩
    go_wp2_with fail
    refine I2.mono ?_
    rintro e w1 ⟨rfl, rfl⟩
    go_wp2
    go_ret
    exact ⟨ret_bool HR.out, sA⟩
  have HR := hide (show (decide (Nat.gcd (lv X n) (lv Y m) = 1)) = ratOkB neg X n Y m by
    have e3 : (m != 0) = true := by simp [h3]
    have e4 : (neg && n == 0) = false := by cases neg <;> simp at h4 ⊢; exact h4
    rw [Bool.eq_iff_iff]
    simp [ratOkB, h1, h2, e3, e4])
  have q4 : (neg && (n : Int) == 0) = false := by
    cases neg
    · rfl
    · simp at h4 ⊢; omega
  have tA : Tab (w.alloc (.cells #[.bool neg, .slice a n ca, .slice b m cb] 27)) := trivial
  have I3 := gcdOf_any a b ba oa n ca bb ob m cb X Y _ (Nat.zero_le _) hn hm hnc hmc hac hbc (hX.keep sA) (hY.keep sA) hXl hYl pX.out pY.out tA
  clear h1 h2 h4 tA
  go_enter Tryd.func13, Tryd.ntmps13
  go_wp2_with fail
  refine I1.mono ?_
  rintro e w1 ⟨rfl, rfl⟩
  go_wp2_with fail
  refine I2.mono ?_
  rintro e w1 ⟨rfl, rfl⟩
  cases neg
  · clear q4
    go_wp2_with fail
    refine I3.mono ?_
    rintro e w3 ⟨v, g, rfl, ⟨a3, k, c3, Z, rfl, k1, k2, k3, L, F, l, p, e3⟩, hg, s3⟩
    have E := hide e3
    clear e3 I1 I2 I3
    go_wp2_with fail
    refine (isOne_any w3.heap.size 0 a3 g 0 k c3 Z _ (by simp [go_sem]) (L.keep ((World.Since.refl _ _).alloc (Nat.le_refl _) _)) l p).mono ?_
    rintro e w4 ⟨rfl, rfl⟩
    clear l p
    go_wp2
    go_ret
    exact ⟨ret_bool (by rw [E.out]; exact HR.out), (sA.trans (sinceMono s3 (by simp))).alloc (Nat.le_trans (by simp) s3.size) _⟩
  · have q5 : ((n : Int) == 0) = false := by simpa using q4
    clear q4
    go_wp2_with fail
    refine I3.mono ?_
    rintro e w3 ⟨v, g, rfl, ⟨a3, k, c3, Z, rfl, k1, k2, k3, L, F, l, p, e3⟩, hg, s3⟩
    have E := hide e3
    clear e3 I1 I2 I3
    go_wp2_with fail
    refine (isOne_any w3.heap.size 0 a3 g 0 k c3 Z _ (by simp [go_sem]) (L.keep ((World.Since.refl _ _).alloc (Nat.le_refl _) _)) l p).mono ?_
    rintro e w4 ⟨rfl, rfl⟩
    clear l p
    go_wp2
    go_ret
    exact ⟨ret_bool (by rw [E.out]; exact HR.out), (sA.trans (sinceMono s3 (by simp))).alloc (Nat.le_trans (by simp) s3.size) _⟩

end Go.Proofs.YtcenondecckdfaaDoor

namespace Go.Proofs.YtcenondecckdfaaDoor
open Go.RowKit

/-- The bits of a machine number. -/
def nb (v j : Nat) : Bool := v / 2 ^ j % 2 == 1

theorem bv_nb (v k : Nat) : bv (nb v) k = v % 2 ^ k := by
  induction k with
  | zero => simp [bv, Nat.mod_one]
  | succ k ih =>
    have h : bv (nb v) (k + 1) = bv (nb v) k + (nb v k).toNat * 2 ^ k := rfl
    rw [h, ih]
    unfold nb
    rw [toNat_beq, Nat.pow_succ, Nat.mod_mul, Nat.mul_comm (2 ^ k)]

set_option maxHeartbeats 1600000 in
set_option maxRecDepth 100000 in
theorem l1BitsOf_any (v : Nat) (w : World) (hv : v < 18446744073709551616) :
    Calls Tryd.prog 23 #[.int .u64 v] w fun e w' => ∃ x t B, e = .returned x ∧ t ≤ 64 ∧ Tr w' x t B ∧ bv B t = v ∧ w.Since w.heap.size w' := by
  obtain ⟨i0, hi, hz0, hz1, hz2⟩ := info_parts Tryd.info4
  go_enter Tryd.func23, Tryd.ntmps23
  go_wp2
  go_loopw [0, 3] (fun p o wr => ∃ k q : Nat, k ≤ 64 ∧ p = .int .u64 q ∧ q < 18446744073709551616 ∧ Hid (q = v / 2 ^ k) ∧ Hid (0 < k → 0 < v / 2 ^ (k - 1)) ∧ wr.ownsRow w.heap.size 4 1 o k (bl (nb v) k) ∧ w.Since w.heap.size wr) (fun p _ _ => (intOf p).toNat)
  case atStart => exact ⟨0, v, by omega, rfl, hv, hide (by simp), hide (fun h => absurd h (by omega)), World.ownsRow_made w #[] 0 (Nat.le_refl _) (by decide) rfl, (World.Since.refl _ _).alloc (Nat.le_refl _) _⟩
  case round =>
    obtain ⟨k, q, hk, rfl, hq, HQ, HP, hown, hs⟩ := hrel
    by_cases h0 : q = 0
    · subst h0
      obtain ⟨a', g, cap', rfl, hmc, hg, hB⟩ := own_bits hown
      go_wp2
      go_ret
      have hlt : v < 2 ^ k := by
        have := HQ.out
        have h2 : 0 < 2 ^ k := Nat.pow_pos (by omega)
        rcases Nat.lt_or_ge v (2 ^ k) with h | h
        · exact h
        · have := Nat.div_pos h h2; omega
      refine ⟨_, k, nb v, rfl, hk, ⟨a', g, 0, cap', rfl, hmc, hB, fun h => ?_⟩, (bv_nb v k).trans (Nat.mod_eq_of_lt hlt), hs⟩
      have h1 := HP.out h
      obtain ⟨j, rfl⟩ : ∃ j, k = j + 1 := ⟨k - 1, by omega⟩
      have h2 : v / 2 ^ j < 2 := by rw [Nat.div_lt_iff_lt_mul (Nat.pow_pos (by omega))]; rw [Nat.pow_succ] at hlt; omega
      simp only [Nat.add_sub_cancel] at h1 ⊢
      unfold nb
      rw [show v / 2 ^ j = 1 by omega]
      rfl
    · have hk2 : k < 64 := by
        rcases Nat.lt_or_ge k 64 with h | h
        · exact h
        · have e : k = 64 := by omega
          subst e
          have := HQ.out
          rw [Nat.div_eq_of_lt hv] at this
          omega
      have hne : 0 < q := by omega
      have hbit : ((q : Int) % 2 == 1) = nb v k := by
        rw [Bool.eq_iff_iff]
        simp only [nb, beq_iff_eq, ← HQ.out]
        omega
      have HB := hide hbit
      clear hbit h0
      go_wp2_with (at_builtin; refine wpList_append_own _ rfl _ _ 40 rfl w.heap.size 4 i0 (.bool false) 1 1 Tryd.underlying40 hi hz0 hz1 hz2 rfl (by decide) _ _ _ rfl (hown.alloc _) ⟨wr.heap.size, 0, none⟩ 1 1 [.bool ((q : Int) % 2 == 1)] rfl rfl (new_cell _ _ _) (one_one _ rfl) (by unfold maxLen; omega) (by omega) (by have := hs.size; simp; omega) ?_)
      intro v' w1 hown' hgrow _
      have hs1 : w.Since w.heap.size w1 := (hs.alloc hs.size _).grown hgrow (by have := hs.size; simp; omega) (fun k hk => (hown.lt k hk).1)
      rw [HB.out, ← bl_succ] at hown'
      clear hgrow hown hs
      go_wp2
      go_roundw
      case rel => exact ⟨k + 1, q / 2, by omega, by go_num, by omega, hide (by rw [HQ.out, Nat.div_div_eq_div_mul, Nat.pow_succ]), hide (fun _ => by rw [Nat.add_sub_cancel, ← HQ.out]; exact hne), hown', hs1⟩
      case measure => simp [intOf]; omega

/-- What l1IsSmall says. -/
def smallB (X : Nat → Nat) (n : Nat) (Y : Nat → Nat) (m : Nat) : Bool := decide (n ≤ 1 ∧ m ≤ 1 ∧ lv X n < 2147483648 ∧ lv Y m < 2147483648)

theorem smallB_iff {X Y : Nat → Nat} {n m : Nat} : smallB X n Y m = true ↔ n ≤ 1 ∧ m ≤ 1 ∧ lv X n < 2147483648 ∧ lv Y m < 2147483648 := by unfold smallB; exact decide_eq_true_iff

theorem smallB_not {X Y : Nat → Nat} {n m : Nat} (h : ¬ (n ≤ 1 ∧ m ≤ 1 ∧ lv X n < 2147483648 ∧ lv Y m < 2147483648)) : false = smallB X n Y m := by
  cases e : smallB X n Y m
  · rfl
  · exact absurd (smallB_iff.1 e) h

set_option maxHeartbeats 1600000 in
set_option maxRecDepth 100000 in
theorem l1IsSmall_any (neg : Bool) (a b : Option Addr) (ba oa n ca bb ob m cb : Nat) (X Y : Nat → Nat) (w : World) (hn : n ≤ 1048576) (hm : m ≤ 1048576)
    (hX : Limbs w a ba oa n X) (hY : Limbs w b bb ob m Y) (hXl : ∀ j, j < n → X j < 4294967296) (hYl : ∀ j, j < m → Y j < 4294967296) :
    Calls Tryd.prog 17 #[.agg #[.bool neg, .slice a n ca, .slice b m cb]] w fun e w' => e = .returned (.bool (smallB X n Y m)) ∧ w.Since w.heap.size w' := by
  have sA : w.Since w.heap.size (w.alloc (.cells #[.bool neg, .slice a n ca, .slice b m cb] 27)) := (World.Since.refl _ _).alloc (Nat.le_refl _) _
  by_cases h1 : 1 < n
  · have HR := hide (smallB_not (X := X) (Y := Y) (n := n) (m := m) (by omega))
    go_enter Tryd.func17, Tryd.ntmps17
    go_wp2
    go_ret
    exact ⟨ret_bool HR.out, sA⟩
  by_cases h2 : 1 < m
  · have HR := hide (smallB_not (X := X) (Y := Y) (n := n) (m := m) (by omega))
    go_enter Tryd.func17, Tryd.ntmps17
    go_wp2
    go_ret
    exact ⟨ret_bool HR.out, sA⟩
  have I1 := l1Small_any a ba oa n ca X _ (by omega) (hX.keep sA) hXl
  have I2 := l1Small_any b bb ob m cb Y _ (by omega) (hY.keep sA) hYl
  have h1 : n ≤ 1 := by omega
  have h2 : m ≤ 1 := by omega
  obtain ⟨x, hx⟩ : ∃ x : Int, x = ((lv X n : Nat) : Int) := ⟨_, rfl⟩
  obtain ⟨y, hy⟩ : ∃ y : Int, y = ((lv Y m : Nat) : Int) := ⟨_, rfl⟩
  rw [← hx] at I1
  rw [← hy] at I2
  have HR : Hid ((decide (x < 2147483648) && decide (y < 2147483648)) = smallB X n Y m) := by
    show _ = _
    rw [Bool.eq_iff_iff, Bool.and_eq_true, decide_eq_true_iff, decide_eq_true_iff, smallB_iff]
    omega
  clear hX hY hXl hYl hx hy
  by_cases h3 : x < 2147483648
  · have HR : Hid (decide (y < 2147483648) = smallB X n Y m) := by rw [← HR.out]; simp [Hid, h3]
    go_enter Tryd.func17, Tryd.ntmps17
    go_wp2_with fail
    refine I1.mono ?_
    rintro e w1 ⟨rfl, rfl⟩
    go_wp2_with fail
    refine I2.mono ?_
    rintro e w1 ⟨rfl, rfl⟩
    go_wp2
    go_ret
    exact ⟨ret_bool HR.out, sA⟩
  · have HR : Hid (false = smallB X n Y m) := by rw [← HR.out]; simp [Hid, h3]
    go_enter Tryd.func17, Tryd.ntmps17
    go_wp2_with fail
    refine I1.mono ?_
    rintro e w1 ⟨rfl, rfl⟩
    go_wp2
    go_ret
    exact ⟨ret_bool HR.out, sA⟩

end Go.Proofs.YtcenondecckdfaaDoor

namespace Go.Proofs.YtcenondecckdfaaDoor
open Go.RowKit

theorem box3 (w : World) (x y z : Value) (t : TypeId) : (w.alloc (.cells #[x, y, z] t)).cell? ⟨w.heap.size, 0, none⟩ = some x ∧ (w.alloc (.cells #[x, y, z] t)).cell? ⟨w.heap.size, 1, none⟩ = some y ∧ (w.alloc (.cells #[x, y, z] t)).cell? ⟨w.heap.size, 2, none⟩ = some z := by
  simp [go_sem]

theorem cmpN_one (x : Nat) : (cmpN x 1 == 0) = decide (x = 1) := by
  rw [Bool.eq_iff_iff]
  simp only [beq_iff_eq, decide_eq_true_eq]
  constructor
  · intro h
    rcases Nat.lt_trichotomy x 1 with h1 | h1 | h1
    · rw [cmpN_lt h1] at h; cases h
    · exact h1
    · rw [cmpN_gt h1] at h; cases h
  · intro h; exact cmpN_eq h

set_option maxHeartbeats 1600000 in
set_option maxRecDepth 100000 in
theorem specRatOk_small_z (neg : Bool) (a b : Option Addr) (ba oa n ca bb ob m cb : Nat) (X Y : Nat → Nat) (w : World) (hn : n ≤ 1048576) (hm : m ≤ 1048576)
    (hX : Limbs w a ba oa n X) (hY : Limbs w b bb ob m Y) (hXl : ∀ j, j < n → X j < 4294967296) (hYl : ∀ j, j < m → Y j < 4294967296) (h1 : plainB X n = true) (h2 : plainB Y m = true) (h3 : ¬ m = 0) (h4 : ¬ (n = 0 ∧ neg = true)) (hs : smallB X n Y m = true) (h5 : n = 0) :
    Calls Tryd.prog 10 #[.agg #[.bool neg, .slice a n ca, .slice b m cb]] w fun e w' => e = .returned (.bool (ratOkB neg X n Y m)) ∧ w.Since w.heap.size w' := by
  have sA : w.Since w.heap.size (w.alloc (.cells #[.bool neg, .slice a n ca, .slice b m cb] 27)) := (World.Since.refl _ _).alloc (Nat.le_refl _) _
  have I1 := l1Plain_any a ba oa n ca X _ hn (hX.keep sA)
  have I2 := l1Plain_any b bb ob m cb Y _ hm (hY.keep sA)
  rw [h1] at I1
  rw [h2] at I2
  have q3 : ((m : Int) == 0) = false := by simp; omega
  have HR := hide (show (decide (Nat.gcd (lv X n) (lv Y m) = 1)) = ratOkB neg X n Y m by
    have e3 : (m != 0) = true := by simp [h3]
    have e4 : (neg && n == 0) = false := by cases neg <;> simp at h4 ⊢; exact h4
    rw [Bool.eq_iff_iff]
    simp [ratOkB, h1, h2, e3, e4])
  obtain ⟨c0, c1, c2⟩ := box3 w (.bool neg) (.slice a n ca) (.slice b m cb) 27
  have I3 := l1IsSmall_any neg a b ba oa n ca bb ob m cb X Y _ hn hm (hX.keep sA) (hY.keep sA) hXl hYl
  have HN : Hid (n = 0 → neg = false) := fun h => by cases neg; rfl; exact absurd ⟨h, rfl⟩ h4
  clear h1 h2 h4
  have XA := hX.keep sA
  have YA := hY.keep sA
  obtain ⟨y1, y2, z3, z4⟩ := smallB_iff.1 hs
  have v1 : lv X n < 18446744073709551616 := by omega
  have v2 : lv Y m < 18446744073709551616 := by omega
  have V := hide (And.intro v1 v2)
  rw [hs] at I3
  clear hs z3 z4 v1 v2
  have h6 := HN.out h5
  subst h5 h6
  go_enter Tryd.func10, Tryd.ntmps10
  go_wp2_with fail
  refine I1.mono ?_
  rintro e w1 ⟨rfl, rfl⟩
  go_wp2_with fail
  refine I2.mono ?_
  rintro e w1 ⟨rfl, rfl⟩
  clear I1 I2
  generalize w.alloc (.cells #[.bool false, .slice a 0 ca, .slice b m cb] 27) = wA at *
  go_wp2_with fail
  refine I3.mono ?_
  rintro e w1 ⟨rfl, s1⟩
  clear I3
  have zA : w.heap.size < wA.heap.size := World.block_lt_of_cell? _ _ c0
  have d1 : w1.cell? ⟨w.heap.size, 1, none⟩ = some (.slice a 0 ca) := (s1.cell (a := ⟨w.heap.size, 1, none⟩) zA).trans c1
  have d2 : w1.cell? ⟨w.heap.size, 2, none⟩ = some (.slice b m cb) := (s1.cell (a := ⟨w.heap.size, 2, none⟩) zA).trans c2
  have S1 : w.Since w.heap.size w1.drew := by have h := sA.trans (sinceMono s1 sA.size); exact ⟨h.os, h.tape, h.output, h.size, h.block⟩
  have z1 : w.heap.size < w1.drew.heap.size := Nat.lt_of_lt_of_le zA s1.size
  have X0 := XA.keep s1
  have Y0 := YA.keep s1
  have X1 : Limbs w1.drew a ba oa 0 X := X0
  have Y1 : Limbs w1.drew b bb ob m Y := Y0
  have XL := hide hXl
  have YL := hide hYl
  clear hXl hYl XA YA s1 c0 c1 c2 X0 Y0
  go_wp2
  have J1 := l1Small_any a ba oa 0 ca X w1.drew y1 X1 XL.out
  have J2 := l1Small_any b bb ob m cb Y w1.drew y2 Y1 YL.out
  have J3 := l1GcdSmall_any (lv X 0) (lv Y m) w1.drew V.out.1 V.out.2
  clear V XL YL X1 Y1
  obtain ⟨gg, hgg⟩ : ∃ gg, gg = Nat.gcd (lv X 0) (lv Y m) := ⟨_, rfl⟩
  obtain ⟨xx, hxx⟩ : ∃ xx, xx = lv X 0 := ⟨_, rfl⟩
  obtain ⟨yy, hyy⟩ : ∃ yy, yy = lv Y m := ⟨_, rfl⟩
  have HR : Hid (decide (gg = 1) = ratOkB false X 0 Y m) := by rw [hgg]; exact HR.out
  rw [← hgg, ← hxx, ← hyy] at J3
  rw [← hxx] at J1
  rw [← hyy] at J2
  clear hgg hxx hyy
  go_region_held3 (fun w' => w'.cell? ⟨w.heap.size, 1, none⟩ = some (.slice a 0 ca) ∧ w'.cell? ⟨w.heap.size, 2, none⟩ = some (.slice b m cb)) (go_keep)
    (first | (go_at_call 18; with_reducible refine J3.mono ?_; rintro e w' ⟨rfl, rfl⟩) | (go_at_call 19; first | (with_reducible refine J1.mono ?_; rintro e w' ⟨rfl, rfl⟩) | (with_reducible refine J2.mono ?_; rintro e w' ⟨rfl, rfl⟩)))
  all_goals go_wp2
  all_goals go_ret
  all_goals exact ⟨ret_bool (by rw [← HR.out, Bool.eq_iff_iff]; simp only [beq_iff_eq, decide_eq_true_eq]; omega), S1⟩

set_option maxHeartbeats 1600000 in
set_option maxRecDepth 100000 in
theorem specRatOk_small_n (neg : Bool) (a b : Option Addr) (ba oa n ca bb ob m cb : Nat) (X Y : Nat → Nat) (w : World) (hn : n ≤ 1048576) (hm : m ≤ 1048576)
    (hX : Limbs w a ba oa n X) (hY : Limbs w b bb ob m Y) (hXl : ∀ j, j < n → X j < 4294967296) (hYl : ∀ j, j < m → Y j < 4294967296) (h1 : plainB X n = true) (h2 : plainB Y m = true) (h3 : ¬ m = 0) (h4 : ¬ (n = 0 ∧ neg = true)) (hs : smallB X n Y m = true) (h5 : ¬ n = 0) :
    Calls Tryd.prog 10 #[.agg #[.bool neg, .slice a n ca, .slice b m cb]] w fun e w' => e = .returned (.bool (ratOkB neg X n Y m)) ∧ w.Since w.heap.size w' := by
  have sA : w.Since w.heap.size (w.alloc (.cells #[.bool neg, .slice a n ca, .slice b m cb] 27)) := (World.Since.refl _ _).alloc (Nat.le_refl _) _
  have I1 := l1Plain_any a ba oa n ca X _ hn (hX.keep sA)
  have I2 := l1Plain_any b bb ob m cb Y _ hm (hY.keep sA)
  rw [h1] at I1
  rw [h2] at I2
  have q3 : ((m : Int) == 0) = false := by simp; omega
  have HR := hide (show (decide (Nat.gcd (lv X n) (lv Y m) = 1)) = ratOkB neg X n Y m by
    have e3 : (m != 0) = true := by simp [h3]
    have e4 : (neg && n == 0) = false := by cases neg <;> simp at h4 ⊢; exact h4
    rw [Bool.eq_iff_iff]
    simp [ratOkB, h1, h2, e3, e4])
  obtain ⟨c0, c1, c2⟩ := box3 w (.bool neg) (.slice a n ca) (.slice b m cb) 27
  have I3 := l1IsSmall_any neg a b ba oa n ca bb ob m cb X Y _ hn hm (hX.keep sA) (hY.keep sA) hXl hYl
  have HN : Hid (n = 0 → neg = false) := fun h => by cases neg; rfl; exact absurd ⟨h, rfl⟩ h4
  clear h1 h2 h4
  have XA := hX.keep sA
  have YA := hY.keep sA
  obtain ⟨y1, y2, z3, z4⟩ := smallB_iff.1 hs
  have v1 : lv X n < 18446744073709551616 := by omega
  have v2 : lv Y m < 18446744073709551616 := by omega
  have V := hide (And.intro v1 v2)
  rw [hs] at I3
  clear hs z3 z4 v1 v2
  go_enter Tryd.func10, Tryd.ntmps10
  go_wp2_with fail
  refine I1.mono ?_
  rintro e w1 ⟨rfl, rfl⟩
  go_wp2_with fail
  refine I2.mono ?_
  rintro e w1 ⟨rfl, rfl⟩
  clear I1 I2
  generalize w.alloc (.cells #[.bool neg, .slice a n ca, .slice b m cb] 27) = wA at *
  have h6 : ((n : Int) == 0) = false := by simp; omega
  go_wp2_with fail
  refine I3.mono ?_
  rintro e w1 ⟨rfl, s1⟩
  clear I3
  have zA : w.heap.size < wA.heap.size := World.block_lt_of_cell? _ _ c0
  have d1 : w1.cell? ⟨w.heap.size, 1, none⟩ = some (.slice a n ca) := (s1.cell (a := ⟨w.heap.size, 1, none⟩) zA).trans c1
  have d2 : w1.cell? ⟨w.heap.size, 2, none⟩ = some (.slice b m cb) := (s1.cell (a := ⟨w.heap.size, 2, none⟩) zA).trans c2
  have S1 : w.Since w.heap.size w1.drew := by have h := sA.trans (sinceMono s1 sA.size); exact ⟨h.os, h.tape, h.output, h.size, h.block⟩
  have z1 : w.heap.size < w1.drew.heap.size := Nat.lt_of_lt_of_le zA s1.size
  have X0 := XA.keep s1
  have Y0 := YA.keep s1
  have X1 : Limbs w1.drew a ba oa n X := X0
  have Y1 : Limbs w1.drew b bb ob m Y := Y0
  have XL := hide hXl
  have YL := hide hYl
  clear hXl hYl XA YA s1 c0 c1 c2 X0 Y0
  go_wp2
  have J1 := l1Small_any a ba oa n ca X w1.drew y1 X1 XL.out
  have J2 := l1Small_any b bb ob m cb Y w1.drew y2 Y1 YL.out
  have J3 := l1GcdSmall_any (lv X n) (lv Y m) w1.drew V.out.1 V.out.2
  clear V XL YL X1 Y1
  obtain ⟨gg, hgg⟩ : ∃ gg, gg = Nat.gcd (lv X n) (lv Y m) := ⟨_, rfl⟩
  obtain ⟨xx, hxx⟩ : ∃ xx, xx = lv X n := ⟨_, rfl⟩
  obtain ⟨yy, hyy⟩ : ∃ yy, yy = lv Y m := ⟨_, rfl⟩
  have HR : Hid (decide (gg = 1) = ratOkB neg X n Y m) := by rw [hgg]; exact HR.out
  rw [← hgg, ← hxx, ← hyy] at J3
  rw [← hxx] at J1
  rw [← hyy] at J2
  clear hgg hxx hyy
  go_region_held3 (fun w' => w'.cell? ⟨w.heap.size, 1, none⟩ = some (.slice a n ca) ∧ w'.cell? ⟨w.heap.size, 2, none⟩ = some (.slice b m cb)) (go_keep)
    (first | (go_at_call 18; with_reducible refine J3.mono ?_; rintro e w' ⟨rfl, rfl⟩) | (go_at_call 19; first | (with_reducible refine J1.mono ?_; rintro e w' ⟨rfl, rfl⟩) | (with_reducible refine J2.mono ?_; rintro e w' ⟨rfl, rfl⟩)))
  all_goals go_wp2
  all_goals go_ret
  all_goals exact ⟨ret_bool (by rw [← HR.out, Bool.eq_iff_iff]; simp only [beq_iff_eq, decide_eq_true_eq]; omega), S1⟩

set_option maxHeartbeats 1600000 in
set_option maxRecDepth 100000 in
theorem specRatOk_big_z (neg : Bool) (a b : Option Addr) (ba oa n ca bb ob m cb : Nat) (X Y : Nat → Nat) (w : World) (hn : n ≤ 1048576) (hm : m ≤ 1048576)
    (hX : Limbs w a ba oa n X) (hY : Limbs w b bb ob m Y) (hXl : ∀ j, j < n → X j < 4294967296) (hYl : ∀ j, j < m → Y j < 4294967296) (h1 : plainB X n = true) (h2 : plainB Y m = true) (h3 : ¬ m = 0) (h4 : ¬ (n = 0 ∧ neg = true)) (hs : ¬ smallB X n Y m = true) (h5 : n = 0) :
    Calls Tryd.prog 10 #[.agg #[.bool neg, .slice a n ca, .slice b m cb]] w fun e w' => e = .returned (.bool (ratOkB neg X n Y m)) ∧ w.Since w.heap.size w' := by
  have sA : w.Since w.heap.size (w.alloc (.cells #[.bool neg, .slice a n ca, .slice b m cb] 27)) := (World.Since.refl _ _).alloc (Nat.le_refl _) _
  have I1 := l1Plain_any a ba oa n ca X _ hn (hX.keep sA)
  have I2 := l1Plain_any b bb ob m cb Y _ hm (hY.keep sA)
  rw [h1] at I1
  rw [h2] at I2
  have q3 : ((m : Int) == 0) = false := by simp; omega
  have HR := hide (show (decide (Nat.gcd (lv X n) (lv Y m) = 1)) = ratOkB neg X n Y m by
    have e3 : (m != 0) = true := by simp [h3]
    have e4 : (neg && n == 0) = false := by cases neg <;> simp at h4 ⊢; exact h4
    rw [Bool.eq_iff_iff]
    simp [ratOkB, h1, h2, e3, e4])
  obtain ⟨c0, c1, c2⟩ := box3 w (.bool neg) (.slice a n ca) (.slice b m cb) 27
  have I3 := l1IsSmall_any neg a b ba oa n ca bb ob m cb X Y _ hn hm (hX.keep sA) (hY.keep sA) hXl hYl
  have HN : Hid (n = 0 → neg = false) := fun h => by cases neg; rfl; exact absurd ⟨h, rfl⟩ h4
  clear h1 h2 h4
  have XA := hX.keep sA
  have YA := hY.keep sA
  rw [show smallB X n Y m = false by simpa using hs] at I3
  clear hs
  have h6 := HN.out h5
  subst h5 h6
  go_enter Tryd.func10, Tryd.ntmps10
  go_wp2_with fail
  refine I1.mono ?_
  rintro e w1 ⟨rfl, rfl⟩
  go_wp2_with fail
  refine I2.mono ?_
  rintro e w1 ⟨rfl, rfl⟩
  clear I1 I2
  generalize w.alloc (.cells #[.bool false, .slice a 0 ca, .slice b m cb] 27) = wA at *
  go_wp2_with fail
  refine I3.mono ?_
  rintro e w1 ⟨rfl, s1⟩
  clear I3
  have zA : w.heap.size < wA.heap.size := World.block_lt_of_cell? _ _ c0
  have d1 : w1.cell? ⟨w.heap.size, 1, none⟩ = some (.slice a 0 ca) := (s1.cell (a := ⟨w.heap.size, 1, none⟩) zA).trans c1
  have d2 : w1.cell? ⟨w.heap.size, 2, none⟩ = some (.slice b m cb) := (s1.cell (a := ⟨w.heap.size, 2, none⟩) zA).trans c2
  have S1 : w.Since w.heap.size w1.drew := by have h := sA.trans (sinceMono s1 sA.size); exact ⟨h.os, h.tape, h.output, h.size, h.block⟩
  have z1 : w.heap.size < w1.drew.heap.size := Nat.lt_of_lt_of_le zA s1.size
  have X0 := XA.keep s1
  have Y0 := YA.keep s1
  have X1 : Limbs w1.drew a ba oa 0 X := X0
  have Y1 : Limbs w1.drew b bb ob m Y := Y0
  have XL := hide hXl
  have YL := hide hYl
  clear hXl hYl XA YA s1 c0 c1 c2 X0 Y0
  go_wp2
  have J1 := l1Bits_any a ba oa 0 ca X w1.drew (by omega) X1 XL.out
  go_region_held3 (fun w' => w'.cell? ⟨w.heap.size, 1, none⟩ = some (.slice a 0 ca) ∧ w'.cell? ⟨w.heap.size, 2, none⟩ = some (.slice b m cb)) (go_keep)
    (first
      | (go_at_call 22
         first
          | (with_reducible refine J1.mono ?_
             rintro e w2 ⟨a1, g1, m1, t1, B1, rfl, k1, k2, L1, -, p1, e1, s2⟩
             have T1 : Tr w2 (.slice a1 m1 t1) m1 B1 := ⟨a1, g1, 0, t1, rfl, k1, L1, p1⟩
             have E1 := hide e1
             clear L1 p1 e1
             have z2 := s2.size
             have J2 := l1Bits_any b bb ob m cb Y w2 (by omega) (Y1.keep s2) YL.out
             have f1 : w2.cell? ⟨w.heap.size, 1, none⟩ = some (.slice a 0 ca) := (s2.cell (a := ⟨w.heap.size, 1, none⟩) z1).trans d1
             have f2 : w2.cell? ⟨w.heap.size, 2, none⟩ = some (.slice b m cb) := (s2.cell (a := ⟨w.heap.size, 2, none⟩) z1).trans d2)
          | (with_reducible refine J2.mono ?_
             rintro e w3 ⟨a2, g2, m2, t2, B2, rfl, q1, q2, L2, -, p2, e2, s3⟩
             have T2 : Tr w3 (.slice a2 m2 t2) m2 B2 := ⟨a2, g2, 0, t2, rfl, q1, L2, p2⟩
             have E2 := hide e2
             clear L2 p2 e2
             have T1' := T1.keep s3
             have J3 := l1GcdBits_any _ _ m1 m2 B1 B2 w3 (by omega) (by omega) T1' T2
             have S3 : w.Since w.heap.size w3 := (S1.trans (sinceMono s2 S1.size)).trans (sinceMono s3 (Nat.le_trans S1.size s2.size))
             have f3 : w3.cell? ⟨w.heap.size, 1, none⟩ = some (.slice a 0 ca) := (s3.cell (a := ⟨w.heap.size, 1, none⟩) (Nat.lt_of_lt_of_le z1 z2)).trans f1
             have f4 : w3.cell? ⟨w.heap.size, 2, none⟩ = some (.slice b m cb) := (s3.cell (a := ⟨w.heap.size, 2, none⟩) (Nat.lt_of_lt_of_le z1 z2)).trans f2
             have z3 := s3.size))
      | (go_at_call 21
         with_reducible refine J3.mono ?_
         rintro e w4 ⟨v, t, O, rfl, ht, T3, e3, s4⟩
         have E3 := hide e3
         have J4 : Calls Tryd.prog 23 #[.int .u64 1] w4 _ := l1BitsOf_any 1 w4 (by omega)
         clear e3
         have f5 : w4.cell? ⟨w.heap.size, 1, none⟩ = some (.slice a 0 ca) := (s4.cell (a := ⟨w.heap.size, 1, none⟩) (Nat.lt_of_lt_of_le z1 (Nat.le_trans z2 z3))).trans f3
         have f6 : w4.cell? ⟨w.heap.size, 2, none⟩ = some (.slice b m cb) := (s4.cell (a := ⟨w.heap.size, 2, none⟩) (Nat.lt_of_lt_of_le z1 (Nat.le_trans z2 z3))).trans f4
         have z4 := s4.size)
      | (go_at_call 23
         with_reducible refine J4.mono ?_
         rintro e w5 ⟨x, t5, B5, rfl, ht5, T5, e5, s5⟩
         have E5 := hide e5
         clear e5
         obtain ⟨a3, b3, o3, c3, rfl, -, L3, p3⟩ := T3.keep s5
         obtain ⟨a5, b5, o5, c5, rfl, -, L5, p5⟩ := T5
         have S5 : w.Since w.heap.size w5 := (S3.trans (sinceMono s4 S3.size)).trans (sinceMono s5 (Nat.le_trans S3.size s4.size))
         have f7 : w5.cell? ⟨w.heap.size, 1, none⟩ = some (.slice a 0 ca) := (s5.cell (a := ⟨w.heap.size, 1, none⟩) (Nat.lt_of_lt_of_le z1 (Nat.le_trans (Nat.le_trans z2 z3) z4))).trans f5
         have f8 : w5.cell? ⟨w.heap.size, 2, none⟩ = some (.slice b m cb) := (s5.cell (a := ⟨w.heap.size, 2, none⟩) (Nat.lt_of_lt_of_le z1 (Nat.le_trans (Nat.le_trans z2 z3) z4))).trans f6
         have J := l1CmpBits_any a3 a5 b3 o3 t c3 b5 o5 t5 c5 O B5 w5 (by omega) (by omega) L3 L5 p3 p5
         rw [E5.out, E3.out, E1.out, E2.out] at J
         clear T3 L3 L5 p3 p5)
      | (go_at_call 20
         with_reducible refine J.mono ?_
         rintro e w6 ⟨rfl, s6⟩
         have f9 : w6.cell? ⟨w.heap.size, 1, none⟩ = some (.slice a 0 ca) := by rw [s6.cell]; exact f7
         have f10 : w6.cell? ⟨w.heap.size, 2, none⟩ = some (.slice b m cb) := by rw [s6.cell]; exact f8))
  all_goals go_wp2
  all_goals go_ret
  all_goals exact ⟨ret_bool ((cmpN_one (Nat.gcd (lv X 0) (lv Y m))).trans HR.out), S5.trans (s6.since _)⟩

set_option maxHeartbeats 1600000 in
set_option maxRecDepth 100000 in
theorem specRatOk_big_n (neg : Bool) (a b : Option Addr) (ba oa n ca bb ob m cb : Nat) (X Y : Nat → Nat) (w : World) (hn : n ≤ 1048576) (hm : m ≤ 1048576)
    (hX : Limbs w a ba oa n X) (hY : Limbs w b bb ob m Y) (hXl : ∀ j, j < n → X j < 4294967296) (hYl : ∀ j, j < m → Y j < 4294967296) (h1 : plainB X n = true) (h2 : plainB Y m = true) (h3 : ¬ m = 0) (h4 : ¬ (n = 0 ∧ neg = true)) (hs : ¬ smallB X n Y m = true) (h5 : ¬ n = 0) :
    Calls Tryd.prog 10 #[.agg #[.bool neg, .slice a n ca, .slice b m cb]] w fun e w' => e = .returned (.bool (ratOkB neg X n Y m)) ∧ w.Since w.heap.size w' := by
  have sA : w.Since w.heap.size (w.alloc (.cells #[.bool neg, .slice a n ca, .slice b m cb] 27)) := (World.Since.refl _ _).alloc (Nat.le_refl _) _
  have I1 := l1Plain_any a ba oa n ca X _ hn (hX.keep sA)
  have I2 := l1Plain_any b bb ob m cb Y _ hm (hY.keep sA)
  rw [h1] at I1
  rw [h2] at I2
  have q3 : ((m : Int) == 0) = false := by simp; omega
  have HR := hide (show (decide (Nat.gcd (lv X n) (lv Y m) = 1)) = ratOkB neg X n Y m by
    have e3 : (m != 0) = true := by simp [h3]
    have e4 : (neg && n == 0) = false := by cases neg <;> simp at h4 ⊢; exact h4
    rw [Bool.eq_iff_iff]
    simp [ratOkB, h1, h2, e3, e4])
  obtain ⟨c0, c1, c2⟩ := box3 w (.bool neg) (.slice a n ca) (.slice b m cb) 27
  have I3 := l1IsSmall_any neg a b ba oa n ca bb ob m cb X Y _ hn hm (hX.keep sA) (hY.keep sA) hXl hYl
  have HN : Hid (n = 0 → neg = false) := fun h => by cases neg; rfl; exact absurd ⟨h, rfl⟩ h4
  clear h1 h2 h4
  have XA := hX.keep sA
  have YA := hY.keep sA
  rw [show smallB X n Y m = false by simpa using hs] at I3
  clear hs
  go_enter Tryd.func10, Tryd.ntmps10
  go_wp2_with fail
  refine I1.mono ?_
  rintro e w1 ⟨rfl, rfl⟩
  go_wp2_with fail
  refine I2.mono ?_
  rintro e w1 ⟨rfl, rfl⟩
  clear I1 I2
  generalize w.alloc (.cells #[.bool neg, .slice a n ca, .slice b m cb] 27) = wA at *
  have h6 : ((n : Int) == 0) = false := by simp; omega
  go_wp2_with fail
  refine I3.mono ?_
  rintro e w1 ⟨rfl, s1⟩
  clear I3
  have zA : w.heap.size < wA.heap.size := World.block_lt_of_cell? _ _ c0
  have d1 : w1.cell? ⟨w.heap.size, 1, none⟩ = some (.slice a n ca) := (s1.cell (a := ⟨w.heap.size, 1, none⟩) zA).trans c1
  have d2 : w1.cell? ⟨w.heap.size, 2, none⟩ = some (.slice b m cb) := (s1.cell (a := ⟨w.heap.size, 2, none⟩) zA).trans c2
  have S1 : w.Since w.heap.size w1.drew := by have h := sA.trans (sinceMono s1 sA.size); exact ⟨h.os, h.tape, h.output, h.size, h.block⟩
  have z1 : w.heap.size < w1.drew.heap.size := Nat.lt_of_lt_of_le zA s1.size
  have X0 := XA.keep s1
  have Y0 := YA.keep s1
  have X1 : Limbs w1.drew a ba oa n X := X0
  have Y1 : Limbs w1.drew b bb ob m Y := Y0
  have XL := hide hXl
  have YL := hide hYl
  clear hXl hYl XA YA s1 c0 c1 c2 X0 Y0
  go_wp2
  have J1 := l1Bits_any a ba oa n ca X w1.drew (by omega) X1 XL.out
  go_region_held3 (fun w' => w'.cell? ⟨w.heap.size, 1, none⟩ = some (.slice a n ca) ∧ w'.cell? ⟨w.heap.size, 2, none⟩ = some (.slice b m cb)) (go_keep)
    (first
      | (go_at_call 22
         first
          | (with_reducible refine J1.mono ?_
             rintro e w2 ⟨a1, g1, m1, t1, B1, rfl, k1, k2, L1, -, p1, e1, s2⟩
             have T1 : Tr w2 (.slice a1 m1 t1) m1 B1 := ⟨a1, g1, 0, t1, rfl, k1, L1, p1⟩
             have E1 := hide e1
             clear L1 p1 e1
             have z2 := s2.size
             have J2 := l1Bits_any b bb ob m cb Y w2 (by omega) (Y1.keep s2) YL.out
             have f1 : w2.cell? ⟨w.heap.size, 1, none⟩ = some (.slice a n ca) := (s2.cell (a := ⟨w.heap.size, 1, none⟩) z1).trans d1
             have f2 : w2.cell? ⟨w.heap.size, 2, none⟩ = some (.slice b m cb) := (s2.cell (a := ⟨w.heap.size, 2, none⟩) z1).trans d2)
          | (with_reducible refine J2.mono ?_
             rintro e w3 ⟨a2, g2, m2, t2, B2, rfl, q1, q2, L2, -, p2, e2, s3⟩
             have T2 : Tr w3 (.slice a2 m2 t2) m2 B2 := ⟨a2, g2, 0, t2, rfl, q1, L2, p2⟩
             have E2 := hide e2
             clear L2 p2 e2
             have T1' := T1.keep s3
             have J3 := l1GcdBits_any _ _ m1 m2 B1 B2 w3 (by omega) (by omega) T1' T2
             have S3 : w.Since w.heap.size w3 := (S1.trans (sinceMono s2 S1.size)).trans (sinceMono s3 (Nat.le_trans S1.size s2.size))
             have f3 : w3.cell? ⟨w.heap.size, 1, none⟩ = some (.slice a n ca) := (s3.cell (a := ⟨w.heap.size, 1, none⟩) (Nat.lt_of_lt_of_le z1 z2)).trans f1
             have f4 : w3.cell? ⟨w.heap.size, 2, none⟩ = some (.slice b m cb) := (s3.cell (a := ⟨w.heap.size, 2, none⟩) (Nat.lt_of_lt_of_le z1 z2)).trans f2
             have z3 := s3.size))
      | (go_at_call 21
         with_reducible refine J3.mono ?_
         rintro e w4 ⟨v, t, O, rfl, ht, T3, e3, s4⟩
         have E3 := hide e3
         have J4 : Calls Tryd.prog 23 #[.int .u64 1] w4 _ := l1BitsOf_any 1 w4 (by omega)
         clear e3
         have f5 : w4.cell? ⟨w.heap.size, 1, none⟩ = some (.slice a n ca) := (s4.cell (a := ⟨w.heap.size, 1, none⟩) (Nat.lt_of_lt_of_le z1 (Nat.le_trans z2 z3))).trans f3
         have f6 : w4.cell? ⟨w.heap.size, 2, none⟩ = some (.slice b m cb) := (s4.cell (a := ⟨w.heap.size, 2, none⟩) (Nat.lt_of_lt_of_le z1 (Nat.le_trans z2 z3))).trans f4
         have z4 := s4.size)
      | (go_at_call 23
         with_reducible refine J4.mono ?_
         rintro e w5 ⟨x, t5, B5, rfl, ht5, T5, e5, s5⟩
         have E5 := hide e5
         clear e5
         obtain ⟨a3, b3, o3, c3, rfl, -, L3, p3⟩ := T3.keep s5
         obtain ⟨a5, b5, o5, c5, rfl, -, L5, p5⟩ := T5
         have S5 : w.Since w.heap.size w5 := (S3.trans (sinceMono s4 S3.size)).trans (sinceMono s5 (Nat.le_trans S3.size s4.size))
         have f7 : w5.cell? ⟨w.heap.size, 1, none⟩ = some (.slice a n ca) := (s5.cell (a := ⟨w.heap.size, 1, none⟩) (Nat.lt_of_lt_of_le z1 (Nat.le_trans (Nat.le_trans z2 z3) z4))).trans f5
         have f8 : w5.cell? ⟨w.heap.size, 2, none⟩ = some (.slice b m cb) := (s5.cell (a := ⟨w.heap.size, 2, none⟩) (Nat.lt_of_lt_of_le z1 (Nat.le_trans (Nat.le_trans z2 z3) z4))).trans f6
         have J := l1CmpBits_any a3 a5 b3 o3 t c3 b5 o5 t5 c5 O B5 w5 (by omega) (by omega) L3 L5 p3 p5
         rw [E5.out, E3.out, E1.out, E2.out] at J
         clear T3 L3 L5 p3 p5)
      | (go_at_call 20
         with_reducible refine J.mono ?_
         rintro e w6 ⟨rfl, s6⟩
         have f9 : w6.cell? ⟨w.heap.size, 1, none⟩ = some (.slice a n ca) := by rw [s6.cell]; exact f7
         have f10 : w6.cell? ⟨w.heap.size, 2, none⟩ = some (.slice b m cb) := by rw [s6.cell]; exact f8))
  all_goals go_wp2
  all_goals go_ret
  all_goals exact ⟨ret_bool ((cmpN_one (Nat.gcd (lv X n) (lv Y m))).trans HR.out), S5.trans (s6.since _)⟩

set_option maxHeartbeats 3200000 in
set_option maxRecDepth 100000 in
theorem specRatOk_any (neg : Bool) (a b : Option Addr) (ba oa n ca bb ob m cb : Nat) (X Y : Nat → Nat) (w : World) (hn : n ≤ 1048576) (hm : m ≤ 1048576)
    (hX : Limbs w a ba oa n X) (hY : Limbs w b bb ob m Y) (hXl : ∀ j, j < n → X j < 4294967296) (hYl : ∀ j, j < m → Y j < 4294967296) :
    Calls Tryd.prog 10 #[.agg #[.bool neg, .slice a n ca, .slice b m cb]] w fun e w' => e = .returned (.bool (ratOkB neg X n Y m)) ∧ w.Since w.heap.size w' := by
  have sA : w.Since w.heap.size (w.alloc (.cells #[.bool neg, .slice a n ca, .slice b m cb] 27)) := (World.Since.refl _ _).alloc (Nat.le_refl _) _
  have I1 := l1Plain_any a ba oa n ca X _ hn (hX.keep sA)
  have I2 := l1Plain_any b bb ob m cb Y _ hm (hY.keep sA)
  by_cases h1 : plainB X n = false
  · have HR := hide (show false = ratOkB neg X n Y m by simp [ratOkB, h1])
    rw [h1] at I1
    clear h1
    go_enter Tryd.func10, Tryd.ntmps10
    go_wp2_with fail
    refine I1.mono ?_
    rintro e w1 ⟨rfl, rfl⟩
    go_wp2
    go_ret
    exact ⟨ret_bool HR.out, sA⟩
  have h1 : plainB X n = true := by simpa using h1
  rw [h1] at I1
  by_cases h2 : plainB Y m = false
  · have HR := hide (show false = ratOkB neg X n Y m by simp [ratOkB, h2])
    rw [h2] at I2
    clear h1 h2
    go_enter Tryd.func10, Tryd.ntmps10
    go_wp2_with fail
    refine I1.mono ?_
    rintro e w1 ⟨rfl, rfl⟩
    go_wp2_with fail
    refine I2.mono ?_
    rintro e w1 ⟨rfl, rfl⟩
    go_wp2
    go_ret
    exact ⟨ret_bool HR.out, sA⟩
  have h2 : plainB Y m = true := by simpa using h2
  rw [h2] at I2
  by_cases h3 : m = 0
  · have HR := hide (show false = ratOkB neg X n Y m by simp [ratOkB, h3])
    clear h1 h2
    subst h3
    go_enter Tryd.func10, Tryd.ntmps10
    go_wp2_with fail
    refine I1.mono ?_
    rintro e w1 ⟨rfl, rfl⟩
    go_wp2_with fail
    refine I2.mono ?_
    rintro e w1 ⟨rfl, rfl⟩
    go_wp2
    go_ret
    exact ⟨ret_bool HR.out, sA⟩
  have q3 : ((m : Int) == 0) = false := by simp; omega
  by_cases h4 : n = 0 ∧ neg = true
  · obtain ⟨rfl, rfl⟩ := h4
    have HR := hide (show false = ratOkB true X 0 Y m by simp [ratOkB])
    clear h1 h2
    go_enter Tryd.func10, Tryd.ntmps10
    go_wp2_with fail
    refine I1.mono ?_
    rintro e w1 ⟨rfl, rfl⟩
    go_wp2_with fail
    refine I2.mono ?_
    rintro e w1 ⟨rfl, rfl⟩
    go_wp2
    go_ret
    exact ⟨ret_bool HR.out, sA⟩
  by_cases hs : smallB X n Y m = true
  · by_cases h5 : n = 0
    · exact specRatOk_small_z neg a b ba oa n ca bb ob m cb X Y w hn hm hX hY hXl hYl h1 h2 h3 h4 hs h5
    · exact specRatOk_small_n neg a b ba oa n ca bb ob m cb X Y w hn hm hX hY hXl hYl h1 h2 h3 h4 hs h5
  · by_cases h5 : n = 0
    · exact specRatOk_big_z neg a b ba oa n ca bb ob m cb X Y w hn hm hX hY hXl hYl h1 h2 h3 h4 hs h5
    · exact specRatOk_big_n neg a b ba oa n ca bb ob m cb X Y w hn hm hX hY hXl hYl h1 h2 h3 h4 hs h5

end Go.Proofs.YtcenondecckdfaaDoor

namespace Go.Proofs.YtcenondecckdfaaDoor
open Go.RowKit

/-- A natural in an answer: a slice in a block of its own, plain. -/
def NatV (w : World) (v : Value) (g N M : Nat) : Prop :=
  ∃ a m cap Y, v = .slice a m cap ∧ m ≤ cap ∧ m ≤ M ∧ (a = none → cap = 0) ∧ Limbs w a g 0 m Y ∧ (0 < m → ∀ o, w.frozen? ⟨g, o, none⟩ = false) ∧ (∀ j, j < m → Y j < 4294967296) ∧ (0 < m → Y (m - 1) ≠ 0) ∧ lv Y m = N

theorem natV_natAt {w : World} {v : Value} {g N M : Nat} : NatV w v g N M = NatAt w v g N M := rfl

/-- A Rat in an answer: its two lists lie in blocks of their own. -/
def RatV (w : World) (v : Value) (neg : Bool) (N D B M : Nat) : Prop :=
  ∃ v1 v2 g h, v = .agg #[.bool neg, v1, v2] ∧ NatAt w v1 g N M ∧ NatAt w v2 h D M ∧ B ≤ g ∧ B ≤ h ∧ g ≠ h

theorem natAt_nil (w : World) (g M : Nat) : NatAt w (.slice none 0 0) g 0 M :=
  ⟨none, 0, 0, fun _ => 0, rfl, Nat.le_refl _, Nat.zero_le _, fun _ => rfl, fun j hj => absurd hj (by omega), fun h => absurd h (by omega), fun j hj => absurd hj (by omega), fun h => absurd h (by omega), rfl⟩

theorem natAt_empty (w : World) (a : Addr) (cap g M : Nat) : NatAt w (.slice (some a) 0 cap) g 0 M :=
  ⟨some a, 0, cap, fun _ => 0, rfl, Nat.zero_le _, Nat.zero_le _, fun h => (by cases h), fun j hj => absurd hj (by omega), fun h => absurd h (by omega), fun j hj => absurd hj (by omega), fun h => absurd h (by omega), rfl⟩

theorem NatAt.keep {w w' : World} {v : Value} {g N M : Nat} (h : NatAt w v g N M) (s : w.Since w.heap.size w') : NatAt w' v g N M := by
  obtain ⟨a, m, cap, Y, h1, h2, h3, h4, h5, h6, h7, h8, h9⟩ := h
  exact ⟨a, m, cap, Y, h1, h2, h3, h4, h5.keep s, fun h0 o => by rw [s.frozen (a := ⟨g, o, none⟩) (h5.lt h0)]; exact h6 h0 o, h7, h8, h9⟩

theorem NatAt.marked {w w' : World} {v : Value} {g N M c : Nat} (h : NatAt w v g N M) (s : Marked w w' c) (hne : g ≠ c) : NatAt w' v g N M := by
  obtain ⟨a, m, cap, Y, h1, h2, h3, h4, h5, h6, h7, h8, h9⟩ := h
  exact ⟨a, m, cap, Y, h1, h2, h3, h4, h5.marked s (fun _ => hne), fun h0 o => by rw [s.frozenO (a := ⟨g, o, none⟩) hne]; exact h6 h0 o, h7, h8, h9⟩

theorem NatAt.more {w : World} {v : Value} {g N M M' : Nat} (h : NatAt w v g N M) (hM : M ≤ M') : NatAt w v g N M' := by
  obtain ⟨a, m, cap, Y, h1, h2, h3, h4⟩ := h
  exact ⟨a, m, cap, Y, h1, h2, Nat.le_trans h3 hM, h4⟩

theorem RatV.keep {w w' : World} {v : Value} {neg : Bool} {N D B M : Nat} (h : RatV w v neg N D B M) (s : w.Since w.heap.size w') : RatV w' v neg N D B M := by
  obtain ⟨v1, v2, g, k, h1, h2, h3, h4⟩ := h
  exact ⟨v1, v2, g, k, h1, h2.keep s, h3.keep s, h4⟩

theorem RatV.down {w : World} {v : Value} {neg : Bool} {N D B B' M : Nat} (h : RatV w v neg N D B M) (hB : B' ≤ B) : RatV w v neg N D B' M := by
  obtain ⟨v1, v2, g, k, h1, h2, h3, h4, h5, h6⟩ := h
  exact ⟨v1, v2, g, k, h1, h2, h3, by omega, by omega, h6⟩

theorem RatV.more {w : World} {v : Value} {neg : Bool} {N D B M M' : Nat} (h : RatV w v neg N D B M) (hM : M ≤ M') : RatV w v neg N D B M' := by
  obtain ⟨v1, v2, g, k, h1, h2, h3, h4⟩ := h
  exact ⟨v1, v2, g, k, h1, h2.more hM, h3.more hM, h4⟩

theorem tlen_plain {X : Nat → Nat} {n : Nat} (p : 0 < n → X (n - 1) ≠ 0) : tlen (nz X) n = n := by
  cases n with
  | zero => rfl
  | succ n => simp [tlen, nz]; exact fun h => absurd h (p (by omega))

end Go.Proofs.YtcenondecckdfaaDoor

namespace Go.Proofs.YtcenondecckdfaaDoor
open Go.RowKit

/-- Old memory but for one block stands. -/
structure Oth (c : Nat) (w w' : World) : Prop where
  os : w'.os = w.os
  tape : w'.tape = w.tape
  output : w'.output = w.output
  size : w.heap.size ≤ w'.heap.size
  block : ∀ k, k < w.heap.size → k ≠ c → w'.heap[k]? = w.heap[k]?

section
variable {c d n g N M off : Nat} {w w' w1 w2 : World} {a : Option Addr} {X : Nat → Nat} {v x y z : Value}
theorem Oth.refl (c : Nat) (w : World) : Oth c w w := ⟨rfl, rfl, rfl, Nat.le_refl _, fun _ _ _ => rfl⟩
theorem Oth.trans (h : Oth c w w1) (k : Oth c w1 w2) : Oth c w w2 := ⟨k.os.trans h.os, k.tape.trans h.tape, k.output.trans h.output, Nat.le_trans h.size k.size, fun i h1 h2 => (k.block i (Nat.lt_of_lt_of_le h1 h.size) h2).trans (h.block i h1 h2)⟩
theorem Oth.ofSince (c : Nat) (h : w.Since w.heap.size w') : Oth c w w' := ⟨h.os, h.tape, h.output, h.size, fun k hk _ => h.block k hk⟩
theorem Oth.ofMarked (h : Marked w w' c) : Oth c w w' := ⟨h.os, h.tape, h.output, by rw [h.size]; exact Nat.le_refl _, fun k _ hk => h.other k hk⟩
theorem Oth.since (h : Oth c w w') (hc : c ≤ w.heap.size) : w.Since c w' := ⟨h.os, h.tape, h.output, h.size, fun k hk => h.block k (by omega) (by omega)⟩
theorem Oth.cell (h : Oth c w w') {a : Addr} (hl : a.block < w.heap.size) (hne : a.block ≠ c) : w'.cell? a = w.cell? a := World.cell?_of_block (w := w) (h.block _ hl hne)
theorem Oth.frozen (h : Oth c w w') {a : Addr} (hl : a.block < w.heap.size) (hne : a.block ≠ c) : w'.frozen? a = w.frozen? a := World.frozen?_of_block (w := w) (h.block _ hl hne)
theorem Limbs.oth (h : Limbs w a g off n X) (s : Oth c w w') (hne : 0 < n → g ≠ c) : Limbs w' a g off n X := fun j hj => ⟨(h j hj).1, by rw [s.cell (a := ⟨g, off + j, none⟩) (h.lt (by omega)) (hne (by omega))]; exact (h j hj).2⟩
theorem NatAt.oth (h : NatAt w v g N M) (s : Oth c w w') (hne : g ≠ c) : NatAt w' v g N M := by
  obtain ⟨a, m, cap, Y, h1, h2, h3, h4, h5, h6, h7, h8, h9⟩ := h
  exact ⟨a, m, cap, Y, h1, h2, h3, h4, h5.oth s (fun _ => hne), fun h0 o => by rw [s.frozen (a := ⟨g, o, none⟩) (h5.lt h0) hne]; exact h6 h0 o, h7, h8, h9⟩
theorem Box3.oth (h : Box3 w d x y z) (s : Oth c w w') (hne : d ≠ c) : Box3 w' d x y z :=
  ⟨(s.cell (a := ⟨d, 0, none⟩) h.lt hne).trans h.c0, (s.cell (a := ⟨d, 1, none⟩) h.lt hne).trans h.c1, (s.cell (a := ⟨d, 2, none⟩) h.lt hne).trans h.c2, fun k => (s.frozen (a := ⟨d, k, none⟩) h.lt hne).trans (h.f k)⟩
end

theorem Box3.drew {w : World} {c : Nat} {x y z : Value} (h : Box3 w c x y z) : Box3 w.drew c x y z := ⟨h.c0, h.c1, h.c2, h.f⟩
theorem Oth.drew {w w' : World} {c : Nat} (h : Oth c w w') : Oth c w w'.drew := ⟨h.os, h.tape, h.output, h.size, h.block⟩
theorem Limbs.drew {w : World} {a : Option Addr} {b off n : Nat} {X : Nat → Nat} (h : Limbs w a b off n X) : Limbs w.drew a b off n X := h
theorem NatAt.drew {w : World} {v : Value} {g N M : Nat} (h : NatAt w v g N M) : NatAt w.drew v g N M := h
theorem since_drew {w w' : World} {B : Nat} (h : w.Since B w') : w.Since B w'.drew := ⟨h.os, h.tape, h.output, h.size, h.block⟩

theorem natAt_row {w2 : World} {g n : Nat} {P : Nat → Nat} (r : w2.rowIs g 45 n (fun j => .int .u32 (P j : Nat))) (hP : ∀ k, P k < 4294967296) {N : Nat} (hN : lv P n = N) : NatAt w2 (.slice (some ⟨g, 0, none⟩) (tlen (nz P) n) n) g N n :=
  ⟨_, _, _, P, rfl, tlen_le _ _, tlen_le _ _, fun h => (by cases h), (limbs_row r).take (tlen_le _ _), fun _ o => r.frozen o, fun j _ => hP j, fun h => by have := tlen_top (nz P) n h; simpa [nz] using this, by rw [lv_tlen]; exact hN⟩

theorem Box4.oth {c d : Nat} {w w' : World} {x y z u : Value} (h : Box4 w d x y z u) (s : Oth c w w') (hne : d ≠ c) : Box4 w' d x y z u :=
  ⟨(s.cell (a := ⟨d, 0, none⟩) h.lt hne).trans h.c0, (s.cell (a := ⟨d, 1, none⟩) h.lt hne).trans h.c1, (s.cell (a := ⟨d, 2, none⟩) h.lt hne).trans h.c2, (s.cell (a := ⟨d, 3, none⟩) h.lt hne).trans h.c3, fun k => (World.frozen?_of_block (w := w) (a := ⟨d, k, none⟩) (s.block d h.lt hne)).trans (h.f k)⟩
theorem Box4.drew {w : World} {c : Nat} {x y z u : Value} (h : Box4 w c x y z u) : Box4 w.drew c x y z u := ⟨h.c0, h.c1, h.c2, h.c3, h.f⟩

theorem row_keep {w w' : World} {g t n : Nat} {F : Nat → Value} (h : w.rowIs g t n F) (s : w.Since w.heap.size w') : w'.rowIs g t n F := h.of_block (s.block g h.lt)
theorem row_oth {w w' : World} {g t n c : Nat} {F : Nat → Value} (h : w.rowIs g t n F) (s : Oth c w w') (hne : g ≠ c) : w'.rowIs g t n F := h.of_block (s.block g h.lt hne)

theorem Oth.up {c d : Nat} {w w1 w2 : World} (x : Oth c w w1) (y : Oth d w1 w2) (hd : w.heap.size ≤ d) : Oth c w w2 :=
  ⟨y.os.trans x.os, y.tape.trans x.tape, y.output.trans x.output, Nat.le_trans x.size y.size, fun k h1 h2 => (y.block k (Nat.lt_of_lt_of_le h1 x.size) (by omega)).trans (x.block k h1 h2)⟩
theorem top_row {P : Nat → Nat} {q : Nat} : 0 < tlen (nz P) q → P (tlen (nz P) q - 1) ≠ 0 := fun h => by have := tlen_top (nz P) q h; simpa [nz] using this

end Go.Proofs.YtcenondecckdfaaDoor

namespace Go.Proofs.YtcenondecckdfaaDoor
open Go.RowKit

/-- What writing into one cell of a box and into one row leaves. -/
structure At1 (c o : Nat) (r : Option Nat) (w w' : World) : Prop where
  os : w'.os = w.os
  tape : w'.tape = w.tape
  output : w'.output = w.output
  size : w.heap.size ≤ w'.heap.size
  block : ∀ k, k < w.heap.size → k ≠ c → some k ≠ r → w'.heap[k]? = w.heap[k]?
  cell : ∀ x, x ≠ o → w'.cell? ⟨c, x, none⟩ = w.cell? ⟨c, x, none⟩
  frozen : ∀ x, w'.frozen? ⟨c, x, none⟩ = w.frozen? ⟨c, x, none⟩

section
variable {c o : Nat} {r : Option Nat} {w w' w'' : World}
theorem At1.refl (c o : Nat) (r : Option Nat) (w : World) : At1 c o r w w := ⟨rfl, rfl, rfl, Nat.le_refl _, fun _ _ _ _ => rfl, fun _ _ => rfl, fun _ => rfl⟩
theorem At1.alloc (h : At1 c o r w w') (hc : c < w.heap.size) (b : Obj) : At1 c o r w (w'.alloc b) := by
  have s : w'.Since w'.heap.size (w'.alloc b) := (World.Since.refl _ _).alloc (Nat.le_refl _) _
  have hl := h.size
  exact ⟨h.os, h.tape, h.output, Nat.le_trans h.size s.size, fun k h1 h2 h3 => (s.block k (by omega)).trans (h.block k h1 h2 h3), fun x hx => (s.cell (a := ⟨c, x, none⟩) (by show c < _; omega)).trans (h.cell x hx), fun x => (s.frozen (a := ⟨c, x, none⟩) (by show c < _; omega)).trans (h.frozen x)⟩
theorem At1.grown {row : Option Nat} (h : At1 c o r w w') (g : w'.grownBy w'' row) (hc : c < w.heap.size) (hr : row = r ∨ ∀ k, row = some k → w.heap.size ≤ k) (hrc : some c ≠ row) : At1 c o r w w'' := by
  have hl := h.size
  refine ⟨g.os.trans h.os, g.tape.trans h.tape, g.output.trans h.output, Nat.le_trans h.size g.size, fun k h1 h2 h3 => (g.block k (by omega) ?_).trans (h.block k h1 h2 h3), fun x hx => (World.cell?_of_block (w := w') (a := ⟨c, x, none⟩) (g.block c (by omega) hrc)).trans (h.cell x hx), fun x => (World.frozen?_of_block (w := w') (a := ⟨c, x, none⟩) (g.block c (by omega) hrc)).trans (h.frozen x)⟩
  rcases hr with rfl | hr
  · exact h3
  · intro e; have := hr k e.symm; omega
theorem At1.setRow (h : At1 c o r w w') (g i : Nat) (v : Value) (hr : some g = r ∨ w.heap.size ≤ g) (hc : g ≠ c) : At1 c o r w (w'.setCell ⟨g, i, none⟩ v) := by
  have M := (Marked.refl w' g).setCell i v
  refine ⟨M.os.trans h.os, M.tape.trans h.tape, M.output.trans h.output, by rw [M.size]; exact h.size, fun k h1 h2 h3 => (M.other k ?_).trans (h.block k h1 h2 h3), fun x hx => (M.cell (a := ⟨c, x, none⟩) (Ne.symm hc)).trans (h.cell x hx), fun x => (M.frozenO (a := ⟨c, x, none⟩) (Ne.symm hc)).trans (h.frozen x)⟩
  rcases hr with rfl | hr
  · intro e; exact h3 (by rw [e])
  · omega
theorem At1.setC (h : At1 c o r w w') (v : Value) : At1 c o r w (w'.setCell ⟨c, o, none⟩ v) := by
  have M := (Marked.refl w' c).setCell o v
  refine ⟨M.os.trans h.os, M.tape.trans h.tape, M.output.trans h.output, by rw [M.size]; exact h.size, fun k h1 h2 h3 => (M.other k h2).trans (h.block k h1 h2 h3), fun x hx => ?_, fun x => (M.frozen x).trans (h.frozen x)⟩
  rw [← h.cell x hx]
  exact World.cell?_setCell_other _ _ _ _ (by simp)
end

/-- What holds when i limbs have been added. -/
def AddL (X V Y : Nat → Nat) (n m i c : Nat) : Prop := lv V i + c * 2 ^ (32 * i) = lv (extL X n) i + lv (extL Y m) i ∧ c ≤ 1 ∧ (∀ k, i ≤ k → V k = extL X n k) ∧ ∀ k, k < i → V k < 4294967296

theorem addL_step {X V Y : Nat → Nat} {n m i c s c' x y : Nat} (h : AddL X V Y n m i c) (hx : V i = x) (hy : extL Y m i = y) (hs : s < 4294967296) (hc : c' ≤ 1) (e : s + c' * 4294967296 = x + y + c) : AddL X (upd V i s) Y n m (i + 1) c' := by
  obtain ⟨h1, h2, h3, h4⟩ := h
  have hx0 : extL X n i = x := by rw [← hx]; exact (h3 i (Nat.le_refl _)).symm
  refine ⟨?_, hc, fun k hk => by rw [upd_other _ _ _ _ (by omega)]; exact h3 k (by omega), fun k hk => ?_⟩
  · simp only [lv, upd_same, lv_upd V i s i (Nat.le_refl _), hx0, hy]
    rw [pow32]
    generalize 2 ^ (32 * i) = P at *
    have e2 : s * P + c' * (4294967296 * P) = x * P + y * P + c * P := by rw [← Nat.mul_assoc, ← Nat.add_mul, ← Nat.add_mul, ← Nat.add_mul, e]
    omega
  · by_cases e2 : k = i
    · subst e2; rw [upd_same]; exact hs
    · rw [upd_other _ _ _ _ e2]; exact h4 k (by omega)

theorem addL_end {X V Y : Nat → Nat} {n m k c : Nat} (h : AddL X V Y n m k c) (hn : n ≤ k) (hm : m ≤ k) : lv V k + c * 2 ^ (32 * k) = lv X n + lv Y m := by
  have := h.1
  rw [lv_extL X n k hn, lv_extL Y m k hm] at this
  exact this

end Go.Proofs.YtcenondecckdfaaDoor

namespace Go.Proofs.YtcenondecckdfaaDoor
open Go.RowKit

/-- The bytes handed in. -/
def Code (w : World) (a : Option Addr) (b off n : Nat) (X : Nat → Nat) : Prop := ∀ j, j < n → X j < 256 ∧ a = some ⟨b, off, none⟩ ∧ w.cell? ⟨b, off + j, none⟩ = some (.int .u8 (X j))

/-- A reader in its box. -/
structure Rd (w : World) (c : Nat) (a : Option Addr) (b off n cap : Nat) (X : Nat → Nat) : Prop where
  c0 : w.cell? ⟨c, 0, none⟩ = some (.slice a n cap)
  c1 : ∃ p : Nat, p ≤ n ∧ w.cell? ⟨c, 1, none⟩ = some (.int .i64 p)
  f : ∀ k, w.frozen? ⟨c, k, none⟩ = false
  code : Code w a b off n X
  ne : 0 < n → b ≠ c

theorem Code.lt {w : World} {a : Option Addr} {b off n : Nat} {X : Nat → Nat} (h : Code w a b off n X) (h0 : 0 < n) : b < w.heap.size := World.block_lt_of_cell? _ _ (h 0 h0).2.2
theorem Code.oth {w w' : World} {a : Option Addr} {b off n c : Nat} {X : Nat → Nat} (h : Code w a b off n X) (s : Oth c w w') (hne : 0 < n → b ≠ c) : Code w' a b off n X :=
  fun j hj => ⟨(h j hj).1, (h j hj).2.1, (s.cell (a := ⟨b, off + j, none⟩) (h.lt (by omega)) (hne (by omega))).trans (h j hj).2.2⟩
theorem Code.keep {w w' : World} {a : Option Addr} {b off n : Nat} {X : Nat → Nat} (h : Code w a b off n X) (s : w.Since w.heap.size w') : Code w' a b off n X :=
  fun j hj => ⟨(h j hj).1, (h j hj).2.1, (s.cell (a := ⟨b, off + j, none⟩) (h.lt (by omega))).trans (h j hj).2.2⟩
theorem Rd.lt {w : World} {c : Nat} {a : Option Addr} {b off n cap : Nat} {X : Nat → Nat} (h : Rd w c a b off n cap X) : c < w.heap.size := World.block_lt_of_cell? _ _ h.c0
theorem Rd.keep {w w' : World} {c : Nat} {a : Option Addr} {b off n cap : Nat} {X : Nat → Nat} (h : Rd w c a b off n cap X) (s : w.Since w.heap.size w') : Rd w' c a b off n cap X := by
  obtain ⟨p, hp, h1⟩ := h.c1
  exact ⟨(s.cell (a := ⟨c, 0, none⟩) h.lt).trans h.c0, ⟨p, hp, (s.cell (a := ⟨c, 1, none⟩) h.lt).trans h1⟩, fun k => (s.frozen (a := ⟨c, k, none⟩) h.lt).trans (h.f k), h.code.keep s, h.ne⟩

theorem Rd.same {w w' : World} {c : Nat} {a : Option Addr} {b off n cap : Nat} {X : Nat → Nat} (h : Rd w c a b off n cap X) (s : Same w w') : Rd w' c a b off n cap X := h.keep (s.since _)
theorem Oth.ofSame {w w' : World} (c : Nat) (s : Same w w') : Oth c w w' := Oth.ofSince c (s.since _)

theorem Rd.step {w w1 : World} {c : Nat} {a : Option Addr} {b off n cap p : Nat} {X : Nat → Nat} (h : Rd w c a b off n cap X) (hp : p < n) (k1 : w.cell? ⟨c, 1, none⟩ = some (.int .i64 p)) (s : Same w w1) :
    Rd (w1.setCell ⟨c, 1, none⟩ (.int .i64 ((p : Int) + 1))) c a b off n cap X ∧ Oth c w (w1.setCell ⟨c, 1, none⟩ (.int .i64 ((p : Int) + 1))) := by
  have M := (Marked.refl w1 c).setCell 1 (.int .i64 ((p : Int) + 1))
  have O : Oth c w (w1.setCell ⟨c, 1, none⟩ (.int .i64 ((p : Int) + 1))) := (Oth.ofSame c s).trans (Oth.ofMarked M)
  refine ⟨⟨?_, ⟨p + 1, hp, ?_⟩, fun k => ?_, h.code.oth O h.ne, h.ne⟩, O⟩
  · rw [World.cell?_setCell_other _ _ _ _ (by simp), s.cell]; exact h.c0
  · exact World.cell?_setCell_same _ _ _ (by rw [s.cell]; exact k1)
  · rw [M.frozen, s.frozen]; exact h.f k

end Go.Proofs.YtcenondecckdfaaDoor

namespace Go.Proofs.YtcenondecckdfaaDoor
open Go.RowKit

theorem Oth.grown {c : Nat} {w w1 w2 : World} {row : Option Nat} (h : Oth c w w1) (g : w1.grownBy w2 row) (hr : ∀ k, row = some k → w.heap.size ≤ k) : Oth c w w2 :=
  ⟨g.os.trans h.os, g.tape.trans h.tape, g.output.trans h.output, Nat.le_trans h.size g.size, fun k h1 h2 => (g.block k (Nat.lt_of_lt_of_le h1 h.size) (fun e => by have := hr k e.symm; omega)).trans (h.block k h1 h2)⟩
theorem own_oth {w w' : World} {base c : Nat} {e : TypeId} {size : Nat} {v : Value} {n : Nat} {xs : List Value} (h : w.ownsRow base e size v n xs) (s : Oth c w w') (hc : c < base) : w'.ownsRow base e size v n xs :=
  h.kept (row := some c) ⟨s.os, s.tape, s.output, s.size, fun k h1 h2 => s.block k h1 (fun e => h2 (by rw [e]))⟩ (Or.inr (fun e => by have := (h.lt c e).1; omega))
theorem Rd.grown {w1 w2 : World} {c : Nat} {a : Option Addr} {b off n cap : Nat} {X : Nat → Nat} {row : Option Nat} (h : Rd w1 c a b off n cap X) (g : w1.grownBy w2 row) (hc : some c ≠ row) (hb : 0 < n → some b ≠ row) : Rd w2 c a b off n cap X := by
  obtain ⟨p, hp, h1⟩ := h.c1
  have e := g.block c h.lt hc
  exact ⟨(World.cell?_of_block (w := w1) (a := ⟨c, 0, none⟩) e).trans h.c0, ⟨p, hp, (World.cell?_of_block (w := w1) (a := ⟨c, 1, none⟩) e).trans h1⟩, fun k => (World.frozen?_of_block (w := w1) (a := ⟨c, k, none⟩) e).trans (h.f k),
    fun j hj => ⟨(h.code j hj).1, (h.code j hj).2.1, (World.cell?_of_block (w := w1) (a := ⟨b, off + j, none⟩) (g.block b (h.code.lt (by omega)) (hb (by omega)))).trans (h.code j hj).2.2⟩, h.ne⟩

end Go.Proofs.YtcenondecckdfaaDoor

namespace Go.Proofs.YtcenondecckdfaaDoor
open Go.RowKit

set_option maxHeartbeats 800000 in
set_option maxRecDepth 100000 in
theorem szU_ok (a : Option Addr) (n cap L : Nat) (w : World) (hL : L ≤ 1048576) (hn : n ≤ L) :
    Calls Tryd.prog 9 #[.slice a n cap, .int .i64 L] w fun e w' => e = .returned (.int .i64 ((L - n : Nat) : Int)) ∧ w' = w := by
  have h : (L : Int) - n = ((L - n : Nat) : Int) := by omega
  have H := hide h
  clear h
  go_enter Tryd.func9, Tryd.ntmps9
  go_wp2
  go_ret
  exact ⟨ret_int H.out, rfl⟩

set_option maxHeartbeats 800000 in
set_option maxRecDepth 100000 in
theorem szU_no (a : Option Addr) (n cap L : Nat) (w : World) (hL : L ≤ 1048576) (hn : L < n) (hm : n ≤ 9223372036854775807) :
    Calls Tryd.prog 9 #[.slice a n cap, .int .i64 L] w fun e w' => e = .returned (.int .i64 (-1)) ∧ w' = w := by
  go_enter Tryd.func9, Tryd.ntmps9
  go_wp2
  go_ret
  exact ⟨rfl, rfl⟩

set_option maxHeartbeats 800000 in
set_option maxRecDepth 100000 in
theorem szRat_ok (neg : Bool) (a b : Option Addr) (n ca m cb L : Nat) (w : World) (hL : L ≤ 1048576) (hn : n + m ≤ L) :
    Calls Tryd.prog 4 #[.agg #[.bool neg, .slice a n ca, .slice b m cb], .int .i64 L] w fun e w' => e = .returned (.int .i64 ((L - n - m : Nat) : Int)) ∧ w.Since w.heap.size w' := by
  have sA : w.Since w.heap.size (w.alloc (.cells #[.bool neg, .slice a n ca, .slice b m cb] 24)) := (World.Since.refl _ _).alloc (Nat.le_refl _) _
  go_enter Tryd.func4, Tryd.ntmps4
  go_wp2_with fail
  refine (szU_ok a n ca L _ hL (by omega)).mono ?_
  rintro e w1 ⟨rfl, rfl⟩
  go_wp2_with fail
  refine (szU_ok b m cb (L - n) _ (by omega) (by omega)).mono ?_
  rintro e w1 ⟨rfl, rfl⟩
  go_wp2
  go_ret
  exact ⟨rfl, sA⟩

set_option maxHeartbeats 800000 in
set_option maxRecDepth 100000 in
theorem szRat_no (neg : Bool) (a b : Option Addr) (n ca m cb L : Nat) (w : World) (hL : L ≤ 1048576) (hn : L < n + m) (hn1 : n ≤ 9223372036854775807) (hm : m ≤ 9223372036854775807) :
    Calls Tryd.prog 4 #[.agg #[.bool neg, .slice a n ca, .slice b m cb], .int .i64 L] w fun e w' => e = .returned (.int .i64 (-1)) ∧ w.Since w.heap.size w' := by
  have sA : w.Since w.heap.size (w.alloc (.cells #[.bool neg, .slice a n ca, .slice b m cb] 24)) := (World.Since.refl _ _).alloc (Nat.le_refl _) _
  by_cases h : L < n
  · go_enter Tryd.func4, Tryd.ntmps4
    go_wp2_with fail
    refine (szU_no a n ca L _ hL h hn1).mono ?_
    rintro e w1 ⟨rfl, rfl⟩
    go_wp2
    go_ret
    exact ⟨rfl, sA⟩
  · go_enter Tryd.func4, Tryd.ntmps4
    go_wp2_with fail
    refine (szU_ok a n ca L _ hL (by omega)).mono ?_
    rintro e w1 ⟨rfl, rfl⟩
    go_wp2_with fail
    refine (szU_no b m cb (L - n) _ (by omega) (by omega) hm).mono ?_
    rintro e w1 ⟨rfl, rfl⟩
    go_wp2
    go_ret
    exact ⟨rfl, sA⟩

set_option maxHeartbeats 1600000 in
set_option maxRecDepth 100000 in
theorem toRat_any (neg : Bool) (a b : Option Addr) (ba oa n ca bb ob m cb : Nat) (X Y : Nat → Nat) (w : World) (hn : n ≤ 1048576) (hm : m ≤ 1048576) (hX : Limbs w a ba oa n X) (hY : Limbs w b bb ob m Y) :
    Calls Tryd.prog 6 #[.agg #[.bool neg, .slice a n ca, .slice b m cb]] w fun e w' => ∃ g h, e = .returned (.agg #[.bool neg, .slice (some ⟨g, 0, none⟩) n n, .slice (some ⟨h, 0, none⟩) m m]) ∧ w.Since w.heap.size w' ∧ w.heap.size ≤ g ∧ g < h ∧
      h < w'.heap.size ∧ Limbs w' (some ⟨g, 0, none⟩) g 0 n X ∧ Limbs w' (some ⟨h, 0, none⟩) h 0 m Y ∧ (∀ o, w'.frozen? ⟨g, o, none⟩ = false) ∧ (∀ o, w'.frozen? ⟨h, o, none⟩ = false) := by
  have sA : w.Since w.heap.size (((w.alloc (.cells #[.bool neg, .slice a n ca, .slice b m cb] 24)).alloc (.cells #[.bool false, .slice none 0 0, .slice none 0 0] 27)).alloc (.cells #[.bool neg, .slice none 0 0, .slice none 0 0] 27)) :=
    (((World.Since.refl _ _).alloc (Nat.le_refl _) _).alloc (by simp) _).alloc (by simp; omega) _
  have zA : (((w.alloc (.cells #[.bool neg, .slice a n ca, .slice b m cb] 24)).alloc (.cells #[.bool false, .slice none 0 0, .slice none 0 0] 27)).alloc (.cells #[.bool neg, .slice none 0 0, .slice none 0 0] 27)).heap.size = w.heap.size + 1 + 1 + 1 := by simp
  have bA : Box3 (((w.alloc (.cells #[.bool neg, .slice a n ca, .slice b m cb] 24)).alloc (.cells #[.bool false, .slice none 0 0, .slice none 0 0] 27)).alloc (.cells #[.bool neg, .slice none 0 0, .slice none 0 0] 27)) w.heap.size (.bool neg) (.slice a n ca) (.slice b m cb) := ((Box3.new w _ _ _ _).keep ((World.Since.refl _ _).alloc (Nat.le_refl _) _)).keep ((World.Since.refl _ _).alloc (Nat.le_refl _) _)
  have rA : Box3 (((w.alloc (.cells #[.bool neg, .slice a n ca, .slice b m cb] 24)).alloc (.cells #[.bool false, .slice none 0 0, .slice none 0 0] 27)).alloc (.cells #[.bool neg, .slice none 0 0, .slice none 0 0] 27)) (w.heap.size + 1) (.bool false) (.slice none 0 0) (.slice none 0 0) := by
    have := (Box3.new (w.alloc (.cells #[.bool neg, .slice a n ca, .slice b m cb] 24)) (.bool false) (.slice none 0 0) (.slice none 0 0) 27).keep ((World.Since.refl _ _).alloc (Nat.le_refl _) (.cells #[.bool neg, .slice none 0 0, .slice none 0 0] 27))
    simpa using this
  have oA : Box3 (((w.alloc (.cells #[.bool neg, .slice a n ca, .slice b m cb] 24)).alloc (.cells #[.bool false, .slice none 0 0, .slice none 0 0] 27)).alloc (.cells #[.bool neg, .slice none 0 0, .slice none 0 0] 27)) (w.heap.size + 1 + 1) (.bool neg) (.slice none 0 0) (.slice none 0 0) := by
    have := Box3.new ((w.alloc (.cells #[.bool neg, .slice a n ca, .slice b m cb] 24)).alloc (.cells #[.bool false, .slice none 0 0, .slice none 0 0] 27)) (.bool neg) (.slice none 0 0) (.slice none 0 0) 27
    simpa using this
  go_enter Tryd.func6, Tryd.ntmps6
  go_wp2_with fail
  generalize (((w.alloc (.cells #[.bool neg, .slice a n ca, .slice b m cb] 24)).alloc (.cells #[.bool false, .slice none 0 0, .slice none 0 0] 27)).alloc (.cells #[.bool neg, .slice none 0 0, .slice none 0 0] 27)) = wA at *
  refine (to_any a ba oa n ca X wA hn (hX.keep sA)).mono ?_
  rintro e w1 ⟨rfl, s1, r1⟩
  have z1 := s1.size
  have b1 := bA.keep s1
  have q1 := rA.keep s1
  have o1 := oA.keep s1
  have S1 : w.Since w.heap.size w1 := sA.trans (sinceMono s1 sA.size)
  have L1 := limbs_row r1
  have F1 : ∀ o, w1.frozen? ⟨wA.heap.size, o, none⟩ = false := fun o => r1.frozen o
  have t1 : wA.heap.size < w1.heap.size := r1.lt
  rw [zA] at L1 F1 t1
  clear r1 bA rA oA
  have k1 := b1.c2
  have k2 := o1.c1
  have k3 := o1.f 1
  go_wp2_with fail
  clear k1 k2 k3
  have M2 : Marked w1 (w1.setCell ⟨w.heap.size + 1 + 1, 1, none⟩ (.slice (some ⟨w.heap.size + 1 + 1 + 1, 0, none⟩) n n)) (w.heap.size + 1 + 1) := (Marked.refl w1 _).setCell _ _
  have o2 := o1.set1 (.slice (some ⟨w.heap.size + 1 + 1 + 1, 0, none⟩) n n)
  have q2 := q1.marked M2 (by omega)
  have S2 : w.Since w.heap.size (w1.setCell ⟨w.heap.size + 1 + 1, 1, none⟩ (.slice (some ⟨w.heap.size + 1 + 1 + 1, 0, none⟩) n n)) := S1.trans (M2.since (by omega))
  have L2 := L1.marked M2 (fun _ => by omega)
  have F2 : ∀ o, (w1.setCell ⟨w.heap.size + 1 + 1, 1, none⟩ (.slice (some ⟨w.heap.size + 1 + 1 + 1, 0, none⟩) n n)).frozen? ⟨w.heap.size + 1 + 1 + 1, o, none⟩ = false := fun o => by rw [M2.frozenO (a := ⟨w.heap.size + 1 + 1 + 1, o, none⟩) (by show w.heap.size + 1 + 1 + 1 ≠ _; omega)]; exact F1 o
  have z2 := M2.size
  generalize w1.setCell ⟨w.heap.size + 1 + 1, 1, none⟩ (.slice (some ⟨w.heap.size + 1 + 1 + 1, 0, none⟩) n n) = w2 at *
  refine (to_any b bb ob m cb Y w2 hm (hY.keep S2)).mono ?_
  rintro e w3 ⟨rfl, s3, r3⟩
  have z3 := s3.size
  have q3 := q2.keep s3
  have o3 := o2.keep s3
  have S3 : w.Since w.heap.size w3 := S2.trans (sinceMono s3 S2.size)
  have L3 := L2.keep s3
  have F3 : ∀ o, w3.frozen? ⟨w.heap.size + 1 + 1 + 1, o, none⟩ = false := fun o => by rw [s3.frozen (a := ⟨w.heap.size + 1 + 1 + 1, o, none⟩) (by show w.heap.size + 1 + 1 + 1 < _; omega)]; exact F2 o
  have K3 := limbs_row r3
  have G3 : ∀ o, w3.frozen? ⟨w2.heap.size, o, none⟩ = false := fun o => r3.frozen o
  have t3 : w2.heap.size < w3.heap.size := r3.lt
  clear r3 L1 L2 F1 F2 b1 q1 o1 q2 o2
  have q30 := q3.c0
  have q31 := q3.c1
  have q32 := q3.c2
  have q3f0 := q3.f 0
  have q3f1 := q3.f 1
  have q3f2 := q3.f 2
  have o30 := o3.c0
  have o31 := o3.c1
  have o32 := o3.c2
  have o3f2 := o3.f 2
  have M4 : Marked w3 (w3.setCell ⟨w.heap.size + 1 + 1, 2, none⟩ (.slice (some ⟨w1.heap.size, 0, none⟩) m m)) (w.heap.size + 1 + 1) := (Marked.refl w3 _).setCell _ _
  rw [z2] at K3 G3 t3
  go_wp2
  have q4 := (((q3.marked M4 (by omega)).set0 (.bool neg)).set1 (.slice (some ⟨w.heap.size + 1 + 1 + 1, 0, none⟩) n n)).set2 (.slice (some ⟨w1.heap.size, 0, none⟩) m m)
  refine bodyPost_ret (results_box3 rfl _ _ _ _ _ _ rfl q4) rfl ?_
  have M5 : Marked (w3.setCell ⟨w.heap.size + 1 + 1, 2, none⟩ (.slice (some ⟨w1.heap.size, 0, none⟩) m m)) _ (w.heap.size + 1) := (((Marked.refl _ _).setCell 0 (.bool neg)).setCell 1 (.slice (some ⟨w.heap.size + 1 + 1 + 1, 0, none⟩) n n)).setCell 2 (.slice (some ⟨w1.heap.size, 0, none⟩) m m)
  refine ⟨w.heap.size + 1 + 1 + 1, w1.heap.size, rfl, (S3.trans (M4.since (by omega))).trans (M5.since (by omega)), by omega, by omega, by rw [M5.size, M4.size]; omega,
    (L3.marked M4 (fun _ => by omega)).marked M5 (fun _ => by omega), (K3.marked M4 (fun _ => by omega)).marked M5 (fun _ => by omega), fun o => ?_, fun o => ?_⟩
  · rw [M5.frozenO (a := ⟨w.heap.size + 1 + 1 + 1, o, none⟩) (by show w.heap.size + 1 + 1 + 1 ≠ _; omega), M4.frozenO (a := ⟨w.heap.size + 1 + 1 + 1, o, none⟩) (by show w.heap.size + 1 + 1 + 1 ≠ _; omega)]; exact F3 o
  · rw [M5.frozenO (a := ⟨w1.heap.size, o, none⟩) (by show w1.heap.size ≠ _; omega), M4.frozenO (a := ⟨w1.heap.size, o, none⟩) (by show w1.heap.size ≠ _; omega)]; exact G3 o

set_option maxHeartbeats 800000 in
set_option maxRecDepth 100000 in
/-- eqRat at two Rats of the same fields. -/
theorem eqRat_true (neg : Bool) (a a' b b' : Option Addr) (ba oa ba' oa' n ca ca' bb ob bb' ob' m cb cb' : Nat) (X Y : Nat → Nat) (w : World) (hn : n ≤ 4194304) (hm : m ≤ 4194304)
    (hX : Limbs w a ba oa n X) (hX' : Limbs w a' ba' oa' n X) (hY : Limbs w b bb ob m Y) (hY' : Limbs w b' bb' ob' m Y) :
    Calls Tryd.prog 8 #[.agg #[.bool neg, .slice a n ca, .slice b m cb], .agg #[.bool neg, .slice a' n ca', .slice b' m cb']] w fun e w' => e = .returned (.bool true) ∧ w.Since w.heap.size w' := by
  have sA : w.Since w.heap.size ((w.alloc (.cells #[.bool neg, .slice a n ca, .slice b m cb] 27)).alloc (.cells #[.bool neg, .slice a' n ca', .slice b' m cb'] 27)) := ((World.Since.refl _ _).alloc (Nat.le_refl _) _).alloc (by simp) _
  have bA : Box3 ((w.alloc (.cells #[.bool neg, .slice a n ca, .slice b m cb] 27)).alloc (.cells #[.bool neg, .slice a' n ca', .slice b' m cb'] 27)) w.heap.size (.bool neg) (.slice a n ca) (.slice b m cb) := (Box3.new w _ _ _ _).keep ((World.Since.refl _ _).alloc (Nat.le_refl _) _)
  have cA : Box3 ((w.alloc (.cells #[.bool neg, .slice a n ca, .slice b m cb] 27)).alloc (.cells #[.bool neg, .slice a' n ca', .slice b' m cb'] 27)) (w.heap.size + 1) (.bool neg) (.slice a' n ca') (.slice b' m cb') := by
    have := Box3.new (w.alloc (.cells #[.bool neg, .slice a n ca, .slice b m cb] 27)) (.bool neg) (.slice a' n ca') (.slice b' m cb') 27
    simpa using this
  go_enter Tryd.func8, Tryd.ntmps8
  go_wp2_with fail
  generalize ((w.alloc (.cells #[.bool neg, .slice a n ca, .slice b m cb] 27)).alloc (.cells #[.bool neg, .slice a' n ca', .slice b' m cb'] 27)) = wA at *
  refine (eq_true a a' ba oa ba' oa' n ca ca' X wA hn (hX.keep sA) (hX'.keep sA)).mono ?_
  rintro e w1 ⟨rfl, s1⟩
  have S1 := s1.since wA.heap.size
  have k1 := (bA.keep S1).c2
  have k2 := (cA.keep S1).c2
  go_wp2_with fail
  refine (eq_true b b' bb ob bb' ob' m cb cb' Y w1 hm ((hY.keep sA).keep S1) ((hY'.keep sA).keep S1)).mono ?_
  rintro e w2 ⟨rfl, s2⟩
  go_wp2
  go_ret
  exact ⟨rfl, (sA.trans (sinceMono S1 sA.size)).trans (s2.since _)⟩

end Go.Proofs.YtcenondecckdfaaDoor
