import Derived.Test.YtnogbaapcjjngaaGreatDoorOwnP16
import Derived.Test.YtnogbaapcjjngaaGreatDoorOwnP1
import Derived.Test.YtnogbaapcjjngaaGreatDoorOwnP3
namespace Go.Proofs.YtnogbaapcjjngaaGreatDoor
open Go.RowKit

set_option maxHeartbeats 1600000 in
set_option maxRecDepth 100000 in
theorem l1AllOk_any (a : Option Addr) (lo b off n cap : Nat) (R : Nat → RatD) (w : World) (hn : n ≤ 16777216) (hs : szR R n ≤ 16777216) (H : Rats w lo a b off n R) :
    Calls Tryz.prog 78 #[.slice a n cap] w fun e w' => ∃ r : Bool, e = .returned (.bool r) ∧ (r = true ↔ RatsOk R n) ∧ w.Since w.heap.size w' := by
  go_enter Tryz.func78, Tryz.ntmps78
  go_wp2
  go_loopw [3] (fun i wr => ∃ k : Nat, k ≤ n ∧ i = .int .i64 k ∧ w.Since w.heap.size wr ∧ RatsOk R k) (fun i _ => n - (intOf i).toNat)
  case atStart => exact ⟨0, Nat.zero_le _, rfl, World.Since.refl _ _, fun i hi => absurd hi (by omega)⟩
  case round =>
    obtain ⟨k, hk, rfl, s, O⟩ := hrel
    by_cases hlt : k < n
    · obtain ⟨rfl, a1, a2, k1, k2, M⟩ := H k hlt
      have M' := M.keep s
      have g0 := M'.c0
      have g1 := M'.c1
      have g2 := M'.c2
      have hz : (k : Int) < (n : Int) := by omega
      have hsz := szR_at (R := R) hlt
      obtain ⟨ba, oa, -, LX⟩ := M'.L.LX
      obtain ⟨bb, ob, -, LY⟩ := M'.L.LY
      have J1 := specRatOk_any (R k).neg a1 a2 ba oa (R k).n k1 bb ob (R k).m k2 (R k).X (R k).Y wr (by omega) (by omega) LX LY M.L.lX M.L.lY
      rw [show ratOkB (R k).neg (R k).X (R k).n (R k).Y (R k).m = (R k).ok from rfl] at J1
      cases hok : (R k).ok
      · have HK := hide hok
        rw [hok] at J1
        clear hok
        go_wp2_with fail
        refine J1.mono ?_
        rintro e w2 ⟨rfl, s2⟩
        go_wp2
        go_ret
        refine ⟨false, rfl, ⟨(fun h => by cases h), fun h => ?_⟩, s.trans (sinceMono s2 s.size)⟩
        have := h k hlt
        rw [HK.out] at this
        cases this
      · have HK := hide hok
        rw [hok] at J1
        clear hok
        go_wp2_with fail
        refine J1.mono ?_
        rintro e w2 ⟨rfl, s2⟩
        go_wp2
        go_roundw
        case rel =>
          refine ⟨k + 1, by omega, by go_num, s.trans (sinceMono s2 s.size), fun i hi => ?_⟩
          by_cases e : i = k
          · subst e; exact HK.out
          · exact O i (by omega)
        case measure => simp [intOf]; omega
    · have e : k = n := by omega
      subst e
      go_wp2
      go_ret
      exact ⟨true, rfl, ⟨fun _ => O, fun _ => rfl⟩, s⟩

set_option maxHeartbeats 800000 in
set_option maxRecDepth 100000 in
theorem l2In_yes (x a b : Int) (w : World) (h1 : a ≤ x) (h2 : x ≤ b) :
    Calls Tryz.prog 55 #[.int .i64 x, .int .i64 a, .int .i64 b] w fun e w' => e = .returned (.bool true) ∧ w' = w := by
  go_enter Tryz.func55, Tryz.ntmps55
  go_wp2
  go_ret
  exact ⟨rfl, rfl⟩

set_option maxHeartbeats 800000 in
set_option maxRecDepth 100000 in
theorem l2In_no (x a b : Int) (w : World) (h : ¬ (a ≤ x ∧ x ≤ b)) :
    Calls Tryz.prog 55 #[.int .i64 x, .int .i64 a, .int .i64 b] w fun e w' => e = .returned (.bool false) ∧ w' = w := by
  by_cases h1 : a ≤ x
  · have h2 : ¬ x ≤ b := fun h2 => h ⟨h1, h2⟩
    clear h
    go_enter Tryz.func55, Tryz.ntmps55
    go_wp2
    go_ret
    exact ⟨rfl, rfl⟩
  · clear h
    go_enter Tryz.func55, Tryz.ntmps55
    go_wp2
    go_ret
    exact ⟨rfl, rfl⟩

/-- The sides are in their bounds. -/
def AffD.sides (d : AffD) : Prop := 0 ≤ d.rows ∧ d.rows ≤ 20000 ∧ 0 ≤ d.cols ∧ d.cols ≤ 20000

/-- .. and the lists as long as they say. -/
def AffD.shape (d : AffD) : Prop := d.sides ∧ (d.nw : Int) = d.rows * d.cols ∧ (d.nb : Int) = d.rows

/-- The cells of a map. -/
def AffD.cells (d : AffD) : Int := d.rows * (d.cols + 1)

def AffD.vals (d : AffD) : Prop := RatsOk d.W d.nw ∧ RatsOk d.B d.nb

theorem AffD.sides.bounds {d : AffD} (h : d.sides) : 0 ≤ d.cells ∧ d.cells ≤ 400020000 ∧ 0 ≤ d.rows * d.cols ∧ d.rows * d.cols ≤ 400000000 := by
  obtain ⟨h0, h1, h2, h3⟩ := h
  have a1 : d.rows * d.cols ≤ 20000 * 20000 := Int.mul_le_mul h1 h3 h2 (by omega)
  have a2 : 0 ≤ d.rows * d.cols := Int.mul_nonneg h0 h2
  have e : d.cells = d.rows * d.cols + d.rows := by unfold AffD.cells; rw [Int.mul_add, Int.mul_one]
  omega

set_option maxHeartbeats 800000 in
set_option maxRecDepth 100000 in
theorem l3Cells_any (d : AffD) (v2 v3 : Value) (w : World) (h : d.sides) :
    Calls Tryz.prog 57 #[.agg #[.int .i64 d.rows, .int .i64 d.cols, v2, v3]] w fun e w' => e = .returned (.int .i64 d.cells) ∧ w.Since w.heap.size w' := by
  have sA : w.Since w.heap.size (w.alloc (.cells #[.int .i64 d.rows, .int .i64 d.cols, v2, v3] 74)) := (World.Since.refl _ _).alloc (Nat.le_refl _) _
  have hb := h.bounds
  unfold AffD.cells at hb ⊢
  obtain ⟨h0, h1, h2, h3⟩ := h
  go_enter Tryz.func57, Tryz.ntmps57
  go_wp2
  go_ret
  exact ⟨rfl, sA⟩

set_option maxHeartbeats 3200000 in
set_option maxRecDepth 100000 in
theorem l3MapOk_any (d : AffD) (a1 a2 : Option Addr) (lo k1 k2 : Nat) (w : World) (hd : d.size ≤ 16777216) (H : AffL w lo d a1 a2 k1 k2) :
    Calls Tryz.prog 56 #[.agg #[.int .i64 d.rows, .int .i64 d.cols, .slice a1 d.nw k1, .slice a2 d.nb k2]] w fun e w' => ∃ r : Bool, e = .returned (.bool r) ∧ (r = true ↔ d.shape ∧ d.cells ≤ 20000 ∧ d.vals) ∧ w.Since w.heap.size w' := by
  have ts := hd
  unfold AffD.size at ts
  have sA : w.Since w.heap.size (w.alloc (.cells #[.int .i64 d.rows, .int .i64 d.cols, .slice a1 d.nw k1, .slice a2 d.nb k2] 74)) := (World.Since.refl _ _).alloc (Nat.le_refl _) _
  have bA := Box4.new w (.int .i64 d.rows) (.int .i64 d.cols) (.slice a1 d.nw k1) (.slice a2 d.nb k2) 74
  by_cases hr : 0 ≤ d.rows ∧ d.rows ≤ 20000
  rotate_left
  · have HN := hide (show ¬ d.shape from fun h => hr ⟨h.1.1, h.1.2.1⟩)
    go_enter Tryz.func56, Tryz.ntmps56
    go_wp2_with fail
    refine (l2In_no d.rows 0 20000 _ hr).mono ?_
    rintro e w1 ⟨rfl, rfl⟩
    clear hr
    go_wp2
    go_ret
    exact ⟨false, rfl, ⟨(fun h => by cases h), fun h => absurd h.1 HN.out⟩, sA⟩
  by_cases hc : 0 ≤ d.cols ∧ d.cols ≤ 20000
  rotate_left
  · have HN := hide (show ¬ d.shape from fun h => hc ⟨h.1.2.2.1, h.1.2.2.2⟩)
    go_enter Tryz.func56, Tryz.ntmps56
    go_wp2_with fail
    refine (l2In_yes d.rows 0 20000 _ hr.1 hr.2).mono ?_
    rintro e w1 ⟨rfl, rfl⟩
    go_wp2_with fail
    refine (l2In_no d.cols 0 20000 _ hc).mono ?_
    rintro e w1 ⟨rfl, rfl⟩
    clear hr hc
    go_wp2
    go_ret
    exact ⟨false, rfl, ⟨(fun h => by cases h), fun h => absurd h.1 HN.out⟩, sA⟩
  have hS : d.sides := ⟨hr.1, hr.2, hc.1, hc.2⟩
  have hb := hS.bounds
  obtain ⟨hr0, hr1⟩ := hr
  obtain ⟨hc0, hc1⟩ := hc
  obtain ⟨hb0, hb1, hb2, hb3⟩ := hb
  by_cases hw : (d.nw : Int) = d.rows * d.cols
  rotate_left
  · have HN := hide (show ¬ d.shape from fun h => hw h.2.1)
    go_enter Tryz.func56, Tryz.ntmps56
    go_wp2_with fail
    refine (l2In_yes d.rows 0 20000 _ hr0 hr1).mono ?_
    rintro e w1 ⟨rfl, rfl⟩
    go_wp2_with fail
    refine (l2In_yes d.cols 0 20000 _ hc0 hc1).mono ?_
    rintro e w1 ⟨rfl, rfl⟩
    go_wp2
    go_ret
    exact ⟨false, rfl, ⟨(fun h => by cases h), fun h => absurd h.1 HN.out⟩, sA⟩
  by_cases hv : (d.nb : Int) = d.rows
  rotate_left
  · have HN := hide (show ¬ d.shape from fun h => hv h.2.2)
    go_enter Tryz.func56, Tryz.ntmps56
    go_wp2_with fail
    refine (l2In_yes d.rows 0 20000 _ hr0 hr1).mono ?_
    rintro e w1 ⟨rfl, rfl⟩
    go_wp2_with fail
    refine (l2In_yes d.cols 0 20000 _ hc0 hc1).mono ?_
    rintro e w1 ⟨rfl, rfl⟩
    go_wp2
    go_ret
    exact ⟨false, rfl, ⟨(fun h => by cases h), fun h => absurd h.1 HN.out⟩, sA⟩
  have HS := hide (show d.shape from ⟨hS, hw, hv⟩)
  have q1 : ((d.nw : Int) != d.rows * d.cols) = false := by simpa using hw
  have q2 : ((d.nb : Int) != d.rows) = false := by simpa using hv
  clear hw hv
  go_enter Tryz.func56, Tryz.ntmps56
  go_wp2_with fail
  refine (l2In_yes d.rows 0 20000 _ hr0 hr1).mono ?_
  rintro e w1 ⟨rfl, rfl⟩
  go_wp2_with fail
  refine (l2In_yes d.cols 0 20000 _ hc0 hc1).mono ?_
  rintro e w1 ⟨rfl, rfl⟩
  go_wp2_with fail
  refine (l3Cells_any d _ _ _ hS).mono ?_
  rintro e w1 ⟨rfl, s1⟩
  have B1 := bA.keep s1
  have b2 := B1.c2
  have b3 := B1.c3
  have S1 : w.Since w.heap.size w1 := sA.trans (sinceMono s1 sA.size)
  obtain ⟨ba, oa, -, LW⟩ := (H.keep S1).LW
  obtain ⟨bb, ob, -, LB⟩ := (H.keep S1).LB
  by_cases hcl : d.cells ≤ 20000
  rotate_left
  · have hg : 20000 < d.cells := by omega
    have HN := hide hcl
    clear hcl bA
    go_wp2
    go_ret
    exact ⟨false, rfl, ⟨(fun h => by cases h), fun h => absurd h.2.1 (by have := HN.out; omega)⟩, S1⟩
  have hg : ¬ 20000 < d.cells := by omega
  have HC := hide hcl
  clear hcl bA
  go_wp2_with fail
  refine (l1AllOk_any a1 lo ba oa d.nw k1 d.W w1 (by omega) (by omega) LW).mono ?_
  rintro e w2 ⟨r1, rfl, i1, s2⟩
  have I1 := hide i1
  clear i1
  cases r1
  · go_wp2
    go_ret
    exact ⟨false, rfl, ⟨(fun h => by cases h), fun h => absurd (I1.out.2 h.2.2.1) (by simp)⟩, S1.trans (sinceMono s2 S1.size)⟩
  · have b3' := (B1.keep s2).c3
    clear b2 b3
    go_wp2_with fail
    refine (l1AllOk_any a2 lo bb ob d.nb k2 d.B w2 (by omega) (by omega) (LB.keep s2)).mono ?_
    rintro e w3 ⟨r2, rfl, i2, s3⟩
    have I2 := hide i2
    clear i2
    go_wp2
    go_ret
    exact ⟨r2, rfl, ⟨fun h => ⟨HS.out, HC.out, I1.out.1 (by simp), I2.out.1 h⟩, fun h => I2.out.2 h.2.2.2⟩, (S1.trans (sinceMono s2 S1.size)).trans (sinceMono s3 (Nat.le_trans S1.size s2.size))⟩

/-- The cells of the first k maps. -/
def sumC (A : Nat → AffD) : Nat → Int
  | 0 => 0
  | k + 1 => sumC A k + (A k).cells

theorem sumC_succ (A : Nat → AffD) (k : Nat) : sumC A (k + 1) = sumC A k + (A k).cells := rfl

/-- What NetOk asks. -/
structure NetP (n : Nat) (A : Nat → AffD) : Prop where
  n0 : 1 ≤ n
  n1 : n ≤ 10000
  shape : ∀ k, k < n → (A k).shape
  chain : ∀ k, k < n → 0 < k → (A k).cols = (A (k - 1)).rows
  sum : sumC A n ≤ 20000
  vals : ∀ k, k < n → (A k).vals

theorem sumC_bound {A : Nat → AffD} {k : Nat} (h : ∀ j, j < k → (A j).shape) : 0 ≤ sumC A k ∧ sumC A k ≤ 400020000 * k := by
  induction k with
  | zero => simp [sumC]
  | succ k ih =>
    obtain ⟨h1, h2⟩ := ih (fun j hj => h j (by omega))
    obtain ⟨h3, h4, -, -⟩ := (h k (by omega)).1.bounds
    rw [sumC_succ]
    omega

theorem sumC_mono {A : Nat → AffD} {k n : Nat} (h : ∀ j, j < n → (A j).shape) (hk : k ≤ n) : sumC A k ≤ sumC A n := by
  induction n with
  | zero => simp at hk; subst hk; exact Int.le_refl _
  | succ n ih =>
    rcases Nat.lt_or_ge n k with h1 | h1
    · have : k = n + 1 := by omega
      subst this; exact Int.le_refl _
    · have := ih (fun j hj => h j (by omega)) h1
      have := (h n (by omega)).1.bounds
      rw [sumC_succ]
      omega

theorem NetP.cells {n : Nat} {A : Nat → AffD} (h : NetP n A) {k : Nat} (hk : k < n) : (A k).cells ≤ 20000 := by
  have h1 := sumC_mono h.shape (show k + 1 ≤ n from hk)
  have h2 := (sumC_bound (A := A) (k := k) (fun j hj => h.shape j (by omega))).1
  have h3 := h.sum
  rw [sumC_succ] at h1
  omega

end Go.Proofs.YtnogbaapcjjngaaGreatDoor

namespace Go.Proofs.YtnogbaapcjjngaaGreatDoor
open Go.RowKit

end Go.Proofs.YtnogbaapcjjngaaGreatDoor

namespace Go.Proofs.YtnogbaapcjjngaaGreatDoor
open Go.RowKit

end Go.Proofs.YtnogbaapcjjngaaGreatDoor

namespace Go.Proofs.YtnogbaapcjjngaaGreatDoor
open Go.RowKit

set_option maxHeartbeats 1600000 in
set_option maxRecDepth 100000 in
theorem eqRatS_true (a a' : Option Addr) (lo b off cap lo' b' off' cap' n : Nat) (R : Nat → RatD) (w : World) (hn : n ≤ 16777216) (hs : szR R n ≤ 16777216) (H : Rats w lo a b off n R) (H' : Rats w lo' a' b' off' n R) :
    Calls Tryz.prog 36 #[.slice a n cap, .slice a' n cap'] w fun e w' => e = .returned (.bool true) ∧ w.Since w.heap.size w' := by
  go_enter Tryz.func36, Tryz.ntmps36
  go_wp2
  go_loopw [5] (fun i wr => ∃ k : Nat, k ≤ n ∧ i = .int .i64 k ∧ w.Since w.heap.size wr) (fun i _ => n - (intOf i).toNat)
  case atStart => exact ⟨0, Nat.zero_le _, rfl, World.Since.refl _ _⟩
  case round =>
    obtain ⟨k, hk, rfl, s⟩ := hrel
    by_cases hlt : k < n
    · obtain ⟨rfl, a1, a2, k1, k2, M⟩ := H k hlt
      obtain ⟨rfl, a1', a2', k1', k2', M'⟩ := H' k hlt
      have sd : w.Since w.heap.size wr.drew := ⟨s.os, s.tape, s.output, s.size, s.block⟩
      have N := M.keep s
      have N' := M'.keep s
      have g0 := N.c0
      have g1 := N.c1
      have g2 := N.c2
      have g0' := N'.c0
      have g1' := N'.c1
      have g2' := N'.c2
      have hsz := szR_at (R := R) hlt
      have hz : (k : Int) < (n : Int) := by omega
      obtain ⟨ba, oa, -, LX⟩ := (M.L.keep sd).LX
      obtain ⟨bb, ob, -, LY⟩ := (M.L.keep sd).LY
      obtain ⟨ba', oa', -, LX'⟩ := (M'.L.keep sd).LX
      obtain ⟨bb', ob', -, LY'⟩ := (M'.L.keep sd).LY
      have J1 := eqRat_true (R k).neg a1 a1' a2 a2' ba oa ba' oa' (R k).n k1 k1' bb ob bb' ob' (R k).m k2 k2' (R k).X (R k).Y wr.drew (by omega) (by omega) LX LX' LY LY'
      clear LX LY LX' LY' N N'
      go_wp2_with fail
      go_region_held3 (fun w' => w'.cell? ⟨b, off + k * 3, none⟩ = some (.bool (R k).neg) ∧ w'.cell? ⟨b, off + k * 3 + 1, none⟩ = some (.slice a1 (R k).n k1) ∧ w'.cell? ⟨b, off + k * 3 + 2, none⟩ = some (.slice a2 (R k).m k2) ∧ w'.cell? ⟨b', off' + k * 3, none⟩ = some (.bool (R k).neg) ∧ w'.cell? ⟨b', off' + k * 3 + 1, none⟩ = some (.slice a1' (R k).n k1') ∧ w'.cell? ⟨b', off' + k * 3 + 2, none⟩ = some (.slice a2' (R k).m k2')) (go_keep)
        (first
          | (go_at_call 74
             with_reducible refine J1.mono ?_
             rintro e w1 ⟨rfl, s1⟩
             have S1 : w.Since w.heap.size w1 := sd.trans (sinceMono s1 sd.size)
             have i0 := (M.keep S1).c0
             have i1 := (M.keep S1).c1
             have i2 := (M.keep S1).c2
             have i0' := (M'.keep S1).c0
             have i1' := (M'.keep S1).c1
             have i2' := (M'.keep S1).c2))
      all_goals go_wp2
      all_goals go_roundw
      case rel => exact ⟨k + 1, by omega, by go_num, S1⟩
      case measure => simp [intOf]; omega
    · go_wp2
      go_ret
      exact ⟨rfl, s⟩

set_option maxHeartbeats 1600000 in
set_option maxRecDepth 100000 in
theorem eqAffine_true (d : AffD) (a1 a2 a1' a2' : Option Addr) (lo k1 k2 lo' k1' k2' : Nat) (w : World) (hd : d.size ≤ 16777216) (H : AffL w lo d a1 a2 k1 k2) (H' : AffL w lo' d a1' a2' k1' k2') :
    Calls Tryz.prog 67 #[.agg #[.int .i64 d.rows, .int .i64 d.cols, .slice a1 d.nw k1, .slice a2 d.nb k2], .agg #[.int .i64 d.rows, .int .i64 d.cols, .slice a1' d.nw k1', .slice a2' d.nb k2']] w fun e w' => e = .returned (.bool true) ∧ w.Since w.heap.size w' := by
  have ts := hd
  unfold AffD.size at ts
  obtain ⟨wA, eA⟩ : ∃ wA : World, wA = (w.alloc (.cells #[.int .i64 d.rows, .int .i64 d.cols, .slice a1 d.nw k1, .slice a2 d.nb k2] 74)).alloc (.cells #[.int .i64 d.rows, .int .i64 d.cols, .slice a1' d.nw k1', .slice a2' d.nb k2'] 74) := ⟨_, rfl⟩
  have sA : w.Since w.heap.size wA := by rw [eA]; exact ((World.Since.refl _ _).alloc (Nat.le_refl _) _).alloc (by simp) _
  have bA : Box4 wA w.heap.size (.int .i64 d.rows) (.int .i64 d.cols) (.slice a1 d.nw k1) (.slice a2 d.nb k2) := by rw [eA]; exact (Box4.new w _ _ _ _ _).keep ((World.Since.refl _ _).alloc (Nat.le_refl _) _)
  have cA : Box4 wA (w.heap.size + 1) (.int .i64 d.rows) (.int .i64 d.cols) (.slice a1' d.nw k1') (.slice a2' d.nb k2') := by
    rw [eA]
    have := Box4.new (w.alloc (.cells #[.int .i64 d.rows, .int .i64 d.cols, .slice a1 d.nw k1, .slice a2 d.nb k2] 74)) (.int .i64 d.rows) (.int .i64 d.cols) (.slice a1' d.nw k1') (.slice a2' d.nb k2') 74
    simpa using this
  obtain ⟨b1, o1, -, W1⟩ := (H.keep sA).LW
  obtain ⟨b2, o2, -, W2⟩ := (H'.keep sA).LW
  obtain ⟨b3, o3, -, B1⟩ := (H.keep sA).LB
  obtain ⟨b4, o4, -, B2⟩ := (H'.keep sA).LB
  have J1 := eqRatS_true a1 a1' lo b1 o1 k1 lo' b2 o2 k1' d.nw d.W wA (by omega) (by omega) W1 W2
  have EA := hide eA
  clear eA
  go_enter Tryz.func67, Tryz.ntmps67
  go_wp2_with fail
  rw [← EA.out]
  refine J1.mono ?_
  rintro e w1 ⟨rfl, s1⟩
  have J2 := eqRatS_true a2 a2' lo b3 o3 k2 lo' b4 o4 k2' d.nb d.B w1 (by omega) (by omega) (B1.keep s1) (B2.keep s1)
  have q1 := (bA.keep s1).c3
  have q2 := (cA.keep s1).c3
  clear J1 EA bA cA
  go_wp2_with fail
  refine J2.mono ?_
  rintro e w2 ⟨rfl, s2⟩
  go_wp2
  go_ret
  exact ⟨rfl, sA.trans (sinceMono (s1.trans (sinceMono s2 s1.size)) sA.size)⟩

set_option maxHeartbeats 1600000 in
set_option maxRecDepth 100000 in
theorem eqAffineS_true (a a' : Option Addr) (lo b off cap lo' b' off' cap' n : Nat) (A : Nat → AffD) (w : World) (hn : n ≤ 16777216) (hs : szA A n ≤ 16777216) (H : Affs w lo a b off n A) (H' : Affs w lo' a' b' off' n A) :
    Calls Tryz.prog 28 #[.slice a n cap, .slice a' n cap'] w fun e w' => e = .returned (.bool true) ∧ w.Since w.heap.size w' := by
  go_enter Tryz.func28, Tryz.ntmps28
  go_wp2
  go_loopw [5] (fun i wr => ∃ k : Nat, k ≤ n ∧ i = .int .i64 k ∧ w.Since w.heap.size wr) (fun i _ => n - (intOf i).toNat)
  case atStart => exact ⟨0, Nat.zero_le _, rfl, World.Since.refl _ _⟩
  case round =>
    obtain ⟨k, hk, rfl, s⟩ := hrel
    by_cases hlt : k < n
    · obtain ⟨rfl, a1, a2, k1, k2, M⟩ := H k hlt
      obtain ⟨rfl, a1', a2', k1', k2', M'⟩ := H' k hlt
      have sd : w.Since w.heap.size wr.drew := ⟨s.os, s.tape, s.output, s.size, s.block⟩
      have N := M.keep s
      have N' := M'.keep s
      have g0 := N.c0
      have g1 := N.c1
      have g2 := N.c2
      have g3 := N.c3
      have g0' := N'.c0
      have g1' := N'.c1
      have g2' := N'.c2
      have g3' := N'.c3
      have hsz := szA_at (A := A) hlt
      have hz : (k : Int) < (n : Int) := by omega
      have J1 := eqAffine_true (A k) a1 a2 a1' a2' lo k1 k2 lo' k1' k2' wr.drew (by omega) (M.L.keep sd) (M'.L.keep sd)
      clear N N'
      go_wp2_with fail
      go_region_held3 (fun w' => w'.cell? ⟨b, off + k * 4, none⟩ = some (.int .i64 (A k).rows) ∧ w'.cell? ⟨b, off + k * 4 + 1, none⟩ = some (.int .i64 (A k).cols) ∧ w'.cell? ⟨b, off + k * 4 + 2, none⟩ = some (.slice a1 (A k).nw k1) ∧ w'.cell? ⟨b, off + k * 4 + 3, none⟩ = some (.slice a2 (A k).nb k2) ∧
          w'.cell? ⟨b', off' + k * 4, none⟩ = some (.int .i64 (A k).rows) ∧ w'.cell? ⟨b', off' + k * 4 + 1, none⟩ = some (.int .i64 (A k).cols) ∧ w'.cell? ⟨b', off' + k * 4 + 2, none⟩ = some (.slice a1' (A k).nw k1') ∧ w'.cell? ⟨b', off' + k * 4 + 3, none⟩ = some (.slice a2' (A k).nb k2')) (go_keep)
        (first
          | (go_at_call 67
             with_reducible refine J1.mono ?_
             rintro e w1 ⟨rfl, s1⟩
             have S1 : w.Since w.heap.size w1 := sd.trans (sinceMono s1 sd.size)
             have i0 := (M.keep S1).c0
             have i1 := (M.keep S1).c1
             have i2 := (M.keep S1).c2
             have i3 := (M.keep S1).c3
             have i0' := (M'.keep S1).c0
             have i1' := (M'.keep S1).c1
             have i2' := (M'.keep S1).c2
             have i3' := (M'.keep S1).c3))
      all_goals go_wp2
      all_goals go_roundw
      case rel => exact ⟨k + 1, by omega, by go_num, S1⟩
      case measure => simp [intOf]; omega
    · go_wp2
      go_ret
      exact ⟨rfl, s⟩

set_option maxHeartbeats 1600000 in
set_option maxRecDepth 100000 in
theorem eqNet_true (a a' : Option Addr) (lo b off cap lo' b' off' cap' n : Nat) (A : Nat → AffD) (w : World) (hn : n ≤ 16777216) (hs : szA A n ≤ 16777216) (H : Affs w lo a b off n A) (H' : Affs w lo' a' b' off' n A) :
    Calls Tryz.prog 8 #[.agg #[.slice a n cap], .agg #[.slice a' n cap']] w fun e w' => e = .returned (.bool true) ∧ w.Since w.heap.size w' := by
  have sA : w.Since w.heap.size ((w.alloc (.cells #[.slice a n cap] 24)).alloc (.cells #[.slice a' n cap'] 24)) := ((World.Since.refl _ _).alloc (Nat.le_refl _) _).alloc (by simp) _
  have J1 := eqAffineS_true a a' lo b off cap lo' b' off' cap' n A _ hn hs (H.keep sA) (H'.keep sA)
  go_enter Tryz.func8, Tryz.ntmps8
  go_wp2_with fail
  refine J1.mono ?_
  rintro e w1 ⟨rfl, s1⟩
  go_wp2
  go_ret
  exact ⟨rfl, sA.trans (sinceMono s1 sA.size)⟩

end Go.Proofs.YtnogbaapcjjngaaGreatDoor

namespace Go.Proofs.YtnogbaapcjjngaaGreatDoor
open Go.RowKit

/-- A plain list of limbs of N. -/
def LimbsOf (N : Nat) (p : Nat × (Nat → Nat)) : Prop := (∀ j, j < p.1 → p.2 j < 4294967296) ∧ (0 < p.1 → p.2 (p.1 - 1) ≠ 0) ∧ lv p.2 p.1 = N

def canN : Nat → Nat → Nat
  | 0, _ => 0
  | f + 1, N => if N = 0 then 0 else canN f (N / 4294967296) + 1
/-- The limbs of N. -/
def canR (N : Nat) : Nat × (Nat → Nat) := (canN N N, fun j => N / 2 ^ (32 * j) % 4294967296)
theorem canN_ok : ∀ f N, N ≤ f → N < 2 ^ (32 * canN f N) ∧ (0 < canN f N → 2 ^ (32 * (canN f N - 1)) ≤ N)
  | 0, N, h => by
    obtain rfl : N = 0 := by omega
    exact ⟨by simp [canN], fun h => by simp [canN] at h⟩
  | f + 1, N, h => by
    unfold canN
    split
    · rename_i e; subst e; exact ⟨by simp, fun h => absurd h (by omega)⟩
    · rename_i e
      obtain ⟨h1, h2⟩ := canN_ok f (N / 4294967296) (by omega)
      generalize canN f (N / 4294967296) = c at *
      have p1 : ∀ c, 2 ^ (32 * (c + 1)) = 2 ^ (32 * c) * 4294967296 := fun c => by rw [Nat.mul_add, Nat.pow_add]
      refine ⟨by rw [p1]; exact (Nat.div_lt_iff_lt_mul (by omega)).1 h1, fun _ => ?_⟩
      rw [Nat.add_sub_cancel]
      rcases Nat.eq_zero_or_pos c with rfl | hc
      · simp; omega
      · obtain ⟨b, rfl⟩ : ∃ b, c = b + 1 := ⟨c - 1, by omega⟩
        have := h2 hc
        rw [Nat.add_sub_cancel] at this
        rw [p1]; exact (Nat.le_div_iff_mul_le (by omega)).1 this
theorem lv_can (N : Nat) : ∀ n, lv (fun j => N / 2 ^ (32 * j) % 4294967296) n = N % 2 ^ (32 * n)
  | 0 => by simp [lv, Nat.mod_one]
  | n + 1 => by
    have p1 : 2 ^ (32 * (n + 1)) = 2 ^ (32 * n) * 4294967296 := by rw [Nat.mul_add, Nat.pow_add]
    rw [lv, lv_can N n, p1, Nat.mod_mul, Nat.mul_comm (2 ^ (32 * n))]
theorem canR_ok (N : Nat) : LimbsOf N (canR N) := by
  obtain ⟨h1, h2⟩ := canN_ok N N (Nat.le_refl _)
  refine ⟨fun j _ => Nat.mod_lt _ (by omega), fun h => ?_, (lv_can N _).trans (Nat.mod_eq_of_lt h1)⟩
  have h3 := h2 h
  show N / 2 ^ (32 * (canN N N - 1)) % 4294967296 ≠ 0
  have h : 0 < canN N N := h
  generalize canN N N = c at *
  obtain ⟨b, rfl⟩ : ∃ b, c = b + 1 := ⟨c - 1, by omega⟩
  rw [Nat.add_sub_cancel] at *
  rw [show 2 ^ (32 * (b + 1)) = 2 ^ (32 * b) * 4294967296 by rw [Nat.mul_add, Nat.pow_add]] at h1
  have h4 : N / 2 ^ (32 * b) < 4294967296 := (Nat.div_lt_iff_lt_mul (Nat.pow_pos (by omega))).2 (by rw [Nat.mul_comm]; exact h1)
  have h5 := Nat.div_pos h3 (Nat.pow_pos (by omega))
  rw [Nat.mod_eq_of_lt h4]; omega

theorem canR_of {N : Nat} {p : Nat × (Nat → Nat)} (h : LimbsOf N p) : (canR N).1 = p.1 ∧ (∀ j, j < p.1 → (canR N).2 j = p.2 j) ∧ LimbsOf N (canR N) := by
  have hc := canR_ok N
  obtain ⟨e1, e2⟩ := lv_inj hc.1 h.1 hc.2.1 h.2.1 (hc.2.2.trans h.2.2.symm)
  exact ⟨e1, fun j hj => e2 j (by omega), hc⟩

theorem NatAt.can {w : World} {v : Value} {g N M : Nat} (h : NatAt w v g N M) : ∃ a cap, v = .slice a (canR N).1 cap ∧ (canR N).1 ≤ cap ∧ (canR N).1 ≤ M ∧ (a = none → cap = 0) ∧ Limbs w a g 0 (canR N).1 (canR N).2 ∧ (∀ j, j < (canR N).1 → (canR N).2 j < 4294967296) := by
  obtain ⟨a, m, cap, Y, rfl, h1, h2, h3, h4, h5, h6, h7, h8⟩ := h
  obtain ⟨e1, e2, hc⟩ := canR_of (N := N) (p := (m, Y)) ⟨h6, h7, h8⟩
  have e1 : (canR N).1 = m := e1
  have e2 : ∀ j, j < m → (canR N).2 j = Y j := e2
  refine ⟨a, cap, by rw [e1], by omega, by omega, h3, fun j hj => ?_, hc.1⟩
  rw [e2 j (by omega)]
  exact h4 j (by omega)

/-- A rational of plain limbs. -/
def ratC (neg : Bool) (N D : Nat) : RatD := ⟨neg, (canR N).1, (canR N).2, (canR D).1, (canR D).2⟩

end Go.Proofs.YtnogbaapcjjngaaGreatDoor

namespace Go.Proofs.YtnogbaapcjjngaaGreatDoor
open Go.RowKit

/-- What holds when i limbs have been multiplied. -/
def MulA (X V : Nat → Nat) (F E i c : Nat) : Prop := lv V i + c * 2 ^ (32 * i) = lv X i * F + E ∧ c < 4294967296 ∧ (∀ k, i ≤ k → V k = X k) ∧ ∀ k, k < i → V k < 4294967296

theorem mulA_step {X V : Nat → Nat} {F E i c s c' x : Nat} (h : MulA X V F E i c) (hx : V i = x) (hs : s < 4294967296) (hc : c' < 4294967296) (e : s + c' * 4294967296 = x * F + c) : MulA X (upd V i s) F E (i + 1) c' := by
  obtain ⟨h1, h2, h3, h4⟩ := h
  have hx0 : X i = x := by rw [← hx]; exact (h3 i (Nat.le_refl _)).symm
  refine ⟨?_, hc, fun k hk => by rw [upd_other _ _ _ _ (by omega)]; exact h3 k (by omega), fun k hk => ?_⟩
  · simp only [lv, upd_same, lv_upd V i s i (Nat.le_refl _), hx0]
    rw [pow32]
    generalize 2 ^ (32 * i) = P at *
    have e2 : s * P + c' * (4294967296 * P) = x * P * F + c * P := by
      rw [← Nat.mul_assoc, ← Nat.add_mul, e, Nat.add_mul, Nat.mul_assoc x F P, Nat.mul_comm F P, ← Nat.mul_assoc]
    rw [Nat.add_mul (lv X i)]
    omega
  · by_cases e2 : k = i
    · subst e2; rw [upd_same]; exact hs
    · rw [upd_other _ _ _ _ e2]; exact h4 k (by omega)

set_option maxHeartbeats 3200000 in
set_option maxRecDepth 100000 in
/-- (*nat).multiplyAdd in a row of its own. -/
theorem multiplyAdd_any (c o base n : Nat) (v0 : Value) (E : Nat) (X : Nat → Nat) (w : World) (hn : n ≤ 67108864) (hE : E < 4294967296) (hc0 : w.cell? ⟨c, o, none⟩ = some v0) (hf0 : w.frozen? ⟨c, o, none⟩ = false)
    (hown : w.ownsRow base 159 1 v0 n (ll X n)) (hne : v0.ownBlock ≠ some c) (hcl : c < w.heap.size) (hbase : base ≤ w.heap.size) (hXl : ∀ j, j < n → X j < 4294967296) :
    Calls Tryz.prog 161 #[.pointer (some ⟨c, o, none⟩), .int .u32 1000000000, .int .u32 E] w fun e w' => e = .returned (.tuple #[]) ∧ ∃ v k V, w'.cell? ⟨c, o, none⟩ = some v ∧ w'.ownsRow base 159 1 v k (ll V k) ∧ (v = .slice none 0 0 → v0 = .slice none 0 0) ∧ v.ownBlock ≠ some c ∧
      At1 c o v0.ownBlock w w' ∧ (∀ j, j < k → V j < 4294967296) ∧ lv V k = lv X n * 1000000000 + E ∧ k ≤ n + 1 ∧ (k = n ∨ V (k - 1) ≠ 0) := by
  obtain ⟨i0, hi, hz0, hz1, hz2⟩ := info_parts Tryz.info159
  have HXl := hide hXl
  clear hXl
  obtain ⟨a, cap, rfl, hkc, hac, hag⟩ := own_slice hown
  go_enter Tryz.func161, Tryz.ntmps161
  have HV0 : Hid (MulA X X 1000000000 E 0 E) := hide ⟨by simp [lv], hE, fun _ _ => rfl, fun j hj => absurd hj (by omega)⟩
  go_wp2
  go_loopw [6, 16] (fun q t wr => ∃ (i cb : Nat) (V : Nat → Nat), i ≤ n ∧ t = .int .i64 i ∧ q = .int .u64 cb ∧ cb < 4294967296 ∧ wr.cell? ⟨c, o, none⟩ = some (.slice a n cap) ∧ wr.ownsRow base 159 1 (.slice a n cap) n (ll V n) ∧ At1 c o (Value.slice a n cap).ownBlock w wr ∧ Hid (MulA X V 1000000000 E i cb)) (fun _ t _ => n - (intOf t).toNat)
  case atStart => exact ⟨0, E, X, Nat.zero_le _, rfl, rfl, hE, hc0, hown, At1.refl _ _ _ _, HV0⟩
  case round =>
    obtain ⟨i, cb, V, hik, rfl, rfl, hcb1, q2, ho2, hs2, HR⟩ := hrel
    clear hown hc0 HV0
    by_cases hlt : i < n
    · obtain ⟨g, rfl⟩ := hag i hlt
      obtain ⟨g', cap', e, -, hbg, hgl, LV, FV⟩ := own_limbs_some ho2 (by simp)
      cases e
      have g1 : wr.cell? ⟨g, i, none⟩ = some (.int .u32 (V i)) := by simpa using (LV i hlt).2
      have g2 : wr.frozen? ⟨g, i, none⟩ = false := FV i
      have hxl : V i < 4294967296 := by
        rw [HR.out.2.2.1 i (Nat.le_refl _)]
        exact HXl.out i hlt
      have STEP := hide (fun (s c' : Nat) => mulA_step (s := s) (c' := c') HR.out rfl)
      obtain ⟨x, ex⟩ : ∃ y, y = V i := ⟨_, rfl⟩
      rw [← ex] at g1 hxl STEP
      clear ex LV FV
      have hin : (i : Int) < (n : Int) := by omega
      have hcg : g ≠ c := fun e => hne (by rw [e]; rfl)
      have q3 : ∀ u, (wr.setCell ⟨g, i, none⟩ u).cell? ⟨c, o, none⟩ = some (.slice (some ⟨g, 0, none⟩) n cap) := fun u => by rw [((Marked.refl wr g).setCell i u).cell (a := ⟨c, o, none⟩) (Ne.symm hcg)]; exact q2
      go_wp2
      go_roundw
      case rel => go_light; exact ⟨i + 1, (x * 1000000000 + cb) / 4294967296, _, by omega, by go_num, congrArg (Value.int .u64) (by omega), by omega, q3 _, own_setI ho2 i ((x * 1000000000 + cb) % 4294967296) hlt _ (by omega), hs2.setRow g i _ (Or.inl rfl) hcg, STEP.out _ _ (by omega) (by omega) (by omega)⟩
      case measure => simp [intOf]; omega
    · have e : i = n := by omega
      subst e
      have HE := hide HR.out.1
      have HV1 := hide HR.out.2.2.2
      rcases Nat.eq_zero_or_pos cb with hc2 | hc2
      · subst hc2
        go_wp2
        go_end0
        exact ⟨rfl, _, i, V, q2, ho2, fun h => h, hne, hs2, HV1.out, by have := HE.out; omega, by omega, Or.inl rfl⟩
      · have hC : some c ≠ (Value.slice a i cap).ownBlock := fun e => hne e.symm
        have hsz2 := hs2.size
        have hcf : ((cb : Int) == 0) = false := by simp; omega
        go_wp2_with (at_builtin; refine wpList_append_own_at _ rfl _ _ 165 rfl base 159 i0 (.int .u32 0) 1 4 Tryz.underlying165 hi hz0 hz1 hz2 rfl (by decide) _ _ _ rfl (ho2.alloc _) ⟨wr.heap.size, 0, none⟩ 1 1 [.int .u32 cb] rfl rfl (new_cell _ _ _) (one_one _ rfl) (by unfold maxLen; omega) (by omega) (by simp; omega) ?_)
        intro v' w1 hown' hgrow hnn hat
        rw [show ll V i ++ [.int .u32 (cb : Int)] = ll (upd V i cb) (i + 1) from by rw [ll_succ, upd_same, ll_congr (fun j hj => upd_other _ _ _ _ (show j ≠ i by omega))]] at hown'
        have sW := (World.Since.refl wr.heap.size wr).alloc (Nat.le_refl _) (.cells #[.int .u32 (cb : Int)] 159)
        have hs1 : At1 c o (Value.slice a i cap).ownBlock w w1 := (hs2.alloc hcl _).grown hgrow hcl (Or.inl rfl) hC
        have q1 : w1.cell? ⟨c, o, none⟩ = some (.slice a i cap) := hgrow.cell ((sW.cell (a := ⟨c, o, none⟩) (show c < wr.heap.size by omega)).trans q2) hC
        have f1 : w1.frozen? ⟨c, o, none⟩ = false := by rw [hs1.frozen]; exact hf0
        have hCv : v'.ownBlock ≠ some c := fun e => by
          rcases hat with h | h
          · exact hne (h.symm.trans e)
          · rw [e] at h; simp at h; omega
        obtain ⟨a1, cap1, rfl, hkc1, hac1, hag1⟩ := own_slice hown'
        clear hgrow hnn hat sW ho2 hs2 q2 hC HR
        go_wp2
        go_end0
        refine ⟨rfl, _, i + 1, upd V i cb, World.cell?_setCell_same _ _ _ q1, ownsRow_setCell_other hown' hCv _, fun h => by simp at h, hCv, hs1.setC _, fun j hj => ?_, ?_, by omega, Or.inr (by rw [show i + 1 - 1 = i by omega, upd_same]; omega)⟩
        · by_cases e2 : j = i
          · subst e2; rw [upd_same]; omega
          · rw [upd_other _ _ _ _ e2]; exact HV1.out j (by omega)
        · have := HE.out
          simp only [lv, upd_same, lv_upd V i cb i (Nat.le_refl _)]
          exact this

end Go.Proofs.YtnogbaapcjjngaaGreatDoor

namespace Go.Proofs.YtnogbaapcjjngaaGreatDoor
open Go.RowKit

theorem Tab.keepN {w w' : World} (_h : Tab w) (_hw : 0 ≤ w.heap.size) (_s : w.Since w.heap.size w') : Tab w' := trivial

set_option maxHeartbeats 1600000 in
set_option maxRecDepth 100000 in
theorem allValid_any (a : Option Addr) (lo b off n cap : Nat) (R : Nat → RatD) (w : World) (hw : 0 ≤ w.heap.size) (hT : Tab w) (hn : n ≤ 16777216) (hs : szR R n ≤ 16777216) (H : Rats w lo a b off n R) :
    Calls Tryz.prog 66 #[.slice a n cap] w fun e w' => ∃ r : Bool, e = .returned (.bool r) ∧ (r = true ↔ RatsOk R n) ∧ w.Since w.heap.size w' := by
  go_enter Tryz.func66, Tryz.ntmps66
  go_wp2
  go_loopw [7] (fun i wr => ∃ k : Nat, k ≤ n ∧ i = .int .i64 k ∧ w.Since w.heap.size wr ∧ RatsOk R k) (fun i _ => n - (intOf i).toNat)
  case atStart => exact ⟨0, Nat.zero_le _, rfl, World.Since.refl _ _, fun i hi => absurd hi (by omega)⟩
  case round =>
    obtain ⟨k, hk, rfl, s, O⟩ := hrel
    by_cases hlt : k < n
    · obtain ⟨rfl, a1, a2, k1, k2, M⟩ := H k hlt
      have M' := M.keep s
      have g0 := M'.c0
      have g1 := M'.c1
      have g2 := M'.c2
      have hz : (k : Int) < (n : Int) := by omega
      have hsz := szR_at (R := R) hlt
      have sA : w.Since w.heap.size (wr.alloc (.cells #[.bool (R k).neg, .slice a1 (R k).n k1, .slice a2 (R k).m k2] 61)) := s.alloc s.size _
      obtain ⟨ba, oa, -, LX⟩ := (M.L.keep sA).LX
      obtain ⟨bb, ob, -, LY⟩ := (M.L.keep sA).LY
      have J1 := implRatOk_any (R k).neg a1 a2 ba oa (R k).n k1 bb ob (R k).m k2 (R k).X (R k).Y _ (Nat.zero_le _) (by omega) (by omega) M.L.nc M.L.mc M.L.ac M.L.bc LX LY M.L.lX M.L.lY (hT.keepN hw sA)
      rw [show ratOkB (R k).neg (R k).X (R k).n (R k).Y (R k).m = (R k).ok from rfl] at J1
      cases hok : (R k).ok
      · have HK := hide hok
        rw [hok] at J1
        clear hok
        go_wp2_with fail
        refine J1.mono ?_
        rintro e w2 ⟨rfl, s2⟩
        go_wp2
        go_ret
        refine ⟨false, rfl, ⟨(fun h => by cases h), fun h => ?_⟩, sA.trans (sinceMono s2 sA.size)⟩
        have := h k hlt
        rw [HK.out] at this
        cases this
      · have HK := hide hok
        rw [hok] at J1
        clear hok
        go_wp2_with fail
        refine J1.mono ?_
        rintro e w2 ⟨rfl, s2⟩
        go_wp2
        go_roundw
        case rel =>
          refine ⟨k + 1, by omega, by go_num, sA.trans (sinceMono s2 sA.size), fun i hi => ?_⟩
          by_cases e : i = k
          · subst e; exact HK.out
          · exact O i (by omega)
        case measure => simp [intOf]; omega
    · have e : k = n := by omega
      subst e
      go_wp2
      go_ret
      exact ⟨true, rfl, ⟨fun _ => O, fun _ => rfl⟩, s⟩

set_option maxHeartbeats 800000 in
set_option maxRecDepth 100000 in
theorem sideFits_yes (x : Int) (w : World) (h1 : 0 ≤ x) (h2 : x ≤ 20000) :
    Calls Tryz.prog 139 #[.int .i64 x] w fun e w' => e = .returned (.bool true) ∧ w' = w := by
  go_enter Tryz.func139, Tryz.ntmps139
  go_wp2
  go_ret
  exact ⟨rfl, rfl⟩

set_option maxHeartbeats 800000 in
set_option maxRecDepth 100000 in
theorem sideFits_no (x : Int) (w : World) (h : ¬ (0 ≤ x ∧ x ≤ 20000)) :
    Calls Tryz.prog 139 #[.int .i64 x] w fun e w' => e = .returned (.bool false) ∧ w' = w := by
  by_cases h1 : 0 ≤ x
  · have h2 : ¬ x ≤ 20000 := fun h2 => h ⟨h1, h2⟩
    clear h
    go_enter Tryz.func139, Tryz.ntmps139
    go_wp2
    go_ret
    exact ⟨rfl, rfl⟩
  · clear h
    go_enter Tryz.func139, Tryz.ntmps139
    go_wp2
    go_ret
    exact ⟨rfl, rfl⟩

set_option maxHeartbeats 800000 in
set_option maxRecDepth 100000 in
theorem cellsOf_any (d : AffD) (w : World) (h : d.sides) :
    Calls Tryz.prog 102 #[.int .i64 d.rows, .int .i64 d.cols] w fun e w' => e = .returned (.int .i64 d.cells) ∧ w' = w := by
  have hb := h.bounds
  unfold AffD.cells at hb ⊢
  obtain ⟨h0, h1, h2, h3⟩ := h
  go_enter Tryz.func102, Tryz.ntmps102
  go_wp2
  go_ret
  exact ⟨rfl, rfl⟩

set_option maxHeartbeats 3200000 in
set_option maxRecDepth 100000 in
theorem shapeFits_any (d : AffD) (a1 a2 : Option Addr) (k1 k2 : Nat) (w : World) :
    Calls Tryz.prog 101 #[.agg #[.int .i64 d.rows, .int .i64 d.cols, .slice a1 d.nw k1, .slice a2 d.nb k2]] w fun e w' => ∃ r : Bool, e = .returned (.bool r) ∧ (r = true ↔ d.shape) ∧ w.Since w.heap.size w' := by
  have sA : w.Since w.heap.size (w.alloc (.cells #[.int .i64 d.rows, .int .i64 d.cols, .slice a1 d.nw k1, .slice a2 d.nb k2] 74)) := (World.Since.refl _ _).alloc (Nat.le_refl _) _
  by_cases hr : 0 ≤ d.rows ∧ d.rows ≤ 20000
  rotate_left
  · have HN := hide (show ¬ d.shape from fun h => hr ⟨h.1.1, h.1.2.1⟩)
    go_enter Tryz.func101, Tryz.ntmps101
    go_wp2_with fail
    refine (sideFits_no d.rows _ hr).mono ?_
    rintro e w1 ⟨rfl, rfl⟩
    clear hr
    go_wp2
    go_ret
    exact ⟨false, rfl, ⟨(fun h => by cases h), fun h => absurd h HN.out⟩, sA⟩
  by_cases hc : 0 ≤ d.cols ∧ d.cols ≤ 20000
  rotate_left
  · have HN := hide (show ¬ d.shape from fun h => hc ⟨h.1.2.2.1, h.1.2.2.2⟩)
    go_enter Tryz.func101, Tryz.ntmps101
    go_wp2_with fail
    refine (sideFits_yes d.rows _ hr.1 hr.2).mono ?_
    rintro e w1 ⟨rfl, rfl⟩
    go_wp2_with fail
    refine (sideFits_no d.cols _ hc).mono ?_
    rintro e w1 ⟨rfl, rfl⟩
    clear hr hc
    go_wp2
    go_ret
    exact ⟨false, rfl, ⟨(fun h => by cases h), fun h => absurd h HN.out⟩, sA⟩
  have hS : d.sides := ⟨hr.1, hr.2, hc.1, hc.2⟩
  have hb := hS.bounds
  obtain ⟨hr0, hr1⟩ := hr
  obtain ⟨hc0, hc1⟩ := hc
  obtain ⟨hb0, hb1, hb2, hb3⟩ := hb
  by_cases hw : (d.nw : Int) = d.rows * d.cols
  rotate_left
  · have HN := hide (show ¬ d.shape from fun h => hw h.2.1)
    have q : ((d.nw : Int) == d.rows * d.cols) = false := by simpa using hw
    clear hw
    go_enter Tryz.func101, Tryz.ntmps101
    go_wp2_with fail
    refine (sideFits_yes d.rows _ hr0 hr1).mono ?_
    rintro e w1 ⟨rfl, rfl⟩
    go_wp2_with fail
    refine (sideFits_yes d.cols _ hc0 hc1).mono ?_
    rintro e w1 ⟨rfl, rfl⟩
    go_wp2
    go_ret
    exact ⟨false, rfl, ⟨(fun h => by cases h), fun h => absurd h HN.out⟩, sA⟩
  have q : ((d.nw : Int) == d.rows * d.cols) = true := by simpa using hw
  by_cases hv : (d.nb : Int) = d.rows
  rotate_left
  · have HN := hide (show ¬ d.shape from fun h => hv h.2.2)
    have q2 : ((d.nb : Int) == d.rows) = false := by simpa using hv
    clear hv hw
    go_enter Tryz.func101, Tryz.ntmps101
    go_wp2_with fail
    refine (sideFits_yes d.rows _ hr0 hr1).mono ?_
    rintro e w1 ⟨rfl, rfl⟩
    go_wp2_with fail
    refine (sideFits_yes d.cols _ hc0 hc1).mono ?_
    rintro e w1 ⟨rfl, rfl⟩
    go_wp2
    go_ret
    exact ⟨false, rfl, ⟨(fun h => by cases h), fun h => absurd h HN.out⟩, sA⟩
  have HS := hide (show d.shape from ⟨hS, hw, hv⟩)
  have q2 : ((d.nb : Int) == d.rows) = true := by simpa using hv
  clear hw hv
  go_enter Tryz.func101, Tryz.ntmps101
  go_wp2_with fail
  refine (sideFits_yes d.rows _ hr0 hr1).mono ?_
  rintro e w1 ⟨rfl, rfl⟩
  go_wp2_with fail
  refine (sideFits_yes d.cols _ hc0 hc1).mono ?_
  rintro e w1 ⟨rfl, rfl⟩
  go_wp2
  go_ret
  exact ⟨true, rfl, ⟨fun _ => HS.out, fun _ => rfl⟩, sA⟩

end Go.Proofs.YtnogbaapcjjngaaGreatDoor

namespace Go.Proofs.YtnogbaapcjjngaaGreatDoor
open Go.RowKit

theorem shapeFits_yes (d : AffD) (a1 a2 : Option Addr) (k1 k2 : Nat) (w : World) (h : d.shape) :
    Calls Tryz.prog 101 #[.agg #[.int .i64 d.rows, .int .i64 d.cols, .slice a1 d.nw k1, .slice a2 d.nb k2]] w fun e w' => e = .returned (.bool true) ∧ w.Since w.heap.size w' :=
  (shapeFits_any d a1 a2 k1 k2 w).mono fun e w' ⟨r, he, hi, hs⟩ => ⟨by rw [he, hi.2 h], hs⟩

theorem shapeFits_no (d : AffD) (a1 a2 : Option Addr) (k1 k2 : Nat) (w : World) (h : ¬ d.shape) :
    Calls Tryz.prog 101 #[.agg #[.int .i64 d.rows, .int .i64 d.cols, .slice a1 d.nw k1, .slice a2 d.nb k2]] w fun e w' => e = .returned (.bool false) ∧ w.Since w.heap.size w' :=
  (shapeFits_any d a1 a2 k1 k2 w).mono fun e w' ⟨r, he, hi, hs⟩ => ⟨by rw [he]; cases r; rfl; exact absurd (hi.1 rfl) h, hs⟩

/-- What chainFits asks. -/
structure ChainP (n : Nat) (A : Nat → AffD) : Prop where
  n0 : 1 ≤ n
  n1 : n ≤ 10000
  shape : ∀ k, k < n → (A k).shape
  chain : ∀ k, k < n → 0 < k → (A k).cols = (A (k - 1)).rows
  sum : sumC A n ≤ 20000

set_option maxHeartbeats 3200000 in
set_option maxRecDepth 100000 in
theorem chainFits_any (a : Option Addr) (lo b off n cap : Nat) (A : Nat → AffD) (w : World) (hn : n ≤ 16777216) (H : Affs w lo a b off n A) :
    Calls Tryz.prog 65 #[.agg #[.slice a n cap]] w fun e w' => ∃ r : Bool, e = .returned (.bool r) ∧ (r = true ↔ ChainP n A) ∧ w.Since w.heap.size w' := by
  have sA : w.Since w.heap.size (w.alloc (.cells #[.slice a n cap] 24)) := (World.Since.refl _ _).alloc (Nat.le_refl _) _
  have bA := Box1.new w (.slice a n cap) 24
  by_cases h0 : (n : Int) < 1
  · have HN := hide (show ¬ ChainP n A from fun p => by have := p.n0; omega)
    go_enter Tryz.func65, Tryz.ntmps65
    go_wp2
    go_ret
    exact ⟨false, rfl, ⟨(fun h => by cases h), fun h => absurd h HN.out⟩, sA⟩
  by_cases h1 : (10000 : Int) < n
  · have HN := hide (show ¬ ChainP n A from fun p => by have := p.n1; omega)
    go_enter Tryz.func65, Tryz.ntmps65
    go_wp2
    go_ret
    exact Or.inl ⟨rfl, HN.out, sA⟩
  go_enter Tryz.func65, Tryz.ntmps65
  go_wp2_with fail
  generalize w.alloc (.cells #[.slice a n cap] 24) = wA at *
  go_loopw [3, 19] (fun q i wr => ∃ k : Nat, k ≤ n ∧ i = .int .i64 k ∧ q = .int .i64 (sumC A k) ∧ wA.Since wA.heap.size wr ∧ (∀ j, j < k → (A j).shape) ∧ (∀ j, j < k → 0 < j → (A j).cols = (A (j - 1)).rows)) (fun _ i _ => n - (intOf i).toNat)
  case atStart => exact ⟨0, Nat.zero_le _, rfl, rfl, World.Since.refl _ _, fun i hi => absurd hi (by omega), fun i hi => absurd hi (by omega)⟩
  case round =>
    obtain ⟨k, hk, rfl, rfl, s, O, C⟩ := hrel
    by_cases hlt : k < n
    · have B1 := bA.keep s
      have b0 := B1.c0
      have S1 : w.Since w.heap.size wr := sA.trans (sinceMono s sA.size)
      obtain ⟨rfl, a1, a2, k1, k2, M⟩ := H k hlt
      have M' := M.keep S1
      have g0 := M'.c0
      have g1 := M'.c1
      have g2 := M'.c2
      have g3 := M'.c3
      have hz : (k : Int) < (n : Int) := by omega
      have t1 : wr.Since wr.heap.size (wr.alloc (.cells #[.int .i64 (A k).rows, .int .i64 (A k).cols, .slice a1 (A k).nw k1, .slice a2 (A k).nb k2] 74)) := (World.Since.refl _ _).alloc (Nat.le_refl _) _
      have cB := Box4.new wr (.int .i64 (A k).rows) (.int .i64 (A k).cols) (.slice a1 (A k).nw k1) (.slice a2 (A k).nb k2) 74
      go_wp2_with fail
      generalize wr.alloc (.cells #[.int .i64 (A k).rows, .int .i64 (A k).cols, .slice a1 (A k).nw k1, .slice a2 (A k).nb k2] 74) = w1 at *
      have S2 : w.Since w.heap.size w1.drew := ⟨(S1.trans (sinceMono t1 S1.size)).os, (S1.trans (sinceMono t1 S1.size)).tape, (S1.trans (sinceMono t1 S1.size)).output, (S1.trans (sinceMono t1 S1.size)).size, (S1.trans (sinceMono t1 S1.size)).block⟩
      have B2 : Box1 w1.drew w.heap.size (.slice (some ⟨b, off, none⟩) n cap) := ⟨(B1.keep t1).c0, (B1.keep t1).f⟩
      have D2 : Box4 w1.drew wr.heap.size (.int .i64 (A k).rows) (.int .i64 (A k).cols) (.slice a1 (A k).nw k1) (.slice a2 (A k).nb k2) := ⟨cB.c0, cB.c1, cB.c2, cB.c3, cB.f⟩
      have p0 := B2.c0
      have d0 := cB.c0
      have d1 := cB.c1
      have d2 := cB.c2
      have d3 := cB.c3
      have d0' := D2.c0
      have d1' := D2.c1
      have d2' := D2.c2
      have d3' := D2.c3
      have sd1 : wA.Since wA.heap.size w1.drew := ⟨(s.trans (sinceMono t1 s.size)).os, (s.trans (sinceMono t1 s.size)).tape, (s.trans (sinceMono t1 s.size)).output, (s.trans (sinceMono t1 s.size)).size, (s.trans (sinceMono t1 s.size)).block⟩
      clear g0 g1 g2 g3 b0
      by_cases hsh : (A k).shape
      rotate_left
      · have HN := hide hsh
        have J1 := shapeFits_no (A k) a1 a2 k1 k2 w1.drew hsh
        clear hsh
        -- REGION A
        refine wp_region_held_drew (S := (fun w' => w'.cell? ⟨wr.heap.size, 0, none⟩ = some (.int .i64 (A k).rows) ∧ w'.cell? ⟨wr.heap.size, 1, none⟩ = some (.int .i64 (A k).cols) ∧ w'.cell? ⟨wr.heap.size, 2, none⟩ = some (.slice a1 (A k).nw k1) ∧ w'.cell? ⟨wr.heap.size, 3, none⟩ = some (.slice a2 (A k).nb k2))) (by kernel_rfl) ?_ (fun hHeld => ?_)
        · go_keep
        refine take_at 0 (some 24) (.agg #[.int .i64 (A k).rows, .int .i64 (A k).cols, .slice a1 (A k).nw k1, .slice a2 (A k).nb k2]) rfl (by kernel_rfl) (by kernel_rfl) (by kernel_rfl) (by kernel_rfl) (fun _ _ _ h => h) (by kernel_rfl) (by assumption) ?_ ?_
        · intro w' hSw
          try dsimp only at hSw
          go_simp
        simp only [Act.put, List.setIfInBounds_toArray, List.set_cons_zero, List.set_cons_succ]
        refine wpAnyH_ready (rs := [1]) (by kernel_rfl) (by simp) ?_
        refine AllReadyH.cons rfl (fun K hK => ?_) AllReadyH.nil
        go_simp
        go_wp2_with (go_at_call 101; with_reducible refine J1.mono ?_; rintro e w3 ⟨rfl, s3⟩)
        have S3 : w.Since w.heap.size w3 := S2.trans (sinceMono s3 S2.size)
        have D3 := D2.keep s3
        have i0 := D3.c0
        have i1 := D3.c1
        have i2 := D3.c2
        have i3 := D3.c3
        refine hK.out _ _ ?_ (fun hHeld2 => ?_)
        · exact ⟨i0, i1, i2, i3⟩
        clear hK K hHeld
        refine take_at 2 (some 26) (.bool true) rfl (by kernel_rfl) (by kernel_rfl) (by kernel_rfl) (by kernel_rfl) (fun _ _ _ h => h) (by kernel_rfl) (by assumption) ?_ ?_
        · intro w' hSw
          clear hSw
          kernel_rfl
        simp only [Act.put, List.setIfInBounds_toArray, List.set_cons_zero, List.set_cons_succ]
        refine take_at 3 (some 27) (.bool true) rfl (by kernel_rfl) (by kernel_rfl) (by kernel_rfl) (by kernel_rfl) (fun _ _ _ h => h) (by kernel_rfl) (by assumption) ?_ ?_
        · intro w' hSw
          clear hSw
          kernel_rfl
        simp only [Act.put, List.setIfInBounds_toArray, List.set_cons_zero, List.set_cons_succ]
        refine skip_at 4 (some 28) rfl (by kernel_rfl) (by kernel_rfl) (by kernel_rfl) (by kernel_rfl) (fun _ _ _ h => h) (by kernel_rfl) (by assumption) ?_
        simp only [Act.put, List.setIfInBounds_toArray, List.set_cons_zero, List.set_cons_succ]
        refine skip_at 5 (some 29) rfl (by kernel_rfl) (by kernel_rfl) (by kernel_rfl) (by kernel_rfl) (fun _ _ _ h => h) (by kernel_rfl) (by assumption) ?_
        simp only [Act.put, List.setIfInBounds_toArray, List.set_cons_zero, List.set_cons_succ]
        refine skip_at 6 (some 30) rfl (by kernel_rfl) (by kernel_rfl) (by kernel_rfl) (by kernel_rfl) (fun _ _ _ h => h) (by kernel_rfl) (by assumption) ?_
        simp only [Act.put, List.setIfInBounds_toArray, List.set_cons_zero, List.set_cons_succ]
        refine skip_at 7 (some 31) rfl (by kernel_rfl) (by kernel_rfl) (by kernel_rfl) (by kernel_rfl) (fun _ _ _ h => h) (by kernel_rfl) (by assumption) ?_
        simp only [Act.put, List.setIfInBounds_toArray, List.set_cons_zero, List.set_cons_succ]
        refine skip_at 8 (some 32) rfl (by kernel_rfl) (by kernel_rfl) (by kernel_rfl) (by kernel_rfl) (fun _ _ _ h => h) (by kernel_rfl) (by assumption) ?_
        simp only [Act.put, List.setIfInBounds_toArray, List.set_cons_zero, List.set_cons_succ]
        refine skip_at 9 (some 33) rfl (by kernel_rfl) (by kernel_rfl) (by kernel_rfl) (by kernel_rfl) (fun _ _ _ h => h) (by kernel_rfl) (by assumption) ?_
        simp only [Act.put, List.setIfInBounds_toArray, List.set_cons_zero, List.set_cons_succ]
        refine skip_at 10 (some 34) rfl (by kernel_rfl) (by kernel_rfl) (by kernel_rfl) (by kernel_rfl) (fun _ _ _ h => h) (by kernel_rfl) (by assumption) ?_
        simp only [Act.put, List.setIfInBounds_toArray, List.set_cons_zero, List.set_cons_succ]
        refine skip_at 11 (some 35) rfl (by kernel_rfl) (by kernel_rfl) (by kernel_rfl) (by kernel_rfl) (fun _ _ _ h => h) (by kernel_rfl) (by assumption) ?_
        simp only [Act.put, List.setIfInBounds_toArray, List.set_cons_zero, List.set_cons_succ]
        refine skip_at 12 (some 36) rfl (by kernel_rfl) (by kernel_rfl) (by kernel_rfl) (by kernel_rfl) (fun _ _ _ h => h) (by kernel_rfl) (by assumption) ?_
        simp only [Act.put, List.setIfInBounds_toArray, List.set_cons_zero, List.set_cons_succ]
        refine skip_at 13 (some 37) rfl (by kernel_rfl) (by kernel_rfl) (by kernel_rfl) (by kernel_rfl) (fun _ _ _ h => h) (by kernel_rfl) (by assumption) ?_
        simp only [Act.put, List.setIfInBounds_toArray, List.set_cons_zero, List.set_cons_succ]
        refine skip_at 14 (some 38) rfl (by kernel_rfl) (by kernel_rfl) (by kernel_rfl) (by kernel_rfl) (fun _ _ _ h => h) (by kernel_rfl) (by assumption) ?_
        simp only [Act.put, List.setIfInBounds_toArray, List.set_cons_zero, List.set_cons_succ]
        refine skip_at 15 (some 39) rfl (by kernel_rfl) (by kernel_rfl) (by kernel_rfl) (by kernel_rfl) (fun _ _ _ h => h) (by kernel_rfl) (by assumption) ?_
        simp only [Act.put, List.setIfInBounds_toArray, List.set_cons_zero, List.set_cons_succ]
        refine skip_at 16 (some 40) rfl (by kernel_rfl) (by kernel_rfl) (by kernel_rfl) (by kernel_rfl) (fun _ _ _ h => h) (by kernel_rfl) (by assumption) ?_
        simp only [Act.put, List.setIfInBounds_toArray, List.set_cons_zero, List.set_cons_succ]
        refine skip_at 17 (some 41) rfl (by kernel_rfl) (by kernel_rfl) (by kernel_rfl) (by kernel_rfl) (fun _ _ _ h => h) (by kernel_rfl) (by assumption) ?_
        simp only [Act.put, List.setIfInBounds_toArray, List.set_cons_zero, List.set_cons_succ]
        refine take_at 18 (some 42) (.bool true) rfl (by kernel_rfl) (by kernel_rfl) (by kernel_rfl) (by kernel_rfl) (fun _ _ _ h => h) (by kernel_rfl) (by assumption) ?_ ?_
        · intro w' hSw
          clear hSw
          kernel_rfl
        simp only [Act.put, List.setIfInBounds_toArray, List.set_cons_zero, List.set_cons_succ]
        refine wpAnyH_done (by kernel_rfl) ?_ _
        all_goals go_wp2
        all_goals go_ret
        all_goals exact ⟨false, rfl, ⟨(fun h => by cases h), fun p => absurd (p.shape k hlt) HN.out⟩, S3⟩
      have HS := hide hsh
      have hb := hsh.1.bounds
      have sb := sumC_bound (A := A) (k := k) O
      have J1 := shapeFits_yes (A k) a1 a2 k1 k2 w1.drew hsh
      clear hsh
      rcases Nat.eq_zero_or_pos k with h00 | hpos
      · have hg : decide ((0 : Int) < k) = false := by simp; omega
        have OO : ∀ j, j < k + 1 → (A j).shape := fun j hj => by
          obtain rfl : j = k := by omega
          exact HS.out
        have CC : ∀ j, j < k + 1 → 0 < j → (A j).cols = (A (j - 1)).rows := fun j hj h => by omega
        have HO := hide (And.intro OO CC)
        have H0 := hide h00
        clear OO CC O C h00
        -- REGION B
        refine wp_region_held_drew (S := (fun w' => w'.cell? ⟨wr.heap.size, 0, none⟩ = some (.int .i64 (A k).rows) ∧ w'.cell? ⟨wr.heap.size, 1, none⟩ = some (.int .i64 (A k).cols) ∧ w'.cell? ⟨wr.heap.size, 2, none⟩ = some (.slice a1 (A k).nw k1) ∧ w'.cell? ⟨wr.heap.size, 3, none⟩ = some (.slice a2 (A k).nb k2))) (by kernel_rfl) ?_ (fun hHeld => ?_)
        · go_keep
        refine take_at 0 (some 24) (.agg #[.int .i64 (A k).rows, .int .i64 (A k).cols, .slice a1 (A k).nw k1, .slice a2 (A k).nb k2]) rfl (by kernel_rfl) (by kernel_rfl) (by kernel_rfl) (by kernel_rfl) (fun _ _ _ h => h) (by kernel_rfl) (by assumption) ?_ ?_
        · intro w' hSw
          try dsimp only at hSw
          go_simp
        simp only [Act.put, List.setIfInBounds_toArray, List.set_cons_zero, List.set_cons_succ]
        refine wpAnyH_ready (rs := [1]) (by kernel_rfl) (by simp) ?_
        refine AllReadyH.cons rfl (fun K hK => ?_) AllReadyH.nil
        go_simp
        go_wp2_with (go_at_call 101; with_reducible refine J1.mono ?_; rintro e w3 ⟨rfl, s3⟩)
        have S3 : w.Since w.heap.size w3 := S2.trans (sinceMono s3 S2.size)
        have D3 := D2.keep s3
        have i0 := D3.c0
        have i1 := D3.c1
        have i2 := D3.c2
        have i3 := D3.c3
        refine hK.out _ _ ?_ (fun hHeld2 => ?_)
        · exact ⟨i0, i1, i2, i3⟩
        clear hK K hHeld
        refine take_at 2 (some 26) (.bool false) rfl (by kernel_rfl) (by kernel_rfl) (by kernel_rfl) (by kernel_rfl) (fun _ _ _ h => h) (by kernel_rfl) (by assumption) ?_ ?_
        · intro w' hSw
          clear hSw
          kernel_rfl
        simp only [Act.put, List.setIfInBounds_toArray, List.set_cons_zero, List.set_cons_succ]
        refine take_at 3 (some 27) (.bool false) rfl (by kernel_rfl) (by kernel_rfl) (by kernel_rfl) (by kernel_rfl) (fun _ _ _ h => h) (by kernel_rfl) (by assumption) ?_ ?_
        · intro w' hSw
          clear hSw
          kernel_rfl
        simp only [Act.put, List.setIfInBounds_toArray, List.set_cons_zero, List.set_cons_succ]
        refine take_at 4 (some 28) (.int .i64 k) rfl (by kernel_rfl) (by kernel_rfl) (by kernel_rfl) (by kernel_rfl) (fun _ _ _ h => h) (by kernel_rfl) (by assumption) ?_ ?_
        · intro w' hSw
          clear hSw
          kernel_rfl
        simp only [Act.put, List.setIfInBounds_toArray, List.set_cons_zero, List.set_cons_succ]
        refine take_at 5 (some 29) (.bool false) rfl (by kernel_rfl) (by kernel_rfl) (by kernel_rfl) (by kernel_rfl) (fun _ _ _ h => h) (by kernel_rfl) (by assumption) ?_ ?_
        · intro w' hSw
          try dsimp only at hSw
          go_simp
          exact H0.out
        simp only [Act.put, List.setIfInBounds_toArray, List.set_cons_zero, List.set_cons_succ]
        refine take_at 6 (some 30) (.bool false) rfl (by kernel_rfl) (by kernel_rfl) (by kernel_rfl) (by kernel_rfl) (fun _ _ _ h => h) (by kernel_rfl) (by assumption) ?_ ?_
        · intro w' hSw
          clear hSw
          kernel_rfl
        simp only [Act.put, List.setIfInBounds_toArray, List.set_cons_zero, List.set_cons_succ]
        refine skip_at 7 (some 31) rfl (by kernel_rfl) (by kernel_rfl) (by kernel_rfl) (by kernel_rfl) (fun _ _ _ h => h) (by kernel_rfl) (by assumption) ?_
        simp only [Act.put, List.setIfInBounds_toArray, List.set_cons_zero, List.set_cons_succ]
        refine skip_at 8 (some 32) rfl (by kernel_rfl) (by kernel_rfl) (by kernel_rfl) (by kernel_rfl) (fun _ _ _ h => h) (by kernel_rfl) (by assumption) ?_
        simp only [Act.put, List.setIfInBounds_toArray, List.set_cons_zero, List.set_cons_succ]
        refine skip_at 9 (some 33) rfl (by kernel_rfl) (by kernel_rfl) (by kernel_rfl) (by kernel_rfl) (fun _ _ _ h => h) (by kernel_rfl) (by assumption) ?_
        simp only [Act.put, List.setIfInBounds_toArray, List.set_cons_zero, List.set_cons_succ]
        refine skip_at 10 (some 34) rfl (by kernel_rfl) (by kernel_rfl) (by kernel_rfl) (by kernel_rfl) (fun _ _ _ h => h) (by kernel_rfl) (by assumption) ?_
        simp only [Act.put, List.setIfInBounds_toArray, List.set_cons_zero, List.set_cons_succ]
        refine skip_at 11 (some 35) rfl (by kernel_rfl) (by kernel_rfl) (by kernel_rfl) (by kernel_rfl) (fun _ _ _ h => h) (by kernel_rfl) (by assumption) ?_
        simp only [Act.put, List.setIfInBounds_toArray, List.set_cons_zero, List.set_cons_succ]
        refine skip_at 12 (some 36) rfl (by kernel_rfl) (by kernel_rfl) (by kernel_rfl) (by kernel_rfl) (fun _ _ _ h => h) (by kernel_rfl) (by assumption) ?_
        simp only [Act.put, List.setIfInBounds_toArray, List.set_cons_zero, List.set_cons_succ]
        refine skip_at 13 (some 37) rfl (by kernel_rfl) (by kernel_rfl) (by kernel_rfl) (by kernel_rfl) (fun _ _ _ h => h) (by kernel_rfl) (by assumption) ?_
        simp only [Act.put, List.setIfInBounds_toArray, List.set_cons_zero, List.set_cons_succ]
        refine skip_at 14 (some 38) rfl (by kernel_rfl) (by kernel_rfl) (by kernel_rfl) (by kernel_rfl) (fun _ _ _ h => h) (by kernel_rfl) (by assumption) ?_
        simp only [Act.put, List.setIfInBounds_toArray, List.set_cons_zero, List.set_cons_succ]
        refine skip_at 15 (some 39) rfl (by kernel_rfl) (by kernel_rfl) (by kernel_rfl) (by kernel_rfl) (fun _ _ _ h => h) (by kernel_rfl) (by assumption) ?_
        simp only [Act.put, List.setIfInBounds_toArray, List.set_cons_zero, List.set_cons_succ]
        refine skip_at 16 (some 40) rfl (by kernel_rfl) (by kernel_rfl) (by kernel_rfl) (by kernel_rfl) (fun _ _ _ h => h) (by kernel_rfl) (by assumption) ?_
        simp only [Act.put, List.setIfInBounds_toArray, List.set_cons_zero, List.set_cons_succ]
        refine take_at 17 (some 41) (.bool false) rfl (by kernel_rfl) (by kernel_rfl) (by kernel_rfl) (by kernel_rfl) (fun _ _ _ h => h) (by kernel_rfl) (by assumption) ?_ ?_
        · intro w' hSw
          clear hSw
          kernel_rfl
        simp only [Act.put, List.setIfInBounds_toArray, List.set_cons_zero, List.set_cons_succ]
        refine take_at 18 (some 42) (.bool false) rfl (by kernel_rfl) (by kernel_rfl) (by kernel_rfl) (by kernel_rfl) (fun _ _ _ h => h) (by kernel_rfl) (by assumption) ?_ ?_
        · intro w' hSw
          clear hSw
          kernel_rfl
        simp only [Act.put, List.setIfInBounds_toArray, List.set_cons_zero, List.set_cons_succ]
        refine wpAnyH_done (by kernel_rfl) ?_ _
        go_wp2_with fail
        refine (cellsOf_any (A k) _ HS.out.1).mono ?_
        rintro e w4 ⟨rfl, rfl⟩
        go_wp2
        go_roundw
        case rel => exact ⟨k + 1, by omega, by go_num, rfl, sd1.trans (sinceMono s3 sd1.size), HO.out.1, HO.out.2⟩
        case measure => simp [intOf]; omega
      · obtain ⟨p, hp⟩ : ∃ p, p = k - 1 := ⟨_, rfl⟩
        have HP := hide hp
        obtain ⟨-, a1', a2', k1', k2', M0⟩ := H p (by omega)
        have e0 := (M0.keep S2).c0
        have hg : (0 : Int) < k := by omega
        have hk1 : IntKind.i64.wrap ((k : Int) - 1) = (p : Int) := by rw [IntKind.wrap_i64]; omega
        have hk2 : (p : Int) < n := by omega
        have hk3 : (k : Int) - 1 = p := by omega
        clear hp
        by_cases hch : (A k).cols = (A p).rows
        · have HC := hide hch
          have q : ((A k).cols != (A p).rows) = false := by simpa using hch
          clear hch
          have OO : ∀ j, j < k + 1 → (A j).shape := fun j hj => by
            by_cases e : j = k
            · subst e; exact HS.out
            · exact O j (by omega)
          have CC : ∀ j, j < k + 1 → 0 < j → (A j).cols = (A (j - 1)).rows := fun j hj h => by
            by_cases e : j = k
            · subst e; rw [← HP.out]; exact HC.out
            · exact C j (by omega) h
          have HO := hide (And.intro OO CC)
          clear OO CC O C
          refine wp_region_held_drew (S := (fun w' => w'.cell? ⟨wr.heap.size, 0, none⟩ = some (.int .i64 (A k).rows) ∧ w'.cell? ⟨wr.heap.size, 1, none⟩ = some (.int .i64 (A k).cols) ∧ w'.cell? ⟨wr.heap.size, 2, none⟩ = some (.slice a1 (A k).nw k1) ∧ w'.cell? ⟨wr.heap.size, 3, none⟩ = some (.slice a2 (A k).nb k2) ∧ w'.cell? ⟨w.heap.size, 0, none⟩ = some (.slice (some ⟨b, off, none⟩) n cap) ∧ w'.cell? ⟨b, off + p * 4, none⟩ = some (.int .i64 (A p).rows))) (by kernel_rfl) ?_ (fun hHeld => ?_)
          · exact ⟨d0', d1', d2', d3', p0, e0⟩
          refine take_at 0 (some 24) (.agg #[.int .i64 (A k).rows, .int .i64 (A k).cols, .slice a1 (A k).nw k1, .slice a2 (A k).nb k2]) rfl (by kernel_rfl) (by kernel_rfl) (by kernel_rfl) (by kernel_rfl) (fun _ _ _ h => h) (by kernel_rfl) (by assumption) ?_ ?_
          · intro w' hSw
            try dsimp only at hSw
            go_simp
          simp only [Act.put, List.setIfInBounds_toArray, List.set_cons_zero, List.set_cons_succ]
          refine wpAnyH_ready (rs := [1]) (by kernel_rfl) (by simp) ?_
          refine AllReadyH.cons rfl (fun K hK => ?_) AllReadyH.nil
          go_simp
          go_wp2_with (go_at_call 101; with_reducible refine J1.mono ?_; rintro e w3 ⟨rfl, s3⟩)
          have S3 : w.Since w.heap.size w3 := S2.trans (sinceMono s3 S2.size)
          have D3 := D2.keep s3
          have i0 := D3.c0
          have i1 := D3.c1
          have i2 := D3.c2
          have i3 := D3.c3
          have i4 := (B2.keep s3).c0
          have i5 := (M0.keep S3).c0
          refine hK.out _ _ ?_ (fun hHeld2 => ?_)
          · exact ⟨i0, i1, i2, i3, i4, i5⟩
          clear hK K hHeld
          refine take_at 2 (some 26) (.bool false) rfl (by kernel_rfl) (by kernel_rfl) (by kernel_rfl) (by kernel_rfl) (fun _ _ _ h => h) (by kernel_rfl) (by assumption) ?_ ?_
          · intro w' hSw
            clear hSw
            kernel_rfl
          simp only [Act.put, List.setIfInBounds_toArray, List.set_cons_zero, List.set_cons_succ]
          refine take_at 3 (some 27) (.bool false) rfl (by kernel_rfl) (by kernel_rfl) (by kernel_rfl) (by kernel_rfl) (fun _ _ _ h => h) (by kernel_rfl) (by assumption) ?_ ?_
          · intro w' hSw
            clear hSw
            kernel_rfl
          simp only [Act.put, List.setIfInBounds_toArray, List.set_cons_zero, List.set_cons_succ]
          refine take_at 4 (some 28) (.int .i64 k) rfl (by kernel_rfl) (by kernel_rfl) (by kernel_rfl) (by kernel_rfl) (fun _ _ _ h => h) (by kernel_rfl) (by assumption) ?_ ?_
          · intro w' hSw
            clear hSw
            kernel_rfl
          simp only [Act.put, List.setIfInBounds_toArray, List.set_cons_zero, List.set_cons_succ]
          refine take_at 5 (some 29) (.bool true) rfl (by kernel_rfl) (by kernel_rfl) (by kernel_rfl) (by kernel_rfl) (fun _ _ _ h => h) (by kernel_rfl) (by assumption) ?_ ?_
          · intro w' hSw
            try dsimp only at hSw
            go_simp
          simp only [Act.put, List.setIfInBounds_toArray, List.set_cons_zero, List.set_cons_succ]
          refine take_at 6 (some 30) (.bool true) rfl (by kernel_rfl) (by kernel_rfl) (by kernel_rfl) (by kernel_rfl) (fun _ _ _ h => h) (by kernel_rfl) (by assumption) ?_ ?_
          · intro w' hSw
            clear hSw
            kernel_rfl
          simp only [Act.put, List.setIfInBounds_toArray, List.set_cons_zero, List.set_cons_succ]
          refine take_at 7 (some 31) (.pointer (some ⟨wr.heap.size, 1, none⟩)) rfl (by kernel_rfl) (by kernel_rfl) (by kernel_rfl) (by kernel_rfl) (fun _ _ _ h => h) (by kernel_rfl) (by assumption) ?_ ?_
          · intro w' hSw
            clear hSw
            kernel_rfl
          simp only [Act.put, List.setIfInBounds_toArray, List.set_cons_zero, List.set_cons_succ]
          refine take_at 8 (some 32) (.int .i64 (A k).cols) rfl (by kernel_rfl) (by kernel_rfl) (by kernel_rfl) (by kernel_rfl) (fun _ _ _ h => h) (by kernel_rfl) (by assumption) ?_ ?_
          · intro w' hSw
            try dsimp only at hSw
            go_simp
          simp only [Act.put, List.setIfInBounds_toArray, List.set_cons_zero, List.set_cons_succ]
          refine take_at 9 (some 33) (.pointer (some ⟨w.heap.size, 0, none⟩)) rfl (by kernel_rfl) (by kernel_rfl) (by kernel_rfl) (by kernel_rfl) (fun _ _ _ h => h) (by kernel_rfl) (by assumption) ?_ ?_
          · intro w' hSw
            clear hSw
            kernel_rfl
          simp only [Act.put, List.setIfInBounds_toArray, List.set_cons_zero, List.set_cons_succ]
          refine take_at 10 (some 34) (.slice (some ⟨b, off, none⟩) n cap) rfl (by kernel_rfl) (by kernel_rfl) (by kernel_rfl) (by kernel_rfl) (fun _ _ _ h => h) (by kernel_rfl) (by assumption) ?_ ?_
          · intro w' hSw
            try dsimp only at hSw
            go_simp
          simp only [Act.put, List.setIfInBounds_toArray, List.set_cons_zero, List.set_cons_succ]
          refine take_at 11 (some 35) (.int .i64 k) rfl (by kernel_rfl) (by kernel_rfl) (by kernel_rfl) (by kernel_rfl) (fun _ _ _ h => h) (by kernel_rfl) (by assumption) ?_ ?_
          · intro w' hSw
            clear hSw
            kernel_rfl
          simp only [Act.put, List.setIfInBounds_toArray, List.set_cons_zero, List.set_cons_succ]
          refine take_at 12 (some 36) (.int .i64 p) rfl (by kernel_rfl) (by kernel_rfl) (by kernel_rfl) (by kernel_rfl) (fun _ _ _ h => h) (by kernel_rfl) (by assumption) ?_ ?_
          · intro w' hSw
            try dsimp only at hSw
            go_simp
            rw [IntKind.wrap_i64]
            omega
          simp only [Act.put, List.setIfInBounds_toArray, List.set_cons_zero, List.set_cons_succ]
          refine take_at 13 (some 37) (.pointer (some ⟨b, off + p * 4, none⟩)) rfl (by kernel_rfl) (by kernel_rfl) (by kernel_rfl) (by kernel_rfl) (fun _ _ _ h => h) (by kernel_rfl) (by assumption) ?_ ?_
          · intro w' hSw
            try dsimp only at hSw
            go_simp
          simp only [Act.put, List.setIfInBounds_toArray, List.set_cons_zero, List.set_cons_succ]
          refine take_at 14 (some 38) (.pointer (some ⟨b, off + p * 4, none⟩)) rfl (by kernel_rfl) (by kernel_rfl) (by kernel_rfl) (by kernel_rfl) (fun _ _ _ h => h) (by kernel_rfl) (by assumption) ?_ ?_
          · intro w' hSw
            clear hSw
            kernel_rfl
          simp only [Act.put, List.setIfInBounds_toArray, List.set_cons_zero, List.set_cons_succ]
          refine take_at 15 (some 39) (.int .i64 (A p).rows) rfl (by kernel_rfl) (by kernel_rfl) (by kernel_rfl) (by kernel_rfl) (fun _ _ _ h => h) (by kernel_rfl) (by assumption) ?_ ?_
          · intro w' hSw
            try dsimp only at hSw
            go_simp
          simp only [Act.put, List.setIfInBounds_toArray, List.set_cons_zero, List.set_cons_succ]
          refine take_at 16 (some 40) (.bool false) rfl (by kernel_rfl) (by kernel_rfl) (by kernel_rfl) (by kernel_rfl) (fun _ _ _ h => h) (by kernel_rfl) (by assumption) ?_ ?_
          · intro w' hSw
            try dsimp only at hSw
            go_simp
          simp only [Act.put, List.setIfInBounds_toArray, List.set_cons_zero, List.set_cons_succ]
          refine take_at 17 (some 41) (.bool false) rfl (by kernel_rfl) (by kernel_rfl) (by kernel_rfl) (by kernel_rfl) (fun _ _ _ h => h) (by kernel_rfl) (by assumption) ?_ ?_
          · intro w' hSw
            clear hSw
            kernel_rfl
          simp only [Act.put, List.setIfInBounds_toArray, List.set_cons_zero, List.set_cons_succ]
          refine take_at 18 (some 42) (.bool false) rfl (by kernel_rfl) (by kernel_rfl) (by kernel_rfl) (by kernel_rfl) (fun _ _ _ h => h) (by kernel_rfl) (by assumption) ?_ ?_
          · intro w' hSw
            clear hSw
            kernel_rfl
          simp only [Act.put, List.setIfInBounds_toArray, List.set_cons_zero, List.set_cons_succ]
          refine wpAnyH_done (by kernel_rfl) ?_ _
          all_goals go_wp2_with fail
          all_goals refine (cellsOf_any (A k) _ HS.out.1).mono ?_
          all_goals rintro e w4 ⟨rfl, rfl⟩
          all_goals go_wp2
          all_goals go_roundw
          case rel => exact ⟨k + 1, by omega, by go_num, rfl, sd1.trans (sinceMono s3 sd1.size), HO.out.1, HO.out.2⟩
          case measure => simp [intOf]; omega
        · have HC := hide hch
          have q : ((A k).cols != (A p).rows) = true := by simpa using hch
          clear hch
          refine wp_region_held_drew (S := (fun w' => w'.cell? ⟨wr.heap.size, 0, none⟩ = some (.int .i64 (A k).rows) ∧ w'.cell? ⟨wr.heap.size, 1, none⟩ = some (.int .i64 (A k).cols) ∧ w'.cell? ⟨wr.heap.size, 2, none⟩ = some (.slice a1 (A k).nw k1) ∧ w'.cell? ⟨wr.heap.size, 3, none⟩ = some (.slice a2 (A k).nb k2) ∧ w'.cell? ⟨w.heap.size, 0, none⟩ = some (.slice (some ⟨b, off, none⟩) n cap) ∧ w'.cell? ⟨b, off + p * 4, none⟩ = some (.int .i64 (A p).rows))) (by kernel_rfl) ?_ (fun hHeld => ?_)
          · exact ⟨d0', d1', d2', d3', p0, e0⟩
          refine take_at 0 (some 24) (.agg #[.int .i64 (A k).rows, .int .i64 (A k).cols, .slice a1 (A k).nw k1, .slice a2 (A k).nb k2]) rfl (by kernel_rfl) (by kernel_rfl) (by kernel_rfl) (by kernel_rfl) (fun _ _ _ h => h) (by kernel_rfl) (by assumption) ?_ ?_
          · intro w' hSw
            try dsimp only at hSw
            go_simp
          simp only [Act.put, List.setIfInBounds_toArray, List.set_cons_zero, List.set_cons_succ]
          refine wpAnyH_ready (rs := [1]) (by kernel_rfl) (by simp) ?_
          refine AllReadyH.cons rfl (fun K hK => ?_) AllReadyH.nil
          go_simp
          go_wp2_with (go_at_call 101; with_reducible refine J1.mono ?_; rintro e w3 ⟨rfl, s3⟩)
          have S3 : w.Since w.heap.size w3 := S2.trans (sinceMono s3 S2.size)
          have D3 := D2.keep s3
          have i0 := D3.c0
          have i1 := D3.c1
          have i2 := D3.c2
          have i3 := D3.c3
          have i4 := (B2.keep s3).c0
          have i5 := (M0.keep S3).c0
          refine hK.out _ _ ?_ (fun hHeld2 => ?_)
          · exact ⟨i0, i1, i2, i3, i4, i5⟩
          clear hK K hHeld
          refine take_at 2 (some 26) (.bool false) rfl (by kernel_rfl) (by kernel_rfl) (by kernel_rfl) (by kernel_rfl) (fun _ _ _ h => h) (by kernel_rfl) (by assumption) ?_ ?_
          · intro w' hSw
            clear hSw
            kernel_rfl
          simp only [Act.put, List.setIfInBounds_toArray, List.set_cons_zero, List.set_cons_succ]
          refine take_at 3 (some 27) (.bool false) rfl (by kernel_rfl) (by kernel_rfl) (by kernel_rfl) (by kernel_rfl) (fun _ _ _ h => h) (by kernel_rfl) (by assumption) ?_ ?_
          · intro w' hSw
            clear hSw
            kernel_rfl
          simp only [Act.put, List.setIfInBounds_toArray, List.set_cons_zero, List.set_cons_succ]
          refine take_at 4 (some 28) (.int .i64 k) rfl (by kernel_rfl) (by kernel_rfl) (by kernel_rfl) (by kernel_rfl) (fun _ _ _ h => h) (by kernel_rfl) (by assumption) ?_ ?_
          · intro w' hSw
            clear hSw
            kernel_rfl
          simp only [Act.put, List.setIfInBounds_toArray, List.set_cons_zero, List.set_cons_succ]
          refine take_at 5 (some 29) (.bool true) rfl (by kernel_rfl) (by kernel_rfl) (by kernel_rfl) (by kernel_rfl) (fun _ _ _ h => h) (by kernel_rfl) (by assumption) ?_ ?_
          · intro w' hSw
            try dsimp only at hSw
            go_simp
          simp only [Act.put, List.setIfInBounds_toArray, List.set_cons_zero, List.set_cons_succ]
          refine take_at 6 (some 30) (.bool true) rfl (by kernel_rfl) (by kernel_rfl) (by kernel_rfl) (by kernel_rfl) (fun _ _ _ h => h) (by kernel_rfl) (by assumption) ?_ ?_
          · intro w' hSw
            clear hSw
            kernel_rfl
          simp only [Act.put, List.setIfInBounds_toArray, List.set_cons_zero, List.set_cons_succ]
          refine take_at 7 (some 31) (.pointer (some ⟨wr.heap.size, 1, none⟩)) rfl (by kernel_rfl) (by kernel_rfl) (by kernel_rfl) (by kernel_rfl) (fun _ _ _ h => h) (by kernel_rfl) (by assumption) ?_ ?_
          · intro w' hSw
            clear hSw
            kernel_rfl
          simp only [Act.put, List.setIfInBounds_toArray, List.set_cons_zero, List.set_cons_succ]
          refine take_at 8 (some 32) (.int .i64 (A k).cols) rfl (by kernel_rfl) (by kernel_rfl) (by kernel_rfl) (by kernel_rfl) (fun _ _ _ h => h) (by kernel_rfl) (by assumption) ?_ ?_
          · intro w' hSw
            try dsimp only at hSw
            go_simp
          simp only [Act.put, List.setIfInBounds_toArray, List.set_cons_zero, List.set_cons_succ]
          refine take_at 9 (some 33) (.pointer (some ⟨w.heap.size, 0, none⟩)) rfl (by kernel_rfl) (by kernel_rfl) (by kernel_rfl) (by kernel_rfl) (fun _ _ _ h => h) (by kernel_rfl) (by assumption) ?_ ?_
          · intro w' hSw
            clear hSw
            kernel_rfl
          simp only [Act.put, List.setIfInBounds_toArray, List.set_cons_zero, List.set_cons_succ]
          refine take_at 10 (some 34) (.slice (some ⟨b, off, none⟩) n cap) rfl (by kernel_rfl) (by kernel_rfl) (by kernel_rfl) (by kernel_rfl) (fun _ _ _ h => h) (by kernel_rfl) (by assumption) ?_ ?_
          · intro w' hSw
            try dsimp only at hSw
            go_simp
          simp only [Act.put, List.setIfInBounds_toArray, List.set_cons_zero, List.set_cons_succ]
          refine take_at 11 (some 35) (.int .i64 k) rfl (by kernel_rfl) (by kernel_rfl) (by kernel_rfl) (by kernel_rfl) (fun _ _ _ h => h) (by kernel_rfl) (by assumption) ?_ ?_
          · intro w' hSw
            clear hSw
            kernel_rfl
          simp only [Act.put, List.setIfInBounds_toArray, List.set_cons_zero, List.set_cons_succ]
          refine take_at 12 (some 36) (.int .i64 p) rfl (by kernel_rfl) (by kernel_rfl) (by kernel_rfl) (by kernel_rfl) (fun _ _ _ h => h) (by kernel_rfl) (by assumption) ?_ ?_
          · intro w' hSw
            try dsimp only at hSw
            go_simp
            rw [IntKind.wrap_i64]
            omega
          simp only [Act.put, List.setIfInBounds_toArray, List.set_cons_zero, List.set_cons_succ]
          refine take_at 13 (some 37) (.pointer (some ⟨b, off + p * 4, none⟩)) rfl (by kernel_rfl) (by kernel_rfl) (by kernel_rfl) (by kernel_rfl) (fun _ _ _ h => h) (by kernel_rfl) (by assumption) ?_ ?_
          · intro w' hSw
            try dsimp only at hSw
            go_simp
          simp only [Act.put, List.setIfInBounds_toArray, List.set_cons_zero, List.set_cons_succ]
          refine take_at 14 (some 38) (.pointer (some ⟨b, off + p * 4, none⟩)) rfl (by kernel_rfl) (by kernel_rfl) (by kernel_rfl) (by kernel_rfl) (fun _ _ _ h => h) (by kernel_rfl) (by assumption) ?_ ?_
          · intro w' hSw
            clear hSw
            kernel_rfl
          simp only [Act.put, List.setIfInBounds_toArray, List.set_cons_zero, List.set_cons_succ]
          refine take_at 15 (some 39) (.int .i64 (A p).rows) rfl (by kernel_rfl) (by kernel_rfl) (by kernel_rfl) (by kernel_rfl) (fun _ _ _ h => h) (by kernel_rfl) (by assumption) ?_ ?_
          · intro w' hSw
            try dsimp only at hSw
            go_simp
          simp only [Act.put, List.setIfInBounds_toArray, List.set_cons_zero, List.set_cons_succ]
          refine take_at 16 (some 40) (.bool true) rfl (by kernel_rfl) (by kernel_rfl) (by kernel_rfl) (by kernel_rfl) (fun _ _ _ h => h) (by kernel_rfl) (by assumption) ?_ ?_
          · intro w' hSw
            try dsimp only at hSw
            go_simp
          simp only [Act.put, List.setIfInBounds_toArray, List.set_cons_zero, List.set_cons_succ]
          refine take_at 17 (some 41) (.bool true) rfl (by kernel_rfl) (by kernel_rfl) (by kernel_rfl) (by kernel_rfl) (fun _ _ _ h => h) (by kernel_rfl) (by assumption) ?_ ?_
          · intro w' hSw
            clear hSw
            kernel_rfl
          simp only [Act.put, List.setIfInBounds_toArray, List.set_cons_zero, List.set_cons_succ]
          refine take_at 18 (some 42) (.bool true) rfl (by kernel_rfl) (by kernel_rfl) (by kernel_rfl) (by kernel_rfl) (fun _ _ _ h => h) (by kernel_rfl) (by assumption) ?_ ?_
          · intro w' hSw
            clear hSw
            kernel_rfl
          simp only [Act.put, List.setIfInBounds_toArray, List.set_cons_zero, List.set_cons_succ]
          refine wpAnyH_done (by kernel_rfl) ?_ _
          all_goals go_wp2
          all_goals go_ret
          all_goals exact ⟨false, rfl, ⟨(fun h => by cases h), fun pc => absurd (pc.chain k hlt hpos) (by rw [← HP.out]; exact HC.out)⟩, S3⟩
    · have S1 : w.Since w.heap.size wr := sA.trans (sinceMono s sA.size)
      have e : k = n := by omega
      subst e
      have HO := hide (And.intro O C)
      clear O C
      by_cases hq : sumC A k ≤ 20000
      · have HQ := hide hq
        go_wp2
        go_ret
        exact ⟨true, by simp, ⟨fun _ => ⟨by omega, by omega, HO.out.1, HO.out.2, HQ.out⟩, fun _ => rfl⟩, S1⟩
      · have HQ := hide hq
        go_wp2
        go_ret
        exact Or.inl ⟨by simp, fun p => absurd p.sum (by have := HQ.out; omega), S1⟩

end Go.Proofs.YtnogbaapcjjngaaGreatDoor

namespace Go.Proofs.YtnogbaapcjjngaaGreatDoor
open Go.RowKit

theorem netP_iff (n : Nat) (A : Nat → AffD) : NetP n A ↔ ChainP n A ∧ ∀ k, k < n → (A k).vals :=
  ⟨fun h => ⟨⟨h.n0, h.n1, h.shape, h.chain, h.sum⟩, h.vals⟩, fun h => ⟨h.1.n0, h.1.n1, h.1.shape, h.1.chain, h.1.sum, h.2⟩⟩

set_option maxHeartbeats 3200000 in
set_option maxRecDepth 100000 in
theorem implNetOk_any (a : Option Addr) (lo b off n cap : Nat) (A : Nat → AffD) (w : World) (hw : 0 ≤ w.heap.size) (hT : Tab w) (hn : n ≤ 16777216) (hs : szA A n ≤ 16777216) (H : Affs w lo a b off n A) :
    Calls Tryz.prog 27 #[.agg #[.slice a n cap]] w fun e w' => ∃ r : Bool, e = .returned (.bool r) ∧ (r = true ↔ NetP n A) ∧ w.Since w.heap.size w' := by
  have sA : w.Since w.heap.size (w.alloc (.cells #[.slice a n cap] 24)) := (World.Since.refl _ _).alloc (Nat.le_refl _) _
  have bA := Box1.new w (.slice a n cap) 24
  have E := hide (netP_iff n A)
  go_enter Tryz.func27, Tryz.ntmps27
  go_wp2_with fail
  refine (chainFits_any a lo b off n cap A _ hn (H.keep sA)).mono ?_
  rintro e w1 ⟨r1, rfl, i1, s1⟩
  have I1 := hide i1
  have S1 : w.Since w.heap.size w1 := sA.trans (sinceMono s1 sA.size)
  have B1 := bA.keep s1
  have b0 := B1.c0
  clear i1 bA
  cases r1
  · go_wp2
    go_ret
    exact ⟨false, rfl, ⟨(fun h => by cases h), fun p => absurd (I1.out.2 (E.out.1 p).1) (by simp)⟩, S1⟩
  have CP := hide (I1.out.1 (by simp))
  clear I1
  go_wp2_with fail
  go_loopw [11] (fun i wr => ∃ k : Nat, k ≤ n ∧ i = .int .i64 k ∧ w1.Since w1.heap.size wr ∧ (∀ j, j < k → (A j).vals)) (fun i _ => n - (intOf i).toNat)
  case atStart => exact ⟨0, Nat.zero_le _, rfl, World.Since.refl _ _, fun i hi => absurd hi (by omega)⟩
  case round =>
    obtain ⟨k, hk, rfl, s, O⟩ := hrel
    by_cases hlt : k < n
    · have S2 : w.Since w.heap.size wr := S1.trans (sinceMono s S1.size)
      obtain ⟨rfl, a1, a2, k1, k2, M⟩ := H k hlt
      have M' := M.keep S2
      have g0 := M'.c0
      have g1 := M'.c1
      have g2 := M'.c2
      have g3 := M'.c3
      have hz : (k : Int) < (n : Int) := by omega
      have hsz := szA_at (A := A) hlt
      unfold AffD.size at hsz
      have t1 : wr.Since wr.heap.size (wr.alloc (.cells #[.int .i64 (A k).rows, .int .i64 (A k).cols, .slice a1 (A k).nw k1, .slice a2 (A k).nb k2] 74)) := (World.Since.refl _ _).alloc (Nat.le_refl _) _
      have cB := Box4.new wr (.int .i64 (A k).rows) (.int .i64 (A k).cols) (.slice a1 (A k).nw k1) (.slice a2 (A k).nb k2) 74
      go_wp2_with fail
      generalize wr.alloc (.cells #[.int .i64 (A k).rows, .int .i64 (A k).cols, .slice a1 (A k).nw k1, .slice a2 (A k).nb k2] 74) = w2 at *
      have S3 : w.Since w.heap.size w2 := S2.trans (sinceMono t1 S2.size)
      have s3 : w1.Since w1.heap.size w2 := s.trans (sinceMono t1 s.size)
      obtain ⟨ba, oa, -, LW⟩ := (M.L.keep S3).LW
      obtain ⟨bb, ob, -, LB⟩ := (M.L.keep S3).LB
      refine (allValid_any a1 lo ba oa (A k).nw k1 (A k).W w2 (Nat.zero_le _) (hT.keepN hw S3) (by omega) (by omega) LW).mono ?_
      rintro e w3 ⟨r2, rfl, i2, s4⟩
      have I2 := hide i2
      have S4 : w.Since w.heap.size w3 := S3.trans (sinceMono s4 S3.size)
      have d3 := (cB.keep s4).c3
      clear i2 g0 g1 g2 g3
      cases r2
      · go_wp2
        go_ret
        exact ⟨false, rfl, ⟨(fun h => by cases h), fun p => absurd (I2.out.2 (p.vals k hlt).1) (by simp)⟩, S4⟩
      go_wp2_with fail
      refine (allValid_any a2 lo bb ob (A k).nb k2 (A k).B w3 (Nat.zero_le _) (hT.keepN hw S4) (by omega) (by omega) (LB.keep s4)).mono ?_
      rintro e w4 ⟨r3, rfl, i3, s5⟩
      have I3 := hide i3
      have S5 : w.Since w.heap.size w4 := S4.trans (sinceMono s5 S4.size)
      clear i3
      cases r3
      · go_wp2
        go_ret
        exact ⟨false, rfl, ⟨(fun h => by cases h), fun p => absurd (I3.out.2 (p.vals k hlt).2) (by simp)⟩, S5⟩
      go_wp2
      go_roundw
      case rel =>
        refine ⟨k + 1, by omega, by go_num, (s3.trans (sinceMono s4 s3.size)).trans (sinceMono s5 (Nat.le_trans s3.size s4.size)), fun j hj => ?_⟩
        by_cases e : j = k
        · subst e; exact ⟨I2.out.1 (by simp), I3.out.1 (by simp)⟩
        · exact O j (by omega)
      case measure => simp [intOf]; omega
    · have S2 : w.Since w.heap.size wr := S1.trans (sinceMono s S1.size)
      have e : k = n := by omega
      subst e
      have HO := hide O
      clear O
      go_wp2
      go_ret
      exact ⟨true, rfl, ⟨fun _ => E.out.2 ⟨CP.out, HO.out⟩, fun _ => rfl⟩, S2⟩

end Go.Proofs.YtnogbaapcjjngaaGreatDoor

namespace Go.Proofs.YtnogbaapcjjngaaGreatDoor
open Go.RowKit

set_option maxHeartbeats 3200000 in
set_option maxRecDepth 100000 in
theorem specNetOk_any (a : Option Addr) (lo b off n cap : Nat) (A : Nat → AffD) (w : World) (hn : n ≤ 16777216) (hs : szA A n ≤ 16777216) (H : Affs w lo a b off n A) :
    Calls Tryz.prog 22 #[.agg #[.slice a n cap]] w fun e w' => ∃ r : Bool, e = .returned (.bool r) ∧ (r = true ↔ NetP n A) ∧ w.Since w.heap.size w' := by
  have sA : w.Since w.heap.size (w.alloc (.cells #[.slice a n cap] 24)) := (World.Since.refl _ _).alloc (Nat.le_refl _) _
  have bA := Box1.new w (.slice a n cap) 24
  by_cases h : (1 : Int) ≤ n ∧ (n : Int) ≤ 10000
  rotate_left
  · have HN := hide (show ¬ NetP n A from fun p => by have := p.n0; have := p.n1; omega)
    go_enter Tryz.func22, Tryz.ntmps22
    go_wp2_with fail
    refine (l2In_no n 1 10000 _ h).mono ?_
    rintro e w1 ⟨rfl, rfl⟩
    clear h
    go_wp2
    go_ret
    exact ⟨false, rfl, ⟨(fun h => by cases h), fun h => absurd h HN.out⟩, sA⟩
  obtain ⟨h0, h1⟩ := h
  go_enter Tryz.func22, Tryz.ntmps22
  go_wp2_with fail
  refine (l2In_yes n 1 10000 _ h0 h1).mono ?_
  rintro e w1 ⟨rfl, rfl⟩
  generalize w.alloc (.cells #[.slice a n cap] 24) = wA at *
  go_wp2
  go_loopw [3, 4] (fun q i wr => ∃ k : Nat, k ≤ n ∧ i = .int .i64 k ∧ q = .int .i64 (sumC A k) ∧ wA.Since wA.heap.size wr ∧ (∀ j, j < k → (A j).shape ∧ (A j).vals) ∧ (∀ j, j < k → 0 < j → (A j).cols = (A (j - 1)).rows)) (fun _ i _ => n - (intOf i).toNat)
  case atStart => exact ⟨0, Nat.zero_le _, rfl, rfl, World.Since.refl _ _, fun i hi => absurd hi (by omega), fun i hi => absurd hi (by omega)⟩
  case round =>
    obtain ⟨k, hk, rfl, rfl, s, O, C⟩ := hrel
    have B1 := bA.keep s
    have b0 := B1.c0
    have S1 : w.Since w.heap.size wr := sA.trans (sinceMono s sA.size)
    by_cases hlt : k < n
    · obtain ⟨rfl, a1, a2, k1, k2, M⟩ := H k hlt
      have M' := M.keep S1
      have g0 := M'.c0
      have g1 := M'.c1
      have g2 := M'.c2
      have g3 := M'.c3
      have hz : (k : Int) < (n : Int) := by omega
      have hsz := szA_at (A := A) hlt
      go_wp2_with fail
      refine (l3MapOk_any (A k) a1 a2 lo k1 k2 wr (by omega) M'.L).mono ?_
      rintro e w2 ⟨r1, rfl, i1, s2⟩
      have I1 := hide i1
      clear i1 g0 g1 g2 g3 b0
      have S2 : w.Since w.heap.size w2 := S1.trans (sinceMono s2 S1.size)
      cases r1
      · go_wp2
        go_ret
        exact ⟨false, rfl, ⟨(fun h => by cases h), fun p => absurd (I1.out.2 ⟨p.shape k hlt, p.cells hlt, p.vals k hlt⟩) (by simp)⟩, S2⟩
      have hq := hide (I1.out.1 (by simp))
      have hb := hq.out.1.1.bounds
      have sb := sumC_bound (A := A) (k := k) (fun j hj => (O j hj).1)
      have M2 := M.keep S2
      have g0 := M2.c0
      have g1 := M2.c1
      have g2 := M2.c2
      have g3 := M2.c3
      have b0 := (B1.keep s2).c0
      clear I1
      rcases Nat.eq_zero_or_pos k with h00 | hpos
      · subst h00
        simp only [Nat.zero_mul, Nat.add_zero] at g0 g1 g2 g3
        have OO : ∀ j, j < 0 + 1 → (A j).shape ∧ (A j).vals := fun j hj => by
          obtain rfl : j = 0 := by omega
          exact ⟨hq.out.1, hq.out.2.2⟩
        have CC : ∀ j, j < 0 + 1 → 0 < j → (A j).cols = (A (j - 1)).rows := fun j hj h => by omega
        have HO := hide (And.intro OO CC)
        clear OO CC O C
        have sd : ∀ q w', (w2.drewN q).Since (w2.drewN q).heap.size w' → wA.Since wA.heap.size w' := fun q w' s3 => (s.trans (sinceMono s2 s.size)).trans (((Same.refl w2).drewN q |>.since _).trans (sinceMono s3 (Nat.le_trans s.size s2.size)))
        go_wp2_with fail
        go_quiet (fail)
        go_wp2_with fail
        refine (l3Cells_any (A 0) _ _ _ hq.out.1.1).mono ?_
        rintro e w3 ⟨rfl, s3⟩
        have s4 := sd _ _ s3
        clear sd s3
        go_wp2
        go_roundw
        case rel => exact ⟨0 + 1, by omega, rfl, rfl, s4, HO.out.1, HO.out.2⟩
        case measure => simp [intOf]; omega
      · obtain ⟨-, a1', a2', k1', k2', M0⟩ := H (k - 1) (by omega)
        have M0' := M0.keep S2
        have e0 := M0'.c0
        have hg : (0 : Int) < k := by omega
        have hk1 : (k : Int) - 1 = ((k - 1 : Nat) : Int) := by omega
        by_cases hch : (A k).cols = (A (k - 1)).rows
        · have HC := hide hch
          have q : ((A k).cols != (A (k - 1)).rows) = false := by simpa using hch
          clear hch
          have OO : ∀ j, j < k + 1 → (A j).shape ∧ (A j).vals := fun j hj => by
            by_cases e : j = k
            · subst e; exact ⟨hq.out.1, hq.out.2.2⟩
            · exact O j (by omega)
          have CC : ∀ j, j < k + 1 → 0 < j → (A j).cols = (A (j - 1)).rows := fun j hj h => by
            by_cases e : j = k
            · subst e; exact HC.out
            · exact C j (by omega) h
          have HO := hide (And.intro OO CC)
          clear OO CC O C
          have sd : ∀ q w', (w2.drewN q).Since (w2.drewN q).heap.size w' → wA.Since wA.heap.size w' := fun q w' s3 => (s.trans (sinceMono s2 s.size)).trans (((Same.refl w2).drewN q |>.since _).trans (sinceMono s3 (Nat.le_trans s.size s2.size)))
          go_wp2_with fail
          go_quiet (fail)
          go_wp2_with fail
          refine (l3Cells_any (A k) _ _ _ hq.out.1.1).mono ?_
          rintro e w3 ⟨rfl, s3⟩
          have s4 := sd _ _ s3
          clear sd s3
          go_wp2
          go_roundw
          case rel => exact ⟨k + 1, by omega, by go_num, rfl, s4, HO.out.1, HO.out.2⟩
          case measure => simp [intOf]; omega
        · have HC := hide hch
          have q : ((A k).cols != (A (k - 1)).rows) = true := by simpa using hch
          clear hch
          have sd : ∀ q, w.Since w.heap.size (w2.drewN q) := fun q => S2.trans ((Same.refl w2).drewN q |>.since _)
          go_wp2_with fail
          go_quiet (fail)
          go_wp2
          go_ret
          exact ⟨false, rfl, ⟨(fun h => by cases h), fun p => absurd (p.chain k hlt hpos) HC.out⟩, sd _⟩
    · have e : k = n := by omega
      subst e
      have HO := hide (And.intro O C)
      clear O C
      by_cases hq : sumC A k ≤ 20000
      · have HQ := hide hq
        go_wp2
        go_ret
        exact ⟨true, by simp, ⟨fun _ => ⟨by omega, by omega, fun j hj => (HO.out.1 j hj).1, HO.out.2, HQ.out, fun j hj => (HO.out.1 j hj).2⟩, fun _ => rfl⟩, S1⟩
      · have HQ := hide hq
        go_wp2
        go_ret
        exact Or.inl ⟨by simp, fun p => absurd p.sum (by have := HQ.out; omega), S1⟩

end Go.Proofs.YtnogbaapcjjngaaGreatDoor
