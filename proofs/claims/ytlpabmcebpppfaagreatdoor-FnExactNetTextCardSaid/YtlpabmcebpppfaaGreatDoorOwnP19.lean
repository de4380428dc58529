import Derived.Test.YtlpabmcebpppfaaGreatDoorOwnP18
import Derived.Laws.ResultCell
import Derived.Test.YtlpabmcebpppfaaGreatDoorOwnP3
import Derived.Test.YtlpabmcebpppfaaGreatDoorOwnP4
import Derived.Test.YtlpabmcebpppfaaGreatDoorOwnP16
import Derived.Laws.AppendOwnNone
import Derived.Test.YtlpabmcebpppfaaGreatDoorOwnP17
import Derived.Test.YtlpabmcebpppfaaGreatDoorOwnP5
import Derived.Deep.RegionHeld3
namespace Go.Proofs.YtlpabmcebpppfaaGreatDoor
open Go.RowKit

end Go.Proofs.YtlpabmcebpppfaaGreatDoor

namespace Go.Proofs.YtlpabmcebpppfaaGreatDoor
open Go.RowKit

end Go.Proofs.YtlpabmcebpppfaaGreatDoor

namespace Go.Proofs.YtlpabmcebpppfaaGreatDoor
open Go.RowKit

end Go.Proofs.YtlpabmcebpppfaaGreatDoor

namespace Go.Proofs.YtlpabmcebpppfaaGreatDoor
open Go.RowKit

end Go.Proofs.YtlpabmcebpppfaaGreatDoor

namespace Go.Proofs.YtlpabmcebpppfaaGreatDoor
open Go.RowKit

end Go.Proofs.YtlpabmcebpppfaaGreatDoor

namespace Go.Proofs.YtlpabmcebpppfaaGreatDoor
open Go.RowKit

end Go.Proofs.YtlpabmcebpppfaaGreatDoor

namespace Go.Proofs.YtlpabmcebpppfaaGreatDoor
open Go.RowKit

end Go.Proofs.YtlpabmcebpppfaaGreatDoor

namespace Go.Proofs.YtlpabmcebpppfaaGreatDoor
open Go.RowKit

end Go.Proofs.YtlpabmcebpppfaaGreatDoor

namespace Go.Proofs.YtlpabmcebpppfaaGreatDoor
open Go.RowKit

end Go.Proofs.YtlpabmcebpppfaaGreatDoor

namespace Go.Proofs.YtlpabmcebpppfaaGreatDoor
open Go.RowKit

end Go.Proofs.YtlpabmcebpppfaaGreatDoor

namespace Go.Proofs.YtlpabmcebpppfaaGreatDoor
open Go.RowKit

end Go.Proofs.YtlpabmcebpppfaaGreatDoor

namespace Go.Proofs.YtlpabmcebpppfaaGreatDoor
open Go.RowKit

end Go.Proofs.YtlpabmcebpppfaaGreatDoor

namespace Go.Proofs.YtlpabmcebpppfaaGreatDoor
open Go.RowKit

/-- The sign of a rational, as the programs hold it. -/
def qn (q : Rat) : Bool := decide (q.num < 0)

theorem q_norm (s : Int) (d : Nat) (hd : d ≠ 0) : qn (Rat.normalize s d hd) = decide (s < 0) ∧ (Rat.normalize s d hd).num.natAbs = s.natAbs / Nat.gcd s.natAbs d ∧ (Rat.normalize s d hd).den = d / Nat.gcd s.natAbs d := by
  have hg : 0 < Nat.gcd s.natAbs d := Nat.gcd_pos_of_pos_right _ (by omega)
  rw [Rat.normalize_eq]
  obtain ⟨k, hk⟩ := Nat.gcd_dvd_left s.natAbs d
  have hs : ∃ t : Int, s = (Nat.gcd s.natAbs d : Int) * t := by
    have : ((Nat.gcd s.natAbs d : Nat) : Int) ∣ s := Int.ofNat_dvd_left.2 (Nat.gcd_dvd_left _ _)
    exact this
  obtain ⟨t, ht⟩ := hs
  have hgi : (0 : Int) < (Nat.gcd s.natAbs d : Int) := by omega
  have hq : s / (Nat.gcd s.natAbs d : Int) = t := by
    have h1 := Int.mul_ediv_cancel_left t (show (Nat.gcd s.natAbs d : Int) ≠ 0 by omega)
    rw [← ht] at h1
    exact h1
  refine ⟨?_, ?_, rfl⟩
  · unfold qn
    show decide (s / (Nat.gcd s.natAbs d : Int) < 0) = _
    rw [hq, decide_eq_decide]
    constructor
    · intro h
      rw [ht]
      exact Int.mul_neg_of_pos_of_neg hgi h
    · intro h
      rcases Int.lt_or_le t 0 with e | e
      · exact e
      · have := Int.mul_nonneg (Int.le_of_lt hgi) e
        omega
  · show (s / (Nat.gcd s.natAbs d : Int)).natAbs = _
    rw [hq]
    have h2 : s.natAbs = Nat.gcd s.natAbs d * t.natAbs := by
      have := congrArg Int.natAbs ht
      rw [Int.natAbs_mul, Int.natAbs_natCast] at this
      exact this
    rw [Nat.div_eq_of_eq_mul_right hg h2]

end Go.Proofs.YtlpabmcebpppfaaGreatDoor

namespace Go.Proofs.YtlpabmcebpppfaaGreatDoor
open Go.RowKit

end Go.Proofs.YtlpabmcebpppfaaGreatDoor

namespace Go.Proofs.YtlpabmcebpppfaaGreatDoor

end Go.Proofs.YtlpabmcebpppfaaGreatDoor

namespace Go.Proofs.YtlpabmcebpppfaaGreatDoor
open Go.RowKit

/-- The rational that a Rat holds. -/
def RatD.q (r : RatD) : Rat := mkRat (if r.neg then -(lv r.X r.n : Int) else lv r.X r.n) (lv r.Y r.m)

/-- A fraction, normalised. -/
theorem norm_q (f : Bool) (N D : Nat) (hD : D ≠ 0) : qn (mkRat (if f then -(N : Int) else N) D) = (f && N != 0) ∧ (mkRat (if f then -(N : Int) else N) D).num.natAbs = N / Nat.gcd N D ∧ (mkRat (if f then -(N : Int) else N) D).den = D / Nat.gcd N D := by
  rw [← Rat.normalize_eq_mkRat hD]
  obtain ⟨e1, e2, e3⟩ := q_norm (if f then -(N : Int) else N) D hD
  have ea : (if f then -(N : Int) else (N : Int)).natAbs = N := by split <;> simp
  rw [ea] at e2 e3
  refine ⟨?_, e2, e3⟩
  rw [e1]
  cases f
  · simp
  · show decide (-(N : Int) < 0) = (true && N != 0)
    rw [Bool.eq_iff_iff]
    simp only [decide_eq_true_eq, Bool.true_and, bne_iff_ne]
    omega

theorem RatD.q_ok {r : RatD} (h : r.ok = true) : qn r.q = r.neg ∧ r.q.num.natAbs = lv r.X r.n ∧ r.q.den = lv r.Y r.m ∧ (0 < r.n → r.X (r.n - 1) ≠ 0) ∧ (0 < r.m → r.Y (r.m - 1) ≠ 0) ∧ 0 < r.m := by
  unfold RatD.ok ratOkB at h
  simp only [Bool.and_eq_true, bne_iff_ne, beq_iff_eq, Bool.not_eq_true', Bool.and_eq_false_iff] at h
  obtain ⟨⟨⟨⟨h1, h2⟩, h3⟩, h4⟩, h5⟩ := h
  have pX := plainB_iff.1 h1
  have pY := plainB_iff.1 h2
  have hm : 0 < r.m := by omega
  have hd : lv r.Y r.m ≠ 0 := fun e => by have := (lv_zero pY).2 e; omega
  obtain ⟨e1, e2, e3⟩ := norm_q r.neg (lv r.X r.n) (lv r.Y r.m) hd
  rw [h5, Nat.div_one] at e2 e3
  refine ⟨?_, e2, e3, pX, pY, hm⟩
  unfold RatD.q
  rw [e1]
  cases hn : r.neg
  · rfl
  · have hx : r.n ≠ 0 := by
      rcases h4 with h | h
      · rw [hn] at h; cases h
      · simpa using h
    have : lv r.X r.n ≠ 0 := fun e => hx ((lv_zero pX).2 e)
    simp [this]

section
variable {w w' : World} {p p' : Nat → Prop} {v : Value} {q : Rat} {a : Option Addr} {b off n c : Nat} {Q : Nat → Rat}
end

end Go.Proofs.YtlpabmcebpppfaaGreatDoor

namespace Go.Proofs.YtlpabmcebpppfaaGreatDoor
open Go.RowKit

end Go.Proofs.YtlpabmcebpppfaaGreatDoor

namespace Go.Proofs.YtlpabmcebpppfaaGreatDoor
open Go.RowKit

/-- The limbs of a Rat are limbs. -/
def RatD.lim (r : RatD) : Prop := (∀ j, j < r.n → r.X j < 4294967296) ∧ ∀ j, j < r.m → r.Y j < 4294967296

theorem Rats.lim {w : World} {lo b off n : Nat} {a : Option Addr} {R : Nat → RatD} (h : Rats w lo a b off n R) : ∀ i, i < n → (R i).lim := fun i hi => by
  obtain ⟨-, a1, a2, k1, k2, m⟩ := h i hi
  exact ⟨m.L.lX, m.L.lY⟩

end Go.Proofs.YtlpabmcebpppfaaGreatDoor

namespace Go.Proofs.YtlpabmcebpppfaaGreatDoor
open Go.RowKit

end Go.Proofs.YtlpabmcebpppfaaGreatDoor

namespace Go.Proofs.YtlpabmcebpppfaaGreatDoor
open Go.RowKit

end Go.Proofs.YtlpabmcebpppfaaGreatDoor

namespace Go.Proofs.YtlpabmcebpppfaaGreatDoor
open Go.RowKit

section
variable {w w' : World} {lo hi b off : Nat} {q : Rat} {g h : Nat} {a1 : Option Addr} {n1 k1 : Nat} {a2 : Option Addr} {n2 k2 : Nat} {X Y : Nat → Nat}
end

end Go.Proofs.YtlpabmcebpppfaaGreatDoor

namespace Go.Proofs.YtlpabmcebpppfaaGreatDoor
open Go.RowKit

end Go.Proofs.YtlpabmcebpppfaaGreatDoor

namespace Go.Proofs.YtlpabmcebpppfaaGreatDoor
open Go.RowKit

section
variable {w w' w'' : World} {S S' : Nat → Prop} {b n : Nat}
end

end Go.Proofs.YtlpabmcebpppfaaGreatDoor

namespace Go.Proofs.YtlpabmcebpppfaaGreatDoor
open Go.RowKit

section
variable {w w' : World} {a : Option Addr} {b off n c : Nat} {X : Nat → Int}
end

end Go.Proofs.YtlpabmcebpppfaaGreatDoor

namespace Go.Proofs.YtlpabmcebpppfaaGreatDoor
open Go.RowKit

end Go.Proofs.YtlpabmcebpppfaaGreatDoor

namespace Go.Proofs.YtlpabmcebpppfaaGreatDoor
open Go.RowKit

end Go.Proofs.YtlpabmcebpppfaaGreatDoor

namespace Go.Proofs.YtlpabmcebpppfaaGreatDoor
open Go.RowKit

end Go.Proofs.YtlpabmcebpppfaaGreatDoor

namespace Go.Proofs.YtlpabmcebpppfaaGreatDoor
open Go.RowKit

end Go.Proofs.YtlpabmcebpppfaaGreatDoor

namespace Go.Proofs.YtlpabmcebpppfaaGreatDoor
open Go.RowKit

end Go.Proofs.YtlpabmcebpppfaaGreatDoor

namespace Go.Proofs.YtlpabmcebpppfaaGreatDoor
open Go.RowKit

end Go.Proofs.YtlpabmcebpppfaaGreatDoor

namespace Go.Proofs.YtlpabmcebpppfaaGreatDoor
open Go.RowKit

end Go.Proofs.YtlpabmcebpppfaaGreatDoor

namespace Go.Proofs.YtlpabmcebpppfaaGreatDoor
open Go.RowKit

end Go.Proofs.YtlpabmcebpppfaaGreatDoor

namespace Go.Proofs.YtlpabmcebpppfaaGreatDoor
open Go.RowKit

end Go.Proofs.YtlpabmcebpppfaaGreatDoor

namespace Go.Proofs.YtlpabmcebpppfaaGreatDoor
open Go.RowKit

end Go.Proofs.YtlpabmcebpppfaaGreatDoor

namespace Go.Proofs.YtlpabmcebpppfaaGreatDoor
open Go.RowKit

end Go.Proofs.YtlpabmcebpppfaaGreatDoor

namespace Go.Proofs.YtlpabmcebpppfaaGreatDoor
open Go.RowKit

end Go.Proofs.YtlpabmcebpppfaaGreatDoor

namespace Go.Proofs.YtlpabmcebpppfaaGreatDoor
open Go.RowKit

end Go.Proofs.YtlpabmcebpppfaaGreatDoor

namespace Go.Proofs.YtlpabmcebpppfaaGreatDoor
open Go.RowKit

end Go.Proofs.YtlpabmcebpppfaaGreatDoor

namespace Go.Proofs.YtlpabmcebpppfaaGreatDoor
open Go.RowKit

end Go.Proofs.YtlpabmcebpppfaaGreatDoor

namespace Go.Proofs.YtlpabmcebpppfaaGreatDoor
open Go.RowKit

end Go.Proofs.YtlpabmcebpppfaaGreatDoor

namespace Go.Proofs.YtlpabmcebpppfaaGreatDoor
open Go.RowKit

end Go.Proofs.YtlpabmcebpppfaaGreatDoor

namespace Go.Proofs.YtlpabmcebpppfaaGreatDoor
open Go.RowKit

end Go.Proofs.YtlpabmcebpppfaaGreatDoor

namespace Go.Proofs.YtlpabmcebpppfaaGreatDoor
open Go.RowKit

end Go.Proofs.YtlpabmcebpppfaaGreatDoor

namespace Go.Proofs.YtlpabmcebpppfaaGreatDoor
open Go.RowKit

end Go.Proofs.YtlpabmcebpppfaaGreatDoor

namespace Go.Proofs.YtlpabmcebpppfaaGreatDoor
open Go.RowKit

end Go.Proofs.YtlpabmcebpppfaaGreatDoor

namespace Go.Proofs.YtlpabmcebpppfaaGreatDoor
open Go.RowKit

end Go.Proofs.YtlpabmcebpppfaaGreatDoor

namespace Go.Proofs.YtlpabmcebpppfaaGreatDoor
open Go.RowKit

end Go.Proofs.YtlpabmcebpppfaaGreatDoor

namespace Go.Proofs.YtlpabmcebpppfaaGreatDoor
open Go.RowKit

end Go.Proofs.YtlpabmcebpppfaaGreatDoor

namespace Go.Proofs.YtlpabmcebpppfaaGreatDoor
open Go.RowKit

theorem size_matrix : (Tryz.prog.info? 90).map (·.size) = some 3 := by kernel_rfl

set_option maxHeartbeats 1600000 in
set_option maxRecDepth 100000 in
theorem weightsOf_any (r q : Int) (a1 a2 : Option Addr) (n1 k1 n2 k2 : Nat) (w : World) :
    Calls Tryz.prog 39 #[.agg #[.int .i64 r, .int .i64 q, .slice a1 n1 k1, .slice a2 n2 k2]] w fun e w' => e = .returned (.agg #[.int .i64 r, .int .i64 q, .slice a1 n1 k1]) ∧ w.Since w.heap.size w' := by
  have sA : w.Since w.heap.size ((w.alloc (.cells #[.int .i64 r, .int .i64 q, .slice a1 n1 k1, .slice a2 n2 k2] 86)).alloc (.cells #[.int .i64 r, .int .i64 q, .slice a1 n1 k1] 90)) := ((World.Since.refl _ _).alloc (Nat.le_refl _) _).alloc (by simp) _
  have rA := Box3.new (w.alloc (.cells #[.int .i64 r, .int .i64 q, .slice a1 n1 k1, .slice a2 n2 k2] 86)) (.int .i64 r) (.int .i64 q) (.slice a1 n1 k1) 90
  go_enter Tryz.func39, Tryz.ntmps39
  go_wp2
  rw [show (w.alloc (.cells #[.int .i64 r, .int .i64 q, .slice a1 n1 k1, .slice a2 n2 k2] 86)).heap.size = w.heap.size + 1 by simp] at rA
  refine bodyPost_ret (results_box3T rfl Tryz.underlying90 rfl size_matrix _ _ _ _ _ _ rfl rA) rfl ?_
  exact ⟨rfl, sA⟩

end Go.Proofs.YtlpabmcebpppfaaGreatDoor
