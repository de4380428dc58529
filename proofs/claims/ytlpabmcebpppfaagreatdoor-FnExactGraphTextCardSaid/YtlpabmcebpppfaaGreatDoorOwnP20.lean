import Derived.Test.YtlpabmcebpppfaaGreatDoorOwnP19
import Derived.Test.YtlpabmcebpppfaaGreatDoorOwnP18
import Derived.Test.YtlpabmcebpppfaaGreatDoorOwnP17
import Derived.Test.YtlpabmcebpppfaaGreatDoorOwnP4
import Derived.Test.YtlpabmcebpppfaaGreatDoorOwnP5
import Derived.Deep.RegionHeld3
namespace Go.Proofs.YtlpabmcebpppfaaGreatDoor
open Go.RowKit

theorem rat_pos {f : Bool} {X Y : Nat → Nat} {n m : Nat} (ok : ratOkB f X n Y m = true) (e : f = true) (pX : 0 < n → X (n - 1) ≠ 0) : 0 < lv X n := by
  subst e
  unfold ratOkB at ok
  rcases Nat.eq_zero_or_pos (lv X n) with h | h
  · have := (lv_zero pX).2 h
    subst this
    simp at ok
  · exact h

end Go.Proofs.YtlpabmcebpppfaaGreatDoor

namespace Go.Proofs.YtlpabmcebpppfaaGreatDoor
open Go.RowKit

set_option maxHeartbeats 3200000 in
set_option maxRecDepth 100000 in
theorem l1Sub_opt (f f' : Bool) (a b a' b' : Option Addr) (ba oa n ca bb ob m cb ba' oa' n' ca' bb' ob' m' cb' : Nat) (X Y X' Y' : Nat → Nat) (w : World) (hn : n + n' + m + m' ≤ 16777216)
    (R : RIn w a b ba oa n ca bb ob m cb X Y) (R' : RIn w a' b' ba' oa' n' ca' bb' ob' m' cb' X' Y') (ok : ratOkB f X n Y m = true) (ok' : ratOkB f' X' n' Y' m' = true) :
    Calls Tryz.prog 102 #[.agg #[.bool f, .slice a n ca, .slice b m cb], .agg #[.bool f', .slice a' n' ca', .slice b' m' cb']] w fun e w' => ∃ v, e = .returned v ∧
      RatV w' v (sumNeg f (!f' && decide (0 < n')) (lv X n * lv Y' m') (lv X' n' * lv Y m) && sumTop f (!f' && decide (0 < n')) (lv X n * lv Y' m') (lv X' n' * lv Y m) != 0) (sumTop f (!f' && decide (0 < n')) (lv X n * lv Y' m') (lv X' n' * lv Y m) / Nat.gcd (sumTop f (!f' && decide (0 < n')) (lv X n * lv Y' m') (lv X' n' * lv Y m)) (lv Y m * lv Y' m')) ((lv Y m * lv Y' m') / Nat.gcd (sumTop f (!f' && decide (0 < n')) (lv X n * lv Y' m') (lv X' n' * lv Y m)) (lv Y m * lv Y' m')) w.heap.size 67108864 ∧ w.Since w.heap.size w' := by
  have hne2 : w.heap.size + 1 + 1 ≠ w.heap.size := by omega
  have sA : w.Since w.heap.size (((w.alloc (.cells #[.bool f, .slice a n ca, .slice b m cb] 53)).alloc (.cells #[.bool f', .slice a' n' ca', .slice b' m' cb'] 53)).alloc (.cells #[.bool false, .slice none 0 0, .slice none 0 0] 53)) := (((World.Since.refl _ _).alloc (Nat.le_refl _) _).alloc (by simp) _).alloc (by simp; omega) _
  have zA : (((w.alloc (.cells #[.bool f, .slice a n ca, .slice b m cb] 53)).alloc (.cells #[.bool f', .slice a' n' ca', .slice b' m' cb'] 53)).alloc (.cells #[.bool false, .slice none 0 0, .slice none 0 0] 53)).heap.size = w.heap.size + 1 + 1 + 1 := by simp
  have oA : Box3 (((w.alloc (.cells #[.bool f, .slice a n ca, .slice b m cb] 53)).alloc (.cells #[.bool f', .slice a' n' ca', .slice b' m' cb'] 53)).alloc (.cells #[.bool false, .slice none 0 0, .slice none 0 0] 53)) w.heap.size (.bool f) (.slice a n ca) (.slice b m cb) := ((Box3.new w _ _ _ _).keep ((World.Since.refl _ _).alloc (Nat.le_refl _) _)).keep ((World.Since.refl _ _).alloc (Nat.le_refl _) _)
  have pA : Box3 (((w.alloc (.cells #[.bool f, .slice a n ca, .slice b m cb] 53)).alloc (.cells #[.bool f', .slice a' n' ca', .slice b' m' cb'] 53)).alloc (.cells #[.bool false, .slice none 0 0, .slice none 0 0] 53)) (w.heap.size + 1) (.bool f') (.slice a' n' ca') (.slice b' m' cb') := by
    have := (Box3.new (w.alloc (.cells #[.bool f, .slice a n ca, .slice b m cb] 53)) (.bool f') (.slice a' n' ca') (.slice b' m' cb') 53).keep ((World.Since.refl _ _).alloc (Nat.le_refl _) (.cells #[.bool false, .slice none 0 0, .slice none 0 0] 53))
    simpa using this
  have rA : Box3 (((w.alloc (.cells #[.bool f, .slice a n ca, .slice b m cb] 53)).alloc (.cells #[.bool f', .slice a' n' ca', .slice b' m' cb'] 53)).alloc (.cells #[.bool false, .slice none 0 0, .slice none 0 0] 53)) (w.heap.size + 1 + 1) (.bool false) (.slice none 0 0) (.slice none 0 0) := by
    have := Box3.new ((w.alloc (.cells #[.bool f, .slice a n ca, .slice b m cb] 53)).alloc (.cells #[.bool f', .slice a' n' ca', .slice b' m' cb'] 53)) (.bool false) (.slice none 0 0) (.slice none 0 0) 53
    simpa using this
  have m1 := R.m0
  have m1' := R'.m0
  obtain ⟨NN, hNN⟩ : ∃ z, z = (sumNeg f (!f' && decide (0 < n')) (lv X n * lv Y' m') (lv X' n' * lv Y m) && sumTop f (!f' && decide (0 < n')) (lv X n * lv Y' m') (lv X' n' * lv Y m) != 0) := ⟨_, rfl⟩
  have HNN := hide hNN
  clear hNN
  have J1 := l1Neg_opt f' a' b' ba' oa' n' ca' bb' ob' m' cb' X' Y' (((w.alloc (.cells #[.bool f, .slice a n ca, .slice b m cb] 53)).alloc (.cells #[.bool f', .slice a' n' ca', .slice b' m' cb'] 53)).alloc (.cells #[.bool false, .slice none 0 0, .slice none 0 0] 53)).drew (by omega) (by omega) R'.nc R'.mc R'.ac R'.bc (R'.keep (since_drew sA)).LX (R'.keep (since_drew sA)).LY
  go_enter Tryz.func102, Tryz.ntmps102
  have k := And.intro oA.cells pA.cells
  go_wp2_with fail
  generalize (((w.alloc (.cells #[.bool f, .slice a n ca, .slice b m cb] 53)).alloc (.cells #[.bool f', .slice a' n' ca', .slice b' m' cb'] 53)).alloc (.cells #[.bool false, .slice none 0 0, .slice none 0 0] 53)) = w1 at *
  go_region_held3 (fun w' => w'.cell? ⟨w.heap.size, 0, none⟩ = some (.bool f) ∧ w'.cell? ⟨w.heap.size, 1, none⟩ = some (.slice a n ca) ∧ w'.cell? ⟨w.heap.size, 2, none⟩ = some (.slice b m cb) ∧ w'.cell? ⟨w.heap.size + 1, 0, none⟩ = some (.bool f') ∧ w'.cell? ⟨w.heap.size + 1, 1, none⟩ = some (.slice a' n' ca') ∧ w'.cell? ⟨w.heap.size + 1, 2, none⟩ = some (.slice b' m' cb')) (go_keep)
    (first
      | (go_at_call 130
         with_reducible refine J1.mono ?_
         rintro e w2 ⟨g, h, c1, c2, rfl, v1, v2, L1, L2, b1, b2, b3, s2⟩
         have S2 : w.Since w.heap.size w2 := (since_drew sA).trans (sinceMono s2 sA.size)
         have o2 := oA.drew.keep s2
         have p2 := pA.drew.keep s2
         have r2 := rA.drew.keep s2
         have kk := And.intro o2.cells p2.cells
         have R2 : RIn w2 (some ⟨g, 0, none⟩) (some ⟨h, 0, none⟩) g 0 n' c1 h 0 m' c2 X' Y' := ⟨v1, v2, fun h => (by cases h), fun h => (by cases h), L1, L2, R'.lX, R'.lY, R'.pX, R'.pY, R'.m0⟩
         have J2 := l1Add_opt f (!f' && decide (0 < n')) a b (some ⟨g, 0, none⟩) (some ⟨h, 0, none⟩) ba oa n ca bb ob m cb g 0 n' c1 h 0 m' c2 X Y X' Y' w2 hn (R.keep S2) R2 ok (ratOk_neg ok')
         rw [← HNN.out] at J2)
      | (go_at_call 129
         with_reducible refine J2.mono ?_
         rintro e w6 ⟨v, rfl, ⟨x1, x2, g6, h6, rfl, N6, D6, y1, y2, y3⟩, s6⟩
         have N6' := N6
         have D6' := D6
         obtain ⟨a1, q1, d1, Y1, rfl, -⟩ := N6
         obtain ⟨a2, q2, d2, Y2, rfl, -⟩ := D6
         have kk := And.intro (o2.keep s6).cells (p2.keep s6).cells
         have rB := r2.keep s6
         have u0 := rB.c0
         have u1 := rB.c1
         have u2 := rB.c2
         have uf0 := rB.f 0
         have uf1 := rB.f 1
         have uf2 := rB.f 2))
  all_goals go_wp2
  all_goals
    have S6 : w.Since w.heap.size w6 := S2.trans (sinceMono s6 S2.size)
    have zr := r2.lt
    have rC := ((rB.set0 (.bool NN)).set1 (.slice a1 q1 d1)).set2 (.slice a2 q2 d2)
    refine bodyPost_ret (results_box3 rfl _ _ _ _ _ _ rfl rC) rfl ?_
    have M : Marked w6 _ (w.heap.size + 1 + 1) := (((Marked.refl w6 _).setCell 0 (.bool NN)).setCell 1 (.slice a1 q1 d1)).setCell 2 (.slice a2 q2 d2)
    exact ⟨_, rfl, ⟨_, _, g6, h6, by rw [HNN.out], N6'.marked M (by omega), D6'.marked M (by omega), by omega, by omega, y3⟩, S6.trans (M.since (by omega))⟩

set_option maxHeartbeats 3200000 in
set_option maxRecDepth 100000 in
theorem l1Cmp_opt (f f' : Bool) (a b a' b' : Option Addr) (ba oa n ca bb ob m cb ba' oa' n' ca' bb' ob' m' cb' : Nat) (X Y X' Y' : Nat → Nat) (w : World) (hn : n + n' + m + m' ≤ 16777216)
    (R : RIn w a b ba oa n ca bb ob m cb X Y) (R' : RIn w a' b' ba' oa' n' ca' bb' ob' m' cb' X' Y') (ok : ratOkB f X n Y m = true) (ok' : ratOkB f' X' n' Y' m' = true) :
    Calls Tryz.prog 79 #[.agg #[.bool f, .slice a n ca, .slice b m cb], .agg #[.bool f', .slice a' n' ca', .slice b' m' cb']] w fun e w' => e = .returned (.int .i64 (cmpR f f' (lv X n * lv Y' m') (lv X' n' * lv Y m))) ∧ w.Since w.heap.size w' := by
  have sA : w.Since w.heap.size ((w.alloc (.cells #[.bool f, .slice a n ca, .slice b m cb] 53)).alloc (.cells #[.bool f', .slice a' n' ca', .slice b' m' cb'] 53)) := ((World.Since.refl _ _).alloc (Nat.le_refl _) _).alloc (by simp) _
  have zA : ((w.alloc (.cells #[.bool f, .slice a n ca, .slice b m cb] 53)).alloc (.cells #[.bool f', .slice a' n' ca', .slice b' m' cb'] 53)).heap.size = w.heap.size + 1 + 1 := by simp
  have oA : Box3 ((w.alloc (.cells #[.bool f, .slice a n ca, .slice b m cb] 53)).alloc (.cells #[.bool f', .slice a' n' ca', .slice b' m' cb'] 53)) w.heap.size (.bool f) (.slice a n ca) (.slice b m cb) := (Box3.new w _ _ _ _).keep ((World.Since.refl _ _).alloc (Nat.le_refl _) _)
  have pA : Box3 ((w.alloc (.cells #[.bool f, .slice a n ca, .slice b m cb] 53)).alloc (.cells #[.bool f', .slice a' n' ca', .slice b' m' cb'] 53)) (w.heap.size + 1) (.bool f') (.slice a' n' ca') (.slice b' m' cb') := by
    have := Box3.new (w.alloc (.cells #[.bool f, .slice a n ca, .slice b m cb] 53)) (.bool f') (.slice a' n' ca') (.slice b' m' cb') 53
    simpa using this
  have hX0 : f = true → 0 < lv X n * lv Y' m' := fun e => Nat.mul_pos (rat_pos ok e R.pX) R'.den
  have hX1 : f' = true → 0 < lv X' n' * lv Y m := fun e => Nat.mul_pos (rat_pos ok' e R'.pX) R.den
  have hX2 : 0 < n' ↔ 0 < lv X' n' * lv Y m := by
    have h1 := lv_zero R'.pX
    constructor
    · intro h; exact Nat.mul_pos (by omega) R.den
    · intro h
      rcases Nat.eq_zero_or_pos n' with e | e
      · rw [h1.1 e, Nat.zero_mul] at h; omega
      · exact e
  have hDD := Nat.mul_pos R.den R'.den
  obtain ⟨z, hz⟩ : ∃ z, z = cmpR f f' (lv X n * lv Y' m') (lv X' n' * lv Y m) := ⟨_, rfl⟩
  have HZ := hide hz
  clear hz
  have k := And.intro oA.cells pA.cells
  have J1 := l1Sub_opt f f' a b a' b' ba oa n ca bb ob m cb ba' oa' n' ca' bb' ob' m' cb' X Y X' Y' ((w.alloc (.cells #[.bool f, .slice a n ca, .slice b m cb] 53)).alloc (.cells #[.bool f', .slice a' n' ca', .slice b' m' cb'] 53)) hn (R.keep sA) (R'.keep sA) ok ok'
  go_enter Tryz.func79, Tryz.ntmps79
  go_wp2_with fail
  generalize ((w.alloc (.cells #[.bool f, .slice a n ca, .slice b m cb] 53)).alloc (.cells #[.bool f', .slice a' n' ca', .slice b' m' cb'] 53)) = w1 at *
  refine J1.mono ?_
  rintro e w2 ⟨v, rfl, ⟨x1, x2, g6, h6, rfl, N6, D6, y1, y2, y3⟩, s2⟩
  have S2 : w.Since w.heap.size w2 := sA.trans (sinceMono s2 sA.size)
  obtain ⟨a1, q1, d1, Y1, rfl, -, -, -, -, -, -, tp, ev⟩ := N6
  obtain ⟨a2, q2, d2, Y2, rfl, -⟩ := D6
  have hq : q1 = 0 ↔ sumTop f (!f' && decide (0 < n')) (lv X n * lv Y' m') (lv X' n' * lv Y m) = 0 := (lv_zero tp).trans (by rw [ev]; exact div_gcd_zero hDD)
  have HC := hide (sign_cmp f f' _ _ n' q1 hX0 hX1 hX2 hq)
  have J2 := l1Sign_any (sumNeg f (!f' && decide (0 < n')) (lv X n * lv Y' m') (lv X' n' * lv Y m) && sumTop f (!f' && decide (0 < n')) (lv X n * lv Y' m') (lv X' n' * lv Y m) != 0) a1 a2 q1 d1 q2 d2 w2
  rw [HC.out, ← HZ.out] at J2
  clear J1 HC hq hX0 hX1 hX2 tp ev k
  go_wp2_with fail
  refine J2.mono ?_
  rintro e w3 ⟨rfl, s3⟩
  go_wp2
  go_ret
  exact ⟨ret_int HZ.out, S2.trans (sinceMono s3 S2.size)⟩

end Go.Proofs.YtlpabmcebpppfaaGreatDoor

namespace Go.Proofs.YtlpabmcebpppfaaGreatDoor
open Go.RowKit

/-- The sign of a rational, as the programs hold it. -/
def qn (q : Rat) : Bool := decide (q.num < 0)

theorem q_norm (s : Int) (d : Nat) (hd : d ≠ 0) : qn (Rat.normalize s d hd) = decide (s < 0) ∧ (Rat.normalize s d hd).num.natAbs = s.natAbs / Nat.gcd s.natAbs d ∧ (Rat.normalize s d hd).den = d / Nat.gcd s.natAbs d := by
  have hg : 0 < Nat.gcd s.natAbs d := Nat.gcd_pos_of_pos_right _ (by omega)
  rw [Rat.normalize_eq]
  obtain ⟨k, hk⟩ := Nat.gcd_dvd_left s.natAbs d
  have hs : ∃ t : Int, s = (Nat.gcd s.natAbs d : Int) * t := by
    have : ((Nat.gcd s.natAbs d : Nat) : Int) ∣ s := Int.ofNat_dvd_left.2 (Nat.gcd_dvd_left _ _)
    exact this
  obtain ⟨t, ht⟩ := hs
  have hgi : (0 : Int) < (Nat.gcd s.natAbs d : Int) := by omega
  have hq : s / (Nat.gcd s.natAbs d : Int) = t := by
    have h1 := Int.mul_ediv_cancel_left t (show (Nat.gcd s.natAbs d : Int) ≠ 0 by omega)
    rw [← ht] at h1
    exact h1
  refine ⟨?_, ?_, rfl⟩
  · unfold qn
    show decide (s / (Nat.gcd s.natAbs d : Int) < 0) = _
    rw [hq, decide_eq_decide]
    constructor
    · intro h
      rw [ht]
      exact Int.mul_neg_of_pos_of_neg hgi h
    · intro h
      rcases Int.lt_or_le t 0 with e | e
      · exact e
      · have := Int.mul_nonneg (Int.le_of_lt hgi) e
        omega
  · show (s / (Nat.gcd s.natAbs d : Int)).natAbs = _
    rw [hq]
    have h2 : s.natAbs = Nat.gcd s.natAbs d * t.natAbs := by
      have := congrArg Int.natAbs ht
      rw [Int.natAbs_mul, Int.natAbs_natCast] at this
      exact this
    rw [Nat.div_eq_of_eq_mul_right hg h2]

/-- A numerator out of its sign and size. -/
theorem num_of (q : Rat) : q.num = if qn q then -(q.num.natAbs : Int) else (q.num.natAbs : Int) := by
  unfold qn
  by_cases h : q.num < 0
  · simp [h]; omega
  · simp [h]; omega

theorem qn_pos {q : Rat} (h : qn q = true) : 0 < q.num.natAbs := by
  unfold qn at h
  have := of_decide_eq_true h
  omega

/-- The order of two rationals. -/
def qcmp (p q : Rat) : Int := if p < q then -1 else if q < p then 1 else 0

theorem q_cmp (p q : Rat) : cmpR (qn p) (qn q) (p.num.natAbs * q.den) (q.num.natAbs * p.den) = qcmp p q := by
  have e1 : p.num * (q.den : Int) = if qn p then -((p.num.natAbs * q.den : Nat) : Int) else ((p.num.natAbs * q.den : Nat) : Int) := by
    conv => lhs; rw [num_of p]
    cases qn p <;> simp [Int.neg_mul]
  have e2 : q.num * (p.den : Int) = if qn q then -((q.num.natAbs * p.den : Nat) : Int) else ((q.num.natAbs * p.den : Nat) : Int) := by
    conv => lhs; rw [num_of q]
    cases qn q <;> simp [Int.neg_mul]
  have h1 : qn p = true → 0 < p.num.natAbs * q.den := fun e => Nat.mul_pos (qn_pos e) (Nat.pos_of_ne_zero q.den_nz)
  have h2 : qn q = true → 0 < q.num.natAbs * p.den := fun e => Nat.mul_pos (qn_pos e) (Nat.pos_of_ne_zero p.den_nz)
  unfold qcmp cmpR
  simp only [Rat.lt_iff, e1, e2]
  generalize p.num.natAbs * q.den = x at *
  generalize q.num.natAbs * p.den = y at *
  clear e1 e2
  unfold cmpN
  cases hp : qn p <;> cases hq : qn q <;> simp [hp, hq] at h1 h2 ⊢ <;> (repeat' split) <;> omega

end Go.Proofs.YtlpabmcebpppfaaGreatDoor

namespace Go.Proofs.YtlpabmcebpppfaaGreatDoor
open Go.RowKit

/-- A value holds the rational q, to be read. -/
def RatR (w : World) (v : Value) (q : Rat) : Prop :=
  ∃ a n ca b m cb ba oa bb ob X Y, v = .agg #[.bool (qn q), .slice a n ca, .slice b m cb] ∧ RIn w a b ba oa n ca bb ob m cb X Y ∧ lv X n = q.num.natAbs ∧ lv Y m = q.den

/-- The size of a rational: its parts are shorter than k limbs. -/
def Qb (q : Rat) (k : Nat) : Prop := q.num.natAbs < 4294967296 ^ k ∧ q.den < 4294967296 ^ k

theorem lv_lim {X : Nat → Nat} {n k : Nat} (h0 : 0 < n → X (n - 1) ≠ 0) (h : lv X n < 4294967296 ^ k) : n ≤ k := by
  rcases Nat.lt_or_ge k n with e | e
  · exfalso
    have h1 : 0 < n := by omega
    have h2 := lv_ge X n h1 (h0 h1)
    rw [Nat.pow_mul, show (2 : Nat) ^ 32 = 4294967296 by decide] at h2
    have h3 : (4294967296 : Nat) ^ k ≤ 4294967296 ^ (n - 1) := Nat.pow_le_pow_right (by decide) (by omega)
    omega
  · exact e

theorem RIn.ok {w : World} {a b : Option Addr} {ba oa n ca bb ob m cb : Nat} {X Y : Nat → Nat} {q : Rat} (R : RIn w a b ba oa n ca bb ob m cb X Y) (h1 : lv X n = q.num.natAbs) (h2 : lv Y m = q.den) : ratOkB (qn q) X n Y m = true := by
  have p1 := plainB_iff.2 R.pX
  have p2 := plainB_iff.2 R.pY
  have m0 := R.m0
  have g : Nat.gcd (lv X n) (lv Y m) = 1 := by rw [h1, h2]; exact q.reduced
  have hz : (qn q && n == 0) = false := by
    cases hq : qn q
    · rfl
    · have := qn_pos hq
      rw [← h1] at this
      have h3 := lv_zero R.pX
      have : n ≠ 0 := by intro e; have := h3.1 e; omega
      simp [this]
  unfold ratOkB
  rw [p1, p2, g, hz]
  simp
  omega

end Go.Proofs.YtlpabmcebpppfaaGreatDoor

namespace Go.Proofs.YtlpabmcebpppfaaGreatDoor

def nums (q : Nat → Rat) : Nat → Nat
  | 0 => 1
  | n + 1 => nums q n * ((q n).num.natAbs + 1)

end Go.Proofs.YtlpabmcebpppfaaGreatDoor

namespace Go.Proofs.YtlpabmcebpppfaaGreatDoor
open Go.RowKit

/-- The rational that a Rat holds. -/
def RatD.q (r : RatD) : Rat := mkRat (if r.neg then -(lv r.X r.n : Int) else lv r.X r.n) (lv r.Y r.m)

/-- A fraction, normalised. -/
theorem norm_q (f : Bool) (N D : Nat) (hD : D ≠ 0) : qn (mkRat (if f then -(N : Int) else N) D) = (f && N != 0) ∧ (mkRat (if f then -(N : Int) else N) D).num.natAbs = N / Nat.gcd N D ∧ (mkRat (if f then -(N : Int) else N) D).den = D / Nat.gcd N D := by
  rw [← Rat.normalize_eq_mkRat hD]
  obtain ⟨e1, e2, e3⟩ := q_norm (if f then -(N : Int) else N) D hD
  have ea : (if f then -(N : Int) else (N : Int)).natAbs = N := by split <;> simp
  rw [ea] at e2 e3
  refine ⟨?_, e2, e3⟩
  rw [e1]
  cases f
  · simp
  · show decide (-(N : Int) < 0) = (true && N != 0)
    rw [Bool.eq_iff_iff]
    simp only [decide_eq_true_eq, Bool.true_and, bne_iff_ne]
    omega

theorem RatD.q_ok {r : RatD} (h : r.ok = true) : qn r.q = r.neg ∧ r.q.num.natAbs = lv r.X r.n ∧ r.q.den = lv r.Y r.m ∧ (0 < r.n → r.X (r.n - 1) ≠ 0) ∧ (0 < r.m → r.Y (r.m - 1) ≠ 0) ∧ 0 < r.m := by
  unfold RatD.ok ratOkB at h
  simp only [Bool.and_eq_true, bne_iff_ne, beq_iff_eq, Bool.not_eq_true', Bool.and_eq_false_iff] at h
  obtain ⟨⟨⟨⟨h1, h2⟩, h3⟩, h4⟩, h5⟩ := h
  have pX := plainB_iff.1 h1
  have pY := plainB_iff.1 h2
  have hm : 0 < r.m := by omega
  have hd : lv r.Y r.m ≠ 0 := fun e => by have := (lv_zero pY).2 e; omega
  obtain ⟨e1, e2, e3⟩ := norm_q r.neg (lv r.X r.n) (lv r.Y r.m) hd
  rw [h5, Nat.div_one] at e2 e3
  refine ⟨?_, e2, e3, pX, pY, hm⟩
  unfold RatD.q
  rw [e1]
  cases hn : r.neg
  · rfl
  · have hx : r.n ≠ 0 := by
      rcases h4 with h | h
      · rw [hn] at h; cases h
      · simpa using h
    have : lv r.X r.n ≠ 0 := fun e => hx ((lv_zero pX).2 e)
    simp [this]

/-- A value holds the rational q; its limbs lie in blocks of which p holds. -/
def RatRP (w : World) (p : Nat → Prop) (v : Value) (q : Rat) : Prop :=
  ∃ a n ca b m cb ba oa bb ob X Y, v = .agg #[.bool (qn q), .slice a n ca, .slice b m cb] ∧ RIn w a b ba oa n ca bb ob m cb X Y ∧ lv X n = q.num.natAbs ∧ lv Y m = q.den ∧ (0 < n → p ba) ∧ (0 < m → p bb)

section
variable {w w' : World} {p p' : Nat → Prop} {v : Value} {q : Rat} {a : Option Addr} {b off n c : Nat} {Q : Nat → Rat}
theorem RatRP.keep (h : RatRP w p v q) (s : w.Since w.heap.size w') : RatRP w' p v q := by
  obtain ⟨a, n, ca, b, m, cb, ba, oa, bb, ob, X, Y, h1, h2, h3⟩ := h
  exact ⟨a, n, ca, b, m, cb, ba, oa, bb, ob, X, Y, h1, h2.keep s, h3⟩
theorem RatRP.read (h : RatRP w p v q) : RatR w v q := by
  obtain ⟨a, n, ca, b, m, cb, ba, oa, bb, ob, X, Y, h1, h2, h3, h4, -⟩ := h
  exact ⟨a, n, ca, b, m, cb, ba, oa, bb, ob, X, Y, h1, h2, h3, h4⟩
/-- A rational that lies in memory. -/
structure RatC (w : World) (p : Nat → Prop) (b off : Nat) (q : Rat) (x y : Value) : Prop where
  c0 : w.cell? ⟨b, off, none⟩ = some (.bool (qn q))
  c1 : w.cell? ⟨b, off + 1, none⟩ = some x
  c2 : w.cell? ⟨b, off + 2, none⟩ = some y
  R : RatRP w p (.agg #[.bool (qn q), x, y]) q

theorem RatC.lt {x y : Value} (h : RatC w p b off q x y) : b < w.heap.size := World.block_lt_of_cell? _ _ h.c0
theorem RatC.keep {x y : Value} (h : RatC w p b off q x y) (s : w.Since w.heap.size w') : RatC w' p b off q x y :=
  ⟨(s.cell (a := ⟨b, off, none⟩) h.lt).trans h.c0, (s.cell (a := ⟨b, off + 1, none⟩) h.lt).trans h.c1, (s.cell (a := ⟨b, off + 2, none⟩) h.lt).trans h.c2, h.R.keep s⟩

/-- A slice of rationals. -/
def RatQs (w : World) (p : Nat → Prop) (a : Option Addr) (b off n : Nat) (Q : Nat → Rat) : Prop :=
  ∀ i, i < n → a = some ⟨b, off, none⟩ ∧ ∃ x y, RatC w p b (off + i * 3) (Q i) x y

end

/-- A list of valid Rats is a list of rationals. -/
theorem Rats.qs {w : World} {lo b off n : Nat} {a : Option Addr} {R : Nat → RatD} (h : Rats w lo a b off n R) (ok : RatsOk R n) : RatQs w (fun g => lo ≤ g) a b off n (fun i => (R i).q) := fun i hi => by
  obtain ⟨h1, a1, a2, k1, k2, m⟩ := h i hi
  obtain ⟨e1, e2, e3, pX, pY, hm⟩ := RatD.q_ok (ok i hi)
  obtain ⟨ba, oa, l1, LX⟩ := m.L.LX
  obtain ⟨bb, ob, l2, LY⟩ := m.L.LY
  exact ⟨h1, .slice a1 (R i).n k1, .slice a2 (R i).m k2, by rw [e1]; exact m.c0, m.c1, m.c2, a1, (R i).n, k1, a2, (R i).m, k2, ba, oa, bb, ob, (R i).X, (R i).Y, rfl, ⟨m.L.nc, m.L.mc, m.L.ac, m.L.bc, LX, LY, m.L.lX, m.L.lY, pX, pY, hm⟩, e2.symm, e3.symm, l1, l2⟩

theorem l1Cmp_q {v v' : Value} {p q : Rat} {k l : Nat} {w : World} (hp : Qb p k) (hq : Qb q l) (hk : 2 * k + 2 * l ≤ 16777216) (R : RatR w v p) (R' : RatR w v' q) :
    Calls Tryz.prog 79 #[v, v'] w fun e w' => e = .returned (.int .i64 (qcmp p q)) ∧ w.Since w.heap.size w' := by
  obtain ⟨a, n, ca, b, m, cb, ba, oa, bb, ob, X, Y, rfl, R, x1, x2⟩ := R
  obtain ⟨a', n', ca', b', m', cb', ba', oa', bb', ob', X', Y', rfl, R', y1, y2⟩ := R'
  have n1 := lv_lim R.pX (by rw [x1]; exact hp.1)
  have n2 := lv_lim R.pY (by rw [x2]; exact hp.2)
  have n3 := lv_lim R'.pX (by rw [y1]; exact hq.1)
  have n4 := lv_lim R'.pY (by rw [y2]; exact hq.2)
  have J := l1Cmp_opt (qn p) (qn q) a b a' b' ba oa n ca bb ob m cb ba' oa' n' ca' bb' ob' m' cb' X Y X' Y' w (by omega) R R' (R.ok x1 x2) (R'.ok y1 y2)
  rw [x1, x2, y1, y2, q_cmp] at J
  exact J

end Go.Proofs.YtlpabmcebpppfaaGreatDoor

namespace Go.Proofs.YtlpabmcebpppfaaGreatDoor
open Go.RowKit

def usesK (op : Int) : Bool := op == 1 || op == 5 || op == 6
def usesS (op : Int) : Bool := op == 6
def usesV (op : Int) : Bool := op == 1 || op == 3 || op == 6 || op == 7
def usesB (op : Int) : Bool := op == 4

/-- A size that is used lies from 1 to 1000; one that is not is 0. -/
def SzOk (z : Int) (u : Bool) : Prop := if u then 1 ≤ z ∧ z ≤ 1000 else z = 0

/-- What a kind's form asks of a node. -/
def FitsP (d : NodeD) (ub uk us : Bool) (nums : Int) : Prop :=
  (ub = false → d.b = 0) ∧ SzOk d.k uk ∧ SzOk d.s us ∧ (nums ≠ -1 → (d.nv : Int) = nums) ∧ RatsOk d.V d.nv

/-- The form of a node. -/
structure NodeD.Form (d : NodeD) : Prop where
  o1 : 1 ≤ d.op
  o7 : d.op ≤ 7
  k : SzOk d.k (usesK d.op)
  s : SzOk d.s (usesS d.op)
  b : usesB d.op = false → d.b = 0
  v : usesV d.op = false → d.nv = 0
  v3 : d.op = 3 → d.nv = 1
  v7 : d.op = 7 → d.nv = 4
  ok : RatsOk d.V d.nv

theorem form_iff {d : NodeD} {z : Int} {ub uk us : Bool} {nums : Int} (h : d.op = z) (h1 : 1 ≤ z) (h7 : z ≤ 7) (eb : usesB z = ub) (ek : usesK z = uk) (es : usesS z = us)
    (en : (nums = -1 ∧ usesV z = true ∧ z ≠ 3 ∧ z ≠ 7) ∨ (nums = 0 ∧ usesV z = false) ∨ (nums = 1 ∧ z = 3) ∨ (nums = 4 ∧ z = 7)) : d.Form ↔ FitsP d ub uk us nums := by
  subst h eb ek es
  constructor
  · intro f
    refine ⟨f.b, f.k, f.s, fun hn => ?_, f.ok⟩
    rcases en with ⟨rfl, -⟩ | ⟨rfl, e⟩ | ⟨rfl, e⟩ | ⟨rfl, e⟩
    · exact absurd rfl hn
    · have := f.v e; omega
    · have := f.v3 e; omega
    · have := f.v7 e; omega
  · rintro ⟨a1, a2, a3, a4, a5⟩
    refine ⟨h1, h7, a2, a3, a1, fun e => ?_, fun e => ?_, fun e => ?_, a5⟩
    · rcases en with ⟨rfl, e2, -⟩ | ⟨rfl, -⟩ | ⟨rfl, e2⟩ | ⟨rfl, e2⟩
      · rw [e] at e2; cases e2
      · have := a4 (by decide); omega
      · rw [e2] at e; cases e
      · rw [e2] at e; cases e
    · rcases en with ⟨-, -, e2, -⟩ | ⟨-, e2⟩ | ⟨rfl, -⟩ | ⟨-, e2⟩
      · exact absurd e e2
      · rw [e] at e2; cases e2
      · have := a4 (by decide); omega
      · omega
    · rcases en with ⟨-, -, -, e2⟩ | ⟨-, e2⟩ | ⟨-, e2⟩ | ⟨rfl, -⟩
      · exact absurd e e2
      · rw [e] at e2; cases e2
      · omega
      · have := a4 (by decide); omega

/-- The sources of node i are known. -/
def SrcOk (d : NodeD) (i : Nat) : Prop := 0 ≤ d.a ∧ d.a < i ∧ (usesB d.op = true → 0 ≤ d.b ∧ d.b < i)

/-- The code of a node's shape over its source's dimension. -/
def shapeCode (D : Nat → Int) (d : NodeD) : Int :=
  if d.op = 1 ∧ (d.nv : Int) ≠ d.k * (D d.a.toNat + 1) then 14
  else if d.op = 4 ∧ D d.b.toNat ≠ D d.a.toNat then 14
  else if d.op = 5 ∧ D d.a.toNat % d.k ≠ 0 then 14
  else if d.op = 6 ∧ (d.k > D d.a.toNat ∨ (d.nv : Int) ≠ d.k + 1) then 14
  else if d.op = 7 ∧ (d.V 2).n = 0 then 15
  else 0

/-- Whether a node has its form is decided. -/
def formD (d : NodeD) : Decidable d.Form := @decidable_of_iff _ (1 ≤ d.op ∧ d.op ≤ 7 ∧ (if usesK d.op then 1 ≤ d.k ∧ d.k ≤ 1000 else d.k = 0) ∧ (if usesS d.op then 1 ≤ d.s ∧ d.s ≤ 1000 else d.s = 0) ∧ (usesB d.op = false → d.b = 0) ∧ (usesV d.op = false → d.nv = 0) ∧ (d.op = 3 → d.nv = 1) ∧ (d.op = 7 → d.nv = 4) ∧ ∀ i, i < d.nv → (d.V i).ok = true) ⟨fun ⟨a, b, c, e, f, g, h, i, j⟩ => ⟨a, b, c, e, f, g, h, i, j⟩, fun f => ⟨f.o1, f.o7, f.k, f.s, f.b, f.v, f.v3, f.v7, f.ok⟩⟩ inferInstance
def srcD (d : NodeD) (i : Nat) : Decidable (SrcOk d i) := inferInstanceAs (Decidable (0 ≤ d.a ∧ d.a < i ∧ (usesB d.op = true → 0 ≤ d.b ∧ d.b < i)))
/-- The code of node i behind the dimensions D. -/
def nodeCode (D : Nat → Int) (i : Nat) (d : NodeD) : Int :=
  haveI := formD d; haveI := srcD d i; if ¬ d.Form then 12 else if ¬ SrcOk d i then 13 else shapeCode D d

/-- The dimension of a node. -/
def nodeDim (D : Nat → Int) (d : NodeD) : Int :=
  if d.op = 1 then d.k else if d.op = 5 then D d.a.toNat / d.k else if d.op = 6 then (D d.a.toNat - d.k) / d.s + 1 else D d.a.toNat

/-- The dimensions of the first nodes: of node 0 .. k. -/
def dimA (g : GraphD) : Nat → Nat → Int
  | 0 => fun _ => g.inn
  | i + 1 => fun j => if j ≤ i then dimA g i j else nodeDim (dimA g i) (g.N i)

theorem dimA_old (g : GraphD) {i j : Nat} (h : j ≤ i) : dimA g (i + 1) j = dimA g i j := by
  show (if j ≤ i then _ else _) = _
  rw [if_pos h]
theorem dimA_new (g : GraphD) (i : Nat) : dimA g (i + 1) (i + 1) = nodeDim (dimA g i) (g.N i) := by
  show (if i + 1 ≤ i then _ else _) = _
  rw [if_neg (by omega)]

/-- Node k + 1's code. -/
def nc (g : GraphD) (k : Nat) : Int := nodeCode (dimA g k) (k + 1) (g.N k)

/-- Dimensions lie from 1 to 1000. -/
def Dok (D : Nat → Int) (n : Nat) : Prop := ∀ j, j < n → 1 ≤ D j ∧ D j ≤ 1000

theorem code_zero {D : Nat → Int} {i : Nat} {d : NodeD} (h : nodeCode D i d = 0) : d.Form ∧ SrcOk d i ∧ shapeCode D d = 0 := by
  unfold nodeCode at h
  by_cases h1 : d.Form
  · by_cases h2 : SrcOk d i
    · simp only [h1, h2, not_true_eq_false, if_false] at h
      exact ⟨h1, h2, h⟩
    · simp [h1, h2] at h
  · simp [h1] at h
theorem code_form {D : Nat → Int} {i : Nat} {d : NodeD} (h : ¬ d.Form) : nodeCode D i d = 12 := by unfold nodeCode; simp [h]
theorem code_src {D : Nat → Int} {i : Nat} {d : NodeD} (h : d.Form) (h2 : ¬ SrcOk d i) : nodeCode D i d = 13 := by unfold nodeCode; simp [h, h2]
theorem code_shape {D : Nat → Int} {i : Nat} {d : NodeD} (h : d.Form) (h2 : SrcOk d i) : nodeCode D i d = shapeCode D d := by unfold nodeCode; simp [h, h2]

theorem dim_ok {D : Nat → Int} {i : Nat} {d : NodeD} (hD : Dok D i) (h : nodeCode D i d = 0) : 1 ≤ nodeDim D d ∧ nodeDim D d ≤ 1000 := by
  obtain ⟨f, ⟨s1, s2, -⟩, c⟩ := code_zero h
  have hd := hD d.a.toNat (by omega)
  generalize hx : D d.a.toNat = x at hd
  unfold shapeCode at c
  unfold nodeDim
  rw [hx] at c ⊢
  by_cases o1 : d.op = 1
  · have := f.k
    rw [o1] at this
    rw [if_pos o1]
    exact this
  by_cases o5 : d.op = 5
  · have hk := f.k
    rw [o5] at hk
    have hk : 1 ≤ d.k ∧ d.k ≤ 1000 := hk
    rw [if_neg o1, if_pos o5]
    by_cases hm : x % d.k = 0
    · have e := Int.mul_ediv_add_emod x d.k
      rw [hm] at e
      generalize hy : x / d.k = y at *
      constructor
      · by_cases hy0 : y ≤ 0
        · have : d.k * y ≤ 0 := Int.mul_nonpos_of_nonneg_of_nonpos (by omega) hy0
          omega
        · omega
      · have : x / d.k ≤ x := Int.ediv_le_self _ (by omega)
        omega
    · exfalso
      simp [o5, hm] at c
  by_cases o6 : d.op = 6
  · have hk := f.k
    have hs := f.s
    rw [o6] at hk hs
    have hk : 1 ≤ d.k ∧ d.k ≤ 1000 := hk
    have hs : 1 ≤ d.s ∧ d.s ≤ 1000 := hs
    rw [if_neg o1, if_neg o5, if_pos o6]
    by_cases hm : d.k > x
    · exfalso
      simp [o6, hm] at c
    · have h0 : 0 ≤ (x - d.k) / d.s := Int.ediv_nonneg (by omega) (by omega)
      have h1 : (x - d.k) / d.s ≤ x - d.k := Int.ediv_le_self _ (by omega)
      omega
  rw [if_neg o1, if_neg o5, if_neg o6]
  exact hd

/-- All that a graph says beside its nodes and its result, but for the order in the box. -/
structure HeadP (g : GraphD) : Prop where
  i1 : 1 ≤ g.inn
  i2 : g.inn ≤ 1000
  r0 : 0 ≤ g.rounds
  r1 : g.rounds ≤ 1000
  l : (g.nl : Int) = g.inn
  h : (g.nh : Int) = g.inn
  n : g.nn ≤ 1000
  okL : RatsOk g.Lo g.nl
  okH : RatsOk g.Hi g.nh

/-- Side j of the box is the wrong way round. -/
def boxBad (g : GraphD) (j : Nat) : Prop := 0 < qcmp (g.Lo j).q (g.Hi j).q

/-- What CheckGraph answers. -/
def Outc (g : GraphD) (n : Nat) (X : Nat → Int) (c a : Int) : Prop :=
  (¬ HeadP g ∧ n = 0 ∧ c = 10 ∧ a = 0) ∨
  (HeadP g ∧ ∃ j : Nat, (j : Int) < g.inn ∧ (∀ i, i < j → ¬ boxBad g i) ∧ boxBad g j ∧ n = 0 ∧ c = 11 ∧ a = j) ∨
  (HeadP g ∧ (∀ j : Nat, (j : Int) < g.inn → ¬ boxBad g j) ∧ ∃ i, i < g.nn ∧ (∀ k, k < i → nc g k = 0) ∧ nc g i ≠ 0 ∧ n = 0 ∧ c = nc g i ∧ a = ((i + 1 : Nat) : Int)) ∨
  (HeadP g ∧ (∀ j : Nat, (j : Int) < g.inn → ¬ boxBad g j) ∧ (∀ k, k < g.nn → nc g k = 0) ∧ ¬ (0 ≤ g.out ∧ g.out ≤ g.nn) ∧ n = 0 ∧ c = 16 ∧ a = 0) ∨
  (HeadP g ∧ (∀ j : Nat, (j : Int) < g.inn → ¬ boxBad g j) ∧ (∀ k, k < g.nn → nc g k = 0) ∧ (0 ≤ g.out ∧ g.out ≤ g.nn) ∧ n = g.nn + 1 ∧ (∀ j, j < n → X j = dimA g g.nn j) ∧ c = 0 ∧ a = 0)

theorem Outc.only {g : GraphD} {n n' : Nat} {X X' : Nat → Int} {c c' a a' : Int} (h : Outc g n X c a) (h' : Outc g n' X' c' a') : n' = n ∧ c' = c ∧ a' = a ∧ ∀ j, j < n → X' j = X j := by
  rcases h with ⟨p0, rfl, rfl, rfl⟩ | ⟨p0, j, j1, j2, j3, rfl, rfl, rfl⟩ | ⟨p0, p1, i, i1, i2, i3, rfl, rfl, rfl⟩ | ⟨p0, p1, p2, p3, rfl, rfl, rfl⟩ | ⟨p0, p1, p2, p3, rfl, e, rfl, rfl⟩ <;>
  rcases h' with ⟨q0, rfl, rfl, rfl⟩ | ⟨q0, j', j1', j2', j3', rfl, rfl, rfl⟩ | ⟨q0, q1, i', i1', i2', i3', rfl, rfl, rfl⟩ | ⟨q0, q1, q2, q3, rfl, rfl, rfl⟩ | ⟨q0, q1, q2, q3, rfl, e', rfl, rfl⟩
  all_goals first
    | exact absurd q0 p0
    | exact absurd p0 q0
    | exact absurd j3 (q1 _ j1)
    | exact absurd j3' (p1 _ j1')
    | exact absurd (q2 _ i1) i3
    | exact absurd (p2 _ i1') i3'
    | exact absurd q3 p3
    | exact absurd p3 q3
    | exact ⟨rfl, rfl, rfl, fun j hj => absurd hj (by omega)⟩
    | exact ⟨rfl, rfl, rfl, fun j hj => by rw [e j hj, e' j hj]⟩
    | (have : j' = j := by
        rcases Nat.lt_trichotomy j' j with h | h | h
        · exact absurd j3' (j2 _ h)
        · exact h
        · exact absurd j3 (j2' _ h)
       subst this
       exact ⟨rfl, rfl, rfl, fun j hj => absurd hj (by omega)⟩)
    | (have : i' = i := by
        rcases Nat.lt_trichotomy i' i with h | h | h
        · exact absurd (i2 _ h) i3'
        · exact h
        · exact absurd (i2' _ h) i3
       subst this
       exact ⟨rfl, rfl, rfl, fun j hj => absurd hj (by omega)⟩)

end Go.Proofs.YtlpabmcebpppfaaGreatDoor

namespace Go.Proofs.YtlpabmcebpppfaaGreatDoor
open Go.RowKit

/-- The limbs of a Rat are limbs. -/
def RatD.lim (r : RatD) : Prop := (∀ j, j < r.n → r.X j < 4294967296) ∧ ∀ j, j < r.m → r.Y j < 4294967296

theorem Rats.lim {w : World} {lo b off n : Nat} {a : Option Addr} {R : Nat → RatD} (h : Rats w lo a b off n R) : ∀ i, i < n → (R i).lim := fun i hi => by
  obtain ⟨-, a1, a2, k1, k2, m⟩ := h i hi
  exact ⟨m.L.lX, m.L.lY⟩

theorem q_small {r : RatD} (ok : r.ok = true) (l : r.lim) : r.q.num.natAbs + 1 ≤ 4294967296 ^ r.n ∧ r.q.den ≤ 4294967296 ^ r.m := by
  obtain ⟨-, e2, e3, -⟩ := RatD.q_ok ok
  have h1 := lv_lt r.X r.n l.1
  have h2 := lv_lt r.Y r.m l.2
  rw [Nat.pow_mul, show (2 : Nat) ^ 32 = 4294967296 by decide] at h1 h2
  rw [e2, e3]
  omega

end Go.Proofs.YtlpabmcebpppfaaGreatDoor

namespace Go.Proofs.YtlpabmcebpppfaaGreatDoor
open Go.RowKit

/-- The entries of the map of kinds. -/
def kindsE : Array MapEntry := #[⟨.string ⟨#[100, 101, 110, 115, 101]⟩, .func (.func 58) #[] #[], 0⟩, ⟨.string ⟨#[114, 101, 108, 117]⟩, .func (.func 59) #[] #[], 1⟩,
  ⟨.string ⟨#[108, 101, 97, 107, 121]⟩, .func (.func 60) #[] #[], 2⟩, ⟨.string ⟨#[97, 100, 100]⟩, .func (.func 61) #[] #[], 3⟩, ⟨.string ⟨#[109, 97, 120, 112, 111, 111, 108]⟩, .func (.func 62) #[] #[], 4⟩,
  ⟨.string ⟨#[99, 111, 110, 118]⟩, .func (.func 63) #[] #[], 5⟩, ⟨.string ⟨#[110, 111, 114, 109]⟩, .func (.func 64) #[] #[], 6⟩]

/-- Block m is the map of kinds. -/
def Kinds (w : World) (m : Nat) : Prop := w.heap[m]? = some (.map kindsE 7)

theorem Kinds.lt {w : World} {m : Nat} (h : Kinds w m) : m < w.heap.size := (Array.getElem?_eq_some_iff.1 h).1
theorem Kinds.keep {w w' : World} {m : Nat} (h : Kinds w m) (s : w.Since w.heap.size w') : Kinds w' m := by
  unfold Kinds
  rw [s.block m h.lt]
  exact h

/-- A new entry of a map that is keyed by strings. -/
theorem run_insert_new {P : Program} {w : World} {mty kt et : TypeId} {r clock : Nat} {es : Array MapEntry} {s : ByteArray} {val : Value} (hm : P.underlying mty = some (.map kt et)) (hk : P.underlying kt = some .string) (hb : w.heap[r]? = some (.map es clock)) (hf : Instr.findNow .string (.string s) es.toList 0 = some none) :
    ∃ w', (Instr.mapUpdate mty (.map (some r)) (.string s) val).run P w = .ok () w' ∧ w'.heap[r]? = some (.map (es.push { key := .string s, val := val, born := clock }) (clock + 1)) ∧ w'.heap.size = w.heap.size ∧ w'.os = w.os ∧ w'.tape = w.tape ∧ w'.output = w.output ∧ ∀ k, k ≠ r → w'.heap[k]? = w.heap[k]? := by
  refine ⟨{ w with heap := w.heap.setIfInBounds r (.map (es.push { key := .string s, val := val, born := clock }) (clock + 1)) }, ?_, (MapKept.heap_set hb).1, by simp, rfl, rfl, rfl, fun k hk => (MapKept.heap_set hb).2 k hk⟩
  have hc : (Instr.checkKey false 10000 kt (.string s)).run P w = .ok () w := MapKept.run_checkKey (k := .string s) hk (by simp [MapKept.IsKey]) false 9999
  simp [Instr.mapUpdate, run_underlying hm, MapKept.run_getObj_map hb, hc, MapKept.run_findKey hk hf, MapKept.run_setObj_map _ hb, Result.andThen]

/-- A look-up in a map that is keyed by strings. -/
theorem run_look_has {P : Program} {w : World} {mty kt et : TypeId} {r clock i : Nat} {es : Array MapEntry} {s : ByteArray} {val : Value} (hm : P.underlying mty = some (.map kt et)) (hk : P.underlying kt = some .string) (hb : w.heap[r]? = some (.map es clock)) (hf : Instr.findNow .string (.string s) es.toList 0 = some (some (i, val))) :
    (Instr.lookup mty (.map (some r)) (.string s) true).run P w = .ok (.tuple #[val, .bool true]) w := by
  have hc : (Instr.checkKey es.isEmpty 10000 kt (.string s)).run P w = .ok () w := MapKept.run_checkKey (k := .string s) hk (by simp [MapKept.IsKey]) _ 9999
  simp [Instr.lookup, run_underlying hm, MapKept.run_getObj_map hb, hc, MapKept.run_findKey hk hf, Result.andThen]
theorem run_look_no {P : Program} {w : World} {mty kt et : TypeId} {r clock : Nat} {es : Array MapEntry} {s : ByteArray} {z : Value} (hm : P.underlying mty = some (.map kt et)) (hk : P.underlying kt = some .string) (hb : w.heap[r]? = some (.map es clock)) (hf : Instr.findNow .string (.string s) es.toList 0 = some none) (hz : (zeroValue et).run P w = .ok z w) :
    (Instr.lookup mty (.map (some r)) (.string s) true).run P w = .ok (.tuple #[z, .bool false]) w := by
  have hc : (Instr.checkKey es.isEmpty 10000 kt (.string s)).run P w = .ok () w := MapKept.run_checkKey (k := .string s) hk (by simp [MapKept.IsKey]) _ 9999
  simp [Instr.lookup, run_underlying hm, MapKept.run_getObj_map hb, hc, MapKept.run_findKey hk hf, hz, Result.andThen]

set_option maxHeartbeats 1600000 in
set_option maxRecDepth 100000 in
/-- impl.allKinds lays the map of kinds. -/
theorem allKinds_any (w : World) : Calls Tryz.prog 28 #[] w fun e w' => e = .returned (.map (some w.heap.size)) ∧ Kinds w' w.heap.size ∧ w.Since w.heap.size w' := by
  have hmm := @run_makeMap Tryz.prog
  have hm : Tryz.prog.underlying 69 = some (.map 9 118) := by kernel_rfl
  have hk : Tryz.prog.underlying 9 = some .string := by kernel_rfl
  have b0 : (w.alloc (.map #[] 0)).heap[w.heap.size]? = some (.map #[] 0) := (MapKept.heap_alloc w _).1
  have s0 := (World.Since.refl w.heap.size w).alloc (Nat.le_refl _) (.map #[] 0)
  obtain ⟨w1, e1, b1, z1, o1, t1, p1, h1⟩ := run_insert_new (w := (w.alloc (.map #[] 0))) (s := ⟨#[100, 101, 110, 115, 101]⟩) (val := .func (.func 58) #[] #[]) hm hk b0 (by kernel_rfl)
  obtain ⟨w2, e2, b2, z2, o2, t2, p2, h2⟩ := run_insert_new (w := w1) (s := ⟨#[114, 101, 108, 117]⟩) (val := .func (.func 59) #[] #[]) hm hk b1 (by kernel_rfl)
  obtain ⟨w3, e3, b3, z3, o3, t3, p3, h3⟩ := run_insert_new (w := w2) (s := ⟨#[108, 101, 97, 107, 121]⟩) (val := .func (.func 60) #[] #[]) hm hk b2 (by kernel_rfl)
  obtain ⟨w4, e4, b4, z4, o4, t4, p4, h4⟩ := run_insert_new (w := w3) (s := ⟨#[97, 100, 100]⟩) (val := .func (.func 61) #[] #[]) hm hk b3 (by kernel_rfl)
  obtain ⟨w5, e5, b5, z5, o5, t5, p5, h5⟩ := run_insert_new (w := w4) (s := ⟨#[109, 97, 120, 112, 111, 111, 108]⟩) (val := .func (.func 62) #[] #[]) hm hk b4 (by kernel_rfl)
  obtain ⟨w6, e6, b6, z6, o6, t6, p6, h6⟩ := run_insert_new (w := w5) (s := ⟨#[99, 111, 110, 118]⟩) (val := .func (.func 63) #[] #[]) hm hk b5 (by kernel_rfl)
  obtain ⟨w7, e7, b7, z7, o7, t7, p7, h7⟩ := run_insert_new (w := w6) (s := ⟨#[110, 111, 114, 109]⟩) (val := .func (.func 64) #[] #[]) hm hk b6 (by kernel_rfl)
  have S : w.Since w.heap.size w7 := ⟨by rw [o7, o6, o5, o4, o3, o2, o1]; exact s0.os, by rw [t7, t6, t5, t4, t3, t2, t1]; exact s0.tape, by rw [p7, p6, p5, p4, p3, p2, p1]; exact s0.output, by rw [z7, z6, z5, z4, z3, z2, z1]; exact s0.size, fun k hk => by
    rw [h7 k (by omega), h6 k (by omega), h5 k (by omega), h4 k (by omega), h3 k (by omega), h2 k (by omega), h1 k (by omega)]; exact s0.block k hk⟩
  have K : Kinds w7 w.heap.size := b7
  clear h1 h2 h3 h4 h5 h6 h7 p1 p2 p3 p4 p5 p6 p7 t1 t2 t3 t4 t5 t6 t7 o1 o2 o3 o4 o5 o6 o7 z1 z2 z3 z4 z5 z6 z7 b0 b1 b2 b3 b4 b5 b6 b7 s0
  go_enter Tryz.func28, Tryz.ntmps28
  go_wp2
  go_ret
  exact ⟨rfl, K, S⟩

set_option maxHeartbeats 1600000 in
set_option maxRecDepth 100000 in
theorem become1 (v0 v1 v2 v3 v4 : Int) (a1 : Option Addr) (nv k1 : Nat) (w : World) : Calls Tryz.prog 58 #[.agg #[.int .i64 v0, .int .i64 v1, .int .i64 v2, .int .i64 v3, .int .i64 v4, .slice a1 nv k1]] w fun e w' => e = .returned (.iface 117 (.agg #[.int .i64 v0, .int .i64 v1, .int .i64 v2, .int .i64 v3, .int .i64 v4, .slice a1 nv k1])) ∧ w.Since w.heap.size w' := by
  have sA : w.Since w.heap.size (w.alloc (.cells #[.int .i64 v0, .int .i64 v1, .int .i64 v2, .int .i64 v3, .int .i64 v4, .slice a1 nv k1] 56)) := (World.Since.refl _ _).alloc (Nat.le_refl _) _
  go_enter Tryz.func58, Tryz.ntmps58
  go_wp2
  go_ret
  exact ⟨rfl, sA⟩

set_option maxHeartbeats 1600000 in
set_option maxRecDepth 100000 in
theorem become2 (v0 v1 v2 v3 v4 : Int) (a1 : Option Addr) (nv k1 : Nat) (w : World) : Calls Tryz.prog 59 #[.agg #[.int .i64 v0, .int .i64 v1, .int .i64 v2, .int .i64 v3, .int .i64 v4, .slice a1 nv k1]] w fun e w' => e = .returned (.iface 119 (.agg #[.int .i64 v0, .int .i64 v1, .int .i64 v2, .int .i64 v3, .int .i64 v4, .slice a1 nv k1])) ∧ w.Since w.heap.size w' := by
  have sA : w.Since w.heap.size (w.alloc (.cells #[.int .i64 v0, .int .i64 v1, .int .i64 v2, .int .i64 v3, .int .i64 v4, .slice a1 nv k1] 56)) := (World.Since.refl _ _).alloc (Nat.le_refl _) _
  go_enter Tryz.func59, Tryz.ntmps59
  go_wp2
  go_ret
  exact ⟨rfl, sA⟩

set_option maxHeartbeats 1600000 in
set_option maxRecDepth 100000 in
theorem become3 (v0 v1 v2 v3 v4 : Int) (a1 : Option Addr) (nv k1 : Nat) (w : World) : Calls Tryz.prog 60 #[.agg #[.int .i64 v0, .int .i64 v1, .int .i64 v2, .int .i64 v3, .int .i64 v4, .slice a1 nv k1]] w fun e w' => e = .returned (.iface 120 (.agg #[.int .i64 v0, .int .i64 v1, .int .i64 v2, .int .i64 v3, .int .i64 v4, .slice a1 nv k1])) ∧ w.Since w.heap.size w' := by
  have sA : w.Since w.heap.size (w.alloc (.cells #[.int .i64 v0, .int .i64 v1, .int .i64 v2, .int .i64 v3, .int .i64 v4, .slice a1 nv k1] 56)) := (World.Since.refl _ _).alloc (Nat.le_refl _) _
  go_enter Tryz.func60, Tryz.ntmps60
  go_wp2
  go_ret
  exact ⟨rfl, sA⟩

set_option maxHeartbeats 1600000 in
set_option maxRecDepth 100000 in
theorem become4 (v0 v1 v2 v3 v4 : Int) (a1 : Option Addr) (nv k1 : Nat) (w : World) : Calls Tryz.prog 61 #[.agg #[.int .i64 v0, .int .i64 v1, .int .i64 v2, .int .i64 v3, .int .i64 v4, .slice a1 nv k1]] w fun e w' => e = .returned (.iface 121 (.agg #[.int .i64 v0, .int .i64 v1, .int .i64 v2, .int .i64 v3, .int .i64 v4, .slice a1 nv k1])) ∧ w.Since w.heap.size w' := by
  have sA : w.Since w.heap.size (w.alloc (.cells #[.int .i64 v0, .int .i64 v1, .int .i64 v2, .int .i64 v3, .int .i64 v4, .slice a1 nv k1] 56)) := (World.Since.refl _ _).alloc (Nat.le_refl _) _
  go_enter Tryz.func61, Tryz.ntmps61
  go_wp2
  go_ret
  exact ⟨rfl, sA⟩

set_option maxHeartbeats 1600000 in
set_option maxRecDepth 100000 in
theorem become5 (v0 v1 v2 v3 v4 : Int) (a1 : Option Addr) (nv k1 : Nat) (w : World) : Calls Tryz.prog 62 #[.agg #[.int .i64 v0, .int .i64 v1, .int .i64 v2, .int .i64 v3, .int .i64 v4, .slice a1 nv k1]] w fun e w' => e = .returned (.iface 122 (.agg #[.int .i64 v0, .int .i64 v1, .int .i64 v2, .int .i64 v3, .int .i64 v4, .slice a1 nv k1])) ∧ w.Since w.heap.size w' := by
  have sA : w.Since w.heap.size (w.alloc (.cells #[.int .i64 v0, .int .i64 v1, .int .i64 v2, .int .i64 v3, .int .i64 v4, .slice a1 nv k1] 56)) := (World.Since.refl _ _).alloc (Nat.le_refl _) _
  go_enter Tryz.func62, Tryz.ntmps62
  go_wp2
  go_ret
  exact ⟨rfl, sA⟩

set_option maxHeartbeats 1600000 in
set_option maxRecDepth 100000 in
theorem become6 (v0 v1 v2 v3 v4 : Int) (a1 : Option Addr) (nv k1 : Nat) (w : World) : Calls Tryz.prog 63 #[.agg #[.int .i64 v0, .int .i64 v1, .int .i64 v2, .int .i64 v3, .int .i64 v4, .slice a1 nv k1]] w fun e w' => e = .returned (.iface 123 (.agg #[.int .i64 v0, .int .i64 v1, .int .i64 v2, .int .i64 v3, .int .i64 v4, .slice a1 nv k1])) ∧ w.Since w.heap.size w' := by
  have sA : w.Since w.heap.size (w.alloc (.cells #[.int .i64 v0, .int .i64 v1, .int .i64 v2, .int .i64 v3, .int .i64 v4, .slice a1 nv k1] 56)) := (World.Since.refl _ _).alloc (Nat.le_refl _) _
  go_enter Tryz.func63, Tryz.ntmps63
  go_wp2
  go_ret
  exact ⟨rfl, sA⟩

set_option maxHeartbeats 1600000 in
set_option maxRecDepth 100000 in
theorem become7 (v0 v1 v2 v3 v4 : Int) (a1 : Option Addr) (nv k1 : Nat) (w : World) : Calls Tryz.prog 64 #[.agg #[.int .i64 v0, .int .i64 v1, .int .i64 v2, .int .i64 v3, .int .i64 v4, .slice a1 nv k1]] w fun e w' => e = .returned (.iface 124 (.agg #[.int .i64 v0, .int .i64 v1, .int .i64 v2, .int .i64 v3, .int .i64 v4, .slice a1 nv k1])) ∧ w.Since w.heap.size w' := by
  have sA : w.Since w.heap.size (w.alloc (.cells #[.int .i64 v0, .int .i64 v1, .int .i64 v2, .int .i64 v3, .int .i64 v4, .slice a1 nv k1] 56)) := (World.Since.refl _ _).alloc (Nat.le_refl _) _
  go_enter Tryz.func64, Tryz.ntmps64
  go_wp2
  go_ret
  exact ⟨rfl, sA⟩

set_option maxHeartbeats 1600000 in
set_option maxRecDepth 100000 in
theorem wordOf_no (z : Int) (w : World) (h : z < 1 ∨ 7 < z) (_hi : I64 z) : Calls Tryz.prog 65 #[.int .i64 z] w fun e w' => e = .returned (.string ⟨#[]⟩) ∧ w.Since w.heap.size w' := by
  have h1 : ¬ z = 1 := by omega
  have h2 : ¬ z = 2 := by omega
  have h3 : ¬ z = 3 := by omega
  have h4 : ¬ z = 4 := by omega
  have h5 : ¬ z = 5 := by omega
  have h6 : ¬ z = 6 := by omega
  have h7 : ¬ z = 7 := by omega
  clear h _hi
  go_enter Tryz.func65, Tryz.ntmps65
  go_wp2
  go_ret
  exact ⟨rfl, World.Since.refl _ _⟩

set_option maxHeartbeats 1600000 in
set_option maxRecDepth 100000 in
theorem wordOf1 (w : World) : Calls Tryz.prog 65 #[.int .i64 1] w fun e w' => e = .returned (.string ⟨#[100, 101, 110, 115, 101]⟩) ∧ w.Since w.heap.size w' := by
  go_enter Tryz.func65, Tryz.ntmps65
  go_wp2
  go_ret
  exact ⟨rfl, World.Since.refl _ _⟩

set_option maxHeartbeats 1600000 in
set_option maxRecDepth 100000 in
theorem wordOf2 (w : World) : Calls Tryz.prog 65 #[.int .i64 2] w fun e w' => e = .returned (.string ⟨#[114, 101, 108, 117]⟩) ∧ w.Since w.heap.size w' := by
  go_enter Tryz.func65, Tryz.ntmps65
  go_wp2
  go_ret
  exact ⟨rfl, World.Since.refl _ _⟩

set_option maxHeartbeats 1600000 in
set_option maxRecDepth 100000 in
theorem wordOf3 (w : World) : Calls Tryz.prog 65 #[.int .i64 3] w fun e w' => e = .returned (.string ⟨#[108, 101, 97, 107, 121]⟩) ∧ w.Since w.heap.size w' := by
  go_enter Tryz.func65, Tryz.ntmps65
  go_wp2
  go_ret
  exact ⟨rfl, World.Since.refl _ _⟩

set_option maxHeartbeats 1600000 in
set_option maxRecDepth 100000 in
theorem wordOf4 (w : World) : Calls Tryz.prog 65 #[.int .i64 4] w fun e w' => e = .returned (.string ⟨#[97, 100, 100]⟩) ∧ w.Since w.heap.size w' := by
  go_enter Tryz.func65, Tryz.ntmps65
  go_wp2
  go_ret
  exact ⟨rfl, World.Since.refl _ _⟩

set_option maxHeartbeats 1600000 in
set_option maxRecDepth 100000 in
theorem wordOf5 (w : World) : Calls Tryz.prog 65 #[.int .i64 5] w fun e w' => e = .returned (.string ⟨#[109, 97, 120, 112, 111, 111, 108]⟩) ∧ w.Since w.heap.size w' := by
  go_enter Tryz.func65, Tryz.ntmps65
  go_wp2
  go_ret
  exact ⟨rfl, World.Since.refl _ _⟩

set_option maxHeartbeats 1600000 in
set_option maxRecDepth 100000 in
theorem wordOf6 (w : World) : Calls Tryz.prog 65 #[.int .i64 6] w fun e w' => e = .returned (.string ⟨#[99, 111, 110, 118]⟩) ∧ w.Since w.heap.size w' := by
  go_enter Tryz.func65, Tryz.ntmps65
  go_wp2
  go_ret
  exact ⟨rfl, World.Since.refl _ _⟩

set_option maxHeartbeats 1600000 in
set_option maxRecDepth 100000 in
theorem wordOf7 (w : World) : Calls Tryz.prog 65 #[.int .i64 7] w fun e w' => e = .returned (.string ⟨#[110, 111, 114, 109]⟩) ∧ w.Since w.heap.size w' := by
  go_enter Tryz.func65, Tryz.ntmps65
  go_wp2
  go_ret
  exact ⟨rfl, World.Since.refl _ _⟩

end Go.Proofs.YtlpabmcebpppfaaGreatDoor

namespace Go.Proofs.YtlpabmcebpppfaaGreatDoor
open Go.RowKit

theorem kinds_under : Tryz.prog.underlying 69 = some (.map 9 118) := by kernel_rfl
theorem string_under : Tryz.prog.underlying 9 = some .string := by kernel_rfl

set_option maxHeartbeats 1600000 in
set_option maxRecDepth 100000 in
theorem operatorOf_k (z : Int) (T F i : Nat) (s : ByteArray) (m : Nat) (v1 v2 v3 v4 : Int) (a1 : Option Addr) (nv k1 : Nat) (w : World) (K : Kinds w m) (hwd : ∀ w, Calls Tryz.prog 65 #[.int .i64 z] w fun e w' => e = .returned (.string s) ∧ w.Since w.heap.size w') (hf : Instr.findNow .string (.string s) kindsE.toList 0 = some (some (i, .func (.func F) #[] #[])))
    (hen : ∀ (args : Array Value) (w : World), (callFunc F args).run Tryz.prog w = .ok (.enter F args) w) (hbe : ∀ w, Calls Tryz.prog F #[.agg #[.int .i64 z, .int .i64 v1, .int .i64 v2, .int .i64 v3, .int .i64 v4, .slice a1 nv k1]] w fun e w' => e = .returned (.iface T (.agg #[.int .i64 z, .int .i64 v1, .int .i64 v2, .int .i64 v3, .int .i64 v4, .slice a1 nv k1])) ∧ w.Since w.heap.size w') :
    Calls Tryz.prog 29 #[.map (some m), .agg #[.int .i64 z, .int .i64 v1, .int .i64 v2, .int .i64 v3, .int .i64 v4, .slice a1 nv k1]] w fun e w' => e = .returned (.tuple #[.iface T (.agg #[.int .i64 z, .int .i64 v1, .int .i64 v2, .int .i64 v3, .int .i64 v4, .slice a1 nv k1]), .bool true]) ∧ w.Since w.heap.size w' := by
  have sA : w.Since w.heap.size (w.alloc (.cells #[.int .i64 z, .int .i64 v1, .int .i64 v2, .int .i64 v3, .int .i64 v4, .slice a1 nv k1] 56)) := (World.Since.refl _ _).alloc (Nat.le_refl _) _
  have bA := Box6.new w (.int .i64 z) (.int .i64 v1) (.int .i64 v2) (.int .i64 v3) (.int .i64 v4) (.slice a1 nv k1) 56
  go_enter Tryz.func29, Tryz.ntmps29
  go_wp2_with fail
  generalize w.alloc (.cells #[.int .i64 z, .int .i64 v1, .int .i64 v2, .int .i64 v3, .int .i64 v4, .slice a1 nv k1] 56) = wA at *
  refine (hwd wA).mono ?_
  rintro e w1 ⟨rfl, s1⟩
  have S1 := sA.trans (sinceMono s1 sA.size)
  have B1 := bA.keep s1
  have hl := run_look_has (s := s) kinds_under string_under (K.keep S1) (i := i) (val := .func (.func F) #[] #[]) hf
  have q0 := B1.c0
  have q1 := B1.c1
  have q2 := B1.c2
  have q3 := B1.c3
  have q4 := B1.c4
  have q5 := B1.c5
  clear bA hf hwd
  go_wp2_with fail
  refine (hbe w1).mono ?_
  rintro e w2 ⟨rfl, s2⟩
  go_wp2
  go_ret2
  exact ⟨rfl, S1.trans (sinceMono s2 S1.size)⟩

theorem operatorOf1 (m : Nat) (v1 v2 v3 v4 : Int) (a1 : Option Addr) (nv k1 : Nat) (w : World) (K : Kinds w m) : Calls Tryz.prog 29 #[.map (some m), .agg #[.int .i64 1, .int .i64 v1, .int .i64 v2, .int .i64 v3, .int .i64 v4, .slice a1 nv k1]] w fun e w' => e = .returned (.tuple #[.iface 117 (.agg #[.int .i64 1, .int .i64 v1, .int .i64 v2, .int .i64 v3, .int .i64 v4, .slice a1 nv k1]), .bool true]) ∧ w.Since w.heap.size w' :=
  operatorOf_k 1 117 58 0 ⟨#[100, 101, 110, 115, 101]⟩ m v1 v2 v3 v4 a1 nv k1 w K wordOf1 (by kernel_rfl) (fun _ _ => by kernel_rfl) (become1 1 v1 v2 v3 v4 a1 nv k1)
theorem operatorOf2 (m : Nat) (v1 v2 v3 v4 : Int) (a1 : Option Addr) (nv k1 : Nat) (w : World) (K : Kinds w m) : Calls Tryz.prog 29 #[.map (some m), .agg #[.int .i64 2, .int .i64 v1, .int .i64 v2, .int .i64 v3, .int .i64 v4, .slice a1 nv k1]] w fun e w' => e = .returned (.tuple #[.iface 119 (.agg #[.int .i64 2, .int .i64 v1, .int .i64 v2, .int .i64 v3, .int .i64 v4, .slice a1 nv k1]), .bool true]) ∧ w.Since w.heap.size w' :=
  operatorOf_k 2 119 59 1 ⟨#[114, 101, 108, 117]⟩ m v1 v2 v3 v4 a1 nv k1 w K wordOf2 (by kernel_rfl) (fun _ _ => by kernel_rfl) (become2 2 v1 v2 v3 v4 a1 nv k1)
theorem operatorOf3 (m : Nat) (v1 v2 v3 v4 : Int) (a1 : Option Addr) (nv k1 : Nat) (w : World) (K : Kinds w m) : Calls Tryz.prog 29 #[.map (some m), .agg #[.int .i64 3, .int .i64 v1, .int .i64 v2, .int .i64 v3, .int .i64 v4, .slice a1 nv k1]] w fun e w' => e = .returned (.tuple #[.iface 120 (.agg #[.int .i64 3, .int .i64 v1, .int .i64 v2, .int .i64 v3, .int .i64 v4, .slice a1 nv k1]), .bool true]) ∧ w.Since w.heap.size w' :=
  operatorOf_k 3 120 60 2 ⟨#[108, 101, 97, 107, 121]⟩ m v1 v2 v3 v4 a1 nv k1 w K wordOf3 (by kernel_rfl) (fun _ _ => by kernel_rfl) (become3 3 v1 v2 v3 v4 a1 nv k1)
theorem operatorOf4 (m : Nat) (v1 v2 v3 v4 : Int) (a1 : Option Addr) (nv k1 : Nat) (w : World) (K : Kinds w m) : Calls Tryz.prog 29 #[.map (some m), .agg #[.int .i64 4, .int .i64 v1, .int .i64 v2, .int .i64 v3, .int .i64 v4, .slice a1 nv k1]] w fun e w' => e = .returned (.tuple #[.iface 121 (.agg #[.int .i64 4, .int .i64 v1, .int .i64 v2, .int .i64 v3, .int .i64 v4, .slice a1 nv k1]), .bool true]) ∧ w.Since w.heap.size w' :=
  operatorOf_k 4 121 61 3 ⟨#[97, 100, 100]⟩ m v1 v2 v3 v4 a1 nv k1 w K wordOf4 (by kernel_rfl) (fun _ _ => by kernel_rfl) (become4 4 v1 v2 v3 v4 a1 nv k1)
theorem operatorOf5 (m : Nat) (v1 v2 v3 v4 : Int) (a1 : Option Addr) (nv k1 : Nat) (w : World) (K : Kinds w m) : Calls Tryz.prog 29 #[.map (some m), .agg #[.int .i64 5, .int .i64 v1, .int .i64 v2, .int .i64 v3, .int .i64 v4, .slice a1 nv k1]] w fun e w' => e = .returned (.tuple #[.iface 122 (.agg #[.int .i64 5, .int .i64 v1, .int .i64 v2, .int .i64 v3, .int .i64 v4, .slice a1 nv k1]), .bool true]) ∧ w.Since w.heap.size w' :=
  operatorOf_k 5 122 62 4 ⟨#[109, 97, 120, 112, 111, 111, 108]⟩ m v1 v2 v3 v4 a1 nv k1 w K wordOf5 (by kernel_rfl) (fun _ _ => by kernel_rfl) (become5 5 v1 v2 v3 v4 a1 nv k1)
theorem operatorOf6 (m : Nat) (v1 v2 v3 v4 : Int) (a1 : Option Addr) (nv k1 : Nat) (w : World) (K : Kinds w m) : Calls Tryz.prog 29 #[.map (some m), .agg #[.int .i64 6, .int .i64 v1, .int .i64 v2, .int .i64 v3, .int .i64 v4, .slice a1 nv k1]] w fun e w' => e = .returned (.tuple #[.iface 123 (.agg #[.int .i64 6, .int .i64 v1, .int .i64 v2, .int .i64 v3, .int .i64 v4, .slice a1 nv k1]), .bool true]) ∧ w.Since w.heap.size w' :=
  operatorOf_k 6 123 63 5 ⟨#[99, 111, 110, 118]⟩ m v1 v2 v3 v4 a1 nv k1 w K wordOf6 (by kernel_rfl) (fun _ _ => by kernel_rfl) (become6 6 v1 v2 v3 v4 a1 nv k1)
theorem operatorOf7 (m : Nat) (v1 v2 v3 v4 : Int) (a1 : Option Addr) (nv k1 : Nat) (w : World) (K : Kinds w m) : Calls Tryz.prog 29 #[.map (some m), .agg #[.int .i64 7, .int .i64 v1, .int .i64 v2, .int .i64 v3, .int .i64 v4, .slice a1 nv k1]] w fun e w' => e = .returned (.tuple #[.iface 124 (.agg #[.int .i64 7, .int .i64 v1, .int .i64 v2, .int .i64 v3, .int .i64 v4, .slice a1 nv k1]), .bool true]) ∧ w.Since w.heap.size w' :=
  operatorOf_k 7 124 64 6 ⟨#[110, 111, 114, 109]⟩ m v1 v2 v3 v4 a1 nv k1 w K wordOf7 (by kernel_rfl) (fun _ _ => by kernel_rfl) (become7 7 v1 v2 v3 v4 a1 nv k1)

set_option maxHeartbeats 1600000 in
set_option maxRecDepth 100000 in
theorem operatorOf_no (m : Nat) (v0 v1 v2 v3 v4 : Int) (a1 : Option Addr) (nv k1 : Nat) (w : World) (K : Kinds w m) (h : v0 < 1 ∨ 7 < v0) (hi : I64 v0) : Calls Tryz.prog 29 #[.map (some m), .agg #[.int .i64 v0, .int .i64 v1, .int .i64 v2, .int .i64 v3, .int .i64 v4, .slice a1 nv k1]] w fun e w' => e = .returned (.tuple #[.nilIface, .bool false]) ∧ w.Since w.heap.size w' := by
  have sA : w.Since w.heap.size (w.alloc (.cells #[.int .i64 v0, .int .i64 v1, .int .i64 v2, .int .i64 v3, .int .i64 v4, .slice a1 nv k1] 56)) := (World.Since.refl _ _).alloc (Nat.le_refl _) _
  go_enter Tryz.func29, Tryz.ntmps29
  go_wp2_with fail
  generalize w.alloc (.cells #[.int .i64 v0, .int .i64 v1, .int .i64 v2, .int .i64 v3, .int .i64 v4, .slice a1 nv k1] 56) = wA at *
  refine (wordOf_no v0 wA h hi).mono ?_
  rintro e w1 ⟨rfl, s1⟩
  have S1 := sA.trans (sinceMono s1 sA.size)
  have hz : (zeroValue 118).run Tryz.prog w1 = .ok .nilFunc w1 := by kernel_rfl
  have hl := run_look_no (s := ⟨#[]⟩) kinds_under string_under (K.keep S1) (by kernel_rfl) hz
  clear hz
  go_wp2
  go_ret2
  exact ⟨rfl, S1⟩

theorem size_form : (Tryz.prog.info? 78).map (·.size) = some 5 := by kernel_rfl

set_option maxHeartbeats 1600000 in
set_option maxRecDepth 100000 in
theorem form1 (v0 v1 v2 v3 v4 : Int) (a1 : Option Addr) (nv k1 : Nat) (w : World) : Calls Tryz.prog 198 #[.agg #[.int .i64 v0, .int .i64 v1, .int .i64 v2, .int .i64 v3, .int .i64 v4, .slice a1 nv k1]] w fun e w' => e = .returned (.agg #[.int .i64 1, .bool false, .bool true, .bool false, .int .i64 (-1)]) ∧ w.Since w.heap.size w' := by
  have sA : w.Since w.heap.size ((w.alloc (.cells #[.int .i64 v0, .int .i64 v1, .int .i64 v2, .int .i64 v3, .int .i64 v4, .slice a1 nv k1] 117)).alloc (.cells #[.int .i64 1, .bool false, .bool true, .bool false, .int .i64 (-1)] 78)) := ((World.Since.refl _ _).alloc (Nat.le_refl _) _).alloc (by simp) _
  have bA : Box5 ((w.alloc (.cells #[.int .i64 v0, .int .i64 v1, .int .i64 v2, .int .i64 v3, .int .i64 v4, .slice a1 nv k1] 117)).alloc (.cells #[.int .i64 1, .bool false, .bool true, .bool false, .int .i64 (-1)] 78)) (w.heap.size + 1) (.int .i64 1) (.bool false) (.bool true) (.bool false) (.int .i64 (-1)) := by
    have := Box5.new (w.alloc (.cells #[.int .i64 v0, .int .i64 v1, .int .i64 v2, .int .i64 v3, .int .i64 v4, .slice a1 nv k1] 117)) (.int .i64 1) (.bool false) (.bool true) (.bool false) (.int .i64 (-1)) 78
    simpa using this
  go_enter Tryz.func198, Tryz.ntmps198
  go_wp2
  exact bodyPost_ret (results_box5T rfl Tryz.underlying78 rfl size_form _ _ _ _ _ _ _ _ rfl bA) rfl ⟨rfl, sA⟩

set_option maxHeartbeats 1600000 in
set_option maxRecDepth 100000 in
theorem form2 (v0 v1 v2 v3 v4 : Int) (a1 : Option Addr) (nv k1 : Nat) (w : World) : Calls Tryz.prog 201 #[.agg #[.int .i64 v0, .int .i64 v1, .int .i64 v2, .int .i64 v3, .int .i64 v4, .slice a1 nv k1]] w fun e w' => e = .returned (.agg #[.int .i64 2, .bool false, .bool false, .bool false, .int .i64 0]) ∧ w.Since w.heap.size w' := by
  have sA : w.Since w.heap.size ((w.alloc (.cells #[.int .i64 v0, .int .i64 v1, .int .i64 v2, .int .i64 v3, .int .i64 v4, .slice a1 nv k1] 119)).alloc (.cells #[.int .i64 2, .bool false, .bool false, .bool false, .int .i64 0] 78)) := ((World.Since.refl _ _).alloc (Nat.le_refl _) _).alloc (by simp) _
  have bA : Box5 ((w.alloc (.cells #[.int .i64 v0, .int .i64 v1, .int .i64 v2, .int .i64 v3, .int .i64 v4, .slice a1 nv k1] 119)).alloc (.cells #[.int .i64 2, .bool false, .bool false, .bool false, .int .i64 0] 78)) (w.heap.size + 1) (.int .i64 2) (.bool false) (.bool false) (.bool false) (.int .i64 0) := by
    have := Box5.new (w.alloc (.cells #[.int .i64 v0, .int .i64 v1, .int .i64 v2, .int .i64 v3, .int .i64 v4, .slice a1 nv k1] 119)) (.int .i64 2) (.bool false) (.bool false) (.bool false) (.int .i64 0) 78
    simpa using this
  go_enter Tryz.func201, Tryz.ntmps201
  go_wp2
  exact bodyPost_ret (results_box5T rfl Tryz.underlying78 rfl size_form _ _ _ _ _ _ _ _ rfl bA) rfl ⟨rfl, sA⟩

set_option maxHeartbeats 1600000 in
set_option maxRecDepth 100000 in
theorem form3 (v0 v1 v2 v3 v4 : Int) (a1 : Option Addr) (nv k1 : Nat) (w : World) : Calls Tryz.prog 204 #[.agg #[.int .i64 v0, .int .i64 v1, .int .i64 v2, .int .i64 v3, .int .i64 v4, .slice a1 nv k1]] w fun e w' => e = .returned (.agg #[.int .i64 3, .bool false, .bool false, .bool false, .int .i64 1]) ∧ w.Since w.heap.size w' := by
  have sA : w.Since w.heap.size ((w.alloc (.cells #[.int .i64 v0, .int .i64 v1, .int .i64 v2, .int .i64 v3, .int .i64 v4, .slice a1 nv k1] 120)).alloc (.cells #[.int .i64 3, .bool false, .bool false, .bool false, .int .i64 1] 78)) := ((World.Since.refl _ _).alloc (Nat.le_refl _) _).alloc (by simp) _
  have bA : Box5 ((w.alloc (.cells #[.int .i64 v0, .int .i64 v1, .int .i64 v2, .int .i64 v3, .int .i64 v4, .slice a1 nv k1] 120)).alloc (.cells #[.int .i64 3, .bool false, .bool false, .bool false, .int .i64 1] 78)) (w.heap.size + 1) (.int .i64 3) (.bool false) (.bool false) (.bool false) (.int .i64 1) := by
    have := Box5.new (w.alloc (.cells #[.int .i64 v0, .int .i64 v1, .int .i64 v2, .int .i64 v3, .int .i64 v4, .slice a1 nv k1] 120)) (.int .i64 3) (.bool false) (.bool false) (.bool false) (.int .i64 1) 78
    simpa using this
  go_enter Tryz.func204, Tryz.ntmps204
  go_wp2
  exact bodyPost_ret (results_box5T rfl Tryz.underlying78 rfl size_form _ _ _ _ _ _ _ _ rfl bA) rfl ⟨rfl, sA⟩

set_option maxHeartbeats 1600000 in
set_option maxRecDepth 100000 in
theorem form4 (v0 v1 v2 v3 v4 : Int) (a1 : Option Addr) (nv k1 : Nat) (w : World) : Calls Tryz.prog 207 #[.agg #[.int .i64 v0, .int .i64 v1, .int .i64 v2, .int .i64 v3, .int .i64 v4, .slice a1 nv k1]] w fun e w' => e = .returned (.agg #[.int .i64 4, .bool true, .bool false, .bool false, .int .i64 0]) ∧ w.Since w.heap.size w' := by
  have sA : w.Since w.heap.size ((w.alloc (.cells #[.int .i64 v0, .int .i64 v1, .int .i64 v2, .int .i64 v3, .int .i64 v4, .slice a1 nv k1] 121)).alloc (.cells #[.int .i64 4, .bool true, .bool false, .bool false, .int .i64 0] 78)) := ((World.Since.refl _ _).alloc (Nat.le_refl _) _).alloc (by simp) _
  have bA : Box5 ((w.alloc (.cells #[.int .i64 v0, .int .i64 v1, .int .i64 v2, .int .i64 v3, .int .i64 v4, .slice a1 nv k1] 121)).alloc (.cells #[.int .i64 4, .bool true, .bool false, .bool false, .int .i64 0] 78)) (w.heap.size + 1) (.int .i64 4) (.bool true) (.bool false) (.bool false) (.int .i64 0) := by
    have := Box5.new (w.alloc (.cells #[.int .i64 v0, .int .i64 v1, .int .i64 v2, .int .i64 v3, .int .i64 v4, .slice a1 nv k1] 121)) (.int .i64 4) (.bool true) (.bool false) (.bool false) (.int .i64 0) 78
    simpa using this
  go_enter Tryz.func207, Tryz.ntmps207
  go_wp2
  exact bodyPost_ret (results_box5T rfl Tryz.underlying78 rfl size_form _ _ _ _ _ _ _ _ rfl bA) rfl ⟨rfl, sA⟩

set_option maxHeartbeats 1600000 in
set_option maxRecDepth 100000 in
theorem form5 (v0 v1 v2 v3 v4 : Int) (a1 : Option Addr) (nv k1 : Nat) (w : World) : Calls Tryz.prog 210 #[.agg #[.int .i64 v0, .int .i64 v1, .int .i64 v2, .int .i64 v3, .int .i64 v4, .slice a1 nv k1]] w fun e w' => e = .returned (.agg #[.int .i64 5, .bool false, .bool true, .bool false, .int .i64 0]) ∧ w.Since w.heap.size w' := by
  have sA : w.Since w.heap.size ((w.alloc (.cells #[.int .i64 v0, .int .i64 v1, .int .i64 v2, .int .i64 v3, .int .i64 v4, .slice a1 nv k1] 122)).alloc (.cells #[.int .i64 5, .bool false, .bool true, .bool false, .int .i64 0] 78)) := ((World.Since.refl _ _).alloc (Nat.le_refl _) _).alloc (by simp) _
  have bA : Box5 ((w.alloc (.cells #[.int .i64 v0, .int .i64 v1, .int .i64 v2, .int .i64 v3, .int .i64 v4, .slice a1 nv k1] 122)).alloc (.cells #[.int .i64 5, .bool false, .bool true, .bool false, .int .i64 0] 78)) (w.heap.size + 1) (.int .i64 5) (.bool false) (.bool true) (.bool false) (.int .i64 0) := by
    have := Box5.new (w.alloc (.cells #[.int .i64 v0, .int .i64 v1, .int .i64 v2, .int .i64 v3, .int .i64 v4, .slice a1 nv k1] 122)) (.int .i64 5) (.bool false) (.bool true) (.bool false) (.int .i64 0) 78
    simpa using this
  go_enter Tryz.func210, Tryz.ntmps210
  go_wp2
  exact bodyPost_ret (results_box5T rfl Tryz.underlying78 rfl size_form _ _ _ _ _ _ _ _ rfl bA) rfl ⟨rfl, sA⟩

set_option maxHeartbeats 1600000 in
set_option maxRecDepth 100000 in
theorem form6 (v0 v1 v2 v3 v4 : Int) (a1 : Option Addr) (nv k1 : Nat) (w : World) : Calls Tryz.prog 213 #[.agg #[.int .i64 v0, .int .i64 v1, .int .i64 v2, .int .i64 v3, .int .i64 v4, .slice a1 nv k1]] w fun e w' => e = .returned (.agg #[.int .i64 6, .bool false, .bool true, .bool true, .int .i64 (-1)]) ∧ w.Since w.heap.size w' := by
  have sA : w.Since w.heap.size ((w.alloc (.cells #[.int .i64 v0, .int .i64 v1, .int .i64 v2, .int .i64 v3, .int .i64 v4, .slice a1 nv k1] 123)).alloc (.cells #[.int .i64 6, .bool false, .bool true, .bool true, .int .i64 (-1)] 78)) := ((World.Since.refl _ _).alloc (Nat.le_refl _) _).alloc (by simp) _
  have bA : Box5 ((w.alloc (.cells #[.int .i64 v0, .int .i64 v1, .int .i64 v2, .int .i64 v3, .int .i64 v4, .slice a1 nv k1] 123)).alloc (.cells #[.int .i64 6, .bool false, .bool true, .bool true, .int .i64 (-1)] 78)) (w.heap.size + 1) (.int .i64 6) (.bool false) (.bool true) (.bool true) (.int .i64 (-1)) := by
    have := Box5.new (w.alloc (.cells #[.int .i64 v0, .int .i64 v1, .int .i64 v2, .int .i64 v3, .int .i64 v4, .slice a1 nv k1] 123)) (.int .i64 6) (.bool false) (.bool true) (.bool true) (.int .i64 (-1)) 78
    simpa using this
  go_enter Tryz.func213, Tryz.ntmps213
  go_wp2
  exact bodyPost_ret (results_box5T rfl Tryz.underlying78 rfl size_form _ _ _ _ _ _ _ _ rfl bA) rfl ⟨rfl, sA⟩

set_option maxHeartbeats 1600000 in
set_option maxRecDepth 100000 in
theorem form7 (v0 v1 v2 v3 v4 : Int) (a1 : Option Addr) (nv k1 : Nat) (w : World) : Calls Tryz.prog 216 #[.agg #[.int .i64 v0, .int .i64 v1, .int .i64 v2, .int .i64 v3, .int .i64 v4, .slice a1 nv k1]] w fun e w' => e = .returned (.agg #[.int .i64 7, .bool false, .bool false, .bool false, .int .i64 4]) ∧ w.Since w.heap.size w' := by
  have sA : w.Since w.heap.size ((w.alloc (.cells #[.int .i64 v0, .int .i64 v1, .int .i64 v2, .int .i64 v3, .int .i64 v4, .slice a1 nv k1] 124)).alloc (.cells #[.int .i64 7, .bool false, .bool false, .bool false, .int .i64 4] 78)) := ((World.Since.refl _ _).alloc (Nat.le_refl _) _).alloc (by simp) _
  have bA : Box5 ((w.alloc (.cells #[.int .i64 v0, .int .i64 v1, .int .i64 v2, .int .i64 v3, .int .i64 v4, .slice a1 nv k1] 124)).alloc (.cells #[.int .i64 7, .bool false, .bool false, .bool false, .int .i64 4] 78)) (w.heap.size + 1) (.int .i64 7) (.bool false) (.bool false) (.bool false) (.int .i64 4) := by
    have := Box5.new (w.alloc (.cells #[.int .i64 v0, .int .i64 v1, .int .i64 v2, .int .i64 v3, .int .i64 v4, .slice a1 nv k1] 124)) (.int .i64 7) (.bool false) (.bool false) (.bool false) (.int .i64 4) 78
    simpa using this
  go_enter Tryz.func216, Tryz.ntmps216
  go_wp2
  exact bodyPost_ret (results_box5T rfl Tryz.underlying78 rfl size_form _ _ _ _ _ _ _ _ rfl bA) rfl ⟨rfl, sA⟩

end Go.Proofs.YtlpabmcebpppfaaGreatDoor

namespace Go.Proofs.YtlpabmcebpppfaaGreatDoor
open Go.RowKit

section
variable {w w' : World} {lo hi b off : Nat} {q : Rat} {g h : Nat} {a1 : Option Addr} {n1 k1 : Nat} {a2 : Option Addr} {n2 k2 : Nat} {X Y : Nat → Nat}
end

end Go.Proofs.YtlpabmcebpppfaaGreatDoor

namespace Go.Proofs.YtlpabmcebpppfaaGreatDoor
open Go.RowKit

end Go.Proofs.YtlpabmcebpppfaaGreatDoor

namespace Go.Proofs.YtlpabmcebpppfaaGreatDoor
open Go.RowKit

/-- What writes into the blocks of S leave. -/
structure Fra (w w' : World) (S : Nat → Prop) : Prop where
  os : w'.os = w.os
  tape : w'.tape = w.tape
  output : w'.output = w.output
  size : w'.heap.size = w.heap.size
  other : ∀ k, ¬ S k → w'.heap[k]? = w.heap[k]?
  frozen : ∀ b o, w'.frozen? ⟨b, o, none⟩ = w.frozen? ⟨b, o, none⟩

section
variable {w w' w'' : World} {S S' : Nat → Prop} {b n : Nat}
theorem Marked.fr (M : Marked w w' b) : Fra w w' (fun k => k = b) :=
  ⟨M.os, M.tape, M.output, M.size, fun k hk => M.other k hk, fun c o => by
    by_cases e : c = b
    · subst e; exact M.frozen o
    · exact M.frozenO (a := ⟨c, o, none⟩) e⟩
theorem Fra.cell (f : Fra w w' S) {a : Addr} (h : ¬ S a.block) : w'.cell? a = w.cell? a := World.cell?_of_block (w := w) (f.other _ h)
theorem Fra.limbs {a : Option Addr} {off : Nat} {X : Nat → Nat} (f : Fra w w' S) (L : Limbs w a b off n X) (h : 0 < n → ¬ S b) : Limbs w' a b off n X :=
  fun j hj => ⟨(L j hj).1, by rw [f.cell (a := ⟨b, off + j, none⟩) (h (by omega))]; exact (L j hj).2⟩
end

/-- An entry of three cells whose two lists lie in memory of their own. -/
structure OwnE (w : World) (lo hi b off : Nat) (f : Bool) (g h : Nat) (a1 : Option Addr) (n1 k1 : Nat) (a2 : Option Addr) (n2 k2 : Nat) (X Y : Nat → Nat) : Prop where
  c0 : w.cell? ⟨b, off, none⟩ = some (.bool f)
  c1 : w.cell? ⟨b, off + 1, none⟩ = some (.slice a1 n1 k1)
  c2 : w.cell? ⟨b, off + 2, none⟩ = some (.slice a2 n2 k2)
  L1 : Limbs w a1 g 0 n1 X
  L2 : Limbs w a2 h 0 n2 Y
  s1 : n1 ≤ 4194304
  s2 : n2 ≤ 4194304
  lg : 0 < n1 → lo ≤ g ∧ g < hi ∧ ∀ o, w.frozen? ⟨g, o, none⟩ = false
  lh : 0 < n2 → lo ≤ h ∧ h < hi ∧ ∀ o, w.frozen? ⟨h, o, none⟩ = false
  ne : 0 < n1 → 0 < n2 → g ≠ h

theorem OwnE.frame {w w' : World} {S : Nat → Prop} {lo hi b off : Nat} {f : Bool} {g h : Nat} {a1 : Option Addr} {n1 k1 : Nat} {a2 : Option Addr} {n2 k2 : Nat} {X Y : Nat → Nat} (r : OwnE w lo hi b off f g h a1 n1 k1 a2 n2 k2 X Y) (F : Fra w w' S)
    (hS : ∀ k, lo ≤ k → k < hi → ¬ S k) (hc : ∀ o, off ≤ o → o < off + 3 → w'.cell? ⟨b, o, none⟩ = w.cell? ⟨b, o, none⟩) : OwnE w' lo hi b off f g h a1 n1 k1 a2 n2 k2 X Y :=
  ⟨by rw [hc _ (by omega) (by omega)]; exact r.c0, by rw [hc _ (by omega) (by omega)]; exact r.c1, by rw [hc _ (by omega) (by omega)]; exact r.c2,
    F.limbs r.L1 (fun h0 => hS g (r.lg h0).1 (r.lg h0).2.1), F.limbs r.L2 (fun h0 => hS h (r.lh h0).1 (r.lh h0).2.1), r.s1, r.s2,
    fun h0 => ⟨(r.lg h0).1, (r.lg h0).2.1, fun o => by rw [F.frozen]; exact (r.lg h0).2.2 o⟩, fun h0 => ⟨(r.lh h0).1, (r.lh h0).2.1, fun o => by rw [F.frozen]; exact (r.lh h0).2.2 o⟩, r.ne⟩

/-- A list of entries in memory of its own: entry i has the blocks from E i to E (i + 1). -/
def OwnFrom (w : World) (b k n : Nat) (E : Nat → Nat) : Prop := ∀ i, k ≤ i → i < n → ∃ f g h a1 n1 k1 a2 n2 k2 X Y, OwnE w (E i) (E (i + 1)) b (i * 3) f g h a1 n1 k1 a2 n2 k2 X Y

theorem e_mono {E : Nat → Nat} {n : Nat} (h : ∀ i, i < n → E i ≤ E (i + 1)) {i j : Nat} (hij : i ≤ j) (hj : j ≤ n) : E i ≤ E j := by
  induction j with
  | zero => have : i = 0 := by omega
            subst this; exact Nat.le_refl _
  | succ j ih =>
    by_cases e : i = j + 1
    · subst e; exact Nat.le_refl _
    · exact Nat.le_trans (ih (by omega) (by omega)) (h j (by omega))

end Go.Proofs.YtlpabmcebpppfaaGreatDoor

namespace Go.Proofs.YtlpabmcebpppfaaGreatDoor
open Go.RowKit

/-- A slice of ints. -/
def Ints (w : World) (a : Option Addr) (b off n : Nat) (X : Nat → Int) : Prop := ∀ j, j < n → a = some ⟨b, off, none⟩ ∧ w.cell? ⟨b, off + j, none⟩ = some (.int .i64 (X j))

section
variable {w w' : World} {a : Option Addr} {b off n c : Nat} {X : Nat → Int}
theorem Ints.keep (h : Ints w a b off n X) (s : w.Since w.heap.size w') : Ints w' a b off n X := fun j hj =>
  ⟨(h j hj).1, (s.cell (a := ⟨b, off + j, none⟩) (World.block_lt_of_cell? _ _ (h j hj).2)).trans (h j hj).2⟩
end

end Go.Proofs.YtlpabmcebpppfaaGreatDoor

namespace Go.Proofs.YtlpabmcebpppfaaGreatDoor
open Go.RowKit

/-- A bool comes back, true just if p. -/
def BoolRet (e : Ending) (p : Prop) : Prop := ∃ r : Bool, e = .returned (.bool r) ∧ (r = true ↔ p)

set_option maxHeartbeats 1600000 in
set_option maxRecDepth 100000 in
theorem sizeFits_any (z : Int) (u : Bool) (w : World) : Calls Tryz.prog 136 #[.int .i64 z, .bool u] w fun e w' => BoolRet e (SzOk z u) ∧ w.Since w.heap.size w' := by
  cases u
  · go_enter Tryz.func136, Tryz.ntmps136
    go_wp2
    go_ret
    exact ⟨⟨z == 0, rfl, by simp [SzOk]⟩, World.Since.refl _ _⟩
  · by_cases h : 1 ≤ z
    · by_cases h2 : z ≤ 1000
      · go_enter Tryz.func136, Tryz.ntmps136
        go_wp2
        go_ret
        exact ⟨⟨true, rfl, by simp [SzOk, h, h2]⟩, World.Since.refl _ _⟩
      · go_enter Tryz.func136, Tryz.ntmps136
        go_wp2
        go_ret
        exact ⟨⟨false, rfl, by unfold SzOk; simp; omega⟩, World.Since.refl _ _⟩
    · go_enter Tryz.func136, Tryz.ntmps136
      go_wp2
      go_ret
      exact ⟨⟨false, rfl, by unfold SzOk; simp; omega⟩, World.Since.refl _ _⟩

set_option maxHeartbeats 3200000 in
set_option maxRecDepth 100000 in
theorem fits_any (op : Int) (ub uk us : Bool) (nums : Int) (d : NodeD) (a1 : Option Addr) (lo k1 : Nat) (w : World) (hw : 0 ≤ w.heap.size) (hT : Tab w) (hd : d.size ≤ 1048576) (H : NodL w lo d a1 k1) :
    Calls Tryz.prog 107 #[.agg #[.int .i64 op, .bool ub, .bool uk, .bool us, .int .i64 nums], .agg #[.int .i64 d.op, .int .i64 d.a, .int .i64 d.b, .int .i64 d.k, .int .i64 d.s, .slice a1 d.nv k1]] w fun e w' => BoolRet e (FitsP d ub uk us nums) ∧ w.Since w.heap.size w' := by
  have ts := hd
  unfold NodeD.size at ts
  obtain ⟨wA, eA⟩ : ∃ wA : World, wA = (w.alloc (.cells #[.int .i64 op, .bool ub, .bool uk, .bool us, .int .i64 nums] 78)).alloc (.cells #[.int .i64 d.op, .int .i64 d.a, .int .i64 d.b, .int .i64 d.k, .int .i64 d.s, .slice a1 d.nv k1] 56) := ⟨_, rfl⟩
  have sA : w.Since w.heap.size wA := by rw [eA]; exact ((World.Since.refl _ _).alloc (Nat.le_refl _) _).alloc (by simp) _
  have fA : Box5 wA w.heap.size (.int .i64 op) (.bool ub) (.bool uk) (.bool us) (.int .i64 nums) := by rw [eA]; exact (Box5.new w _ _ _ _ _ _).keep ((World.Since.refl _ _).alloc (Nat.le_refl _) _)
  have nA : Box6 wA (w.heap.size + 1) (.int .i64 d.op) (.int .i64 d.a) (.int .i64 d.b) (.int .i64 d.k) (.int .i64 d.s) (.slice a1 d.nv k1) := by
    rw [eA]
    have := Box6.new (w.alloc (.cells #[.int .i64 op, .bool ub, .bool uk, .bool us, .int .i64 nums] 78)) (.int .i64 d.op) (.int .i64 d.a) (.int .i64 d.b) (.int .i64 d.k) (.int .i64 d.s) (.slice a1 d.nv k1) 56
    simpa using this
  have EA := hide eA
  clear eA
  by_cases hx : ub = false ∧ d.b ≠ 0
  · obtain ⟨rfl, hb⟩ := hx
    go_enter Tryz.func107, Tryz.ntmps107
    go_wp2
    go_ret
    exact ⟨⟨false, rfl, by simp [FitsP, hb]⟩, by rw [← EA.out]; exact sA⟩
  have hU : ub = true ∨ (ub = false ∧ d.b = 0) := by
    cases ub
    · exact .inr ⟨rfl, by simpa using hx⟩
    · exact .inl rfl
  have hu : ub = false → d.b = 0 := by
    intro h
    rcases hU with e | e
    · rw [h] at e; cases e
    · exact e.2
  clear hx
  have HU := hide hu
  clear hu
  rcases hU with rfl | ⟨rfl, hb⟩
  focus
    go_enter Tryz.func107, Tryz.ntmps107
  rotate_left
  focus
    have hb2 : (d.b != 0) = false := by simp [hb]
    clear hb
    go_enter Tryz.func107, Tryz.ntmps107
  all_goals
    go_wp2_with fail
    rw [← EA.out]
    refine (sizeFits_any d.k uk wA).mono ?_
    rintro e w1 ⟨⟨r1, rfl, h1⟩, s1⟩
    have F1 := fA.keep s1
    have N1 := nA.keep s1
    have q3 := F1.c3
    have q4 := N1.c4
    clear EA
    cases r1
    · go_wp2
      go_ret
      exact ⟨⟨false, rfl, by simp only [Bool.false_eq_true, false_iff] at h1 ⊢; exact fun h => h1 h.2.1⟩, sA.trans (sinceMono s1 sA.size)⟩
    have Z1 := hide (h1.1 rfl)
    clear h1
    go_wp2_with fail
    refine (sizeFits_any d.s us w1).mono ?_
    rintro e w2 ⟨⟨r2, rfl, h2⟩, s2⟩
    have F2 := F1.keep s2
    have N2 := N1.keep s2
    have u2 := s1.trans (sinceMono s2 s1.size)
    have S2 := sA.trans (sinceMono u2 sA.size)
    clear q3 q4
    cases r2
    · go_wp2
      go_ret
      exact ⟨⟨false, rfl, by simp only [Bool.false_eq_true, false_iff] at h2 ⊢; exact fun h => h2 h.2.2.1⟩, S2⟩
    have Z2 := hide (h2.1 rfl)
    clear h2
    have p4 := F2.c4
    have p5 := N2.c5
    obtain ⟨bb, oo, -, LV⟩ := (H.keep S2).LV
    have J3 := allValid_any a1 lo bb oo d.nv k1 d.V w2 (Nat.zero_le _) (hT.stay hw S2) (by omega) (by omega) LV
    by_cases hn : nums = -1
    · subst hn
      go_wp2_with fail
      refine J3.mono ?_
      rintro e w3 ⟨r3, rfl, h3, s3⟩
      go_wp2
      go_ret
      exact ⟨⟨r3, rfl, h3.trans ⟨fun h => ⟨(fun h => by first | exact HU.out h | exact HU.out trivial), Z1.out, Z2.out, fun h => absurd rfl h, h⟩, fun h => h.2.2.2.2⟩⟩, S2.trans (sinceMono s3 S2.size)⟩
    by_cases hm : (d.nv : Int) = nums
    · subst hm
      go_wp2_with fail
      refine J3.mono ?_
      rintro e w3 ⟨r3, rfl, h3, s3⟩
      go_wp2
      go_ret
      exact ⟨⟨r3, rfl, h3.trans ⟨fun h => ⟨(fun h => by first | exact HU.out h | exact HU.out trivial), Z1.out, Z2.out, fun _ => rfl, h⟩, fun h => h.2.2.2.2⟩⟩, S2.trans (sinceMono s3 S2.size)⟩
    clear J3
    have n1 : (nums != -1) = true := by simp [hn]
    have n2 : ((d.nv : Int) != nums) = true := by simp [hm]
    go_wp2
    go_ret
    exact ⟨⟨false, rfl, by simp only [Bool.false_eq_true, false_iff]; exact fun h => hm (h.2.2.2.1 hn)⟩, S2⟩

end Go.Proofs.YtlpabmcebpppfaaGreatDoor

namespace Go.Proofs.YtlpabmcebpppfaaGreatDoor
open Go.RowKit

def KnowsP (va vb : Int) (n : Nat) (ub : Bool) : Prop := 0 ≤ va ∧ va < n ∧ (ub = true → 0 ≤ vb ∧ vb < n)

set_option maxHeartbeats 3200000 in
set_option maxRecDepth 100000 in
theorem knows_any (op : Int) (ub uk us : Bool) (nums v0 va vb v3 v4 : Int) (a1 : Option Addr) (nv k1 n : Nat) (w : World) :
    Calls Tryz.prog 108 #[.agg #[.int .i64 op, .bool ub, .bool uk, .bool us, .int .i64 nums], .agg #[.int .i64 v0, .int .i64 va, .int .i64 vb, .int .i64 v3, .int .i64 v4, .slice a1 nv k1], .int .i64 n] w fun e w' => BoolRet e (KnowsP va vb n ub) ∧ w.Since w.heap.size w' := by
  have sA : w.Since w.heap.size ((w.alloc (.cells #[.int .i64 op, .bool ub, .bool uk, .bool us, .int .i64 nums] 78)).alloc (.cells #[.int .i64 v0, .int .i64 va, .int .i64 vb, .int .i64 v3, .int .i64 v4, .slice a1 nv k1] 56)) := ((World.Since.refl _ _).alloc (Nat.le_refl _) _).alloc (by simp) _
  by_cases h0 : va < 0
  · go_enter Tryz.func108, Tryz.ntmps108
    go_wp2
    go_ret
    exact ⟨⟨_, rfl, by unfold KnowsP; simp <;> omega⟩, sA⟩
  by_cases h1 : (n : Int) ≤ va
  · go_enter Tryz.func108, Tryz.ntmps108
    go_wp2
    go_ret
    exact ⟨⟨_, rfl, by unfold KnowsP; simp <;> omega⟩, sA⟩
  cases ub
  · go_enter Tryz.func108, Tryz.ntmps108
    go_wp2
    go_ret
    exact ⟨⟨_, rfl, by unfold KnowsP; simp <;> omega⟩, sA⟩
  · by_cases h2 : vb < 0
    · go_enter Tryz.func108, Tryz.ntmps108
      go_wp2
      go_ret
      exact ⟨⟨_, rfl, by unfold KnowsP; simp <;> omega⟩, sA⟩
    by_cases h3 : (n : Int) ≤ vb
    · go_enter Tryz.func108, Tryz.ntmps108
      go_wp2
      go_ret
      exact ⟨⟨_, rfl, by unfold KnowsP; simp <;> omega⟩, sA⟩
    go_enter Tryz.func108, Tryz.ntmps108
    go_wp2
    go_ret
    exact ⟨⟨_, rfl, by unfold KnowsP; simp <;> omega⟩, sA⟩

end Go.Proofs.YtlpabmcebpppfaaGreatDoor

namespace Go.Proofs.YtlpabmcebpppfaaGreatDoor
open Go.RowKit

/-- x lies from a to b. -/
def InP (x a b : Int) : Prop := a ≤ x ∧ x ≤ b

set_option maxHeartbeats 1600000 in
set_option maxRecDepth 100000 in
theorem l2In_any (x a b : Int) (w : World) : Calls Tryz.prog 70 #[.int .i64 x, .int .i64 a, .int .i64 b] w fun e w' => BoolRet e (InP x a b) ∧ w' = w := by
  by_cases h : a ≤ x
  · by_cases h2 : x ≤ b
    · go_enter Tryz.func70, Tryz.ntmps70
      go_wp2
      go_ret
      exact ⟨⟨_, rfl, by unfold InP; simp <;> omega⟩, rfl⟩
    · go_enter Tryz.func70, Tryz.ntmps70
      go_wp2
      go_ret
      exact ⟨⟨_, rfl, by unfold InP; simp <;> omega⟩, rfl⟩
  · go_enter Tryz.func70, Tryz.ntmps70
    go_wp2
    go_ret
    exact ⟨⟨_, rfl, by unfold InP; simp <;> omega⟩, rfl⟩

set_option maxHeartbeats 1600000 in
set_option maxRecDepth 100000 in
theorem l2UsesK_any (z : Int) (w : World) : Calls Tryz.prog 131 #[.int .i64 z] w fun e w' => BoolRet e (usesK z = true) ∧ w' = w := by
  by_cases h1 : z = 1
  · subst h1
    go_enter Tryz.func131, Tryz.ntmps131
    go_wp2
    go_ret
    exact ⟨⟨true, rfl, by decide⟩, rfl⟩
  by_cases h5 : z = 5
  · subst h5
    go_enter Tryz.func131, Tryz.ntmps131
    go_wp2
    go_ret
    exact ⟨⟨true, rfl, by decide⟩, rfl⟩
  go_enter Tryz.func131, Tryz.ntmps131
  go_wp2
  go_ret
  exact ⟨⟨_, rfl, by unfold usesK; simp <;> omega⟩, rfl⟩

set_option maxHeartbeats 1600000 in
set_option maxRecDepth 100000 in
theorem l2UsesS_any (z : Int) (w : World) : Calls Tryz.prog 132 #[.int .i64 z] w fun e w' => BoolRet e (usesS z = true) ∧ w' = w := by
  go_enter Tryz.func132, Tryz.ntmps132
  go_wp2
  go_ret
  exact ⟨⟨_, rfl, by unfold usesS; simp <;> omega⟩, rfl⟩

set_option maxHeartbeats 1600000 in
set_option maxRecDepth 100000 in
theorem l2UsesV_any (z : Int) (w : World) : Calls Tryz.prog 133 #[.int .i64 z] w fun e w' => BoolRet e (usesV z = true) ∧ w' = w := by
  by_cases h1 : z = 1
  · subst h1
    go_enter Tryz.func133, Tryz.ntmps133
    go_wp2
    go_ret
    exact ⟨⟨true, rfl, by decide⟩, rfl⟩
  by_cases h3 : z = 3
  · subst h3
    go_enter Tryz.func133, Tryz.ntmps133
    go_wp2
    go_ret
    exact ⟨⟨true, rfl, by decide⟩, rfl⟩
  by_cases h6 : z = 6
  · subst h6
    go_enter Tryz.func133, Tryz.ntmps133
    go_wp2
    go_ret
    exact ⟨⟨true, rfl, by decide⟩, rfl⟩
  go_enter Tryz.func133, Tryz.ntmps133
  go_wp2
  go_ret
  exact ⟨⟨_, rfl, by unfold usesV; simp <;> omega⟩, rfl⟩

set_option maxHeartbeats 1600000 in
set_option maxRecDepth 100000 in
theorem l2UsesB_any (z : Int) (w : World) : Calls Tryz.prog 104 #[.int .i64 z] w fun e w' => BoolRet e (usesB z = true) ∧ w' = w := by
  go_enter Tryz.func104, Tryz.ntmps104
  go_wp2
  go_ret
  exact ⟨⟨_, rfl, by unfold usesB; simp <;> omega⟩, rfl⟩

end Go.Proofs.YtlpabmcebpppfaaGreatDoor

namespace Go.Proofs.YtlpabmcebpppfaaGreatDoor
open Go.RowKit

theorem l2UsesK_eq (z : Int) (b : Bool) (w : World) (h : usesK z = b) : Calls Tryz.prog 131 #[.int .i64 z] w fun e w' => e = .returned (.bool b) ∧ w' = w := by
  refine (l2UsesK_any z w).mono ?_
  rintro e w' ⟨⟨r, rfl, hr⟩, rfl⟩
  refine ⟨?_, rfl⟩
  have : r = b := by
    cases r
    · cases b
      · rfl
      · exact absurd (hr.2 h) (by decide)
    · rw [← h]; exact (hr.1 rfl).symm
  rw [this]

theorem l2UsesS_eq (z : Int) (b : Bool) (w : World) (h : usesS z = b) : Calls Tryz.prog 132 #[.int .i64 z] w fun e w' => e = .returned (.bool b) ∧ w' = w := by
  refine (l2UsesS_any z w).mono ?_
  rintro e w' ⟨⟨r, rfl, hr⟩, rfl⟩
  refine ⟨?_, rfl⟩
  have : r = b := by
    cases r
    · cases b
      · rfl
      · exact absurd (hr.2 h) (by decide)
    · rw [← h]; exact (hr.1 rfl).symm
  rw [this]

theorem l2UsesV_eq (z : Int) (b : Bool) (w : World) (h : usesV z = b) : Calls Tryz.prog 133 #[.int .i64 z] w fun e w' => e = .returned (.bool b) ∧ w' = w := by
  refine (l2UsesV_any z w).mono ?_
  rintro e w' ⟨⟨r, rfl, hr⟩, rfl⟩
  refine ⟨?_, rfl⟩
  have : r = b := by
    cases r
    · cases b
      · rfl
      · exact absurd (hr.2 h) (by decide)
    · rw [← h]; exact (hr.1 rfl).symm
  rw [this]

theorem l2UsesB_eq (z : Int) (b : Bool) (w : World) (h : usesB z = b) : Calls Tryz.prog 104 #[.int .i64 z] w fun e w' => e = .returned (.bool b) ∧ w' = w := by
  refine (l2UsesB_any z w).mono ?_
  rintro e w' ⟨⟨r, rfl, hr⟩, rfl⟩
  refine ⟨?_, rfl⟩
  have : r = b := by
    cases r
    · cases b
      · rfl
      · exact absurd (hr.2 h) (by decide)
    · rw [← h]; exact (hr.1 rfl).symm
  rw [this]

set_option maxHeartbeats 6400000 in
set_option maxRecDepth 100000 in
theorem l2FormOk1 (v1 v2 v3 v4 : Int) (nv : Nat) (V : Nat → RatD) (a1 : Option Addr) (lo k1 : Nat) (w : World) (hd : (NodeD.mk 1 v1 v2 v3 v4 nv V).size ≤ 1048576) (H : NodL w lo (NodeD.mk 1 v1 v2 v3 v4 nv V) a1 k1) :
    Calls Tryz.prog 103 #[.agg #[.int .i64 1, .int .i64 v1, .int .i64 v2, .int .i64 v3, .int .i64 v4, .slice a1 nv k1]] w fun e w' => BoolRet e (NodeD.mk 1 v1 v2 v3 v4 nv V).Form ∧ w.Since w.heap.size w' := by
  have ts : nv + szR V nv ≤ 1048576 := hd
  have sA : w.Since w.heap.size (w.alloc (.cells #[.int .i64 1, .int .i64 v1, .int .i64 v2, .int .i64 v3, .int .i64 v4, .slice a1 nv k1] 56)) := (World.Since.refl _ _).alloc (Nat.le_refl _) _
  have nA := Box6.new w (.int .i64 1) (.int .i64 v1) (.int .i64 v2) (.int .i64 v3) (.int .i64 v4) (.slice a1 nv k1) 56
  obtain ⟨bV, oV, -, LV⟩ := (H.keep sA).LV
  go_enter Tryz.func103, Tryz.ntmps103
  go_wp2_with fail
  generalize w.alloc (.cells #[.int .i64 1, .int .i64 v1, .int .i64 v2, .int .i64 v3, .int .i64 v4, .slice a1 nv k1] 56) = wA at *
  refine (l2In_any 1 1 7 wA).mono ?_
  rintro e w1 ⟨⟨r, rfl, hr⟩, hw1⟩
  have hw2 := hw1.symm
  clear hw1
  subst hw2
  cases r
  · exfalso
    have := hr.2 (by unfold InP; omega)
    cases this
  clear hr
  have q0 := nA.c0
  have q1 := nA.c1
  have q2 := nA.c2
  have q3 := nA.c3
  have q4 := nA.c4
  have q5 := nA.c5
  have NN : wA.Since wA.heap.size wA.drew := (World.Since.refl _ _).drew
  have nD := nA.keep NN
  have p0 := nD.c0
  have p1 := nD.c1
  have p2 := nD.c2
  have p3 := nD.c3
  have p4 := nD.c4
  have p5 := nD.c5
  have SD := sA.trans (sinceMono NN sA.size)
  have JK := l2UsesK_eq 1 true wA.drew (by decide)
  have JS := l2UsesS_eq 1 false wA.drew (by decide)
  by_cases hk : v3 = 0
  · have kq : (v3 != 0) = false := by simp [hk]
    have NF := hide (show ¬ (NodeD.mk 1 v1 v2 v3 v4 nv V).Form from fun f => by have h := f.k; have h2 : 1 ≤ v3 ∧ v3 ≤ 1000 := h; omega)
    clear hk
    go_wp2_with fail
    refine wp_region_held_drew (S := fun w' => w'.cell? ⟨w.heap.size, 0, none⟩ = some (.int .i64 1) ∧ w'.cell? ⟨w.heap.size, 3, none⟩ = some (.int .i64 v3)) (by kernel_rfl) ⟨p0, p3⟩ (fun hHeld => ?_)
    refine take_at 0 (some 7) (.pointer (some ⟨w.heap.size, 0, none⟩)) rfl (by kernel_rfl) (by kernel_rfl) (by kernel_rfl) (by kernel_rfl) (fun _ _ _ h => h) (by kernel_rfl) (by assumption) ?_ ?_
    · intro w' hSw
      clear hSw
      kernel_rfl
    simp only [Act.put, List.setIfInBounds_toArray, List.set_cons_zero, List.set_cons_succ]
    refine take_at 1 (some 8) (.int .i64 1) rfl (by kernel_rfl) (by kernel_rfl) (by kernel_rfl) (by kernel_rfl) (fun _ _ _ h => h) (by kernel_rfl) (by assumption) ?_ ?_
    · intro w' hSw
      try dsimp only at hSw
      go_simp
    simp only [Act.put, List.setIfInBounds_toArray, List.set_cons_zero, List.set_cons_succ]
    refine take_at 3 (some 10) (.pointer (some ⟨w.heap.size, 3, none⟩)) rfl (by kernel_rfl) (by kernel_rfl) (by kernel_rfl) (by kernel_rfl) (fun _ _ _ h => h) (by kernel_rfl) (by assumption) ?_ ?_
    · intro w' hSw
      clear hSw
      kernel_rfl
    simp only [Act.put, List.setIfInBounds_toArray, List.set_cons_zero, List.set_cons_succ]
    refine take_at 4 (some 11) (.int .i64 v3) rfl (by kernel_rfl) (by kernel_rfl) (by kernel_rfl) (by kernel_rfl) (fun _ _ _ h => h) (by kernel_rfl) (by assumption) ?_ ?_
    · intro w' hSw
      try dsimp only at hSw
      go_simp
    simp only [Act.put, List.setIfInBounds_toArray, List.set_cons_zero, List.set_cons_succ]
    refine take_at 5 (some 12) (.bool false) rfl (by kernel_rfl) (by kernel_rfl) (by kernel_rfl) (by kernel_rfl) (fun _ _ _ h => h) (by kernel_rfl) (by assumption) ?_ ?_
    · intro w' hSw
      try dsimp only at hSw
      go_simp
    simp only [Act.put, List.setIfInBounds_toArray, List.set_cons_zero, List.set_cons_succ]
    refine wpAnyH_ready (rs := [2]) (by kernel_rfl) (by simp) ?_
    refine AllReadyH.cons rfl (fun K hK => ?_) AllReadyH.nil
    go_simp
    go_wp2_with (go_at_call 131; with_reducible refine JK.mono ?_; rintro e w2 ⟨rfl, rfl⟩)
    refine hK.out _ _ ⟨p0, p3⟩ (fun h1 => ?_)
    clear hK K hHeld
    refine take_at 6 (some 13) (.bool true) rfl (by kernel_rfl) (by kernel_rfl) (by kernel_rfl) (by kernel_rfl) (fun _ _ _ h => h) (by kernel_rfl) (by assumption) ?_ ?_
    · intro w' hSw
      clear hSw
      kernel_rfl
    simp only [Act.put, List.setIfInBounds_toArray, List.set_cons_zero, List.set_cons_succ]
    refine take_at 7 (some 14) (.bool true) rfl (by kernel_rfl) (by kernel_rfl) (by kernel_rfl) (by kernel_rfl) (fun _ _ _ h => h) (by kernel_rfl) (by assumption) ?_ ?_
    · intro w' hSw
      clear hSw
      kernel_rfl
    simp only [Act.put, List.setIfInBounds_toArray, List.set_cons_zero, List.set_cons_succ]
    refine skip_at 8 (some 15) rfl (by kernel_rfl) (by kernel_rfl) (by kernel_rfl) (by kernel_rfl) (fun _ _ _ h => h) (by kernel_rfl) (by assumption) ?_
    simp only [Act.put, List.setIfInBounds_toArray, List.set_cons_zero, List.set_cons_succ]
    refine skip_at 9 (some 16) rfl (by kernel_rfl) (by kernel_rfl) (by kernel_rfl) (by kernel_rfl) (fun _ _ _ h => h) (by kernel_rfl) (by assumption) ?_
    simp only [Act.put, List.setIfInBounds_toArray, List.set_cons_zero, List.set_cons_succ]
    refine skip_at 10 (some 17) rfl (by kernel_rfl) (by kernel_rfl) (by kernel_rfl) (by kernel_rfl) (fun _ _ _ h => h) (by kernel_rfl) (by assumption) ?_
    simp only [Act.put, List.setIfInBounds_toArray, List.set_cons_zero, List.set_cons_succ]
    refine skip_at 11 (some 18) rfl (by kernel_rfl) (by kernel_rfl) (by kernel_rfl) (by kernel_rfl) (fun _ _ _ h => h) (by kernel_rfl) (by assumption) ?_
    simp only [Act.put, List.setIfInBounds_toArray, List.set_cons_zero, List.set_cons_succ]
    refine skip_at 12 (some 19) rfl (by kernel_rfl) (by kernel_rfl) (by kernel_rfl) (by kernel_rfl) (fun _ _ _ h => h) (by kernel_rfl) (by assumption) ?_
    simp only [Act.put, List.setIfInBounds_toArray, List.set_cons_zero, List.set_cons_succ]
    refine skip_at 13 (some 20) rfl (by kernel_rfl) (by kernel_rfl) (by kernel_rfl) (by kernel_rfl) (fun _ _ _ h => h) (by kernel_rfl) (by assumption) ?_
    simp only [Act.put, List.setIfInBounds_toArray, List.set_cons_zero, List.set_cons_succ]
    refine skip_at 14 (some 21) rfl (by kernel_rfl) (by kernel_rfl) (by kernel_rfl) (by kernel_rfl) (fun _ _ _ h => h) (by kernel_rfl) (by assumption) ?_
    simp only [Act.put, List.setIfInBounds_toArray, List.set_cons_zero, List.set_cons_succ]
    refine take_at 15 (some 22) (.bool true) rfl (by kernel_rfl) (by kernel_rfl) (by kernel_rfl) (by kernel_rfl) (fun _ _ _ h => h) (by kernel_rfl) (by assumption) ?_ ?_
    · intro w' hSw
      clear hSw
      kernel_rfl
    simp only [Act.put, List.setIfInBounds_toArray, List.set_cons_zero, List.set_cons_succ]
    refine wpAnyH_done (by kernel_rfl) ?_ _
    go_wp2
    go_ret
    exact ⟨⟨false, rfl, by simp only [Bool.false_eq_true, false_iff]; exact NF.out⟩, SD⟩
  have kq : (v3 != 0) = true := by simp [hk]
  have HK0 := hide hk
  clear hk
  by_cases hs : v4 = 0
  case neg =>
    have sq : (v4 != 0) = true := by simp [hs]
    have NF := hide (show ¬ (NodeD.mk 1 v1 v2 v3 v4 nv V).Form from fun f => by have h := f.s; have h2 : v4 = 0 := h; omega)
    clear hs
    go_wp2_with fail
    go_region_held3 (fun w' => w'.cell? ⟨w.heap.size, 0, none⟩ = some (.int .i64 1) ∧ w'.cell? ⟨w.heap.size, 3, none⟩ = some (.int .i64 v3) ∧ w'.cell? ⟨w.heap.size, 4, none⟩ = some (.int .i64 v4)) (go_keep)
      (first
        | (go_at_call 131
           with_reducible refine JK.mono ?_
           rintro e w2 ⟨rfl, rfl⟩)
        | (go_at_call 132
           with_reducible refine JS.mono ?_
           rintro e w2 ⟨rfl, rfl⟩))
    go_wp2
    go_ret
    exact ⟨⟨false, rfl, by simp only [Bool.false_eq_true, false_iff]; exact NF.out⟩, SD⟩
  have sq : (v4 != 0) = false := by simp [hs]
  have HS0 := hide hs
  clear hs
  go_wp2_with fail
  go_region_held3 (fun w' => w'.cell? ⟨w.heap.size, 0, none⟩ = some (.int .i64 1) ∧ w'.cell? ⟨w.heap.size, 3, none⟩ = some (.int .i64 v3) ∧ w'.cell? ⟨w.heap.size, 4, none⟩ = some (.int .i64 v4)) (go_keep)
    (first
      | (go_at_call 131
         with_reducible refine JK.mono ?_
         rintro e w2 ⟨rfl, rfl⟩)
      | (go_at_call 132
         with_reducible refine JS.mono ?_
         rintro e w2 ⟨rfl, rfl⟩))
  clear q0 q1 q2 q3 q4 q5 JK JS
  go_wp2_with fail
  refine (l2In_any v3 0 1000 wA.drew).mono ?_
  rintro e w2 ⟨⟨r, rfl, hr⟩, rfl⟩
  cases r
  · have NF := hide (show ¬ (NodeD.mk 1 v1 v2 v3 v4 nv V).Form from fun f => by
      have h := f.k
      have h3 : InP v3 0 1000 := by unfold InP; have h2 : 1 ≤ v3 ∧ v3 ≤ 1000 := h; omega
      have := hr.2 h3
      cases this)
    clear hr
    go_wp2
    go_ret
    exact ⟨⟨false, rfl, by simp only [Bool.false_eq_true, false_iff]; exact NF.out⟩, SD⟩
  have IK := hide (hr.1 rfl)
  clear hr
  go_wp2_with fail
  refine (l2In_any v4 0 1000 wA.drew).mono ?_
  rintro e w2 ⟨⟨r, rfl, hr⟩, rfl⟩
  cases r
  · have NF := hide (show ¬ (NodeD.mk 1 v1 v2 v3 v4 nv V).Form from fun f => by
      have h := f.s
      have h3 : InP v4 0 1000 := by unfold InP; have h2 : v4 = 0 := h; omega
      have := hr.2 h3
      cases this)
    clear hr
    go_wp2
    go_ret
    exact ⟨⟨false, rfl, by simp only [Bool.false_eq_true, false_iff]; exact NF.out⟩, SD⟩
  have IS := hide (hr.1 rfl)
  clear hr
  have JB := l2UsesB_eq 1 false wA.drew (by decide)
  go_wp2_with fail
  refine JB.mono ?_
  rintro e w2 ⟨rfl, rfl⟩
  clear JB
  by_cases hb : v2 = 0
  case neg =>
    have bq : (v2 != 0) = true := by simp [hb]
    have NF := hide (show ¬ (NodeD.mk 1 v1 v2 v3 v4 nv V).Form from fun f => hb (f.b rfl))
    clear hb
    go_wp2
    go_ret
    exact ⟨⟨false, rfl, by simp only [Bool.false_eq_true, false_iff]; exact NF.out⟩, SD⟩
  have bq : (v2 != 0) = false := by simp [hb]
  have HB0 := hide hb
  clear hb
  have JV := l2UsesV_eq 1 true wA.drew (by decide)
  go_wp2_with fail
  refine JV.mono ?_
  rintro e w2 ⟨rfl, rfl⟩
  clear JV
  have JA := l1AllOk_any a1 lo bV oV nv k1 V wA.drew (by omega) (by omega) (LV.keep NN)
  go_wp2_with fail
  refine JA.mono ?_
  rintro e w3 ⟨r, rfl, hr, s3⟩
  have HR := hide hr
  clear hr
  go_wp2
  go_ret
  exact ⟨⟨r, rfl, HR.out.trans ⟨fun h => ⟨(show (1 : Int) ≤ 1 by decide), (show (1 : Int) ≤ 7 by decide), (show 1 ≤ v3 ∧ v3 ≤ 1000 by have h : 0 ≤ v3 ∧ v3 ≤ 1000 := IK.out; have := HK0.out; omega), HS0.out, fun _ => HB0.out, fun h => (by cases h), fun h => (by cases h), fun h => (by cases h), h⟩, fun f => f.ok⟩⟩, SD.trans (sinceMono s3 SD.size)⟩

end Go.Proofs.YtlpabmcebpppfaaGreatDoor
