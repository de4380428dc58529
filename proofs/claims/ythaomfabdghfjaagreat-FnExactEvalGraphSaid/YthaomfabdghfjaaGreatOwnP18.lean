import Derived.Test.YthaomfabdghfjaaGreatOwnP17
import Derived.Test.YthaomfabdghfjaaGreatOwnP15
import Derived.Test.YthaomfabdghfjaaGreatOwnP13
import Derived.Test.YthaomfabdghfjaaGreatOwnP3
set_option maxHeartbeats 6400000
set_option maxRecDepth 100000
namespace Go.Proofs.YthaomfabdghfjaaGreat
open Go.RowKit
theorem rat_pos {f : Bool} {X Y : Nat -> Nat} {n m : Nat} (ok : xj1 f X n Y m = true) (e : f = true) (pX : 0 < n -> X (n - 1) ≠ 0) : 0 < lv X n := by
 subst e; unfold xj1 at ok
 rcases Nat.eq_zero_or_pos (lv X n) with h | h
 . have := (xw5 pX).2 h
   subst this
   simp at ok
 . exact h
theorem l1Sub_opt (f f' : Bool) (a b a' b' : Option Addr) (ba oa n ca bb ob m cb ba' oa' n' ca' bb' ob' m' cb' : Nat) (X Y X' Y' : Nat -> Nat) (w : World) (hn : n + n' + m + m' <= 16777216)
 (R : RIn w a b ba oa n ca bb ob m cb X Y) (R' : RIn w a' b' ba' oa' n' ca' bb' ob' m' cb' X' Y') (ok : xj1 f X n Y m = true) (ok' : xj1 f' X' n' Y' m' = true) :
 Calls Tryz.prog 81 #[.agg #[.bool f, .slice a n ca, .slice b m cb], .agg #[.bool f', .slice a' n' ca', .slice b' m' cb']] w fun e w' => ∃ v, e = .returned v /\
  RatV w' v (xj9 f (!f' && decide (0 < n')) (lv X n * lv Y' m') (lv X' n' * lv Y m) && xq3 f (!f' && decide (0 < n')) (lv X n * lv Y' m') (lv X' n' * lv Y m) != 0) (xq3 f (!f' && decide (0 < n')) (lv X n * lv Y' m') (lv X' n' * lv Y m) / Nat.gcd (xq3 f (!f' && decide (0 < n')) (lv X n * lv Y' m') (lv X' n' * lv Y m)) (lv Y m * lv Y' m')) ((lv Y m * lv Y' m') / Nat.gcd (xq3 f (!f' && decide (0 < n')) (lv X n * lv Y' m') (lv X' n' * lv Y m)) (lv Y m * lv Y' m')) w.heap.size 67108864 /\ w.Since w.heap.size w' := by
 have hne2 : w.heap.size + 1 + 1 ≠ w.heap.size := by omega
 obtain ⟨sA, zA, oA, pA, rA⟩ := bx w (.bool f) (.slice a n ca) (.slice b m cb) (.bool f') (.slice a' n' ca') (.slice b' m' cb') (.bool false) (.slice none 0 0) (.slice none 0 0); have m1 := R.m0; have m1' := R'.m0; obtain ⟨NN, hNN⟩ : ∃ z, z = (xj9 f (!f' && decide (0 < n')) (lv X n * lv Y' m') (lv X' n' * lv Y m) && xq3 f (!f' && decide (0 < n')) (lv X n * lv Y' m') (lv X' n' * lv Y m) != 0) := ⟨_, rfl⟩; have HNN := hide hNN; clear hNN; have J1 := l1Neg_opt f' a' b' ba' oa' n' ca' bb' ob' m' cb' X' Y' (((w.alloc (.cells #[.bool f, .slice a n ca, .slice b m cb] 70)).alloc (.cells #[.bool f', .slice a' n' ca', .slice b' m' cb'] 70)).alloc (.cells #[.bool false, .slice none 0 0, .slice none 0 0] 70)).drew (by omega) (by omega) R'.nc R'.mc R'.ac R'.bc (R'.keep (xq6 sA)).LX (R'.keep (xq6 sA)).LY; go_enter Tryz.func81, Tryz.ntmps81; have k := And.intro oA.cells pA.cells; go_wp2_with fail; generalize (((w.alloc (.cells #[.bool f, .slice a n ca, .slice b m cb] 70)).alloc (.cells #[.bool f', .slice a' n' ca', .slice b' m' cb'] 70)).alloc (.cells #[.bool false, .slice none 0 0, .slice none 0 0] 70)) = w1 at *
 go_region_held3 (fun w' => w'.cell? ⟨w.heap.size, 0, none⟩ = some (.bool f) /\ w'.cell? ⟨w.heap.size, 1, none⟩ = some (.slice a n ca) /\ w'.cell? ⟨w.heap.size, 2, none⟩ = some (.slice b m cb) /\ w'.cell? ⟨w.heap.size + 1, 0, none⟩ = some (.bool f') /\ w'.cell? ⟨w.heap.size + 1, 1, none⟩ = some (.slice a' n' ca') /\ w'.cell? ⟨w.heap.size + 1, 2, none⟩ = some (.slice b' m' cb')) (go_keep)
  (first
    | (go_at_call 120
       with_reducible refine J1.mono ?_
       rintro e w2 ⟨g, h, c1, c2, rfl, v1, v2, L1, L2, b1, b2, b3, s2⟩; have S2 : w.Since w.heap.size w2 := (xq6 sA).trans (sM s2 sA.size); have o2 := oA.drew.keep s2; have p2 := pA.drew.keep s2; have r2 := rA.drew.keep s2; have kk := And.intro o2.cells p2.cells; have R2 : RIn w2 (some ⟨g, 0, none⟩) (some ⟨h, 0, none⟩) g 0 n' c1 h 0 m' c2 X' Y' := ⟨v1, v2, fun h => (by cases h), fun h => (by cases h), L1, L2, R'.lX, R'.lY, R'.pX, R'.pY, R'.m0⟩; have J2 := l1Add_opt f (!f' && decide (0 < n')) a b (some ⟨g, 0, none⟩) (some ⟨h, 0, none⟩) ba oa n ca bb ob m cb g 0 n' c1 h 0 m' c2 X Y X' Y' w2 hn (R.keep S2) R2 ok (ratOk_neg ok'); rw [<- HNN.out] at J2)
    | (go_at_call 110
       with_reducible refine J2.mono ?_
       rintro e w6 ⟨v, rfl, ⟨x1, x2, g6, h6, rfl, N6, D6, y1, y2, y3⟩, s6⟩; have N6' := N6; have D6' := D6; obtain ⟨a1, q1, d1, Y1, rfl, -⟩ := N6; obtain ⟨a2, q2, d2, Y2, rfl, -⟩ := D6; have kk := And.intro (o2.keep s6).cells (p2.keep s6).cells; have rB := r2.keep s6; have u0 := rB.c0; have u1 := rB.c1; have u2 := rB.c2; have uf0 := rB.f 0; have uf1 := rB.f 1; have uf2 := rB.f 2))
 all_goals go_wp2
 all_goals
  have S6 := S2.trans (sM s6 S2.size); have zr := r2.lt; have rC := ((rB.set0 (.bool NN)).set1 (.slice a1 q1 d1)).set2 (.slice a2 q2 d2); refine bodyPost_ret (rb3 rfl _ _ _ _ _ _ rfl rC) rfl ?_; have M : xq0 w6 _ (w.heap.size + 1 + 1) := (((xq0.refl w6 _).setCell 0 (.bool NN)).setCell 1 (.slice a1 q1 d1)).setCell 2 (.slice a2 q2 d2); exact ⟨_, rfl, ⟨_, _, g6, h6, by rw [HNN.out], N6'.marked M (by omega), D6'.marked M (by omega), by omega, by omega, y3⟩, S6.trans (M.since (by omega))⟩
theorem l1Cmp_opt (f f' : Bool) (a b a' b' : Option Addr) (ba oa n ca bb ob m cb ba' oa' n' ca' bb' ob' m' cb' : Nat) (X Y X' Y' : Nat -> Nat) (w : World) (hn : n + n' + m + m' <= 16777216)
 (R : RIn w a b ba oa n ca bb ob m cb X Y) (R' : RIn w a' b' ba' oa' n' ca' bb' ob' m' cb' X' Y') (ok : xj1 f X n Y m = true) (ok' : xj1 f' X' n' Y' m' = true) :
 Calls Tryz.prog 47 #[.agg #[.bool f, .slice a n ca, .slice b m cb], .agg #[.bool f', .slice a' n' ca', .slice b' m' cb']] w fun e w' => e = .returned (.int .i64 (cmpR f f' (lv X n * lv Y' m') (lv X' n' * lv Y m))) /\ w.Since w.heap.size w' := by
 have sA : w.Since w.heap.size ((w.alloc (.cells #[.bool f, .slice a n ca, .slice b m cb] 70)).alloc (.cells #[.bool f', .slice a' n' ca', .slice b' m' cb'] 70)) := ((World.Since.refl _ _).alloc (Nat.le_refl _) _).alloc (by simp) _; have zA : ((w.alloc (.cells #[.bool f, .slice a n ca, .slice b m cb] 70)).alloc (.cells #[.bool f', .slice a' n' ca', .slice b' m' cb'] 70)).heap.size = w.heap.size + 1 + 1 := by simp
 have oA : Box3 ((w.alloc (.cells #[.bool f, .slice a n ca, .slice b m cb] 70)).alloc (.cells #[.bool f', .slice a' n' ca', .slice b' m' cb'] 70)) w.heap.size (.bool f) (.slice a n ca) (.slice b m cb) := (Box3.new w _ _ _ _).keep ((World.Since.refl _ _).alloc (Nat.le_refl _) _)
 have pA : Box3 ((w.alloc (.cells #[.bool f, .slice a n ca, .slice b m cb] 70)).alloc (.cells #[.bool f', .slice a' n' ca', .slice b' m' cb'] 70)) (w.heap.size + 1) (.bool f') (.slice a' n' ca') (.slice b' m' cb') := by
  have := Box3.new (w.alloc (.cells #[.bool f, .slice a n ca, .slice b m cb] 70)) (.bool f') (.slice a' n' ca') (.slice b' m' cb') 70
  simpa using this
 have hX0 : f = true -> 0 < lv X n * lv Y' m' := fun e => Nat.mul_pos (rat_pos ok e R.pX) R'.den
 have hX1 : f' = true -> 0 < lv X' n' * lv Y m := fun e => Nat.mul_pos (rat_pos ok' e R'.pX) R.den
 have hX2 : 0 < n' ↔ 0 < lv X' n' * lv Y m := by
  have h1 := xw5 R'.pX
  constructor
  . intro h; exact Nat.mul_pos (by omega) R.den
  . intro h
    rcases Nat.eq_zero_or_pos n' with e | e
    . rw [h1.1 e, Nat.zero_mul] at h; omega
    . exact e
 have hDD := Nat.mul_pos R.den R'.den; obtain ⟨z, hz⟩ : ∃ z, z = cmpR f f' (lv X n * lv Y' m') (lv X' n' * lv Y m) := ⟨_, rfl⟩; have HZ := hide hz; clear hz; have k := And.intro oA.cells pA.cells; have J1 := l1Sub_opt f f' a b a' b' ba oa n ca bb ob m cb ba' oa' n' ca' bb' ob' m' cb' X Y X' Y' ((w.alloc (.cells #[.bool f, .slice a n ca, .slice b m cb] 70)).alloc (.cells #[.bool f', .slice a' n' ca', .slice b' m' cb'] 70)) hn (R.keep sA) (R'.keep sA) ok ok'; go_enter Tryz.func47, Tryz.ntmps47; go_wp2_with fail; generalize ((w.alloc (.cells #[.bool f, .slice a n ca, .slice b m cb] 70)).alloc (.cells #[.bool f', .slice a' n' ca', .slice b' m' cb'] 70)) = w1 at *; refine J1.mono ?_; rintro e w2 ⟨v, rfl, ⟨x1, x2, g6, h6, rfl, N6, D6, y1, y2, y3⟩, s2⟩; have S2 := sA.trans (sM s2 sA.size); obtain ⟨a1, q1, d1, Y1, rfl, -, -, -, -, -, -, tp, ev⟩ := N6; obtain ⟨a2, q2, d2, Y2, rfl, -⟩ := D6; have hq : q1 = 0 ↔ xq3 f (!f' && decide (0 < n')) (lv X n * lv Y' m') (lv X' n' * lv Y m) = 0 := (xw5 tp).trans (by rw [ev]; exact div_gcd_zero hDD); have HC := hide (sign_cmp f f' _ _ n' q1 hX0 hX1 hX2 hq); have J2 := l1Sign_any (xj9 f (!f' && decide (0 < n')) (lv X n * lv Y' m') (lv X' n' * lv Y m) && xq3 f (!f' && decide (0 < n')) (lv X n * lv Y' m') (lv X' n' * lv Y m) != 0) a1 a2 q1 d1 q2 d2 w2; rw [HC.out, <- HZ.out] at J2; clear J1 HC hq hX0 hX1 hX2 tp ev k; go_wp2_with fail; refine J2.mono ?_; rintro e w3 ⟨rfl, s3⟩; go_wp2; go_ret; exact ⟨xq7 HZ.out, S2.trans (sM s3 S2.size)⟩
def qn (q : Rat) : Bool := decide (q.num < 0)
theorem q_norm (s : Int) (d : Nat) (hd : d ≠ 0) : qn (Rat.normalize s d hd) = decide (s < 0) /\ (Rat.normalize s d hd).num.natAbs = s.natAbs / Nat.gcd s.natAbs d /\ (Rat.normalize s d hd).den = d / Nat.gcd s.natAbs d := by
 have hg : 0 < Nat.gcd s.natAbs d := Nat.gcd_pos_of_pos_right _ (by omega); rw [Rat.normalize_eq]; obtain ⟨k, hk⟩ := Nat.gcd_dvd_left s.natAbs d
 have hs : ∃ t : Int, s = (Nat.gcd s.natAbs d : Int) * t := by
  have : ((Nat.gcd s.natAbs d : Nat) : Int) ∣ s := Int.ofNat_dvd_left.2 (Nat.gcd_dvd_left _ _); exact this
 obtain ⟨t, ht⟩ := hs; have hgi : (0 : Int) < (Nat.gcd s.natAbs d : Int) := by omega
 have hq : s / (Nat.gcd s.natAbs d : Int) = t := by
  have h1 := Int.mul_ediv_cancel_left t (show (Nat.gcd s.natAbs d : Int) ≠ 0 by omega); rw [<- ht] at h1; exact h1
 refine ⟨?_, ?_, rfl⟩
 . unfold qn
   show decide (s / (Nat.gcd s.natAbs d : Int) < 0) = _
   rw [hq, decide_eq_decide]
   constructor
   . intro h
     rw [ht]; exact Int.mul_neg_of_pos_of_neg hgi h
   . intro h
     rcases Int.lt_or_le t 0 with e | e
     . exact e
     . have := Int.mul_nonneg (Int.le_of_lt hgi) e
       omega
 . show (s / (Nat.gcd s.natAbs d : Int)).natAbs = _
   rw [hq]
   have h2 : s.natAbs = Nat.gcd s.natAbs d * t.natAbs := by
    have := congrArg Int.natAbs ht; rw [Int.natAbs_mul, Int.natAbs_natCast] at this; exact this
   rw [Nat.div_eq_of_eq_mul_right hg h2]
theorem num_of (q : Rat) : q.num = if qn q then -(q.num.natAbs : Int) else (q.num.natAbs : Int) := by
 unfold qn
 by_cases h : q.num < 0
 . simp [h]; omega
 . simp [h]; omega
theorem qn_pos {q : Rat} (h : qn q = true) : 0 < q.num.natAbs := by
 unfold qn at h; have := of_decide_eq_true h; omega
theorem mulInt (f f' : Bool) (x y : Nat) : decide ((if f then -(x : Int) else x) * (if f' then -(y : Int) else y) < 0) = ((f != f') && x * y != 0) /\ ((if f then -(x : Int) else x) * (if f' then -(y : Int) else y)).natAbs = x * y := by
 constructor
 . rw [Bool.eq_iff_iff, decide_eq_true_iff]
   have hc : (x : Int) * (y : Int) = ((x * y : Nat) : Int) := by simp
   cases f <;> cases f' <;> simp only [if_true, if_false, Bool.false_eq_true, Int.neg_mul, Int.mul_neg, Int.neg_neg, hc] <;> generalize x * y = z <;> simp <;> omega
 . rw [Int.natAbs_mul]
   cases f <;> cases f' <;> simp
theorem sumInt (f f' : Bool) (x y : Nat) (hf : f = true -> 0 < x) (hf' : f' = true -> 0 < y) : decide ((if f then -(x : Int) else x) + (if f' then -(y : Int) else y) < 0) = (xj9 f f' x y && xq3 f f' x y != 0) /\ ((if f then -(x : Int) else x) + (if f' then -(y : Int) else y)).natAbs = xq3 f f' x y := by
 unfold xj9 xq3
 constructor
 . rw [Bool.eq_iff_iff, decide_eq_true_iff]
   cases f <;> cases f' <;> simp
   . omega
   . by_cases h : x < y <;> simp [h] <;> omega
   . by_cases h : x < y <;> simp [h] <;> omega
   . have := hf rfl; omega
 . cases f <;> cases f' <;> simp
   . omega
   . by_cases h : x < y <;> simp [h] <;> omega
   . by_cases h : x < y <;> simp [h] <;> omega
   . omega
theorem q_mul (p q : Rat) : qn (p * q) = ((qn p != qn q) && p.num.natAbs * q.num.natAbs != 0) /\ (p * q).num.natAbs = p.num.natAbs * q.num.natAbs / Nat.gcd (p.num.natAbs * q.num.natAbs) (p.den * q.den) /\ (p * q).den = p.den * q.den / Nat.gcd (p.num.natAbs * q.num.natAbs) (p.den * q.den) := by
 rw [Rat.mul_def]; have h := q_norm (p.num * q.num) (p.den * q.den) (Nat.mul_ne_zero p.den_nz q.den_nz); have hm := mulInt (qn p) (qn q) p.num.natAbs q.num.natAbs; rw [<- num_of, <- num_of] at hm; rw [hm.1, hm.2] at h; exact h
theorem q_add (p q : Rat) : qn (p + q) = (xj9 (qn p) (qn q) (p.num.natAbs * q.den) (q.num.natAbs * p.den) && xq3 (qn p) (qn q) (p.num.natAbs * q.den) (q.num.natAbs * p.den) != 0) /\
 (p + q).num.natAbs = xq3 (qn p) (qn q) (p.num.natAbs * q.den) (q.num.natAbs * p.den) / Nat.gcd (xq3 (qn p) (qn q) (p.num.natAbs * q.den) (q.num.natAbs * p.den)) (p.den * q.den) /\
 (p + q).den = p.den * q.den / Nat.gcd (xq3 (qn p) (qn q) (p.num.natAbs * q.den) (q.num.natAbs * p.den)) (p.den * q.den) := by
 rw [Rat.add_def]; have h := q_norm (p.num * q.den + q.num * p.den) (p.den * q.den) (Nat.mul_ne_zero p.den_nz q.den_nz); have hm := sumInt (qn p) (qn q) (p.num.natAbs * q.den) (q.num.natAbs * p.den) (fun e => Nat.mul_pos (qn_pos e) (Nat.pos_of_ne_zero q.den_nz)) (fun e => Nat.mul_pos (qn_pos e) (Nat.pos_of_ne_zero p.den_nz))
 have e1 : p.num * (q.den : Int) = if qn p then -((p.num.natAbs * q.den : Nat) : Int) else ((p.num.natAbs * q.den : Nat) : Int) := by
  conv => lhs; rw [num_of p]
  cases qn p <;> simp [Int.neg_mul]
 have e2 : q.num * (p.den : Int) = if qn q then -((q.num.natAbs * p.den : Nat) : Int) else ((q.num.natAbs * p.den : Nat) : Int) := by
  conv => lhs; rw [num_of q]
  cases qn q <;> simp [Int.neg_mul]
 rw [<- e1, <- e2] at hm; rw [hm.1, hm.2] at h; exact h
theorem q_inv (q : Rat) (h : q.num.natAbs ≠ 0) : qn q⁻¹ = qn q /\ q⁻¹.num.natAbs = q.den /\ q⁻¹.den = q.num.natAbs := by
 have h0 : q.num ≠ 0 := by omega
 refine ⟨?_, ?_, ?_⟩
 . unfold qn
   rw [Rat.num_inv, decide_eq_decide]; have hd : (0 : Int) < q.den := by have := q.den_nz; omega
   rcases Int.lt_or_lt_of_ne h0 with e | e
   . rw [Int.sign_eq_neg_one_of_neg e]; omega
   . rw [Int.sign_eq_one_of_pos e]; omega
 . rw [Rat.num_inv, Int.natAbs_mul, Int.natAbs_natCast]
   rcases Int.lt_or_lt_of_ne h0 with e | e
   . rw [Int.sign_eq_neg_one_of_neg e]; simp
   . rw [Int.sign_eq_one_of_pos e]; simp
 . rw [Rat.den_inv, if_neg h0]
theorem q_div (p q : Rat) (h : q.num.natAbs ≠ 0) : qn (p / q) = ((qn p != qn q) && p.num.natAbs * q.den != 0) /\ (p / q).num.natAbs = p.num.natAbs * q.den / Nat.gcd (p.num.natAbs * q.den) (p.den * q.num.natAbs) /\ (p / q).den = p.den * q.num.natAbs / Nat.gcd (p.num.natAbs * q.den) (p.den * q.num.natAbs) := by
 rw [Rat.div_def]; have h1 := q_mul p q⁻¹; obtain ⟨i1, i2, i3⟩ := q_inv q h; rw [i1, i2, i3] at h1; exact h1
def qcmp (p q : Rat) : Int := if p < q then -1 else if q < p then 1 else 0
theorem q_cmp (p q : Rat) : cmpR (qn p) (qn q) (p.num.natAbs * q.den) (q.num.natAbs * p.den) = qcmp p q := by
 have e1 : p.num * (q.den : Int) = if qn p then -((p.num.natAbs * q.den : Nat) : Int) else ((p.num.natAbs * q.den : Nat) : Int) := by
  conv => lhs; rw [num_of p]
  cases qn p <;> simp [Int.neg_mul]
 have e2 : q.num * (p.den : Int) = if qn q then -((q.num.natAbs * p.den : Nat) : Int) else ((q.num.natAbs * p.den : Nat) : Int) := by
  conv => lhs; rw [num_of q]
  cases qn q <;> simp [Int.neg_mul]
 have h1 : qn p = true -> 0 < p.num.natAbs * q.den := fun e => Nat.mul_pos (qn_pos e) (Nat.pos_of_ne_zero q.den_nz)
 have h2 : qn q = true -> 0 < q.num.natAbs * p.den := fun e => Nat.mul_pos (qn_pos e) (Nat.pos_of_ne_zero p.den_nz)
 unfold qcmp cmpR; simp only [Rat.lt_iff, e1, e2]; generalize p.num.natAbs * q.den = x at *; generalize q.num.natAbs * p.den = y at *; clear e1 e2; unfold cmpN; cases hp : qn p <;> cases hq : qn q <;> simp [hp, hq] at h1 h2 ⊢ <;> (repeat' split) <;> omega
def RatR (w : World) (v : Value) (q : Rat) : Prop :=
 ∃ a n ca b m cb ba oa bb ob X Y, v = .agg #[.bool (qn q), .slice a n ca, .slice b m cb] /\ RIn w a b ba oa n ca bb ob m cb X Y /\ lv X n = q.num.natAbs /\ lv Y m = q.den
theorem RatR.keep {w w' : World} {v : Value} {q : Rat} (h : RatR w v q) (s : w.Since w.heap.size w') : RatR w' v q := by
 obtain ⟨a, n, ca, b, m, cb, ba, oa, bb, ob, X, Y, h1, h2, h3⟩ := h; exact ⟨a, n, ca, b, m, cb, ba, oa, bb, ob, X, Y, h1, h2.keep s, h3⟩
def Qb (q : Rat) (k : Nat) : Prop := q.num.natAbs < 4294967296 ^ k /\ q.den < 4294967296 ^ k
theorem Qb.more {q : Rat} {k l : Nat} (h : Qb q k) (hk : k <= l) : Qb q l :=
 ⟨Nat.lt_of_lt_of_le h.1 (Nat.pow_le_pow_right (by decide) hk), Nat.lt_of_lt_of_le h.2 (Nat.pow_le_pow_right (by decide) hk)⟩
theorem xz3 {X : Nat -> Nat} {n k : Nat} (h0 : 0 < n -> X (n - 1) ≠ 0) (h : lv X n < 4294967296 ^ k) : n <= k := by
 rcases Nat.lt_or_ge k n with e | e
 . exfalso
   have h1 : 0 < n := by omega
   have h2 := lv_ge X n h1 (h0 h1); rw [Nat.pow_mul, show (2 : Nat) ^ 32 = 4294967296 by decide] at h2; have h3 : (4294967296 : Nat) ^ k <= 4294967296 ^ (n - 1) := Nat.pow_le_pow_right (by decide) (by omega); omega
 . exact e
theorem Qb.mul {p q : Rat} {k l : Nat} (h : Qb p k) (h' : Qb q l) : Qb (p * q) (k + l) := by
 obtain ⟨-, e2, e3⟩ := q_mul p q; unfold Qb; rw [e2, e3, Nat.pow_add]; exact ⟨Nat.lt_of_le_of_lt (Nat.div_le_self _ _) (Nat.mul_lt_mul'' h.1 h'.1), Nat.lt_of_le_of_lt (Nat.div_le_self _ _) (Nat.mul_lt_mul'' h.2 h'.2)⟩
theorem sumTop_le (f f' : Bool) (x y : Nat) : xq3 f f' x y <= x + y := by
 unfold xq3
 split
 . omega
 . split <;> omega
theorem Qb.add {p q : Rat} {k l : Nat} (h : Qb p k) (h' : Qb q l) : Qb (p + q) (k + l + 1) := by
 obtain ⟨-, e2, e3⟩ := q_add p q; unfold Qb; rw [e2, e3, Nat.pow_succ, Nat.pow_add]; have h1 := Nat.mul_lt_mul'' h.1 h'.2; have h2 := Nat.mul_lt_mul'' h'.1 h.2; have h3 := Nat.mul_lt_mul'' h.2 h'.2; rw [Nat.mul_comm (4294967296 ^ l)] at h2; generalize 4294967296 ^ k * 4294967296 ^ l = B at *; have h4 := sumTop_le (qn p) (qn q) (p.num.natAbs * q.den) (q.num.natAbs * p.den); refine ⟨Nat.lt_of_le_of_lt (Nat.div_le_self _ _) (by omega), Nat.lt_of_le_of_lt (Nat.div_le_self _ _) (by omega)⟩
theorem Qb.div {p q : Rat} {k l : Nat} (h : Qb p k) (h' : Qb q l) (h0 : q.num.natAbs ≠ 0) : Qb (p / q) (k + l) := by
 obtain ⟨-, e2, e3⟩ := q_div p q h0; unfold Qb; rw [e2, e3, Nat.pow_add]; exact ⟨Nat.lt_of_le_of_lt (Nat.div_le_self _ _) (Nat.mul_lt_mul'' h.1 h'.2), Nat.lt_of_le_of_lt (Nat.div_le_self _ _) (Nat.mul_lt_mul'' h.2 h'.1)⟩
theorem RIn.ok {w : World} {a b : Option Addr} {ba oa n ca bb ob m cb : Nat} {X Y : Nat -> Nat} {q : Rat} (R : RIn w a b ba oa n ca bb ob m cb X Y) (h1 : lv X n = q.num.natAbs) (h2 : lv Y m = q.den) : xj1 (qn q) X n Y m = true := by
 have p1 := xk3.2 R.pX; have p2 := xk3.2 R.pY; have m0 := R.m0; have g : Nat.gcd (lv X n) (lv Y m) = 1 := by rw [h1, h2]; exact q.reduced
 have hz : (qn q && n == 0) = false := by
  cases hq : qn q
  . rfl
  . have := qn_pos hq
    rw [<- h1] at this; have h3 := xw5 R.pX; have : n ≠ 0 := by intro e; have := h3.1 e; omega
    simp [this]
 unfold xj1; rw [p1, p2, g, hz]
 simp
 omega
theorem l1Add_q {v v' : Value} {p q : Rat} {k l : Nat} {w : World} (hp : Qb p k) (hq : Qb q l) (hk : 2 * k + 2 * l <= 16777216) (R : RatR w v p) (R' : RatR w v' q) :
 Calls Tryz.prog 110 #[v, v'] w fun e w' => ∃ u, e = .returned u /\ RatV w' u (qn (p + q)) (p + q).num.natAbs (p + q).den w.heap.size 67108864 /\ w.Since w.heap.size w' := by
 obtain ⟨a, n, ca, b, m, cb, ba, oa, bb, ob, X, Y, rfl, R, x1, x2⟩ := R; obtain ⟨a', n', ca', b', m', cb', ba', oa', bb', ob', X', Y', rfl, R', y1, y2⟩ := R'; have n1 := xz3 R.pX (by rw [x1]; exact hp.1); have n2 := xz3 R.pY (by rw [x2]; exact hp.2); have n3 := xz3 R'.pX (by rw [y1]; exact hq.1); have n4 := xz3 R'.pY (by rw [y2]; exact hq.2); have J := l1Add_opt (qn p) (qn q) a b a' b' ba oa n ca bb ob m cb ba' oa' n' ca' bb' ob' m' cb' X Y X' Y' w (by omega) R R' (R.ok x1 x2) (R'.ok y1 y2); obtain ⟨e1, e2, e3⟩ := q_add p q; rw [x1, x2, y1, y2, <- e1, <- e2, <- e3] at J; exact J
theorem den_cast_ne (q : Rat) : (q.den : Rat) ≠ 0 := fun h => q.den_nz (by
 have h2 : ((q.den : Int) : Rat) = ((0 : Int) : Rat) := h; exact Int.ofNat_inj.1 (Rat.intCast_inj.1 h2))
theorem rat_mul_den (q : Rat) : q * (q.den : Rat) = (q.num : Rat) := by
 have h : q = (q.num : Rat) / (q.den : Rat) := by rw [<- Rat.mkRat_eq_div, Rat.mkRat_self]
 have h2 : (q.num : Rat) / (q.den : Rat) * (q.den : Rat) = (q.num : Rat) := Rat.div_mul_cancel (den_cast_ne q)
 rwa [<- h] at h2
def Rep (q : Rat) (T D : Nat) : Prop := ∃ t : Int, q * (D : Rat) = (t : Rat) /\ t.natAbs <= T
theorem Rep.base (q : Rat) : Rep q q.num.natAbs q.den := by
 refine ⟨q.num, ?_, Nat.le_refl _⟩; exact rat_mul_den q
theorem Rep.more {q : Rat} {T T' D : Nat} (h : Rep q T D) (hT : T <= T') : Rep q T' D := by
 obtain ⟨t, h1, h2⟩ := h; exact ⟨t, h1, Nat.le_trans h2 hT⟩
theorem Rep.add {p q : Rat} {T T' D : Nat} (h : Rep p T D) (h' : Rep q T' D) : Rep (p + q) (T + T') D := by
 obtain ⟨t, h1, h2⟩ := h; obtain ⟨u, h3, h4⟩ := h'; refine ⟨t + u, by rw [Rat.add_mul, h1, h3, Rat.intCast_add], ?_⟩; exact Nat.le_trans (Int.natAbs_add_le t u) (Nat.add_le_add h2 h4)
theorem Rep.mul {p q : Rat} {T T' D D' : Nat} (h : Rep p T D) (h' : Rep q T' D') : Rep (p * q) (T * T') (D * D') := by
 obtain ⟨t, h1, h2⟩ := h; obtain ⟨u, h3, h4⟩ := h'; refine ⟨t * u, ?_, by rw [Int.natAbs_mul]; exact Nat.mul_le_mul h2 h4⟩; rw [Rat.natCast_mul, Rat.intCast_mul, <- h1, <- h3]; rw [Rat.mul_assoc, Rat.mul_assoc, <- Rat.mul_assoc q, <- Rat.mul_assoc (D : Rat), Rat.mul_comm q (D : Rat)]
theorem Rep.up {q : Rat} {T D : Nat} (h : Rep q T D) (E : Nat) : Rep q (T * E) (D * E) := by
 obtain ⟨t, h1, h2⟩ := h; refine ⟨t * E, ?_, by rw [Int.natAbs_mul]; exact Nat.mul_le_mul h2 (by simp)⟩; rw [Rat.natCast_mul, Rat.intCast_mul, <- Rat.mul_assoc, h1]
 rfl
theorem Rep.bound {q : Rat} {T D : Nat} (h : Rep q T D) (hD : 0 < D) : q.num.natAbs <= T /\ q.den <= D := by
 obtain ⟨t, h1, h2⟩ := h
 have e : q.num * (D : Int) = t * (q.den : Int) := by
  have h3 : q * (D : Rat) * (q.den : Rat) = (t : Rat) * (q.den : Rat) := by rw [h1]
  rw [Rat.mul_assoc, Rat.mul_comm (D : Rat), <- Rat.mul_assoc, rat_mul_den] at h3
  have h4 : ((q.num * (D : Int) : Int) : Rat) = ((t * (q.den : Int) : Int) : Rat) := by
   rw [Rat.intCast_mul, Rat.intCast_mul]; exact h3
  exact Rat.intCast_inj.1 h4
 have e2 : q.num.natAbs * D = t.natAbs * q.den := by
  have := congrArg Int.natAbs e
  rwa [Int.natAbs_mul, Int.natAbs_mul, Int.natAbs_natCast, Int.natAbs_natCast] at this
 have hd : q.den ∣ D := by
  have h5 : q.den ∣ q.num.natAbs * D := ⟨t.natAbs, by rw [e2, Nat.mul_comm]⟩; exact Nat.Coprime.dvd_of_dvd_mul_left (Nat.Coprime.symm q.reduced) h5
 refine ⟨?_, Nat.le_of_dvd hD hd⟩; obtain ⟨c, rfl⟩ := hd
 have hc : 0 < c := by
  rcases Nat.eq_zero_or_pos c with h | h
  . subst h; simp at hD
  . exact h
 have hq : 0 < q.den := q.den_pos
 have e3 : t.natAbs = q.num.natAbs * c := by
  have : q.den * (q.num.natAbs * c) = q.den * t.natAbs := by rw [Nat.mul_comm q.den t.natAbs, <- e2, Nat.mul_left_comm]
  exact (Nat.eq_of_mul_eq_mul_left hq this).symm
 have : q.num.natAbs <= q.num.natAbs * c := Nat.le_mul_of_pos_right _ hc; omega
theorem Rep.qb {q : Rat} {T D k : Nat} (h : Rep q T D) (hD : 0 < D) (h1 : T < 4294967296 ^ k) (h2 : D < 4294967296 ^ k) : Qb q k :=
 ⟨Nat.lt_of_le_of_lt (h.bound hD).1 h1, Nat.lt_of_le_of_lt (h.bound hD).2 h2⟩
def dens (q : Nat -> Rat) : Nat -> Nat
 | 0 => 1
 | n + 1 => dens q n * (q n).den
def nums (q : Nat -> Rat) : Nat -> Nat
 | 0 => 1
 | n + 1 => nums q n * ((q n).num.natAbs + 1)
theorem dens_pos (q : Nat -> Rat) (n : Nat) : 0 < dens q n := by
 induction n with
 | zero => exact Nat.one_pos
 | succ n ih => exact Nat.mul_pos ih (q n).den_pos
theorem nums_pos (q : Nat -> Rat) (n : Nat) : 0 < nums q n := by
 induction n with
 | zero => exact Nat.one_pos
 | succ n ih => exact Nat.mul_pos ih (Nat.succ_pos _)
theorem yx3 (q : Nat -> Rat) {k n : Nat} (h : k < n) : (q k).den ∣ dens q n := by
 induction n with
 | zero => omega
 | succ n ih =>
   rcases Nat.lt_succ_iff_lt_or_eq.1 h with h | h
   . exact Nat.dvd_trans (ih h) ⟨_, rfl⟩
   . subst h; exact ⟨dens q k, Nat.mul_comm _ _⟩
theorem nums_le (q : Nat -> Rat) {k n : Nat} (h : k < n) : (q k).num.natAbs + 1 <= nums q n := by
 induction n with
 | zero => omega
 | succ n ih =>
   rcases Nat.lt_succ_iff_lt_or_eq.1 h with h | h
   . exact Nat.le_trans (ih h) (Nat.le_mul_of_pos_right _ (Nat.succ_pos _))
   . subst h; exact Nat.le_mul_of_pos_left _ (nums_pos q k)
def sumN (q : Nat -> Rat) (a : Nat) : Nat -> Nat
 | 0 => 0
 | j + 1 => sumN q a j + (q (a + j)).num.natAbs
theorem sumN_front (q : Nat -> Rat) (a b j : Nat) : sumN q a (b + j) = sumN q a b + sumN q (a + b) j := by
 induction j with
 | zero => simp [sumN]
 | succ j ih => rw [<- Nat.add_assoc, sumN, sumN, ih, Nat.add_assoc a b j, Nat.add_assoc]
theorem sumN_part (q : Nat -> Rat) {a j n : Nat} (h : a + j <= n) : sumN q a j <= sumN q 0 n := by
 have h1 := sumN_front q 0 a j; have h2 := sumN_front q 0 (a + j) (n - (a + j)); rw [show a + j + (n - (a + j)) = n by omega] at h2; rw [Nat.zero_add] at h1; omega
theorem sumN_nums (q : Nat -> Rat) (n : Nat) : sumN q 0 n + 1 <= nums q n := by
 induction n with
 | zero => exact Nat.le_refl _
 | succ n ih =>
   unfold sumN nums; rw [Nat.zero_add, Nat.mul_add, Nat.mul_one]; have := Nat.le_mul_of_pos_left (q n).num.natAbs (nums_pos q n); omega
def psum (b : Rat) (w v : Nat -> Rat) : Nat -> Rat
 | 0 => b
 | j + 1 => psum b w v j + w j * v j
theorem Rep.term {p q : Rat} {T D E : Nat} (h : Rep q T D) (hp : p.den ∣ E) : Rep (p * q) (p.num.natAbs * T * E) (D * E) := by
 obtain ⟨Y, rfl⟩ := hp; have h1 := ((Rep.base p).mul h).up Y; rw [show p.den * D * Y = D * (p.den * Y) by rw [Nat.mul_comm p.den D, Nat.mul_assoc]] at h1; exact h1.more (Nat.mul_le_mul_left _ (Nat.le_mul_of_pos_left _ p.den_pos))
theorem Rep.row {b : Rat} {w v : Nat -> Rat} {T D E S : Nat} (hDT : D <= T) (hb : b.den ∣ E) (j : Nat) (hw : ∀ c, c < j -> (w c).den ∣ E) (hv : ∀ c, c < j -> Rep (v c) T D)
 (hS : b.num.natAbs + sumN w 0 j <= S) : Rep (psum b w v j) (S * T * E) (D * E) := by
 have key : ∀ i, i <= j -> Rep (psum b w v i) ((b.num.natAbs + sumN w 0 i) * T * E) (D * E) := by
  intro i
  induction i with
  | zero =>
    intro _; obtain ⟨Y, rfl⟩ := hb; have h1 := (Rep.base b).up (D * Y); rw [show b.den * (D * Y) = D * (b.den * Y) by rw [Nat.mul_left_comm]] at h1; refine h1.more ?_; simp only [sumN, Nat.add_zero]; rw [Nat.mul_assoc]; refine Nat.mul_le_mul_left _ ?_; exact Nat.mul_le_mul hDT (Nat.le_mul_of_pos_left _ b.den_pos)
  | succ i ih =>
    intro hi; have h1 := (ih (by omega)).add ((hv i (by omega)).term (hw i (by omega))); refine h1.more ?_; rw [sumN, Nat.zero_add, <- Nat.add_mul, <- Nat.add_mul, Nat.add_assoc]; exact Nat.le_refl _
 exact (key j (Nat.le_refl _)).more (Nat.mul_le_mul_right _ (Nat.mul_le_mul_right _ hS))
def RatD.q (r : RatD) : Rat := mkRat (if r.neg then -(lv r.X r.n : Int) else lv r.X r.n) (lv r.Y r.m)
theorem norm_q (f : Bool) (N D : Nat) (hD : D ≠ 0) : qn (mkRat (if f then -(N : Int) else N) D) = (f && N != 0) /\ (mkRat (if f then -(N : Int) else N) D).num.natAbs = N / Nat.gcd N D /\ (mkRat (if f then -(N : Int) else N) D).den = D / Nat.gcd N D := by
 rw [<- Rat.normalize_eq_mkRat hD]; obtain ⟨e1, e2, e3⟩ := q_norm (if f then -(N : Int) else N) D hD; have ea : (if f then -(N : Int) else (N : Int)).natAbs = N := by split <;> simp
 rw [ea] at e2 e3; refine ⟨?_, e2, e3⟩; rw [e1]; cases f
 . simp
 . show decide (-(N : Int) < 0) = (true && N != 0)
   rw [Bool.eq_iff_iff]; simp only [decide_eq_true_eq, Bool.true_and, bne_iff_ne]; omega
theorem RatD.q_ok {r : RatD} (h : r.ok = true) : qn r.q = r.neg /\ r.q.num.natAbs = lv r.X r.n /\ r.q.den = lv r.Y r.m /\ (0 < r.n -> r.X (r.n - 1) ≠ 0) /\ (0 < r.m -> r.Y (r.m - 1) ≠ 0) /\ 0 < r.m := by
 unfold RatD.ok xj1 at h; simp only [Bool.and_eq_true, bne_iff_ne, beq_iff_eq, Bool.not_eq_true', Bool.and_eq_false_iff] at h; obtain ⟨⟨⟨⟨h1, h2⟩, h3⟩, h4⟩, h5⟩ := h; have pX := xk3.1 h1; have pY := xk3.1 h2; have hm : 0 < r.m := by omega
 have hd : lv r.Y r.m ≠ 0 := fun e => by have := (xw5 pY).2 e; omega
 obtain ⟨e1, e2, e3⟩ := norm_q r.neg (lv r.X r.n) (lv r.Y r.m) hd; rw [h5, Nat.div_one] at e2 e3; refine ⟨?_, e2, e3, pX, pY, hm⟩; unfold RatD.q; rw [e1]; cases hn : r.neg
 . rfl
 . have hx : r.n ≠ 0 := by
    rcases h4 with h | h
    . rw [hn] at h; cases h
    . simpa using h
   have : lv r.X r.n ≠ 0 := fun e => hx ((xw5 pX).2 e)
   simp [this]
def xz4 (w : World) (p : Nat -> Prop) (v : Value) (q : Rat) : Prop :=
 ∃ a n ca b m cb ba oa bb ob X Y, v = .agg #[.bool (qn q), .slice a n ca, .slice b m cb] /\ RIn w a b ba oa n ca bb ob m cb X Y /\ lv X n = q.num.natAbs /\ lv Y m = q.den /\ (0 < n -> p ba) /\ (0 < m -> p bb)
section
variable {w w' : World} {p p' : Nat -> Prop} {v : Value} {q : Rat} {a : Option Addr} {b off n c : Nat} {Q : Nat -> Rat}
theorem xz4.keep (h : xz4 w p v q) (s : w.Since w.heap.size w') : xz4 w' p v q := by
 obtain ⟨a, n, ca, b, m, cb, ba, oa, bb, ob, X, Y, h1, h2, h3⟩ := h; exact ⟨a, n, ca, b, m, cb, ba, oa, bb, ob, X, Y, h1, h2.keep s, h3⟩
theorem xz4.read (h : xz4 w p v q) : RatR w v q := by
 obtain ⟨a, n, ca, b, m, cb, ba, oa, bb, ob, X, Y, h1, h2, h3, h4, -⟩ := h; exact ⟨a, n, ca, b, m, cb, ba, oa, bb, ob, X, Y, h1, h2, h3, h4⟩
theorem xz4.imp (h : xz4 w p v q) (hp : ∀ g, g < w.heap.size -> p g -> p' g) : xz4 w p' v q := by
 obtain ⟨a, n, ca, b, m, cb, ba, oa, bb, ob, X, Y, h1, h2, h3, h4, h5, h6⟩ := h; exact ⟨a, n, ca, b, m, cb, ba, oa, bb, ob, X, Y, h1, h2, h3, h4, fun h => hp _ (h2.LX.lt h) (h5 h), fun h => hp _ (h2.LY.lt h) (h6 h)⟩
theorem xz4.marked (h : xz4 w p v q) (s : xq0 w w' c) (hc : ¬ p c) : xz4 w' p v q := by
 obtain ⟨a, n, ca, b, m, cb, ba, oa, bb, ob, X, Y, h1, R, h3, h4, h5, h6⟩ := h; exact ⟨a, n, ca, b, m, cb, ba, oa, bb, ob, X, Y, h1, ⟨R.nc, R.mc, R.ac, R.bc, R.LX.marked s (fun h e => hc (e ▸ h5 h)), R.LY.marked s (fun h e => hc (e ▸ h6 h)), R.lX, R.lY, R.pX, R.pY, R.m0⟩, h3, h4, h5, h6⟩
theorem RatV.rp {B M : Nat} (h : RatV w v (qn q) q.num.natAbs q.den B M) : xz4 w (fun g => B <= g) v q := by
 obtain ⟨v1, v2, g, k, rfl, ⟨a, n, ca, X, rfl, n1, -, n3, n4, -, n6, n7, n8⟩, ⟨b, m, cb, Y, rfl, m1, -, m3, m4, -, m6, m7, m8⟩, x1, x2, -⟩ := h; refine ⟨a, n, ca, b, m, cb, g, 0, k, 0, X, Y, rfl, ⟨n1, m1, n3, m3, n4, m4, n6, m6, n7, m7, ?_⟩, n8, m8, fun _ => x1, fun _ => x2⟩
 rcases Nat.eq_zero_or_pos m with e | e
 . subst e
   have := q.den_nz; rw [<- m8] at this; exact absurd rfl this
 . exact e
structure RatC (w : World) (p : Nat -> Prop) (b off : Nat) (q : Rat) (x y : Value) : Prop where
 c0 : w.cell? ⟨b, off, none⟩ = some (.bool (qn q))
 c1 : w.cell? ⟨b, off + 1, none⟩ = some x
 c2 : w.cell? ⟨b, off + 2, none⟩ = some y
 R : xz4 w p (.agg #[.bool (qn q), x, y]) q
theorem RatC.lt {x y : Value} (h : RatC w p b off q x y) : b < w.heap.size := World.block_lt_of_cell? _ _ h.c0
theorem RatC.keep {x y : Value} (h : RatC w p b off q x y) (s : w.Since w.heap.size w') : RatC w' p b off q x y :=
 ⟨(s.cell (a := ⟨b, off, none⟩) h.lt).trans h.c0, (s.cell (a := ⟨b, off + 1, none⟩) h.lt).trans h.c1, (s.cell (a := ⟨b, off + 2, none⟩) h.lt).trans h.c2, h.R.keep s⟩
def xj5 (w : World) (p : Nat -> Prop) (a : Option Addr) (b off n : Nat) (Q : Nat -> Rat) : Prop :=
 ∀ i, i < n -> a = some ⟨b, off, none⟩ /\ ∃ x y, RatC w p b (off + i * 3) (Q i) x y
theorem xj5.keep (h : xj5 w p a b off n Q) (s : w.Since w.heap.size w') : xj5 w' p a b off n Q := fun i hi => by
 obtain ⟨h1, x, y, h2⟩ := h i hi; exact ⟨h1, x, y, h2.keep s⟩
theorem xj5.imp (h : xj5 w p a b off n Q) (hp : ∀ g, g < w.heap.size -> p g -> p' g) : xj5 w p' a b off n Q := fun i hi => by
 obtain ⟨h1, x, y, h2⟩ := h i hi; exact ⟨h1, x, y, h2.c0, h2.c1, h2.c2, h2.R.imp hp⟩
end
theorem Rats.qs {w : World} {lo b off n : Nat} {a : Option Addr} {R : Nat -> RatD} (h : Rats w lo a b off n R) (ok : yz5 R n) : xj5 w (fun g => lo <= g) a b off n (fun i => (R i).q) := fun i hi => by
 obtain ⟨h1, a1, a2, k1, k2, m⟩ := h i hi; obtain ⟨e1, e2, e3, pX, pY, hm⟩ := RatD.q_ok (ok i hi); obtain ⟨ba, oa, l1, LX⟩ := m.L.LX; obtain ⟨bb, ob, l2, LY⟩ := m.L.LY; exact ⟨h1, .slice a1 (R i).n k1, .slice a2 (R i).m k2, by rw [e1]; exact m.c0, m.c1, m.c2, a1, (R i).n, k1, a2, (R i).m, k2, ba, oa, bb, ob, (R i).X, (R i).Y, rfl, ⟨m.L.nc, m.L.mc, m.L.ac, m.L.bc, LX, LY, m.L.lX, m.L.lY, pX, pY, hm⟩, e2.symm, e3.symm, l1, l2⟩
theorem l1Cmp_q {v v' : Value} {p q : Rat} {k l : Nat} {w : World} (hp : Qb p k) (hq : Qb q l) (hk : 2 * k + 2 * l <= 16777216) (R : RatR w v p) (R' : RatR w v' q) :
 Calls Tryz.prog 47 #[v, v'] w fun e w' => e = .returned (.int .i64 (qcmp p q)) /\ w.Since w.heap.size w' := by
 obtain ⟨a, n, ca, b, m, cb, ba, oa, bb, ob, X, Y, rfl, R, x1, x2⟩ := R; obtain ⟨a', n', ca', b', m', cb', ba', oa', bb', ob', X', Y', rfl, R', y1, y2⟩ := R'; have n1 := xz3 R.pX (by rw [x1]; exact hp.1); have n2 := xz3 R.pY (by rw [x2]; exact hp.2); have n3 := xz3 R'.pX (by rw [y1]; exact hq.1); have n4 := xz3 R'.pY (by rw [y2]; exact hq.2); have J := l1Cmp_opt (qn p) (qn q) a b a' b' ba oa n ca bb ob m cb ba' oa' n' ca' bb' ob' m' cb' X Y X' Y' w (by omega) R R' (R.ok x1 x2) (R'.ok y1 y2); rw [x1, x2, y1, y2, q_cmp] at J; exact J
def usesK (op : Int) : Bool := op == 1 || op == 5 || op == 6
def usesS (op : Int) : Bool := op == 6
def usesV (op : Int) : Bool := op == 1 || op == 3 || op == 6 || op == 7
def usesB (op : Int) : Bool := op == 4
def SzOk (z : Int) (u : Bool) : Prop := if u then 1 <= z /\ z <= 1000 else z = 0
def FitsP (d : xq1) (ub uk us : Bool) (nums : Int) : Prop :=
 (ub = false -> d.b = 0) /\ SzOk d.k uk /\ SzOk d.s us /\ (nums ≠ -1 -> (d.nv : Int) = nums) /\ yz5 d.V d.nv
structure xq1.Form (d : xq1) : Prop where
 o1 : 1 <= d.op
 o7 : d.op <= 7
 k : SzOk d.k (usesK d.op)
 s : SzOk d.s (usesS d.op)
 b : usesB d.op = false -> d.b = 0
 v : usesV d.op = false -> d.nv = 0
 v3 : d.op = 3 -> d.nv = 1
 v7 : d.op = 7 -> d.nv = 4
 ok : yz5 d.V d.nv
theorem yw0 {d : xq1} {z : Int} {ub uk us : Bool} {nums : Int} (h : d.op = z) (h1 : 1 <= z) (h7 : z <= 7) (eb : usesB z = ub) (ek : usesK z = uk) (es : usesS z = us)
 (en : (nums = -1 /\ usesV z = true /\ z ≠ 3 /\ z ≠ 7) ∨ (nums = 0 /\ usesV z = false) ∨ (nums = 1 /\ z = 3) ∨ (nums = 4 /\ z = 7)) : d.Form ↔ FitsP d ub uk us nums := by
 subst h eb ek es
 constructor
 . intro f
   refine ⟨f.b, f.k, f.s, fun hn => ?_, f.ok⟩
   rcases en with ⟨rfl, -⟩ | ⟨rfl, e⟩ | ⟨rfl, e⟩ | ⟨rfl, e⟩
   . exact absurd rfl hn
   . have := f.v e; omega
   . have := f.v3 e; omega
   . have := f.v7 e; omega
 . rintro ⟨a1, a2, a3, a4, a5⟩
   refine ⟨h1, h7, a2, a3, a1, fun e => ?_, fun e => ?_, fun e => ?_, a5⟩
   . rcases en with ⟨rfl, e2, -⟩ | ⟨rfl, -⟩ | ⟨rfl, e2⟩ | ⟨rfl, e2⟩
     . rw [e] at e2; cases e2
     . have := a4 (by decide); omega
     . rw [e2] at e; cases e
     . rw [e2] at e; cases e
   . rcases en with ⟨-, -, e2, -⟩ | ⟨-, e2⟩ | ⟨rfl, -⟩ | ⟨-, e2⟩
     . exact absurd e e2
     . rw [e] at e2; cases e2
     . have := a4 (by decide); omega
     . omega
   . rcases en with ⟨-, -, -, e2⟩ | ⟨-, e2⟩ | ⟨-, e2⟩ | ⟨rfl, -⟩
     . exact absurd e e2
     . rw [e] at e2; cases e2
     . omega
     . have := a4 (by decide); omega
def yw7 (d : xq1) (i : Nat) : Prop := 0 <= d.a /\ d.a < i /\ (usesB d.op = true -> 0 <= d.b /\ d.b < i)
def xj3 (D : Nat -> Int) (d : xq1) : Int :=
 if d.op = 1 /\ (d.nv : Int) ≠ d.k * (D d.a.toNat + 1) then 14
 else if d.op = 4 /\ D d.b.toNat ≠ D d.a.toNat then 14
 else if d.op = 5 /\ D d.a.toNat % d.k ≠ 0 then 14
 else if d.op = 6 /\ (d.k > D d.a.toNat ∨ (d.nv : Int) ≠ d.k + 1) then 14
 else if d.op = 7 /\ (d.V 2).n = 0 then 15
 else 0
/-- Whether a node has its form is decided. -/
def formD (d : xq1) : Decidable d.Form := @decidable_of_iff _ (1 ≤ d.op ∧ d.op ≤ 7 ∧ (if usesK d.op then 1 ≤ d.k ∧ d.k ≤ 1000 else d.k = 0) ∧ (if usesS d.op then 1 ≤ d.s ∧ d.s ≤ 1000 else d.s = 0) ∧ (usesB d.op = false → d.b = 0) ∧ (usesV d.op = false → d.nv = 0) ∧ (d.op = 3 → d.nv = 1) ∧ (d.op = 7 → d.nv = 4) ∧ ∀ i, i < d.nv → (d.V i).ok = true) ⟨fun ⟨a, b, c, e, f, g, h, i, j⟩ => ⟨a, b, c, e, f, g, h, i, j⟩, fun f => ⟨f.o1, f.o7, f.k, f.s, f.b, f.v, f.v3, f.v7, f.ok⟩⟩ inferInstance
def srcD (d : xq1) (i : Nat) : Decidable (yw7 d i) := inferInstanceAs (Decidable (0 ≤ d.a ∧ d.a < i ∧ (usesB d.op = true → 0 ≤ d.b ∧ d.b < i)))
/-- The code of node i behind the dimensions D. -/
def xq4 (D : Nat -> Int) (i : Nat) (d : xq1) : Int :=
  haveI := formD d; haveI := srcD d i; if ¬ d.Form then 12 else if ¬ yw7 d i then 13 else xj3 D d
def xx4 (D : Nat -> Int) (d : xq1) : Int :=
 if d.op = 1 then d.k else if d.op = 5 then D d.a.toNat / d.k else if d.op = 6 then (D d.a.toNat - d.k) / d.s + 1 else D d.a.toNat
def dimA (g : xq8) : Nat -> Nat -> Int
 | 0 => fun _ => g.inn
 | i + 1 => fun j => if j <= i then dimA g i j else xx4 (dimA g i) (g.N i)
theorem yw3 (g : xq8) {i j : Nat} (h : j <= i) : dimA g (i + 1) j = dimA g i j := by
 show (if j <= i then _ else _) = _
 rw [if_pos h]
theorem yw4 (g : xq8) (i : Nat) : dimA g (i + 1) (i + 1) = xx4 (dimA g i) (g.N i) := by
 show (if i + 1 <= i then _ else _) = _
 rw [if_neg (by omega)]
def nc (g : xq8) (k : Nat) : Int := xq4 (dimA g k) (k + 1) (g.N k)
def Dok (D : Nat -> Int) (n : Nat) : Prop := ∀ j, j < n -> 1 <= D j /\ D j <= 1000
theorem yz4 {D : Nat -> Int} {i : Nat} {d : xq1} (h : xq4 D i d = 0) : d.Form /\ yw7 d i /\ xj3 D d = 0 := by
 unfold xq4 at h
 by_cases h1 : d.Form
 . by_cases h2 : yw7 d i
   . simp only [h1, h2, not_true_eq_false, if_false] at h
     exact ⟨h1, h2, h⟩
   . simp [h1, h2] at h
 . simp [h1] at h
theorem xx6 {D : Nat -> Int} {i : Nat} {d : xq1} (h : ¬ d.Form) : xq4 D i d = 12 := by unfold xq4; simp [h]
theorem xw0 {D : Nat -> Int} {i : Nat} {d : xq1} (h : d.Form) (h2 : ¬ yw7 d i) : xq4 D i d = 13 := by unfold xq4; simp [h, h2]
theorem xz2 {D : Nat -> Int} {i : Nat} {d : xq1} (h : d.Form) (h2 : yw7 d i) : xq4 D i d = xj3 D d := by unfold xq4; simp [h, h2]
theorem dim_ok {D : Nat -> Int} {i : Nat} {d : xq1} (hD : Dok D i) (h : xq4 D i d = 0) : 1 <= xx4 D d /\ xx4 D d <= 1000 := by
 obtain ⟨f, ⟨s1, s2, -⟩, c⟩ := yz4 h; have hd := hD d.a.toNat (by omega); generalize hx : D d.a.toNat = x at hd; unfold xj3 at c; unfold xx4; rw [hx] at c ⊢
 by_cases o1 : d.op = 1
 . have := f.k
   rw [o1] at this; rw [if_pos o1]; exact this
 by_cases o5 : d.op = 5
 . have hk := f.k
   rw [o5] at hk; have hk : 1 <= d.k /\ d.k <= 1000 := hk; rw [if_neg o1, if_pos o5]
   by_cases hm : x % d.k = 0
   . have e := Int.mul_ediv_add_emod x d.k
     rw [hm] at e; generalize hy : x / d.k = y at *
     constructor
     . by_cases hy0 : y <= 0
       . have : d.k * y <= 0 := Int.mul_nonpos_of_nonneg_of_nonpos (by omega) hy0
         omega
       . omega
     . have : x / d.k <= x := Int.ediv_le_self _ (by omega)
       omega
   . exfalso
     simp [o5, hm] at c
 by_cases o6 : d.op = 6
 . have hk := f.k
   have hs := f.s; rw [o6] at hk hs; have hk : 1 <= d.k /\ d.k <= 1000 := hk; have hs : 1 <= d.s /\ d.s <= 1000 := hs; rw [if_neg o1, if_neg o5, if_pos o6]
   by_cases hm : d.k > x
   . exfalso
     simp [o6, hm] at c
   . have h0 : 0 <= (x - d.k) / d.s := Int.ediv_nonneg (by omega) (by omega)
     have h1 : (x - d.k) / d.s <= x - d.k := Int.ediv_le_self _ (by omega); omega
 rw [if_neg o1, if_neg o5, if_neg o6]; exact hd
structure HeadP (g : xq8) : Prop where
 i1 : 1 <= g.inn
 i2 : g.inn <= 1000
 r0 : 0 <= g.rounds
 r1 : g.rounds <= 1000
 l : (g.nl : Int) = g.inn
 h : (g.nh : Int) = g.inn
 n : g.nn <= 1000
 okL : yz5 g.Lo g.nl
 okH : yz5 g.Hi g.nh
def yq2 (g : xq8) (j : Nat) : Prop := 0 < qcmp (g.Lo j).q (g.Hi j).q
def Outc (g : xq8) (n : Nat) (X : Nat -> Int) (c a : Int) : Prop :=
 (¬ HeadP g /\ n = 0 /\ c = 10 /\ a = 0) ∨
 (HeadP g /\ ∃ j : Nat, (j : Int) < g.inn /\ (∀ i, i < j -> ¬ yq2 g i) /\ yq2 g j /\ n = 0 /\ c = 11 /\ a = j) ∨
 (HeadP g /\ (∀ j : Nat, (j : Int) < g.inn -> ¬ yq2 g j) /\ ∃ i, i < g.nn /\ (∀ k, k < i -> nc g k = 0) /\ nc g i ≠ 0 /\ n = 0 /\ c = nc g i /\ a = ((i + 1 : Nat) : Int)) ∨
 (HeadP g /\ (∀ j : Nat, (j : Int) < g.inn -> ¬ yq2 g j) /\ (∀ k, k < g.nn -> nc g k = 0) /\ ¬ (0 <= g.out /\ g.out <= g.nn) /\ n = 0 /\ c = 16 /\ a = 0) ∨
 (HeadP g /\ (∀ j : Nat, (j : Int) < g.inn -> ¬ yq2 g j) /\ (∀ k, k < g.nn -> nc g k = 0) /\ (0 <= g.out /\ g.out <= g.nn) /\ n = g.nn + 1 /\ (∀ j, j < n -> X j = dimA g g.nn j) /\ c = 0 /\ a = 0)
theorem Outc.only {g : xq8} {n n' : Nat} {X X' : Nat -> Int} {c c' a a' : Int} (h : Outc g n X c a) (h' : Outc g n' X' c' a') : n' = n /\ c' = c /\ a' = a /\ ∀ j, j < n -> X' j = X j := by
 rcases h with ⟨p0, rfl, rfl, rfl⟩ | ⟨p0, j, j1, j2, j3, rfl, rfl, rfl⟩ | ⟨p0, p1, i, i1, i2, i3, rfl, rfl, rfl⟩ | ⟨p0, p1, p2, p3, rfl, rfl, rfl⟩ | ⟨p0, p1, p2, p3, rfl, e, rfl, rfl⟩ <;>
 rcases h' with ⟨q0, rfl, rfl, rfl⟩ | ⟨q0, j', j1', j2', j3', rfl, rfl, rfl⟩ | ⟨q0, q1, i', i1', i2', i3', rfl, rfl, rfl⟩ | ⟨q0, q1, q2, q3, rfl, rfl, rfl⟩ | ⟨q0, q1, q2, q3, rfl, e', rfl, rfl⟩
 all_goals first
  | exact absurd q0 p0
  | exact absurd p0 q0
  | exact absurd j3 (q1 _ j1)
  | exact absurd j3' (p1 _ j1')
  | exact absurd (q2 _ i1) i3
  | exact absurd (p2 _ i1') i3'
  | exact absurd q3 p3
  | exact absurd p3 q3
  | exact ⟨rfl, rfl, rfl, fun j hj => absurd hj (by omega)⟩
  | exact ⟨rfl, rfl, rfl, fun j hj => by rw [e j hj, e' j hj]⟩
  | (have : j' = j := by
      rcases Nat.lt_trichotomy j' j with h | h | h
      . exact absurd j3' (j2 _ h)
      . exact h
      . exact absurd j3 (j2' _ h)
     subst this; exact ⟨rfl, rfl, rfl, fun j hj => absurd hj (by omega)⟩)
  | (have : i' = i := by
      rcases Nat.lt_trichotomy i' i with h | h | h
      . exact absurd (i2 _ h) i3'
      . exact h
      . exact absurd (i2' _ h) i3
     subst this; exact ⟨rfl, rfl, rfl, fun j hj => absurd hj (by omega)⟩)
theorem sumOf_q {v v' : Value} {p q : Rat} {k l : Nat} {w : World} (hw : 0 <= w.heap.size) (hT : Tab w) (hp : Qb p k) (hq : Qb q l) (hk : 2 * k + 2 * l <= 16777216) (R : RatR w v p) (R' : RatR w v' q) :
 Calls Tryz.prog 143 #[v, v'] w fun e w' => ∃ u, e = .returned u /\ xz4 w' (fun g => w.heap.size <= g) u (p + q) /\ w.Since w.heap.size w' := by
 obtain ⟨a, n, ca, b, m, cb, ba, oa, bb, ob, X, Y, rfl, R, x1, x2⟩ := R; obtain ⟨a', n', ca', b', m', cb', ba', oa', bb', ob', X', Y', rfl, R', y1, y2⟩ := R'; have n1 := xz3 R.pX (by rw [x1]; exact hp.1); have n2 := xz3 R.pY (by rw [x2]; exact hp.2); have n3 := xz3 R'.pX (by rw [y1]; exact hq.1); have n4 := xz3 R'.pY (by rw [y2]; exact hq.2); have J := sumOf_any (qn p) (qn q) a b a' b' ba oa n ca bb ob m cb ba' oa' n' ca' bb' ob' m' cb' X Y X' Y' w hw hT (by omega) R R' (by rw [x1, x2]; exact p.reduced) (by rw [y1, y2]; exact q.reduced); obtain ⟨e1, e2, e3⟩ := q_add p q; rw [x1, x2, y1, y2, <- e1, <- e2, <- e3] at J; refine J.mono ?_; rintro e w' ⟨u, rfl, RV, s⟩; exact ⟨u, rfl, RV.rp, s⟩
theorem yv7 {v v' : Value} {p q : Rat} {k l : Nat} {w : World} (hw : 0 <= w.heap.size) (hT : Tab w) (hp : Qb p k) (hq : Qb q l) (hk : 2 * k + 2 * l <= 16777216) (R : RatR w v p) (R' : RatR w v' q) :
 Calls Tryz.prog 142 #[v, v'] w fun e w' => ∃ u, e = .returned u /\ xz4 w' (fun g => w.heap.size <= g) u (p * q) /\ w.Since w.heap.size w' := by
 obtain ⟨a, n, ca, b, m, cb, ba, oa, bb, ob, X, Y, rfl, R, x1, x2⟩ := R; obtain ⟨a', n', ca', b', m', cb', ba', oa', bb', ob', X', Y', rfl, R', y1, y2⟩ := R'; have n1 := xz3 R.pX (by rw [x1]; exact hp.1); have n2 := xz3 R.pY (by rw [x2]; exact hp.2); have n3 := xz3 R'.pX (by rw [y1]; exact hq.1); have n4 := xz3 R'.pY (by rw [y2]; exact hq.2); have J := productOf_any (qn p) (qn q) a b a' b' ba oa n ca bb ob m cb ba' oa' n' ca' bb' ob' m' cb' X Y X' Y' w hw hT (by omega) (by omega) R R' (by rw [x1, x2]; exact p.reduced) (by rw [y1, y2]; exact q.reduced); obtain ⟨e1, e2, e3⟩ := q_mul p q; rw [x1, x2, y1, y2, <- e1, <- e2, <- e3] at J; refine J.mono ?_; rintro e w' ⟨u, rfl, RV, s⟩; exact ⟨u, rfl, RV.rp, s⟩
theorem quotientOf_q {v v' : Value} {p q : Rat} {k l : Nat} {w : World} (hw : 0 <= w.heap.size) (hT : Tab w) (hp : Qb p k) (hq : Qb q l) (hk : 2 * k + 2 * l <= 16777216) (h0 : q.num.natAbs ≠ 0) (R : RatR w v p) (R' : RatR w v' q) :
 Calls Tryz.prog 213 #[v, v'] w fun e w' => ∃ u, e = .returned u /\ xz4 w' (fun g => w.heap.size <= g) u (p / q) /\ w.Since w.heap.size w' := by
 obtain ⟨a, n, ca, b, m, cb, ba, oa, bb, ob, X, Y, rfl, R, x1, x2⟩ := R; obtain ⟨a', n', ca', b', m', cb', ba', oa', bb', ob', X', Y', rfl, R', y1, y2⟩ := R'; have n1 := xz3 R.pX (by rw [x1]; exact hp.1); have n2 := xz3 R.pY (by rw [x2]; exact hp.2); have n3 := xz3 R'.pX (by rw [y1]; exact hq.1); have n4 := xz3 R'.pY (by rw [y2]; exact hq.2)
 have n5 : 0 < n' := by
  rcases Nat.eq_zero_or_pos n' with e | e
  . exact absurd ((xw5 R'.pX).1 e) (by rw [y1]; exact h0)
  . exact e
 have J := quotientOf_any (qn p) (qn q) a b a' b' ba oa n ca bb ob m cb ba' oa' n' ca' bb' ob' m' cb' X Y X' Y' w hw hT (by omega) (by omega) n5 R R' (by rw [x1, x2]; exact p.reduced) (by rw [y1, y2]; exact q.reduced); obtain ⟨e1, e2, e3⟩ := q_div p q h0; rw [x1, x2, y1, y2, <- e1, <- e2, <- e3] at J; refine J.mono ?_; rintro e w' ⟨u, rfl, RV, s⟩; exact ⟨u, rfl, RV.rp, s⟩
theorem q_zero {q : Rat} (h : q.num.natAbs = 0) : q = 0 := by
 have h1 : q.num = 0 := Int.natAbs_eq_zero.1 h; exact Rat.num_eq_zero.1 h1
theorem psum_skip {b : Rat} {W X : Nat -> Rat} {k : Nat} (h : W k = 0 ∨ X k = 0) : psum b W X (k + 1) = psum b W X k := by
 show psum b W X k + W k * X k = psum b W X k
 rcases h with h | h
 . rw [h, Rat.zero_mul, Rat.add_zero]
 . rw [h, Rat.mul_zero, Rat.add_zero]
theorem plusProduct_any {K : Nat} (s p r : Rat) (vs vp vr : Value) (w : World) (_hw : 0 <= w.heap.size) (_hT : Tab w) (S : RatR w vs s) (HP : RatR w vp p) (HR : RatR w vr r)
 (qs : Qb s K) (qp : Qb p K) (qr : Qb r K) (hK : K <= 2097152 := by omega) :
 Calls Tryz.prog 118 #[vs, vp, vr] w fun e w' => ∃ v, e = .returned v /\ xz4 w' (fun g => w.heap.size <= g) v (s + p * r) /\ w.Since w.heap.size w' := by
 have S0 := S; have P0 := HP; have R0 := HR; obtain ⟨a1, n1, c1, a2, n2, c2, baS, oaS, bbS, obS, XS, YS, rfl, RS, vS1, vS2⟩ := S; obtain ⟨aW, nW, cW, bW, mW, dW, -, -, -, -, -, -, rfl, -⟩ := HP; obtain ⟨aX, nX, cX, bX, mX, dX, -, -, -, -, -, -, rfl, -⟩ := HR
 have hnz : ((n1 : Int) == 0) = (s.num.natAbs == 0) := by
  have h := xw5 RS.pX; rw [vS1] at h; rw [Bool.eq_iff_iff, beq_iff_eq, beq_iff_eq]
  constructor
  . intro e; exact h.1 (by omega)
  . intro e; have := h.2 e; omega
 obtain ⟨wA, eA⟩ : ∃ wA : World, wA = (((w.alloc (.cells #[.bool (qn s), .slice a1 n1 c1, .slice a2 n2 c2] 70)).alloc (.cells #[.bool (qn p), .slice aW nW cW, .slice bW mW dW] 70)).alloc (.cells #[.bool (qn r), .slice aX nX cX, .slice bX mX dX] 70)).alloc (.cells #[.bool false, .slice none 0 0, .slice none 0 0] 70) := ⟨_, rfl⟩; have sA : w.Since w.heap.size wA := by rw [eA]; exact ((((World.Since.refl _ _).alloc (Nat.le_refl _) _).alloc (by simp) _).alloc (by simp; omega) _).alloc (by simp; omega) _
 have zA : wA.heap.size = w.heap.size + 1 + 1 + 1 + 1 := by rw [eA]; simp
 have xA : Box3 wA w.heap.size (.bool (qn s)) (.slice a1 n1 c1) (.slice a2 n2 c2) := by
  rw [eA]; exact (((Box3.new w _ _ _ _).keep ((World.Since.refl _ _).alloc (Nat.le_refl _) _)).keep ((World.Since.refl _ _).alloc (Nat.le_refl _) _)).keep ((World.Since.refl _ _).alloc (Nat.le_refl _) _)
 have rA : Box3 wA (w.heap.size + 1 + 1 + 1) (.bool false) (.slice none 0 0) (.slice none 0 0) := by
  rw [eA]; have := Box3.new (((w.alloc (.cells #[.bool (qn s), .slice a1 n1 c1, .slice a2 n2 c2] 70)).alloc (.cells #[.bool (qn p), .slice aW nW cW, .slice bW mW dW] 70)).alloc (.cells #[.bool (qn r), .slice aX nX cX, .slice bX mX dX] 70)) (.bool false) (.slice none 0 0) (.slice none 0 0) 70
  simpa using this
 have J1 := yv7 (Nat.zero_le _) trivial qp qr (by omega) (P0.keep sA) (R0.keep sA); rw [eA] at J1; go_enter Tryz.func118, Tryz.ntmps118; go_wp2_with fail; rw [<- eA] at J1 ⊢; clear eA; refine J1.mono ?_; rintro e w2 ⟨u2, rfl, R2, s2⟩; have R2q := R2; obtain ⟨a3, n3, c3, b3, m3, d3, -, -, -, -, -, -, e3, -⟩ := R2q; subst e3; have S2 := sA.trans (sM s2 sA.size); have z2 := s2.size; have x2 := xA.keep s2; have r2 := rA.keep s2; have t3 := sal w2 (.cells #[.bool (qn (p * r)), .slice a3 n3 c3, .slice b3 m3 d3] 70); have p3 := Box3.new w2 (.bool (qn (p * r))) (.slice a3 n3 c3) (.slice b3 m3 d3) 70; have x3 := x2.keep t3; have r3 := r2.keep t3; have S3 : w.Since w.heap.size (w2.alloc (.cells #[.bool (qn (p * r)), .slice a3 n3 c3, .slice b3 m3 d3] 70)) := S2.trans (sM t3 S2.size); have R3 := R2.keep t3; have k0 := x3.c0; have k1 := x3.c1; have k2 := x3.c2; clear J1 xA rA x2 r2; go_wp2_with fail; generalize w2.alloc (.cells #[.bool (qn (p * r)), .slice a3 n3 c3, .slice b3 m3 d3] 70) = w3 at *; have I1 := xk9 (qn s) a1 a2 n1 c1 n2 c2 w3; rw [hnz] at I1; refine I1.mono ?_; rintro e w4 ⟨rfl, s4⟩; have S4 := S3.trans (sM s4 S3.size); have x4 := x3.keep s4; have rB := r3.keep s4; have p4 := p3.keep s4; have R4 := R3.keep s4; have z4 := s4.size; have zz3 := t3.size; have hb := p3.lt; have j0 := p4.c0; have j1 := p4.c1; have j2 := p4.c2; clear I1 k0 k1 k2
 by_cases hs : s.num.natAbs = 0
 . have hsb : (s.num.natAbs == 0) = true := by simp [hs]
   rw [hsb]; have hs0 : s = 0 := q_zero hs; have hsum : s + p * r = p * r := by rw [hs0, Rat.zero_add]
   have HSU := hide hsum; clear hsum hs0; have i0 := rB.c0; have i1 := rB.c1; have i2 := rB.c2; have if0 := rB.f 0; have if1 := rB.f 1; have if2 := rB.f 2; go_wp2; have r12 := ((rB.set0 (.bool (qn (p * r)))).set1 (.slice a3 n3 c3)).set2 (.slice b3 m3 d3); refine bodyPost_ret (rb3 rfl _ _ _ _ _ _ rfl r12) rfl ?_; have M : xq0 w4 _ (w.heap.size + 1 + 1 + 1) := (((xq0.refl w4 _).setCell 0 (.bool (qn (p * r)))).setCell 1 (.slice a3 n3 c3)).setCell 2 (.slice b3 m3 d3); refine ⟨_, rfl, ?_, S4.trans (M.since (by omega))⟩; rw [HSU.out]; exact (R4.marked M (fun h => by omega)).imp (p' := fun g => w.heap.size <= g) (fun g _ h => by have h' : wA.heap.size <= g := h; omega)
 . have hsb : (s.num.natAbs == 0) = false := by simp [hs]
   rw [hsb]; have l0 := x4.c0; have l1 := x4.c1; have l2 := x4.c2; have J2 := sumOf_q (Nat.zero_le _) trivial qs (qp.mul qr) (by omega) (S0.keep S4) R4.read; go_wp2_with fail; refine J2.mono ?_; rintro e w5 ⟨u5, rfl, R5, s5⟩; have R5q := R5; obtain ⟨a5, n5, c5, b5, m5, d5, -, -, -, -, -, -, e5, -⟩ := R5q; subst e5; have S5 := S4.trans (sM s5 S4.size); have rC := rB.keep s5; have z5 := s5.size; obtain ⟨q, hq⟩ : ∃ q, s + p * r = q := ⟨_, rfl⟩; rw [hq] at R5 ⊢; have HQ := hide hq; clear hq J2; have i0 := rC.c0; have i1 := rC.c1; have i2 := rC.c2; have if0 := rC.f 0; have if1 := rC.f 1; have if2 := rC.f 2; go_wp2; have r12 := ((rC.set0 (.bool (qn q))).set1 (.slice a5 n5 c5)).set2 (.slice b5 m5 d5); refine bodyPost_ret (rb3 rfl _ _ _ _ _ _ rfl r12) rfl ?_; have M : xq0 w5 _ (w.heap.size + 1 + 1 + 1) := (((xq0.refl w5 _).setCell 0 (.bool (qn q))).setCell 1 (.slice a5 n5 c5)).setCell 2 (.slice b5 m5 d5); refine ⟨_, rfl, ?_, S5.trans (M.since (by omega))⟩
   first
    | rw [HQ.out]
    | skip
   exact (R5.marked M (fun h => by omega)).imp (p' := fun g => w.heap.size <= g) (fun g _ h => by have h' : w4.heap.size <= g := h; omega)
theorem weighedSum_any {K : Nat} (p : Nat -> Prop) (b : Rat) (x0 y0 : Value) (aw ax : Option Addr) (bw ow nw cw bx ox nx cx : Nat) (W X : Nat -> Rat) (w : World) (hw : 0 <= w.heap.size) (hT : Tab w) (hp : ∀ g, w.heap.size <= g -> p g)
 (S : xz4 w p (.agg #[.bool (qn b), x0, y0]) b) (HW : xj5 w (fun _ => True) aw bw ow nw W) (HX : xj5 w (fun _ => True) ax bx ox nx X) (hx : nw <= nx) (hn : nx <= 1048576)
 (qb : ∀ k, k <= nw -> Qb (psum b W X k) K) (qW : ∀ c, c < nw -> Qb (W c) K) (qX : ∀ c, c < nw -> Qb (X c) K) (hK : K <= 2097152 := by omega) :
 Calls Tryz.prog 73 #[.agg #[.bool (qn b), x0, y0], .slice aw nw cw, .slice ax nx cx] w fun e w' => ∃ x y, e = .returned (.agg #[.bool (qn (psum b W X nw)), x, y]) /\ xz4 w' p (.agg #[.bool (qn (psum b W X nw)), x, y]) (psum b W X nw) /\ w.Since w.heap.size w' := by
 obtain ⟨wA, eA⟩ : ∃ wA : World, wA = ((w.alloc (.cells #[.bool (qn b), x0, y0] 70)).alloc (.cells #[.bool false, .slice none 0 0, .slice none 0 0] 70)).alloc (.cells #[.bool (qn b), x0, y0] 70) := ⟨_, rfl⟩; have sA : w.Since w.heap.size wA := by rw [eA]; exact (((World.Since.refl _ _).alloc (Nat.le_refl _) _).alloc (by simp) _).alloc (by simp; omega) _
 have zA : wA.heap.size = w.heap.size + 1 + 1 + 1 := by rw [eA]; simp
 have rA : Box3 wA (w.heap.size + 1) (.bool false) (.slice none 0 0) (.slice none 0 0) := by
  rw [eA]; have := (Box3.new (w.alloc (.cells #[.bool (qn b), x0, y0] 70)) (.bool false) (.slice none 0 0) (.slice none 0 0) 70).keep ((World.Since.refl _ _).alloc (Nat.le_refl _) (.cells #[.bool (qn b), x0, y0] 70))
  simpa using this
 have oA : Box3 wA (w.heap.size + 1 + 1) (.bool (qn b)) x0 y0 := by
  rw [eA]; have := Box3.new ((w.alloc (.cells #[.bool (qn b), x0, y0] 70)).alloc (.cells #[.bool false, .slice none 0 0, .slice none 0 0] 70)) (.bool (qn b)) x0 y0 70
  simpa using this
 have SW := S; obtain ⟨a0, n0, c0, b0, m0, d0, -, -, -, -, -, -, e0, -⟩ := S; simp only [Value.agg.injEq, Array.mk.injEq, List.cons.injEq, and_true, true_and] at e0; obtain ⟨rfl, rfl⟩ := e0; have EA := hide eA; clear eA; go_enter Tryz.func73, Tryz.ntmps73; go_wp2_with fail; rw [<- EA.out]; clear EA
 have S0 : xz4 wA (fun g => (g < w.heap.size ∨ w.heap.size + 1 + 1 < g) /\ p g) (.agg #[.bool (qn b), .slice a0 n0 c0, .slice b0 m0 d0]) b := by
  refine (SW.imp (p' := fun g => (g < w.heap.size ∨ w.heap.size + 1 + 1 < g) /\ p g) (fun g hg hp' => ⟨.inl hg, hp'⟩)).keep sA
 go_loopw [13] (fun i wr => ∃ k : Nat, k <= nw /\ i = .int .i64 k /\ w.Since w.heap.size wr /\ w.heap.size + 1 + 1 + 1 <= wr.heap.size /\ Box3 wr (w.heap.size + 1) (.bool false) (.slice none 0 0) (.slice none 0 0) /\ ∃ a1 n1 c1 a2 n2 c2, Box3 wr (w.heap.size + 1 + 1) (.bool (qn (psum b W X k))) (.slice a1 n1 c1) (.slice a2 n2 c2) /\
  xz4 wr (fun g => (g < w.heap.size ∨ w.heap.size + 1 + 1 < g) /\ p g) (.agg #[.bool (qn (psum b W X k)), .slice a1 n1 c1, .slice a2 n2 c2]) (psum b W X k)) (fun i _ => nw - (intOf i).toNat)
 case atStart => exact ⟨0, Nat.zero_le _, rfl, sA, by omega, rA, a0, n0, c0, b0, m0, d0, oA, S0⟩
 case round =>
  obtain ⟨k, hk, rfl, s, hsz, r1, a1, n1, c1, a2, n2, c2, o1, T1⟩ := hrel
  by_cases hlt : k < nw
  . obtain ⟨rfl, xw, yw, CW⟩ := HW k hlt
    obtain ⟨rfl, xx, yx, CX⟩ := HX k (by omega); have CW1 := CW.keep s; have CX1 := CX.keep s; obtain ⟨aW, nW, cW, bW, mW, dW, baW, oaW, bbW, obW, XW, YW, eW, RW, vW1, vW2, -, -⟩ := CW.R; obtain ⟨aX, nX, cX, bX, mX, dX, baX, oaX, bbX, obX, XX, YX, eX, RX, vX1, vX2, -, -⟩ := CX.R; simp only [Value.agg.injEq, Array.mk.injEq, List.cons.injEq, and_true, true_and] at eW eX; obtain ⟨rfl, rfl⟩ := eW; obtain ⟨rfl, rfl⟩ := eX; have g0 := CW1.c0; have g1 := CW1.c1; have g2 := CW1.c2; have hz : (k : Int) < (nw : Int) := by omega
    have hz2 : (k : Int) < (nx : Int) := by omega
    have t1 := sal wr (.cells #[.bool (qn (W k)), .slice aW nW cW, .slice bW mW dW] 70); have p1 := Box3.new wr (.bool (qn (W k))) (.slice aW nW cW) (.slice bW mW dW) 70; go_wp2_with fail; generalize wr.alloc (.cells #[.bool (qn (W k)), .slice aW nW cW, .slice bW mW dW] 70) = w1 at *; refine (xk9 (qn (W k)) aW bW nW cW mW dW w1).mono ?_; rintro e w2 ⟨rfl, s2⟩; have u2 := t1.trans (sM s2 t1.size); have S2 := s.trans (sM u2 s.size); clear g0 g1 g2 CW1 CX1
    by_cases hw0 : nW = 0
    . have q1 : ((nW : Int) == 0) = true := by simp [hw0]
      have HS := hide (psum_skip (b := b) (W := W) (X := X) (k := k) (.inl (q_zero (by rw [<- vW1, hw0]; rfl)))); clear hw0; go_wp2; go_roundw
      case rel =>
       refine ⟨k + 1, by omega, by go_num, ?_⟩; rw [HS.out]; exact ⟨S2, Nat.le_trans hsz u2.size, r1.keep u2, a1, n1, c1, a2, n2, c2, o1.keep u2, T1.keep u2⟩
      case measure => simp [intOf]; omega
    have q1 : ((nW : Int) == 0) = false := by simp; omega
    have CX2 := CX.keep S2; have h0 := CX2.c0; have h1 := CX2.c1; have h2 := CX2.c2; go_wp2_with fail; refine (xk9 (qn (X k)) aX bX nX cX mX dX w2).mono ?_; rintro e w3 ⟨rfl, s3⟩; have u3 := u2.trans (sM s3 u2.size); have S3 := s.trans (sM u3 s.size); clear h0 h1 h2 CX2
    by_cases hx0 : nX = 0
    . have q2 : ((nX : Int) == 0) = true := by simp [hx0]
      have HS := hide (psum_skip (b := b) (W := W) (X := X) (k := k) (.inr (q_zero (by rw [<- vX1, hx0]; rfl)))); clear hx0; go_wp2; go_roundw
      case rel =>
       refine ⟨k + 1, by omega, by go_num, ?_⟩; rw [HS.out]; exact ⟨S3, Nat.le_trans hsz u3.size, r1.keep u3, a1, n1, c1, a2, n2, c2, o1.keep u3, T1.keep u3⟩
      case measure => simp [intOf]; omega
    have q2 : ((nX : Int) == 0) = false := by simp; omega
    have dr := sdr w3; have u5 := u3.trans (sM dr u3.size); have S5 := s.trans (sM u5 s.size); have p5 := (p1.keep (s2.trans (sM s3 s2.size))).keep dr; have D5 := o1.keep u5; have T5 := T1.keep u5; have CX5 := CX.keep S5; have J := plusProduct_any (psum b W X k) (W k) (X k) _ _ _ w3.drew (Nat.zero_le _) (hT.stay hw S5) T5.read (CW.keep S5).R.read CX5.R.read (qb k hk) (qW k hlt) (qX k hlt) hK; have HE := hide (show psum b W X (k + 1) = psum b W X k + W k * X k from rfl); clear q1 q2; go_wp2_with fail; refine wp_region_held_drew (S := (fun w' => w'.cell? ⟨wr.heap.size, 0, none⟩ = some (.bool (qn (W k))) /\ w'.cell? ⟨wr.heap.size, 1, none⟩ = some (.slice aW nW cW) /\ w'.cell? ⟨wr.heap.size, 2, none⟩ = some (.slice bW mW dW) /\ w'.cell? ⟨bx, ox + k * 3, none⟩ = some (.bool (qn (X k))) /\ w'.cell? ⟨bx, ox + k * 3 + 1, none⟩ = some (.slice aX nX cX) /\ w'.cell? ⟨bx, ox + k * 3 + 2, none⟩ = some (.slice bX mX dX))) (by kernel_rfl) ⟨p5.c0, p5.c1, p5.c2, CX5.c0, CX5.c1, CX5.c2⟩ (fun hHeld => ?_); refine ta 1 28 (.agg #[.bool (qn (W k)), .slice aW nW cW, .slice bW mW dW]) ?_ ?_
    . intro w' hSw
      try dsimp only at hSw
      go_simp
    simp only [ap, la, lz, ls]; refine tk 2 29 (.slice (some ⟨bx, ox, none⟩) nx cx) ?_; simp only [ap, la, lz, ls]; refine tk 3 30 (.int .i64 k) ?_; simp only [ap, la, lz, ls]; refine ta 4 31 (.pointer (some ⟨bx, ox + k * 3, none⟩)) ?_ ?_
    . intro w' hSw
      try dsimp only at hSw
      go_simp
    simp only [ap, la, lz, ls]; refine ta 5 32 (.agg #[.bool (qn (X k)), .slice aX nX cX, .slice bX mX dX]) ?_ ?_
    . intro w' hSw
      try dsimp only at hSw
      go_simp
    simp only [ap, la, lz, ls]; refine wpAnyH_ready (rs := [0]) (by kernel_rfl) (by simp) ?_; refine AllReadyH.cons rfl (fun K hK => ?_) AllReadyH.nil; have l0 := D5.c0; have l1 := D5.c1; have l2 := D5.c2; go_simp; clear l0 l1 l2; refine hK.out _ _ ⟨p5.c0, p5.c1, p5.c2, CX5.c0, CX5.c1, CX5.c2⟩ (fun h1 => ?_); clear hK K hHeld; refine wpAnyH_ready (rs := [6]) (by kernel_rfl) (by simp) ?_; refine AllReadyH.cons rfl (fun K hK => ?_) AllReadyH.nil; go_simp
    go_wp2_with (go_at_call 118; with_reducible refine J.mono ?_; rintro e w11 ⟨v, rfl, RP, s11⟩)
    obtain ⟨a5, n5, c5, b5', m5, d5, -, -, -, -, -, -, e5, -⟩ := id RP; subst e5; have u11 := u5.trans (sM s11 u5.size); have S11 := s.trans (sM u11 s.size); have p11 := p5.keep s11; have D11 := D5.keep s11; have r11 := r1.keep u11; have CX11 := CX.keep S11; refine hK.out _ _ ⟨p11.c0, p11.c1, p11.c2, CX11.c0, CX11.c1, CX11.c2⟩ (fun h2 => ?_); clear hK K h1; refine wpAnyH_ready (rs := [7]) (by kernel_rfl) (by simp) ?_; refine AllReadyH.cons rfl (fun K hK => ?_) AllReadyH.nil; have l0 := D11.c0; have l1 := D11.c1; have l2 := D11.c2; have lf0 := D11.f 0; have lf1 := D11.f 1; have lf2 := D11.f 2; go_simp; clear l0 l1 l2 lf0 lf1 lf2; have o12 := ((D11.set0 (.bool (qn (psum b W X k + W k * X k)))).set1 (.slice a5 n5 c5)).set2 (.slice b5' m5 d5); have M12 : xq0 w11 _ (w.heap.size + 1 + 1) := (((xq0.refl w11 _).setCell 0 (.bool (qn (psum b W X k + W k * X k)))).setCell 1 (.slice a5 n5 c5)).setCell 2 (.slice b5' m5 d5); have S12 := S11.trans (M12.since (B := w.heap.size) (by omega)); have p12 := p11.marked M12 (by omega); have CX12 := CX.keep S12; have z11 := u11.size; have z5 := u5.size; refine hK.out _ _ ⟨p12.c0, p12.c1, p12.c2, CX12.c0, CX12.c1, CX12.c2⟩ (fun hH9 => ?_); clear hK K hH9 h2; refine wpAnyH_done (by kernel_rfl) ?_ _; go_wp2; go_roundw
    case rel =>
     go_light; refine ⟨k + 1, by omega, by go_num, S12, by rw [M12.size]; omega, r11.marked M12 (by omega), a5, n5, c5, b5', m5, d5, ?_, ?_⟩
     . rw [HE.out]; exact o12
     . rw [HE.out]; exact (RP.imp (p' := fun g => (g < w.heap.size ∨ w.heap.size + 1 + 1 < g) /\ p g) (fun g _ hB => by
        have hB' : w3.drew.heap.size <= g := hB; exact ⟨.inr (by omega), hp g (by omega)⟩)).marked M12 (fun h => by have := h.1; omega)
    case measure => simp [intOf]; omega
  . have e : k = nw := by omega
    subst e; have k0 := o1.c0; have k1 := o1.c1; have k2 := o1.c2; have q0 := r1.c0; have q1 := r1.c1; have q2 := r1.c2; have qf0 := r1.f 0; have qf1 := r1.f 1; have qf2 := r1.f 2; go_wp2; have r2 := ((r1.set0 (.bool (qn (psum b W X k)))).set1 (.slice a1 n1 c1)).set2 (.slice a2 n2 c2); refine bodyPost_ret (rb3 rfl _ _ _ _ _ _ rfl r2) rfl ?_; have M : xq0 wr _ (w.heap.size + 1) := (((xq0.refl wr _).setCell 0 (.bool (qn (psum b W X k)))).setCell 1 (.slice a1 n1 c1)).setCell 2 (.slice a2 n2 c2); exact ⟨_, _, rfl, (T1.marked M (fun h => by have := h.1; omega)).imp (fun g _ h => h.2), s.trans (M.since (by omega))⟩
def qrelu (q : Rat) : Rat := if qn q = true then 0 else q
theorem qrelu_neg {q : Rat} (h : qn q = true) : qrelu q = 0 := by simp [qrelu, h]
theorem qrelu_pos {q : Rat} (h : qn q = false) : qrelu q = q := by simp [qrelu, h]
theorem xj5.putP {w w' : World} {p : Nat -> Prop} {c k : Nat} {Q : Nat -> Rat} {x y : Value} (h : xj5 w (fun g => g ≠ c /\ p g) (some ⟨c, 0, none⟩) c 0 k Q) (M : xq0 w w' c) (hc : ∀ o, o < k * 3 -> w'.cell? ⟨c, o, none⟩ = w.cell? ⟨c, o, none⟩)
 (L : xz4 w (fun g => g ≠ c /\ p g) (.agg #[.bool (qn (Q k)), x, y]) (Q k)) (c0 : w'.cell? ⟨c, k * 3, none⟩ = some (.bool (qn (Q k)))) (c1 : w'.cell? ⟨c, k * 3 + 1, none⟩ = some x) (c2 : w'.cell? ⟨c, k * 3 + 2, none⟩ = some y) :
 xj5 w' (fun g => g ≠ c /\ p g) (some ⟨c, 0, none⟩) c 0 (k + 1) Q := fun i hi => by
 refine ⟨rfl, ?_⟩
 by_cases e : i = k
 . subst e
   exact ⟨x, y, by rw [Nat.zero_add]; exact c0, by rw [Nat.zero_add]; exact c1, by rw [Nat.zero_add]; exact c2, L.marked M (fun h => h.1 rfl)⟩
 . obtain ⟨-, x', y', m⟩ := h i (by omega)
   exact ⟨x', y', (hc _ (by omega)).trans m.c0, (hc _ (by omega)).trans m.c1, (hc _ (by omega)).trans m.c2, m.R.marked M (fun h => h.1 rfl)⟩
theorem rectified_any (ax : Option Addr) (bx ox n cx : Nat) (v : Nat -> Rat) (w : World) (p : Nat -> Prop) (hp : ∀ g, w.heap.size <= g -> p g) (hn : n <= 1048576) (HX : xj5 w p ax bx ox n v) :
 Calls Tryz.prog 38 #[.slice ax n cx] w fun e w' => ∃ c, e = .returned (.slice (some ⟨c, 0, none⟩) n n) /\ w.heap.size <= c /\ xj5 w' (fun g => g ≠ c /\ p g) (some ⟨c, 0, none⟩) c 0 n (fun i => qrelu (v i)) /\ w.Since w.heap.size w' := by
 have hmk := xz8 (P := Tryz.prog) 28 70 _ 3 56 Tryz.underlying28 yq0 .i64 .i64 n (by omega) (by omega); have sA := sal w (.cells (madeCells #[.bool false, .slice none 0 0, .slice none 0 0] (n * 3)) 70); have rA := Room.new w #[.bool false, .slice none 0 0, .slice none 0 0] (n * 3) 70; go_enter Tryz.func38, Tryz.ntmps38; go_wp2
 go_loopw [10] (fun i wr => ∃ k : Nat, k <= n /\ i = .int .i64 k /\ w.Since w.heap.size wr /\ Room wr w.heap.size (n * 3) /\ xj5 wr (fun g => g ≠ w.heap.size /\ p g) (some ⟨w.heap.size, 0, none⟩) w.heap.size 0 k (fun i => qrelu (v i))) (fun i _ => n - (intOf i).toNat)
 case atStart => exact ⟨0, Nat.zero_le _, rfl, sA, rA, fun i hi => absurd hi (by omega)⟩
 case round =>
  obtain ⟨k, hk, rfl, s, r, T⟩ := hrel
  by_cases hlt : k < n
  . obtain ⟨rfl, x, y, M⟩ := HX k hlt
    obtain ⟨a6, n6, c6, b6, m6, d6, -, -, -, -, -, -, e6, -⟩ := M.R; simp only [Value.agg.injEq, Array.mk.injEq, List.cons.injEq, and_true, true_and] at e6; obtain ⟨rfl, rfl⟩ := e6; have M' := M.keep s; have g0 := M'.c0; have g1 := M'.c1; have g2 := M'.c2; have hz : (k : Int) < (n : Int) := by omega
    have rl := r.lt; have bl := M.lt; cases hq : qn (v k)
    . have HQ := hide hq
      rw [hq] at g0; obtain ⟨v0, u0⟩ := r.cell (k * 3) (by omega); obtain ⟨v1, u1⟩ := r.cell (k * 3 + 1) (by omega); obtain ⟨v2, u2⟩ := r.cell (k * 3 + 2) (by omega); have f0 := r.f (k * 3); have f1 := r.f (k * 3 + 1); have f2 := r.f (k * 3 + 2); clear hq; go_wp2; go_roundw
      case rel =>
       go_light; obtain ⟨w3, e3, M3, R3, x0, x1, x2, xo⟩ := put3 (q := k * 3) r (by omega) (.bool false) (.slice a6 n6 c6) (.slice b6 m6 d6); rw [<- e3]; have e : qrelu (v k) = v k := qrelu_pos HQ.out; refine ⟨k + 1, by omega, by go_num, s.trans (M3.since (Nat.le_refl _)), R3, T.putP M3 (fun o ho => xo o (by omega)) ?_ ?_ x1 x2⟩
       . rw [e]; exact (M.R.imp (p' := fun g => g ≠ w.heap.size /\ p g) (fun g hg hx => ⟨by omega, hx⟩)).keep s
       . rw [e, HQ.out]; exact x0
      case measure => simp [intOf]; omega
    . have HQ := hide hq
      rw [hq] at g0; clear hq; go_wp2_with fail; refine (zeroRat_any wr).mono ?_; rintro e w2 ⟨u, rfl, RV, s2⟩; have RP : xz4 w2 (fun g => wr.heap.size <= g) u (0 : Rat) := RatV.rp (q := 0) RV; have RQ := RP; obtain ⟨a7, n7, c7, b7, m7, d7, -, -, -, -, -, -, e7, -⟩ := RQ; subst e7; have r2 := r.keep s2; have S2 := s.trans (sM s2 s.size); obtain ⟨v0, u0⟩ := r2.cell (k * 3) (by omega); obtain ⟨v1, u1⟩ := r2.cell (k * 3 + 1) (by omega); obtain ⟨v2, u2⟩ := r2.cell (k * 3 + 2) (by omega); have f0 := r2.f (k * 3); have f1 := r2.f (k * 3 + 1); have f2 := r2.f (k * 3 + 2); clear g0 g1 g2; go_wp2; go_roundw
      case rel =>
       go_light; obtain ⟨w3, e3, M3, R3, x0, x1, x2, xo⟩ := put3 (q := k * 3) r2 (by omega) (.bool (qn 0)) (.slice a7 n7 c7) (.slice b7 m7 d7); rw [<- e3]; have e : qrelu (v k) = 0 := qrelu_neg HQ.out; refine ⟨k + 1, by omega, by go_num, S2.trans (M3.since (Nat.le_refl _)), R3, (T.keep s2).putP M3 (fun o ho => xo o (by omega)) ?_ ?_ x1 x2⟩
       . rw [e]; exact RP.imp (fun g _ hg => ⟨by omega, hp g (by have := s.size; omega)⟩)
       . rw [e]; exact x0
      case measure => simp [intOf]; omega
  . have e : k = n := by omega
    subst e; go_wp2; go_ret; exact ⟨w.heap.size, rfl, Nat.le_refl _, T, s⟩
def RatD.lim (r : RatD) : Prop := (∀ j, j < r.n -> r.X j < 4294967296) /\ ∀ j, j < r.m -> r.Y j < 4294967296
theorem Rats.lim {w : World} {lo b off n : Nat} {a : Option Addr} {R : Nat -> RatD} (h : Rats w lo a b off n R) : ∀ i, i < n -> (R i).lim := fun i hi => by
 obtain ⟨-, a1, a2, k1, k2, m⟩ := h i hi; exact ⟨m.L.lX, m.L.lY⟩
theorem q_small {r : RatD} (ok : r.ok = true) (l : r.lim) : r.q.num.natAbs + 1 <= 4294967296 ^ r.n /\ r.q.den <= 4294967296 ^ r.m := by
 obtain ⟨-, e2, e3, -⟩ := RatD.q_ok ok; have h1 := yz6 r.X r.n l.1; have h2 := yz6 r.Y r.m l.2; rw [Nat.pow_mul, show (2 : Nat) ^ 32 = 4294967296 by decide] at h1 h2; rw [e2, e3]; omega
theorem list_small {R : Nat -> RatD} {n : Nat} (ok : yz5 R n) (l : ∀ i, i < n -> (R i).lim) : nums (fun i => (R i).q) n * dens (fun i => (R i).q) n <= 4294967296 ^ szR R n := by
 induction n with
 | zero => exact Nat.le_refl _
 | succ n ih =>
   have h := ih (fun i hi => ok i (by omega)) (fun i hi => l i (by omega)); obtain ⟨h1, h2⟩ := q_small (ok n (by omega)) (l n (by omega)); rw [szR_succ, Nat.pow_add, Nat.pow_add]
   show nums _ n * ((R n).q.num.natAbs + 1) * (dens _ n * (R n).q.den) <= _
   rw [Nat.mul_mul_mul_comm]; exact Nat.mul_le_mul h (Nat.mul_le_mul h1 h2)
theorem sumN_shift (q : Nat -> Rat) (a j : Nat) : sumN (fun c => q (a + c)) 0 j = sumN q a j := by
 induction j with
 | zero => rfl
 | succ j ih => rw [sumN, sumN, ih, Nat.zero_add]
theorem Rep.zero (T D : Nat) : Rep 0 T D := ⟨0, by rw [Rat.zero_mul]; rfl, Nat.zero_le _⟩
theorem Rep.relu {q : Rat} {T D : Nat} (h : Rep q T D) : Rep (qrelu q) T D := by
 unfold qrelu
 split
 . exact Rep.zero T D
 . exact h
def xx1 (x : Nat -> Rat) (a : Nat) : Nat -> Rat
 | 0 => x a
 | t + 1 => if xx1 x a t < x (a + (t + 1)) then x (a + (t + 1)) else xx1 x a t
theorem qmaxw_mem (x : Nat -> Rat) (a t : Nat) : ∃ s, s <= t /\ xx1 x a t = x (a + s) := by
 induction t with
 | zero => exact ⟨0, Nat.le_refl _, rfl⟩
 | succ t ih =>
   obtain ⟨s, h1, h2⟩ := ih
   show ∃ s, s <= t + 1 /\ (if xx1 x a t < x (a + (t + 1)) then x (a + (t + 1)) else xx1 x a t) = x (a + s)
   by_cases h : xx1 x a t < x (a + (t + 1))
   . exact ⟨t + 1, Nat.le_refl _, by rw [if_pos h]⟩
   . exact ⟨s, by omega, by rw [if_neg h]; exact h2⟩
def xq1.w (d : xq1) (i : Nat) : Rat := (d.V i).q
def vecN (d : xq1) (x z : Nat -> Rat) (n : Nat) (e : Nat) : Rat :=
 if d.op = 1 then psum (d.w (e * (n + 1) + n)) (fun t => d.w (e * (n + 1) + t)) x n
 else if d.op = 2 then qrelu (x e)
 else if d.op = 3 then (if qn (x e) = true then d.w 0 * x e else x e)
 else if d.op = 4 then x e + z e
 else if d.op = 5 then xx1 x (e * d.k.toNat) (d.k.toNat - 1)
 else if d.op = 6 then psum (d.w d.k.toNat) d.w (fun t => x (e * d.s.toNat + t)) d.k.toNat
 else d.w 0 * (d.w 2)⁻¹ * (x e - d.w 1) + d.w 3
def vecA (g : xq8) (X : Nat -> Rat) : Nat -> Nat -> Nat -> Rat
 | 0 => fun _ => X
 | i + 1 => fun j => if j <= i then vecA g X i j else vecN (g.N i) (vecA g X i (g.N i).a.toNat) (vecA g X i (g.N i).b.toNat) (dimA g i (g.N i).a.toNat).toNat
theorem vecA_old (g : xq8) (X : Nat -> Rat) {i j : Nat} (h : j <= i) : vecA g X (i + 1) j = vecA g X i j := by
 show (if j <= i then _ else _) = _
 rw [if_pos h]
theorem vecA_new (g : xq8) (X : Nat -> Rat) (i : Nat) : vecA g X (i + 1) (i + 1) = vecN (g.N i) (vecA g X i (g.N i).a.toNat) (vecA g X i (g.N i).b.toNat) (dimA g i (g.N i).a.toNat).toNat := by
 show (if i + 1 <= i then _ else _) = _
 rw [if_neg (by omega)]
def ndE (d : xq1) : Nat := dens d.w d.nv
def ndN (d : xq1) : Nat := nums d.w d.nv
def ndF (d : xq1) : Nat := if d.op = 7 then (d.w 0).den * (d.w 1).den * (d.w 3).den * (d.w 2).num.natAbs else ndE d
theorem ndE_pos (d : xq1) : 0 < ndE d := dens_pos _ _
theorem ndN_pos (d : xq1) : 0 < ndN d := nums_pos _ _
theorem four (q : Nat -> Rat) : dens q 4 = (q 0).den * (q 1).den * (q 2).den * (q 3).den /\ nums q 4 = ((q 0).num.natAbs + 1) * ((q 1).num.natAbs + 1) * ((q 2).num.natAbs + 1) * ((q 3).num.natAbs + 1) := by
 constructor
 . show 1 * (q 0).den * (q 1).den * (q 2).den * (q 3).den = _
   rw [Nat.one_mul]
 . show 1 * _ * _ * _ * _ = _
   rw [Nat.one_mul]
structure yv5 (d : xq1) (n m : Nat) : Prop where
 f : d.Form
 c1 : d.op = 1 -> d.nv = d.k.toNat * (n + 1) /\ m = d.k.toNat
 c2 : d.op = 2 -> m = n
 c3 : d.op = 3 -> m = n
 c4 : d.op = 4 -> m = n
 c5 : d.op = 5 -> 1 <= d.k.toNat /\ n = m * d.k.toNat
 c6 : d.op = 6 -> d.nv = d.k.toNat + 1 /\ ∀ e, e < m -> e * d.s.toNat + d.k.toNat <= n
 c7 : d.op = 7 -> m = n /\ (d.w 2).num.natAbs ≠ 0
theorem ndF_pos {d : xq1} {n m : Nat} (h : yv5 d n m) : 0 < ndF d := by
 unfold ndF
 by_cases h7 : d.op = 7
 . rw [if_pos h7]
   have := (h.c7 h7).2; exact Nat.mul_pos (Nat.mul_pos (Nat.mul_pos (Rat.den_pos _) (Rat.den_pos _)) (Rat.den_pos _)) (by omega)
 . rw [if_neg h7]; exact ndE_pos d
theorem ndF_le {d : xq1} {n m : Nat} (h : yv5 d n m) : ndF d <= ndN d * ndE d := by
 unfold ndF
 by_cases h7 : d.op = 7
 . rw [if_pos h7]
   have hv : d.nv = 4 := h.f.v7 h7; unfold ndE ndN; rw [hv, (four d.w).1, (four d.w).2]; generalize (d.w 0).den = a at *; generalize (d.w 1).den = b at *; generalize (d.w 3).den = c at *; have hd : 0 < (d.w 2).den := Rat.den_pos _; generalize (d.w 2).den = e at *; generalize (d.w 2).num.natAbs = s at *; generalize (d.w 0).num.natAbs = p at *; generalize (d.w 1).num.natAbs = q at *; generalize (d.w 3).num.natAbs = r at *
   have h1 : s <= (p + 1) * (q + 1) * (s + 1) * (r + 1) := by
    have a1 : s + 1 <= (p + 1) * (q + 1) * (s + 1) := Nat.le_mul_of_pos_left _ (Nat.mul_pos (Nat.succ_pos _) (Nat.succ_pos _)); have a2 : (p + 1) * (q + 1) * (s + 1) <= (p + 1) * (q + 1) * (s + 1) * (r + 1) := Nat.le_mul_of_pos_right _ (Nat.succ_pos _); omega
   have h2 : a * b * c <= a * b * e * c := by
    rw [Nat.mul_right_comm (a * b) e c]; exact Nat.le_mul_of_pos_right _ hd
   rw [Nat.mul_comm (a * b * c) s]; exact Nat.mul_le_mul h1 h2
 . rw [if_neg h7]
   exact Nat.le_mul_of_pos_left _ (ndN_pos d)
theorem Rep.neg {q : Rat} {T D : Nat} (h : Rep q T D) : Rep (-q) T D := by
 obtain ⟨t, h1, h2⟩ := h; exact ⟨-t, by rw [Rat.neg_mul, h1, Rat.intCast_neg], by rw [Int.natAbs_neg]; exact h2⟩
theorem Rep.sub {p q : Rat} {T T' D : Nat} (h : Rep p T D) (h' : Rep q T' D) : Rep (p - q) (T + T') D := by
 rw [Rat.sub_eq_add_neg]; exact h.add h'.neg
theorem Rep.inv {q : Rat} (h : q.num.natAbs ≠ 0) : Rep q⁻¹ q.den q.num.natAbs := by
 have hq : q ≠ 0 := fun e => h (by rw [e]; rfl)
 have e : q⁻¹ * (q.num : Rat) = (q.den : Rat) := by
  rw [<- rat_mul_den q, <- Rat.mul_assoc, Rat.inv_mul_cancel q hq, Rat.one_mul]
 rcases Int.natAbs_eq q.num with hn | hn
 . refine ⟨q.den, ?_, by simp⟩
   have : ((q.num.natAbs : Nat) : Rat) = (q.num : Rat) := by
    show (((q.num.natAbs : Nat) : Int) : Rat) = (q.num : Rat)
    rw [<- hn]
   rw [this, e]; rfl
 . refine ⟨-(q.den : Int), ?_, by simp⟩
   have h2 : ((q.num.natAbs : Nat) : Int) = -q.num := by omega
   have : ((q.num.natAbs : Nat) : Rat) = -(q.num : Rat) := by
    show (((q.num.natAbs : Nat) : Int) : Rat) = -(q.num : Rat)
    rw [h2, Rat.intCast_neg]
   rw [this, Rat.mul_neg, e, Rat.intCast_neg]; rfl
theorem sumN_mono (q : Nat -> Rat) (a : Nat) {i j : Nat} (h : i <= j) : sumN q a i <= sumN q a j := by
 obtain ⟨k, rfl⟩ := Nat.exists_eq_add_of_le h; rw [sumN_front]; omega
theorem list_part (d : xq1) {a j : Nat} (h : a + j <= d.nv) : sumN d.w a j + 1 <= ndN d := by
 have h1 := sumN_part d.w h; have h2 := sumN_nums d.w d.nv; unfold ndN; omega
section
variable {d : xq1} {n m : Nat} {x z : Nat -> Rat} {T D e : Nat}
theorem dense_rep (h : yv5 d n m) (ho : d.op = 1) (hDT : D <= T) (hx : ∀ c, c < n -> Rep (x c) T D) (he : e < m) {j : Nat} (hj : j <= n) :
 Rep (psum (d.w (e * (n + 1) + n)) (fun t => d.w (e * (n + 1) + t)) x j) (ndN d * T * ndE d) (D * ndE d) /\ Rep (psum 0 (fun t => d.w (e * (n + 1) + t)) x j) (ndN d * T * ndE d) (D * ndE d) := by
 obtain ⟨c1, c2⟩ := h.c1 ho; have hl : e * (n + 1) + (n + 1) <= d.nv := by rw [c1, <- Nat.succ_mul]; exact Nat.mul_le_mul_right _ (by omega)
 have e1 := sumN_shift d.w (e * (n + 1)) j; have e2 := sumN_mono d.w (e * (n + 1)) hj; have e3 := list_part d hl; rw [sumN] at e3
 refine ⟨Rep.row hDT (yx3 d.w (by omega)) j (fun c hc => yx3 d.w (show e * (n + 1) + c < d.nv by omega)) (fun c hc => hx c (by omega)) (by rw [e1]; omega),
  Rep.row hDT ⟨_, (Nat.one_mul _).symm⟩ j (fun c hc => yx3 d.w (show e * (n + 1) + c < d.nv by omega)) (fun c hc => hx c (by omega)) (by rw [e1]; show 0 + _ <= _; omega)⟩
theorem conv_rep (h : yv5 d n m) (ho : d.op = 6) (hDT : D <= T) (hx : ∀ c, c < n -> Rep (x c) T D) (he : e < m) {j : Nat} (hj : j <= d.k.toNat) :
 Rep (psum (d.w d.k.toNat) d.w (fun t => x (e * d.s.toNat + t)) j) (ndN d * T * ndE d) (D * ndE d) /\ Rep (psum 0 d.w (fun t => x (e * d.s.toNat + t)) j) (ndN d * T * ndE d) (D * ndE d) := by
 obtain ⟨c1, c2⟩ := h.c6 ho; have c3 := c2 e he; have e2 := sumN_mono d.w 0 hj; have e3 := list_part d (a := 0) (j := d.k.toNat + 1) (by omega); rw [sumN, Nat.zero_add] at e3
 refine ⟨Rep.row hDT (yx3 d.w (by omega)) j (fun c hc => yx3 d.w (show c < d.nv by omega)) (fun c hc => hx _ (by omega)) (by omega),
  Rep.row hDT ⟨_, (Nat.one_mul _).symm⟩ j (fun c hc => yx3 d.w (show c < d.nv by omega)) (fun c hc => hx _ (by omega)) (by show 0 + _ <= _; omega)⟩
theorem old_rep (h : yv5 d n m) {q : Rat} (hq : Rep q T D) : Rep q (2 * (ndN d * T * ndE d)) (D * ndF d) := by
 refine (hq.up (ndF d)).more ?_; have h1 := Nat.mul_le_mul_left T (ndF_le h); have h2 : T * (ndN d * ndE d) = ndN d * T * ndE d := by rw [<- Nat.mul_assoc, Nat.mul_comm T]
 omega
theorem ndF_E (ho : d.op ≠ 7) : ndF d = ndE d := by unfold ndF; rw [if_neg ho]
theorem norm_rep (h : yv5 d n m) (ho : d.op = 7) (hDT : D <= T) (hx : Rep (x e) T D) :
 Rep (d.w 0 * (d.w 2)⁻¹ * (x e - d.w 1) + d.w 3) (2 * (ndN d * T * ndE d)) (D * ndF d) := by
 have hs := (h.c7 ho).2; have f1 := (Rep.base (d.w 0)).mul (Rep.inv hs)
 have f2 : Rep (x e - d.w 1) (T * (d.w 1).den + (d.w 1).num.natAbs * D) (D * (d.w 1).den) := by
  refine (hx.up _).sub ?_; have := (Rep.base (d.w 1)).up D
  rwa [Nat.mul_comm (d.w 1).den D] at this
 have f3 := (f1.mul f2).up (d.w 3).den
 have f4 : Rep (d.w 3) ((d.w 3).num.natAbs * ((d.w 0).den * (d.w 2).num.natAbs * (D * (d.w 1).den))) ((d.w 0).den * (d.w 2).num.natAbs * (D * (d.w 1).den) * (d.w 3).den) := by
  have := (Rep.base (d.w 3)).up ((d.w 0).den * (d.w 2).num.natAbs * (D * (d.w 1).den))
  rwa [Nat.mul_comm (d.w 3).den] at this
 have f5 := f3.add f4; have hv : d.nv = 4 := h.f.v7 ho
 have eF : D * ndF d = (d.w 0).den * (d.w 2).num.natAbs * (D * (d.w 1).den) * (d.w 3).den := by
  unfold ndF; rw [if_pos ho]
  ac_rfl
 rw [eF]; refine f5.more ?_; unfold ndN ndE; rw [hv, (four d.w).1, (four d.w).2]; have p0 := (d.w 0).den_pos; have p1 := (d.w 1).den_pos; have p2 := (d.w 2).den_pos; have p3 := (d.w 3).den_pos; generalize (d.w 0).den = a2 at *; generalize (d.w 1).den = b2 at *; generalize (d.w 2).den = c2 at *; generalize (d.w 3).den = d2 at *; generalize (d.w 0).num.natAbs = a1 at *; generalize (d.w 1).num.natAbs = b1 at *; generalize (d.w 2).num.natAbs = c1 at *; generalize (d.w 3).num.natAbs = d1 at *
 have s1 : T * b2 + b1 * D <= T * ((b1 + 1) * b2) := by
  have q1 : b1 * D <= b1 * T := Nat.mul_le_mul_left _ hDT; have q2 : b1 * T <= b1 * T * b2 := Nat.le_mul_of_pos_right _ p1
  have q3 : T * ((b1 + 1) * b2) = b1 * T * b2 + T * b2 := by
   rw [Nat.add_mul, Nat.mul_add, Nat.one_mul]
   congr 1
   ac_rfl
  omega
 have s2 : a1 * c2 * (T * b2 + b1 * D) * d2 <= (a1 + 1) * (b1 + 1) * (c1 + 1) * (d1 + 1) * T * (a2 * b2 * c2 * d2) := by
  have q1 : a1 * c2 * (T * b2 + b1 * D) * d2 <= a1 * c2 * (T * ((b1 + 1) * b2)) * d2 := Nat.mul_le_mul_right _ (Nat.mul_le_mul_left _ s1); have q2 : a1 * c2 * (T * ((b1 + 1) * b2)) * d2 = a1 * (b1 + 1) * (T * (b2 * c2 * d2)) := by ac_rfl
  have q3 : (a1 + 1) * (b1 + 1) * (c1 + 1) * (d1 + 1) * T * (a2 * b2 * c2 * d2) = (a1 + 1) * (b1 + 1) * (T * (b2 * c2 * d2)) * ((c1 + 1) * (d1 + 1) * a2) := by ac_rfl
  have q4 : a1 * (b1 + 1) * (T * (b2 * c2 * d2)) <= (a1 + 1) * (b1 + 1) * (T * (b2 * c2 * d2)) := Nat.mul_le_mul_right _ (Nat.mul_le_mul_right _ (Nat.le_succ _)); have q5 : (a1 + 1) * (b1 + 1) * (T * (b2 * c2 * d2)) <= (a1 + 1) * (b1 + 1) * (T * (b2 * c2 * d2)) * ((c1 + 1) * (d1 + 1) * a2) := Nat.le_mul_of_pos_right _ (Nat.mul_pos (Nat.mul_pos (Nat.succ_pos _) (Nat.succ_pos _)) p0); omega
 have s3 : d1 * (a2 * c1 * (D * b2)) <= (a1 + 1) * (b1 + 1) * (c1 + 1) * (d1 + 1) * T * (a2 * b2 * c2 * d2) := by
  have q1 : d1 * (a2 * c1 * (D * b2)) = d1 * c1 * (a2 * b2) * D := by ac_rfl
  have q2 : d1 * c1 * (a2 * b2) * D <= d1 * c1 * (a2 * b2) * T := Nat.mul_le_mul_left _ hDT; have q3 : (a1 + 1) * (b1 + 1) * (c1 + 1) * (d1 + 1) * T * (a2 * b2 * c2 * d2) = (d1 + 1) * (c1 + 1) * (a2 * b2) * T * ((a1 + 1) * (b1 + 1) * (c2 * d2)) := by ac_rfl
  have q4 : d1 * c1 * (a2 * b2) * T <= (d1 + 1) * (c1 + 1) * (a2 * b2) * T := Nat.mul_le_mul_right _ (Nat.mul_le_mul_right _ (Nat.mul_le_mul (Nat.le_succ _) (Nat.le_succ _))); have q5 : (d1 + 1) * (c1 + 1) * (a2 * b2) * T <= (d1 + 1) * (c1 + 1) * (a2 * b2) * T * ((a1 + 1) * (b1 + 1) * (c2 * d2)) := Nat.le_mul_of_pos_right _ (Nat.mul_pos (Nat.mul_pos (Nat.succ_pos _) (Nat.succ_pos _)) (Nat.mul_pos p2 p3)); omega
 omega
theorem node_rep (h : yv5 d n m) (hDT : D <= T) (hx : ∀ c, c < n -> Rep (x c) T D) (hz : d.op = 4 -> ∀ c, c < m -> Rep (z c) T D) (he : e < m) :
 Rep (vecN d x z n e) (2 * (ndN d * T * ndE d)) (D * ndF d) := by
 unfold vecN
 by_cases o1 : d.op = 1
 . rw [if_pos o1, ndF_E (by omega)]
   exact (dense_rep h o1 hDT hx he (Nat.le_refl _)).1.more (by omega)
 rw [if_neg o1]
 by_cases o2 : d.op = 2
 . rw [if_pos o2]
   exact old_rep h (hx e (by have := h.c2 o2; omega)).relu
 rw [if_neg o2]
 by_cases o3 : d.op = 3
 . rw [if_pos o3]
   have hxe := hx e (by have := h.c3 o3; omega)
   by_cases hq : qn (x e) = true
   . rw [if_pos hq, ndF_E (by omega)]
     have hv := h.f.v3 o3; have t1 := hxe.term (p := d.w 0) (E := ndE d) (yx3 d.w (by omega)); refine t1.more ?_; have e3 := list_part d (a := 0) (j := 1) (by omega); rw [sumN, sumN, Nat.zero_add, Nat.zero_add] at e3; have q1 : (d.w 0).num.natAbs * T * ndE d <= ndN d * T * ndE d := Nat.mul_le_mul_right _ (Nat.mul_le_mul_right _ (by omega)); omega
   . rw [if_neg hq]
     exact old_rep h hxe
 rw [if_neg o3]
 by_cases o4 : d.op = 4
 . rw [if_pos o4, ndF_E (by omega)]
   have hm := h.c4 o4; have t1 := ((hx e (by omega)).add (hz o4 e he)).up (ndE d); refine t1.more ?_
   have q1 : (T + T) * ndE d <= 2 * (ndN d * T * ndE d) := by
    have q2 : T * ndE d <= ndN d * T * ndE d := Nat.mul_le_mul_right _ (Nat.le_mul_of_pos_left _ (ndN_pos d)); rw [Nat.add_mul]; omega
   exact q1
 rw [if_neg o4]
 by_cases o5 : d.op = 5
 . rw [if_pos o5]
   obtain ⟨k1, hn⟩ := h.c5 o5; obtain ⟨s, hs, eq⟩ := qmaxw_mem x (e * d.k.toNat) (d.k.toNat - 1); rw [eq]; refine old_rep h (hx _ ?_); have : (e + 1) * d.k.toNat <= m * d.k.toNat := Nat.mul_le_mul_right _ (by omega); rw [Nat.add_mul, Nat.one_mul] at this; omega
 rw [if_neg o5]
 by_cases o6 : d.op = 6
 . rw [if_pos o6, ndF_E (by omega)]
   exact (conv_rep h o6 hDT hx he (Nat.le_refl _)).1.more (by omega)
 rw [if_neg o6]; have o7 : d.op = 7 := by have := h.f.o1; have := h.f.o7; omega
 exact norm_rep h o7 hDT (hx e (by have := (h.c7 o7).1; omega))
end
theorem nshape_of {D : Nat -> Int} {i : Nat} {d : xq1} (hD : Dok D i) (h : xq4 D i d = 0) : yv5 d (D d.a.toNat).toNat (xx4 D d).toNat := by
 obtain ⟨f, ⟨s1, s2, s3⟩, c⟩ := yz4 h; have hd := hD d.a.toNat (by omega); generalize hx : D d.a.toNat = x at hd; unfold xj3 at c; rw [hx] at c; refine ⟨f, fun o => ?_, fun o => ?_, fun o => ?_, fun o => ?_, fun o => ?_, fun o => ?_, fun o => ?_⟩
 . have hk := f.k
   rw [o] at hk; have hk : 1 <= d.k /\ d.k <= 1000 := hk
   by_cases h1 : (d.nv : Int) = d.k * (x + 1)
   . refine ⟨?_, ?_⟩
     . have e1 : d.k = (d.k.toNat : Int) := by omega
       have e2 : x + 1 = ((x.toNat + 1 : Nat) : Int) := by omega
       rw [e1, e2, <- Int.natCast_mul] at h1; exact Int.ofNat_inj.1 h1
     . unfold xx4; rw [if_pos o]
   . exfalso; simp [o, h1] at c
 . unfold xx4; rw [if_neg (by omega), if_neg (by omega), if_neg (by omega), hx]
 . unfold xx4; rw [if_neg (by omega), if_neg (by omega), if_neg (by omega), hx]
 . unfold xx4; rw [if_neg (by omega), if_neg (by omega), if_neg (by omega), hx]
 . have hk := f.k
   rw [o] at hk; have hk : 1 <= d.k /\ d.k <= 1000 := hk
   by_cases h1 : x % d.k = 0
   . refine ⟨by omega, ?_⟩
     unfold xx4; rw [if_neg (by omega), if_pos o, hx]; have e := Int.mul_ediv_add_emod x d.k; rw [h1, Int.add_zero] at e; have p : 0 <= x / d.k := Int.ediv_nonneg (by omega) (by omega); obtain ⟨y, hy⟩ : ∃ y : Nat, x / d.k = y := ⟨(x / d.k).toNat, by omega⟩; obtain ⟨k, hk2⟩ : ∃ k : Nat, d.k = k := ⟨d.k.toNat, by omega⟩; rw [hy, hk2] at e; rw [hy, hk2]; rw [<- Int.natCast_mul] at e; rw [Int.toNat_natCast, Int.toNat_natCast, <- e, Int.toNat_natCast, Nat.mul_comm]
   . exfalso; simp [o, h1] at c
 . have hk := f.k
   have hs := f.s; rw [o] at hk hs; have hk : 1 <= d.k /\ d.k <= 1000 := hk; have hs : 1 <= d.s /\ d.s <= 1000 := hs
   by_cases h1 : d.k > x ∨ (d.nv : Int) ≠ d.k + 1
   . exfalso; simp [o, h1] at c
   . refine ⟨by omega, fun e he => ?_⟩
     unfold xx4 at he; rw [if_neg (by omega), if_neg (by omega), if_pos o, hx] at he; have p : 0 <= (x - d.k) / d.s := Int.ediv_nonneg (by omega) (by omega); have q : (x - d.k) / d.s * d.s <= x - d.k := Int.ediv_mul_le _ (by omega); obtain ⟨s, hs2⟩ : ∃ s : Nat, d.s = s := ⟨d.s.toNat, by omega⟩; rw [hs2] at p q he ⊢; obtain ⟨y, hy⟩ : ∃ y : Nat, (x - d.k) / (s : Int) = y := ⟨((x - d.k) / (s : Int)).toNat, by omega⟩; rw [hy] at he q; have he2 : e <= y := by omega
     have r : e * s <= y * s := Nat.mul_le_mul_right _ he2; rw [<- Int.natCast_mul] at q; rw [Int.toNat_natCast]; omega
 . refine ⟨by unfold xx4; rw [if_neg (by omega), if_neg (by omega), if_neg (by omega), hx], ?_⟩
   by_cases h1 : (d.V 2).n = 0
   . exfalso; simp [o, h1] at c
   . have hv := f.v7 o
     obtain ⟨-, e2, -, pX, -, -⟩ := RatD.q_ok (f.ok 2 (by omega))
     show (d.V 2).q.num.natAbs ≠ 0
     rw [e2]; exact fun h0 => h1 ((xw5 pX).2 h0)
def gD (g : xq8) (x : Nat -> Rat) (nx : Nat) : Nat -> Nat
 | 0 => dens x nx
 | i + 1 => gD g x nx i * ndF (g.N i)
def gT (g : xq8) (x : Nat -> Rat) (nx : Nat) : Nat -> Nat
 | 0 => nums x nx * 1 * dens x nx
 | i + 1 => 2 * (ndN (g.N i) * gT g x nx i * ndE (g.N i))
section
variable {g : xq8} {x : Nat -> Rat} {nx : Nat}
structure Stand (g : xq8) (i : Nat) : Prop where
 i1 : 1 <= g.inn
 i2 : g.inn <= 1000
 z : ∀ k, k < i -> nc g k = 0
theorem Stand.dok {i : Nat} (h : Stand g i) : Dok (dimA g i) (i + 1) := by
 induction i with
 | zero => exact fun j hj => ⟨h.i1, h.i2⟩
 | succ i ih =>
   have ih := ih ⟨h.i1, h.i2, fun k hk => h.z k (by omega)⟩; intro j hj
   by_cases e : j = i + 1
   . subst e; rw [yw4]; exact dim_ok ih (h.z i (by omega))
   . rw [yw3 g (by omega)]; exact ih j (by omega)
theorem Stand.shape {i : Nat} (h : Stand g i) {k : Nat} (hk : k < i) : yv5 (g.N k) (dimA g k (g.N k).a.toNat).toNat (dimA g (k + 1) (k + 1)).toNat := by
 rw [yw4]; exact nshape_of (Stand.dok (i := k) ⟨h.i1, h.i2, fun j hj => h.z j (by omega)⟩) (h.z k hk)
theorem gD_pos {i : Nat} (h : Stand g i) : 0 < gD g x nx i := by
 induction i with
 | zero => exact dens_pos _ _
 | succ i ih => exact Nat.mul_pos (ih ⟨h.i1, h.i2, fun k hk => h.z k (by omega)⟩) (ndF_pos (h.shape (Nat.lt_succ_self i)))
theorem gD_gT {i : Nat} (h : Stand g i) : gD g x nx i <= gT g x nx i := by
 induction i with
 | zero =>
   show dens x nx <= nums x nx * 1 * dens x nx
   rw [Nat.mul_one]; exact Nat.le_mul_of_pos_left _ (nums_pos _ _)
 | succ i ih =>
   have ih := ih ⟨h.i1, h.i2, fun k hk => h.z k (by omega)⟩; have f := ndF_le (h.shape (Nat.lt_succ_self i))
   show gD g x nx i * ndF (g.N i) <= 2 * (ndN (g.N i) * gT g x nx i * ndE (g.N i))
   have h1 := Nat.mul_le_mul ih f; have h2 : gT g x nx i * (ndN (g.N i) * ndE (g.N i)) = ndN (g.N i) * gT g x nx i * ndE (g.N i) := by ac_rfl
   omega
theorem graph_rep {i : Nat} (h : Stand g i) (hx : g.inn.toNat = nx) : ∀ j, j <= i -> ∀ e, e < (dimA g i j).toNat -> Rep (vecA g x i j e) (gT g x nx i) (gD g x nx i) := by
 induction i with
 | zero =>
   intro j hj e he; have he : e < nx := by rw [<- hx]; exact he
   have h := Rep.term (p := x e) (q := 1) (T := 1) (D := 1) (E := dens x nx) ⟨1, by rw [Rat.one_mul]; rfl, Nat.le_refl _⟩ (yx3 x he); rw [Rat.mul_one, Nat.one_mul] at h; refine h.more ?_; exact Nat.mul_le_mul_right _ (Nat.mul_le_mul_right _ (by have := nums_le x he; omega))
 | succ i ih =>
   have hi : Stand g i := ⟨h.i1, h.i2, fun k hk => h.z k (by omega)⟩; have ih := ih hi; have sh := h.shape (Nat.lt_succ_self i); intro j hj e he
   by_cases ej : j = i + 1
   . subst ej
     rw [vecA_new]; obtain ⟨f, ⟨s1, s2, s3⟩, c⟩ := yz4 (h.z i (Nat.lt_succ_self i)); refine node_rep sh (gD_gT hi) (fun c hc => ih _ (by omega) c hc) (fun o c hc => ?_) he; have hb := s3 (by rw [o]; rfl); refine ih _ (by omega) c ?_; have hm := sh.c4 o; unfold xj3 at c
     by_cases hd : dimA g i (g.N i).b.toNat = dimA g i (g.N i).a.toNat
     . rw [hd]; omega
     . rename_i c0 _
       exfalso
       have c1 : xj3 (dimA g i) (g.N i) = 0 := (yz4 (h.z i (Nat.lt_succ_self i))).2.2; unfold xj3 at c1
       simp [o, hd] at c1
   . rw [vecA_old g x (by omega)]
     rw [yw3 g (by omega)] at he; exact old_rep sh (ih j (by omega) e he)
end
section
variable {g : xq8} {X : Nat -> RatD} {nx : Nat}
theorem node_small {d : xq1} (ok : yz5 d.V d.nv) (l : ∀ i, i < d.nv -> (d.V i).lim) : ndN d * ndE d <= 4294967296 ^ szR d.V d.nv := list_small ok l
theorem gT_small {i : Nat} (h : Stand g i) (ok : yz5 X nx) (lx : ∀ c, c < nx -> (X c).lim) (ln : ∀ k, k < i -> ∀ c, c < (g.N k).nv -> ((g.N k).V c).lim) :
 gT g (fun c => (X c).q) nx i <= 2 ^ i * 4294967296 ^ (szR X nx + szN g.N i) := by
 induction i with
 | zero =>
   show nums (fun c => (X c).q) nx * 1 * dens (fun c => (X c).q) nx <= 1 * 4294967296 ^ (szR X nx + 0)
   rw [Nat.mul_one, Nat.one_mul, Nat.add_zero]; exact list_small ok lx
 | succ i ih =>
   have ih := ih ⟨h.i1, h.i2, fun k hk => h.z k (by omega)⟩ (fun k hk => ln k (by omega)); have f := (yz4 (h.z i (Nat.lt_succ_self i))).1; have ns := node_small f.ok (ln i (Nat.lt_succ_self i))
   show 2 * (ndN (g.N i) * gT g (fun c => (X c).q) nx i * ndE (g.N i)) <= 2 ^ (i + 1) * 4294967296 ^ (szR X nx + szN g.N (i + 1))
   have e1 : ndN (g.N i) * gT g (fun c => (X c).q) nx i * ndE (g.N i) = gT g (fun c => (X c).q) nx i * (ndN (g.N i) * ndE (g.N i)) := by ac_rfl
   rw [e1, szN_succ]; have h1 := Nat.mul_le_mul ih ns
   have h2 : 4294967296 ^ (szR X nx + szN g.N i) * 4294967296 ^ szR (g.N i).V (g.N i).nv <= 4294967296 ^ (szR X nx + (szN g.N i + (g.N i).size)) := by
    rw [<- Nat.pow_add]; refine Nat.pow_le_pow_right (by decide) ?_; unfold xq1.size; omega
   have h3 := Nat.mul_le_mul_left (2 ^ i) h2; rw [Nat.pow_succ, Nat.mul_comm (2 ^ i) 2, Nat.mul_assoc 2]; rw [<- Nat.mul_assoc] at h3; exact Nat.mul_le_mul_left 2 (Nat.le_trans h1 h3)
theorem two_powK {i a : Nat} (h : i <= 32 * a) : 2 ^ i <= 4294967296 ^ a := by
 rw [show (4294967296 : Nat) = 2 ^ 32 by decide, <- Nat.pow_mul]; exact Nat.pow_le_pow_right (by decide) h
theorem two_pow {i : Nat} (h : i <= 1001) : 2 ^ i <= 4294967296 ^ 32 := two_powK (by omega)
theorem gT_lim {i K : Nat} (h : Stand g i) (hi : i <= 1001) (ok : yz5 X nx) (lx : ∀ c, c < nx -> (X c).lim) (ln : ∀ k, k < i -> ∀ c, c < (g.N k).nv -> ((g.N k).V c).lim) (hK : szR X nx + szN g.N i + 32 < K) :
 gT g (fun c => (X c).q) nx i < 4294967296 ^ K := by
 have h1 := gT_small h ok lx ln; have h2 := Nat.mul_le_mul_right (4294967296 ^ (szR X nx + szN g.N i)) (two_pow hi); rw [<- Nat.pow_add] at h2; have h3 : (4294967296 : Nat) ^ (32 + (szR X nx + szN g.N i)) < 4294967296 ^ K := Nat.pow_lt_pow_right (by decide) (by omega); exact Nat.lt_of_le_of_lt (Nat.le_trans h1 h2) h3
theorem Rep.lim {q : Rat} {T D T' K : Nat} (h : Rep q T D) (hD : 0 < D) (h1 : T <= T') (h2 : D <= T') (hK : T' < 4294967296 ^ K) : Qb q K :=
 h.qb hD (Nat.lt_of_le_of_lt h1 hK) (Nat.lt_of_le_of_lt h2 hK)
end
end Go.Proofs.YthaomfabdghfjaaGreat
