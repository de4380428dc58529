import Derived.Test.YtnogbaapcjjngaaGreatDoorOwnP25
import Derived.Test.YtnogbaapcjjngaaGreatDoorOwnP22
import Derived.Test.YtnogbaapcjjngaaGreatDoorOwnP20
import Derived.Test.YtnogbaapcjjngaaGreatDoorOwnP4
import Derived.Test.YtnogbaapcjjngaaGreatDoorOwnP5
set_option maxHeartbeats 6400000
set_option maxRecDepth 100000
namespace Go.Proofs.YtnogbaapcjjngaaGreatDoor
open Go.RowKit
theorem sign_cmp (f f' : Bool) (x y n' q : Nat) (hf : f = true -> 0 < x) (hf' : f' = true -> 0 < y) (hy : 0 < n' ↔ 0 < y) (hq : q = 0 ↔ xq4 f (!f' && decide (0 < n')) x y = 0) :
 (if (q : Int) = 0 then (0 : Int) else if (xj5 f (!f' && decide (0 < n')) x y && xq4 f (!f' && decide (0 < n')) x y != 0) = true then -1 else 1) = cmpR f f' x y := by
 have hd : decide (0 < n') = decide (0 < y) := by simp [hy]
 rw [hd] at hq ⊢; clear hd hy; have hq' : ((q : Int) = 0) ↔ xq4 f (!f' && decide (0 < y)) x y = 0 := by omega
 simp only [hq']; clear hq hq'
 rcases Nat.lt_trichotomy x y with h1 | h1 | h1
 . cases f <;> cases f' <;> rcases Nat.eq_zero_or_pos y with h0 | h0 <;> simp_all [xj5, xq4, cmpR, cmpN] <;> (try omega)
 . cases f <;> cases f' <;> rcases Nat.eq_zero_or_pos y with h0 | h0 <;> simp_all [xj5, xq4, cmpR, cmpN] <;> (try omega)
 . have h2 : ¬ x < y := by omega
   have h3 : ¬ x - y = 0 := by omega
   have h6 : 0 < x := by omega
   have h7 : ¬ x = 0 := by omega
   clear hf; cases f <;> cases f' <;> rcases Nat.eq_zero_or_pos y with h0 | h0 <;> simp [xj5, xq4, cmpR, cmpN, h0, h1, h2, h3, h6, h7] <;> (try (have := hf' rfl; omega)) <;> (try omega)
theorem l1Sign_any (f : Bool) (a b : Option Addr) (n ca m cb : Nat) (w : World) :
 Calls Tryz.prog 203 #[.agg #[.bool f, .slice a n ca, .slice b m cb]] w fun e w' => e = .returned (.int .i64 (if (n : Int) = 0 then (0 : Int) else if f = true then -1 else 1)) /\ w.Since w.heap.size w' := by
 have sA := sal w (.cells #[.bool f, .slice a n ca, .slice b m cb] 61)
 by_cases h0 : n = 0
 . subst h0
   go_enter Tryz.func203, Tryz.ntmps203; go_wp2; go_ret; exact ⟨rfl, sA⟩
 . have q1 : ((n : Int) == 0) = false := by simp; omega
   have q2 : ¬ ((n : Int) = 0) := by omega
   rw [if_neg q2]; cases f
   . go_enter Tryz.func203, Tryz.ntmps203
     go_wp2; go_ret; exact ⟨rfl, sA⟩
   . go_enter Tryz.func203, Tryz.ntmps203
     go_wp2; go_ret; exact ⟨rfl, sA⟩
theorem ratOk_neg {f' : Bool} {X' Y' : Nat -> Nat} {n' m' : Nat} (ok' : xq9 f' X' n' Y' m' = true) : xq9 (!f' && decide (0 < n')) X' n' Y' m' = true := by
 unfold xq9 at *; cases f' <;> rcases Nat.eq_zero_or_pos n' with h | h <;> simp_all <;> (try omega)
theorem rat_pos {f : Bool} {X Y : Nat -> Nat} {n m : Nat} (ok : xq9 f X n Y m = true) (e : f = true) (pX : 0 < n -> X (n - 1) ≠ 0) : 0 < lv X n := by
 subst e; unfold xq9 at ok
 rcases Nat.eq_zero_or_pos (lv X n) with h | h
 . have := (xw4 pX).2 h
   subst this
   simp at ok
 . exact h
theorem l1Sub_opt (f f' : Bool) (a b a' b' : Option Addr) (ba oa n ca bb ob m cb ba' oa' n' ca' bb' ob' m' cb' : Nat) (X Y X' Y' : Nat -> Nat) (w : World) (hn : n + n' + m + m' <= 16777216)
 (R : RIn w a b ba oa n ca bb ob m cb X Y) (R' : RIn w a' b' ba' oa' n' ca' bb' ob' m' cb' X' Y') (ok : xq9 f X n Y m = true) (ok' : xq9 f' X' n' Y' m' = true) :
 Calls Tryz.prog 204 #[.agg #[.bool f, .slice a n ca, .slice b m cb], .agg #[.bool f', .slice a' n' ca', .slice b' m' cb']] w fun e w' => ∃ v, e = .returned v /\
  RatV w' v (xj5 f (!f' && decide (0 < n')) (lv X n * lv Y' m') (lv X' n' * lv Y m) && xq4 f (!f' && decide (0 < n')) (lv X n * lv Y' m') (lv X' n' * lv Y m) != 0) (xq4 f (!f' && decide (0 < n')) (lv X n * lv Y' m') (lv X' n' * lv Y m) / Nat.gcd (xq4 f (!f' && decide (0 < n')) (lv X n * lv Y' m') (lv X' n' * lv Y m)) (lv Y m * lv Y' m')) ((lv Y m * lv Y' m') / Nat.gcd (xq4 f (!f' && decide (0 < n')) (lv X n * lv Y' m') (lv X' n' * lv Y m)) (lv Y m * lv Y' m')) w.heap.size 67108864 /\ w.Since w.heap.size w' := by
 have hne2 : w.heap.size + 1 + 1 ≠ w.heap.size := by omega
 obtain ⟨sA, zA, oA, pA, rA⟩ := bx w (.bool f) (.slice a n ca) (.slice b m cb) (.bool f') (.slice a' n' ca') (.slice b' m' cb') (.bool false) (.slice none 0 0) (.slice none 0 0); have m1 := R.m0; have m1' := R'.m0; obtain ⟨NN, hNN⟩ : ∃ z, z = (xj5 f (!f' && decide (0 < n')) (lv X n * lv Y' m') (lv X' n' * lv Y m) && xq4 f (!f' && decide (0 < n')) (lv X n * lv Y' m') (lv X' n' * lv Y m) != 0) := ⟨_, rfl⟩; have HNN := hide hNN; clear hNN; have J1 := l1Neg_opt f' a' b' ba' oa' n' ca' bb' ob' m' cb' X' Y' (((w.alloc (.cells #[.bool f, .slice a n ca, .slice b m cb] 61)).alloc (.cells #[.bool f', .slice a' n' ca', .slice b' m' cb'] 61)).alloc (.cells #[.bool false, .slice none 0 0, .slice none 0 0] 61)).drew (by omega) (by omega) R'.nc R'.mc R'.ac R'.bc (R'.keep (xq6 sA)).LX (R'.keep (xq6 sA)).LY; go_enter Tryz.func204, Tryz.ntmps204; have k := And.intro oA.cells pA.cells; go_wp2_with fail; generalize (((w.alloc (.cells #[.bool f, .slice a n ca, .slice b m cb] 61)).alloc (.cells #[.bool f', .slice a' n' ca', .slice b' m' cb'] 61)).alloc (.cells #[.bool false, .slice none 0 0, .slice none 0 0] 61)) = w1 at *
 go_region_held3 (fun w' => w'.cell? ⟨w.heap.size, 0, none⟩ = some (.bool f) /\ w'.cell? ⟨w.heap.size, 1, none⟩ = some (.slice a n ca) /\ w'.cell? ⟨w.heap.size, 2, none⟩ = some (.slice b m cb) /\ w'.cell? ⟨w.heap.size + 1, 0, none⟩ = some (.bool f') /\ w'.cell? ⟨w.heap.size + 1, 1, none⟩ = some (.slice a' n' ca') /\ w'.cell? ⟨w.heap.size + 1, 2, none⟩ = some (.slice b' m' cb')) (go_keep)
  (first
    | (go_at_call 227
       with_reducible refine J1.mono ?_
       rintro e w2 ⟨g, h, c1, c2, rfl, v1, v2, L1, L2, b1, b2, b3, s2⟩; have S2 : w.Since w.heap.size w2 := (xq6 sA).trans (sM s2 sA.size); have o2 := oA.drew.keep s2; have p2 := pA.drew.keep s2; have r2 := rA.drew.keep s2; have kk := And.intro o2.cells p2.cells; have R2 : RIn w2 (some ⟨g, 0, none⟩) (some ⟨h, 0, none⟩) g 0 n' c1 h 0 m' c2 X' Y' := ⟨v1, v2, fun h => (by cases h), fun h => (by cases h), L1, L2, R'.lX, R'.lY, R'.pX, R'.pY, R'.m0⟩; have J2 := l1Add_opt f (!f' && decide (0 < n')) a b (some ⟨g, 0, none⟩) (some ⟨h, 0, none⟩) ba oa n ca bb ob m cb g 0 n' c1 h 0 m' c2 X Y X' Y' w2 hn (R.keep S2) R2 ok (ratOk_neg ok'); rw [<- HNN.out] at J2)
    | (go_at_call 155
       with_reducible refine J2.mono ?_
       rintro e w6 ⟨v, rfl, ⟨x1, x2, g6, h6, rfl, N6, D6, y1, y2, y3⟩, s6⟩; have N6' := N6; have D6' := D6; obtain ⟨a1, q1, d1, Y1, rfl, -⟩ := N6; obtain ⟨a2, q2, d2, Y2, rfl, -⟩ := D6; have kk := And.intro (o2.keep s6).cells (p2.keep s6).cells; have rB := r2.keep s6; have u0 := rB.c0; have u1 := rB.c1; have u2 := rB.c2; have uf0 := rB.f 0; have uf1 := rB.f 1; have uf2 := rB.f 2))
 all_goals go_wp2
 all_goals
  have S6 := S2.trans (sM s6 S2.size); have zr := r2.lt; have rC := ((rB.set0 (.bool NN)).set1 (.slice a1 q1 d1)).set2 (.slice a2 q2 d2); refine bodyPost_ret (rb3 rfl _ _ _ _ _ _ rfl rC) rfl ?_; have M : xq0 w6 _ (w.heap.size + 1 + 1) := (((xq0.refl w6 _).setCell 0 (.bool NN)).setCell 1 (.slice a1 q1 d1)).setCell 2 (.slice a2 q2 d2); exact ⟨_, rfl, ⟨_, _, g6, h6, by rw [HNN.out], N6'.marked M (by omega), D6'.marked M (by omega), by omega, by omega, y3⟩, S6.trans (M.since (by omega))⟩
theorem l1Cmp_opt (f f' : Bool) (a b a' b' : Option Addr) (ba oa n ca bb ob m cb ba' oa' n' ca' bb' ob' m' cb' : Nat) (X Y X' Y' : Nat -> Nat) (w : World) (hn : n + n' + m + m' <= 16777216)
 (R : RIn w a b ba oa n ca bb ob m cb X Y) (R' : RIn w a' b' ba' oa' n' ca' bb' ob' m' cb' X' Y') (ok : xq9 f X n Y m = true) (ok' : xq9 f' X' n' Y' m' = true) :
 Calls Tryz.prog 183 #[.agg #[.bool f, .slice a n ca, .slice b m cb], .agg #[.bool f', .slice a' n' ca', .slice b' m' cb']] w fun e w' => e = .returned (.int .i64 (cmpR f f' (lv X n * lv Y' m') (lv X' n' * lv Y m))) /\ w.Since w.heap.size w' := by
 have sA : w.Since w.heap.size ((w.alloc (.cells #[.bool f, .slice a n ca, .slice b m cb] 61)).alloc (.cells #[.bool f', .slice a' n' ca', .slice b' m' cb'] 61)) := ((World.Since.refl _ _).alloc (Nat.le_refl _) _).alloc (by simp) _; have zA : ((w.alloc (.cells #[.bool f, .slice a n ca, .slice b m cb] 61)).alloc (.cells #[.bool f', .slice a' n' ca', .slice b' m' cb'] 61)).heap.size = w.heap.size + 1 + 1 := by simp
 have oA : Box3 ((w.alloc (.cells #[.bool f, .slice a n ca, .slice b m cb] 61)).alloc (.cells #[.bool f', .slice a' n' ca', .slice b' m' cb'] 61)) w.heap.size (.bool f) (.slice a n ca) (.slice b m cb) := (Box3.new w _ _ _ _).keep ((World.Since.refl _ _).alloc (Nat.le_refl _) _)
 have pA : Box3 ((w.alloc (.cells #[.bool f, .slice a n ca, .slice b m cb] 61)).alloc (.cells #[.bool f', .slice a' n' ca', .slice b' m' cb'] 61)) (w.heap.size + 1) (.bool f') (.slice a' n' ca') (.slice b' m' cb') := by
  have := Box3.new (w.alloc (.cells #[.bool f, .slice a n ca, .slice b m cb] 61)) (.bool f') (.slice a' n' ca') (.slice b' m' cb') 61
  simpa using this
 have hX0 : f = true -> 0 < lv X n * lv Y' m' := fun e => Nat.mul_pos (rat_pos ok e R.pX) R'.den
 have hX1 : f' = true -> 0 < lv X' n' * lv Y m := fun e => Nat.mul_pos (rat_pos ok' e R'.pX) R.den
 have hX2 : 0 < n' ↔ 0 < lv X' n' * lv Y m := by
  have h1 := xw4 R'.pX
  constructor
  . intro h; exact Nat.mul_pos (by omega) R.den
  . intro h
    rcases Nat.eq_zero_or_pos n' with e | e
    . rw [h1.1 e, Nat.zero_mul] at h; omega
    . exact e
 have hDD := Nat.mul_pos R.den R'.den; obtain ⟨z, hz⟩ : ∃ z, z = cmpR f f' (lv X n * lv Y' m') (lv X' n' * lv Y m) := ⟨_, rfl⟩; have HZ := hide hz; clear hz; have k := And.intro oA.cells pA.cells; have J1 := l1Sub_opt f f' a b a' b' ba oa n ca bb ob m cb ba' oa' n' ca' bb' ob' m' cb' X Y X' Y' ((w.alloc (.cells #[.bool f, .slice a n ca, .slice b m cb] 61)).alloc (.cells #[.bool f', .slice a' n' ca', .slice b' m' cb'] 61)) hn (R.keep sA) (R'.keep sA) ok ok'; go_enter Tryz.func183, Tryz.ntmps183; go_wp2_with fail; generalize ((w.alloc (.cells #[.bool f, .slice a n ca, .slice b m cb] 61)).alloc (.cells #[.bool f', .slice a' n' ca', .slice b' m' cb'] 61)) = w1 at *; refine J1.mono ?_; rintro e w2 ⟨v, rfl, ⟨x1, x2, g6, h6, rfl, N6, D6, y1, y2, y3⟩, s2⟩; have S2 := sA.trans (sM s2 sA.size); obtain ⟨a1, q1, d1, Y1, rfl, -, -, -, -, -, -, tp, ev⟩ := N6; obtain ⟨a2, q2, d2, Y2, rfl, -⟩ := D6; have hq : q1 = 0 ↔ xq4 f (!f' && decide (0 < n')) (lv X n * lv Y' m') (lv X' n' * lv Y m) = 0 := (xw4 tp).trans (by rw [ev]; exact div_gcd_zero hDD); have HC := hide (sign_cmp f f' _ _ n' q1 hX0 hX1 hX2 hq); have J2 := l1Sign_any (xj5 f (!f' && decide (0 < n')) (lv X n * lv Y' m') (lv X' n' * lv Y m) && xq4 f (!f' && decide (0 < n')) (lv X n * lv Y' m') (lv X' n' * lv Y m) != 0) a1 a2 q1 d1 q2 d2 w2; rw [HC.out, <- HZ.out] at J2; clear J1 HC hq hX0 hX1 hX2 tp ev k; go_wp2_with fail; refine J2.mono ?_; rintro e w3 ⟨rfl, s3⟩; go_wp2; go_ret; exact ⟨xv5 HZ.out, S2.trans (sM s3 S2.size)⟩
def qn (q : Rat) : Bool := decide (q.num < 0)
theorem q_norm (s : Int) (d : Nat) (hd : d ≠ 0) : qn (Rat.normalize s d hd) = decide (s < 0) /\ (Rat.normalize s d hd).num.natAbs = s.natAbs / Nat.gcd s.natAbs d /\ (Rat.normalize s d hd).den = d / Nat.gcd s.natAbs d := by
 have hg : 0 < Nat.gcd s.natAbs d := Nat.gcd_pos_of_pos_right _ (by omega); rw [Rat.normalize_eq]; obtain ⟨k, hk⟩ := Nat.gcd_dvd_left s.natAbs d
 have hs : ∃ t : Int, s = (Nat.gcd s.natAbs d : Int) * t := by
  have : ((Nat.gcd s.natAbs d : Nat) : Int) ∣ s := Int.ofNat_dvd_left.2 (Nat.gcd_dvd_left _ _); exact this
 obtain ⟨t, ht⟩ := hs; have hgi : (0 : Int) < (Nat.gcd s.natAbs d : Int) := by omega
 have hq : s / (Nat.gcd s.natAbs d : Int) = t := by
  have h1 := Int.mul_ediv_cancel_left t (show (Nat.gcd s.natAbs d : Int) ≠ 0 by omega); rw [<- ht] at h1; exact h1
 refine ⟨?_, ?_, rfl⟩
 . unfold qn
   show decide (s / (Nat.gcd s.natAbs d : Int) < 0) = _
   rw [hq, decide_eq_decide]
   constructor
   . intro h
     rw [ht]; exact Int.mul_neg_of_pos_of_neg hgi h
   . intro h
     rcases Int.lt_or_le t 0 with e | e
     . exact e
     . have := Int.mul_nonneg (Int.le_of_lt hgi) e
       omega
 . show (s / (Nat.gcd s.natAbs d : Int)).natAbs = _
   rw [hq]
   have h2 : s.natAbs = Nat.gcd s.natAbs d * t.natAbs := by
    have := congrArg Int.natAbs ht; rw [Int.natAbs_mul, Int.natAbs_natCast] at this; exact this
   rw [Nat.div_eq_of_eq_mul_right hg h2]
theorem num_of (q : Rat) : q.num = if qn q then -(q.num.natAbs : Int) else (q.num.natAbs : Int) := by
 unfold qn
 by_cases h : q.num < 0
 . simp [h]; omega
 . simp [h]; omega
theorem qn_pos {q : Rat} (h : qn q = true) : 0 < q.num.natAbs := by
 unfold qn at h; have := of_decide_eq_true h; omega
theorem mulInt (f f' : Bool) (x y : Nat) : decide ((if f then -(x : Int) else x) * (if f' then -(y : Int) else y) < 0) = ((f != f') && x * y != 0) /\ ((if f then -(x : Int) else x) * (if f' then -(y : Int) else y)).natAbs = x * y := by
 constructor
 . rw [Bool.eq_iff_iff, decide_eq_true_iff]
   have hc : (x : Int) * (y : Int) = ((x * y : Nat) : Int) := by simp
   cases f <;> cases f' <;> simp only [if_true, if_false, Bool.false_eq_true, Int.neg_mul, Int.mul_neg, Int.neg_neg, hc] <;> generalize x * y = z <;> simp <;> omega
 . rw [Int.natAbs_mul]
   cases f <;> cases f' <;> simp
theorem sumInt (f f' : Bool) (x y : Nat) (hf : f = true -> 0 < x) (hf' : f' = true -> 0 < y) : decide ((if f then -(x : Int) else x) + (if f' then -(y : Int) else y) < 0) = (xj5 f f' x y && xq4 f f' x y != 0) /\ ((if f then -(x : Int) else x) + (if f' then -(y : Int) else y)).natAbs = xq4 f f' x y := by
 unfold xj5 xq4
 constructor
 . rw [Bool.eq_iff_iff, decide_eq_true_iff]
   cases f <;> cases f' <;> simp
   . omega
   . by_cases h : x < y <;> simp [h] <;> omega
   . by_cases h : x < y <;> simp [h] <;> omega
   . have := hf rfl; omega
 . cases f <;> cases f' <;> simp
   . omega
   . by_cases h : x < y <;> simp [h] <;> omega
   . by_cases h : x < y <;> simp [h] <;> omega
   . omega
theorem q_mul (p q : Rat) : qn (p * q) = ((qn p != qn q) && p.num.natAbs * q.num.natAbs != 0) /\ (p * q).num.natAbs = p.num.natAbs * q.num.natAbs / Nat.gcd (p.num.natAbs * q.num.natAbs) (p.den * q.den) /\ (p * q).den = p.den * q.den / Nat.gcd (p.num.natAbs * q.num.natAbs) (p.den * q.den) := by
 rw [Rat.mul_def]; have h := q_norm (p.num * q.num) (p.den * q.den) (Nat.mul_ne_zero p.den_nz q.den_nz); have hm := mulInt (qn p) (qn q) p.num.natAbs q.num.natAbs; rw [<- num_of, <- num_of] at hm; rw [hm.1, hm.2] at h; exact h
theorem q_add (p q : Rat) : qn (p + q) = (xj5 (qn p) (qn q) (p.num.natAbs * q.den) (q.num.natAbs * p.den) && xq4 (qn p) (qn q) (p.num.natAbs * q.den) (q.num.natAbs * p.den) != 0) /\
 (p + q).num.natAbs = xq4 (qn p) (qn q) (p.num.natAbs * q.den) (q.num.natAbs * p.den) / Nat.gcd (xq4 (qn p) (qn q) (p.num.natAbs * q.den) (q.num.natAbs * p.den)) (p.den * q.den) /\
 (p + q).den = p.den * q.den / Nat.gcd (xq4 (qn p) (qn q) (p.num.natAbs * q.den) (q.num.natAbs * p.den)) (p.den * q.den) := by
 rw [Rat.add_def]; have h := q_norm (p.num * q.den + q.num * p.den) (p.den * q.den) (Nat.mul_ne_zero p.den_nz q.den_nz); have hm := sumInt (qn p) (qn q) (p.num.natAbs * q.den) (q.num.natAbs * p.den) (fun e => Nat.mul_pos (qn_pos e) (Nat.pos_of_ne_zero q.den_nz)) (fun e => Nat.mul_pos (qn_pos e) (Nat.pos_of_ne_zero p.den_nz))
 have e1 : p.num * (q.den : Int) = if qn p then -((p.num.natAbs * q.den : Nat) : Int) else ((p.num.natAbs * q.den : Nat) : Int) := by
  conv => lhs; rw [num_of p]
  cases qn p <;> simp [Int.neg_mul]
 have e2 : q.num * (p.den : Int) = if qn q then -((q.num.natAbs * p.den : Nat) : Int) else ((q.num.natAbs * p.den : Nat) : Int) := by
  conv => lhs; rw [num_of q]
  cases qn q <;> simp [Int.neg_mul]
 rw [<- e1, <- e2] at hm; rw [hm.1, hm.2] at h; exact h
def qcmp (p q : Rat) : Int := if p < q then -1 else if q < p then 1 else 0
theorem q_cmp (p q : Rat) : cmpR (qn p) (qn q) (p.num.natAbs * q.den) (q.num.natAbs * p.den) = qcmp p q := by
 have e1 : p.num * (q.den : Int) = if qn p then -((p.num.natAbs * q.den : Nat) : Int) else ((p.num.natAbs * q.den : Nat) : Int) := by
  conv => lhs; rw [num_of p]
  cases qn p <;> simp [Int.neg_mul]
 have e2 : q.num * (p.den : Int) = if qn q then -((q.num.natAbs * p.den : Nat) : Int) else ((q.num.natAbs * p.den : Nat) : Int) := by
  conv => lhs; rw [num_of q]
  cases qn q <;> simp [Int.neg_mul]
 have h1 : qn p = true -> 0 < p.num.natAbs * q.den := fun e => Nat.mul_pos (qn_pos e) (Nat.pos_of_ne_zero q.den_nz)
 have h2 : qn q = true -> 0 < q.num.natAbs * p.den := fun e => Nat.mul_pos (qn_pos e) (Nat.pos_of_ne_zero p.den_nz)
 unfold qcmp cmpR; simp only [Rat.lt_iff, e1, e2]; generalize p.num.natAbs * q.den = x at *; generalize q.num.natAbs * p.den = y at *; clear e1 e2; unfold cmpN; cases hp : qn p <;> cases hq : qn q <;> simp [hp, hq] at h1 h2 ⊢ <;> (repeat' split) <;> omega
def RatR (w : World) (v : Value) (q : Rat) : Prop :=
 ∃ a n ca b m cb ba oa bb ob X Y, v = .agg #[.bool (qn q), .slice a n ca, .slice b m cb] /\ RIn w a b ba oa n ca bb ob m cb X Y /\ lv X n = q.num.natAbs /\ lv Y m = q.den
theorem RatR.keep {w w' : World} {v : Value} {q : Rat} (h : RatR w v q) (s : w.Since w.heap.size w') : RatR w' v q := by
 obtain ⟨a, n, ca, b, m, cb, ba, oa, bb, ob, X, Y, h1, h2, h3⟩ := h; exact ⟨a, n, ca, b, m, cb, ba, oa, bb, ob, X, Y, h1, h2.keep s, h3⟩
def Qb (q : Rat) (k : Nat) : Prop := q.num.natAbs < 4294967296 ^ k /\ q.den < 4294967296 ^ k
theorem Qb.more {q : Rat} {k l : Nat} (h : Qb q k) (hk : k <= l) : Qb q l :=
 ⟨Nat.lt_of_lt_of_le h.1 (Nat.pow_le_pow_right (by decide) hk), Nat.lt_of_lt_of_le h.2 (Nat.pow_le_pow_right (by decide) hk)⟩
theorem xx1 {X : Nat -> Nat} {n k : Nat} (h0 : 0 < n -> X (n - 1) ≠ 0) (h : lv X n < 4294967296 ^ k) : n <= k := by
 rcases Nat.lt_or_ge k n with e | e
 . exfalso
   have h1 : 0 < n := by omega
   have h2 := lv_ge X n h1 (h0 h1); rw [Nat.pow_mul, show (2 : Nat) ^ 32 = 4294967296 by decide] at h2; have h3 : (4294967296 : Nat) ^ k <= 4294967296 ^ (n - 1) := Nat.pow_le_pow_right (by decide) (by omega); omega
 . exact e
theorem Qb.mul {p q : Rat} {k l : Nat} (h : Qb p k) (h' : Qb q l) : Qb (p * q) (k + l) := by
 obtain ⟨-, e2, e3⟩ := q_mul p q; unfold Qb; rw [e2, e3, Nat.pow_add]; exact ⟨Nat.lt_of_le_of_lt (Nat.div_le_self _ _) (Nat.mul_lt_mul'' h.1 h'.1), Nat.lt_of_le_of_lt (Nat.div_le_self _ _) (Nat.mul_lt_mul'' h.2 h'.2)⟩
theorem RIn.ok {w : World} {a b : Option Addr} {ba oa n ca bb ob m cb : Nat} {X Y : Nat -> Nat} {q : Rat} (R : RIn w a b ba oa n ca bb ob m cb X Y) (h1 : lv X n = q.num.natAbs) (h2 : lv Y m = q.den) : xq9 (qn q) X n Y m = true := by
 have p1 := xz5.2 R.pX; have p2 := xz5.2 R.pY; have m0 := R.m0; have g : Nat.gcd (lv X n) (lv Y m) = 1 := by rw [h1, h2]; exact q.reduced
 have hz : (qn q && n == 0) = false := by
  cases hq : qn q
  . rfl
  . have := qn_pos hq
    rw [<- h1] at this; have h3 := xw4 R.pX; have : n ≠ 0 := by intro e; have := h3.1 e; omega
    simp [this]
 unfold xq9; rw [p1, p2, g, hz]
 simp
 omega
theorem l1Add_q {v v' : Value} {p q : Rat} {k l : Nat} {w : World} (hp : Qb p k) (hq : Qb q l) (hk : 2 * k + 2 * l <= 16777216) (R : RatR w v p) (R' : RatR w v' q) :
 Calls Tryz.prog 155 #[v, v'] w fun e w' => ∃ u, e = .returned u /\ RatV w' u (qn (p + q)) (p + q).num.natAbs (p + q).den w.heap.size 67108864 /\ w.Since w.heap.size w' := by
 obtain ⟨a, n, ca, b, m, cb, ba, oa, bb, ob, X, Y, rfl, R, x1, x2⟩ := R; obtain ⟨a', n', ca', b', m', cb', ba', oa', bb', ob', X', Y', rfl, R', y1, y2⟩ := R'; have n1 := xx1 R.pX (by rw [x1]; exact hp.1); have n2 := xx1 R.pY (by rw [x2]; exact hp.2); have n3 := xx1 R'.pX (by rw [y1]; exact hq.1); have n4 := xx1 R'.pY (by rw [y2]; exact hq.2); have J := l1Add_opt (qn p) (qn q) a b a' b' ba oa n ca bb ob m cb ba' oa' n' ca' bb' ob' m' cb' X Y X' Y' w (by omega) R R' (R.ok x1 x2) (R'.ok y1 y2); obtain ⟨e1, e2, e3⟩ := q_add p q; rw [x1, x2, y1, y2, <- e1, <- e2, <- e3] at J; exact J
theorem den_cast_ne (q : Rat) : (q.den : Rat) ≠ 0 := fun h => q.den_nz (by
 have h2 : ((q.den : Int) : Rat) = ((0 : Int) : Rat) := h; exact Int.ofNat_inj.1 (Rat.intCast_inj.1 h2))
theorem rat_mul_den (q : Rat) : q * (q.den : Rat) = (q.num : Rat) := by
 have h : q = (q.num : Rat) / (q.den : Rat) := by rw [<- Rat.mkRat_eq_div, Rat.mkRat_self]
 have h2 : (q.num : Rat) / (q.den : Rat) * (q.den : Rat) = (q.num : Rat) := Rat.div_mul_cancel (den_cast_ne q)
 rwa [<- h] at h2
def Rep (q : Rat) (T D : Nat) : Prop := ∃ t : Int, q * (D : Rat) = (t : Rat) /\ t.natAbs <= T
theorem Rep.base (q : Rat) : Rep q q.num.natAbs q.den := by
 refine ⟨q.num, ?_, Nat.le_refl _⟩; exact rat_mul_den q
theorem Rep.more {q : Rat} {T T' D : Nat} (h : Rep q T D) (hT : T <= T') : Rep q T' D := by
 obtain ⟨t, h1, h2⟩ := h; exact ⟨t, h1, Nat.le_trans h2 hT⟩
theorem Rep.add {p q : Rat} {T T' D : Nat} (h : Rep p T D) (h' : Rep q T' D) : Rep (p + q) (T + T') D := by
 obtain ⟨t, h1, h2⟩ := h; obtain ⟨u, h3, h4⟩ := h'; refine ⟨t + u, by rw [Rat.add_mul, h1, h3, Rat.intCast_add], ?_⟩; exact Nat.le_trans (Int.natAbs_add_le t u) (Nat.add_le_add h2 h4)
theorem Rep.mul {p q : Rat} {T T' D D' : Nat} (h : Rep p T D) (h' : Rep q T' D') : Rep (p * q) (T * T') (D * D') := by
 obtain ⟨t, h1, h2⟩ := h; obtain ⟨u, h3, h4⟩ := h'; refine ⟨t * u, ?_, by rw [Int.natAbs_mul]; exact Nat.mul_le_mul h2 h4⟩; rw [Rat.natCast_mul, Rat.intCast_mul, <- h1, <- h3]; rw [Rat.mul_assoc, Rat.mul_assoc, <- Rat.mul_assoc q, <- Rat.mul_assoc (D : Rat), Rat.mul_comm q (D : Rat)]
theorem Rep.up {q : Rat} {T D : Nat} (h : Rep q T D) (E : Nat) : Rep q (T * E) (D * E) := by
 obtain ⟨t, h1, h2⟩ := h; refine ⟨t * E, ?_, by rw [Int.natAbs_mul]; exact Nat.mul_le_mul h2 (by simp)⟩; rw [Rat.natCast_mul, Rat.intCast_mul, <- Rat.mul_assoc, h1]
 rfl
theorem Rep.bound {q : Rat} {T D : Nat} (h : Rep q T D) (hD : 0 < D) : q.num.natAbs <= T /\ q.den <= D := by
 obtain ⟨t, h1, h2⟩ := h
 have e : q.num * (D : Int) = t * (q.den : Int) := by
  have h3 : q * (D : Rat) * (q.den : Rat) = (t : Rat) * (q.den : Rat) := by rw [h1]
  rw [Rat.mul_assoc, Rat.mul_comm (D : Rat), <- Rat.mul_assoc, rat_mul_den] at h3
  have h4 : ((q.num * (D : Int) : Int) : Rat) = ((t * (q.den : Int) : Int) : Rat) := by
   rw [Rat.intCast_mul, Rat.intCast_mul]; exact h3
  exact Rat.intCast_inj.1 h4
 have e2 : q.num.natAbs * D = t.natAbs * q.den := by
  have := congrArg Int.natAbs e
  rwa [Int.natAbs_mul, Int.natAbs_mul, Int.natAbs_natCast, Int.natAbs_natCast] at this
 have hd : q.den ∣ D := by
  have h5 : q.den ∣ q.num.natAbs * D := ⟨t.natAbs, by rw [e2, Nat.mul_comm]⟩; exact Nat.Coprime.dvd_of_dvd_mul_left (Nat.Coprime.symm q.reduced) h5
 refine ⟨?_, Nat.le_of_dvd hD hd⟩; obtain ⟨c, rfl⟩ := hd
 have hc : 0 < c := by
  rcases Nat.eq_zero_or_pos c with h | h
  . subst h; simp at hD
  . exact h
 have hq : 0 < q.den := q.den_pos
 have e3 : t.natAbs = q.num.natAbs * c := by
  have : q.den * (q.num.natAbs * c) = q.den * t.natAbs := by rw [Nat.mul_comm q.den t.natAbs, <- e2, Nat.mul_left_comm]
  exact (Nat.eq_of_mul_eq_mul_left hq this).symm
 have : q.num.natAbs <= q.num.natAbs * c := Nat.le_mul_of_pos_right _ hc; omega
theorem Rep.qb {q : Rat} {T D k : Nat} (h : Rep q T D) (hD : 0 < D) (h1 : T < 4294967296 ^ k) (h2 : D < 4294967296 ^ k) : Qb q k :=
 ⟨Nat.lt_of_le_of_lt (h.bound hD).1 h1, Nat.lt_of_le_of_lt (h.bound hD).2 h2⟩
def dens (q : Nat -> Rat) : Nat -> Nat
 | 0 => 1
 | n + 1 => dens q n * (q n).den
def nums (q : Nat -> Rat) : Nat -> Nat
 | 0 => 1
 | n + 1 => nums q n * ((q n).num.natAbs + 1)
theorem dens_pos (q : Nat -> Rat) (n : Nat) : 0 < dens q n := by
 induction n with
 | zero => exact Nat.one_pos
 | succ n ih => exact Nat.mul_pos ih (q n).den_pos
theorem yv3 (q : Nat -> Rat) (n : Nat) : 0 < nums q n := by
 induction n with
 | zero => exact Nat.one_pos
 | succ n ih => exact Nat.mul_pos ih (Nat.succ_pos _)
theorem dens_dvd (q : Nat -> Rat) {k n : Nat} (h : k < n) : (q k).den ∣ dens q n := by
 induction n with
 | zero => omega
 | succ n ih =>
   rcases Nat.lt_succ_iff_lt_or_eq.1 h with h | h
   . exact Nat.dvd_trans (ih h) ⟨_, rfl⟩
   . subst h; exact ⟨dens q k, Nat.mul_comm _ _⟩
theorem nums_le (q : Nat -> Rat) {k n : Nat} (h : k < n) : (q k).num.natAbs + 1 <= nums q n := by
 induction n with
 | zero => omega
 | succ n ih =>
   rcases Nat.lt_succ_iff_lt_or_eq.1 h with h | h
   . exact Nat.le_trans (ih h) (Nat.le_mul_of_pos_right _ (Nat.succ_pos _))
   . subst h; exact Nat.le_mul_of_pos_left _ (yv3 q k)
def sumN (q : Nat -> Rat) (a : Nat) : Nat -> Nat
 | 0 => 0
 | j + 1 => sumN q a j + (q (a + j)).num.natAbs
theorem sumN_front (q : Nat -> Rat) (a b j : Nat) : sumN q a (b + j) = sumN q a b + sumN q (a + b) j := by
 induction j with
 | zero => simp [sumN]
 | succ j ih => rw [<- Nat.add_assoc, sumN, sumN, ih, Nat.add_assoc a b j, Nat.add_assoc]
theorem sumN_part (q : Nat -> Rat) {a j n : Nat} (h : a + j <= n) : sumN q a j <= sumN q 0 n := by
 have h1 := sumN_front q 0 a j; have h2 := sumN_front q 0 (a + j) (n - (a + j)); rw [show a + j + (n - (a + j)) = n by omega] at h2; rw [Nat.zero_add] at h1; omega
theorem sumN_nums (q : Nat -> Rat) (n : Nat) : sumN q 0 n + 1 <= nums q n := by
 induction n with
 | zero => exact Nat.le_refl _
 | succ n ih =>
   unfold sumN nums; rw [Nat.zero_add, Nat.mul_add, Nat.mul_one]; have := Nat.le_mul_of_pos_left (q n).num.natAbs (yv3 q n); omega
def psum (b : Rat) (w v : Nat -> Rat) : Nat -> Rat
 | 0 => b
 | j + 1 => psum b w v j + w j * v j
theorem Rep.term {p q : Rat} {T D E : Nat} (h : Rep q T D) (hp : p.den ∣ E) : Rep (p * q) (p.num.natAbs * T * E) (D * E) := by
 obtain ⟨Y, rfl⟩ := hp; have h1 := ((Rep.base p).mul h).up Y; rw [show p.den * D * Y = D * (p.den * Y) by rw [Nat.mul_comm p.den D, Nat.mul_assoc]] at h1; exact h1.more (Nat.mul_le_mul_left _ (Nat.le_mul_of_pos_left _ p.den_pos))
theorem Rep.row {b : Rat} {w v : Nat -> Rat} {T D E S : Nat} (hDT : D <= T) (hb : b.den ∣ E) (j : Nat) (hw : ∀ c, c < j -> (w c).den ∣ E) (hv : ∀ c, c < j -> Rep (v c) T D)
 (hS : b.num.natAbs + sumN w 0 j <= S) : Rep (psum b w v j) (S * T * E) (D * E) := by
 have key : ∀ i, i <= j -> Rep (psum b w v i) ((b.num.natAbs + sumN w 0 i) * T * E) (D * E) := by
  intro i
  induction i with
  | zero =>
    intro _; obtain ⟨Y, rfl⟩ := hb; have h1 := (Rep.base b).up (D * Y); rw [show b.den * (D * Y) = D * (b.den * Y) by rw [Nat.mul_left_comm]] at h1; refine h1.more ?_; simp only [sumN, Nat.add_zero]; rw [Nat.mul_assoc]; refine Nat.mul_le_mul_left _ ?_; exact Nat.mul_le_mul hDT (Nat.le_mul_of_pos_left _ b.den_pos)
  | succ i ih =>
    intro hi; have h1 := (ih (by omega)).add ((hv i (by omega)).term (hw i (by omega))); refine h1.more ?_; rw [sumN, Nat.zero_add, <- Nat.add_mul, <- Nat.add_mul, Nat.add_assoc]; exact Nat.le_refl _
 exact (key j (Nat.le_refl _)).more (Nat.mul_le_mul_right _ (Nat.mul_le_mul_right _ hS))
def RatD.q (r : RatD) : Rat := mkRat (if r.neg then -(lv r.X r.n : Int) else lv r.X r.n) (lv r.Y r.m)
theorem norm_q (f : Bool) (N D : Nat) (hD : D ≠ 0) : qn (mkRat (if f then -(N : Int) else N) D) = (f && N != 0) /\ (mkRat (if f then -(N : Int) else N) D).num.natAbs = N / Nat.gcd N D /\ (mkRat (if f then -(N : Int) else N) D).den = D / Nat.gcd N D := by
 rw [<- Rat.normalize_eq_mkRat hD]; obtain ⟨e1, e2, e3⟩ := q_norm (if f then -(N : Int) else N) D hD; have ea : (if f then -(N : Int) else (N : Int)).natAbs = N := by split <;> simp
 rw [ea] at e2 e3; refine ⟨?_, e2, e3⟩; rw [e1]; cases f
 . simp
 . show decide (-(N : Int) < 0) = (true && N != 0)
   rw [Bool.eq_iff_iff]; simp only [decide_eq_true_eq, Bool.true_and, bne_iff_ne]; omega
theorem RatD.q_ok {r : RatD} (h : r.ok = true) : qn r.q = r.neg /\ r.q.num.natAbs = lv r.X r.n /\ r.q.den = lv r.Y r.m /\ (0 < r.n -> r.X (r.n - 1) ≠ 0) /\ (0 < r.m -> r.Y (r.m - 1) ≠ 0) /\ 0 < r.m := by
 unfold RatD.ok xq9 at h; simp only [Bool.and_eq_true, bne_iff_ne, beq_iff_eq, Bool.not_eq_true', Bool.and_eq_false_iff] at h; obtain ⟨⟨⟨⟨h1, h2⟩, h3⟩, h4⟩, h5⟩ := h; have pX := xz5.1 h1; have pY := xz5.1 h2; have hm : 0 < r.m := by omega
 have hd : lv r.Y r.m ≠ 0 := fun e => by have := (xw4 pY).2 e; omega
 obtain ⟨e1, e2, e3⟩ := norm_q r.neg (lv r.X r.n) (lv r.Y r.m) hd; rw [h5, Nat.div_one] at e2 e3; refine ⟨?_, e2, e3, pX, pY, hm⟩; unfold RatD.q; rw [e1]; cases hn : r.neg
 . rfl
 . have hx : r.n ≠ 0 := by
    rcases h4 with h | h
    . rw [hn] at h; cases h
    . simpa using h
   have : lv r.X r.n ≠ 0 := fun e => hx ((xw4 pX).2 e)
   simp [this]
def xx4 (w : World) (p : Nat -> Prop) (v : Value) (q : Rat) : Prop :=
 ∃ a n ca b m cb ba oa bb ob X Y, v = .agg #[.bool (qn q), .slice a n ca, .slice b m cb] /\ RIn w a b ba oa n ca bb ob m cb X Y /\ lv X n = q.num.natAbs /\ lv Y m = q.den /\ (0 < n -> p ba) /\ (0 < m -> p bb)
section
variable {w w' : World} {p p' : Nat -> Prop} {v : Value} {q : Rat} {a : Option Addr} {b off n c : Nat} {Q : Nat -> Rat}
theorem xx4.keep (h : xx4 w p v q) (s : w.Since w.heap.size w') : xx4 w' p v q := by
 obtain ⟨a, n, ca, b, m, cb, ba, oa, bb, ob, X, Y, h1, h2, h3⟩ := h; exact ⟨a, n, ca, b, m, cb, ba, oa, bb, ob, X, Y, h1, h2.keep s, h3⟩
theorem xx4.read (h : xx4 w p v q) : RatR w v q := by
 obtain ⟨a, n, ca, b, m, cb, ba, oa, bb, ob, X, Y, h1, h2, h3, h4, -⟩ := h; exact ⟨a, n, ca, b, m, cb, ba, oa, bb, ob, X, Y, h1, h2, h3, h4⟩
theorem xx4.imp (h : xx4 w p v q) (hp : ∀ g, g < w.heap.size -> p g -> p' g) : xx4 w p' v q := by
 obtain ⟨a, n, ca, b, m, cb, ba, oa, bb, ob, X, Y, h1, h2, h3, h4, h5, h6⟩ := h; exact ⟨a, n, ca, b, m, cb, ba, oa, bb, ob, X, Y, h1, h2, h3, h4, fun h => hp _ (h2.LX.lt h) (h5 h), fun h => hp _ (h2.LY.lt h) (h6 h)⟩
theorem xx4.marked (h : xx4 w p v q) (s : xq0 w w' c) (hc : ¬ p c) : xx4 w' p v q := by
 obtain ⟨a, n, ca, b, m, cb, ba, oa, bb, ob, X, Y, h1, R, h3, h4, h5, h6⟩ := h; exact ⟨a, n, ca, b, m, cb, ba, oa, bb, ob, X, Y, h1, ⟨R.nc, R.mc, R.ac, R.bc, R.LX.marked s (fun h e => hc (e ▸ h5 h)), R.LY.marked s (fun h e => hc (e ▸ h6 h)), R.lX, R.lY, R.pX, R.pY, R.m0⟩, h3, h4, h5, h6⟩
theorem RatV.rp {B M : Nat} (h : RatV w v (qn q) q.num.natAbs q.den B M) : xx4 w (fun g => B <= g) v q := by
 obtain ⟨v1, v2, g, k, rfl, ⟨a, n, ca, X, rfl, n1, -, n3, n4, -, n6, n7, n8⟩, ⟨b, m, cb, Y, rfl, m1, -, m3, m4, -, m6, m7, m8⟩, x1, x2, -⟩ := h; refine ⟨a, n, ca, b, m, cb, g, 0, k, 0, X, Y, rfl, ⟨n1, m1, n3, m3, n4, m4, n6, m6, n7, m7, ?_⟩, n8, m8, fun _ => x1, fun _ => x2⟩
 rcases Nat.eq_zero_or_pos m with e | e
 . subst e
   have := q.den_nz; rw [<- m8] at this; exact absurd rfl this
 . exact e
structure RatC (w : World) (p : Nat -> Prop) (b off : Nat) (q : Rat) (x y : Value) : Prop where
 c0 : w.cell? ⟨b, off, none⟩ = some (.bool (qn q))
 c1 : w.cell? ⟨b, off + 1, none⟩ = some x
 c2 : w.cell? ⟨b, off + 2, none⟩ = some y
 R : xx4 w p (.agg #[.bool (qn q), x, y]) q
theorem RatC.lt {x y : Value} (h : RatC w p b off q x y) : b < w.heap.size := World.block_lt_of_cell? _ _ h.c0
theorem RatC.keep {x y : Value} (h : RatC w p b off q x y) (s : w.Since w.heap.size w') : RatC w' p b off q x y :=
 ⟨(s.cell (a := ⟨b, off, none⟩) h.lt).trans h.c0, (s.cell (a := ⟨b, off + 1, none⟩) h.lt).trans h.c1, (s.cell (a := ⟨b, off + 2, none⟩) h.lt).trans h.c2, h.R.keep s⟩
def xx8 (w : World) (p : Nat -> Prop) (a : Option Addr) (b off n : Nat) (Q : Nat -> Rat) : Prop :=
 ∀ i, i < n -> a = some ⟨b, off, none⟩ /\ ∃ x y, RatC w p b (off + i * 3) (Q i) x y
theorem xx8.keep (h : xx8 w p a b off n Q) (s : w.Since w.heap.size w') : xx8 w' p a b off n Q := fun i hi => by
 obtain ⟨h1, x, y, h2⟩ := h i hi; exact ⟨h1, x, y, h2.keep s⟩
theorem xx8.imp (h : xx8 w p a b off n Q) (hp : ∀ g, g < w.heap.size -> p g -> p' g) : xx8 w p' a b off n Q := fun i hi => by
 obtain ⟨h1, x, y, h2⟩ := h i hi; exact ⟨h1, x, y, h2.c0, h2.c1, h2.c2, h2.R.imp hp⟩
theorem xx8.put {k : Nat} {x y : Value} (h : xx8 w (fun g => g ≠ c) (some ⟨c, 0, none⟩) c 0 k Q) (M : xq0 w w' c) (hc : ∀ o, o < k * 3 -> w'.cell? ⟨c, o, none⟩ = w.cell? ⟨c, o, none⟩)
 (L : xx4 w (fun g => g ≠ c) (.agg #[.bool (qn (Q k)), x, y]) (Q k)) (c0 : w'.cell? ⟨c, k * 3, none⟩ = some (.bool (qn (Q k)))) (c1 : w'.cell? ⟨c, k * 3 + 1, none⟩ = some x) (c2 : w'.cell? ⟨c, k * 3 + 2, none⟩ = some y) :
 xx8 w' (fun g => g ≠ c) (some ⟨c, 0, none⟩) c 0 (k + 1) Q := fun i hi => by
 refine ⟨rfl, ?_⟩
 by_cases e : i = k
 . subst e
   exact ⟨x, y, by rw [Nat.zero_add]; exact c0, by rw [Nat.zero_add]; exact c1, by rw [Nat.zero_add]; exact c2, L.marked M (fun h => h rfl)⟩
 . obtain ⟨-, x', y', m⟩ := h i (by omega)
   exact ⟨x', y', (hc _ (by omega)).trans m.c0, (hc _ (by omega)).trans m.c1, (hc _ (by omega)).trans m.c2, m.R.marked M (fun h => h rfl)⟩
end
theorem Rats.qs {w : World} {lo b off n : Nat} {a : Option Addr} {R : Nat -> RatD} (h : Rats w lo a b off n R) (ok : RatsOk R n) : xx8 w (fun g => lo <= g) a b off n (fun i => (R i).q) := fun i hi => by
 obtain ⟨h1, a1, a2, k1, k2, m⟩ := h i hi; obtain ⟨e1, e2, e3, pX, pY, hm⟩ := RatD.q_ok (ok i hi); obtain ⟨ba, oa, l1, LX⟩ := m.L.LX; obtain ⟨bb, ob, l2, LY⟩ := m.L.LY; exact ⟨h1, .slice a1 (R i).n k1, .slice a2 (R i).m k2, by rw [e1]; exact m.c0, m.c1, m.c2, a1, (R i).n, k1, a2, (R i).m, k2, ba, oa, bb, ob, (R i).X, (R i).Y, rfl, ⟨m.L.nc, m.L.mc, m.L.ac, m.L.bc, LX, LY, m.L.lX, m.L.lY, pX, pY, hm⟩, e2.symm, e3.symm, l1, l2⟩
theorem l1Cmp_q {v v' : Value} {p q : Rat} {k l : Nat} {w : World} (hp : Qb p k) (hq : Qb q l) (hk : 2 * k + 2 * l <= 16777216) (R : RatR w v p) (R' : RatR w v' q) :
 Calls Tryz.prog 183 #[v, v'] w fun e w' => e = .returned (.int .i64 (qcmp p q)) /\ w.Since w.heap.size w' := by
 obtain ⟨a, n, ca, b, m, cb, ba, oa, bb, ob, X, Y, rfl, R, x1, x2⟩ := R; obtain ⟨a', n', ca', b', m', cb', ba', oa', bb', ob', X', Y', rfl, R', y1, y2⟩ := R'; have n1 := xx1 R.pX (by rw [x1]; exact hp.1); have n2 := xx1 R.pY (by rw [x2]; exact hp.2); have n3 := xx1 R'.pX (by rw [y1]; exact hq.1); have n4 := xx1 R'.pY (by rw [y2]; exact hq.2); have J := l1Cmp_opt (qn p) (qn q) a b a' b' ba oa n ca bb ob m cb ba' oa' n' ca' bb' ob' m' cb' X Y X' Y' w (by omega) R R' (R.ok x1 x2) (R'.ok y1 y2); rw [x1, x2, y1, y2, q_cmp] at J; exact J
structure RatO (w : World) (lo hi b off : Nat) (q : Rat) (g h : Nat) (a1 : Option Addr) (n1 k1 : Nat) (a2 : Option Addr) (n2 k2 : Nat) (X Y : Nat -> Nat) : Prop where
 c0 : w.cell? ⟨b, off, none⟩ = some (.bool (qn q))
 c1 : w.cell? ⟨b, off + 1, none⟩ = some (.slice a1 n1 k1)
 c2 : w.cell? ⟨b, off + 2, none⟩ = some (.slice a2 n2 k2)
 R : RIn w a1 a2 g 0 n1 k1 h 0 n2 k2 X Y
 v1 : lv X n1 = q.num.natAbs
 v2 : lv Y n2 = q.den
 lg : 0 < n1 -> lo <= g /\ g < hi /\ ∀ o, w.frozen? ⟨g, o, none⟩ = false
 lh : 0 < n2 -> lo <= h /\ h < hi /\ ∀ o, w.frozen? ⟨h, o, none⟩ = false
 ne : 0 < n1 -> 0 < n2 -> g ≠ h
section
variable {w w' : World} {lo hi b off : Nat} {q : Rat} {g h : Nat} {a1 : Option Addr} {n1 k1 : Nat} {a2 : Option Addr} {n2 k2 : Nat} {X Y : Nat -> Nat}
theorem RatO.lt (r : RatO w lo hi b off q g h a1 n1 k1 a2 n2 k2 X Y) : b < w.heap.size := World.block_lt_of_cell? _ _ r.c0
theorem RatO.keep (r : RatO w lo hi b off q g h a1 n1 k1 a2 n2 k2 X Y) (s : w.Since w.heap.size w') : RatO w' lo hi b off q g h a1 n1 k1 a2 n2 k2 X Y :=
 ⟨(s.cell (a := ⟨b, off, none⟩) r.lt).trans r.c0, (s.cell (a := ⟨b, off + 1, none⟩) r.lt).trans r.c1, (s.cell (a := ⟨b, off + 2, none⟩) r.lt).trans r.c2, r.R.keep s, r.v1, r.v2,
   fun h0 => ⟨(r.lg h0).1, (r.lg h0).2.1, fun o => by rw [s.frozen (a := ⟨g, o, none⟩) (r.R.LX.lt h0)]; exact (r.lg h0).2.2 o⟩,
   fun h0 => ⟨(r.lh h0).1, (r.lh h0).2.1, fun o => by rw [s.frozen (a := ⟨h, o, none⟩) (r.R.LY.lt h0)]; exact (r.lh h0).2.2 o⟩, r.ne⟩
end
structure RatOs (w : World) (b n : Nat) (Q : Nat -> Rat) (E : Nat -> Nat) : Prop where
 at_ : ∀ i, i < n -> ∃ g h a1 n1 k1 a2 n2 k2 X Y, RatO w (E i) (E (i + 1)) b (i * 3) (Q i) g h a1 n1 k1 a2 n2 k2 X Y
 lo : b < E 0
 mono : ∀ i, i < n -> E i <= E (i + 1)
theorem RatOs.keep {w w' : World} {b n : Nat} {Q : Nat -> Rat} {E : Nat -> Nat} (T : RatOs w b n Q E) (s : w.Since w.heap.size w') : RatOs w' b n Q E := by
 refine ⟨fun i hi => ?_, T.lo, T.mono⟩; obtain ⟨g, h, a1, n1, k1, a2, n2, k2, X, Y, r⟩ := T.at_ i hi; exact ⟨g, h, a1, n1, k1, a2, n2, k2, X, Y, r.keep s⟩
theorem RatOs.base {w : World} {b n : Nat} {Q : Nat -> Rat} {E : Nat -> Nat} (T : RatOs w b n Q E) {i : Nat} (hi : i <= n) : b < E i := by
 induction i with
 | zero => exact T.lo
 | succ i ih => exact Nat.lt_of_lt_of_le (ih (by omega)) (T.mono i (by omega))
theorem RIn.marked {w w' : World} {a b : Option Addr} {ba oa n ca bb ob m cb c : Nat} {X Y : Nat -> Nat} (R : RIn w a b ba oa n ca bb ob m cb X Y) (M : xq0 w w' c) (h1 : 0 < n -> ba ≠ c) (h2 : 0 < m -> bb ≠ c) : RIn w' a b ba oa n ca bb ob m cb X Y :=
 ⟨R.nc, R.mc, R.ac, R.bc, R.LX.marked M h1, R.LY.marked M h2, R.lX, R.lY, R.pX, R.pY, R.m0⟩
theorem RatOs.put {w w' : World} {c k lo H : Nat} {v : Nat -> Rat} {E : Nat -> Nat} {g h : Nat} {a1 : Option Addr} {n1 k1 : Nat} {a2 : Option Addr} {n2 k2 : Nat} {X Y : Nat -> Nat} (T : RatOs w c k v E) (hE : E k <= lo) (hH : lo <= H) (M : xq0 w w' c)
 (hc : ∀ o, o < k * 3 -> w'.cell? ⟨c, o, none⟩ = w.cell? ⟨c, o, none⟩) (R : RIn w a1 a2 g 0 n1 k1 h 0 n2 k2 X Y) (v1 : lv X n1 = (v k).num.natAbs) (v2 : lv Y n2 = (v k).den)
 (lg : 0 < n1 -> lo <= g /\ g < H /\ ∀ o, w.frozen? ⟨g, o, none⟩ = false) (lh : 0 < n2 -> lo <= h /\ h < H /\ ∀ o, w.frozen? ⟨h, o, none⟩ = false) (ne : 0 < n1 -> 0 < n2 -> g ≠ h)
 (c0 : w'.cell? ⟨c, k * 3, none⟩ = some (.bool (qn (v k)))) (c1 : w'.cell? ⟨c, k * 3 + 1, none⟩ = some (.slice a1 n1 k1)) (c2 : w'.cell? ⟨c, k * 3 + 2, none⟩ = some (.slice a2 n2 k2)) :
 RatOs w' c (k + 1) v (fun i => if i <= k then E i else H) := by
 refine ⟨fun i hi => ?_, by simpa using T.lo, fun i hi => ?_⟩
 . by_cases e : i = k
   . subst e
     have hb := T.base (Nat.le_refl i); refine ⟨g, h, a1, n1, k1, a2, n2, k2, X, Y, c0, c1, c2, R.marked M (fun h0 => by have := (lg h0).1; omega) (fun h0 => by have := (lh h0).1; omega), v1, v2, fun h0 => ?_, fun h0 => ?_, ne⟩
     . simp only [Nat.le_refl, if_true, show ¬ i + 1 <= i by omega, if_false]
       exact ⟨by have := (lg h0).1; omega, (lg h0).2.1, fun o => by rw [M.frozenO (a := ⟨g, o, none⟩) (by show g ≠ c; have := (lg h0).1; omega)]; exact (lg h0).2.2 o⟩
     . simp only [Nat.le_refl, if_true, show ¬ i + 1 <= i by omega, if_false]
       exact ⟨by have := (lh h0).1; omega, (lh h0).2.1, fun o => by rw [M.frozenO (a := ⟨h, o, none⟩) (by show h ≠ c; have := (lh h0).1; omega)]; exact (lh h0).2.2 o⟩
   . have hi' : i < k := by omega
     obtain ⟨g', h', b1, m1, l1, b2, m2, l2, X', Y', r⟩ := T.at_ i hi'; have hb := T.base (show i <= k by omega); refine ⟨g', h', b1, m1, l1, b2, m2, l2, X', Y', (hc _ (by omega)).trans r.c0, (hc _ (by omega)).trans r.c1, (hc _ (by omega)).trans r.c2, r.R.marked M (fun h0 => by have := (r.lg h0).1; omega) (fun h0 => by have := (r.lh h0).1; omega), r.v1, r.v2, fun h0 => ?_, fun h0 => ?_, r.ne⟩
     . simp only [show i <= k by omega, if_true, show i + 1 <= k by omega]
       exact ⟨(r.lg h0).1, (r.lg h0).2.1, fun o => by rw [M.frozenO (a := ⟨g', o, none⟩) (by show g' ≠ c; have := (r.lg h0).1; omega)]; exact (r.lg h0).2.2 o⟩
     . simp only [show i <= k by omega, if_true, show i + 1 <= k by omega]
       exact ⟨(r.lh h0).1, (r.lh h0).2.1, fun o => by rw [M.frozenO (a := ⟨h', o, none⟩) (by show h' ≠ c; have := (r.lh h0).1; omega)]; exact (r.lh h0).2.2 o⟩
 . by_cases e : i = k
   . subst e
     simp only [Nat.le_refl, if_true, show ¬ i + 1 <= i by omega, if_false]; omega
   . simp only [show i <= k by omega, if_true, show i + 1 <= k by omega]
     exact T.mono i (by omega)
theorem ownRats_any (ax : Option Addr) (bx ox n cx : Nat) (v : Nat -> Rat) (w : World) (hn : n <= 1048576) (HX : xx8 w (fun _ => True) ax bx ox n v) (hq : ∀ i, i < n -> Qb (v i) 1048640) :
 Calls Tryz.prog 86 #[.slice ax n cx] w fun e w' => ∃ c E, e = .returned (.slice (some ⟨c, 0, none⟩) n n) /\ w.heap.size <= c /\ RatOs w' c n v E /\ Room w' c (n * 3) /\ E n <= w'.heap.size /\ w.Since w.heap.size w' := by
 have hmk := yv1 (P := Tryz.prog) 30 61 _ 3 56 Tryz.underlying30 info_Rat .i64 .i64 n (by omega) (by omega); have sA := sal w (.cells (madeCells #[.bool false, .slice none 0 0, .slice none 0 0] (n * 3)) 61); have rA := Room.new w #[.bool false, .slice none 0 0, .slice none 0 0] (n * 3) 61; have zA : w.heap.size < (w.alloc (.cells (madeCells #[.bool false, .slice none 0 0, .slice none 0 0] (n * 3)) 61)).heap.size := by simp
 go_enter Tryz.func86, Tryz.ntmps86; go_wp2
 go_loopw [11] (fun i wr => ∃ k : Nat, k <= n /\ i = .int .i64 k /\ w.Since w.heap.size wr /\ Room wr w.heap.size (n * 3) /\ ∃ E, RatOs wr w.heap.size k v E /\ E k <= wr.heap.size) (fun i _ => n - (intOf i).toNat)
 case atStart => exact ⟨0, Nat.zero_le _, rfl, sA, rA, fun _ => w.heap.size + 1, ⟨fun i hi => absurd hi (by omega), by omega, fun i hi => absurd hi (by omega)⟩, zA⟩
 case round =>
  obtain ⟨k, hk, rfl, s, r, E, T, hE⟩ := hrel
  by_cases hlt : k < n
  . obtain ⟨rfl, x, y, M⟩ := HX k hlt
    obtain ⟨a6, n6, c6, b6, m6, d6, ba, oa, bb, ob, X, Y, e6, RI, vX, vY, -, -⟩ := M.R; simp only [Value.agg.injEq, Array.mk.injEq, List.cons.injEq, and_true, true_and] at e6; obtain ⟨rfl, rfl⟩ := e6; have z1 := xx1 RI.pX (by rw [vX]; exact (hq k hlt).1); have z2 := xx1 RI.pY (by rw [vY]; exact (hq k hlt).2); have M' := M.keep s; have g0 := M'.c0; have g1 := M'.c1; have g2 := M'.c2; have hz : (k : Int) < (n : Int) := by omega
    have rl := r.lt; have t1 := sal wr (.cells #[.bool (qn (v k)), .slice a6 n6 c6, .slice b6 m6 d6] 61); have p1 := Box3.new wr (.bool (qn (v k))) (.slice a6 n6 c6) (.slice b6 m6 d6) 61; go_wp2_with fail; generalize wr.alloc (.cells #[.bool (qn (v k)), .slice a6 n6 c6, .slice b6 m6 d6] 61) = w1 at *; have dr := sdr w1; have u2 := t1.trans (sM dr t1.size); have S2 := s.trans (sM u2 s.size); have zz : wr.heap.size <= w1.drew.heap.size := u2.size; have RD := RI.keep S2; have p2 := p1.keep dr; have k0 := p1.c0; have k1 := p1.c1; have k2 := p1.c2; have k0' := p2.c0; have k1' := p2.c1; have k2' := p2.c2; have pl := p1.lt; have JN := ownCopy_o a6 ba oa n6 c6 X w1.drew (by omega) RI.nc RI.ac RD.LX RI.pX; have JD := ownCopy_o b6 bb ob m6 d6 Y w1.drew (by omega) RI.mc RI.bc RD.LY RI.pY; have ne1 : w.heap.size ≠ wr.heap.size := by omega
    clear g0 g1 g2
    go_region_held3 (fun w' => w'.cell? ⟨wr.heap.size, 0, none⟩ = some (.bool (qn (v k))) /\ w'.cell? ⟨wr.heap.size, 1, none⟩ = some (.slice a6 n6 c6) /\ w'.cell? ⟨wr.heap.size, 2, none⟩ = some (.slice b6 m6 d6)) (go_keep)
     (first
       | (go_at_call 131
          with_reducible refine JN.mono ?_
          rintro e w4 ⟨aN, cN, gN, rfl, nN1, nN2, LN4, FN4, s4⟩; have JD2 := ownCopy_o b6 bb ob m6 d6 Y w4 (by omega) RI.mc RI.bc (RD.LY.keep s4) RI.pY; have p4 := p2.keep s4; have i0 := p4.c0; have i1 := p4.c1; have i2 := p4.c2)
       | (go_at_call 131
          with_reducible refine JD.mono ?_
          rintro e w4 ⟨aD, cD, gD, rfl, nD1, nD2, LD4, FD4, s4⟩; have JN2 := ownCopy_o a6 ba oa n6 c6 X w4 (by omega) RI.nc RI.ac (RD.LX.keep s4) RI.pX; have p4 := p2.keep s4; have i0 := p4.c0; have i1 := p4.c1; have i2 := p4.c2)
       | (go_at_call 131
          with_reducible refine JD2.mono ?_
          rintro e w5 ⟨aD, cD, gD, rfl, nD1, nD2, LD, FD, s5⟩; have LN := LN4.keep s5; have z5 := s5.size; have z4 := s4.size; have FN : 0 < n6 -> w1.drew.heap.size <= gN /\ gN < w5.heap.size /\ ∀ o, w5.frozen? ⟨gN, o, none⟩ = false := fun h => ⟨(FN4 h).1, by have := (FN4 h).2.1; omega, fun o => by rw [s5.frozen (a := ⟨gN, o, none⟩) (LN4.lt h)]; exact (FN4 h).2.2 o⟩
          have FD' : 0 < m6 -> w1.drew.heap.size <= gD /\ gD < w5.heap.size /\ ∀ o, w5.frozen? ⟨gD, o, none⟩ = false := fun h => ⟨by have := (FD h).1; omega, (FD h).2.1, (FD h).2.2⟩
          have NE : 0 < n6 -> 0 < m6 -> gN ≠ gD := fun h1 h2 => by have := (FN4 h1).2.1; have := (FD h2).1; omega
          have p5 := p4.keep s5; have i0' := p5.c0; have i1' := p5.c1; have i2' := p5.c2; have u5 := u2.trans (sM (s4.trans (sM s5 s4.size)) u2.size); have r5 := r.keep u5; obtain ⟨v0, y0'⟩ := r5.cell (k * 3) (by omega); obtain ⟨v1, y1'⟩ := r5.cell (k * 3 + 1) (by omega); obtain ⟨v2, y2'⟩ := r5.cell (k * 3 + 2) (by omega); have f0 := r5.f (k * 3); have f1 := r5.f (k * 3 + 1); have f2 := r5.f (k * 3 + 2))
       | (go_at_call 131
          with_reducible refine JN2.mono ?_
          rintro e w5 ⟨aN, cN, gN, rfl, nN1, nN2, LN, FN4, s5⟩; have LD := LD4.keep s5; have z5 := s5.size; have z4 := s4.size; have FD' : 0 < m6 -> w1.drew.heap.size <= gD /\ gD < w5.heap.size /\ ∀ o, w5.frozen? ⟨gD, o, none⟩ = false := fun h => ⟨(FD4 h).1, by have := (FD4 h).2.1; omega, fun o => by rw [s5.frozen (a := ⟨gD, o, none⟩) (LD4.lt h)]; exact (FD4 h).2.2 o⟩
          have FN : 0 < n6 -> w1.drew.heap.size <= gN /\ gN < w5.heap.size /\ ∀ o, w5.frozen? ⟨gN, o, none⟩ = false := fun h => ⟨by have := (FN4 h).1; omega, (FN4 h).2.1, (FN4 h).2.2⟩
          have NE : 0 < n6 -> 0 < m6 -> gN ≠ gD := fun h1 h2 => by have := (FN4 h1).1; have := (FD4 h2).2.1; omega
          have p5 := p4.keep s5; have i0' := p5.c0; have i1' := p5.c1; have i2' := p5.c2; have u5 := u2.trans (sM (s4.trans (sM s5 s4.size)) u2.size); have r5 := r.keep u5; obtain ⟨v0, y0'⟩ := r5.cell (k * 3) (by omega); obtain ⟨v1, y1'⟩ := r5.cell (k * 3 + 1) (by omega); obtain ⟨v2, y2'⟩ := r5.cell (k * 3 + 2) (by omega); have f0 := r5.f (k * 3); have f1 := r5.f (k * 3 + 1); have f2 := r5.f (k * 3 + 2)))
    all_goals go_wp2
    all_goals go_roundw
    case measure => simp [intOf]; omega
    all_goals go_light
    all_goals
     have S5 := s.trans (sM u5 s.size); obtain ⟨w7, e7, M7, R7, x0, x1, x2, xo⟩ := put3 (q := k * 3) r5 (by omega) (.bool (qn (v k))) (.slice aN n6 cN) (.slice aD m6 cD); rw [<- e7]; refine ⟨k + 1, by omega, by go_num, S5.trans (M7.since (Nat.le_refl _)), R7, _, (T.keep u5).put (lo := w1.drew.heap.size) (H := w5.heap.size) (Nat.le_trans hE zz) (by omega) M7 (fun o ho => xo o (by omega)) ⟨nN1, nD1, nN2, nD2, LN, LD, RI.lX, RI.lY, RI.pX, RI.pY, RI.m0⟩ vX vY FN FD' NE x0 x1 x2, ?_⟩; rw [if_neg (by omega), M7.size]; exact Nat.le_refl _
  . have e : k = n := by omega
    subst e; go_wp2; go_ret; exact ⟨w.heap.size, E, rfl, Nat.le_refl _, T, r, hE, s⟩
theorem RatOs.qs {w : World} {b n : Nat} {Q : Nat -> Rat} {E : Nat -> Nat} (T : RatOs w b n Q E) : xx8 w (fun _ => True) (some ⟨b, 0, none⟩) b 0 n Q := fun i hi => by
 obtain ⟨g, h, a1, n1, k1, a2, n2, k2, X, Y, r⟩ := T.at_ i hi; refine ⟨rfl, .slice a1 n1 k1, .slice a2 n2 k2, by rw [Nat.zero_add]; exact r.c0, by rw [Nat.zero_add]; exact r.c1, by rw [Nat.zero_add]; exact r.c2, ?_⟩; exact ⟨a1, n1, k1, a2, n2, k2, g, 0, h, 0, X, Y, rfl, r.R, r.v1, r.v2, fun _ => trivial, fun _ => trivial⟩
section
variable {w w' w'' : World} {S S' : Nat -> Prop} {b n : Nat}
end
structure OwnQ (w : World) (p : Nat -> Prop) (b off : Nat) (f : Bool) (g h : Nat) (a1 : Option Addr) (n1 k1 : Nat) (a2 : Option Addr) (n2 k2 : Nat) (X Y : Nat -> Nat) : Prop where
 c0 : w.cell? ⟨b, off, none⟩ = some (.bool f)
 c1 : w.cell? ⟨b, off + 1, none⟩ = some (.slice a1 n1 k1)
 c2 : w.cell? ⟨b, off + 2, none⟩ = some (.slice a2 n2 k2)
 L1 : xq1 w a1 g 0 n1 X
 L2 : xq1 w a2 h 0 n2 Y
 s1 : n1 <= 4194304
 s2 : n2 <= 4194304
 lg : 0 < n1 -> p g /\ ∀ o, w.frozen? ⟨g, o, none⟩ = false
 lh : 0 < n2 -> p h /\ ∀ o, w.frozen? ⟨h, o, none⟩ = false
 ne : 0 < n1 -> 0 < n2 -> g ≠ h
def QFrom (w : World) (b k n : Nat) (p : Nat -> Nat -> Prop) : Prop := ∀ i, k <= i -> i < n -> ∃ f g h a1 n1 k1 a2 n2 k2 X Y, OwnQ w (p i) b (i * 3) f g h a1 n1 k1 a2 n2 k2 X Y
structure DisP (n : Nat) (p : Nat -> Nat -> Prop) (b : Nat) : Prop where
 one : ∀ i j q, i < n -> j < n -> p i q -> p j q -> i = j
 nb : ∀ i q, i < n -> p i q -> q ≠ b
structure LQ (w : World) (a : Option Addr) (g n : Nat) (p : Nat -> Nat -> Prop) : Prop where
 ha : 0 < n -> a = some ⟨g, 0, none⟩
 f : 0 < n -> ∀ o, w.frozen? ⟨g, o, none⟩ = false
 Q : QFrom w g 0 n p
 D : DisP n p g
section
variable {w w' : World} {S : Nat -> Prop} {a : Option Addr} {g n : Nat} {p : Nat -> Nat -> Prop} {K : Nat -> Nat}
theorem LQ.keep (h : LQ w a g n p) (s : w.Since w.heap.size w') : LQ w' a g n p := by
 refine ⟨h.ha, fun h0 o => ?_, fun i h1 h2 => ?_, h.D⟩
 . obtain ⟨f', g', h', a1', n1', k1', a2', n2', k2', X', Y', r'⟩ := h.Q 0 (Nat.le_refl _) h0
   have lt : g < w.heap.size := World.block_lt_of_cell? _ _ r'.c0; rw [s.frozen (a := ⟨g, o, none⟩) lt]; exact h.f h0 o
 . obtain ⟨f', g', h', a1', n1', k1', a2', n2', k2', X', Y', r'⟩ := h.Q i h1 h2
   have lt : g < w.heap.size := World.block_lt_of_cell? _ _ r'.c0; refine ⟨f', g', h', a1', n1', k1', a2', n2', k2', X', Y', (s.cell (a := ⟨g, i * 3, none⟩) lt).trans r'.c0, (s.cell (a := ⟨g, i * 3 + 1, none⟩) lt).trans r'.c1, (s.cell (a := ⟨g, i * 3 + 2, none⟩) lt).trans r'.c2, r'.L1.keep s, r'.L2.keep s, r'.s1, r'.s2, fun h0 => ⟨(r'.lg h0).1, fun o => ?_⟩, fun h0 => ⟨(r'.lh h0).1, fun o => ?_⟩, r'.ne⟩
   . have lt' : g' < w.heap.size := World.block_lt_of_cell? _ _ (r'.L1 0 h0).2
     rw [s.frozen (a := ⟨g', o, none⟩) lt']; exact (r'.lg h0).2 o
   . have lt' : h' < w.heap.size := World.block_lt_of_cell? _ _ (r'.L2 0 h0).2
     rw [s.frozen (a := ⟨h', o, none⟩) lt']; exact (r'.lh h0).2 o
end
section
variable {w w' : World} {S p : Nat -> Prop} {c i K K' : Nat} {v0 v1 : Value} {aW aB : Option Addr} {gW nW cW gB nB cB : Nat} {pW pB : Nat -> Nat -> Prop} {kW kB : Nat -> Nat}
end
def RatD.lim (r : RatD) : Prop := (∀ j, j < r.n -> r.X j < 4294967296) /\ ∀ j, j < r.m -> r.Y j < 4294967296
theorem Rats.lim {w : World} {lo b off n : Nat} {a : Option Addr} {R : Nat -> RatD} (h : Rats w lo a b off n R) : ∀ i, i < n -> (R i).lim := fun i hi => by
 obtain ⟨-, a1, a2, k1, k2, m⟩ := h i hi; exact ⟨m.L.lX, m.L.lY⟩
theorem q_small {r : RatD} (ok : r.ok = true) (l : r.lim) : r.q.num.natAbs + 1 <= 4294967296 ^ r.n /\ r.q.den <= 4294967296 ^ r.m := by
 obtain ⟨-, e2, e3, -⟩ := RatD.q_ok ok; have h1 := yj5 r.X r.n l.1; have h2 := yj5 r.Y r.m l.2; rw [Nat.pow_mul, show (2 : Nat) ^ 32 = 4294967296 by decide] at h1 h2; rw [e2, e3]; omega
theorem list_small {R : Nat -> RatD} {n : Nat} (ok : RatsOk R n) (l : ∀ i, i < n -> (R i).lim) : nums (fun i => (R i).q) n * dens (fun i => (R i).q) n <= 4294967296 ^ szR R n := by
 induction n with
 | zero => exact Nat.le_refl _
 | succ n ih =>
   have h := ih (fun i hi => ok i (by omega)) (fun i hi => l i (by omega)); obtain ⟨h1, h2⟩ := q_small (ok n (by omega)) (l n (by omega)); rw [szR_succ, Nat.pow_add, Nat.pow_add]
   show nums _ n * ((R n).q.num.natAbs + 1) * (dens _ n * (R n).q.den) <= _
   rw [Nat.mul_mul_mul_comm]; exact Nat.mul_le_mul h (Nat.mul_le_mul h1 h2)
theorem qb_of {q : Rat} {n m K : Nat} (h1 : q.num.natAbs + 1 <= 4294967296 ^ n) (h2 : q.den <= 4294967296 ^ m) (hn : n <= K) (hm : m < K) : Qb q K :=
 ⟨Nat.lt_of_lt_of_le (Nat.lt_of_succ_le h1) (Nat.pow_le_pow_right (by decide) hn), Nat.lt_of_le_of_lt h2 (Nat.pow_lt_pow_right (by decide) hm)⟩
theorem sumOf_q {v v' : Value} {p q : Rat} {k l : Nat} {w : World} (hw : 0 <= w.heap.size) (hT : Tab w) (hp : Qb p k) (hq : Qb q l) (hk : 2 * k + 2 * l <= 16777216) (R : RatR w v p) (R' : RatR w v' q) :
 Calls Tryz.prog 191 #[v, v'] w fun e w' => ∃ u, e = .returned u /\ xx4 w' (fun g => w.heap.size <= g) u (p + q) /\ w.Since w.heap.size w' := by
 obtain ⟨a, n, ca, b, m, cb, ba, oa, bb, ob, X, Y, rfl, R, x1, x2⟩ := R; obtain ⟨a', n', ca', b', m', cb', ba', oa', bb', ob', X', Y', rfl, R', y1, y2⟩ := R'; have n1 := xx1 R.pX (by rw [x1]; exact hp.1); have n2 := xx1 R.pY (by rw [x2]; exact hp.2); have n3 := xx1 R'.pX (by rw [y1]; exact hq.1); have n4 := xx1 R'.pY (by rw [y2]; exact hq.2); have J := sumOf_any (qn p) (qn q) a b a' b' ba oa n ca bb ob m cb ba' oa' n' ca' bb' ob' m' cb' X Y X' Y' w hw hT (by omega) R R' (by rw [x1, x2]; exact p.reduced) (by rw [y1, y2]; exact q.reduced); obtain ⟨e1, e2, e3⟩ := q_add p q; rw [x1, x2, y1, y2, <- e1, <- e2, <- e3] at J; refine J.mono ?_; rintro e w' ⟨u, rfl, RV, s⟩; exact ⟨u, rfl, RV.rp, s⟩
theorem productOf_q {v v' : Value} {p q : Rat} {k l : Nat} {w : World} (hw : 0 <= w.heap.size) (hT : Tab w) (hp : Qb p k) (hq : Qb q l) (hk : 2 * k + 2 * l <= 16777216) (R : RatR w v p) (R' : RatR w v' q) :
 Calls Tryz.prog 190 #[v, v'] w fun e w' => ∃ u, e = .returned u /\ xx4 w' (fun g => w.heap.size <= g) u (p * q) /\ w.Since w.heap.size w' := by
 obtain ⟨a, n, ca, b, m, cb, ba, oa, bb, ob, X, Y, rfl, R, x1, x2⟩ := R; obtain ⟨a', n', ca', b', m', cb', ba', oa', bb', ob', X', Y', rfl, R', y1, y2⟩ := R'; have n1 := xx1 R.pX (by rw [x1]; exact hp.1); have n2 := xx1 R.pY (by rw [x2]; exact hp.2); have n3 := xx1 R'.pX (by rw [y1]; exact hq.1); have n4 := xx1 R'.pY (by rw [y2]; exact hq.2); have J := productOf_any (qn p) (qn q) a b a' b' ba oa n ca bb ob m cb ba' oa' n' ca' bb' ob' m' cb' X Y X' Y' w hw hT (by omega) (by omega) R R' (by rw [x1, x2]; exact p.reduced) (by rw [y1, y2]; exact q.reduced); obtain ⟨e1, e2, e3⟩ := q_mul p q; rw [x1, x2, y1, y2, <- e1, <- e2, <- e3] at J; refine J.mono ?_; rintro e w' ⟨u, rfl, RV, s⟩; exact ⟨u, rfl, RV.rp, s⟩
theorem q_zero {q : Rat} (h : q.num.natAbs = 0) : q = 0 := by
 have h1 : q.num = 0 := Int.natAbs_eq_zero.1 h; exact Rat.num_eq_zero.1 h1
theorem psum_skip {b : Rat} {W X : Nat -> Rat} {k : Nat} (h : W k = 0 ∨ X k = 0) : psum b W X (k + 1) = psum b W X k := by
 show psum b W X k + W k * X k = psum b W X k
 rcases h with h | h
 . rw [h, Rat.zero_mul, Rat.add_zero]
 . rw [h, Rat.mul_zero, Rat.add_zero]
theorem plusProduct_any {K : Nat} (s p r : Rat) (vs vp vr : Value) (w : World) (_hw : 0 <= w.heap.size) (_hT : Tab w) (S : RatR w vs s) (HP : RatR w vp p) (HR : RatR w vr r)
 (qs : Qb s K) (qp : Qb p K) (qr : Qb r K) (hK : K <= 2097152 := by omega) :
 Calls Tryz.prog 165 #[vs, vp, vr] w fun e w' => ∃ v, e = .returned v /\ xx4 w' (fun g => w.heap.size <= g) v (s + p * r) /\ w.Since w.heap.size w' := by
 have S0 := S; have P0 := HP; have R0 := HR; obtain ⟨a1, n1, c1, a2, n2, c2, baS, oaS, bbS, obS, XS, YS, rfl, RS, vS1, vS2⟩ := S; obtain ⟨aW, nW, cW, bW, mW, dW, -, -, -, -, -, -, rfl, -⟩ := HP; obtain ⟨aX, nX, cX, bX, mX, dX, -, -, -, -, -, -, rfl, -⟩ := HR
 have hnz : ((n1 : Int) == 0) = (s.num.natAbs == 0) := by
  have h := xw4 RS.pX; rw [vS1] at h; rw [Bool.eq_iff_iff, beq_iff_eq, beq_iff_eq]
  constructor
  . intro e; exact h.1 (by omega)
  . intro e; have := h.2 e; omega
 obtain ⟨wA, eA⟩ : ∃ wA : World, wA = (((w.alloc (.cells #[.bool (qn s), .slice a1 n1 c1, .slice a2 n2 c2] 61)).alloc (.cells #[.bool (qn p), .slice aW nW cW, .slice bW mW dW] 61)).alloc (.cells #[.bool (qn r), .slice aX nX cX, .slice bX mX dX] 61)).alloc (.cells #[.bool false, .slice none 0 0, .slice none 0 0] 61) := ⟨_, rfl⟩; have sA : w.Since w.heap.size wA := by rw [eA]; exact ((((World.Since.refl _ _).alloc (Nat.le_refl _) _).alloc (by simp) _).alloc (by simp; omega) _).alloc (by simp; omega) _
 have zA : wA.heap.size = w.heap.size + 1 + 1 + 1 + 1 := by rw [eA]; simp
 have xA : Box3 wA w.heap.size (.bool (qn s)) (.slice a1 n1 c1) (.slice a2 n2 c2) := by
  rw [eA]; exact (((Box3.new w _ _ _ _).keep ((World.Since.refl _ _).alloc (Nat.le_refl _) _)).keep ((World.Since.refl _ _).alloc (Nat.le_refl _) _)).keep ((World.Since.refl _ _).alloc (Nat.le_refl _) _)
 have rA : Box3 wA (w.heap.size + 1 + 1 + 1) (.bool false) (.slice none 0 0) (.slice none 0 0) := by
  rw [eA]; have := Box3.new (((w.alloc (.cells #[.bool (qn s), .slice a1 n1 c1, .slice a2 n2 c2] 61)).alloc (.cells #[.bool (qn p), .slice aW nW cW, .slice bW mW dW] 61)).alloc (.cells #[.bool (qn r), .slice aX nX cX, .slice bX mX dX] 61)) (.bool false) (.slice none 0 0) (.slice none 0 0) 61
  simpa using this
 have J1 := productOf_q (Nat.zero_le _) trivial qp qr (by omega) (P0.keep sA) (R0.keep sA); rw [eA] at J1; go_enter Tryz.func165, Tryz.ntmps165; go_wp2_with fail; rw [<- eA] at J1 ⊢; clear eA; refine J1.mono ?_; rintro e w2 ⟨u2, rfl, R2, s2⟩; have R2q := R2; obtain ⟨a3, n3, c3, b3, m3, d3, -, -, -, -, -, -, e3, -⟩ := R2q; subst e3; have S2 := sA.trans (sM s2 sA.size); have z2 := s2.size; have x2 := xA.keep s2; have r2 := rA.keep s2; have t3 := sal w2 (.cells #[.bool (qn (p * r)), .slice a3 n3 c3, .slice b3 m3 d3] 61); have p3 := Box3.new w2 (.bool (qn (p * r))) (.slice a3 n3 c3) (.slice b3 m3 d3) 61; have x3 := x2.keep t3; have r3 := r2.keep t3; have S3 : w.Since w.heap.size (w2.alloc (.cells #[.bool (qn (p * r)), .slice a3 n3 c3, .slice b3 m3 d3] 61)) := S2.trans (sM t3 S2.size); have R3 := R2.keep t3; have k0 := x3.c0; have k1 := x3.c1; have k2 := x3.c2; clear J1 xA rA x2 r2; go_wp2_with fail; generalize w2.alloc (.cells #[.bool (qn (p * r)), .slice a3 n3 c3, .slice b3 m3 d3] 61) = w3 at *; have I1 := yv9 (qn s) a1 a2 n1 c1 n2 c2 w3; rw [hnz] at I1; refine I1.mono ?_; rintro e w4 ⟨rfl, s4⟩; have S4 := S3.trans (sM s4 S3.size); have x4 := x3.keep s4; have rB := r3.keep s4; have p4 := p3.keep s4; have R4 := R3.keep s4; have z4 := s4.size; have zz3 := t3.size; have hb := p3.lt; have j0 := p4.c0; have j1 := p4.c1; have j2 := p4.c2; clear I1 k0 k1 k2
 by_cases hs : s.num.natAbs = 0
 . have hsb : (s.num.natAbs == 0) = true := by simp [hs]
   rw [hsb]; have hs0 : s = 0 := q_zero hs; have hsum : s + p * r = p * r := by rw [hs0, Rat.zero_add]
   have HSU := hide hsum; clear hsum hs0; have i0 := rB.c0; have i1 := rB.c1; have i2 := rB.c2; have if0 := rB.f 0; have if1 := rB.f 1; have if2 := rB.f 2; go_wp2; have r12 := ((rB.set0 (.bool (qn (p * r)))).set1 (.slice a3 n3 c3)).set2 (.slice b3 m3 d3); refine bodyPost_ret (rb3 rfl _ _ _ _ _ _ rfl r12) rfl ?_; have M : xq0 w4 _ (w.heap.size + 1 + 1 + 1) := (((xq0.refl w4 _).setCell 0 (.bool (qn (p * r)))).setCell 1 (.slice a3 n3 c3)).setCell 2 (.slice b3 m3 d3); refine ⟨_, rfl, ?_, S4.trans (M.since (by omega))⟩; rw [HSU.out]; exact (R4.marked M (fun h => by omega)).imp (p' := fun g => w.heap.size <= g) (fun g _ h => by have h' : wA.heap.size <= g := h; omega)
 . have hsb : (s.num.natAbs == 0) = false := by simp [hs]
   rw [hsb]; have l0 := x4.c0; have l1 := x4.c1; have l2 := x4.c2; have J2 := sumOf_q (Nat.zero_le _) trivial qs (qp.mul qr) (by omega) (S0.keep S4) R4.read; go_wp2_with fail; refine J2.mono ?_; rintro e w5 ⟨u5, rfl, R5, s5⟩; have R5q := R5; obtain ⟨a5, n5, c5, b5, m5, d5, -, -, -, -, -, -, e5, -⟩ := R5q; subst e5; have S5 := S4.trans (sM s5 S4.size); have rC := rB.keep s5; have z5 := s5.size; obtain ⟨q, hq⟩ : ∃ q, s + p * r = q := ⟨_, rfl⟩; rw [hq] at R5 ⊢; have HQ := hide hq; clear hq J2; have i0 := rC.c0; have i1 := rC.c1; have i2 := rC.c2; have if0 := rC.f 0; have if1 := rC.f 1; have if2 := rC.f 2; go_wp2; have r12 := ((rC.set0 (.bool (qn q))).set1 (.slice a5 n5 c5)).set2 (.slice b5 m5 d5); refine bodyPost_ret (rb3 rfl _ _ _ _ _ _ rfl r12) rfl ?_; have M : xq0 w5 _ (w.heap.size + 1 + 1 + 1) := (((xq0.refl w5 _).setCell 0 (.bool (qn q))).setCell 1 (.slice a5 n5 c5)).setCell 2 (.slice b5 m5 d5); refine ⟨_, rfl, ?_, S5.trans (M.since (by omega))⟩
   first
    | rw [HQ.out]
    | skip
   exact (R5.marked M (fun h => by omega)).imp (p' := fun g => w.heap.size <= g) (fun g _ h => by have h' : w4.heap.size <= g := h; omega)
theorem weighedSum_any {K : Nat} (p : Nat -> Prop) (b : Rat) (x0 y0 : Value) (aw ax : Option Addr) (bw ow nw cw bx ox nx cx : Nat) (W X : Nat -> Rat) (w : World) (hw : 0 <= w.heap.size) (hT : Tab w) (hp : ∀ g, w.heap.size <= g -> p g)
 (S : xx4 w p (.agg #[.bool (qn b), x0, y0]) b) (HW : xx8 w (fun _ => True) aw bw ow nw W) (HX : xx8 w (fun _ => True) ax bx ox nx X) (hx : nw <= nx) (hn : nx <= 1048576)
 (qb : ∀ k, k <= nw -> Qb (psum b W X k) K) (qW : ∀ c, c < nw -> Qb (W c) K) (qX : ∀ c, c < nw -> Qb (X c) K) (hK : K <= 2097152 := by omega) :
 Calls Tryz.prog 129 #[.agg #[.bool (qn b), x0, y0], .slice aw nw cw, .slice ax nx cx] w fun e w' => ∃ x y, e = .returned (.agg #[.bool (qn (psum b W X nw)), x, y]) /\ xx4 w' p (.agg #[.bool (qn (psum b W X nw)), x, y]) (psum b W X nw) /\ w.Since w.heap.size w' := by
 obtain ⟨wA, eA⟩ : ∃ wA : World, wA = ((w.alloc (.cells #[.bool (qn b), x0, y0] 61)).alloc (.cells #[.bool false, .slice none 0 0, .slice none 0 0] 61)).alloc (.cells #[.bool (qn b), x0, y0] 61) := ⟨_, rfl⟩; have sA : w.Since w.heap.size wA := by rw [eA]; exact (((World.Since.refl _ _).alloc (Nat.le_refl _) _).alloc (by simp) _).alloc (by simp; omega) _
 have zA : wA.heap.size = w.heap.size + 1 + 1 + 1 := by rw [eA]; simp
 have rA : Box3 wA (w.heap.size + 1) (.bool false) (.slice none 0 0) (.slice none 0 0) := by
  rw [eA]; have := (Box3.new (w.alloc (.cells #[.bool (qn b), x0, y0] 61)) (.bool false) (.slice none 0 0) (.slice none 0 0) 61).keep ((World.Since.refl _ _).alloc (Nat.le_refl _) (.cells #[.bool (qn b), x0, y0] 61))
  simpa using this
 have oA : Box3 wA (w.heap.size + 1 + 1) (.bool (qn b)) x0 y0 := by
  rw [eA]; have := Box3.new ((w.alloc (.cells #[.bool (qn b), x0, y0] 61)).alloc (.cells #[.bool false, .slice none 0 0, .slice none 0 0] 61)) (.bool (qn b)) x0 y0 61
  simpa using this
 have SW := S; obtain ⟨a0, n0, c0, b0, m0, d0, -, -, -, -, -, -, e0, -⟩ := S; simp only [Value.agg.injEq, Array.mk.injEq, List.cons.injEq, and_true, true_and] at e0; obtain ⟨rfl, rfl⟩ := e0; have EA := hide eA; clear eA; go_enter Tryz.func129, Tryz.ntmps129; go_wp2_with fail; rw [<- EA.out]; clear EA
 have S0 : xx4 wA (fun g => (g < w.heap.size ∨ w.heap.size + 1 + 1 < g) /\ p g) (.agg #[.bool (qn b), .slice a0 n0 c0, .slice b0 m0 d0]) b := by
  refine (SW.imp (p' := fun g => (g < w.heap.size ∨ w.heap.size + 1 + 1 < g) /\ p g) (fun g hg hp' => ⟨.inl hg, hp'⟩)).keep sA
 go_loopw [13] (fun i wr => ∃ k : Nat, k <= nw /\ i = .int .i64 k /\ w.Since w.heap.size wr /\ w.heap.size + 1 + 1 + 1 <= wr.heap.size /\ Box3 wr (w.heap.size + 1) (.bool false) (.slice none 0 0) (.slice none 0 0) /\ ∃ a1 n1 c1 a2 n2 c2, Box3 wr (w.heap.size + 1 + 1) (.bool (qn (psum b W X k))) (.slice a1 n1 c1) (.slice a2 n2 c2) /\
  xx4 wr (fun g => (g < w.heap.size ∨ w.heap.size + 1 + 1 < g) /\ p g) (.agg #[.bool (qn (psum b W X k)), .slice a1 n1 c1, .slice a2 n2 c2]) (psum b W X k)) (fun i _ => nw - (intOf i).toNat)
 case atStart => exact ⟨0, Nat.zero_le _, rfl, sA, by omega, rA, a0, n0, c0, b0, m0, d0, oA, S0⟩
 case round =>
  obtain ⟨k, hk, rfl, s, hsz, r1, a1, n1, c1, a2, n2, c2, o1, T1⟩ := hrel
  by_cases hlt : k < nw
  . obtain ⟨rfl, xw, yw, CW⟩ := HW k hlt
    obtain ⟨rfl, xx, yx, CX⟩ := HX k (by omega); have CW1 := CW.keep s; have CX1 := CX.keep s; obtain ⟨aW, nW, cW, bW, mW, dW, baW, oaW, bbW, obW, XW, YW, eW, RW, vW1, vW2, -, -⟩ := CW.R; obtain ⟨aX, nX, cX, bX, mX, dX, baX, oaX, bbX, obX, XX, YX, eX, RX, vX1, vX2, -, -⟩ := CX.R; simp only [Value.agg.injEq, Array.mk.injEq, List.cons.injEq, and_true, true_and] at eW eX; obtain ⟨rfl, rfl⟩ := eW; obtain ⟨rfl, rfl⟩ := eX; have g0 := CW1.c0; have g1 := CW1.c1; have g2 := CW1.c2; have hz : (k : Int) < (nw : Int) := by omega
    have hz2 : (k : Int) < (nx : Int) := by omega
    have t1 := sal wr (.cells #[.bool (qn (W k)), .slice aW nW cW, .slice bW mW dW] 61); have p1 := Box3.new wr (.bool (qn (W k))) (.slice aW nW cW) (.slice bW mW dW) 61; go_wp2_with fail; generalize wr.alloc (.cells #[.bool (qn (W k)), .slice aW nW cW, .slice bW mW dW] 61) = w1 at *; refine (yv9 (qn (W k)) aW bW nW cW mW dW w1).mono ?_; rintro e w2 ⟨rfl, s2⟩; have u2 := t1.trans (sM s2 t1.size); have S2 := s.trans (sM u2 s.size); clear g0 g1 g2 CW1 CX1
    by_cases hw0 : nW = 0
    . have q1 : ((nW : Int) == 0) = true := by simp [hw0]
      have HS := hide (psum_skip (b := b) (W := W) (X := X) (k := k) (.inl (q_zero (by rw [<- vW1, hw0]; rfl)))); clear hw0; go_wp2; go_roundw
      case rel =>
       refine ⟨k + 1, by omega, by go_num, ?_⟩; rw [HS.out]; exact ⟨S2, Nat.le_trans hsz u2.size, r1.keep u2, a1, n1, c1, a2, n2, c2, o1.keep u2, T1.keep u2⟩
      case measure => simp [intOf]; omega
    have q1 : ((nW : Int) == 0) = false := by simp; omega
    have CX2 := CX.keep S2; have h0 := CX2.c0; have h1 := CX2.c1; have h2 := CX2.c2; go_wp2_with fail; refine (yv9 (qn (X k)) aX bX nX cX mX dX w2).mono ?_; rintro e w3 ⟨rfl, s3⟩; have u3 := u2.trans (sM s3 u2.size); have S3 := s.trans (sM u3 s.size); clear h0 h1 h2 CX2
    by_cases hx0 : nX = 0
    . have q2 : ((nX : Int) == 0) = true := by simp [hx0]
      have HS := hide (psum_skip (b := b) (W := W) (X := X) (k := k) (.inr (q_zero (by rw [<- vX1, hx0]; rfl)))); clear hx0; go_wp2; go_roundw
      case rel =>
       refine ⟨k + 1, by omega, by go_num, ?_⟩; rw [HS.out]; exact ⟨S3, Nat.le_trans hsz u3.size, r1.keep u3, a1, n1, c1, a2, n2, c2, o1.keep u3, T1.keep u3⟩
      case measure => simp [intOf]; omega
    have q2 : ((nX : Int) == 0) = false := by simp; omega
    have dr := sdr w3; have u5 := u3.trans (sM dr u3.size); have S5 := s.trans (sM u5 s.size); have p5 := (p1.keep (s2.trans (sM s3 s2.size))).keep dr; have D5 := o1.keep u5; have T5 := T1.keep u5; have CX5 := CX.keep S5; have J := plusProduct_any (psum b W X k) (W k) (X k) _ _ _ w3.drew (Nat.zero_le _) (hT.stay hw S5) T5.read (CW.keep S5).R.read CX5.R.read (qb k hk) (qW k hlt) (qX k hlt) hK; have HE := hide (show psum b W X (k + 1) = psum b W X k + W k * X k from rfl); clear q1 q2; go_wp2_with fail; refine wp_region_held_drew (S := (fun w' => w'.cell? ⟨wr.heap.size, 0, none⟩ = some (.bool (qn (W k))) /\ w'.cell? ⟨wr.heap.size, 1, none⟩ = some (.slice aW nW cW) /\ w'.cell? ⟨wr.heap.size, 2, none⟩ = some (.slice bW mW dW) /\ w'.cell? ⟨bx, ox + k * 3, none⟩ = some (.bool (qn (X k))) /\ w'.cell? ⟨bx, ox + k * 3 + 1, none⟩ = some (.slice aX nX cX) /\ w'.cell? ⟨bx, ox + k * 3 + 2, none⟩ = some (.slice bX mX dX))) (by kernel_rfl) ⟨p5.c0, p5.c1, p5.c2, CX5.c0, CX5.c1, CX5.c2⟩ (fun hHeld => ?_); refine ta 1 28 (.agg #[.bool (qn (W k)), .slice aW nW cW, .slice bW mW dW]) ?_ ?_
    . intro w' hSw
      try dsimp only at hSw
      go_simp
    simp only [ap, la, lz, ls]; refine tk 2 29 (.slice (some ⟨bx, ox, none⟩) nx cx) ?_; simp only [ap, la, lz, ls]; refine tk 3 30 (.int .i64 k) ?_; simp only [ap, la, lz, ls]; refine ta 4 31 (.pointer (some ⟨bx, ox + k * 3, none⟩)) ?_ ?_
    . intro w' hSw
      try dsimp only at hSw
      go_simp
    simp only [ap, la, lz, ls]; refine ta 5 32 (.agg #[.bool (qn (X k)), .slice aX nX cX, .slice bX mX dX]) ?_ ?_
    . intro w' hSw
      try dsimp only at hSw
      go_simp
    simp only [ap, la, lz, ls]; refine wpAnyH_ready (rs := [0]) (by kernel_rfl) (by simp) ?_; refine AllReadyH.cons rfl (fun K hK => ?_) AllReadyH.nil; have l0 := D5.c0; have l1 := D5.c1; have l2 := D5.c2; go_simp; clear l0 l1 l2; refine hK.out _ _ ⟨p5.c0, p5.c1, p5.c2, CX5.c0, CX5.c1, CX5.c2⟩ (fun h1 => ?_); clear hK K hHeld; refine wpAnyH_ready (rs := [6]) (by kernel_rfl) (by simp) ?_; refine AllReadyH.cons rfl (fun K hK => ?_) AllReadyH.nil; go_simp
    go_wp2_with (go_at_call 165; with_reducible refine J.mono ?_; rintro e w11 ⟨v, rfl, RP, s11⟩)
    obtain ⟨a5, n5, c5, b5', m5, d5, -, -, -, -, -, -, e5, -⟩ := id RP; subst e5; have u11 := u5.trans (sM s11 u5.size); have S11 := s.trans (sM u11 s.size); have p11 := p5.keep s11; have D11 := D5.keep s11; have r11 := r1.keep u11; have CX11 := CX.keep S11; refine hK.out _ _ ⟨p11.c0, p11.c1, p11.c2, CX11.c0, CX11.c1, CX11.c2⟩ (fun h2 => ?_); clear hK K h1; refine wpAnyH_ready (rs := [7]) (by kernel_rfl) (by simp) ?_; refine AllReadyH.cons rfl (fun K hK => ?_) AllReadyH.nil; have l0 := D11.c0; have l1 := D11.c1; have l2 := D11.c2; have lf0 := D11.f 0; have lf1 := D11.f 1; have lf2 := D11.f 2; go_simp; clear l0 l1 l2 lf0 lf1 lf2; have o12 := ((D11.set0 (.bool (qn (psum b W X k + W k * X k)))).set1 (.slice a5 n5 c5)).set2 (.slice b5' m5 d5); have M12 : xq0 w11 _ (w.heap.size + 1 + 1) := (((xq0.refl w11 _).setCell 0 (.bool (qn (psum b W X k + W k * X k)))).setCell 1 (.slice a5 n5 c5)).setCell 2 (.slice b5' m5 d5); have S12 := S11.trans (M12.since (B := w.heap.size) (by omega)); have p12 := p11.marked M12 (by omega); have CX12 := CX.keep S12; have z11 := u11.size; have z5 := u5.size; refine hK.out _ _ ⟨p12.c0, p12.c1, p12.c2, CX12.c0, CX12.c1, CX12.c2⟩ (fun hH9 => ?_); clear hK K hH9 h2; refine wpAnyH_done (by kernel_rfl) ?_ _; go_wp2; go_roundw
    case rel =>
     go_light; refine ⟨k + 1, by omega, by go_num, S12, by rw [M12.size]; omega, r11.marked M12 (by omega), a5, n5, c5, b5', m5, d5, ?_, ?_⟩
     . rw [HE.out]; exact o12
     . rw [HE.out]; exact (RP.imp (p' := fun g => (g < w.heap.size ∨ w.heap.size + 1 + 1 < g) /\ p g) (fun g _ hB => by
        have hB' : w3.drew.heap.size <= g := hB; exact ⟨.inr (by omega), hp g (by omega)⟩)).marked M12 (fun h => by have := h.1; omega)
    case measure => simp [intOf]; omega
  . have e : k = nw := by omega
    subst e; have k0 := o1.c0; have k1 := o1.c1; have k2 := o1.c2; have q0 := r1.c0; have q1 := r1.c1; have q2 := r1.c2; have qf0 := r1.f 0; have qf1 := r1.f 1; have qf2 := r1.f 2; go_wp2; have r2 := ((r1.set0 (.bool (qn (psum b W X k)))).set1 (.slice a1 n1 c1)).set2 (.slice a2 n2 c2); refine bodyPost_ret (rb3 rfl _ _ _ _ _ _ rfl r2) rfl ?_; have M : xq0 wr _ (w.heap.size + 1) := (((xq0.refl wr _).setCell 0 (.bool (qn (psum b W X k)))).setCell 1 (.slice a1 n1 c1)).setCell 2 (.slice a2 n2 c2); exact ⟨_, _, rfl, (T1.marked M (fun h => by have := h.1; omega)).imp (fun g _ h => h.2), s.trans (M.since (by omega))⟩
theorem size_matrix : (Tryz.prog.info? 127).map (·.size) = some 3 := by kernel_rfl
theorem weightsOf_any (r q : Int) (a1 a2 : Option Addr) (n1 k1 n2 k2 : Nat) (w : World) :
 Calls Tryz.prog 128 #[.agg #[.int .i64 r, .int .i64 q, .slice a1 n1 k1, .slice a2 n2 k2]] w fun e w' => e = .returned (.agg #[.int .i64 r, .int .i64 q, .slice a1 n1 k1]) /\ w.Since w.heap.size w' := by
 have sA : w.Since w.heap.size ((w.alloc (.cells #[.int .i64 r, .int .i64 q, .slice a1 n1 k1, .slice a2 n2 k2] 74)).alloc (.cells #[.int .i64 r, .int .i64 q, .slice a1 n1 k1] 127)) := ((World.Since.refl _ _).alloc (Nat.le_refl _) _).alloc (by simp) _; have rA := Box3.new (w.alloc (.cells #[.int .i64 r, .int .i64 q, .slice a1 n1 k1, .slice a2 n2 k2] 74)) (.int .i64 r) (.int .i64 q) (.slice a1 n1 k1) 127; go_enter Tryz.func128, Tryz.ntmps128; go_wp2; rw [show (w.alloc (.cells #[.int .i64 r, .int .i64 q, .slice a1 n1 k1, .slice a2 n2 k2] 74)).heap.size = w.heap.size + 1 by simp] at rA; refine bodyPost_ret (rb3T rfl Tryz.underlying127 rfl size_matrix _ _ _ _ _ _ rfl rA) rfl ?_; exact ⟨rfl, sA⟩
theorem row_any (c : Nat) (rows cols r nw k1 b off : Nat) (a1 : Option Addr) (p : Nat -> Prop) (W : Nat -> Rat) (w : World) (hr : r < rows) (hrw : rows <= 20000) (hcl : cols <= 20000) (hnw : nw = rows * cols) (hk : nw <= k1)
 (B : Box3 w c (.int .i64 rows) (.int .i64 cols) (.slice a1 nw k1)) (H : xx8 w p a1 b off nw W) :
 Calls Tryz.prog 130 #[.pointer (some ⟨c, 0, none⟩), .int .i64 r] w fun e w' => ∃ a' b' off', e = .returned (.slice a' cols cols) /\ xx8 w' p a' b' off' cols (fun j => W (r * cols + j)) /\ Same w w' := by
 have k0 := B.c0; have k1' := B.c1; have k2 := B.c2; obtain ⟨F, hF⟩ : ∃ F, F = r * cols := ⟨_, rfl⟩; obtain ⟨G, hG⟩ : ∃ G, G = (r + 1) * cols := ⟨_, rfl⟩; have hFG : G = F + cols := by rw [hF, hG, Nat.add_mul, Nat.one_mul]
 have hGn : G <= nw := by rw [hG, hnw]; exact Nat.mul_le_mul_right _ hr
 have hnb : nw <= 20000 * 20000 := by rw [hnw]; exact Nat.mul_le_mul hrw hcl
 have e1 : (r : Int) * (cols : Int) = (F : Int) := by rw [hF, Int.natCast_mul]
 have e2 : ((r : Int) + 1) * (cols : Int) = (G : Int) := by rw [hG, Int.natCast_mul]; rfl
 have f1 : (F : Int) <= (G : Int) := by omega
 have f2 : (G : Int) <= (k1 : Int) := by omega
 have f3 : (G : Int) <= 400000000 := by omega
 have HF := hide hF; have HG := hide hFG; clear hF hG hnw hFG; go_enter Tryz.func130, Tryz.ntmps130; go_wp2_with fail
 go_quiet (fail)
 go_wp2
 case inl =>
  go_ret; have hc : cols = 0 := by have := HG.out; omega
  refine ⟨a1, ?_, ⟨b, off, fun j hj => absurd hj (by omega)⟩, (Same.refl w).drewN _⟩
  show Ending.returned (.slice a1 0 0) = _
  rw [hc]
 case inr =>
  go_ret; refine ⟨Option.map (fun x => x.add (F * 3)) a1, ?_, ⟨b, off + F * 3, fun j hj => ?_⟩, (Same.refl w).drewN _⟩
  . show Ending.returned (.slice (Option.map (fun x => x.add (F * 3)) a1) (G - F) (G - F)) = _
    rw [HG.out, Nat.add_sub_cancel_left]
  . obtain ⟨rfl, x, y, m⟩ := H (F + j) (by have := HG.out; omega)
    rw [show off + (F + j) * 3 = off + F * 3 + j * 3 by omega] at m; refine ⟨?_, x, y, ?_⟩
    . rw [Option.map_some, Go.WideShapes.add_plain]
    . rw [<- HF.out]; exact m.keep ((Same.refl w).drewN _ |>.since _)
def yj3 (d : AffD) (v : Nat -> Rat) (r : Nat) : Rat := psum (d.B r).q (fun c => (d.W (r * d.cols.toNat + c)).q) v d.cols.toNat
structure RowB (d : AffD) (v : Nat -> Rat) : Prop where
 s : ∀ r, r < d.rows.toNat -> ∀ k, k <= d.cols.toNat -> Qb (psum (d.B r).q (fun c => (d.W (r * d.cols.toNat + c)).q) v k) 1048577
 W : ∀ i, i < d.nw -> Qb (d.W i).q 1048577
 v : ∀ c, c < d.cols.toNat -> Qb (v c) 1048577
theorem imageOf_any (d : AffD) (lo : Nat) (a1 a2 : Option Addr) (k1 k2 : Nat) (ax : Option Addr) (bx ox cx : Nat) (v : Nat -> Rat) (w : World) (hw : 0 <= w.heap.size) (hT : Tab w) (hd : d.shape) (hv : d.vals) (H : AffL w lo d a1 a2 k1 k2)
 (HX : xx8 w (fun _ => True) ax bx ox d.cols.toNat v) (hB : RowB d v) :
 Calls Tryz.prog 84 #[.agg #[.int .i64 d.rows, .int .i64 d.cols, .slice a1 d.nw k1, .slice a2 d.nb k2], .slice ax d.cols.toNat cx] w fun e w' => ∃ c, e = .returned (.slice (some ⟨c, 0, none⟩) d.rows.toNat d.rows.toNat) /\ w.heap.size <= c /\
  xx8 w' (fun g => g ≠ c) (some ⟨c, 0, none⟩) c 0 d.rows.toNat (yj3 d v) /\ w.Since w.heap.size w' := by
 obtain ⟨⟨hr0, hr1, hc0, hc1⟩, hnw, hnb⟩ := hd; obtain ⟨R, hR⟩ : ∃ R, R = d.rows.toNat := ⟨_, rfl⟩; obtain ⟨C, hC⟩ : ∃ C, C = d.cols.toNat := ⟨_, rfl⟩; have eR : d.rows = (R : Int) := by omega
 have eC : d.cols = (C : Int) := by omega
 have hnw' : d.nw = R * C := by rw [eR, eC, <- Int.natCast_mul] at hnw; exact Int.ofNat_inj.1 hnw
 have hnb' : d.nb = R := by omega
 have QB := hide hB; have EQ := hide (show ∀ r, yj3 d v r = psum (d.B r).q (fun j => (d.W (r * C + j)).q) v C by intro r; rw [hC]; rfl); rw [<- hC] at HX; rw [<- hR, <- hC, eR, eC]; have LV := hide hv; have HR := hide hR; have HCc := hide hC; obtain ⟨b1, o1, -, LW⟩ := H.LW; obtain ⟨b2, o2, -, LB⟩ := H.LB; have QW := LW.qs hv.1; have QQ := LB.qs hv.2; have nc := H.nc; rw [hnw'] at QW; rw [hnb'] at QQ; have hRb : R <= 20000 := by omega
 have hCb : C <= 20000 := by omega
 have hRC : R * C <= 20000 * 20000 := Nat.mul_le_mul hRb hCb; have HNW := hide hnw'; rw [hnb']; clear hr0 hr1 hc0 hc1 hnw hnb hR hC hB hv eR eC H LW LB hnw' hnb'; have hmk := yv1 (P := Tryz.prog) 30 61 _ 3 56 Tryz.underlying30 info_Rat .i64 .i64 R (by omega) (by omega); have sA := sal w (.cells #[.int .i64 R, .int .i64 C, .slice a1 d.nw k1, .slice a2 R k2] 74); have bA := Box4.new w (.int .i64 R) (.int .i64 C) (.slice a1 d.nw k1) (.slice a2 R k2) 74; go_enter Tryz.func84, Tryz.ntmps84; go_wp2_with fail; generalize w.alloc (.cells #[.int .i64 R, .int .i64 C, .slice a1 d.nw k1, .slice a2 R k2] 74) = wA at *; refine (weightsOf_any R C a1 a2 d.nw k1 R k2 wA).mono ?_; rintro e w1 ⟨rfl, s1⟩; have S1 := sA.trans (sM s1 sA.size); have B1 := bA.keep s1; have t2 := sal w1 (.cells #[.int .i64 R, .int .i64 C, .slice a1 d.nw k1] 127); have M2 := Box3.new w1 (.int .i64 R) (.int .i64 C) (.slice a1 d.nw k1) 127; have B2 := B1.keep t2; have b0 := B2.c0; have sC : w1.Since w1.heap.size ((w1.alloc (.cells #[.int .i64 R, .int .i64 C, .slice a1 d.nw k1] 127)).alloc (.cells (madeCells #[.bool false, .slice none 0 0, .slice none 0 0] (R * 3)) 61)) := t2.alloc t2.size _; have rC := Room.new (w1.alloc (.cells #[.int .i64 R, .int .i64 C, .slice a1 d.nw k1] 127)) #[.bool false, .slice none 0 0, .slice none 0 0] (R * 3) 61; have M3 := M2.keep ((World.Since.refl _ _).alloc (Nat.le_refl _) (.cells (madeCells #[.bool false, .slice none 0 0, .slice none 0 0] (R * 3)) 61)); have B3 := B2.keep ((World.Since.refl _ _).alloc (Nat.le_refl _) (.cells (madeCells #[.bool false, .slice none 0 0, .slice none 0 0] (R * 3)) 61)); have zc : (w1.alloc (.cells #[.int .i64 R, .int .i64 C, .slice a1 d.nw k1] 127)).heap.size = w1.heap.size + 1 := by simp
 rw [zc] at rC; have S3 : w.Since w.heap.size ((w1.alloc (.cells #[.int .i64 R, .int .i64 C, .slice a1 d.nw k1] 127)).alloc (.cells (madeCells #[.bool false, .slice none 0 0, .slice none 0 0] (R * 3)) 61)) := S1.trans (sM sC S1.size); have z1 := S1.size; go_wp2_with fail; clear t2 M2 B2 b0 zc bA B1; generalize ((w1.alloc (.cells #[.int .i64 R, .int .i64 C, .slice a1 d.nw k1] 127)).alloc (.cells (madeCells #[.bool false, .slice none 0 0, .slice none 0 0] (R * 3)) 61)) = w3 at *
 go_loopw [15] (fun i wr => ∃ k : Nat, k <= R /\ i = .int .i64 k /\ w.Since w.heap.size wr /\ Box4 wr w.heap.size (.int .i64 R) (.int .i64 C) (.slice a1 d.nw k1) (.slice a2 R k2) /\ Box3 wr w1.heap.size (.int .i64 R) (.int .i64 C) (.slice a1 d.nw k1) /\ Room wr (w1.heap.size + 1) (R * 3) /\
  xx8 wr (fun g => g ≠ w1.heap.size + 1) (some ⟨w1.heap.size + 1, 0, none⟩) (w1.heap.size + 1) 0 k (yj3 d v)) (fun i _ => R - (intOf i).toNat)
 case atStart => exact ⟨0, Nat.zero_le _, rfl, S3, B3, M3, rC, fun i hi => absurd hi (by omega)⟩
 case round =>
  obtain ⟨k, hk, rfl, s, B, M, r, T⟩ := hrel
  by_cases hlt : k < R
  . obtain ⟨rfl, xb, yb, CB⟩ := QQ k hlt
    have hz : (k : Int) < (R : Int) := by omega
    have rl := r.lt; have dr := sdr wr; have sd := s.trans (sM dr s.size); have Bd := B.keep dr; have Md := M.keep dr; have CBd := CB.keep sd; have J1 := row_any w1.heap.size R C k d.nw k1 b1 o1 a1 (fun g => lo <= g) (fun i => (d.W i).q) wr.drew hlt hRb hCb HNW.out nc Md (by rw [HNW.out]; exact QW.keep sd); have p3 := B.c3; have g0 := (CB.keep s).c0; have g1 := (CB.keep s).c1; have g2 := (CB.keep s).c2; have p3' := Bd.c3; have g0' := CBd.c0; have g1' := CBd.c1; have g2' := CBd.c2; obtain ⟨a5, n5, c5, b5, m5, d5, -, -, -, -, -, -, e5, -⟩ := CB.R; simp only [Value.agg.injEq, Array.mk.injEq, List.cons.injEq, and_true, true_and] at e5; obtain ⟨rfl, rfl⟩ := e5; have bl := CB.lt; have ne1 : w1.heap.size + 1 ≠ w.heap.size := by omega
    have ne2 : w1.heap.size + 1 ≠ b2 := by omega
    clear Bd Md CBd; go_wp2_with fail
    go_region_held3 (fun w' => w'.cell? ⟨w.heap.size, 3, none⟩ = some (.slice (some ⟨b2, o2, none⟩) R k2) /\ w'.cell? ⟨b2, o2 + k * 3, none⟩ = some (.bool (qn (d.B k).q)) /\ w'.cell? ⟨b2, o2 + k * 3 + 1, none⟩ = some (.slice a5 n5 c5) /\ w'.cell? ⟨b2, o2 + k * 3 + 2, none⟩ = some (.slice b5 m5 d5)) (go_keep)
     (first
       | (go_at_call 130
          with_reducible refine J1.mono ?_
          rintro e w4 ⟨aw, bw, ow, rfl, Q4, m4⟩; have u4 := dr.trans (m4.since _); have S4 := s.trans (sM u4 s.size)
          have J2 := weighedSum_any (fun g => g ≠ w1.heap.size + 1) (d.B k).q (.slice a5 n5 c5) (.slice b5 m5 d5) aw ax bw ow C C bx ox C cx (fun j => (d.W (k * C + j)).q) v w4 (Nat.zero_le _) (hT.stay hw S4) (fun g hg => by have := u4.size; omega) ((CB.R.imp (p' := fun g => g ≠ w1.heap.size + 1) (fun g hg _ => by omega)).keep S4) (Q4.imp (fun _ _ _ => trivial)) (HX.keep S4) (Nat.le_refl _) (by omega)
           (fun j hj => by have := QB.out.s k (by rw [<- HR.out]; exact hlt) j (by rw [<- HCc.out]; exact hj); rw [<- HCc.out] at this; exact this) (fun j hj => QB.out.W _ (by rw [HNW.out]; exact Nat.lt_of_lt_of_le (Nat.add_lt_add_left hj (k * C)) (by rw [<- Nat.succ_mul]; exact Nat.mul_le_mul_right _ hlt))) (fun j hj => QB.out.v j (by rw [<- HCc.out]; exact hj))
          have i3 := (B.keep u4).c3; have j0 := (CB.keep S4).c0; have j1 := (CB.keep S4).c1; have j2 := (CB.keep S4).c2)
       | (go_at_call 129
          with_reducible refine J2.mono ?_
          rintro e w5 ⟨x5, y5, rfl, R5, s5⟩; have R6 := R5; obtain ⟨a6, n6, c6, b6, m6, d6, -, -, -, -, -, -, e6, -⟩ := R6; simp only [Value.agg.injEq, Array.mk.injEq, List.cons.injEq, and_true, true_and] at e6; obtain ⟨rfl, rfl⟩ := e6; have u5 := u4.trans (sM s5 u4.size); have S5 := s.trans (sM u5 s.size); have r5 := r.keep u5; have i3' := (B.keep u5).c3; have j0' := (CB.keep S5).c0; have j1' := (CB.keep S5).c1; have j2' := (CB.keep S5).c2; obtain ⟨v0, y0'⟩ := r5.cell (k * 3) (by omega); obtain ⟨v1, y1'⟩ := r5.cell (k * 3 + 1) (by omega); obtain ⟨v2, y2'⟩ := r5.cell (k * 3 + 2) (by omega); have f0 := r5.f (k * 3); have f1 := r5.f (k * 3 + 1); have f2 := r5.f (k * 3 + 2)))
    all_goals go_wp2
    all_goals go_roundw
    case rel =>
     go_light; obtain ⟨w7, e7, M7, R7, x0, x1, x2, xo⟩ := put3 (q := k * 3) r5 (by omega) (.bool (qn (psum (d.B k).q (fun j => (d.W (k * C + j)).q) v C))) (.slice a6 n6 c6) (.slice b6 m6 d6); rw [<- e7]; rw [<- EQ.out k] at R5 x0; exact ⟨k + 1, by omega, by go_num, S5.trans (M7.since (by omega)), (B.keep u5).marked M7 (by omega), (M.keep u5).marked M7 (by omega), R7, (T.keep u5).put M7 (fun o ho => xo o (by omega)) R5 x0 x1 x2⟩
    case measure => simp [intOf]; omega
  . have e : k = R := by omega
    subst e; go_wp2; go_ret; exact ⟨w1.heap.size + 1, rfl, by omega, T, s⟩
def xk1 (q : Rat) : Rat := if qn q = true then 0 else q
theorem qrelu_neg {q : Rat} (h : qn q = true) : xk1 q = 0 := by simp [xk1, h]
theorem qrelu_pos {q : Rat} (h : qn q = false) : xk1 q = q := by simp [xk1, h]
theorem xx8.putP {w w' : World} {p : Nat -> Prop} {c k : Nat} {Q : Nat -> Rat} {x y : Value} (h : xx8 w (fun g => g ≠ c /\ p g) (some ⟨c, 0, none⟩) c 0 k Q) (M : xq0 w w' c) (hc : ∀ o, o < k * 3 -> w'.cell? ⟨c, o, none⟩ = w.cell? ⟨c, o, none⟩)
 (L : xx4 w (fun g => g ≠ c /\ p g) (.agg #[.bool (qn (Q k)), x, y]) (Q k)) (c0 : w'.cell? ⟨c, k * 3, none⟩ = some (.bool (qn (Q k)))) (c1 : w'.cell? ⟨c, k * 3 + 1, none⟩ = some x) (c2 : w'.cell? ⟨c, k * 3 + 2, none⟩ = some y) :
 xx8 w' (fun g => g ≠ c /\ p g) (some ⟨c, 0, none⟩) c 0 (k + 1) Q := fun i hi => by
 refine ⟨rfl, ?_⟩
 by_cases e : i = k
 . subst e
   exact ⟨x, y, by rw [Nat.zero_add]; exact c0, by rw [Nat.zero_add]; exact c1, by rw [Nat.zero_add]; exact c2, L.marked M (fun h => h.1 rfl)⟩
 . obtain ⟨-, x', y', m⟩ := h i (by omega)
   exact ⟨x', y', (hc _ (by omega)).trans m.c0, (hc _ (by omega)).trans m.c1, (hc _ (by omega)).trans m.c2, m.R.marked M (fun h => h.1 rfl)⟩
theorem rectified_any (ax : Option Addr) (bx ox n cx : Nat) (v : Nat -> Rat) (w : World) (p : Nat -> Prop) (hp : ∀ g, w.heap.size <= g -> p g) (hn : n <= 1048576) (HX : xx8 w p ax bx ox n v) :
 Calls Tryz.prog 85 #[.slice ax n cx] w fun e w' => ∃ c, e = .returned (.slice (some ⟨c, 0, none⟩) n n) /\ w.heap.size <= c /\ xx8 w' (fun g => g ≠ c /\ p g) (some ⟨c, 0, none⟩) c 0 n (fun i => xk1 (v i)) /\ w.Since w.heap.size w' := by
 have hmk := yv1 (P := Tryz.prog) 30 61 _ 3 56 Tryz.underlying30 info_Rat .i64 .i64 n (by omega) (by omega); have sA := sal w (.cells (madeCells #[.bool false, .slice none 0 0, .slice none 0 0] (n * 3)) 61); have rA := Room.new w #[.bool false, .slice none 0 0, .slice none 0 0] (n * 3) 61; go_enter Tryz.func85, Tryz.ntmps85; go_wp2
 go_loopw [10] (fun i wr => ∃ k : Nat, k <= n /\ i = .int .i64 k /\ w.Since w.heap.size wr /\ Room wr w.heap.size (n * 3) /\ xx8 wr (fun g => g ≠ w.heap.size /\ p g) (some ⟨w.heap.size, 0, none⟩) w.heap.size 0 k (fun i => xk1 (v i))) (fun i _ => n - (intOf i).toNat)
 case atStart => exact ⟨0, Nat.zero_le _, rfl, sA, rA, fun i hi => absurd hi (by omega)⟩
 case round =>
  obtain ⟨k, hk, rfl, s, r, T⟩ := hrel
  by_cases hlt : k < n
  . obtain ⟨rfl, x, y, M⟩ := HX k hlt
    obtain ⟨a6, n6, c6, b6, m6, d6, -, -, -, -, -, -, e6, -⟩ := M.R; simp only [Value.agg.injEq, Array.mk.injEq, List.cons.injEq, and_true, true_and] at e6; obtain ⟨rfl, rfl⟩ := e6; have M' := M.keep s; have g0 := M'.c0; have g1 := M'.c1; have g2 := M'.c2; have hz : (k : Int) < (n : Int) := by omega
    have rl := r.lt; have bl := M.lt; cases hq : qn (v k)
    . have HQ := hide hq
      rw [hq] at g0; obtain ⟨v0, u0⟩ := r.cell (k * 3) (by omega); obtain ⟨v1, u1⟩ := r.cell (k * 3 + 1) (by omega); obtain ⟨v2, u2⟩ := r.cell (k * 3 + 2) (by omega); have f0 := r.f (k * 3); have f1 := r.f (k * 3 + 1); have f2 := r.f (k * 3 + 2); clear hq; go_wp2; go_roundw
      case rel =>
       go_light; obtain ⟨w3, e3, M3, R3, x0, x1, x2, xo⟩ := put3 (q := k * 3) r (by omega) (.bool false) (.slice a6 n6 c6) (.slice b6 m6 d6); rw [<- e3]; have e : xk1 (v k) = v k := qrelu_pos HQ.out; refine ⟨k + 1, by omega, by go_num, s.trans (M3.since (Nat.le_refl _)), R3, T.putP M3 (fun o ho => xo o (by omega)) ?_ ?_ x1 x2⟩
       . rw [e]; exact (M.R.imp (p' := fun g => g ≠ w.heap.size /\ p g) (fun g hg hx => ⟨by omega, hx⟩)).keep s
       . rw [e, HQ.out]; exact x0
      case measure => simp [intOf]; omega
    . have HQ := hide hq
      rw [hq] at g0; clear hq; go_wp2_with fail; refine (xk4 wr).mono ?_; rintro e w2 ⟨u, rfl, RV, s2⟩; have RP : xx4 w2 (fun g => wr.heap.size <= g) u (0 : Rat) := RatV.rp (q := 0) RV; have RQ := RP; obtain ⟨a7, n7, c7, b7, m7, d7, -, -, -, -, -, -, e7, -⟩ := RQ; subst e7; have r2 := r.keep s2; have S2 := s.trans (sM s2 s.size); obtain ⟨v0, u0⟩ := r2.cell (k * 3) (by omega); obtain ⟨v1, u1⟩ := r2.cell (k * 3 + 1) (by omega); obtain ⟨v2, u2⟩ := r2.cell (k * 3 + 2) (by omega); have f0 := r2.f (k * 3); have f1 := r2.f (k * 3 + 1); have f2 := r2.f (k * 3 + 2); clear g0 g1 g2; go_wp2; go_roundw
      case rel =>
       go_light; obtain ⟨w3, e3, M3, R3, x0, x1, x2, xo⟩ := put3 (q := k * 3) r2 (by omega) (.bool (qn 0)) (.slice a7 n7 c7) (.slice b7 m7 d7); rw [<- e3]; have e : xk1 (v k) = 0 := qrelu_neg HQ.out; refine ⟨k + 1, by omega, by go_num, S2.trans (M3.since (Nat.le_refl _)), R3, (T.keep s2).putP M3 (fun o ho => xo o (by omega)) ?_ ?_ x1 x2⟩
       . rw [e]; exact RP.imp (fun g _ hg => ⟨by omega, hp g (by have := s.size; omega)⟩)
       . rw [e]; exact x0
      case measure => simp [intOf]; omega
  . have e : k = n := by omega
    subst e; go_wp2; go_ret; exact ⟨w.heap.size, rfl, Nat.le_refl _, T, s⟩
def qLay (A : Nat -> AffD) (x : Nat -> Rat) : Nat -> Nat -> Rat
 | 0 => yj3 (A 0) x
 | k + 1 => yj3 (A (k + 1)) (fun i => xk1 (qLay A x k i))
def qIn (A : Nat -> AffD) (x : Nat -> Rat) : Nat -> Nat -> Rat
 | 0 => x
 | k + 1 => fun i => xk1 (qLay A x k i)
theorem qLay_eq (A : Nat -> AffD) (x : Nat -> Rat) (k : Nat) : qLay A x k = yj3 (A k) (qIn A x k) := by cases k <;> rfl
def layE (d : AffD) : Nat := dens (fun i => (d.W i).q) d.nw * dens (fun i => (d.B i).q) d.nb
def layN (d : AffD) : Nat := nums (fun i => (d.W i).q) d.nw * nums (fun i => (d.B i).q) d.nb
def DK (A : Nat -> AffD) (x : Nat -> Rat) (nx : Nat) : Nat -> Nat
 | 0 => dens x nx
 | k + 1 => DK A x nx k * layE (A k)
def TK (A : Nat -> AffD) (x : Nat -> Rat) (nx : Nat) : Nat -> Nat
 | 0 => nums x nx * 1 * dens x nx
 | k + 1 => layN (A k) * TK A x nx k * layE (A k)
theorem layE_pos (d : AffD) : 0 < layE d := Nat.mul_pos (dens_pos _ _) (dens_pos _ _)
theorem layN_pos (d : AffD) : 0 < layN d := Nat.mul_pos (yv3 _ _) (yv3 _ _)
theorem DK_pos (A : Nat -> AffD) (x : Nat -> Rat) (nx k : Nat) : 0 < DK A x nx k := by
 induction k with
 | zero => exact dens_pos _ _
 | succ k ih => exact Nat.mul_pos ih (layE_pos _)
theorem DK_TK (A : Nat -> AffD) (x : Nat -> Rat) (nx k : Nat) : DK A x nx k <= TK A x nx k := by
 induction k with
 | zero =>
   show dens x nx <= nums x nx * 1 * dens x nx
   rw [Nat.mul_one]; exact Nat.le_mul_of_pos_left _ (yv3 _ _)
 | succ k ih =>
   show DK A x nx k * layE (A k) <= layN (A k) * TK A x nx k * layE (A k)
   exact Nat.mul_le_mul_right _ (Nat.le_trans ih (Nat.le_mul_of_pos_left _ (layN_pos _)))
theorem sumN_shift (q : Nat -> Rat) (a j : Nat) : sumN (fun c => q (a + c)) 0 j = sumN q a j := by
 induction j with
 | zero => rfl
 | succ j ih => rw [sumN, sumN, ih, Nat.zero_add]
theorem layer_rep {d : AffD} (hd : d.shape) {v : Nat -> Rat} {T D : Nat} (hDT : D <= T) (hv : ∀ c, c < d.cols.toNat -> Rep (v c) T D) {r : Nat} (hr : r < d.rows.toNat) {j : Nat} (hj : j <= d.cols.toNat) :
 Rep (psum (d.B r).q (fun c => (d.W (r * d.cols.toNat + c)).q) v j) (layN d * T * layE d) (D * layE d) := by
 obtain ⟨⟨h0, h1, h2, h3⟩, hnw, hnb⟩ := hd; have eR : d.rows = (d.rows.toNat : Int) := by omega
 have eC : d.cols = (d.cols.toNat : Int) := by omega
 have hw : d.nw = d.rows.toNat * d.cols.toNat := by rw [eR, eC, <- Int.natCast_mul] at hnw; exact Int.ofNat_inj.1 hnw
 have hb : r < d.nb := by omega
 have hlast : r * d.cols.toNat + d.cols.toNat <= d.nw := by rw [hw, <- Nat.succ_mul]; exact Nat.mul_le_mul_right _ hr
 refine Rep.row hDT ?_ j (fun c hc => ?_) (fun c hc => hv c (by omega)) ?_
 . exact Nat.dvd_trans (dens_dvd (fun i => (d.B i).q) hb) ⟨_, Nat.mul_comm _ _⟩
 . exact Nat.dvd_trans (dens_dvd (fun i => (d.W i).q) (show r * d.cols.toNat + c < d.nw by omega)) ⟨_, rfl⟩
 . have e1 := sumN_shift (fun i => (d.W i).q) (r * d.cols.toNat) j
   have e2 := sumN_part (fun i => (d.W i).q) (show r * d.cols.toNat + j <= d.nw by omega); have e3 := sumN_nums (fun i => (d.W i).q) d.nw; have e4 := nums_le (fun i => (d.B i).q) hb; have p1 := yv3 (fun i => (d.W i).q) d.nw; have p2 := yv3 (fun i => (d.B i).q) d.nb; rw [e1]; unfold layN; generalize nums (fun i => (d.W i).q) d.nw = a at *; generalize nums (fun i => (d.B i).q) d.nb = b at *
   have : a + b <= a * b + 1 := by
    obtain ⟨a', rfl⟩ : ∃ a', a = a' + 1 := ⟨a - 1, by omega⟩; obtain ⟨b', rfl⟩ : ∃ b', b = b' + 1 := ⟨b - 1, by omega⟩; rw [Nat.add_mul, Nat.mul_add]; omega
   omega
theorem Rep.zero (T D : Nat) : Rep 0 T D := ⟨0, by rw [Rat.zero_mul]; rfl, Nat.zero_le _⟩
theorem Rep.relu {q : Rat} {T D : Nat} (h : Rep q T D) : Rep (xk1 q) T D := by
 unfold xk1
 split
 . exact Rep.zero T D
 . exact h
theorem in_rep {A : Nat -> AffD} {x : Nat -> Rat} {n : Nat} (P : NetP n A) {k : Nat} (hk : k < n) : ∀ c, c < (A k).cols.toNat -> Rep (qIn A x k c) (TK A x (A 0).cols.toNat k) (DK A x (A 0).cols.toNat k) := by
 induction k with
 | zero =>
   intro c hc; have h := Rep.term (p := x c) (q := 1) (T := 1) (D := 1) (E := dens x (A 0).cols.toNat) ⟨1, by rw [Rat.one_mul]; rfl, Nat.le_refl _⟩ (dens_dvd x hc); rw [Rat.mul_one, Nat.one_mul] at h; refine h.more ?_; exact Nat.mul_le_mul_right _ (Nat.mul_le_mul_right _ (by have := nums_le x hc; omega))
 | succ k ih =>
   intro c hc; have hch := P.chain (k + 1) hk (by omega); rw [Nat.add_sub_cancel] at hch; rw [hch] at hc; have ih := ih (by omega); have h := layer_rep (P.shape k (by omega)) (DK_TK A x (A 0).cols.toNat k) ih hc (Nat.le_refl _)
   show Rep (xk1 (qLay A x k c)) _ _
   rw [qLay_eq]; exact h.relu
structure AffD.lim (d : AffD) : Prop where
 W : ∀ i, i < d.nw -> (d.W i).lim
 B : ∀ i, i < d.nb -> (d.B i).lim
theorem AffL.lim {w : World} {lo : Nat} {d : AffD} {a1 a2 : Option Addr} {k1 k2 : Nat} (h : AffL w lo d a1 a2 k1 k2) : d.lim := by
 obtain ⟨_, _, _, x⟩ := h.LW; obtain ⟨_, _, _, y⟩ := h.LB; exact ⟨x.lim, y.lim⟩
theorem lay_small {d : AffD} (hv : d.vals) (l : d.lim) : layN d * layE d <= 4294967296 ^ d.size := by
 have h1 := list_small hv.1 l.W; have h2 := list_small hv.2 l.B; unfold layN layE AffD.size; rw [Nat.mul_mul_mul_comm]; refine Nat.le_trans (Nat.mul_le_mul h1 h2) ?_; rw [<- Nat.pow_add]; exact Nat.pow_le_pow_right (by decide) (by omega)
theorem TK_small {A : Nat -> AffD} {X : Nat -> RatD} {nx n : Nat} (P : NetP n A) (l : ∀ k, k < n -> (A k).lim) (ok : RatsOk X nx) (lx : ∀ i, i < nx -> (X i).lim) {k : Nat} (hk : k <= n) : TK A (fun i => (X i).q) nx k <= 4294967296 ^ (szR X nx + szA A k) := by
 induction k with
 | zero =>
   have := list_small ok lx
   show nums _ nx * 1 * dens _ nx <= _
   rw [Nat.mul_one]; exact this
 | succ k ih =>
   have h := ih (by omega); have h2 := lay_small (P.vals k (by omega)) (l k (by omega)); rw [szA_succ, <- Nat.add_assoc, Nat.pow_add]
   show layN (A k) * TK _ _ nx k * layE (A k) <= _
   rw [Nat.mul_comm (layN (A k)), Nat.mul_assoc]; exact Nat.mul_le_mul h h2
theorem net_rowB {A : Nat -> AffD} {X : Nat -> RatD} {n : Nat} (P : NetP n A) (l : ∀ k, k < n -> (A k).lim) (ok : RatsOk X (A 0).cols.toNat) (lx : ∀ i, i < (A 0).cols.toNat -> (X i).lim) (hz : szR X (A 0).cols.toNat + szA A n <= 1048576) {k : Nat} (hk : k < n) :
 RowB (A k) (qIn A (fun i => (X i).q) k) := by
 have big : ∀ K, 1048577 <= K -> ∀ j, j <= n -> TK A (fun i => (X i).q) (A 0).cols.toNat j < 4294967296 ^ K := fun K hK j hj => by
  have h1 := TK_small P l ok lx hj; have h2 := szA_mono (A := A) hj; exact Nat.lt_of_le_of_lt h1 (Nat.pow_lt_pow_right (by decide) (by omega))
 have hin := in_rep (x := fun i => (X i).q) P hk; refine ⟨fun r hr j hj => ?_, fun i hi => ?_, fun c hc => ?_⟩
 . have h := layer_rep (P.shape k hk) (DK_TK A (fun i => (X i).q) (A 0).cols.toNat k) hin hr hj
   exact Rep.qb (T := TK A (fun i => (X i).q) (A 0).cols.toNat (k + 1)) (D := DK A (fun i => (X i).q) (A 0).cols.toNat (k + 1)) h (DK_pos _ _ _ _) (big _ (Nat.le_refl _) _ hk) (Nat.lt_of_le_of_lt (DK_TK _ _ _ _) (big _ (Nat.le_refl _) _ hk))
 . obtain ⟨h1, h2⟩ := q_small ((P.vals k hk).1 i hi) ((l k hk).W i hi)
   have h3 := szR_at (R := (A k).W) hi; have h4 := szA_at (A := A) hk; unfold AffD.size at h4; exact qb_of h1 h2 (by omega) (by omega)
 . exact (hin c hc).qb (DK_pos _ _ _ _) (big _ (Nat.le_refl _) _ (by omega)) (Nat.lt_of_le_of_lt (DK_TK _ _ _ _) (big _ (Nat.le_refl _) _ (by omega)))
end Go.Proofs.YtnogbaapcjjngaaGreatDoor
