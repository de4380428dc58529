import Derived.Test.YtnogbaapcjjngaaGreatDoorOwnP22
import Derived.Test.YtnogbaapcjjngaaGreatDoorOwnP4
set_option maxHeartbeats 6400000
set_option maxRecDepth 100000
namespace Go.Proofs.YtnogbaapcjjngaaGreatDoor
open Go.RowKit
theorem zero_form (f f' : Bool) (N D : Nat) (hN : N = 0) (hD : 0 < D) : (((f != f') && N != 0) = false /\ N / Nat.gcd N D = 0) /\ D / Nat.gcd N D = 1 := by
 subst hN; refine ⟨⟨by simp, Nat.zero_div _⟩, ?_⟩; rw [Nat.gcd_zero_left]; exact Nat.div_self hD
theorem l1Mul_zero (f f' : Bool) (a b a' b' : Option Addr) (ba oa n ca bb ob m cb ba' oa' n' ca' bb' ob' m' cb' : Nat) (X Y X' Y' : Nat -> Nat) (w : World) (_hn : n + n' + m + m' <= 16777216)
 (R : RIn w a b ba oa n ca bb ob m cb X Y) (R' : RIn w a' b' ba' oa' n' ca' bb' ob' m' cb' X' Y') (h0 : n = 0 ∨ n' = 0) :
 Calls Tryz.prog 156 #[.agg #[.bool f, .slice a n ca, .slice b m cb], .agg #[.bool f', .slice a' n' ca', .slice b' m' cb']] w fun e w' => ∃ v, e = .returned v /\
  RatV w' v ((f != f') && lv X n * lv X' n' != 0) (lv X n * lv X' n' / Nat.gcd (lv X n * lv X' n') (lv Y m * lv Y' m')) (lv Y m * lv Y' m' / Nat.gcd (lv X n * lv X' n') (lv Y m * lv Y' m')) w.heap.size 67108864 /\ w.Since w.heap.size w' := by
 have hne2 : w.heap.size + 1 + 1 ≠ w.heap.size := by omega
 obtain ⟨sA, zA, oA, pA, rA⟩ := bx w (.bool f) (.slice a n ca) (.slice b m cb) (.bool f') (.slice a' n' ca') (.slice b' m' cb') (.bool false) (.slice none 0 0) (.slice none 0 0); have hZ := zero_form f f' (lv X n * lv X' n') (lv Y m * lv Y' m') (by rcases h0 with h | h <;> subst h <;> simp [lv]) (Nat.mul_pos R.den R'.den); rw [hZ.1.1, hZ.1.2, hZ.2]; clear hZ
 by_cases h1 : n = 0
 focus
  subst h1; clear h0; go_enter Tryz.func156, Tryz.ntmps156; go_wp2_with fail; generalize (((w.alloc (.cells #[.bool f, .slice a 0 ca, .slice b m cb] 61)).alloc (.cells #[.bool f', .slice a' n' ca', .slice b' m' cb'] 61)).alloc (.cells #[.bool false, .slice none 0 0, .slice none 0 0] 61)) = w1 at *
 rotate_left
 focus
  have h2 : n' = 0 := by omega
  subst h2; clear h0; have q1 : ((n : Int) == 0) = false := by simp; omega
  go_enter Tryz.func156, Tryz.ntmps156; go_wp2_with fail; generalize (((w.alloc (.cells #[.bool f, .slice a n ca, .slice b m cb] 61)).alloc (.cells #[.bool f', .slice a' 0 ca', .slice b' m' cb'] 61)).alloc (.cells #[.bool false, .slice none 0 0, .slice none 0 0] 61)) = w1 at *
 all_goals
  refine (xv2 w1).mono ?_; rintro e w6 ⟨v, rfl, ⟨x1, x2, g6, h6, rfl, N6, D6, y1, y2, y3⟩, s6⟩; have rB := rA.keep s6; have N6' := N6; have D6' := D6; obtain ⟨a1, q1, c1, Y1, rfl, -⟩ := N6; obtain ⟨a2, q2, c2, Y2, rfl, -⟩ := D6; have S6 := sA.trans (sM s6 sA.size); have u0 := rB.c0; have u1 := rB.c1; have u2 := rB.c2; have uf0 := rB.f 0; have uf1 := rB.f 1; have uf2 := rB.f 2; go_wp2; have rC := ((rB.set0 (.bool false)).set1 (.slice a1 q1 c1)).set2 (.slice a2 q2 c2); refine bodyPost_ret (rb3 rfl _ _ _ _ _ _ rfl rC) rfl ?_; have M : xq0 w6 _ (w.heap.size + 1 + 1) := (((xq0.refl w6 _).setCell 0 (.bool false)).setCell 1 (.slice a1 q1 c1)).setCell 2 (.slice a2 q2 c2); exact ⟨_, rfl, ⟨_, _, g6, h6, rfl, N6'.marked M (by omega), D6'.marked M (by omega), by omega, by omega, y3⟩, S6.trans (M.since (by omega))⟩
theorem l1Mul_small (f f' : Bool) (a b a' b' : Option Addr) (ba oa n ca bb ob m cb ba' oa' n' ca' bb' ob' m' cb' : Nat) (X Y X' Y' : Nat -> Nat) (w : World) (_hn : n + n' + m + m' <= 16777216)
 (R : RIn w a b ba oa n ca bb ob m cb X Y) (R' : RIn w a' b' ba' oa' n' ca' bb' ob' m' cb' X' Y') (h1 : 0 < n) (h2 : 0 < n') (hs : xz3 X n Y m = true) (hs' : xz3 X' n' Y' m' = true) :
 Calls Tryz.prog 156 #[.agg #[.bool f, .slice a n ca, .slice b m cb], .agg #[.bool f', .slice a' n' ca', .slice b' m' cb']] w fun e w' => ∃ v, e = .returned v /\
  RatV w' v ((f != f') && lv X n * lv X' n' != 0) (lv X n * lv X' n' / Nat.gcd (lv X n * lv X' n') (lv Y m * lv Y' m')) (lv Y m * lv Y' m' / Nat.gcd (lv X n * lv X' n') (lv Y m * lv Y' m')) w.heap.size 67108864 /\ w.Since w.heap.size w' := by
 have hne2 : w.heap.size + 1 + 1 ≠ w.heap.size := by omega
 obtain ⟨sA, zA, oA, pA, rA⟩ := bx w (.bool f) (.slice a n ca) (.slice b m cb) (.bool f') (.slice a' n' ca') (.slice b' m' cb') (.bool false) (.slice none 0 0) (.slice none 0 0); obtain ⟨s1, s2', s3', s4'⟩ := xv8.1 hs; obtain ⟨t1, t2', t3', t4'⟩ := xv8.1 hs'; obtain ⟨x, hx⟩ : ∃ x, x = lv X n := ⟨_, rfl⟩; obtain ⟨y, hy⟩ : ∃ y, y = lv Y m := ⟨_, rfl⟩; obtain ⟨x', hx'⟩ : ∃ x', x' = lv X' n' := ⟨_, rfl⟩; obtain ⟨y', hy'⟩ : ∃ y', y' = lv Y' m' := ⟨_, rfl⟩; have hyp : 0 < y * y' := by rw [hy, hy']; exact Nat.mul_pos R.den R'.den
 rw [<- hx] at s3'; rw [<- hy] at s4'; rw [<- hx'] at t3'; rw [<- hy'] at t4'; obtain ⟨p, hp⟩ : ∃ p, p = x * x' := ⟨_, rfl⟩; obtain ⟨q, hq⟩ : ∃ q, q = y * y' := ⟨_, rfl⟩; have hpl : p < 18446744073709551616 := by rw [hp]; exact Nat.lt_of_le_of_lt (Nat.mul_le_mul (Nat.le_of_lt s3') (Nat.le_of_lt t3')) (by omega)
 have hql : q < 18446744073709551616 := by rw [hq]; exact Nat.lt_of_le_of_lt (Nat.mul_le_mul (Nat.le_of_lt s4') (Nat.le_of_lt t4')) (by omega)
 have hpw : IntKind.u64.wrap ((x : Int) * (x' : Int)) = (p : Int) := by rw [<- Int.natCast_mul, <- hp]; exact xq8 p hpl
 have hqw : IntKind.u64.wrap ((y : Int) * (y' : Int)) = (q : Int) := by rw [<- Int.natCast_mul, <- hq]; exact xq8 q hql
 rw [<- hq] at hyp; rw [<- hx, <- hx', <- hy, <- hy', <- hp, <- hq]; clear s3' s4' t3' t4'; have q1 : ((n : Int) == 0) = false := by simp; omega
 have q2 : ((n' : Int) == 0) = false := by simp; omega
 have j0 := oA.c0; have j1 := oA.c1; have j2 := oA.c2; go_enter Tryz.func156, Tryz.ntmps156; go_wp2_with fail; generalize (((w.alloc (.cells #[.bool f, .slice a n ca, .slice b m cb] 61)).alloc (.cells #[.bool f', .slice a' n' ca', .slice b' m' cb'] 61)).alloc (.cells #[.bool false, .slice none 0 0, .slice none 0 0] 61)) = w1 at *; have I1 := xj4 f a b ba oa n ca bb ob m cb X Y w1 (by omega) (by omega) (R.keep sA).LX (R.keep sA).LY R.lX R.lY; rw [hs] at I1; refine I1.mono ?_; rintro e w2 ⟨rfl, s2⟩; have S2 := sA.trans (sM s2 sA.size); have o2 := oA.keep s2; have p2 := pA.keep s2; have r2 := rA.keep s2; have z2 := s2.size; clear I1 j0 j1 j2 oA pA rA; have k0 := p2.c0; have k1 := p2.c1; have k2 := p2.c2; have I2 := xj4 f' a' b' ba' oa' n' ca' bb' ob' m' cb' X' Y' w2 (by omega) (by omega) (R'.keep S2).LX (R'.keep S2).LY R'.lX R'.lY; rw [hs'] at I2; go_wp2_with fail; refine I2.mono ?_; rintro e w3 ⟨rfl, s3⟩; have S3 := S2.trans (sM s3 S2.size); have o3 := o2.keep s3; have p3 := p2.keep s3; have r3 := r2.keep s3; have z3 := s3.size; clear I2 k0 k1 k2 o2 p2 r2; have k := And.intro o3.cells p3.cells; have J1 := xj1 a ba oa n ca X w3.drew s1 (R.keep S3).LX R.lX; have J2 := xj1 b bb ob m cb Y w3.drew s2' (R.keep S3).LY R.lY; have J3 := xj1 a' ba' oa' n' ca' X' w3.drew t1 (R'.keep S3).LX R'.lX; have J4 := xj1 b' bb' ob' m' cb' Y' w3.drew t2' (R'.keep S3).LY R'.lY; rw [<- hx] at J1; rw [<- hy] at J2; rw [<- hx'] at J3; rw [<- hy'] at J4; have J5 := xw5 (!(f == f')) p q w3.drew hpl hql hyp; clear hx hy hx' hy' hp hq R R' hs hs'; go_wp2
 go_region_held3 (fun w' => w'.cell? ⟨w.heap.size, 0, none⟩ = some (.bool f) /\ w'.cell? ⟨w.heap.size, 1, none⟩ = some (.slice a n ca) /\ w'.cell? ⟨w.heap.size, 2, none⟩ = some (.slice b m cb) /\ w'.cell? ⟨w.heap.size + 1, 0, none⟩ = some (.bool f') /\ w'.cell? ⟨w.heap.size + 1, 1, none⟩ = some (.slice a' n' ca') /\ w'.cell? ⟨w.heap.size + 1, 2, none⟩ = some (.slice b' m' cb')) (go_keep)
  (first
    | (go_at_call 150
       first
        | (with_reducible refine J1.mono ?_; rintro e w4 ⟨rfl, rfl⟩)
        | (with_reducible refine J2.mono ?_; rintro e w4 ⟨rfl, rfl⟩)
        | (with_reducible refine J3.mono ?_; rintro e w4 ⟨rfl, rfl⟩)
        | (with_reducible refine J4.mono ?_; rintro e w4 ⟨rfl, rfl⟩))
    | (go_at_call 184
       with_reducible refine J5.mono ?_
       rintro e w6 ⟨v, rfl, ⟨x1, x2, g6, h6, rfl, N6, D6, y1, y2, y3⟩, s6⟩; have N6' := N6; have D6' := D6; obtain ⟨a1, q1, c1, Y1, rfl, -⟩ := N6; obtain ⟨a2, q2, c2, Y2, rfl, -⟩ := D6; have k9 := And.intro (o3.drew.keep s6).cells (p3.drew.keep s6).cells; have rB := r3.drew.keep s6; have u0 := rB.c0; have u1 := rB.c1; have u2 := rB.c2; have uf0 := rB.f 0; have uf1 := rB.f 1; have uf2 := rB.f 2))
 all_goals go_wp2
 all_goals
  have zd : w3.drew.heap.size = w3.heap.size := rfl; have S6 : w.Since w.heap.size w6 := (xq6 S3).trans (sM s6 S3.size); have hb : (!(f == f') && p != 0) = ((f != f') && p != 0) := rfl; have rC := ((rB.set0 (.bool (!(f == f') && p != 0))).set1 (.slice a1 q1 c1)).set2 (.slice a2 q2 c2); refine bodyPost_ret (rb3 rfl _ _ _ _ _ _ rfl rC) rfl ?_; have M : xq0 w6 _ (w.heap.size + 1 + 1) := (((xq0.refl w6 _).setCell 0 (.bool (!(f == f') && p != 0))).setCell 1 (.slice a1 q1 c1)).setCell 2 (.slice a2 q2 c2); exact ⟨_, rfl, ⟨_, _, g6, h6, rfl, N6'.marked M (by omega), D6'.marked M (by omega), by omega, by omega, y3⟩, S6.trans (M.since (by omega))⟩
theorem l1Mul_bigA (f f' : Bool) (a b a' b' : Option Addr) (ba oa n ca bb ob m cb ba' oa' n' ca' bb' ob' m' cb' : Nat) (X Y X' Y' : Nat -> Nat) (w : World) (hn : n + n' + m + m' <= 16777216)
 (R : RIn w a b ba oa n ca bb ob m cb X Y) (R' : RIn w a' b' ba' oa' n' ca' bb' ob' m' cb' X' Y') (h1 : 0 < n) (h2 : 0 < n') (hs : ¬ xz3 X n Y m = true) :
 Calls Tryz.prog 156 #[.agg #[.bool f, .slice a n ca, .slice b m cb], .agg #[.bool f', .slice a' n' ca', .slice b' m' cb']] w fun e w' => ∃ v, e = .returned v /\
  RatV w' v ((f != f') && lv X n * lv X' n' != 0) (lv X n * lv X' n' / Nat.gcd (lv X n * lv X' n') (lv Y m * lv Y' m')) (lv Y m * lv Y' m' / Nat.gcd (lv X n * lv X' n') (lv Y m * lv Y' m')) w.heap.size 67108864 /\ w.Since w.heap.size w' := by
 have hne2 : w.heap.size + 1 + 1 ≠ w.heap.size := by omega
 obtain ⟨sA, zA, oA, pA, rA⟩ := bx w (.bool f) (.slice a n ca) (.slice b m cb) (.bool f') (.slice a' n' ca') (.slice b' m' cb') (.bool false) (.slice none 0 0) (.slice none 0 0); have hDD := Nat.mul_pos R.den R'.den; have q1 : ((n : Int) == 0) = false := by simp; omega
 have q2 : ((n' : Int) == 0) = false := by simp; omega
 have j0 := oA.c0; have j1 := oA.c1; have j2 := oA.c2; go_enter Tryz.func156, Tryz.ntmps156; go_wp2_with fail; generalize (((w.alloc (.cells #[.bool f, .slice a n ca, .slice b m cb] 61)).alloc (.cells #[.bool f', .slice a' n' ca', .slice b' m' cb'] 61)).alloc (.cells #[.bool false, .slice none 0 0, .slice none 0 0] 61)) = w1 at *; have I1 := xj4 f a b ba oa n ca bb ob m cb X Y w1 (by omega) (by omega) (R.keep sA).LX (R.keep sA).LY R.lX R.lY; rw [show xz3 X n Y m = false by simpa using hs] at I1; refine I1.mono ?_; rintro e w3 ⟨rfl, s3⟩; have S3 := sA.trans (sM s3 sA.size); have o3 := oA.keep s3; have p3 := pA.keep s3; have r3 := rA.keep s3; clear I1 j0 j1 j2 oA pA rA; have k := And.intro o3.cells p3.cells; have J1 := xq7 a ba oa n ca X w3.drew (by omega) (R.keep S3).LX R.lX; go_wp2
 go_region_held3 (fun w' => w'.cell? ⟨w.heap.size, 0, none⟩ = some (.bool f) /\ w'.cell? ⟨w.heap.size, 1, none⟩ = some (.slice a n ca) /\ w'.cell? ⟨w.heap.size, 2, none⟩ = some (.slice b m cb) /\ w'.cell? ⟨w.heap.size + 1, 0, none⟩ = some (.bool f') /\ w'.cell? ⟨w.heap.size + 1, 1, none⟩ = some (.slice a' n' ca') /\ w'.cell? ⟨w.heap.size + 1, 2, none⟩ = some (.slice b' m' cb')) (go_keep)
  (first
    | (go_at_call 152
       first
        | (with_reducible refine J1.mono ?_
           rintro e w4 ⟨a1, g1, m1, t1, B1, rfl, k1, k2, L1, -, p1, e1, s4⟩; have S4 : w.Since w.heap.size w4 := (xq6 S3).trans (sM s4 S3.size); have o4 := o3.drew.keep s4; have p4 := p3.drew.keep s4; have r4 := r3.drew.keep s4; have kk := And.intro o4.cells p4.cells; have J2 := xq7 a' ba' oa' n' ca' X' w4 (by omega) (R'.keep S4).LX R'.lX)
        | (with_reducible refine J2.mono ?_
           rintro e w5 ⟨a2, g2, m2, t2, B2, rfl, l1, l2, L2, -, p2, e2, s5⟩; have S5 := S4.trans (sM s5 S4.size); have o5 := o4.keep s5; have p5 := p4.keep s5; have r5 := r4.keep s5; have kk := And.intro o5.cells p5.cells; have J3 := xz1 a1 a2 g1 0 m1 t1 g2 0 m2 t2 B1 B2 w5 (by omega) (by omega) (L1.keep s5) L2; rw [e1, e2] at J3)
        | (with_reducible refine J4.mono ?_
           rintro e w7 ⟨a4, g4, m4, t4, B4, rfl, i1, i2, L4, -, p4', e4, s7⟩; have S7 := S6.trans (sM s7 S6.size); have o7 := o6.keep s7; have p7 := p6.keep s7; have r7 := r6.keep s7; have kk := And.intro o7.cells p7.cells; have T7 := T6.keep s7; have J5 := xq7 b' bb' ob' m' cb' Y' w7 (by omega) (R'.keep S7).LY R'.lY)
        | (with_reducible refine J5.mono ?_
           rintro e w8 ⟨a5, g5, m5, t5, B5, rfl, j1', j2', L5, -, p5', e5, s8⟩; have S8 := S7.trans (sM s8 S7.size); have o8 := o7.keep s8; have p8 := p7.keep s8; have r8 := r7.keep s8; have kk := And.intro o8.cells p8.cells; have T8 := T7.keep s8; have J6 := xz1 a4 a5 g4 0 m4 t4 g5 0 m5 t5 B4 B5 w8 (by omega) (by omega) (L4.keep s8) L5; rw [e4, e5] at J6))
    | (go_at_call 143
       first
        | (with_reducible refine J3.mono ?_
           rintro e w6 ⟨g6, t6, c6, O6, rfl, f1, f2, L6, f3, f4, e6, s6⟩; have S6 := S5.trans (sM s6 S5.size); have o6 := o5.keep s6; have p6 := p5.keep s6; have r6 := r5.keep s6; have kk := And.intro o6.cells p6.cells; have T6 : Tr w6 (.slice (some ⟨g6, 0, none⟩) t6 c6) t6 O6 := ⟨_, g6, 0, c6, rfl, f1, L6, f4⟩; have J4 := xq7 b bb ob m cb Y w6 (by omega) (R.keep S6).LY R.lY)
        | (with_reducible refine J6.mono ?_
           rintro e w9 ⟨g9, t9, c9, O9, rfl, f5, f6, L9, f7, f8, e9, s9⟩; have S9 := S8.trans (sM s9 S8.size); have o9 := o8.keep s9; have p9 := p8.keep s9; have r9 := r8.keep s9; have kk := And.intro o9.cells p9.cells; have T9 : Tr w9 (.slice (some ⟨g9, 0, none⟩) t9 c9) t9 O9 := ⟨_, g9, 0, c9, rfl, f5, L9, f8⟩; have J7 := xx9 (!(f == f')) _ _ t6 t9 O6 O9 w9 (by omega) (by omega) (T8.keep s9) T9 (by rw [e9]; exact hDD); rw [e6, e9] at J7))
    | (go_at_call 107
       with_reducible refine J7.mono ?_
       rintro e w10 ⟨v, rfl, ⟨x1, x2, g10, h10, rfl, N10, D10, y1, y2, y3⟩, s10⟩; have N10' := N10; have D10' := D10; obtain ⟨aa, qa, cca, Ya, rfl, -⟩ := N10; obtain ⟨ab, qb, ccb, Yb, rfl, -⟩ := D10; have kk := And.intro (o9.keep s10).cells (p9.keep s10).cells; have rB := r9.keep s10; have u0 := rB.c0; have u1 := rB.c1; have u2 := rB.c2; have uf0 := rB.f 0; have uf1 := rB.f 1; have uf2 := rB.f 2))
 all_goals go_wp2
 all_goals
  have S10 := S9.trans (sM s10 S9.size); have z9 := S9.size; have z10 := S3.size; have z11 := r9.lt; have rC := ((rB.set0 (.bool (!(f == f') && lv X n * lv X' n' != 0))).set1 (.slice aa qa cca)).set2 (.slice ab qb ccb); refine bodyPost_ret (rb3 rfl _ _ _ _ _ _ rfl rC) rfl ?_; have M : xq0 w10 _ (w.heap.size + 1 + 1) := (((xq0.refl w10 _).setCell 0 (.bool (!(f == f') && lv X n * lv X' n' != 0))).setCell 1 (.slice aa qa cca)).setCell 2 (.slice ab qb ccb); exact ⟨_, rfl, ⟨_, _, g10, h10, rfl, N10'.marked M (by omega), D10'.marked M (by omega), by omega, by omega, y3⟩, S10.trans (M.since (by omega))⟩
theorem l1Mul_bigB (f f' : Bool) (a b a' b' : Option Addr) (ba oa n ca bb ob m cb ba' oa' n' ca' bb' ob' m' cb' : Nat) (X Y X' Y' : Nat -> Nat) (w : World) (hn : n + n' + m + m' <= 16777216)
 (R : RIn w a b ba oa n ca bb ob m cb X Y) (R' : RIn w a' b' ba' oa' n' ca' bb' ob' m' cb' X' Y') (h1 : 0 < n) (h2 : 0 < n') (hs : xz3 X n Y m = true) (hs' : ¬ xz3 X' n' Y' m' = true) :
 Calls Tryz.prog 156 #[.agg #[.bool f, .slice a n ca, .slice b m cb], .agg #[.bool f', .slice a' n' ca', .slice b' m' cb']] w fun e w' => ∃ v, e = .returned v /\
  RatV w' v ((f != f') && lv X n * lv X' n' != 0) (lv X n * lv X' n' / Nat.gcd (lv X n * lv X' n') (lv Y m * lv Y' m')) (lv Y m * lv Y' m' / Nat.gcd (lv X n * lv X' n') (lv Y m * lv Y' m')) w.heap.size 67108864 /\ w.Since w.heap.size w' := by
 have hne2 : w.heap.size + 1 + 1 ≠ w.heap.size := by omega
 obtain ⟨sA, zA, oA, pA, rA⟩ := bx w (.bool f) (.slice a n ca) (.slice b m cb) (.bool f') (.slice a' n' ca') (.slice b' m' cb') (.bool false) (.slice none 0 0) (.slice none 0 0); have hDD := Nat.mul_pos R.den R'.den; have q1 : ((n : Int) == 0) = false := by simp; omega
 have q2 : ((n' : Int) == 0) = false := by simp; omega
 have j0 := oA.c0; have j1 := oA.c1; have j2 := oA.c2; go_enter Tryz.func156, Tryz.ntmps156; go_wp2_with fail; generalize (((w.alloc (.cells #[.bool f, .slice a n ca, .slice b m cb] 61)).alloc (.cells #[.bool f', .slice a' n' ca', .slice b' m' cb'] 61)).alloc (.cells #[.bool false, .slice none 0 0, .slice none 0 0] 61)) = w1 at *; have I1 := xj4 f a b ba oa n ca bb ob m cb X Y w1 (by omega) (by omega) (R.keep sA).LX (R.keep sA).LY R.lX R.lY; rw [hs] at I1; refine I1.mono ?_; rintro e w2 ⟨rfl, s2⟩; have S2 := sA.trans (sM s2 sA.size); have o2 := oA.keep s2; have p2 := pA.keep s2; have r2 := rA.keep s2; have z2 := s2.size; clear I1 j0 j1 j2 oA pA rA; have k0 := p2.c0; have k1 := p2.c1; have k2 := p2.c2; have I2 := xj4 f' a' b' ba' oa' n' ca' bb' ob' m' cb' X' Y' w2 (by omega) (by omega) (R'.keep S2).LX (R'.keep S2).LY R'.lX R'.lY; rw [show xz3 X' n' Y' m' = false by simpa using hs'] at I2; go_wp2_with fail; refine I2.mono ?_; rintro e w3 ⟨rfl, s3⟩; have S3 := S2.trans (sM s3 S2.size); have o3 := o2.keep s3; have p3 := p2.keep s3; have r3 := r2.keep s3; have z3 := s3.size; clear I2 k0 k1 k2 o2 p2 r2; have k := And.intro o3.cells p3.cells; have J1 := xq7 a ba oa n ca X w3.drew (by omega) (R.keep S3).LX R.lX; go_wp2
 go_region_held3 (fun w' => w'.cell? ⟨w.heap.size, 0, none⟩ = some (.bool f) /\ w'.cell? ⟨w.heap.size, 1, none⟩ = some (.slice a n ca) /\ w'.cell? ⟨w.heap.size, 2, none⟩ = some (.slice b m cb) /\ w'.cell? ⟨w.heap.size + 1, 0, none⟩ = some (.bool f') /\ w'.cell? ⟨w.heap.size + 1, 1, none⟩ = some (.slice a' n' ca') /\ w'.cell? ⟨w.heap.size + 1, 2, none⟩ = some (.slice b' m' cb')) (go_keep)
  (first
    | (go_at_call 152
       first
        | (with_reducible refine J1.mono ?_
           rintro e w4 ⟨a1, g1, m1, t1, B1, rfl, k1, k2, L1, -, p1, e1, s4⟩; have S4 : w.Since w.heap.size w4 := (xq6 S3).trans (sM s4 S3.size); have o4 := o3.drew.keep s4; have p4 := p3.drew.keep s4; have r4 := r3.drew.keep s4; have kk := And.intro o4.cells p4.cells; have J2 := xq7 a' ba' oa' n' ca' X' w4 (by omega) (R'.keep S4).LX R'.lX)
        | (with_reducible refine J2.mono ?_
           rintro e w5 ⟨a2, g2, m2, t2, B2, rfl, l1, l2, L2, -, p2, e2, s5⟩; have S5 := S4.trans (sM s5 S4.size); have o5 := o4.keep s5; have p5 := p4.keep s5; have r5 := r4.keep s5; have kk := And.intro o5.cells p5.cells; have J3 := xz1 a1 a2 g1 0 m1 t1 g2 0 m2 t2 B1 B2 w5 (by omega) (by omega) (L1.keep s5) L2; rw [e1, e2] at J3)
        | (with_reducible refine J4.mono ?_
           rintro e w7 ⟨a4, g4, m4, t4, B4, rfl, i1, i2, L4, -, p4', e4, s7⟩; have S7 := S6.trans (sM s7 S6.size); have o7 := o6.keep s7; have p7 := p6.keep s7; have r7 := r6.keep s7; have kk := And.intro o7.cells p7.cells; have T7 := T6.keep s7; have J5 := xq7 b' bb' ob' m' cb' Y' w7 (by omega) (R'.keep S7).LY R'.lY)
        | (with_reducible refine J5.mono ?_
           rintro e w8 ⟨a5, g5, m5, t5, B5, rfl, j1', j2', L5, -, p5', e5, s8⟩; have S8 := S7.trans (sM s8 S7.size); have o8 := o7.keep s8; have p8 := p7.keep s8; have r8 := r7.keep s8; have kk := And.intro o8.cells p8.cells; have T8 := T7.keep s8; have J6 := xz1 a4 a5 g4 0 m4 t4 g5 0 m5 t5 B4 B5 w8 (by omega) (by omega) (L4.keep s8) L5; rw [e4, e5] at J6))
    | (go_at_call 143
       first
        | (with_reducible refine J3.mono ?_
           rintro e w6 ⟨g6, t6, c6, O6, rfl, f1, f2, L6, f3, f4, e6, s6⟩; have S6 := S5.trans (sM s6 S5.size); have o6 := o5.keep s6; have p6 := p5.keep s6; have r6 := r5.keep s6; have kk := And.intro o6.cells p6.cells; have T6 : Tr w6 (.slice (some ⟨g6, 0, none⟩) t6 c6) t6 O6 := ⟨_, g6, 0, c6, rfl, f1, L6, f4⟩; have J4 := xq7 b bb ob m cb Y w6 (by omega) (R.keep S6).LY R.lY)
        | (with_reducible refine J6.mono ?_
           rintro e w9 ⟨g9, t9, c9, O9, rfl, f5, f6, L9, f7, f8, e9, s9⟩; have S9 := S8.trans (sM s9 S8.size); have o9 := o8.keep s9; have p9 := p8.keep s9; have r9 := r8.keep s9; have kk := And.intro o9.cells p9.cells; have T9 : Tr w9 (.slice (some ⟨g9, 0, none⟩) t9 c9) t9 O9 := ⟨_, g9, 0, c9, rfl, f5, L9, f8⟩; have J7 := xx9 (!(f == f')) _ _ t6 t9 O6 O9 w9 (by omega) (by omega) (T8.keep s9) T9 (by rw [e9]; exact hDD); rw [e6, e9] at J7))
    | (go_at_call 107
       with_reducible refine J7.mono ?_
       rintro e w10 ⟨v, rfl, ⟨x1, x2, g10, h10, rfl, N10, D10, y1, y2, y3⟩, s10⟩; have N10' := N10; have D10' := D10; obtain ⟨aa, qa, cca, Ya, rfl, -⟩ := N10; obtain ⟨ab, qb, ccb, Yb, rfl, -⟩ := D10; have kk := And.intro (o9.keep s10).cells (p9.keep s10).cells; have rB := r9.keep s10; have u0 := rB.c0; have u1 := rB.c1; have u2 := rB.c2; have uf0 := rB.f 0; have uf1 := rB.f 1; have uf2 := rB.f 2))
 all_goals go_wp2
 all_goals
  have S10 := S9.trans (sM s10 S9.size); have z9 := S9.size; have z10 := S3.size; have z11 := r9.lt; have rC := ((rB.set0 (.bool (!(f == f') && lv X n * lv X' n' != 0))).set1 (.slice aa qa cca)).set2 (.slice ab qb ccb); refine bodyPost_ret (rb3 rfl _ _ _ _ _ _ rfl rC) rfl ?_; have M : xq0 w10 _ (w.heap.size + 1 + 1) := (((xq0.refl w10 _).setCell 0 (.bool (!(f == f') && lv X n * lv X' n' != 0))).setCell 1 (.slice aa qa cca)).setCell 2 (.slice ab qb ccb); exact ⟨_, rfl, ⟨_, _, g10, h10, rfl, N10'.marked M (by omega), D10'.marked M (by omega), by omega, by omega, y3⟩, S10.trans (M.since (by omega))⟩
theorem l1Mul_any (f f' : Bool) (a b a' b' : Option Addr) (ba oa n ca bb ob m cb ba' oa' n' ca' bb' ob' m' cb' : Nat) (X Y X' Y' : Nat -> Nat) (w : World) (hn : n + n' + m + m' <= 16777216)
 (R : RIn w a b ba oa n ca bb ob m cb X Y) (R' : RIn w a' b' ba' oa' n' ca' bb' ob' m' cb' X' Y') :
 Calls Tryz.prog 156 #[.agg #[.bool f, .slice a n ca, .slice b m cb], .agg #[.bool f', .slice a' n' ca', .slice b' m' cb']] w fun e w' => ∃ v, e = .returned v /\
  RatV w' v ((f != f') && lv X n * lv X' n' != 0) (lv X n * lv X' n' / Nat.gcd (lv X n * lv X' n') (lv Y m * lv Y' m')) (lv Y m * lv Y' m' / Nat.gcd (lv X n * lv X' n') (lv Y m * lv Y' m')) w.heap.size 67108864 /\ w.Since w.heap.size w' := by
 by_cases h0 : n = 0 ∨ n' = 0
 . exact l1Mul_zero f f' a b a' b' ba oa n ca bb ob m cb ba' oa' n' ca' bb' ob' m' cb' X Y X' Y' w hn R R' h0
 have h1 : 0 < n := by omega
 have h2 : 0 < n' := by omega
 by_cases hs : xz3 X n Y m = true
 . by_cases hs' : xz3 X' n' Y' m' = true
   . exact l1Mul_small f f' a b a' b' ba oa n ca bb ob m cb ba' oa' n' ca' bb' ob' m' cb' X Y X' Y' w hn R R' h1 h2 hs hs'
   . exact l1Mul_bigB f f' a b a' b' ba oa n ca bb ob m cb ba' oa' n' ca' bb' ob' m' cb' X Y X' Y' w hn R R' h1 h2 hs hs'
 . exact l1Mul_bigA f f' a b a' b' ba oa n ca bb ob m cb ba' oa' n' ca' bb' ob' m' cb' X Y X' Y' w hn R R' h1 h2 hs
end Go.Proofs.YtnogbaapcjjngaaGreatDoor
