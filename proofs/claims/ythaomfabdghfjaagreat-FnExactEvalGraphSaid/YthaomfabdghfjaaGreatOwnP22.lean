import Derived.Test.YthaomfabdghfjaaGreatOwnP21
import Derived.Test.YthaomfabdghfjaaGreatOwnP19
import Derived.Test.YthaomfabdghfjaaGreatOwnP18
import Derived.Deep.RegionHeld3
import Derived.Test.YthaomfabdghfjaaGreatOwnP20
import Derived.Test.YthaomfabdghfjaaGreatOwnP13
set_option maxHeartbeats 6400000
set_option maxRecDepth 100000
namespace Go.Proofs.YthaomfabdghfjaaGreat
open Go.RowKit
theorem l2FormOk_no (d : xq1) (a1 : Option Addr) (k1 : Nat) (w : World) (h : d.op < 1 ∨ 7 < d.op) :
 Calls Tryz.prog 82 #[.agg #[.int .i64 d.op, .int .i64 d.a, .int .i64 d.b, .int .i64 d.k, .int .i64 d.s, .slice a1 d.nv k1]] w fun e w' => xw2 e d.Form /\ w.Since w.heap.size w' := by
 have sA := sal w (.cells #[.int .i64 d.op, .int .i64 d.a, .int .i64 d.b, .int .i64 d.k, .int .i64 d.s, .slice a1 d.nv k1] 84); have NF := hide (show ¬ d.Form from fun f => by have := f.o1; have := f.o7; omega); have NI := hide (show ¬ InP d.op 1 7 by unfold InP; omega); clear h; go_enter Tryz.func82, Tryz.ntmps82; go_wp2_with fail; generalize w.alloc (.cells #[.int .i64 d.op, .int .i64 d.a, .int .i64 d.b, .int .i64 d.k, .int .i64 d.s, .slice a1 d.nv k1] 84) = wA at *; refine (xj7 d.op 1 7 wA).mono ?_; rintro e w1 ⟨⟨r, rfl, hr⟩, hw1⟩; have hw2 := hw1.symm; clear hw1; subst hw2; cases r
 . clear hr
   go_wp2; go_ret; exact ⟨⟨false, rfl, by simp only [Bool.false_eq_true, false_iff]; exact NF.out⟩, sA⟩
 . exact absurd (hr.1 rfl) NI.out
theorem xv8 (d : xq1) (a1 : Option Addr) (lo k1 : Nat) (w : World) (hd : d.size <= 1048576) (H : NodL w lo d a1 k1) :
 Calls Tryz.prog 82 #[.agg #[.int .i64 d.op, .int .i64 d.a, .int .i64 d.b, .int .i64 d.k, .int .i64 d.s, .slice a1 d.nv k1]] w fun e w' => xw2 e d.Form /\ w.Since w.heap.size w' := by
 by_cases h : d.op < 1 ∨ 7 < d.op
 . exact l2FormOk_no d a1 k1 w h
 have hc : d.op = 1 ∨ d.op = 2 ∨ d.op = 3 ∨ d.op = 4 ∨ d.op = 5 ∨ d.op = 6 ∨ d.op = 7 := by omega
 clear h; obtain ⟨op, a, b, k, s, nv, V⟩ := d
 dsimp only at hc
 rcases hc with rfl | rfl | rfl | rfl | rfl | rfl | rfl
 . exact l2FormOk1 a b k s nv V a1 lo k1 w hd H
 . exact l2FormOk2 a b k s nv V a1 lo k1 w hd H
 . exact l2FormOk3 a b k s nv V a1 lo k1 w hd H
 . exact l2FormOk4 a b k s nv V a1 lo k1 w hd H
 . exact l2FormOk5 a b k s nv V a1 lo k1 w hd H
 . exact l2FormOk6 a b k s nv V a1 lo k1 w hd H
 . exact l2FormOk7 a b k s nv V a1 lo k1 w hd H
theorem l2NodeCode_no (g : xq8) (op v1 v2 v3 v4 : Int) (nv : Nat) (V : Nat -> RatD) (aL aH : Option Addr) (lo kL kH kN bN oN : Nat) (a1 : Option Addr) (k1 i : Nat) (aD : Option Addr) (cD : Nat) (D : Nat -> Int) (w : World) (hop : op < 1 ∨ 7 < op) (hd : (xq1.mk op v1 v2 v3 v4 nv V).size <= 1048576) (M : NodM w lo bN (oN + i * 6) (xq1.mk op v1 v2 v3 v4 nv V) a1 k1) (hi : i < g.nn) (hnn : g.nn <= 1000) :
 Calls Tryz.prog 48 #[.agg #[.int .i64 g.inn, .int .i64 g.rounds, .slice aL g.nl kL, .slice aH g.nh kH, .slice (some ⟨bN, oN, none⟩) g.nn kN, .int .i64 g.out], .slice aD (i + 1) cD, .int .i64 ((i + 1 : Nat) : Int)] w fun e w' => e = .returned (.int .i64 (xq4 D (i + 1) (xq1.mk op v1 v2 v3 v4 nv V))) /\ w.Since w.heap.size w' := by
 have sA := sal w (.cells #[.int .i64 g.inn, .int .i64 g.rounds, .slice aL g.nl kL, .slice aH g.nh kH, .slice (some ⟨bN, oN, none⟩) g.nn kN, .int .i64 g.out] 50); have zA : (w.alloc (.cells #[.int .i64 g.inn, .int .i64 g.rounds, .slice aL g.nl kL, .slice aH g.nh kH, .slice (some ⟨bN, oN, none⟩) g.nn kN, .int .i64 g.out] 50)).heap.size = w.heap.size + 1 := by simp
 have MA := M.keep sA; have g0 := MA.c0; have g1 := MA.c1; have g2 := MA.c2; have g3 := MA.c3; have g4 := MA.c4; have g5 := MA.c5; have hz : (i : Int) < (g.nn : Int) := by omega
 go_enter Tryz.func48, Tryz.ntmps48; go_wp2_with fail; have sB : (w.alloc (.cells #[.int .i64 g.inn, .int .i64 g.rounds, .slice aL g.nl kL, .slice aH g.nh kH, .slice (some ⟨bN, oN, none⟩) g.nn kN, .int .i64 g.out] 50)).Since (w.alloc (.cells #[.int .i64 g.inn, .int .i64 g.rounds, .slice aL g.nl kL, .slice aH g.nh kH, .slice (some ⟨bN, oN, none⟩) g.nn kN, .int .i64 g.out] 50)).heap.size ((w.alloc (.cells #[.int .i64 g.inn, .int .i64 g.rounds, .slice aL g.nl kL, .slice aH g.nh kH, .slice (some ⟨bN, oN, none⟩) g.nn kN, .int .i64 g.out] 50)).alloc (.cells #[.int .i64 op, .int .i64 v1, .int .i64 v2, .int .i64 v3, .int .i64 v4, .slice a1 nv k1] 84)) := (World.Since.refl _ _).alloc (Nat.le_refl _) _; have nB := Box6.new (w.alloc (.cells #[.int .i64 g.inn, .int .i64 g.rounds, .slice aL g.nl kL, .slice aH g.nh kH, .slice (some ⟨bN, oN, none⟩) g.nn kN, .int .i64 g.out] 50)) (.int .i64 op) (.int .i64 v1) (.int .i64 v2) (.int .i64 v3) (.int .i64 v4) (.slice a1 nv k1) 84; rw [zA] at nB; have S2 := sA.trans (sM sB sA.size); generalize (w.alloc (.cells #[.int .i64 g.inn, .int .i64 g.rounds, .slice aL g.nl kL, .slice aH g.nh kH, .slice (some ⟨bN, oN, none⟩) g.nn kN, .int .i64 g.out] 50)).alloc (.cells #[.int .i64 op, .int .i64 v1, .int .i64 v2, .int .i64 v3, .int .i64 v4, .slice a1 nv k1] 84) = w2 at *; refine (xv8 (xq1.mk op v1 v2 v3 v4 nv V) a1 lo k1 w2 hd (M.L.keep S2)).mono ?_; rintro e w3 ⟨⟨r, rfl, hr⟩, s3⟩; have S3 := S2.trans (sM s3 S2.size); have N3 := nB.keep s3; clear g0 g1 g2 g3 g4 g5 MA; cases r
 . have E := hide (xx6 (D := D) (i := i + 1) (d := (xq1.mk op v1 v2 v3 v4 nv V)) (fun h => by have := hr.2 h; cases this))
   clear hr; go_wp2; go_ret; exact ⟨xq7 E.out.symm, S3⟩
 . exfalso
   have f := hr.1 rfl; have h1 : 1 <= op := f.o1; have h7 : op <= 7 := f.o7; omega
theorem l2NodeCode1 (g : xq8) (v1 v2 v3 v4 : Int) (nv : Nat) (V : Nat -> RatD) (aL aH : Option Addr) (lo kL kH kN bN oN : Nat) (a1 : Option Addr) (k1 i : Nat) (aD : Option Addr) (bD cD : Nat) (D : Nat -> Int) (w : World) (hd : (xq1.mk 1 v1 v2 v3 v4 nv V).size <= 1048576) (M : NodM w lo bN (oN + i * 6) (xq1.mk 1 v1 v2 v3 v4 nv V) a1 k1) (hi : i < g.nn) (hnn : g.nn <= 1000) (HD : Ints w aD bD 0 (i + 1) D) (hD : Dok D (i + 1)) :
 Calls Tryz.prog 48 #[.agg #[.int .i64 g.inn, .int .i64 g.rounds, .slice aL g.nl kL, .slice aH g.nh kH, .slice (some ⟨bN, oN, none⟩) g.nn kN, .int .i64 g.out], .slice aD (i + 1) cD, .int .i64 ((i + 1 : Nat) : Int)] w fun e w' => e = .returned (.int .i64 (xq4 D (i + 1) (xq1.mk 1 v1 v2 v3 v4 nv V))) /\ w.Since w.heap.size w' := by
 have sA := sal w (.cells #[.int .i64 g.inn, .int .i64 g.rounds, .slice aL g.nl kL, .slice aH g.nh kH, .slice (some ⟨bN, oN, none⟩) g.nn kN, .int .i64 g.out] 50); have zA : (w.alloc (.cells #[.int .i64 g.inn, .int .i64 g.rounds, .slice aL g.nl kL, .slice aH g.nh kH, .slice (some ⟨bN, oN, none⟩) g.nn kN, .int .i64 g.out] 50)).heap.size = w.heap.size + 1 := by simp
 have MA := M.keep sA; have g0 := MA.c0; have g1 := MA.c1; have g2 := MA.c2; have g3 := MA.c3; have g4 := MA.c4; have g5 := MA.c5; have hz : (i : Int) < (g.nn : Int) := by omega
 go_enter Tryz.func48, Tryz.ntmps48; go_wp2_with fail; have sB : (w.alloc (.cells #[.int .i64 g.inn, .int .i64 g.rounds, .slice aL g.nl kL, .slice aH g.nh kH, .slice (some ⟨bN, oN, none⟩) g.nn kN, .int .i64 g.out] 50)).Since (w.alloc (.cells #[.int .i64 g.inn, .int .i64 g.rounds, .slice aL g.nl kL, .slice aH g.nh kH, .slice (some ⟨bN, oN, none⟩) g.nn kN, .int .i64 g.out] 50)).heap.size ((w.alloc (.cells #[.int .i64 g.inn, .int .i64 g.rounds, .slice aL g.nl kL, .slice aH g.nh kH, .slice (some ⟨bN, oN, none⟩) g.nn kN, .int .i64 g.out] 50)).alloc (.cells #[.int .i64 1, .int .i64 v1, .int .i64 v2, .int .i64 v3, .int .i64 v4, .slice a1 nv k1] 84)) := (World.Since.refl _ _).alloc (Nat.le_refl _) _; have nB := Box6.new (w.alloc (.cells #[.int .i64 g.inn, .int .i64 g.rounds, .slice aL g.nl kL, .slice aH g.nh kH, .slice (some ⟨bN, oN, none⟩) g.nn kN, .int .i64 g.out] 50)) (.int .i64 1) (.int .i64 v1) (.int .i64 v2) (.int .i64 v3) (.int .i64 v4) (.slice a1 nv k1) 84; rw [zA] at nB; have S2 := sA.trans (sM sB sA.size); generalize (w.alloc (.cells #[.int .i64 g.inn, .int .i64 g.rounds, .slice aL g.nl kL, .slice aH g.nh kH, .slice (some ⟨bN, oN, none⟩) g.nn kN, .int .i64 g.out] 50)).alloc (.cells #[.int .i64 1, .int .i64 v1, .int .i64 v2, .int .i64 v3, .int .i64 v4, .slice a1 nv k1] 84) = w2 at *; refine (xv8 (xq1.mk 1 v1 v2 v3 v4 nv V) a1 lo k1 w2 hd (M.L.keep S2)).mono ?_; rintro e w3 ⟨⟨r, rfl, hr⟩, s3⟩; have S3 := S2.trans (sM s3 S2.size); have N3 := nB.keep s3; clear g0 g1 g2 g3 g4 g5 MA; cases r
 . have E := hide (xx6 (D := D) (i := i + 1) (d := (xq1.mk 1 v1 v2 v3 v4 nv V)) (fun h => by have := hr.2 h; cases this))
   clear hr; go_wp2; go_ret; exact ⟨xq7 E.out.symm, S3⟩
 have F := hide (hr.1 rfl); clear hr; have q0 := N3.c0; have q1 := N3.c1; have q2 := N3.c2; have q3 := N3.c3; have q4 := N3.c4; have q5 := N3.c5; go_wp2_with fail; refine (xj7 v1 0 (i : Int) w3).mono ?_; rintro e w4 ⟨⟨r, rfl, hr⟩, hw4⟩; have hw5 := hw4.symm; clear hw4; subst hw5; cases r
 . have E := hide (xw0 (D := D) (i := i + 1) F.out (fun h => by have h2 : 0 <= v1 /\ v1 < ((i + 1 : Nat) : Int) := ⟨h.1, h.2.1⟩; have := hr.2 (by unfold InP; omega); cases this))
   clear hr; go_wp2; go_ret; exact ⟨xq7 E.out.symm, S3⟩
 have IA := hide (hr.1 rfl); clear hr; have JB := xx3 1 false w3 (by decide); go_wp2_with fail; refine JB.mono ?_; rintro e w4 ⟨rfl, hw4⟩; have hw5 := hw4.symm; clear hw4; subst hw5; clear JB; have G := hide (show yw7 (xq1.mk 1 v1 v2 v3 v4 nv V) (i + 1) from ⟨by have h : 0 <= v1 /\ v1 <= i := IA.out; exact h.1, by have h : 0 <= v1 /\ v1 <= i := IA.out; show v1 < ((i + 1 : Nat) : Int); omega, fun h => (by cases h)⟩); obtain ⟨j, hj⟩ : ∃ j : Nat, v1 = j := ⟨v1.toNat, by have h : 0 <= v1 /\ v1 <= i := IA.out; omega⟩; subst hj; have hjn : j < i + 1 := by have h : 0 <= (j : Int) /\ (j : Int) <= i := IA.out; omega
 obtain ⟨x, hx⟩ : ∃ x, D j = x := ⟨_, rfl⟩; have hDj := hD j hjn; rw [hx] at hDj; obtain ⟨ed, gx⟩ := (HD.keep S3) j hjn; rw [Nat.zero_add, hx] at gx; subst ed; have hz2 : (j : Int) < ((i + 1 : Nat) : Int) := by omega
 have hk : 0 <= v3 /\ v3 <= 1000 := by have h : 1 <= v3 /\ v3 <= 1000 := F.out.k; omega
 have hv : nv <= 1048576 := by have h : nv + szR V nv <= 1048576 := hd; omega
 have y0 : 0 <= v3 * (x + 1) := Int.mul_nonneg hk.1 (by omega); have y1 : v3 * (x + 1) <= 1000 * 1001 := Int.mul_le_mul hk.2 (by omega) (by omega) (by omega); obtain ⟨y, hy⟩ : ∃ y, v3 * (x + 1) = y := ⟨_, rfl⟩; rw [hy] at y0 y1
 by_cases h : (nv : Int) = y
 . have E := hide (show xq4 D (i + 1) (xq1.mk 1 (j : Int) v2 v3 v4 nv V) = 0 by rw [xz2 F.out G.out]; simp [xj3, hx, hy, h])
   have tq : ((nv : Int) != y) = false := by simp [h]
   clear h; go_wp2; go_ret; exact ⟨xq7 E.out.symm, S3⟩
 . have E := hide (show xq4 D (i + 1) (xq1.mk 1 (j : Int) v2 v3 v4 nv V) = 14 by rw [xz2 F.out G.out]; simp [xj3, hx, hy, h])
   have tq : ((nv : Int) != y) = true := by simp [h]
   clear h; go_wp2; go_ret; exact ⟨xq7 E.out.symm, S3⟩
theorem l2NodeCode2 (g : xq8) (v1 v2 v3 v4 : Int) (nv : Nat) (V : Nat -> RatD) (aL aH : Option Addr) (lo kL kH kN bN oN : Nat) (a1 : Option Addr) (k1 i : Nat) (aD : Option Addr) (bD cD : Nat) (D : Nat -> Int) (w : World) (hd : (xq1.mk 2 v1 v2 v3 v4 nv V).size <= 1048576) (M : NodM w lo bN (oN + i * 6) (xq1.mk 2 v1 v2 v3 v4 nv V) a1 k1) (hi : i < g.nn) (hnn : g.nn <= 1000) (HD : Ints w aD bD 0 (i + 1) D) (hD : Dok D (i + 1)) :
 Calls Tryz.prog 48 #[.agg #[.int .i64 g.inn, .int .i64 g.rounds, .slice aL g.nl kL, .slice aH g.nh kH, .slice (some ⟨bN, oN, none⟩) g.nn kN, .int .i64 g.out], .slice aD (i + 1) cD, .int .i64 ((i + 1 : Nat) : Int)] w fun e w' => e = .returned (.int .i64 (xq4 D (i + 1) (xq1.mk 2 v1 v2 v3 v4 nv V))) /\ w.Since w.heap.size w' := by
 have sA := sal w (.cells #[.int .i64 g.inn, .int .i64 g.rounds, .slice aL g.nl kL, .slice aH g.nh kH, .slice (some ⟨bN, oN, none⟩) g.nn kN, .int .i64 g.out] 50); have zA : (w.alloc (.cells #[.int .i64 g.inn, .int .i64 g.rounds, .slice aL g.nl kL, .slice aH g.nh kH, .slice (some ⟨bN, oN, none⟩) g.nn kN, .int .i64 g.out] 50)).heap.size = w.heap.size + 1 := by simp
 have MA := M.keep sA; have g0 := MA.c0; have g1 := MA.c1; have g2 := MA.c2; have g3 := MA.c3; have g4 := MA.c4; have g5 := MA.c5; have hz : (i : Int) < (g.nn : Int) := by omega
 go_enter Tryz.func48, Tryz.ntmps48; go_wp2_with fail; have sB : (w.alloc (.cells #[.int .i64 g.inn, .int .i64 g.rounds, .slice aL g.nl kL, .slice aH g.nh kH, .slice (some ⟨bN, oN, none⟩) g.nn kN, .int .i64 g.out] 50)).Since (w.alloc (.cells #[.int .i64 g.inn, .int .i64 g.rounds, .slice aL g.nl kL, .slice aH g.nh kH, .slice (some ⟨bN, oN, none⟩) g.nn kN, .int .i64 g.out] 50)).heap.size ((w.alloc (.cells #[.int .i64 g.inn, .int .i64 g.rounds, .slice aL g.nl kL, .slice aH g.nh kH, .slice (some ⟨bN, oN, none⟩) g.nn kN, .int .i64 g.out] 50)).alloc (.cells #[.int .i64 2, .int .i64 v1, .int .i64 v2, .int .i64 v3, .int .i64 v4, .slice a1 nv k1] 84)) := (World.Since.refl _ _).alloc (Nat.le_refl _) _; have nB := Box6.new (w.alloc (.cells #[.int .i64 g.inn, .int .i64 g.rounds, .slice aL g.nl kL, .slice aH g.nh kH, .slice (some ⟨bN, oN, none⟩) g.nn kN, .int .i64 g.out] 50)) (.int .i64 2) (.int .i64 v1) (.int .i64 v2) (.int .i64 v3) (.int .i64 v4) (.slice a1 nv k1) 84; rw [zA] at nB; have S2 := sA.trans (sM sB sA.size); generalize (w.alloc (.cells #[.int .i64 g.inn, .int .i64 g.rounds, .slice aL g.nl kL, .slice aH g.nh kH, .slice (some ⟨bN, oN, none⟩) g.nn kN, .int .i64 g.out] 50)).alloc (.cells #[.int .i64 2, .int .i64 v1, .int .i64 v2, .int .i64 v3, .int .i64 v4, .slice a1 nv k1] 84) = w2 at *; refine (xv8 (xq1.mk 2 v1 v2 v3 v4 nv V) a1 lo k1 w2 hd (M.L.keep S2)).mono ?_; rintro e w3 ⟨⟨r, rfl, hr⟩, s3⟩; have S3 := S2.trans (sM s3 S2.size); have N3 := nB.keep s3; clear g0 g1 g2 g3 g4 g5 MA; cases r
 . have E := hide (xx6 (D := D) (i := i + 1) (d := (xq1.mk 2 v1 v2 v3 v4 nv V)) (fun h => by have := hr.2 h; cases this))
   clear hr; go_wp2; go_ret; exact ⟨xq7 E.out.symm, S3⟩
 have F := hide (hr.1 rfl); clear hr; have q0 := N3.c0; have q1 := N3.c1; have q2 := N3.c2; have q3 := N3.c3; have q4 := N3.c4; have q5 := N3.c5; go_wp2_with fail; refine (xj7 v1 0 (i : Int) w3).mono ?_; rintro e w4 ⟨⟨r, rfl, hr⟩, hw4⟩; have hw5 := hw4.symm; clear hw4; subst hw5; cases r
 . have E := hide (xw0 (D := D) (i := i + 1) F.out (fun h => by have h2 : 0 <= v1 /\ v1 < ((i + 1 : Nat) : Int) := ⟨h.1, h.2.1⟩; have := hr.2 (by unfold InP; omega); cases this))
   clear hr; go_wp2; go_ret; exact ⟨xq7 E.out.symm, S3⟩
 have IA := hide (hr.1 rfl); clear hr; have JB := xx3 2 false w3 (by decide); go_wp2_with fail; refine JB.mono ?_; rintro e w4 ⟨rfl, hw4⟩; have hw5 := hw4.symm; clear hw4; subst hw5; clear JB; have G := hide (show yw7 (xq1.mk 2 v1 v2 v3 v4 nv V) (i + 1) from ⟨by have h : 0 <= v1 /\ v1 <= i := IA.out; exact h.1, by have h : 0 <= v1 /\ v1 <= i := IA.out; show v1 < ((i + 1 : Nat) : Int); omega, fun h => (by cases h)⟩); obtain ⟨j, hj⟩ : ∃ j : Nat, v1 = j := ⟨v1.toNat, by have h : 0 <= v1 /\ v1 <= i := IA.out; omega⟩; subst hj; have hjn : j < i + 1 := by have h : 0 <= (j : Int) /\ (j : Int) <= i := IA.out; omega
 obtain ⟨x, hx⟩ : ∃ x, D j = x := ⟨_, rfl⟩; have hDj := hD j hjn; rw [hx] at hDj; obtain ⟨ed, gx⟩ := (HD.keep S3) j hjn; rw [Nat.zero_add, hx] at gx; subst ed; have hz2 : (j : Int) < ((i + 1 : Nat) : Int) := by omega
 have E := hide (show xq4 D (i + 1) (xq1.mk 2 (j : Int) v2 v3 v4 nv V) = 0 by rw [xz2 F.out G.out]; simp [xj3]); go_wp2; go_ret; exact ⟨xq7 E.out.symm, S3⟩
theorem l2NodeCode3 (g : xq8) (v1 v2 v3 v4 : Int) (nv : Nat) (V : Nat -> RatD) (aL aH : Option Addr) (lo kL kH kN bN oN : Nat) (a1 : Option Addr) (k1 i : Nat) (aD : Option Addr) (bD cD : Nat) (D : Nat -> Int) (w : World) (hd : (xq1.mk 3 v1 v2 v3 v4 nv V).size <= 1048576) (M : NodM w lo bN (oN + i * 6) (xq1.mk 3 v1 v2 v3 v4 nv V) a1 k1) (hi : i < g.nn) (hnn : g.nn <= 1000) (HD : Ints w aD bD 0 (i + 1) D) (hD : Dok D (i + 1)) :
 Calls Tryz.prog 48 #[.agg #[.int .i64 g.inn, .int .i64 g.rounds, .slice aL g.nl kL, .slice aH g.nh kH, .slice (some ⟨bN, oN, none⟩) g.nn kN, .int .i64 g.out], .slice aD (i + 1) cD, .int .i64 ((i + 1 : Nat) : Int)] w fun e w' => e = .returned (.int .i64 (xq4 D (i + 1) (xq1.mk 3 v1 v2 v3 v4 nv V))) /\ w.Since w.heap.size w' := by
 have sA := sal w (.cells #[.int .i64 g.inn, .int .i64 g.rounds, .slice aL g.nl kL, .slice aH g.nh kH, .slice (some ⟨bN, oN, none⟩) g.nn kN, .int .i64 g.out] 50); have zA : (w.alloc (.cells #[.int .i64 g.inn, .int .i64 g.rounds, .slice aL g.nl kL, .slice aH g.nh kH, .slice (some ⟨bN, oN, none⟩) g.nn kN, .int .i64 g.out] 50)).heap.size = w.heap.size + 1 := by simp
 have MA := M.keep sA; have g0 := MA.c0; have g1 := MA.c1; have g2 := MA.c2; have g3 := MA.c3; have g4 := MA.c4; have g5 := MA.c5; have hz : (i : Int) < (g.nn : Int) := by omega
 go_enter Tryz.func48, Tryz.ntmps48; go_wp2_with fail; have sB : (w.alloc (.cells #[.int .i64 g.inn, .int .i64 g.rounds, .slice aL g.nl kL, .slice aH g.nh kH, .slice (some ⟨bN, oN, none⟩) g.nn kN, .int .i64 g.out] 50)).Since (w.alloc (.cells #[.int .i64 g.inn, .int .i64 g.rounds, .slice aL g.nl kL, .slice aH g.nh kH, .slice (some ⟨bN, oN, none⟩) g.nn kN, .int .i64 g.out] 50)).heap.size ((w.alloc (.cells #[.int .i64 g.inn, .int .i64 g.rounds, .slice aL g.nl kL, .slice aH g.nh kH, .slice (some ⟨bN, oN, none⟩) g.nn kN, .int .i64 g.out] 50)).alloc (.cells #[.int .i64 3, .int .i64 v1, .int .i64 v2, .int .i64 v3, .int .i64 v4, .slice a1 nv k1] 84)) := (World.Since.refl _ _).alloc (Nat.le_refl _) _; have nB := Box6.new (w.alloc (.cells #[.int .i64 g.inn, .int .i64 g.rounds, .slice aL g.nl kL, .slice aH g.nh kH, .slice (some ⟨bN, oN, none⟩) g.nn kN, .int .i64 g.out] 50)) (.int .i64 3) (.int .i64 v1) (.int .i64 v2) (.int .i64 v3) (.int .i64 v4) (.slice a1 nv k1) 84; rw [zA] at nB; have S2 := sA.trans (sM sB sA.size); generalize (w.alloc (.cells #[.int .i64 g.inn, .int .i64 g.rounds, .slice aL g.nl kL, .slice aH g.nh kH, .slice (some ⟨bN, oN, none⟩) g.nn kN, .int .i64 g.out] 50)).alloc (.cells #[.int .i64 3, .int .i64 v1, .int .i64 v2, .int .i64 v3, .int .i64 v4, .slice a1 nv k1] 84) = w2 at *; refine (xv8 (xq1.mk 3 v1 v2 v3 v4 nv V) a1 lo k1 w2 hd (M.L.keep S2)).mono ?_; rintro e w3 ⟨⟨r, rfl, hr⟩, s3⟩; have S3 := S2.trans (sM s3 S2.size); have N3 := nB.keep s3; clear g0 g1 g2 g3 g4 g5 MA; cases r
 . have E := hide (xx6 (D := D) (i := i + 1) (d := (xq1.mk 3 v1 v2 v3 v4 nv V)) (fun h => by have := hr.2 h; cases this))
   clear hr; go_wp2; go_ret; exact ⟨xq7 E.out.symm, S3⟩
 have F := hide (hr.1 rfl); clear hr; have q0 := N3.c0; have q1 := N3.c1; have q2 := N3.c2; have q3 := N3.c3; have q4 := N3.c4; have q5 := N3.c5; go_wp2_with fail; refine (xj7 v1 0 (i : Int) w3).mono ?_; rintro e w4 ⟨⟨r, rfl, hr⟩, hw4⟩; have hw5 := hw4.symm; clear hw4; subst hw5; cases r
 . have E := hide (xw0 (D := D) (i := i + 1) F.out (fun h => by have h2 : 0 <= v1 /\ v1 < ((i + 1 : Nat) : Int) := ⟨h.1, h.2.1⟩; have := hr.2 (by unfold InP; omega); cases this))
   clear hr; go_wp2; go_ret; exact ⟨xq7 E.out.symm, S3⟩
 have IA := hide (hr.1 rfl); clear hr; have JB := xx3 3 false w3 (by decide); go_wp2_with fail; refine JB.mono ?_; rintro e w4 ⟨rfl, hw4⟩; have hw5 := hw4.symm; clear hw4; subst hw5; clear JB; have G := hide (show yw7 (xq1.mk 3 v1 v2 v3 v4 nv V) (i + 1) from ⟨by have h : 0 <= v1 /\ v1 <= i := IA.out; exact h.1, by have h : 0 <= v1 /\ v1 <= i := IA.out; show v1 < ((i + 1 : Nat) : Int); omega, fun h => (by cases h)⟩); obtain ⟨j, hj⟩ : ∃ j : Nat, v1 = j := ⟨v1.toNat, by have h : 0 <= v1 /\ v1 <= i := IA.out; omega⟩; subst hj; have hjn : j < i + 1 := by have h : 0 <= (j : Int) /\ (j : Int) <= i := IA.out; omega
 obtain ⟨x, hx⟩ : ∃ x, D j = x := ⟨_, rfl⟩; have hDj := hD j hjn; rw [hx] at hDj; obtain ⟨ed, gx⟩ := (HD.keep S3) j hjn; rw [Nat.zero_add, hx] at gx; subst ed; have hz2 : (j : Int) < ((i + 1 : Nat) : Int) := by omega
 have E := hide (show xq4 D (i + 1) (xq1.mk 3 (j : Int) v2 v3 v4 nv V) = 0 by rw [xz2 F.out G.out]; simp [xj3]); go_wp2; go_ret; exact ⟨xq7 E.out.symm, S3⟩
theorem l2NodeCode4 (g : xq8) (v1 v2 v3 v4 : Int) (nv : Nat) (V : Nat -> RatD) (aL aH : Option Addr) (lo kL kH kN bN oN : Nat) (a1 : Option Addr) (k1 i : Nat) (aD : Option Addr) (bD cD : Nat) (D : Nat -> Int) (w : World) (hd : (xq1.mk 4 v1 v2 v3 v4 nv V).size <= 1048576) (M : NodM w lo bN (oN + i * 6) (xq1.mk 4 v1 v2 v3 v4 nv V) a1 k1) (hi : i < g.nn) (hnn : g.nn <= 1000) (HD : Ints w aD bD 0 (i + 1) D) (hD : Dok D (i + 1)) :
 Calls Tryz.prog 48 #[.agg #[.int .i64 g.inn, .int .i64 g.rounds, .slice aL g.nl kL, .slice aH g.nh kH, .slice (some ⟨bN, oN, none⟩) g.nn kN, .int .i64 g.out], .slice aD (i + 1) cD, .int .i64 ((i + 1 : Nat) : Int)] w fun e w' => e = .returned (.int .i64 (xq4 D (i + 1) (xq1.mk 4 v1 v2 v3 v4 nv V))) /\ w.Since w.heap.size w' := by
 have sA := sal w (.cells #[.int .i64 g.inn, .int .i64 g.rounds, .slice aL g.nl kL, .slice aH g.nh kH, .slice (some ⟨bN, oN, none⟩) g.nn kN, .int .i64 g.out] 50); have zA : (w.alloc (.cells #[.int .i64 g.inn, .int .i64 g.rounds, .slice aL g.nl kL, .slice aH g.nh kH, .slice (some ⟨bN, oN, none⟩) g.nn kN, .int .i64 g.out] 50)).heap.size = w.heap.size + 1 := by simp
 have MA := M.keep sA; have g0 := MA.c0; have g1 := MA.c1; have g2 := MA.c2; have g3 := MA.c3; have g4 := MA.c4; have g5 := MA.c5; have hz : (i : Int) < (g.nn : Int) := by omega
 go_enter Tryz.func48, Tryz.ntmps48; go_wp2_with fail; have sB : (w.alloc (.cells #[.int .i64 g.inn, .int .i64 g.rounds, .slice aL g.nl kL, .slice aH g.nh kH, .slice (some ⟨bN, oN, none⟩) g.nn kN, .int .i64 g.out] 50)).Since (w.alloc (.cells #[.int .i64 g.inn, .int .i64 g.rounds, .slice aL g.nl kL, .slice aH g.nh kH, .slice (some ⟨bN, oN, none⟩) g.nn kN, .int .i64 g.out] 50)).heap.size ((w.alloc (.cells #[.int .i64 g.inn, .int .i64 g.rounds, .slice aL g.nl kL, .slice aH g.nh kH, .slice (some ⟨bN, oN, none⟩) g.nn kN, .int .i64 g.out] 50)).alloc (.cells #[.int .i64 4, .int .i64 v1, .int .i64 v2, .int .i64 v3, .int .i64 v4, .slice a1 nv k1] 84)) := (World.Since.refl _ _).alloc (Nat.le_refl _) _; have nB := Box6.new (w.alloc (.cells #[.int .i64 g.inn, .int .i64 g.rounds, .slice aL g.nl kL, .slice aH g.nh kH, .slice (some ⟨bN, oN, none⟩) g.nn kN, .int .i64 g.out] 50)) (.int .i64 4) (.int .i64 v1) (.int .i64 v2) (.int .i64 v3) (.int .i64 v4) (.slice a1 nv k1) 84; rw [zA] at nB; have S2 := sA.trans (sM sB sA.size); generalize (w.alloc (.cells #[.int .i64 g.inn, .int .i64 g.rounds, .slice aL g.nl kL, .slice aH g.nh kH, .slice (some ⟨bN, oN, none⟩) g.nn kN, .int .i64 g.out] 50)).alloc (.cells #[.int .i64 4, .int .i64 v1, .int .i64 v2, .int .i64 v3, .int .i64 v4, .slice a1 nv k1] 84) = w2 at *; refine (xv8 (xq1.mk 4 v1 v2 v3 v4 nv V) a1 lo k1 w2 hd (M.L.keep S2)).mono ?_; rintro e w3 ⟨⟨r, rfl, hr⟩, s3⟩; have S3 := S2.trans (sM s3 S2.size); have N3 := nB.keep s3; clear g0 g1 g2 g3 g4 g5 MA; cases r
 . have E := hide (xx6 (D := D) (i := i + 1) (d := (xq1.mk 4 v1 v2 v3 v4 nv V)) (fun h => by have := hr.2 h; cases this))
   clear hr; go_wp2; go_ret; exact ⟨xq7 E.out.symm, S3⟩
 have F := hide (hr.1 rfl); clear hr; have q0 := N3.c0; have q1 := N3.c1; have q2 := N3.c2; have q3 := N3.c3; have q4 := N3.c4; have q5 := N3.c5; go_wp2_with fail; refine (xj7 v1 0 (i : Int) w3).mono ?_; rintro e w4 ⟨⟨r, rfl, hr⟩, hw4⟩; have hw5 := hw4.symm; clear hw4; subst hw5; cases r
 . have E := hide (xw0 (D := D) (i := i + 1) F.out (fun h => by have h2 : 0 <= v1 /\ v1 < ((i + 1 : Nat) : Int) := ⟨h.1, h.2.1⟩; have := hr.2 (by unfold InP; omega); cases this))
   clear hr; go_wp2; go_ret; exact ⟨xq7 E.out.symm, S3⟩
 have IA := hide (hr.1 rfl); clear hr; have JB := xx3 4 true w3 (by decide); go_wp2_with fail; refine JB.mono ?_; rintro e w4 ⟨rfl, hw4⟩; have hw5 := hw4.symm; clear hw4; subst hw5; clear JB; go_wp2_with fail; refine (xj7 v2 0 (i : Int) w3).mono ?_; rintro e w4 ⟨⟨r, rfl, hr⟩, hw4⟩; have hw5 := hw4.symm; clear hw4; subst hw5; cases r
 . have E := hide (xw0 (D := D) (i := i + 1) F.out (fun h => by have h2 : 0 <= v2 /\ v2 < ((i + 1 : Nat) : Int) := h.2.2 rfl; have := hr.2 (by unfold InP; omega); cases this))
   clear hr; go_wp2; go_ret; exact ⟨xq7 E.out.symm, S3⟩
 have IB := hide (hr.1 rfl); clear hr; have G := hide (show yw7 (xq1.mk 4 v1 v2 v3 v4 nv V) (i + 1) from ⟨by have h : 0 <= v1 /\ v1 <= i := IA.out; exact h.1, by have h : 0 <= v1 /\ v1 <= i := IA.out; show v1 < ((i + 1 : Nat) : Int); omega, fun _ => by have h : 0 <= v2 /\ v2 <= i := IB.out; show 0 <= v2 /\ v2 < ((i + 1 : Nat) : Int); omega⟩); obtain ⟨j, hj⟩ : ∃ j : Nat, v1 = j := ⟨v1.toNat, by have h : 0 <= v1 /\ v1 <= i := IA.out; omega⟩; subst hj; have hjn : j < i + 1 := by have h : 0 <= (j : Int) /\ (j : Int) <= i := IA.out; omega
 obtain ⟨x, hx⟩ : ∃ x, D j = x := ⟨_, rfl⟩; have hDj := hD j hjn; rw [hx] at hDj; obtain ⟨ed, gx⟩ := (HD.keep S3) j hjn; rw [Nat.zero_add, hx] at gx; subst ed; have hz2 : (j : Int) < ((i + 1 : Nat) : Int) := by omega
 obtain ⟨i2, hi2⟩ : ∃ i2 : Nat, v2 = i2 := ⟨v2.toNat, by have h : 0 <= v2 /\ v2 <= i := IB.out; omega⟩; subst hi2; have hi3 : i2 < i + 1 := by have h : 0 <= (i2 : Int) /\ (i2 : Int) <= i := IB.out; omega
 obtain ⟨-, gy⟩ := (HD.keep S3) i2 hi3; rw [Nat.zero_add] at gy; have hz3 : (i2 : Int) < ((i + 1 : Nat) : Int) := by omega
 obtain ⟨y, hy⟩ : ∃ y, D i2 = y := ⟨_, rfl⟩; rw [hy] at gy
 by_cases h : y = x
 . have E := hide (show xq4 D (i + 1) (xq1.mk 4 (j : Int) (i2 : Int) v3 v4 nv V) = 0 by rw [xz2 F.out G.out]; simp [xj3, hx, hy, h])
   have tq : (y != x) = false := by simp [h]
   clear h; go_wp2; go_ret; exact ⟨xq7 E.out.symm, S3⟩
 . have E := hide (show xq4 D (i + 1) (xq1.mk 4 (j : Int) (i2 : Int) v3 v4 nv V) = 14 by rw [xz2 F.out G.out]; simp [xj3, hx, hy, h])
   have tq : (y != x) = true := by simp [h]
   clear h; go_wp2; go_ret; exact ⟨xq7 E.out.symm, S3⟩
theorem l2NodeCode5 (g : xq8) (v1 v2 v3 v4 : Int) (nv : Nat) (V : Nat -> RatD) (aL aH : Option Addr) (lo kL kH kN bN oN : Nat) (a1 : Option Addr) (k1 i : Nat) (aD : Option Addr) (bD cD : Nat) (D : Nat -> Int) (w : World) (hd : (xq1.mk 5 v1 v2 v3 v4 nv V).size <= 1048576) (M : NodM w lo bN (oN + i * 6) (xq1.mk 5 v1 v2 v3 v4 nv V) a1 k1) (hi : i < g.nn) (hnn : g.nn <= 1000) (HD : Ints w aD bD 0 (i + 1) D) (hD : Dok D (i + 1)) :
 Calls Tryz.prog 48 #[.agg #[.int .i64 g.inn, .int .i64 g.rounds, .slice aL g.nl kL, .slice aH g.nh kH, .slice (some ⟨bN, oN, none⟩) g.nn kN, .int .i64 g.out], .slice aD (i + 1) cD, .int .i64 ((i + 1 : Nat) : Int)] w fun e w' => e = .returned (.int .i64 (xq4 D (i + 1) (xq1.mk 5 v1 v2 v3 v4 nv V))) /\ w.Since w.heap.size w' := by
 have sA := sal w (.cells #[.int .i64 g.inn, .int .i64 g.rounds, .slice aL g.nl kL, .slice aH g.nh kH, .slice (some ⟨bN, oN, none⟩) g.nn kN, .int .i64 g.out] 50); have zA : (w.alloc (.cells #[.int .i64 g.inn, .int .i64 g.rounds, .slice aL g.nl kL, .slice aH g.nh kH, .slice (some ⟨bN, oN, none⟩) g.nn kN, .int .i64 g.out] 50)).heap.size = w.heap.size + 1 := by simp
 have MA := M.keep sA; have g0 := MA.c0; have g1 := MA.c1; have g2 := MA.c2; have g3 := MA.c3; have g4 := MA.c4; have g5 := MA.c5; have hz : (i : Int) < (g.nn : Int) := by omega
 go_enter Tryz.func48, Tryz.ntmps48; go_wp2_with fail; have sB : (w.alloc (.cells #[.int .i64 g.inn, .int .i64 g.rounds, .slice aL g.nl kL, .slice aH g.nh kH, .slice (some ⟨bN, oN, none⟩) g.nn kN, .int .i64 g.out] 50)).Since (w.alloc (.cells #[.int .i64 g.inn, .int .i64 g.rounds, .slice aL g.nl kL, .slice aH g.nh kH, .slice (some ⟨bN, oN, none⟩) g.nn kN, .int .i64 g.out] 50)).heap.size ((w.alloc (.cells #[.int .i64 g.inn, .int .i64 g.rounds, .slice aL g.nl kL, .slice aH g.nh kH, .slice (some ⟨bN, oN, none⟩) g.nn kN, .int .i64 g.out] 50)).alloc (.cells #[.int .i64 5, .int .i64 v1, .int .i64 v2, .int .i64 v3, .int .i64 v4, .slice a1 nv k1] 84)) := (World.Since.refl _ _).alloc (Nat.le_refl _) _; have nB := Box6.new (w.alloc (.cells #[.int .i64 g.inn, .int .i64 g.rounds, .slice aL g.nl kL, .slice aH g.nh kH, .slice (some ⟨bN, oN, none⟩) g.nn kN, .int .i64 g.out] 50)) (.int .i64 5) (.int .i64 v1) (.int .i64 v2) (.int .i64 v3) (.int .i64 v4) (.slice a1 nv k1) 84; rw [zA] at nB; have S2 := sA.trans (sM sB sA.size); generalize (w.alloc (.cells #[.int .i64 g.inn, .int .i64 g.rounds, .slice aL g.nl kL, .slice aH g.nh kH, .slice (some ⟨bN, oN, none⟩) g.nn kN, .int .i64 g.out] 50)).alloc (.cells #[.int .i64 5, .int .i64 v1, .int .i64 v2, .int .i64 v3, .int .i64 v4, .slice a1 nv k1] 84) = w2 at *; refine (xv8 (xq1.mk 5 v1 v2 v3 v4 nv V) a1 lo k1 w2 hd (M.L.keep S2)).mono ?_; rintro e w3 ⟨⟨r, rfl, hr⟩, s3⟩; have S3 := S2.trans (sM s3 S2.size); have N3 := nB.keep s3; clear g0 g1 g2 g3 g4 g5 MA; cases r
 . have E := hide (xx6 (D := D) (i := i + 1) (d := (xq1.mk 5 v1 v2 v3 v4 nv V)) (fun h => by have := hr.2 h; cases this))
   clear hr; go_wp2; go_ret; exact ⟨xq7 E.out.symm, S3⟩
 have F := hide (hr.1 rfl); clear hr; have q0 := N3.c0; have q1 := N3.c1; have q2 := N3.c2; have q3 := N3.c3; have q4 := N3.c4; have q5 := N3.c5; go_wp2_with fail; refine (xj7 v1 0 (i : Int) w3).mono ?_; rintro e w4 ⟨⟨r, rfl, hr⟩, hw4⟩; have hw5 := hw4.symm; clear hw4; subst hw5; cases r
 . have E := hide (xw0 (D := D) (i := i + 1) F.out (fun h => by have h2 : 0 <= v1 /\ v1 < ((i + 1 : Nat) : Int) := ⟨h.1, h.2.1⟩; have := hr.2 (by unfold InP; omega); cases this))
   clear hr; go_wp2; go_ret; exact ⟨xq7 E.out.symm, S3⟩
 have IA := hide (hr.1 rfl); clear hr; have JB := xx3 5 false w3 (by decide); go_wp2_with fail; refine JB.mono ?_; rintro e w4 ⟨rfl, hw4⟩; have hw5 := hw4.symm; clear hw4; subst hw5; clear JB; have G := hide (show yw7 (xq1.mk 5 v1 v2 v3 v4 nv V) (i + 1) from ⟨by have h : 0 <= v1 /\ v1 <= i := IA.out; exact h.1, by have h : 0 <= v1 /\ v1 <= i := IA.out; show v1 < ((i + 1 : Nat) : Int); omega, fun h => (by cases h)⟩); obtain ⟨j, hj⟩ : ∃ j : Nat, v1 = j := ⟨v1.toNat, by have h : 0 <= v1 /\ v1 <= i := IA.out; omega⟩; subst hj; have hjn : j < i + 1 := by have h : 0 <= (j : Int) /\ (j : Int) <= i := IA.out; omega
 obtain ⟨x, hx⟩ : ∃ x, D j = x := ⟨_, rfl⟩; have hDj := hD j hjn; rw [hx] at hDj; obtain ⟨ed, gx⟩ := (HD.keep S3) j hjn; rw [Nat.zero_add, hx] at gx; subst ed; have hz2 : (j : Int) < ((i + 1 : Nat) : Int) := by omega
 have hk : 1 <= v3 /\ v3 <= 1000 := F.out.k; have hk0 : ¬ v3 = 0 := by omega
 have p1 : x.tmod v3 = x % v3 := Int.tmod_eq_emod_of_nonneg (by omega); obtain ⟨y, hy⟩ : ∃ y, y = x % v3 := ⟨_, rfl⟩; rw [<- hy] at p1
 by_cases h : y = 0
 . have E := hide (show xq4 D (i + 1) (xq1.mk 5 (j : Int) v2 v3 v4 nv V) = 0 by rw [xz2 F.out G.out]; rw [h] at hy; simp [xj3, hx, <- hy])
   have tq : (y != 0) = false := by simp [h]
   clear h hy; go_wp2; go_ret; exact ⟨xq7 E.out.symm, S3⟩
 . have E := hide (show xq4 D (i + 1) (xq1.mk 5 (j : Int) v2 v3 v4 nv V) = 14 by rw [xz2 F.out G.out]; rw [hy] at h; simp [xj3, hx, h])
   have tq : (y != 0) = true := by simp [h]
   clear h hy; go_wp2; go_ret; exact ⟨xq7 E.out.symm, S3⟩
theorem l2NodeCode6 (g : xq8) (v1 v2 v3 v4 : Int) (nv : Nat) (V : Nat -> RatD) (aL aH : Option Addr) (lo kL kH kN bN oN : Nat) (a1 : Option Addr) (k1 i : Nat) (aD : Option Addr) (bD cD : Nat) (D : Nat -> Int) (w : World) (hd : (xq1.mk 6 v1 v2 v3 v4 nv V).size <= 1048576) (M : NodM w lo bN (oN + i * 6) (xq1.mk 6 v1 v2 v3 v4 nv V) a1 k1) (hi : i < g.nn) (hnn : g.nn <= 1000) (HD : Ints w aD bD 0 (i + 1) D) (hD : Dok D (i + 1)) :
 Calls Tryz.prog 48 #[.agg #[.int .i64 g.inn, .int .i64 g.rounds, .slice aL g.nl kL, .slice aH g.nh kH, .slice (some ⟨bN, oN, none⟩) g.nn kN, .int .i64 g.out], .slice aD (i + 1) cD, .int .i64 ((i + 1 : Nat) : Int)] w fun e w' => e = .returned (.int .i64 (xq4 D (i + 1) (xq1.mk 6 v1 v2 v3 v4 nv V))) /\ w.Since w.heap.size w' := by
 have sA := sal w (.cells #[.int .i64 g.inn, .int .i64 g.rounds, .slice aL g.nl kL, .slice aH g.nh kH, .slice (some ⟨bN, oN, none⟩) g.nn kN, .int .i64 g.out] 50); have zA : (w.alloc (.cells #[.int .i64 g.inn, .int .i64 g.rounds, .slice aL g.nl kL, .slice aH g.nh kH, .slice (some ⟨bN, oN, none⟩) g.nn kN, .int .i64 g.out] 50)).heap.size = w.heap.size + 1 := by simp
 have MA := M.keep sA; have g0 := MA.c0; have g1 := MA.c1; have g2 := MA.c2; have g3 := MA.c3; have g4 := MA.c4; have g5 := MA.c5; have hz : (i : Int) < (g.nn : Int) := by omega
 go_enter Tryz.func48, Tryz.ntmps48; go_wp2_with fail; have sB : (w.alloc (.cells #[.int .i64 g.inn, .int .i64 g.rounds, .slice aL g.nl kL, .slice aH g.nh kH, .slice (some ⟨bN, oN, none⟩) g.nn kN, .int .i64 g.out] 50)).Since (w.alloc (.cells #[.int .i64 g.inn, .int .i64 g.rounds, .slice aL g.nl kL, .slice aH g.nh kH, .slice (some ⟨bN, oN, none⟩) g.nn kN, .int .i64 g.out] 50)).heap.size ((w.alloc (.cells #[.int .i64 g.inn, .int .i64 g.rounds, .slice aL g.nl kL, .slice aH g.nh kH, .slice (some ⟨bN, oN, none⟩) g.nn kN, .int .i64 g.out] 50)).alloc (.cells #[.int .i64 6, .int .i64 v1, .int .i64 v2, .int .i64 v3, .int .i64 v4, .slice a1 nv k1] 84)) := (World.Since.refl _ _).alloc (Nat.le_refl _) _; have nB := Box6.new (w.alloc (.cells #[.int .i64 g.inn, .int .i64 g.rounds, .slice aL g.nl kL, .slice aH g.nh kH, .slice (some ⟨bN, oN, none⟩) g.nn kN, .int .i64 g.out] 50)) (.int .i64 6) (.int .i64 v1) (.int .i64 v2) (.int .i64 v3) (.int .i64 v4) (.slice a1 nv k1) 84; rw [zA] at nB; have S2 := sA.trans (sM sB sA.size); generalize (w.alloc (.cells #[.int .i64 g.inn, .int .i64 g.rounds, .slice aL g.nl kL, .slice aH g.nh kH, .slice (some ⟨bN, oN, none⟩) g.nn kN, .int .i64 g.out] 50)).alloc (.cells #[.int .i64 6, .int .i64 v1, .int .i64 v2, .int .i64 v3, .int .i64 v4, .slice a1 nv k1] 84) = w2 at *; refine (xv8 (xq1.mk 6 v1 v2 v3 v4 nv V) a1 lo k1 w2 hd (M.L.keep S2)).mono ?_; rintro e w3 ⟨⟨r, rfl, hr⟩, s3⟩; have S3 := S2.trans (sM s3 S2.size); have N3 := nB.keep s3; clear g0 g1 g2 g3 g4 g5 MA; cases r
 . have E := hide (xx6 (D := D) (i := i + 1) (d := (xq1.mk 6 v1 v2 v3 v4 nv V)) (fun h => by have := hr.2 h; cases this))
   clear hr; go_wp2; go_ret; exact ⟨xq7 E.out.symm, S3⟩
 have F := hide (hr.1 rfl); clear hr; have q0 := N3.c0; have q1 := N3.c1; have q2 := N3.c2; have q3 := N3.c3; have q4 := N3.c4; have q5 := N3.c5; go_wp2_with fail; refine (xj7 v1 0 (i : Int) w3).mono ?_; rintro e w4 ⟨⟨r, rfl, hr⟩, hw4⟩; have hw5 := hw4.symm; clear hw4; subst hw5; cases r
 . have E := hide (xw0 (D := D) (i := i + 1) F.out (fun h => by have h2 : 0 <= v1 /\ v1 < ((i + 1 : Nat) : Int) := ⟨h.1, h.2.1⟩; have := hr.2 (by unfold InP; omega); cases this))
   clear hr; go_wp2; go_ret; exact ⟨xq7 E.out.symm, S3⟩
 have IA := hide (hr.1 rfl); clear hr; have JB := xx3 6 false w3 (by decide); go_wp2_with fail; refine JB.mono ?_; rintro e w4 ⟨rfl, hw4⟩; have hw5 := hw4.symm; clear hw4; subst hw5; clear JB; have G := hide (show yw7 (xq1.mk 6 v1 v2 v3 v4 nv V) (i + 1) from ⟨by have h : 0 <= v1 /\ v1 <= i := IA.out; exact h.1, by have h : 0 <= v1 /\ v1 <= i := IA.out; show v1 < ((i + 1 : Nat) : Int); omega, fun h => (by cases h)⟩); obtain ⟨j, hj⟩ : ∃ j : Nat, v1 = j := ⟨v1.toNat, by have h : 0 <= v1 /\ v1 <= i := IA.out; omega⟩; subst hj; have hjn : j < i + 1 := by have h : 0 <= (j : Int) /\ (j : Int) <= i := IA.out; omega
 obtain ⟨x, hx⟩ : ∃ x, D j = x := ⟨_, rfl⟩; have hDj := hD j hjn; rw [hx] at hDj; obtain ⟨ed, gx⟩ := (HD.keep S3) j hjn; rw [Nat.zero_add, hx] at gx; subst ed; have hz2 : (j : Int) < ((i + 1 : Nat) : Int) := by omega
 have hk : 1 <= v3 /\ v3 <= 1000 := F.out.k; have hv : nv <= 1048576 := by have h : nv + szR V nv <= 1048576 := hd; omega
 by_cases h : x < v3
 . have E := hide (show xq4 D (i + 1) (xq1.mk 6 (j : Int) v2 v3 v4 nv V) = 14 by rw [xz2 F.out G.out]; simp [xj3, hx, h])
   go_wp2; go_ret; exact ⟨xq7 E.out.symm, S3⟩
 by_cases h2 : (nv : Int) = v3 + 1
 . have E := hide (show xq4 D (i + 1) (xq1.mk 6 (j : Int) v2 v3 v4 nv V) = 0 by rw [xz2 F.out G.out]; simp [xj3, hx, h2]; omega)
   have tq : ((nv : Int) != v3 + 1) = false := by simp [h2]
   clear h2; go_wp2; go_ret; exact ⟨xq7 E.out.symm, S3⟩
 . have E := hide (show xq4 D (i + 1) (xq1.mk 6 (j : Int) v2 v3 v4 nv V) = 14 by rw [xz2 F.out G.out]; simp [xj3, hx, h2])
   have tq : ((nv : Int) != v3 + 1) = true := by simp [h2]
   clear h2; go_wp2; go_ret; exact ⟨xq7 E.out.symm, S3⟩
theorem l2NodeCode7 (g : xq8) (v1 v2 v3 v4 : Int) (nv : Nat) (V : Nat -> RatD) (aL aH : Option Addr) (lo kL kH kN bN oN : Nat) (a1 : Option Addr) (k1 i : Nat) (aD : Option Addr) (bD cD : Nat) (D : Nat -> Int) (w : World) (hd : (xq1.mk 7 v1 v2 v3 v4 nv V).size <= 1048576) (M : NodM w lo bN (oN + i * 6) (xq1.mk 7 v1 v2 v3 v4 nv V) a1 k1) (hi : i < g.nn) (hnn : g.nn <= 1000) (HD : Ints w aD bD 0 (i + 1) D) (hD : Dok D (i + 1)) :
 Calls Tryz.prog 48 #[.agg #[.int .i64 g.inn, .int .i64 g.rounds, .slice aL g.nl kL, .slice aH g.nh kH, .slice (some ⟨bN, oN, none⟩) g.nn kN, .int .i64 g.out], .slice aD (i + 1) cD, .int .i64 ((i + 1 : Nat) : Int)] w fun e w' => e = .returned (.int .i64 (xq4 D (i + 1) (xq1.mk 7 v1 v2 v3 v4 nv V))) /\ w.Since w.heap.size w' := by
 have sA := sal w (.cells #[.int .i64 g.inn, .int .i64 g.rounds, .slice aL g.nl kL, .slice aH g.nh kH, .slice (some ⟨bN, oN, none⟩) g.nn kN, .int .i64 g.out] 50); have zA : (w.alloc (.cells #[.int .i64 g.inn, .int .i64 g.rounds, .slice aL g.nl kL, .slice aH g.nh kH, .slice (some ⟨bN, oN, none⟩) g.nn kN, .int .i64 g.out] 50)).heap.size = w.heap.size + 1 := by simp
 have MA := M.keep sA; have g0 := MA.c0; have g1 := MA.c1; have g2 := MA.c2; have g3 := MA.c3; have g4 := MA.c4; have g5 := MA.c5; have hz : (i : Int) < (g.nn : Int) := by omega
 go_enter Tryz.func48, Tryz.ntmps48; go_wp2_with fail; have sB : (w.alloc (.cells #[.int .i64 g.inn, .int .i64 g.rounds, .slice aL g.nl kL, .slice aH g.nh kH, .slice (some ⟨bN, oN, none⟩) g.nn kN, .int .i64 g.out] 50)).Since (w.alloc (.cells #[.int .i64 g.inn, .int .i64 g.rounds, .slice aL g.nl kL, .slice aH g.nh kH, .slice (some ⟨bN, oN, none⟩) g.nn kN, .int .i64 g.out] 50)).heap.size ((w.alloc (.cells #[.int .i64 g.inn, .int .i64 g.rounds, .slice aL g.nl kL, .slice aH g.nh kH, .slice (some ⟨bN, oN, none⟩) g.nn kN, .int .i64 g.out] 50)).alloc (.cells #[.int .i64 7, .int .i64 v1, .int .i64 v2, .int .i64 v3, .int .i64 v4, .slice a1 nv k1] 84)) := (World.Since.refl _ _).alloc (Nat.le_refl _) _; have nB := Box6.new (w.alloc (.cells #[.int .i64 g.inn, .int .i64 g.rounds, .slice aL g.nl kL, .slice aH g.nh kH, .slice (some ⟨bN, oN, none⟩) g.nn kN, .int .i64 g.out] 50)) (.int .i64 7) (.int .i64 v1) (.int .i64 v2) (.int .i64 v3) (.int .i64 v4) (.slice a1 nv k1) 84; rw [zA] at nB; have S2 := sA.trans (sM sB sA.size); generalize (w.alloc (.cells #[.int .i64 g.inn, .int .i64 g.rounds, .slice aL g.nl kL, .slice aH g.nh kH, .slice (some ⟨bN, oN, none⟩) g.nn kN, .int .i64 g.out] 50)).alloc (.cells #[.int .i64 7, .int .i64 v1, .int .i64 v2, .int .i64 v3, .int .i64 v4, .slice a1 nv k1] 84) = w2 at *; refine (xv8 (xq1.mk 7 v1 v2 v3 v4 nv V) a1 lo k1 w2 hd (M.L.keep S2)).mono ?_; rintro e w3 ⟨⟨r, rfl, hr⟩, s3⟩; have S3 := S2.trans (sM s3 S2.size); have N3 := nB.keep s3; clear g0 g1 g2 g3 g4 g5 MA; cases r
 . have E := hide (xx6 (D := D) (i := i + 1) (d := (xq1.mk 7 v1 v2 v3 v4 nv V)) (fun h => by have := hr.2 h; cases this))
   clear hr; go_wp2; go_ret; exact ⟨xq7 E.out.symm, S3⟩
 have F := hide (hr.1 rfl); clear hr; have q0 := N3.c0; have q1 := N3.c1; have q2 := N3.c2; have q3 := N3.c3; have q4 := N3.c4; have q5 := N3.c5; go_wp2_with fail; refine (xj7 v1 0 (i : Int) w3).mono ?_; rintro e w4 ⟨⟨r, rfl, hr⟩, hw4⟩; have hw5 := hw4.symm; clear hw4; subst hw5; cases r
 . have E := hide (xw0 (D := D) (i := i + 1) F.out (fun h => by have h2 : 0 <= v1 /\ v1 < ((i + 1 : Nat) : Int) := ⟨h.1, h.2.1⟩; have := hr.2 (by unfold InP; omega); cases this))
   clear hr; go_wp2; go_ret; exact ⟨xq7 E.out.symm, S3⟩
 have IA := hide (hr.1 rfl); clear hr; have JB := xx3 7 false w3 (by decide); go_wp2_with fail; refine JB.mono ?_; rintro e w4 ⟨rfl, hw4⟩; have hw5 := hw4.symm; clear hw4; subst hw5; clear JB; have G := hide (show yw7 (xq1.mk 7 v1 v2 v3 v4 nv V) (i + 1) from ⟨by have h : 0 <= v1 /\ v1 <= i := IA.out; exact h.1, by have h : 0 <= v1 /\ v1 <= i := IA.out; show v1 < ((i + 1 : Nat) : Int); omega, fun h => (by cases h)⟩); obtain ⟨j, hj⟩ : ∃ j : Nat, v1 = j := ⟨v1.toNat, by have h : 0 <= v1 /\ v1 <= i := IA.out; omega⟩; subst hj; have hjn : j < i + 1 := by have h : 0 <= (j : Int) /\ (j : Int) <= i := IA.out; omega
 obtain ⟨x, hx⟩ : ∃ x, D j = x := ⟨_, rfl⟩; have hDj := hD j hjn; rw [hx] at hDj; obtain ⟨ed, gx⟩ := (HD.keep S3) j hjn; rw [Nat.zero_add, hx] at gx; subst ed; have hz2 : (j : Int) < ((i + 1 : Nat) : Int) := by omega
 have h4 := hide (show nv = 4 from F.out.v7 rfl); obtain ⟨bV, oV, -, LV⟩ := (M.L.keep S3).LV; obtain ⟨ev, y1, y2, l1, l2, MV⟩ := LV 2 (by show 2 < nv; rw [h4.out]; omega); have mv1 := MV.c1; subst ev; have hz4 : (2 : Int) < (nv : Int) := by rw [h4.out]; decide
 by_cases h : (V 2).n = 0
 . have E := hide (show xq4 D (i + 1) (xq1.mk 7 (j : Int) v2 v3 v4 nv V) = 15 by rw [xz2 F.out G.out]; simp [xj3, h])
   have tq : (((V 2).n : Int) == 0) = true := by simp [h]
   clear h; go_wp2; go_ret; exact ⟨xq7 E.out.symm, S3⟩
 . have E := hide (show xq4 D (i + 1) (xq1.mk 7 (j : Int) v2 v3 v4 nv V) = 0 by rw [xz2 F.out G.out]; simp [xj3, h])
   have tq : (((V 2).n : Int) == 0) = false := by simp; omega
   clear h; go_wp2; go_ret; exact ⟨xq7 E.out.symm, S3⟩
def dimX (op k s x : Int) : Int := if op = 1 then k else if op = 5 then x / k else if op = 6 then (x - k) / s + 1 else x
theorem l2NodeDim_any (op v1 v2 v3 v4 x : Int) (a1 : Option Addr) (nv k1 : Nat) (w : World) (x1 : 1 <= x) (x2 : x <= 1000) (c5 : op = 5 -> 1 <= v3 /\ v3 <= 1000) (c6 : op = 6 -> 1 <= v3 /\ v3 <= x /\ 1 <= v4 /\ v4 <= 1000) :
 Calls Tryz.prog 49 #[.agg #[.int .i64 op, .int .i64 v1, .int .i64 v2, .int .i64 v3, .int .i64 v4, .slice a1 nv k1], .int .i64 x] w fun e w' => e = .returned (.int .i64 (dimX op v3 v4 x)) /\ w.Since w.heap.size w' := by
 by_cases h1 : op = 1
 . subst h1
   have sA := sal w (.cells #[.int .i64 1, .int .i64 v1, .int .i64 v2, .int .i64 v3, .int .i64 v4, .slice a1 nv k1] 84); clear c5 c6; have HX := hide (show dimX 1 v3 v4 x = v3 from rfl); go_enter Tryz.func49, Tryz.ntmps49; go_wp2; go_ret; exact ⟨xq7 HX.out.symm, sA⟩
 by_cases h5 : op = 5
 . subst h5
   obtain ⟨k0, k2⟩ := c5 rfl; have sA := sal w (.cells #[.int .i64 5, .int .i64 v1, .int .i64 v2, .int .i64 v3, .int .i64 v4, .slice a1 nv k1] 84); have p2 : x.tdiv v3 = x / v3 := Int.tdiv_eq_ediv_of_nonneg (by omega); have d0 : 0 <= x / v3 := Int.ediv_nonneg (by omega) (by omega); have d1 : x / v3 <= x := Int.ediv_le_self _ (by omega); obtain ⟨z, hz'⟩ : ∃ z, z = x / v3 := ⟨_, rfl⟩; have HX := hide (show dimX 5 v3 v4 x = z by rw [hz']; rfl); rw [<- hz'] at p2 d0 d1; have q0 : ¬ v3 = 0 := by omega
   clear c5 c6 hz'; go_enter Tryz.func49, Tryz.ntmps49; go_wp2; go_ret; exact ⟨xq7 HX.out.symm, sA⟩
 by_cases h6 : op = 6
 . subst h6
   obtain ⟨k0, k2, s0, s2⟩ := c6 rfl; have sA := sal w (.cells #[.int .i64 6, .int .i64 v1, .int .i64 v2, .int .i64 v3, .int .i64 v4, .slice a1 nv k1] 84); have nA := Box6.new w (.int .i64 6) (.int .i64 v1) (.int .i64 v2) (.int .i64 v3) (.int .i64 v4) (.slice a1 nv k1) 84; clear c5 c6; go_enter Tryz.func49, Tryz.ntmps49; go_wp2_with fail; generalize w.alloc (.cells #[.int .i64 6, .int .i64 v1, .int .i64 v2, .int .i64 v3, .int .i64 v4, .slice a1 nv k1] 84) = wA at *
   go_loopw [5, 6] (fun c i wr => ∃ k : Nat, k <= 1000 /\ c = .int .i64 k /\ i = .int .i64 k /\ wr = wA /\ (0 < k -> ((k : Int) - 1) * v4 + v3 <= x)) (fun _ i _ => 1001 - (intOf i).toNat)
   case atStart => exact ⟨0, by omega, rfl, rfl, rfl, fun h => absurd h (by omega)⟩
   case round =>
    obtain ⟨k, hk, rfl, rfl, rfl, hb⟩ := hrel; have g3 := nA.c3; have g4 := nA.c4; have m0 : 0 <= (k : Int) * v4 := Int.mul_nonneg (by omega) (by omega); have m1 : (k : Int) * v4 <= 1000 * 1000 := Int.mul_le_mul (by omega) (by omega) (by omega) (by omega); have m2 : ((k : Int) - 1) * v4 = (k : Int) * v4 - v4 := by rw [Int.sub_mul, Int.one_mul]
    have m3 : (k : Int) <= (k : Int) * v4 := by
     have := Int.mul_le_mul_of_nonneg_left s0 (show 0 <= (k : Int) by omega); omega
    obtain ⟨t, ht⟩ : ∃ t, t = (k : Int) * v4 := ⟨_, rfl⟩; rw [<- ht] at m0 m1 m2 m3; rw [m2] at hb; have HT := hide ht; have e1 : (k : Int) * v4 = t := ht.symm; clear ht m2
    by_cases hlt : t + v3 <= x
    . go_wp2
      go_roundw
      case rel => exact ⟨k + 1, by omega, by go_num, by go_num, (by first | rfl | trivial), fun _ => by rw [show (((k + 1 : Nat) : Int) - 1) = (k : Int) by omega, <- HT.out]; exact hlt⟩
      case measure => simp [intOf]; omega
    . have kp : 0 < k := by
       rcases Nat.eq_zero_or_pos k with e | e
       . subst e
         exfalso
         have : t = 0 := by rw [HT.out]; simp
         omega
       . exact e
      have hb' := hb kp
      have ee : (x - v3) / v4 = (k : Int) - 1 := by
       rw [Int.ediv_eq_iff_of_pos (by omega)]; rw [Int.sub_mul, Int.one_mul, <- HT.out]
       constructor <;> omega
      have HX := hide (show dimX 6 v3 v4 x = (k : Int) by unfold dimX; rw [if_neg (by decide), if_neg (by decide), if_pos rfl, ee]; omega); clear ee; go_wp2; go_ret; exact ⟨xq7 HX.out.symm, sA⟩
 have sA := sal w (.cells #[.int .i64 op, .int .i64 v1, .int .i64 v2, .int .i64 v3, .int .i64 v4, .slice a1 nv k1] 84); have HX := hide (show dimX op v3 v4 x = x by unfold dimX; rw [if_neg h1, if_neg h5, if_neg h6]); clear c5 c6; go_enter Tryz.func49, Tryz.ntmps49; go_wp2; go_ret; exact ⟨xq7 HX.out.symm, sA⟩
theorem reluVector (v0 v2 v3 v4 : Int) (j : Nat) (a1 : Option Addr) (nv k1 : Nat) (aV : Option Addr) (bV oV n cV m : Nat) (D : Nat -> Nat) (V : Nat -> Nat -> Rat) (w : World) (p : Nat -> Prop) (hp : ∀ g, w.heap.size <= g -> p g) (HV : Vecs w p aV bV oV n D V) (hj : j < n) (ej : D j = m) (hm : m <= 1048576) :
 Calls Tryz.prog 196 #[.agg #[.int .i64 v0, .int .i64 (j : Int), .int .i64 v2, .int .i64 v3, .int .i64 v4, .slice a1 nv k1], .slice aV n cV] w fun e w' => ∃ c, e = .returned (.slice (some ⟨c, 0, none⟩) m m) /\ w.heap.size <= c /\ xj5 w' (fun g => g ≠ c /\ p g) (some ⟨c, 0, none⟩) c 0 m (fun e => qrelu (V j e)) /\ w.Since w.heap.size w' := by
 have sA := sal w (.cells #[.int .i64 v0, .int .i64 (j : Int), .int .i64 v2, .int .i64 v3, .int .i64 v4, .slice a1 nv k1] 135); obtain ⟨eV, aj, bj, oj, cj, gj0, hcj, QJ⟩ := HV j hj; subst eV; rw [ej] at gj0 hcj QJ; have gj := (sA.cell (a := ⟨bV, oV + j, none⟩) (World.block_lt_of_cell? _ _ gj0)).trans gj0; have hz1 : (j : Int) < (n : Int) := by omega
 go_enter Tryz.func196, Tryz.ntmps196; go_wp2_with fail; generalize w.alloc (.cells #[.int .i64 v0, .int .i64 (j : Int), .int .i64 v2, .int .i64 v3, .int .i64 v4, .slice a1 nv k1] 135) = wA at *; have hA : ∀ g, wA.heap.size <= g -> p g := fun g hg => hp g (by have := sA.size; omega)
 refine (rectified_any aj bj oj m cj (V j) wA p hA hm (QJ.keep sA)).mono ?_; rintro e w1 ⟨c, rfl, lc, Q1, s1⟩; have z1 := sA.size; go_wp2; go_ret; exact ⟨c, rfl, by omega, Q1, sA.trans (sM s1 sA.size)⟩
theorem leakyVector (v0 v2 v3 v4 : Int) (j : Nat) (a1 : Option Addr) (k1 bW oW : Nat) (W : Nat -> Rat) (aV : Option Addr) (bV oV n cV m : Nat) (D : Nat -> Nat) (V : Nat -> Nat -> Rat) (w : World) (p : Nat -> Prop) (hp : ∀ g, w.heap.size <= g -> p g) (hw : 0 <= w.heap.size) (hT : Tab w) (HW : xj5 w p a1 bW oW 1 W) (HV : Vecs w p aV bV oV n D V) (hj : j < n) (ej : D j = m) (hm : m <= 1048576)
 (qw : Qb (W 0) 1048640) (qj : ∀ e, e < m -> Qb (V j e) 1048640) :
 Calls Tryz.prog 199 #[.agg #[.int .i64 v0, .int .i64 (j : Int), .int .i64 v2, .int .i64 v3, .int .i64 v4, .slice a1 1 k1], .slice aV n cV] w fun e w' => ∃ c, e = .returned (.slice (some ⟨c, 0, none⟩) m m) /\ w.heap.size <= c /\ xj5 w' (fun g => g ≠ c /\ p g) (some ⟨c, 0, none⟩) c 0 m (fun e => if qn (V j e) = true then W 0 * V j e else V j e) /\ w.Since w.heap.size w' := by
 have hmk := xz8 (P := Tryz.prog) 28 70 _ 3 56 Tryz.underlying28 yq0 .i64 .i64 m (by omega) (by omega); obtain ⟨eW, xw, yw, CW⟩ := HW 0 (by omega); subst eW; obtain ⟨aw, nw, cw, bw, mw, dw, -, -, -, -, -, -, ew, -⟩ := CW.R; simp only [Value.agg.injEq, Array.mk.injEq, List.cons.injEq, and_true, true_and] at ew; obtain ⟨rfl, rfl⟩ := ew; rw [Nat.zero_mul, Nat.add_zero] at CW; have sA := sal w (.cells #[.int .i64 v0, .int .i64 (j : Int), .int .i64 v2, .int .i64 v3, .int .i64 v4, .slice (some ⟨bW, oW, none⟩) 1 k1] 136); have zA : (w.alloc (.cells #[.int .i64 v0, .int .i64 (j : Int), .int .i64 v2, .int .i64 v3, .int .i64 v4, .slice (some ⟨bW, oW, none⟩) 1 k1] 136)).heap.size = w.heap.size + 1 := by simp
 have bA := Box6.new w (.int .i64 v0) (.int .i64 (j : Int)) (.int .i64 v2) (.int .i64 v3) (.int .i64 v4) (.slice (some ⟨bW, oW, none⟩) 1 k1) 136; obtain ⟨eV, aj, bj, oj, cj, gj0, hcj, QJ⟩ := HV j hj; subst eV; rw [ej] at gj0 hcj QJ; have gj := (sA.cell (a := ⟨bV, oV + j, none⟩) (World.block_lt_of_cell? _ _ gj0)).trans gj0; have hz1 : (j : Int) < (n : Int) := by omega
 have sB : (w.alloc (.cells #[.int .i64 v0, .int .i64 (j : Int), .int .i64 v2, .int .i64 v3, .int .i64 v4, .slice (some ⟨bW, oW, none⟩) 1 k1] 136)).Since (w.alloc (.cells #[.int .i64 v0, .int .i64 (j : Int), .int .i64 v2, .int .i64 v3, .int .i64 v4, .slice (some ⟨bW, oW, none⟩) 1 k1] 136)).heap.size ((w.alloc (.cells #[.int .i64 v0, .int .i64 (j : Int), .int .i64 v2, .int .i64 v3, .int .i64 v4, .slice (some ⟨bW, oW, none⟩) 1 k1] 136)).alloc (.cells (madeCells #[.bool false, .slice none 0 0, .slice none 0 0] (m * 3)) 70)) := (World.Since.refl _ _).alloc (Nat.le_refl _) _; have rB := Room.new (w.alloc (.cells #[.int .i64 v0, .int .i64 (j : Int), .int .i64 v2, .int .i64 v3, .int .i64 v4, .slice (some ⟨bW, oW, none⟩) 1 k1] 136)) #[.bool false, .slice none 0 0, .slice none 0 0] (m * 3) 70; rw [zA] at rB; have BB := bA.keep sB; have SB := sA.trans (sM sB sA.size); go_enter Tryz.func199, Tryz.ntmps199; go_wp2_with fail; generalize (w.alloc (.cells #[.int .i64 v0, .int .i64 (j : Int), .int .i64 v2, .int .i64 v3, .int .i64 v4, .slice (some ⟨bW, oW, none⟩) 1 k1] 136)).alloc (.cells (madeCells #[.bool false, .slice none 0 0, .slice none 0 0] (m * 3)) 70) = wB at *; clear sB gj bA
 go_loopw [19] (fun u wr => ∃ k : Nat, k <= m /\ u = .int .i64 k /\ w.Since w.heap.size wr /\ Box6 wr w.heap.size (.int .i64 v0) (.int .i64 (j : Int)) (.int .i64 v2) (.int .i64 v3) (.int .i64 v4) (.slice (some ⟨bW, oW, none⟩) 1 k1) /\ Room wr (w.heap.size + 1) (m * 3) /\ xj5 wr (fun g => g ≠ w.heap.size + 1 /\ p g) (some ⟨w.heap.size + 1, 0, none⟩) (w.heap.size + 1) 0 k (fun e => if qn (V j e) = true then W 0 * V j e else V j e)) (fun u _ => m - (intOf u).toNat)
 case atStart => exact ⟨0, Nat.zero_le _, rfl, SB, BB, rB, fun i hi => absurd hi (by omega)⟩
 case round =>
  obtain ⟨k, hk, rfl, s, B, r, T⟩ := hrel
  by_cases hlt : k < m
  . obtain ⟨e1, x1, y1, C1⟩ := QJ k hlt
    subst e1; have hz : (k : Int) < (m : Int) := by omega
    obtain ⟨aa, na, ca, ba, ma, da, -, -, -, -, -, -, ea, -⟩ := C1.R; simp only [Value.agg.injEq, Array.mk.injEq, List.cons.injEq, and_true, true_and] at ea; obtain ⟨rfl, rfl⟩ := ea; have g0 := (C1.keep s).c0; have g1 := (C1.keep s).c1; have g2 := (C1.keep s).c2; have l1 := C1.lt; have l2 := CW.lt; have rl := r.lt; cases hq : qn (V j k)
    . have HQ := hide hq
      rw [hq] at g0; obtain ⟨v0', u0⟩ := r.cell (k * 3) (by omega); obtain ⟨v1', u1⟩ := r.cell (k * 3 + 1) (by omega); obtain ⟨v2', u2⟩ := r.cell (k * 3 + 2) (by omega); have f0 := r.f (k * 3); have f1 := r.f (k * 3 + 1); have f2 := r.f (k * 3 + 2); clear hq; go_wp2; go_roundw
      case rel =>
       go_light; obtain ⟨w3, e3, M3, R3, x0, x1, x2, xo⟩ := put3 (q := k * 3) r (by omega) (.bool false) (.slice aa na ca) (.slice ba ma da); rw [<- e3]; have e : (if qn (V j k) = true then W 0 * V j k else V j k) = V j k := by rw [if_neg (by rw [HQ.out]; decide)]
       refine ⟨k + 1, by omega, by go_num, s.trans (M3.since (by omega)), B.marked M3 (by omega), R3, T.putP M3 (fun o ho => xo o (by omega)) ?_ ?_ x1 x2⟩
       . rw [e]; exact (C1.R.imp (p' := fun g => g ≠ w.heap.size + 1 /\ p g) (fun g hg hx => ⟨by omega, hx⟩)).keep s
       . rw [e, HQ.out]; exact x0
      case measure => simp [intOf]; omega
    . have HQ := hide hq
      rw [hq] at g0; have dr := sdr wr; have sd := s.trans (sM dr s.size); have J1 := yv7 (Nat.zero_le _) (hT.stay hw sd) qw (qj k hlt) (by omega) (CW.keep sd).R.read (C1.keep sd).R.read; rw [hq] at J1; have h0 := (CW.keep s).c0; have h1 := (CW.keep s).c1; have h2 := (CW.keep s).c2; have p5 := B.c5; have ne1 : w.heap.size + 1 ≠ bj := by omega
      have ne2 : w.heap.size + 1 ≠ bW := by omega
      have ne3 : w.heap.size + 1 ≠ w.heap.size := by omega
      clear hq; go_wp2_with fail
      go_region_held3 (fun w' => w'.cell? ⟨w.heap.size, 5, none⟩ = some (.slice (some ⟨bW, oW, none⟩) 1 k1) /\ w'.cell? ⟨bj, oj + k * 3, none⟩ = some (.bool true) /\ w'.cell? ⟨bj, oj + k * 3 + 1, none⟩ = some (.slice aa na ca) /\ w'.cell? ⟨bj, oj + k * 3 + 2, none⟩ = some (.slice ba ma da) /\ w'.cell? ⟨bW, oW, none⟩ = some (.bool (qn (W 0))) /\ w'.cell? ⟨bW, oW + 1, none⟩ = some (.slice aw nw cw) /\ w'.cell? ⟨bW, oW + 2, none⟩ = some (.slice bw mw dw)) (go_keep)
       (first
         | (go_at_call 142
            with_reducible refine J1.mono ?_
            rintro e w5 ⟨u5, rfl, R5, s5⟩; have R6 := R5; obtain ⟨a6, n6, c6, b6, m6, d6, -, -, -, -, -, -, e6, -⟩ := R6; subst e6; have u5 := dr.trans (sM s5 dr.size); have S5 := s.trans (sM u5 s.size); have r5 := r.keep u5; have i5 := (B.keep u5).c5; have i0 := (C1.keep S5).c0; rw [HQ.out] at i0; have i1 := (C1.keep S5).c1; have i2 := (C1.keep S5).c2; have j0 := (CW.keep S5).c0; have j1 := (CW.keep S5).c1; have j2 := (CW.keep S5).c2; obtain ⟨v0', y0'⟩ := r5.cell (k * 3) (by omega); obtain ⟨v1', y1'⟩ := r5.cell (k * 3 + 1) (by omega); obtain ⟨v2', y2'⟩ := r5.cell (k * 3 + 2) (by omega); have f0 := r5.f (k * 3); have f1 := r5.f (k * 3 + 1); have f2 := r5.f (k * 3 + 2)))
      all_goals go_wp2
      all_goals go_roundw
      case rel =>
       go_light; obtain ⟨w7, e7, M7, R7, x0, x1, x2, xo⟩ := put3 (q := k * 3) r5 (by omega) (.bool (qn (W 0 * V j k))) (.slice a6 n6 c6) (.slice b6 m6 d6); rw [<- e7]; have e : (if qn (V j k) = true then W 0 * V j k else V j k) = W 0 * V j k := by rw [if_pos HQ.out]
       refine ⟨k + 1, by omega, by go_num, S5.trans (M7.since (by omega)), (B.keep u5).marked M7 (by omega), R7, (T.keep u5).putP M7 (fun o ho => xo o (by omega)) ?_ ?_ x1 x2⟩
       . rw [e]; exact R5.imp (fun g _ hg => by have hg' : wr.drew.heap.size <= g := hg; have : wr.drew.heap.size = wr.heap.size := rfl; exact ⟨by omega, hp g (by have := s.size; omega)⟩)
       . rw [e]; exact x0
      case measure => simp [intOf]; omega
  . have e : k = m := by omega
    subst e; go_wp2; go_ret; exact ⟨w.heap.size + 1, rfl, by omega, T, s⟩
theorem convVector (v0 v2 : Int) (j m l kk ss : Nat) (bW oW nv k1 : Nat) (W : Nat -> Rat) (aV : Option Addr) (bV oV n cV : Nat) (D : Nat -> Nat) (V : Nat -> Nat -> Rat) (w : World) (p : Nat -> Prop) (hp : ∀ g, w.heap.size <= g -> p g) (hw : 0 <= w.heap.size) (hT : Tab w) (HW : xj5 w p (some ⟨bW, oW, none⟩) bW oW nv W) (hk1 : nv <= k1) (HV : Vecs w p aV bV oV n D V) (hj : j < n) (ej : D j = l) (hm : 1 <= m) (hm2 : m <= 1000) (hl : l <= 1000) (hkk : 1 <= kk) (hkl : kk <= l) (hss : 1 <= ss) (hss2 : ss <= 1000) (hnv : nv = kk + 1) (hmd : ((l : Int) - (kk : Int)) / (ss : Int) + 1 = (m : Int)) (hcov : ∀ r, r < m -> r * ss + kk <= l)
 (qw : ∀ e, e < nv -> Qb (W e) 1048640) (qj : ∀ e, e < l -> Qb (V j e) 1048640) (qs : ∀ r, r < m -> ∀ k, k <= kk -> Qb (psum (W kk) W (fun t => V j (r * ss + t)) k) 1048640) :
 Calls Tryz.prog 209 #[.agg #[.int .i64 v0, .int .i64 (j : Int), .int .i64 v2, .int .i64 (kk : Int), .int .i64 (ss : Int), .slice (some ⟨bW, oW, none⟩) nv k1], .slice aV n cV] w fun e w' => ∃ c, e = .returned (.slice (some ⟨c, 0, none⟩) m m) /\ w.heap.size <= c /\ xj5 w' (fun g => g ≠ c /\ p g) (some ⟨c, 0, none⟩) c 0 m (fun r => psum (W kk) W (fun t => V j (r * ss + t)) kk) /\ w.Since w.heap.size w' := by
 have hmk := xz8 (P := Tryz.prog) 28 70 _ 3 56 Tryz.underlying28 yq0 .i64 .i64 m (by omega) (by omega); have sA := sal w (.cells #[.int .i64 v0, .int .i64 (j : Int), .int .i64 v2, .int .i64 (kk : Int), .int .i64 (ss : Int), .slice (some ⟨bW, oW, none⟩) nv k1] 139); have zA : (w.alloc (.cells #[.int .i64 v0, .int .i64 (j : Int), .int .i64 v2, .int .i64 (kk : Int), .int .i64 (ss : Int), .slice (some ⟨bW, oW, none⟩) nv k1] 139)).heap.size = w.heap.size + 1 := by simp
 have bA := Box6.new w (.int .i64 v0) (.int .i64 (j : Int)) (.int .i64 v2) (.int .i64 (kk : Int)) (.int .i64 (ss : Int)) (.slice (some ⟨bW, oW, none⟩) nv k1) 139; obtain ⟨eV, aj, bj, oj, cj, gj0, hcj, QJ⟩ := HV j hj; subst eV; rw [ej] at gj0 hcj QJ; have gj := (sA.cell (a := ⟨bV, oV + j, none⟩) (World.block_lt_of_cell? _ _ gj0)).trans gj0; have hz1 : (j : Int) < (n : Int) := by omega
 have sB : (w.alloc (.cells #[.int .i64 v0, .int .i64 (j : Int), .int .i64 v2, .int .i64 (kk : Int), .int .i64 (ss : Int), .slice (some ⟨bW, oW, none⟩) nv k1] 139)).Since (w.alloc (.cells #[.int .i64 v0, .int .i64 (j : Int), .int .i64 v2, .int .i64 (kk : Int), .int .i64 (ss : Int), .slice (some ⟨bW, oW, none⟩) nv k1] 139)).heap.size ((w.alloc (.cells #[.int .i64 v0, .int .i64 (j : Int), .int .i64 v2, .int .i64 (kk : Int), .int .i64 (ss : Int), .slice (some ⟨bW, oW, none⟩) nv k1] 139)).alloc (.cells (madeCells #[.bool false, .slice none 0 0, .slice none 0 0] (m * 3)) 70)) := (World.Since.refl _ _).alloc (Nat.le_refl _) _; have rB := Room.new (w.alloc (.cells #[.int .i64 v0, .int .i64 (j : Int), .int .i64 v2, .int .i64 (kk : Int), .int .i64 (ss : Int), .slice (some ⟨bW, oW, none⟩) nv k1] 139)) #[.bool false, .slice none 0 0, .slice none 0 0] (m * 3) 70; rw [zA] at rB; have BB := bA.keep sB; have SB := sA.trans (sM sB sA.size); have p2 : ((l : Int) - (kk : Int)).tdiv (ss : Int) = (m : Int) - 1 := by rw [Int.tdiv_eq_ediv_of_nonneg (by omega)]; omega
 have q0 : ¬ (ss : Int) = 0 := by omega
 have em : (m : Int) - 1 + 1 = (m : Int) := by omega
 have hnv1 : kk < nv := by omega
 clear hnv; have HMD := hide hmd; clear hmd; go_enter Tryz.func209, Tryz.ntmps209; go_wp2_with fail; generalize (w.alloc (.cells #[.int .i64 v0, .int .i64 (j : Int), .int .i64 v2, .int .i64 (kk : Int), .int .i64 (ss : Int), .slice (some ⟨bW, oW, none⟩) nv k1] 139)).alloc (.cells (madeCells #[.bool false, .slice none 0 0, .slice none 0 0] (m * 3)) 70) = wB at *; clear sB gj bA
 go_loopw [28] (fun u wr => ∃ k : Nat, k <= m /\ u = .int .i64 k /\ w.Since w.heap.size wr /\ Box6 wr w.heap.size (.int .i64 v0) (.int .i64 (j : Int)) (.int .i64 v2) (.int .i64 (kk : Int)) (.int .i64 (ss : Int)) (.slice (some ⟨bW, oW, none⟩) nv k1) /\ Room wr (w.heap.size + 1) (m * 3) /\ xj5 wr (fun g => g ≠ w.heap.size + 1 /\ p g) (some ⟨w.heap.size + 1, 0, none⟩) (w.heap.size + 1) 0 k (fun r => psum (W kk) W (fun t => V j (r * ss + t)) kk)) (fun u _ => m - (intOf u).toNat)
 case atStart => exact ⟨0, Nat.zero_le _, rfl, SB, BB, rB, fun i hi => absurd hi (by omega)⟩
 case round =>
  obtain ⟨k, hk, rfl, s, B, r, T⟩ := hrel
  by_cases hlt : k < m
  . obtain ⟨F, hF⟩ : ∃ F, F = k * ss := ⟨_, rfl⟩
    have hFl : F + kk <= l := by rw [hF]; exact hcov k hlt
    have eF : (k : Int) * (ss : Int) = (F : Int) := by rw [hF, Int.natCast_mul]
    have HF := hide hF; clear hF; have qF : IntKind.i64.wrap ((k : Int) * (ss : Int)) = (F : Int) := by rw [eF]; exact xw9 (by omega) (by omega)
    clear eF; obtain ⟨ea0, -⟩ := QJ 0 (by omega); subst ea0; obtain ⟨-, xb, yb, CB⟩ := HW kk (by omega); obtain ⟨aa, na, ca, ba, ma, da, -, -, -, -, -, -, ea, -⟩ := CB.R; simp only [Value.agg.injEq, Array.mk.injEq, List.cons.injEq, and_true, true_and] at ea; obtain ⟨rfl, rfl⟩ := ea; have hz : (k : Int) < (m : Int) := by omega
    have p3 := B.c3; have p4 := B.c4; have p5 := B.c5; have l1 := CB.lt; have rl := r.lt; have f1 : (F : Int) <= (l : Int) := by omega
    have f2 : (F : Int) <= (cj : Int) := by omega
    have f3 : (l : Int) <= (cj : Int) := by omega
    have f4 : ¬ (cj : Int) - (F : Int) = 0 := by omega
    have f5 : (kk : Int) < (nv : Int) := by omega
    have f6 : (kk : Int) <= (k1 : Int) := by omega
    have f7 : ¬ cj - F = 0 := by omega
    have fb : ¬ cj = F := by omega
    have f8 : ¬ (k1 : Int) = 0 := by omega
    have f9 : ¬ k1 = 0 := by omega
    have fa : (0 : Int) <= (F : Int) := by omega
    have dr := sdr wr; have sd := s.trans (sM dr s.size); have g0 := (CB.keep s).c0; have g1 := (CB.keep s).c1; have g2 := (CB.keep s).c2; have ne1 : w.heap.size + 1 ≠ bW := by omega
    have ne2 : w.heap.size + 1 ≠ w.heap.size := by omega
    have J1 := weighedSum_any (K := 1048640) (fun g => g ≠ w.heap.size + 1 /\ p g) (W kk) (.slice aa na ca) (.slice ba ma da) (some ⟨bW, oW, none⟩) (some ⟨bj, oj + F * 3, none⟩) bW oW kk k1 bj (oj + F * 3) (l - F) (cj - F) W (fun t => V j (F + t)) wr.drew (Nat.zero_le _) (hT.stay hw sd) (fun g hg => by have : wr.drew.heap.size = wr.heap.size := rfl; exact ⟨by omega, hp g (by have := s.size; omega)⟩)
     ((CB.R.imp (p' := fun g => g ≠ w.heap.size + 1 /\ p g) (fun g hg hx => ⟨by omega, hx⟩)).keep sd) ((xj5.imp (p' := fun _ => True) (fun i hi => HW i (by omega)) (fun _ _ _ => trivial)).keep sd) (((QJ.part (F := F) (k := l - F) (by omega)).imp (fun _ _ _ => trivial)).keep sd) (by omega) (by omega)
     (fun t ht => by have := qs k hlt t ht; rw [<- HF.out] at this; exact this) (fun t ht => qw _ (by omega)) (fun t ht => qj _ (by omega))
    go_wp2_with fail
    go_region_held3 (fun w' => w'.cell? ⟨w.heap.size, 3, none⟩ = some (.int .i64 (kk : Int)) /\ w'.cell? ⟨w.heap.size, 4, none⟩ = some (.int .i64 (ss : Int)) /\ w'.cell? ⟨w.heap.size, 5, none⟩ = some (.slice (some ⟨bW, oW, none⟩) nv k1) /\ w'.cell? ⟨bW, oW + kk * 3, none⟩ = some (.bool (qn (W kk))) /\ w'.cell? ⟨bW, oW + kk * 3 + 1, none⟩ = some (.slice aa na ca) /\ w'.cell? ⟨bW, oW + kk * 3 + 2, none⟩ = some (.slice ba ma da)) (go_keep)
     (first
       | (go_at_call 73
          with_reducible refine J1.mono ?_
          rintro e w5 ⟨x5, y5, rfl, R5, s5⟩; have R6 := R5; obtain ⟨a6, n6, c6, b6, m6, d6, -, -, -, -, -, -, e6, -⟩ := R6; simp only [Value.agg.injEq, Array.mk.injEq, List.cons.injEq, and_true, true_and] at e6; obtain ⟨rfl, rfl⟩ := e6; have u5 := dr.trans (sM s5 dr.size); have S5 := s.trans (sM u5 s.size); have r5 := r.keep u5; have B5 := B.keep u5; have i3 := B5.c3; have i4 := B5.c4; have i5 := B5.c5; have i0 := (CB.keep S5).c0; have i1 := (CB.keep S5).c1; have i2 := (CB.keep S5).c2; obtain ⟨v0', y0'⟩ := r5.cell (k * 3) (by omega); obtain ⟨v1', y1'⟩ := r5.cell (k * 3 + 1) (by omega); obtain ⟨v2', y2'⟩ := r5.cell (k * 3 + 2) (by omega); have h0 := r5.f (k * 3); have h1 := r5.f (k * 3 + 1); have h2 := r5.f (k * 3 + 2)))
    all_goals go_wp2
    all_goals go_roundw
    case rel =>
     go_light; obtain ⟨w7, e7, M7, R7, x0, x1, x2, xo⟩ := put3 (q := k * 3) r5 (by omega) (.bool (qn (psum (W kk) W (fun t => V j (F + t)) kk))) (.slice a6 n6 c6) (.slice b6 m6 d6); rw [<- e7]; rw [HF.out] at R5 x0; exact ⟨k + 1, by omega, by go_num, S5.trans (M7.since (by omega)), (B.keep u5).marked M7 (by omega), R7, (T.keep u5).putP M7 (fun o ho => xo o (by omega)) R5 x0 x1 x2⟩
    case measure => simp [intOf]; omega
  . have e : k = m := by omega
    subst e; go_wp2; go_ret; exact ⟨w.heap.size + 1, rfl, by omega, T, s⟩
theorem OwnE.keep {w w' : World} {lo hi b off : Nat} {f : Bool} {g h : Nat} {a1 : Option Addr} {n1 k1 : Nat} {a2 : Option Addr} {n2 k2 : Nat} {X Y : Nat -> Nat} (r : OwnE w lo hi b off f g h a1 n1 k1 a2 n2 k2 X Y) (s : w.Since w.heap.size w') : OwnE w' lo hi b off f g h a1 n1 k1 a2 n2 k2 X Y := by
 have lt : b < w.heap.size := World.block_lt_of_cell? _ _ r.c0
 exact ⟨(s.cell (a := ⟨b, off, none⟩) lt).trans r.c0, (s.cell (a := ⟨b, off + 1, none⟩) lt).trans r.c1, (s.cell (a := ⟨b, off + 2, none⟩) lt).trans r.c2, r.L1.keep s, r.L2.keep s, r.s1, r.s2,
  fun h0 => ⟨(r.lg h0).1, (r.lg h0).2.1, fun o => by rw [s.frozen (a := ⟨g, o, none⟩) (r.L1.lt h0)]; exact (r.lg h0).2.2 o⟩,
  fun h0 => ⟨(r.lh h0).1, (r.lh h0).2.1, fun o => by rw [s.frozen (a := ⟨h, o, none⟩) (r.L2.lt h0)]; exact (r.lh h0).2.2 o⟩, r.ne⟩
theorem OwnFrom.keep {w w' : World} {b k n : Nat} {E : Nat -> Nat} (H : OwnFrom w b k n E) (s : w.Since w.heap.size w') : OwnFrom w' b k n E := fun i h1 h2 => by
 obtain ⟨f, g, h, a1, n1, k1, a2, n2, k2, X, Y, r⟩ := H i h1 h2; exact ⟨f, g, h, a1, n1, k1, a2, n2, k2, X, Y, r.keep s⟩
structure OwnK (w : World) (c k : Nat) (E : Nat -> Nat) : Prop where
 lo : c < E 0
 mono : ∀ i, i < k -> E i <= E (i + 1)
 hi : E k <= w.heap.size
 own : OwnFrom w c 0 k E
theorem OwnK.keep {w w' : World} {c k : Nat} {E : Nat -> Nat} (H : OwnK w c k E) (s : w.Since w.heap.size w') : OwnK w' c k E :=
 ⟨H.lo, H.mono, Nat.le_trans H.hi s.size, H.own.keep s⟩
theorem OwnK.put {w w' : World} {c k B n1 n2 g h : Nat} {f : Bool} {E X Y : Nat -> Nat} (H : OwnK w c k E) (hB : E k <= B) (M : xq0 w w' c) (hc : ∀ o, o < k * 3 -> w'.cell? ⟨c, o, none⟩ = w.cell? ⟨c, o, none⟩)
 (c0 : w'.cell? ⟨c, k * 3, none⟩ = some (.bool f)) (c1 : w'.cell? ⟨c, k * 3 + 1, none⟩ = some (.slice (some ⟨g, 0, none⟩) n1 n1)) (c2 : w'.cell? ⟨c, k * 3 + 2, none⟩ = some (.slice (some ⟨h, 0, none⟩) n2 n2))
 (L1 : xq2 w (some ⟨g, 0, none⟩) g 0 n1 X) (L2 : xq2 w (some ⟨h, 0, none⟩) h 0 n2 Y) (s1 : n1 <= 4194304) (s2 : n2 <= 4194304) (l1 : B <= g) (l2 : g < h) (l3 : h < w.heap.size)
 (f1 : ∀ o, w.frozen? ⟨g, o, none⟩ = false) (f2 : ∀ o, w.frozen? ⟨h, o, none⟩ = false) : OwnK w' c (k + 1) (fun i => if i <= k then E i else w.heap.size) := by
 have b1 : c < E k := Nat.lt_of_lt_of_le H.lo (xk0 H.mono (Nat.zero_le _) (Nat.le_refl _)); refine ⟨by simpa using H.lo, fun i hi => ?_, ?_, fun i _ hi => ?_⟩
 . by_cases e : i = k
   . subst e
     simp only [Nat.le_refl, if_true, show ¬ i + 1 <= i by omega, if_false]; exact H.hi
   . simp only [show i <= k by omega, show i + 1 <= k by omega, if_true]
     exact H.mono i (by omega)
 . simp only [show ¬ k + 1 <= k by omega, if_false]
   rw [M.size]; exact Nat.le_refl _
 . by_cases e : i = k
   . subst e
     simp only [Nat.le_refl, if_true, show ¬ i + 1 <= i by omega, if_false]; exact ⟨f, g, h, _, n1, n1, _, n2, n2, X, Y, c0, c1, c2, L1.marked M (fun _ => by omega), L2.marked M (fun _ => by omega), s1, s2, fun _ => ⟨by omega, by omega, fun o => by rw [M.fr.frozen]; exact f1 o⟩, fun _ => ⟨by omega, by omega, fun o => by rw [M.fr.frozen]; exact f2 o⟩, fun _ _ => by omega⟩
   . simp only [show i <= k by omega, show i + 1 <= k by omega, if_true]
     obtain ⟨f', g', h', a1', n1', k1', a2', n2', k2', X', Y', r'⟩ := H.own i (Nat.zero_le _) (by omega); have := xk0 H.mono (Nat.zero_le i) (show i <= k by omega); have := H.lo; exact ⟨f', g', h', a1', n1', k1', a2', n2', k2', X', Y', r'.frame M.fr (fun c h1 h2 h3 => by omega) (fun o h1 h2 => hc o (by omega))⟩
structure OwnL (w : World) (lo hi c n : Nat) : Prop where
 ex : ∃ E : Nat -> Nat, lo <= c /\ c < E 0 /\ (∀ i, i < n -> E i <= E (i + 1)) /\ E n <= hi /\ OwnFrom w c 0 n E
 f : ∀ o, w.frozen? ⟨c, o, none⟩ = false
 lt : c < w.heap.size
theorem yj7 (a : Option Addr) (lo b off n cap : Nat) (R : Nat -> RatD) (w : World) (hn : n <= 1048576) (hs : szR R n <= 1048576) (H : Rats w lo a b off n R) :
 Calls Tryz.prog 10 #[.slice a n cap] w fun e w' => ∃ c, e = .returned (.slice (some ⟨c, 0, none⟩) n n) /\ w.heap.size <= c /\ c < w'.heap.size /\ OwnL w' w.heap.size w'.heap.size c n /\ Rats w' (c + 1) (some ⟨c, 0, none⟩) c 0 n R /\ w.Since w.heap.size w' := by
 have hmk := xz8 (P := Tryz.prog) 28 70 _ 3 56 Tryz.underlying28 yq0 .i64 .i64 n (by omega) (by omega); have sA := sal w (.cells (madeCells #[.bool false, .slice none 0 0, .slice none 0 0] (n * 3)) 70); have rA := Room.new w #[.bool false, .slice none 0 0, .slice none 0 0] (n * 3) 70; go_enter Tryz.func10, Tryz.ntmps10; go_wp2
 go_loopw [4] (fun i wr => ∃ (k : Nat) (E : Nat -> Nat), OwnK wr w.heap.size k E /\ k <= n /\ i = .int .i64 k /\ w.Since w.heap.size wr /\ Room wr w.heap.size (n * 3) /\ Rats wr (w.heap.size + 1) (some ⟨w.heap.size, 0, none⟩) w.heap.size 0 k R) (fun i _ => n - (intOf i).toNat)
 case atStart => exact ⟨0, fun _ => w.heap.size + 1, ⟨Nat.lt_succ_self _, fun i hi => absurd hi (by omega), by simp, fun i _ hi => absurd hi (by omega)⟩, Nat.zero_le _, rfl, sA, rA, fun i hi => absurd hi (by omega)⟩
 case round =>
  obtain ⟨k, E, ow, hk, rfl, s, r, T⟩ := hrel
  by_cases hlt : k < n
  . obtain ⟨rfl, a1, a2, k1, k2, M⟩ := H k hlt
    have M' := M.keep s; have g0 := M'.c0; have g1 := M'.c1; have g2 := M'.c2; have hz : (k : Int) < (n : Int) := by omega
    have hsz := szR_at (R := R) hlt; obtain ⟨ba, oa, -, LX⟩ := M'.L.LX; obtain ⟨bb, ob, -, LY⟩ := M'.L.LY; go_wp2_with fail; refine (toRat_any (R k).neg a1 a2 ba oa (R k).n k1 bb ob (R k).m k2 (R k).X (R k).Y wr (by omega) (by omega) LX LY).mono ?_; rintro e w2 ⟨g, h, rfl, s2, l1, l2, l3, LX2, LY2, fz1, fz2⟩; have r2 := r.keep s2; have T2 := T.keep s2; have S2 := s.trans (sM s2 s.size); obtain ⟨v0, u0⟩ := r2.cell (k * 3) (by omega); obtain ⟨v1, u1⟩ := r2.cell (k * 3 + 1) (by omega); obtain ⟨v2, u2⟩ := r2.cell (k * 3 + 2) (by omega); have f0 := r2.f (k * 3); have f1 := r2.f (k * 3 + 1); have f2 := r2.f (k * 3 + 2); have rl := r.lt; clear g0 g1 g2; go_wp2; go_roundw
    case rel =>
     go_light; obtain ⟨w3, e3, M3, R3, x0, x1, x2, xo⟩ := put3 (q := k * 3) r2 (by omega) (.bool (R k).neg) (.slice (some ⟨g, 0, none⟩) (R k).n (R k).n) (.slice (some ⟨h, 0, none⟩) (R k).m (R k).m); rw [<- e3]; exact ⟨k + 1, _, (ow.keep s2).put ow.hi M3 (fun o ho => xo o (by omega)) x0 x1 x2 LX2 LY2 (by omega) (by omega) l1 l2 l3 fz1 fz2, by omega, by go_num, S2.trans (M3.since (Nat.le_refl _)), R3, T2.put M3 (fun o ho => xo o (by omega)) ⟨Nat.le_refl _, Nat.le_refl _, (fun h => by cases h), (fun h => by cases h), ⟨g, 0, fun _ => by omega, LX2⟩, ⟨h, 0, fun _ => by omega, LY2⟩, M.L.lX, M.L.lY, M.L.n63, M.L.m63⟩ x0 x1 x2⟩
    case measure => simp [intOf]; omega
  . have e : k = n := by omega
    subst e; have rl := r.lt; go_wp2; go_ret; exact ⟨w.heap.size, rfl, Nat.le_refl _, rl, ⟨⟨E, Nat.le_refl _, ow.lo, ow.mono, ow.hi, ow.own⟩, r.f, rl⟩, T, s⟩
section
variable {w w' : World} {lo hi lo' hi' c n : Nat}
theorem OwnL.span (H : OwnL w lo hi c n) : lo <= c /\ c < hi := by
 obtain ⟨E, h1, h2, h3, h4, -⟩ := H.ex; have := xk0 h3 (Nat.zero_le n) (Nat.le_refl _); exact ⟨h1, by omega⟩
theorem OwnL.wide (H : OwnL w lo hi c n) (h1 : lo' <= lo) (h2 : hi <= hi') : OwnL w lo' hi' c n := by
 obtain ⟨E, a, b, e, d, o⟩ := H.ex; exact ⟨⟨E, by omega, b, e, by omega, o⟩, H.f, H.lt⟩
theorem OwnL.keep (H : OwnL w lo hi c n) (s : w.Since w.heap.size w') : OwnL w' lo hi c n := by
 obtain ⟨E, a, b, e, d, o⟩ := H.ex; exact ⟨⟨E, a, b, e, d, o.keep s⟩, fun o => by rw [s.frozen (a := ⟨c, o, none⟩) H.lt]; exact H.f o, Nat.lt_of_lt_of_le H.lt s.size⟩
theorem OwnL.frame {S : Nat -> Prop} (H : OwnL w lo hi c n) (F : Fra w w' S) (hS : ∀ k, lo <= k -> k < hi -> ¬ S k) : OwnL w' lo hi c n := by
 have sp := H.span; obtain ⟨E, a, b, e, d, o⟩ := H.ex; refine ⟨⟨E, a, b, e, d, fun i h1 h2 => ?_⟩, fun o => by rw [F.frozen]; exact H.f o, by rw [F.size]; exact H.lt⟩; obtain ⟨f', g', h', a1', n1', k1', a2', n2', k2', X', Y', r'⟩ := o i h1 h2; have x1 := xk0 e (Nat.zero_le i) (show i <= n by omega); have x2 := xk0 e (i := i + 1) (j := n) (by omega) (Nat.le_refl _); exact ⟨f', g', h', a1', n1', k1', a2', n2', k2', X', Y', r'.frame F (fun k h1 h2 => hS k (by omega) (by omega)) (fun o _ _ => F.cell (a := ⟨c, o, none⟩) (hS c sp.1 sp.2))⟩
end
theorem yx1 (lo hi c n cap k0 : Nat) (w : World) (hn : n <= 1048576) (hk0 : k0 <= 576460752303423488) (H : OwnL w lo hi c n) :
 Calls Tryz.prog 15 #[.slice (some ⟨c, 0, none⟩) n cap, .int .i64 k0] w fun e w' => ∃ k1 : Nat, k1 <= k0 + n * 8388609 /\ e = .returned (.int .i64 (k1 : Int)) /\ Fra w w' (fun k => lo <= k /\ k < hi) := by
 have sp := H.span; obtain ⟨E, a, b, e, d, o⟩ := H.ex; refine (markRatS_any _ c n cap E k0 w hn hk0 (fun _ => rfl) e b (fun _ => H.f) o).mono ?_; rintro e w' ⟨K, -, h2, rfl, F, -⟩; exact ⟨K n, h2, rfl, F.mono (fun k hk => by omega)⟩
theorem size_Node : (Tryz.prog.info? 84).map (·.size) = some 6 := by kernel_rfl
theorem size_Graph : (Tryz.prog.info? 50).map (·.size) = some 6 := by kernel_rfl
theorem info_Node : (Tryz.prog.info? 84).map (fun i => (i.zero, i.size, i.bytes)) = some (some (.agg #[.int .i64 0, .int .i64 0, .int .i64 0, .int .i64 0, .int .i64 0, .slice none 0 0]), 6, 64) := by kernel_rfl
theorem toNode_own (d : xq1) (a1 : Option Addr) (lo k1 : Nat) (w : World) (hd : d.size <= 1048576) (H : NodL w lo d a1 k1) :
 Calls Tryz.prog 84 #[.agg #[.int .i64 d.op, .int .i64 d.a, .int .i64 d.b, .int .i64 d.k, .int .i64 d.s, .slice a1 d.nv k1]] w fun e w' => ∃ g1, e = .returned (.agg #[.int .i64 d.op, .int .i64 d.a, .int .i64 d.b, .int .i64 d.k, .int .i64 d.s, .slice (some ⟨g1, 0, none⟩) d.nv d.nv]) /\ OwnL w' w.heap.size w'.heap.size g1 d.nv /\
  NodL w' w.heap.size d (some ⟨g1, 0, none⟩) d.nv /\ w.Since w.heap.size w' := by
 have ts := hd; unfold xq1.size at ts; obtain ⟨wA, eA⟩ : ∃ wA : World, wA = (((w.alloc (.cells #[.int .i64 d.op, .int .i64 d.a, .int .i64 d.b, .int .i64 d.k, .int .i64 d.s, .slice a1 d.nv k1] 122)).alloc (.cells #[.int .i64 0, .int .i64 0, .int .i64 0, .int .i64 0, .int .i64 0, .slice none 0 0] 84)).alloc (.cells #[.int .i64 d.op, .int .i64 d.a, .int .i64 d.b, .int .i64 d.k, .int .i64 d.s, .slice none 0 0] 84)) := ⟨_, rfl⟩; have sA : w.Since w.heap.size wA := by rw [eA]; exact (((World.Since.refl _ _).alloc (Nat.le_refl _) _).alloc (by simp) _).alloc (by simp; omega) _
 have zA : wA.heap.size = w.heap.size + 1 + 1 + 1 := by rw [eA]; simp
 have rA : Box6 wA (w.heap.size + 1) (.int .i64 0) (.int .i64 0) (.int .i64 0) (.int .i64 0) (.int .i64 0) (.slice none 0 0) := by
  rw [eA]; have := (Box6.new (w.alloc (.cells #[.int .i64 d.op, .int .i64 d.a, .int .i64 d.b, .int .i64 d.k, .int .i64 d.s, .slice a1 d.nv k1] 122)) (.int .i64 0) (.int .i64 0) (.int .i64 0) (.int .i64 0) (.int .i64 0) (.slice none 0 0) 84).keep ((World.Since.refl _ _).alloc (Nat.le_refl _) (.cells #[.int .i64 d.op, .int .i64 d.a, .int .i64 d.b, .int .i64 d.k, .int .i64 d.s, .slice none 0 0] 84))
  simpa using this
 have oA : Box6 wA (w.heap.size + 1 + 1) (.int .i64 d.op) (.int .i64 d.a) (.int .i64 d.b) (.int .i64 d.k) (.int .i64 d.s) (.slice none 0 0) := by
  rw [eA]; have := Box6.new ((w.alloc (.cells #[.int .i64 d.op, .int .i64 d.a, .int .i64 d.b, .int .i64 d.k, .int .i64 d.s, .slice a1 d.nv k1] 122)).alloc (.cells #[.int .i64 0, .int .i64 0, .int .i64 0, .int .i64 0, .int .i64 0, .slice none 0 0] 84)) (.int .i64 d.op) (.int .i64 d.a) (.int .i64 d.b) (.int .i64 d.k) (.int .i64 d.s) (.slice none 0 0) 84
  simpa using this
 obtain ⟨ba, oa, -, LV⟩ := (H.keep sA).LV; have EA := hide eA; clear eA; go_enter Tryz.func84, Tryz.ntmps84; go_wp2_with fail; rw [<- EA.out]; refine (yj7 a1 lo ba oa d.nv k1 d.V wA (by omega) (by omega) LV).mono ?_; rintro e w3 ⟨g1, rfl, l1, l1', U1, R1, s1⟩; have S3 := sA.trans (sM s1 sA.size); have Q3 := rA.keep s1; have O3 := oA.keep s1; have o0 := O3.c0; have o1 := O3.c1; have o2 := O3.c2; have o3 := O3.c3; have o4 := O3.c4; have o5 := O3.c5; have of5 := O3.f 5; have q0 := Q3.c0; have q1 := Q3.c1; have q2 := Q3.c2; have q3 := Q3.c3; have q4 := Q3.c4; have q5 := Q3.c5; have qf0 := Q3.f 0; have qf1 := Q3.f 1; have qf2 := Q3.f 2; have qf3 := Q3.f 3; have qf4 := Q3.f 4; have qf5 := Q3.f 5; clear LV rA oA EA; have M4 : xq0 w3 (w3.setCell ⟨w.heap.size + 1 + 1, 5, none⟩ (.slice (some ⟨g1, 0, none⟩) d.nv d.nv)) (w.heap.size + 1 + 1) := (xq0.refl w3 _).setCell _ _; go_wp2; have Q4 := ((((((Q3.marked M4 (by omega)).set0 (.int .i64 d.op)).set1 (.int .i64 d.a)).set2 (.int .i64 d.b)).set3 (.int .i64 d.k)).set4 (.int .i64 d.s)).set5 (.slice (some ⟨g1, 0, none⟩) d.nv d.nv); refine bodyPost_ret (results_box6T rfl Tryz.underlying84 rfl size_Node _ _ _ _ _ _ _ _ _ rfl Q4) rfl ?_; have M5 : xq0 (w3.setCell ⟨w.heap.size + 1 + 1, 5, none⟩ (.slice (some ⟨g1, 0, none⟩) d.nv d.nv)) _ (w.heap.size + 1) := ((((((xq0.refl _ _).setCell 0 (.int .i64 d.op)).setCell 1 (.int .i64 d.a)).setCell 2 (.int .i64 d.b)).setCell 3 (.int .i64 d.k)).setCell 4 (.int .i64 d.s)).setCell 5 (.slice (some ⟨g1, 0, none⟩) d.nv d.nv); have z5 := M5.size; have z4 := M4.size; refine ⟨g1, rfl, ((U1.frame M4.fr (fun k h1 h2 h3 => by omega)).frame M5.fr (fun k h1 h2 h3 => by omega)).wide (by omega) (by omega), ⟨Nat.le_refl _, ⟨g1, 0, fun _ => by omega, ?_⟩, H.iop, H.ia, H.ib, H.ik, H.is, H.n63⟩, (S3.trans (M4.since (by omega))).trans (M5.since (by omega))⟩; exact ((R1.marked M4 (by omega) (fun _ => by omega)).marked M5 (by omega) (fun _ => by omega)).down (by omega)
structure OwnD (w : World) (lo hi b off : Nat) (d : xq1) (v0 v1 v2 v3 v4 : Value) (g1 : Nat) : Prop where
 c0 : w.cell? ⟨b, off, none⟩ = some v0
 c1 : w.cell? ⟨b, off + 1, none⟩ = some v1
 c2 : w.cell? ⟨b, off + 2, none⟩ = some v2
 c3 : w.cell? ⟨b, off + 3, none⟩ = some v3
 c4 : w.cell? ⟨b, off + 4, none⟩ = some v4
 c5 : w.cell? ⟨b, off + 5, none⟩ = some (.slice (some ⟨g1, 0, none⟩) d.nv d.nv)
 U1 : OwnL w lo hi g1 d.nv
section
variable {w w' : World} {lo hi b off : Nat} {d : xq1} {v0 v1 v2 v3 v4 : Value} {g1 : Nat}
theorem OwnD.keep (r : OwnD w lo hi b off d v0 v1 v2 v3 v4 g1) (s : w.Since w.heap.size w') : OwnD w' lo hi b off d v0 v1 v2 v3 v4 g1 := by
 have lt : b < w.heap.size := World.block_lt_of_cell? _ _ r.c0; exact ⟨(s.cell (a := ⟨b, off, none⟩) lt).trans r.c0, (s.cell (a := ⟨b, off + 1, none⟩) lt).trans r.c1, (s.cell (a := ⟨b, off + 2, none⟩) lt).trans r.c2, (s.cell (a := ⟨b, off + 3, none⟩) lt).trans r.c3, (s.cell (a := ⟨b, off + 4, none⟩) lt).trans r.c4, (s.cell (a := ⟨b, off + 5, none⟩) lt).trans r.c5, r.U1.keep s⟩
theorem OwnD.frame {S : Nat -> Prop} (r : OwnD w lo hi b off d v0 v1 v2 v3 v4 g1) (F : Fra w w' S) (hS : ∀ k, lo <= k -> k < hi -> ¬ S k) (hc : ∀ o, off <= o -> o < off + 6 -> w'.cell? ⟨b, o, none⟩ = w.cell? ⟨b, o, none⟩) : OwnD w' lo hi b off d v0 v1 v2 v3 v4 g1 :=
 ⟨by rw [hc _ (by omega) (by omega)]; exact r.c0, by rw [hc _ (by omega) (by omega)]; exact r.c1, by rw [hc _ (by omega) (by omega)]; exact r.c2, by rw [hc _ (by omega) (by omega)]; exact r.c3, by rw [hc _ (by omega) (by omega)]; exact r.c4, by rw [hc _ (by omega) (by omega)]; exact r.c5,
   r.U1.frame F hS⟩
end
def OwnDs (w : World) (c k n : Nat) (E : Nat -> Nat) (A : Nat -> xq1) : Prop := ∀ i, k <= i -> i < n -> ∃ v0 v1 v2 v3 v4 g1, OwnD w (E i) (E (i + 1)) c (i * 6) (A i) v0 v1 v2 v3 v4 g1
structure OwnDK (w : World) (c k : Nat) (E : Nat -> Nat) (A : Nat -> xq1) : Prop where
 lo : c < E 0
 mono : ∀ i, i < k -> E i <= E (i + 1)
 hi : E k <= w.heap.size
 own : OwnDs w c 0 k E A
theorem OwnDK.keep {w w' : World} {c k : Nat} {E : Nat -> Nat} {A : Nat -> xq1} (H : OwnDK w c k E A) (s : w.Since w.heap.size w') : OwnDK w' c k E A :=
 ⟨H.lo, H.mono, Nat.le_trans H.hi s.size, fun i h1 h2 => by
   obtain ⟨v0, v1, v2, v3, v4, g1, r⟩ := H.own i h1 h2; exact ⟨v0, v1, v2, v3, v4, g1, r.keep s⟩⟩
theorem OwnDK.put {w w' : World} {c k B g1 : Nat} {E : Nat -> Nat} {A : Nat -> xq1} {v0 v1 v2 v3 v4 : Value} (H : OwnDK w c k E A) (hB : E k <= B) (M : xq0 w w' c) (hc : ∀ o, o < k * 6 -> w'.cell? ⟨c, o, none⟩ = w.cell? ⟨c, o, none⟩)
 (c0 : w'.cell? ⟨c, k * 6, none⟩ = some v0) (c1 : w'.cell? ⟨c, k * 6 + 1, none⟩ = some v1) (c2 : w'.cell? ⟨c, k * 6 + 2, none⟩ = some v2) (c3 : w'.cell? ⟨c, k * 6 + 3, none⟩ = some v3) (c4 : w'.cell? ⟨c, k * 6 + 4, none⟩ = some v4) (c5 : w'.cell? ⟨c, k * 6 + 5, none⟩ = some (.slice (some ⟨g1, 0, none⟩) (A k).nv (A k).nv))
 (U1 : OwnL w B w.heap.size g1 (A k).nv) : OwnDK w' c (k + 1) (fun i => if i <= k then E i else w.heap.size) A := by
 have b1 : c < E k := Nat.lt_of_lt_of_le H.lo (xk0 H.mono (Nat.zero_le _) (Nat.le_refl _)); have p1 := U1.span; refine ⟨by simpa using H.lo, fun i hi => ?_, ?_, fun i _ hi => ?_⟩
 . by_cases e : i = k
   . subst e
     simp only [Nat.le_refl, if_true, show ¬ i + 1 <= i by omega, if_false]; exact H.hi
   . simp only [show i <= k by omega, show i + 1 <= k by omega, if_true]
     exact H.mono i (by omega)
 . simp only [show ¬ k + 1 <= k by omega, if_false]
   rw [M.size]; exact Nat.le_refl _
 . by_cases e : i = k
   . subst e
     simp only [Nat.le_refl, if_true, show ¬ i + 1 <= i by omega, if_false]; exact ⟨v0, v1, v2, v3, v4, g1, c0, c1, c2, c3, c4, c5, (U1.frame M.fr (fun k h1 h2 h3 => by omega)).wide hB (Nat.le_refl _)⟩
   . simp only [show i <= k by omega, show i + 1 <= k by omega, if_true]
     obtain ⟨v0', v1', v2', v3', v4', g1', r'⟩ := H.own i (Nat.zero_le _) (by omega); have := xk0 H.mono (Nat.zero_le i) (show i <= k by omega); have := H.lo; exact ⟨v0', v1', v2', v3', v4', g1', r'.frame M.fr (fun c h1 h2 h3 => by omega) (fun o h1 h2 => hc o (by omega))⟩
structure OwnN (w : World) (lo hi c n : Nat) (A : Nat -> xq1) : Prop where
 ex : ∃ E : Nat -> Nat, lo <= c /\ c < E 0 /\ (∀ i, i < n -> E i <= E (i + 1)) /\ E n <= hi /\ OwnDs w c 0 n E A
 f : ∀ o, w.frozen? ⟨c, o, none⟩ = false
 lt : c < w.heap.size
section
variable {w w' : World} {lo hi lo' hi' c n : Nat} {A : Nat -> xq1}
theorem OwnN.span (H : OwnN w lo hi c n A) : lo <= c /\ c < hi := by
 obtain ⟨E, h1, h2, h3, h4, -⟩ := H.ex; have := xk0 h3 (Nat.zero_le n) (Nat.le_refl _); exact ⟨h1, by omega⟩
theorem OwnN.wide (H : OwnN w lo hi c n A) (h1 : lo' <= lo) (h2 : hi <= hi') : OwnN w lo' hi' c n A := by
 obtain ⟨E, a, b, e, d, o⟩ := H.ex; exact ⟨⟨E, by omega, b, e, by omega, o⟩, H.f, H.lt⟩
theorem OwnN.keep (H : OwnN w lo hi c n A) (s : w.Since w.heap.size w') : OwnN w' lo hi c n A := by
 obtain ⟨E, a, b, e, d, o⟩ := H.ex
 exact ⟨⟨E, a, b, e, d, fun i h1 h2 => by
  obtain ⟨v0, v1, v2, v3, v4, g1, r⟩ := o i h1 h2; exact ⟨v0, v1, v2, v3, v4, g1, r.keep s⟩⟩, fun o => by rw [s.frozen (a := ⟨c, o, none⟩) H.lt]; exact H.f o, Nat.lt_of_lt_of_le H.lt s.size⟩
theorem OwnN.frame {S : Nat -> Prop} (H : OwnN w lo hi c n A) (F : Fra w w' S) (hS : ∀ k, lo <= k -> k < hi -> ¬ S k) : OwnN w' lo hi c n A := by
 have sp := H.span; obtain ⟨E, a, b, e, d, o⟩ := H.ex; refine ⟨⟨E, a, b, e, d, fun i h1 h2 => ?_⟩, fun o => by rw [F.frozen]; exact H.f o, by rw [F.size]; exact H.lt⟩; obtain ⟨v0, v1, v2, v3, v4, g1, r⟩ := o i h1 h2; have x1 := xk0 e (Nat.zero_le i) (show i <= n by omega); have x2 := xk0 e (i := i + 1) (j := n) (by omega) (Nat.le_refl _); exact ⟨v0, v1, v2, v3, v4, g1, r.frame F (fun k h1 h2 => hS k (by omega) (by omega)) (fun o _ _ => F.cell (a := ⟨c, o, none⟩) (hS c sp.1 sp.2))⟩
end
theorem toNodeS_own (a : Option Addr) (lo b off n cap : Nat) (A : Nat -> xq1) (w : World) (hn : n <= 1048576) (hs : szN A n <= 1048576) (H : Nods w lo a b off n A) :
 Calls Tryz.prog 50 #[.slice a n cap] w fun e w' => ∃ c, e = .returned (.slice (some ⟨c, 0, none⟩) n n) /\ w.heap.size <= c /\ c < w'.heap.size /\ OwnN w' w.heap.size w'.heap.size c n A /\ Nods w' (c + 1) (some ⟨c, 0, none⟩) c 0 n A /\ w.Since w.heap.size w' := by
 have hmk := xz8 (P := Tryz.prog) 48 84 _ 6 64 Tryz.underlying48 info_Node .i64 .i64 n (by omega) (by omega); have sA := sal w (.cells (madeCells #[.int .i64 0, .int .i64 0, .int .i64 0, .int .i64 0, .int .i64 0, .slice none 0 0] (n * 6)) 84); have rA := Room.new w #[.int .i64 0, .int .i64 0, .int .i64 0, .int .i64 0, .int .i64 0, .slice none 0 0] (n * 6) 84; go_enter Tryz.func50, Tryz.ntmps50; go_wp2
 go_loopw [4] (fun i wr => ∃ (k : Nat) (E : Nat -> Nat), OwnDK wr w.heap.size k E A /\ k <= n /\ i = .int .i64 k /\ w.Since w.heap.size wr /\ Room wr w.heap.size (n * 6) /\ Nods wr (w.heap.size + 1) (some ⟨w.heap.size, 0, none⟩) w.heap.size 0 k A) (fun i _ => n - (intOf i).toNat)
 case atStart => exact ⟨0, fun _ => w.heap.size + 1, ⟨Nat.lt_succ_self _, fun i hi => absurd hi (by omega), by simp, fun i _ hi => absurd hi (by omega)⟩, Nat.zero_le _, rfl, sA, rA, fun i hi => absurd hi (by omega)⟩
 case round =>
  obtain ⟨k, E, ow, hk, rfl, s, r, T⟩ := hrel
  by_cases hlt : k < n
  . obtain ⟨rfl, a1, k1, M⟩ := H k hlt
    have M' := M.keep s; have g0 := M'.c0; have g1 := M'.c1; have g2 := M'.c2; have g3 := M'.c3; have g4 := M'.c4; have g5 := M'.c5; have hz : (k : Int) < (n : Int) := by omega
    have hsz := szN_at (A := A) hlt; go_wp2_with fail; refine (toNode_own (A k) a1 lo k1 wr (by omega) M'.L).mono ?_; rintro e w2 ⟨y1, rfl, U1, L2, s2⟩; have r2 := r.keep s2; have T2 := T.keep s2; have S2 := s.trans (sM s2 s.size); obtain ⟨v0, u0⟩ := r2.cell (k * 6) (by omega); obtain ⟨v1, u1⟩ := r2.cell (k * 6 + 1) (by omega); obtain ⟨v2, u2⟩ := r2.cell (k * 6 + 2) (by omega); obtain ⟨v3, u3⟩ := r2.cell (k * 6 + 3) (by omega); obtain ⟨v4, u4⟩ := r2.cell (k * 6 + 4) (by omega); obtain ⟨v5, u5⟩ := r2.cell (k * 6 + 5) (by omega); have f0 := r2.f (k * 6); have f1 := r2.f (k * 6 + 1); have f2 := r2.f (k * 6 + 2); have f3 := r2.f (k * 6 + 3); have f4 := r2.f (k * 6 + 4); have f5 := r2.f (k * 6 + 5); have rl := r.lt; clear g0 g1 g2 g3 g4 g5; go_wp2; go_roundw
    case rel =>
     go_light; obtain ⟨w3, e3, M3, R3, x0, x1, x2, x3, x4, x5, xo⟩ := put6 (q := k * 6) r2 (by omega) (.int .i64 (A k).op) (.int .i64 (A k).a) (.int .i64 (A k).b) (.int .i64 (A k).k) (.int .i64 (A k).s) (.slice (some ⟨y1, 0, none⟩) (A k).nv (A k).nv); rw [<- e3]; exact ⟨k + 1, _, (ow.keep s2).put ow.hi M3 (fun o ho => xo o (by omega)) x0 x1 x2 x3 x4 x5 U1, by omega, by go_num, S2.trans (M3.since (Nat.le_refl _)), R3, T2.put M3 (fun o ho => xo o (by omega)) (L2.down (by omega)) x0 x1 x2 x3 x4 x5⟩
    case measure => simp [intOf]; omega
  . have e : k = n := by omega
    subst e; have rl := r.lt; go_wp2; go_ret; exact ⟨w.heap.size, rfl, Nat.le_refl _, rl, ⟨⟨E, Nat.le_refl _, ow.lo, ow.mono, ow.hi, ow.own⟩, r.f, rl⟩, T, s⟩
structure OwnG (w : World) (lo hi : Nat) (g : xq8) (c1 c2 c3 : Nat) : Prop where
 ex : ∃ m1 m2, lo <= m1 /\ m1 <= m2 /\ m2 <= hi /\ OwnL w lo m1 c1 g.nl /\ OwnL w m1 m2 c2 g.nh /\ OwnN w m2 hi c3 g.nn g.N
section
variable {w w' : World} {lo hi lo' hi' c1 c2 c3 : Nat} {g : xq8}
theorem OwnG.keep (H : OwnG w lo hi g c1 c2 c3) (s : w.Since w.heap.size w') : OwnG w' lo hi g c1 c2 c3 := by
 obtain ⟨m1, m2, h1, h2, h3, U1, U2, U3⟩ := H.ex; exact ⟨m1, m2, h1, h2, h3, U1.keep s, U2.keep s, U3.keep s⟩
end
theorem yv6 (g : xq8) (aL aH aN : Option Addr) (lo kL kH kN : Nat) (w : World) (hd : g.size <= 1048576) (H : GraL w lo g aL aH aN kL kH kN) :
 Calls Tryz.prog 19 #[.agg #[.int .i64 g.inn, .int .i64 g.rounds, .slice aL g.nl kL, .slice aH g.nh kH, .slice aN g.nn kN, .int .i64 g.out]] w fun e w' => ∃ c1 c2 c3, e = .returned (.agg #[.int .i64 g.inn, .int .i64 g.rounds, .slice (some ⟨c1, 0, none⟩) g.nl g.nl, .slice (some ⟨c2, 0, none⟩) g.nh g.nh, .slice (some ⟨c3, 0, none⟩) g.nn g.nn, .int .i64 g.out]) /\ OwnG w' w.heap.size w'.heap.size g c1 c2 c3 /\
  GraL w' w.heap.size g (some ⟨c1, 0, none⟩) (some ⟨c2, 0, none⟩) (some ⟨c3, 0, none⟩) g.nl g.nh g.nn /\ w.Since w.heap.size w' := by
 have ts := hd; unfold xq8.size at ts; obtain ⟨wA, eA⟩ : ∃ wA : World, wA = (((w.alloc (.cells #[.int .i64 g.inn, .int .i64 g.rounds, .slice aL g.nl kL, .slice aH g.nh kH, .slice aN g.nn kN, .int .i64 g.out] 43)).alloc (.cells #[.int .i64 0, .int .i64 0, .slice none 0 0, .slice none 0 0, .slice none 0 0, .int .i64 0] 50)).alloc (.cells #[.int .i64 g.inn, .int .i64 g.rounds, .slice none 0 0, .slice none 0 0, .slice none 0 0, .int .i64 0] 50)) := ⟨_, rfl⟩; have sA : w.Since w.heap.size wA := by rw [eA]; exact (((World.Since.refl _ _).alloc (Nat.le_refl _) _).alloc (by simp) _).alloc (by simp; omega) _
 have zA : wA.heap.size = w.heap.size + 1 + 1 + 1 := by rw [eA]; simp
 have bA : Box6 wA w.heap.size (.int .i64 g.inn) (.int .i64 g.rounds) (.slice aL g.nl kL) (.slice aH g.nh kH) (.slice aN g.nn kN) (.int .i64 g.out) := by rw [eA]; exact ((Box6.new w _ _ _ _ _ _ _).keep ((World.Since.refl _ _).alloc (Nat.le_refl _) _)).keep ((World.Since.refl _ _).alloc (Nat.le_refl _) _)
 have rA : Box6 wA (w.heap.size + 1) (.int .i64 0) (.int .i64 0) (.slice none 0 0) (.slice none 0 0) (.slice none 0 0) (.int .i64 0) := by
  rw [eA]; have := (Box6.new (w.alloc (.cells #[.int .i64 g.inn, .int .i64 g.rounds, .slice aL g.nl kL, .slice aH g.nh kH, .slice aN g.nn kN, .int .i64 g.out] 43)) (.int .i64 0) (.int .i64 0) (.slice none 0 0) (.slice none 0 0) (.slice none 0 0) (.int .i64 0) 50).keep ((World.Since.refl _ _).alloc (Nat.le_refl _) (.cells #[.int .i64 g.inn, .int .i64 g.rounds, .slice none 0 0, .slice none 0 0, .slice none 0 0, .int .i64 0] 50))
  simpa using this
 have oA : Box6 wA (w.heap.size + 1 + 1) (.int .i64 g.inn) (.int .i64 g.rounds) (.slice none 0 0) (.slice none 0 0) (.slice none 0 0) (.int .i64 0) := by
  rw [eA]; have := Box6.new ((w.alloc (.cells #[.int .i64 g.inn, .int .i64 g.rounds, .slice aL g.nl kL, .slice aH g.nh kH, .slice aN g.nn kN, .int .i64 g.out] 43)).alloc (.cells #[.int .i64 0, .int .i64 0, .slice none 0 0, .slice none 0 0, .slice none 0 0, .int .i64 0] 50)) (.int .i64 g.inn) (.int .i64 g.rounds) (.slice none 0 0) (.slice none 0 0) (.slice none 0 0) (.int .i64 0) 50
  simpa using this
 obtain ⟨b1, o1, -, L1⟩ := (H.keep sA).LL; have EA := hide eA; clear eA; go_enter Tryz.func19, Tryz.ntmps19; go_wp2_with fail; rw [<- EA.out]; refine (yj7 aL lo b1 o1 g.nl kL g.Lo wA (by omega) (by omega) L1).mono ?_; rintro e w1 ⟨g1, rfl, l1, l1', U1, R1, s1⟩; have S1 := sA.trans (sM s1 sA.size); have B1 := bA.keep s1; have Q1 := rA.keep s1; have O1 := oA.keep s1; have b3 := B1.c3; have o2 := O1.c2; have f2 := O1.f 2; clear bA rA oA L1 EA; go_wp2_with fail; have M2 : xq0 w1 (w1.setCell ⟨w.heap.size + 1 + 1, 2, none⟩ (.slice (some ⟨g1, 0, none⟩) g.nl g.nl)) (w.heap.size + 1 + 1) := (xq0.refl w1 _).setCell _ _; have O2 := O1.set2 (.slice (some ⟨g1, 0, none⟩) g.nl g.nl); have Q2 := Q1.marked M2 (by omega); have B2 := B1.marked M2 (by omega); have R2 := R1.marked M2 (by omega) (fun _ => by omega); have S2 := S1.trans (M2.since (B := w.heap.size) (by omega)); have z2 := M2.size; have z1 := U1.span; have U2 := U1.frame M2.fr (fun k h1 h2 h3 => by omega); clear U1 b3 o2 f2 B1 M2 O1 Q1 R1 S1; generalize w1.setCell ⟨w.heap.size + 1 + 1, 2, none⟩ (.slice (some ⟨g1, 0, none⟩) g.nl g.nl) = w2 at *; obtain ⟨b2, o2, -, L2⟩ := (H.keep S2).LH; refine (yj7 aH lo b2 o2 g.nh kH g.Hi w2 (by omega) (by omega) L2).mono ?_; rintro e w3 ⟨g2, rfl, l3, l3', V1, T1, s3⟩; have S3 := S2.trans (sM s3 S2.size); have B3 := B2.keep s3; have Q3 := Q2.keep s3; have O3 := O2.keep s3; have R3 := R2.keep s3; have U3 := U2.keep s3; have b4 := B3.c4; have o3 := O3.c3; have f3 := O3.f 3; clear B2 Q2 O2 R2 U2 L2; go_wp2_with fail; have M4 : xq0 w3 (w3.setCell ⟨w.heap.size + 1 + 1, 3, none⟩ (.slice (some ⟨g2, 0, none⟩) g.nh g.nh)) (w.heap.size + 1 + 1) := (xq0.refl w3 _).setCell _ _; have O4 := O3.set3 (.slice (some ⟨g2, 0, none⟩) g.nh g.nh); have Q4 := Q3.marked M4 (by omega); have B4 := B3.marked M4 (by omega); have R4 := R3.marked M4 (by omega) (fun _ => by omega); have T4 := T1.marked M4 (by omega) (fun _ => by omega); have S4 := S3.trans (M4.since (B := w.heap.size) (by omega)); have z4 := M4.size; have z3 := V1.span; have U4 := U3.frame M4.fr (fun k h1 h2 h3 => by omega); have V4 := V1.frame M4.fr (fun k h1 h2 h3 => by omega); clear U3 V1 b4 o3 f3 B3 M4 O3 Q3 R3 T1 S3; generalize w3.setCell ⟨w.heap.size + 1 + 1, 3, none⟩ (.slice (some ⟨g2, 0, none⟩) g.nh g.nh) = w4 at *; obtain ⟨b3, o3, -, L3⟩ := (H.keep S4).LN; refine (toNodeS_own aN lo b3 o3 g.nn kN g.N w4 (by omega) (by omega) L3).mono ?_; rintro e w5 ⟨g3, rfl, l5, l5', W1, X1, s5⟩; have S5 := S4.trans (sM s5 S4.size); have Q5 := Q4.keep s5; have B5 := B4.keep s5; have O5 := O4.keep s5; have R5 := R4.keep s5; have T5 := T4.keep s5; have U5 := U4.keep s5; have V5 := V4.keep s5; have z5 := W1.span; have o0 := O5.c0; have o1 := O5.c1; have o2 := O5.c2; have o3 := O5.c3; have o4 := O5.c4; have o5 := O5.c5; have of4 := O5.f 4; have of5 := O5.f 5; have q0 := Q5.c0; have q1 := Q5.c1; have q2 := Q5.c2; have q3 := Q5.c3; have q4 := Q5.c4; have q5 := Q5.c5; have qf0 := Q5.f 0; have qf1 := Q5.f 1; have qf2 := Q5.f 2
 have qf3 := Q5.f 3; have qf4 := Q5.f 4; have qf5 := Q5.f 5; clear Q4 O4 R4 T4 U4 V4 L3 S4 B4; have M6 : xq0 w5 ((w5.setCell ⟨w.heap.size + 1 + 1, 4, none⟩ (.slice (some ⟨g3, 0, none⟩) g.nn g.nn)).setCell ⟨w.heap.size + 1 + 1, 5, none⟩ (.int .i64 g.out)) (w.heap.size + 1 + 1) := ((xq0.refl w5 _).setCell _ _).setCell _ _; have b5 := B5.c5; go_wp2; have Q6 := ((((((Q5.marked M6 (by omega)).set0 (.int .i64 g.inn)).set1 (.int .i64 g.rounds)).set2 (.slice (some ⟨g1, 0, none⟩) g.nl g.nl)).set3 (.slice (some ⟨g2, 0, none⟩) g.nh g.nh)).set4 (.slice (some ⟨g3, 0, none⟩) g.nn g.nn)).set5 (.int .i64 g.out); refine bodyPost_ret (results_box6T rfl Tryz.underlying50 rfl size_Graph _ _ _ _ _ _ _ _ _ rfl Q6) rfl ?_; have M7 : xq0 ((w5.setCell ⟨w.heap.size + 1 + 1, 4, none⟩ (.slice (some ⟨g3, 0, none⟩) g.nn g.nn)).setCell ⟨w.heap.size + 1 + 1, 5, none⟩ (.int .i64 g.out)) _ (w.heap.size + 1) := ((((((xq0.refl _ _).setCell 0 (.int .i64 g.inn)).setCell 1 (.int .i64 g.rounds)).setCell 2 (.slice (some ⟨g1, 0, none⟩) g.nl g.nl)).setCell 3 (.slice (some ⟨g2, 0, none⟩) g.nh g.nh)).setCell 4 (.slice (some ⟨g3, 0, none⟩) g.nn g.nn)).setCell 5 (.int .i64 g.out); have z7 := M7.size; have z6 := M6.size
 refine ⟨g1, g2, g3, rfl, ⟨w1.heap.size, w3.heap.size, by omega, by omega, by omega, ((U5.frame M6.fr (fun k h1 h2 h3 => by omega)).frame M7.fr (fun k h1 h2 h3 => by omega)).wide (by omega) (Nat.le_refl _), ((V5.frame M6.fr (fun k h1 h2 h3 => by omega)).frame M7.fr (fun k h1 h2 h3 => by omega)).wide (by omega) (Nat.le_refl _), ((W1.frame M6.fr (fun k h1 h2 h3 => by omega)).frame M7.fr (fun k h1 h2 h3 => by omega)).wide (by omega) (by omega)⟩,
  ⟨Nat.le_refl _, Nat.le_refl _, Nat.le_refl _, ⟨g1, 0, fun _ => by omega, ?_⟩, ⟨g2, 0, fun _ => by omega, ?_⟩, ⟨g3, 0, fun _ => by omega, ?_⟩, H.ii, H.ir, H.io, H.l63, H.h63, H.n63⟩, (S5.trans (M6.since (by omega))).trans (M7.since (by omega))⟩
 . exact ((R5.marked M6 (by omega) (fun _ => by omega)).marked M7 (by omega) (fun _ => by omega)).down (by omega)
 . exact ((T5.marked M6 (by omega) (fun _ => by omega)).marked M7 (by omega) (fun _ => by omega)).down (by omega)
 . exact ((X1.marked M6 (by omega) (fun _ => by omega)).marked M7 (by omega) (fun _ => by omega)).down (by omega)
end Go.Proofs.YthaomfabdghfjaaGreat
