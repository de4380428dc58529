import Derived.Test.YtkhpggnnpfckdaaGreatDoorOwnP17
import Derived.Deep.RegionHeld3
namespace Go.Proofs.YtkhpggnnpfckdaaGreatDoor
open Go.RowKit

set_option maxHeartbeats 6400000 in
set_option maxRecDepth 100000 in
theorem l2NodeCode_no (g : GraphD) (op v1 v2 v3 v4 : Int) (nv : Nat) (V : Nat → RatD) (aL aH : Option Addr) (lo kL kH kN bN oN : Nat) (a1 : Option Addr) (k1 i : Nat) (aD : Option Addr) (cD : Nat) (D : Nat → Int) (w : World) (hop : op < 1 ∨ 7 < op) (hd : (NodeD.mk op v1 v2 v3 v4 nv V).size ≤ 1048576) (M : NodM w lo bN (oN + i * 6) (NodeD.mk op v1 v2 v3 v4 nv V) a1 k1) (hi : i < g.nn) (hnn : g.nn ≤ 1000) :
    Calls Tryz.prog 48 #[.agg #[.int .i64 g.inn, .int .i64 g.rounds, .slice aL g.nl kL, .slice aH g.nh kH, .slice (some ⟨bN, oN, none⟩) g.nn kN, .int .i64 g.out], .slice aD (i + 1) cD, .int .i64 ((i + 1 : Nat) : Int)] w fun e w' => e = .returned (.int .i64 (nodeCode D (i + 1) (NodeD.mk op v1 v2 v3 v4 nv V))) ∧ w.Since w.heap.size w' := by
  have sA : w.Since w.heap.size (w.alloc (.cells #[.int .i64 g.inn, .int .i64 g.rounds, .slice aL g.nl kL, .slice aH g.nh kH, .slice (some ⟨bN, oN, none⟩) g.nn kN, .int .i64 g.out] 50)) := (World.Since.refl _ _).alloc (Nat.le_refl _) _
  have zA : (w.alloc (.cells #[.int .i64 g.inn, .int .i64 g.rounds, .slice aL g.nl kL, .slice aH g.nh kH, .slice (some ⟨bN, oN, none⟩) g.nn kN, .int .i64 g.out] 50)).heap.size = w.heap.size + 1 := by simp
  have MA := M.keep sA
  have g0 := MA.c0
  have g1 := MA.c1
  have g2 := MA.c2
  have g3 := MA.c3
  have g4 := MA.c4
  have g5 := MA.c5
  have hz : (i : Int) < (g.nn : Int) := by omega
  go_enter Tryz.func48, Tryz.ntmps48
  go_wp2_with fail
  have sB : (w.alloc (.cells #[.int .i64 g.inn, .int .i64 g.rounds, .slice aL g.nl kL, .slice aH g.nh kH, .slice (some ⟨bN, oN, none⟩) g.nn kN, .int .i64 g.out] 50)).Since (w.alloc (.cells #[.int .i64 g.inn, .int .i64 g.rounds, .slice aL g.nl kL, .slice aH g.nh kH, .slice (some ⟨bN, oN, none⟩) g.nn kN, .int .i64 g.out] 50)).heap.size ((w.alloc (.cells #[.int .i64 g.inn, .int .i64 g.rounds, .slice aL g.nl kL, .slice aH g.nh kH, .slice (some ⟨bN, oN, none⟩) g.nn kN, .int .i64 g.out] 50)).alloc (.cells #[.int .i64 op, .int .i64 v1, .int .i64 v2, .int .i64 v3, .int .i64 v4, .slice a1 nv k1] 84)) := (World.Since.refl _ _).alloc (Nat.le_refl _) _
  have nB := Box6.new (w.alloc (.cells #[.int .i64 g.inn, .int .i64 g.rounds, .slice aL g.nl kL, .slice aH g.nh kH, .slice (some ⟨bN, oN, none⟩) g.nn kN, .int .i64 g.out] 50)) (.int .i64 op) (.int .i64 v1) (.int .i64 v2) (.int .i64 v3) (.int .i64 v4) (.slice a1 nv k1) 84
  rw [zA] at nB
  have S2 := sA.trans (sinceMono sB sA.size)
  generalize (w.alloc (.cells #[.int .i64 g.inn, .int .i64 g.rounds, .slice aL g.nl kL, .slice aH g.nh kH, .slice (some ⟨bN, oN, none⟩) g.nn kN, .int .i64 g.out] 50)).alloc (.cells #[.int .i64 op, .int .i64 v1, .int .i64 v2, .int .i64 v3, .int .i64 v4, .slice a1 nv k1] 84) = w2 at *
  refine (l2FormOk_any (NodeD.mk op v1 v2 v3 v4 nv V) a1 lo k1 w2 hd (M.L.keep S2)).mono ?_
  rintro e w3 ⟨⟨r, rfl, hr⟩, s3⟩
  have S3 := S2.trans (sinceMono s3 S2.size)
  have N3 := nB.keep s3
  clear g0 g1 g2 g3 g4 g5 MA
  cases r
  · have E := hide (code_form (D := D) (i := i + 1) (d := (NodeD.mk op v1 v2 v3 v4 nv V)) (fun h => by have := hr.2 h; cases this))
    clear hr
    go_wp2
    go_ret
    exact ⟨ret_int E.out.symm, S3⟩
  · exfalso
    have f := hr.1 rfl
    have h1 : 1 ≤ op := f.o1
    have h7 : op ≤ 7 := f.o7
    omega

set_option maxHeartbeats 6400000 in
set_option maxRecDepth 100000 in
theorem l2NodeCode1 (g : GraphD) (v1 v2 v3 v4 : Int) (nv : Nat) (V : Nat → RatD) (aL aH : Option Addr) (lo kL kH kN bN oN : Nat) (a1 : Option Addr) (k1 i : Nat) (aD : Option Addr) (bD cD : Nat) (D : Nat → Int) (w : World) (hd : (NodeD.mk 1 v1 v2 v3 v4 nv V).size ≤ 1048576) (M : NodM w lo bN (oN + i * 6) (NodeD.mk 1 v1 v2 v3 v4 nv V) a1 k1) (hi : i < g.nn) (hnn : g.nn ≤ 1000) (HD : Ints w aD bD 0 (i + 1) D) (hD : Dok D (i + 1)) :
    Calls Tryz.prog 48 #[.agg #[.int .i64 g.inn, .int .i64 g.rounds, .slice aL g.nl kL, .slice aH g.nh kH, .slice (some ⟨bN, oN, none⟩) g.nn kN, .int .i64 g.out], .slice aD (i + 1) cD, .int .i64 ((i + 1 : Nat) : Int)] w fun e w' => e = .returned (.int .i64 (nodeCode D (i + 1) (NodeD.mk 1 v1 v2 v3 v4 nv V))) ∧ w.Since w.heap.size w' := by
  have sA : w.Since w.heap.size (w.alloc (.cells #[.int .i64 g.inn, .int .i64 g.rounds, .slice aL g.nl kL, .slice aH g.nh kH, .slice (some ⟨bN, oN, none⟩) g.nn kN, .int .i64 g.out] 50)) := (World.Since.refl _ _).alloc (Nat.le_refl _) _
  have zA : (w.alloc (.cells #[.int .i64 g.inn, .int .i64 g.rounds, .slice aL g.nl kL, .slice aH g.nh kH, .slice (some ⟨bN, oN, none⟩) g.nn kN, .int .i64 g.out] 50)).heap.size = w.heap.size + 1 := by simp
  have MA := M.keep sA
  have g0 := MA.c0
  have g1 := MA.c1
  have g2 := MA.c2
  have g3 := MA.c3
  have g4 := MA.c4
  have g5 := MA.c5
  have hz : (i : Int) < (g.nn : Int) := by omega
  go_enter Tryz.func48, Tryz.ntmps48
  go_wp2_with fail
  have sB : (w.alloc (.cells #[.int .i64 g.inn, .int .i64 g.rounds, .slice aL g.nl kL, .slice aH g.nh kH, .slice (some ⟨bN, oN, none⟩) g.nn kN, .int .i64 g.out] 50)).Since (w.alloc (.cells #[.int .i64 g.inn, .int .i64 g.rounds, .slice aL g.nl kL, .slice aH g.nh kH, .slice (some ⟨bN, oN, none⟩) g.nn kN, .int .i64 g.out] 50)).heap.size ((w.alloc (.cells #[.int .i64 g.inn, .int .i64 g.rounds, .slice aL g.nl kL, .slice aH g.nh kH, .slice (some ⟨bN, oN, none⟩) g.nn kN, .int .i64 g.out] 50)).alloc (.cells #[.int .i64 1, .int .i64 v1, .int .i64 v2, .int .i64 v3, .int .i64 v4, .slice a1 nv k1] 84)) := (World.Since.refl _ _).alloc (Nat.le_refl _) _
  have nB := Box6.new (w.alloc (.cells #[.int .i64 g.inn, .int .i64 g.rounds, .slice aL g.nl kL, .slice aH g.nh kH, .slice (some ⟨bN, oN, none⟩) g.nn kN, .int .i64 g.out] 50)) (.int .i64 1) (.int .i64 v1) (.int .i64 v2) (.int .i64 v3) (.int .i64 v4) (.slice a1 nv k1) 84
  rw [zA] at nB
  have S2 := sA.trans (sinceMono sB sA.size)
  generalize (w.alloc (.cells #[.int .i64 g.inn, .int .i64 g.rounds, .slice aL g.nl kL, .slice aH g.nh kH, .slice (some ⟨bN, oN, none⟩) g.nn kN, .int .i64 g.out] 50)).alloc (.cells #[.int .i64 1, .int .i64 v1, .int .i64 v2, .int .i64 v3, .int .i64 v4, .slice a1 nv k1] 84) = w2 at *
  refine (l2FormOk_any (NodeD.mk 1 v1 v2 v3 v4 nv V) a1 lo k1 w2 hd (M.L.keep S2)).mono ?_
  rintro e w3 ⟨⟨r, rfl, hr⟩, s3⟩
  have S3 := S2.trans (sinceMono s3 S2.size)
  have N3 := nB.keep s3
  clear g0 g1 g2 g3 g4 g5 MA
  cases r
  · have E := hide (code_form (D := D) (i := i + 1) (d := (NodeD.mk 1 v1 v2 v3 v4 nv V)) (fun h => by have := hr.2 h; cases this))
    clear hr
    go_wp2
    go_ret
    exact ⟨ret_int E.out.symm, S3⟩
  have F := hide (hr.1 rfl)
  clear hr
  have q0 := N3.c0
  have q1 := N3.c1
  have q2 := N3.c2
  have q3 := N3.c3
  have q4 := N3.c4
  have q5 := N3.c5
  go_wp2_with fail
  refine (l2In_any v1 0 (i : Int) w3).mono ?_
  rintro e w4 ⟨⟨r, rfl, hr⟩, hw4⟩
  have hw5 := hw4.symm
  clear hw4
  subst hw5
  cases r
  · have E := hide (code_src (D := D) (i := i + 1) F.out (fun h => by have h2 : 0 ≤ v1 ∧ v1 < ((i + 1 : Nat) : Int) := ⟨h.1, h.2.1⟩; have := hr.2 (by unfold InP; omega); cases this))
    clear hr
    go_wp2
    go_ret
    exact ⟨ret_int E.out.symm, S3⟩
  have IA := hide (hr.1 rfl)
  clear hr
  have JB := l2UsesB_eq 1 false w3 (by decide)
  go_wp2_with fail
  refine JB.mono ?_
  rintro e w4 ⟨rfl, hw4⟩
  have hw5 := hw4.symm
  clear hw4
  subst hw5
  clear JB
  have G := hide (show SrcOk (NodeD.mk 1 v1 v2 v3 v4 nv V) (i + 1) from ⟨by have h : 0 ≤ v1 ∧ v1 ≤ i := IA.out; exact h.1, by have h : 0 ≤ v1 ∧ v1 ≤ i := IA.out; show v1 < ((i + 1 : Nat) : Int); omega, fun h => (by cases h)⟩)
  obtain ⟨j, hj⟩ : ∃ j : Nat, v1 = j := ⟨v1.toNat, by have h : 0 ≤ v1 ∧ v1 ≤ i := IA.out; omega⟩
  subst hj
  have hjn : j < i + 1 := by have h : 0 ≤ (j : Int) ∧ (j : Int) ≤ i := IA.out; omega
  obtain ⟨x, hx⟩ : ∃ x, D j = x := ⟨_, rfl⟩
  have hDj := hD j hjn
  rw [hx] at hDj
  obtain ⟨ed, gx⟩ := (HD.keep S3) j hjn
  rw [Nat.zero_add, hx] at gx
  subst ed
  have hz2 : (j : Int) < ((i + 1 : Nat) : Int) := by omega
  have hk : 0 ≤ v3 ∧ v3 ≤ 1000 := by have h : 1 ≤ v3 ∧ v3 ≤ 1000 := F.out.k; omega
  have hv : nv ≤ 1048576 := by have h : nv + szR V nv ≤ 1048576 := hd; omega
  have y0 : 0 ≤ v3 * (x + 1) := Int.mul_nonneg hk.1 (by omega)
  have y1 : v3 * (x + 1) ≤ 1000 * 1001 := Int.mul_le_mul hk.2 (by omega) (by omega) (by omega)
  obtain ⟨y, hy⟩ : ∃ y, v3 * (x + 1) = y := ⟨_, rfl⟩
  rw [hy] at y0 y1
  by_cases h : (nv : Int) = y
  · have E := hide (show nodeCode D (i + 1) (NodeD.mk 1 (j : Int) v2 v3 v4 nv V) = 0 by rw [code_shape F.out G.out]; simp [shapeCode, hx, hy, h])
    have tq : ((nv : Int) != y) = false := by simp [h]
    clear h
    go_wp2
    go_ret
    exact ⟨ret_int E.out.symm, S3⟩
  · have E := hide (show nodeCode D (i + 1) (NodeD.mk 1 (j : Int) v2 v3 v4 nv V) = 14 by rw [code_shape F.out G.out]; simp [shapeCode, hx, hy, h])
    have tq : ((nv : Int) != y) = true := by simp [h]
    clear h
    go_wp2
    go_ret
    exact ⟨ret_int E.out.symm, S3⟩

set_option maxHeartbeats 6400000 in
set_option maxRecDepth 100000 in
theorem l2NodeCode2 (g : GraphD) (v1 v2 v3 v4 : Int) (nv : Nat) (V : Nat → RatD) (aL aH : Option Addr) (lo kL kH kN bN oN : Nat) (a1 : Option Addr) (k1 i : Nat) (aD : Option Addr) (bD cD : Nat) (D : Nat → Int) (w : World) (hd : (NodeD.mk 2 v1 v2 v3 v4 nv V).size ≤ 1048576) (M : NodM w lo bN (oN + i * 6) (NodeD.mk 2 v1 v2 v3 v4 nv V) a1 k1) (hi : i < g.nn) (hnn : g.nn ≤ 1000) (HD : Ints w aD bD 0 (i + 1) D) (hD : Dok D (i + 1)) :
    Calls Tryz.prog 48 #[.agg #[.int .i64 g.inn, .int .i64 g.rounds, .slice aL g.nl kL, .slice aH g.nh kH, .slice (some ⟨bN, oN, none⟩) g.nn kN, .int .i64 g.out], .slice aD (i + 1) cD, .int .i64 ((i + 1 : Nat) : Int)] w fun e w' => e = .returned (.int .i64 (nodeCode D (i + 1) (NodeD.mk 2 v1 v2 v3 v4 nv V))) ∧ w.Since w.heap.size w' := by
  have sA : w.Since w.heap.size (w.alloc (.cells #[.int .i64 g.inn, .int .i64 g.rounds, .slice aL g.nl kL, .slice aH g.nh kH, .slice (some ⟨bN, oN, none⟩) g.nn kN, .int .i64 g.out] 50)) := (World.Since.refl _ _).alloc (Nat.le_refl _) _
  have zA : (w.alloc (.cells #[.int .i64 g.inn, .int .i64 g.rounds, .slice aL g.nl kL, .slice aH g.nh kH, .slice (some ⟨bN, oN, none⟩) g.nn kN, .int .i64 g.out] 50)).heap.size = w.heap.size + 1 := by simp
  have MA := M.keep sA
  have g0 := MA.c0
  have g1 := MA.c1
  have g2 := MA.c2
  have g3 := MA.c3
  have g4 := MA.c4
  have g5 := MA.c5
  have hz : (i : Int) < (g.nn : Int) := by omega
  go_enter Tryz.func48, Tryz.ntmps48
  go_wp2_with fail
  have sB : (w.alloc (.cells #[.int .i64 g.inn, .int .i64 g.rounds, .slice aL g.nl kL, .slice aH g.nh kH, .slice (some ⟨bN, oN, none⟩) g.nn kN, .int .i64 g.out] 50)).Since (w.alloc (.cells #[.int .i64 g.inn, .int .i64 g.rounds, .slice aL g.nl kL, .slice aH g.nh kH, .slice (some ⟨bN, oN, none⟩) g.nn kN, .int .i64 g.out] 50)).heap.size ((w.alloc (.cells #[.int .i64 g.inn, .int .i64 g.rounds, .slice aL g.nl kL, .slice aH g.nh kH, .slice (some ⟨bN, oN, none⟩) g.nn kN, .int .i64 g.out] 50)).alloc (.cells #[.int .i64 2, .int .i64 v1, .int .i64 v2, .int .i64 v3, .int .i64 v4, .slice a1 nv k1] 84)) := (World.Since.refl _ _).alloc (Nat.le_refl _) _
  have nB := Box6.new (w.alloc (.cells #[.int .i64 g.inn, .int .i64 g.rounds, .slice aL g.nl kL, .slice aH g.nh kH, .slice (some ⟨bN, oN, none⟩) g.nn kN, .int .i64 g.out] 50)) (.int .i64 2) (.int .i64 v1) (.int .i64 v2) (.int .i64 v3) (.int .i64 v4) (.slice a1 nv k1) 84
  rw [zA] at nB
  have S2 := sA.trans (sinceMono sB sA.size)
  generalize (w.alloc (.cells #[.int .i64 g.inn, .int .i64 g.rounds, .slice aL g.nl kL, .slice aH g.nh kH, .slice (some ⟨bN, oN, none⟩) g.nn kN, .int .i64 g.out] 50)).alloc (.cells #[.int .i64 2, .int .i64 v1, .int .i64 v2, .int .i64 v3, .int .i64 v4, .slice a1 nv k1] 84) = w2 at *
  refine (l2FormOk_any (NodeD.mk 2 v1 v2 v3 v4 nv V) a1 lo k1 w2 hd (M.L.keep S2)).mono ?_
  rintro e w3 ⟨⟨r, rfl, hr⟩, s3⟩
  have S3 := S2.trans (sinceMono s3 S2.size)
  have N3 := nB.keep s3
  clear g0 g1 g2 g3 g4 g5 MA
  cases r
  · have E := hide (code_form (D := D) (i := i + 1) (d := (NodeD.mk 2 v1 v2 v3 v4 nv V)) (fun h => by have := hr.2 h; cases this))
    clear hr
    go_wp2
    go_ret
    exact ⟨ret_int E.out.symm, S3⟩
  have F := hide (hr.1 rfl)
  clear hr
  have q0 := N3.c0
  have q1 := N3.c1
  have q2 := N3.c2
  have q3 := N3.c3
  have q4 := N3.c4
  have q5 := N3.c5
  go_wp2_with fail
  refine (l2In_any v1 0 (i : Int) w3).mono ?_
  rintro e w4 ⟨⟨r, rfl, hr⟩, hw4⟩
  have hw5 := hw4.symm
  clear hw4
  subst hw5
  cases r
  · have E := hide (code_src (D := D) (i := i + 1) F.out (fun h => by have h2 : 0 ≤ v1 ∧ v1 < ((i + 1 : Nat) : Int) := ⟨h.1, h.2.1⟩; have := hr.2 (by unfold InP; omega); cases this))
    clear hr
    go_wp2
    go_ret
    exact ⟨ret_int E.out.symm, S3⟩
  have IA := hide (hr.1 rfl)
  clear hr
  have JB := l2UsesB_eq 2 false w3 (by decide)
  go_wp2_with fail
  refine JB.mono ?_
  rintro e w4 ⟨rfl, hw4⟩
  have hw5 := hw4.symm
  clear hw4
  subst hw5
  clear JB
  have G := hide (show SrcOk (NodeD.mk 2 v1 v2 v3 v4 nv V) (i + 1) from ⟨by have h : 0 ≤ v1 ∧ v1 ≤ i := IA.out; exact h.1, by have h : 0 ≤ v1 ∧ v1 ≤ i := IA.out; show v1 < ((i + 1 : Nat) : Int); omega, fun h => (by cases h)⟩)
  obtain ⟨j, hj⟩ : ∃ j : Nat, v1 = j := ⟨v1.toNat, by have h : 0 ≤ v1 ∧ v1 ≤ i := IA.out; omega⟩
  subst hj
  have hjn : j < i + 1 := by have h : 0 ≤ (j : Int) ∧ (j : Int) ≤ i := IA.out; omega
  obtain ⟨x, hx⟩ : ∃ x, D j = x := ⟨_, rfl⟩
  have hDj := hD j hjn
  rw [hx] at hDj
  obtain ⟨ed, gx⟩ := (HD.keep S3) j hjn
  rw [Nat.zero_add, hx] at gx
  subst ed
  have hz2 : (j : Int) < ((i + 1 : Nat) : Int) := by omega
  have E := hide (show nodeCode D (i + 1) (NodeD.mk 2 (j : Int) v2 v3 v4 nv V) = 0 by rw [code_shape F.out G.out]; simp [shapeCode])
  go_wp2
  go_ret
  exact ⟨ret_int E.out.symm, S3⟩

end Go.Proofs.YtkhpggnnpfckdaaGreatDoor

namespace Go.Proofs.YtkhpggnnpfckdaaGreatDoor
open Go.RowKit

set_option maxHeartbeats 6400000 in
set_option maxRecDepth 100000 in
theorem l2NodeCode3 (g : GraphD) (v1 v2 v3 v4 : Int) (nv : Nat) (V : Nat → RatD) (aL aH : Option Addr) (lo kL kH kN bN oN : Nat) (a1 : Option Addr) (k1 i : Nat) (aD : Option Addr) (bD cD : Nat) (D : Nat → Int) (w : World) (hd : (NodeD.mk 3 v1 v2 v3 v4 nv V).size ≤ 1048576) (M : NodM w lo bN (oN + i * 6) (NodeD.mk 3 v1 v2 v3 v4 nv V) a1 k1) (hi : i < g.nn) (hnn : g.nn ≤ 1000) (HD : Ints w aD bD 0 (i + 1) D) (hD : Dok D (i + 1)) :
    Calls Tryz.prog 48 #[.agg #[.int .i64 g.inn, .int .i64 g.rounds, .slice aL g.nl kL, .slice aH g.nh kH, .slice (some ⟨bN, oN, none⟩) g.nn kN, .int .i64 g.out], .slice aD (i + 1) cD, .int .i64 ((i + 1 : Nat) : Int)] w fun e w' => e = .returned (.int .i64 (nodeCode D (i + 1) (NodeD.mk 3 v1 v2 v3 v4 nv V))) ∧ w.Since w.heap.size w' := by
  have sA : w.Since w.heap.size (w.alloc (.cells #[.int .i64 g.inn, .int .i64 g.rounds, .slice aL g.nl kL, .slice aH g.nh kH, .slice (some ⟨bN, oN, none⟩) g.nn kN, .int .i64 g.out] 50)) := (World.Since.refl _ _).alloc (Nat.le_refl _) _
  have zA : (w.alloc (.cells #[.int .i64 g.inn, .int .i64 g.rounds, .slice aL g.nl kL, .slice aH g.nh kH, .slice (some ⟨bN, oN, none⟩) g.nn kN, .int .i64 g.out] 50)).heap.size = w.heap.size + 1 := by simp
  have MA := M.keep sA
  have g0 := MA.c0
  have g1 := MA.c1
  have g2 := MA.c2
  have g3 := MA.c3
  have g4 := MA.c4
  have g5 := MA.c5
  have hz : (i : Int) < (g.nn : Int) := by omega
  go_enter Tryz.func48, Tryz.ntmps48
  go_wp2_with fail
  have sB : (w.alloc (.cells #[.int .i64 g.inn, .int .i64 g.rounds, .slice aL g.nl kL, .slice aH g.nh kH, .slice (some ⟨bN, oN, none⟩) g.nn kN, .int .i64 g.out] 50)).Since (w.alloc (.cells #[.int .i64 g.inn, .int .i64 g.rounds, .slice aL g.nl kL, .slice aH g.nh kH, .slice (some ⟨bN, oN, none⟩) g.nn kN, .int .i64 g.out] 50)).heap.size ((w.alloc (.cells #[.int .i64 g.inn, .int .i64 g.rounds, .slice aL g.nl kL, .slice aH g.nh kH, .slice (some ⟨bN, oN, none⟩) g.nn kN, .int .i64 g.out] 50)).alloc (.cells #[.int .i64 3, .int .i64 v1, .int .i64 v2, .int .i64 v3, .int .i64 v4, .slice a1 nv k1] 84)) := (World.Since.refl _ _).alloc (Nat.le_refl _) _
  have nB := Box6.new (w.alloc (.cells #[.int .i64 g.inn, .int .i64 g.rounds, .slice aL g.nl kL, .slice aH g.nh kH, .slice (some ⟨bN, oN, none⟩) g.nn kN, .int .i64 g.out] 50)) (.int .i64 3) (.int .i64 v1) (.int .i64 v2) (.int .i64 v3) (.int .i64 v4) (.slice a1 nv k1) 84
  rw [zA] at nB
  have S2 := sA.trans (sinceMono sB sA.size)
  generalize (w.alloc (.cells #[.int .i64 g.inn, .int .i64 g.rounds, .slice aL g.nl kL, .slice aH g.nh kH, .slice (some ⟨bN, oN, none⟩) g.nn kN, .int .i64 g.out] 50)).alloc (.cells #[.int .i64 3, .int .i64 v1, .int .i64 v2, .int .i64 v3, .int .i64 v4, .slice a1 nv k1] 84) = w2 at *
  refine (l2FormOk_any (NodeD.mk 3 v1 v2 v3 v4 nv V) a1 lo k1 w2 hd (M.L.keep S2)).mono ?_
  rintro e w3 ⟨⟨r, rfl, hr⟩, s3⟩
  have S3 := S2.trans (sinceMono s3 S2.size)
  have N3 := nB.keep s3
  clear g0 g1 g2 g3 g4 g5 MA
  cases r
  · have E := hide (code_form (D := D) (i := i + 1) (d := (NodeD.mk 3 v1 v2 v3 v4 nv V)) (fun h => by have := hr.2 h; cases this))
    clear hr
    go_wp2
    go_ret
    exact ⟨ret_int E.out.symm, S3⟩
  have F := hide (hr.1 rfl)
  clear hr
  have q0 := N3.c0
  have q1 := N3.c1
  have q2 := N3.c2
  have q3 := N3.c3
  have q4 := N3.c4
  have q5 := N3.c5
  go_wp2_with fail
  refine (l2In_any v1 0 (i : Int) w3).mono ?_
  rintro e w4 ⟨⟨r, rfl, hr⟩, hw4⟩
  have hw5 := hw4.symm
  clear hw4
  subst hw5
  cases r
  · have E := hide (code_src (D := D) (i := i + 1) F.out (fun h => by have h2 : 0 ≤ v1 ∧ v1 < ((i + 1 : Nat) : Int) := ⟨h.1, h.2.1⟩; have := hr.2 (by unfold InP; omega); cases this))
    clear hr
    go_wp2
    go_ret
    exact ⟨ret_int E.out.symm, S3⟩
  have IA := hide (hr.1 rfl)
  clear hr
  have JB := l2UsesB_eq 3 false w3 (by decide)
  go_wp2_with fail
  refine JB.mono ?_
  rintro e w4 ⟨rfl, hw4⟩
  have hw5 := hw4.symm
  clear hw4
  subst hw5
  clear JB
  have G := hide (show SrcOk (NodeD.mk 3 v1 v2 v3 v4 nv V) (i + 1) from ⟨by have h : 0 ≤ v1 ∧ v1 ≤ i := IA.out; exact h.1, by have h : 0 ≤ v1 ∧ v1 ≤ i := IA.out; show v1 < ((i + 1 : Nat) : Int); omega, fun h => (by cases h)⟩)
  obtain ⟨j, hj⟩ : ∃ j : Nat, v1 = j := ⟨v1.toNat, by have h : 0 ≤ v1 ∧ v1 ≤ i := IA.out; omega⟩
  subst hj
  have hjn : j < i + 1 := by have h : 0 ≤ (j : Int) ∧ (j : Int) ≤ i := IA.out; omega
  obtain ⟨x, hx⟩ : ∃ x, D j = x := ⟨_, rfl⟩
  have hDj := hD j hjn
  rw [hx] at hDj
  obtain ⟨ed, gx⟩ := (HD.keep S3) j hjn
  rw [Nat.zero_add, hx] at gx
  subst ed
  have hz2 : (j : Int) < ((i + 1 : Nat) : Int) := by omega
  have E := hide (show nodeCode D (i + 1) (NodeD.mk 3 (j : Int) v2 v3 v4 nv V) = 0 by rw [code_shape F.out G.out]; simp [shapeCode])
  go_wp2
  go_ret
  exact ⟨ret_int E.out.symm, S3⟩

set_option maxHeartbeats 6400000 in
set_option maxRecDepth 100000 in
theorem l2NodeCode4 (g : GraphD) (v1 v2 v3 v4 : Int) (nv : Nat) (V : Nat → RatD) (aL aH : Option Addr) (lo kL kH kN bN oN : Nat) (a1 : Option Addr) (k1 i : Nat) (aD : Option Addr) (bD cD : Nat) (D : Nat → Int) (w : World) (hd : (NodeD.mk 4 v1 v2 v3 v4 nv V).size ≤ 1048576) (M : NodM w lo bN (oN + i * 6) (NodeD.mk 4 v1 v2 v3 v4 nv V) a1 k1) (hi : i < g.nn) (hnn : g.nn ≤ 1000) (HD : Ints w aD bD 0 (i + 1) D) (hD : Dok D (i + 1)) :
    Calls Tryz.prog 48 #[.agg #[.int .i64 g.inn, .int .i64 g.rounds, .slice aL g.nl kL, .slice aH g.nh kH, .slice (some ⟨bN, oN, none⟩) g.nn kN, .int .i64 g.out], .slice aD (i + 1) cD, .int .i64 ((i + 1 : Nat) : Int)] w fun e w' => e = .returned (.int .i64 (nodeCode D (i + 1) (NodeD.mk 4 v1 v2 v3 v4 nv V))) ∧ w.Since w.heap.size w' := by
  have sA : w.Since w.heap.size (w.alloc (.cells #[.int .i64 g.inn, .int .i64 g.rounds, .slice aL g.nl kL, .slice aH g.nh kH, .slice (some ⟨bN, oN, none⟩) g.nn kN, .int .i64 g.out] 50)) := (World.Since.refl _ _).alloc (Nat.le_refl _) _
  have zA : (w.alloc (.cells #[.int .i64 g.inn, .int .i64 g.rounds, .slice aL g.nl kL, .slice aH g.nh kH, .slice (some ⟨bN, oN, none⟩) g.nn kN, .int .i64 g.out] 50)).heap.size = w.heap.size + 1 := by simp
  have MA := M.keep sA
  have g0 := MA.c0
  have g1 := MA.c1
  have g2 := MA.c2
  have g3 := MA.c3
  have g4 := MA.c4
  have g5 := MA.c5
  have hz : (i : Int) < (g.nn : Int) := by omega
  go_enter Tryz.func48, Tryz.ntmps48
  go_wp2_with fail
  have sB : (w.alloc (.cells #[.int .i64 g.inn, .int .i64 g.rounds, .slice aL g.nl kL, .slice aH g.nh kH, .slice (some ⟨bN, oN, none⟩) g.nn kN, .int .i64 g.out] 50)).Since (w.alloc (.cells #[.int .i64 g.inn, .int .i64 g.rounds, .slice aL g.nl kL, .slice aH g.nh kH, .slice (some ⟨bN, oN, none⟩) g.nn kN, .int .i64 g.out] 50)).heap.size ((w.alloc (.cells #[.int .i64 g.inn, .int .i64 g.rounds, .slice aL g.nl kL, .slice aH g.nh kH, .slice (some ⟨bN, oN, none⟩) g.nn kN, .int .i64 g.out] 50)).alloc (.cells #[.int .i64 4, .int .i64 v1, .int .i64 v2, .int .i64 v3, .int .i64 v4, .slice a1 nv k1] 84)) := (World.Since.refl _ _).alloc (Nat.le_refl _) _
  have nB := Box6.new (w.alloc (.cells #[.int .i64 g.inn, .int .i64 g.rounds, .slice aL g.nl kL, .slice aH g.nh kH, .slice (some ⟨bN, oN, none⟩) g.nn kN, .int .i64 g.out] 50)) (.int .i64 4) (.int .i64 v1) (.int .i64 v2) (.int .i64 v3) (.int .i64 v4) (.slice a1 nv k1) 84
  rw [zA] at nB
  have S2 := sA.trans (sinceMono sB sA.size)
  generalize (w.alloc (.cells #[.int .i64 g.inn, .int .i64 g.rounds, .slice aL g.nl kL, .slice aH g.nh kH, .slice (some ⟨bN, oN, none⟩) g.nn kN, .int .i64 g.out] 50)).alloc (.cells #[.int .i64 4, .int .i64 v1, .int .i64 v2, .int .i64 v3, .int .i64 v4, .slice a1 nv k1] 84) = w2 at *
  refine (l2FormOk_any (NodeD.mk 4 v1 v2 v3 v4 nv V) a1 lo k1 w2 hd (M.L.keep S2)).mono ?_
  rintro e w3 ⟨⟨r, rfl, hr⟩, s3⟩
  have S3 := S2.trans (sinceMono s3 S2.size)
  have N3 := nB.keep s3
  clear g0 g1 g2 g3 g4 g5 MA
  cases r
  · have E := hide (code_form (D := D) (i := i + 1) (d := (NodeD.mk 4 v1 v2 v3 v4 nv V)) (fun h => by have := hr.2 h; cases this))
    clear hr
    go_wp2
    go_ret
    exact ⟨ret_int E.out.symm, S3⟩
  have F := hide (hr.1 rfl)
  clear hr
  have q0 := N3.c0
  have q1 := N3.c1
  have q2 := N3.c2
  have q3 := N3.c3
  have q4 := N3.c4
  have q5 := N3.c5
  go_wp2_with fail
  refine (l2In_any v1 0 (i : Int) w3).mono ?_
  rintro e w4 ⟨⟨r, rfl, hr⟩, hw4⟩
  have hw5 := hw4.symm
  clear hw4
  subst hw5
  cases r
  · have E := hide (code_src (D := D) (i := i + 1) F.out (fun h => by have h2 : 0 ≤ v1 ∧ v1 < ((i + 1 : Nat) : Int) := ⟨h.1, h.2.1⟩; have := hr.2 (by unfold InP; omega); cases this))
    clear hr
    go_wp2
    go_ret
    exact ⟨ret_int E.out.symm, S3⟩
  have IA := hide (hr.1 rfl)
  clear hr
  have JB := l2UsesB_eq 4 true w3 (by decide)
  go_wp2_with fail
  refine JB.mono ?_
  rintro e w4 ⟨rfl, hw4⟩
  have hw5 := hw4.symm
  clear hw4
  subst hw5
  clear JB
  go_wp2_with fail
  refine (l2In_any v2 0 (i : Int) w3).mono ?_
  rintro e w4 ⟨⟨r, rfl, hr⟩, hw4⟩
  have hw5 := hw4.symm
  clear hw4
  subst hw5
  cases r
  · have E := hide (code_src (D := D) (i := i + 1) F.out (fun h => by have h2 : 0 ≤ v2 ∧ v2 < ((i + 1 : Nat) : Int) := h.2.2 rfl; have := hr.2 (by unfold InP; omega); cases this))
    clear hr
    go_wp2
    go_ret
    exact ⟨ret_int E.out.symm, S3⟩
  have IB := hide (hr.1 rfl)
  clear hr
  have G := hide (show SrcOk (NodeD.mk 4 v1 v2 v3 v4 nv V) (i + 1) from ⟨by have h : 0 ≤ v1 ∧ v1 ≤ i := IA.out; exact h.1, by have h : 0 ≤ v1 ∧ v1 ≤ i := IA.out; show v1 < ((i + 1 : Nat) : Int); omega, fun _ => by have h : 0 ≤ v2 ∧ v2 ≤ i := IB.out; show 0 ≤ v2 ∧ v2 < ((i + 1 : Nat) : Int); omega⟩)
  obtain ⟨j, hj⟩ : ∃ j : Nat, v1 = j := ⟨v1.toNat, by have h : 0 ≤ v1 ∧ v1 ≤ i := IA.out; omega⟩
  subst hj
  have hjn : j < i + 1 := by have h : 0 ≤ (j : Int) ∧ (j : Int) ≤ i := IA.out; omega
  obtain ⟨x, hx⟩ : ∃ x, D j = x := ⟨_, rfl⟩
  have hDj := hD j hjn
  rw [hx] at hDj
  obtain ⟨ed, gx⟩ := (HD.keep S3) j hjn
  rw [Nat.zero_add, hx] at gx
  subst ed
  have hz2 : (j : Int) < ((i + 1 : Nat) : Int) := by omega
  obtain ⟨i2, hi2⟩ : ∃ i2 : Nat, v2 = i2 := ⟨v2.toNat, by have h : 0 ≤ v2 ∧ v2 ≤ i := IB.out; omega⟩
  subst hi2
  have hi3 : i2 < i + 1 := by have h : 0 ≤ (i2 : Int) ∧ (i2 : Int) ≤ i := IB.out; omega
  obtain ⟨-, gy⟩ := (HD.keep S3) i2 hi3
  rw [Nat.zero_add] at gy
  have hz3 : (i2 : Int) < ((i + 1 : Nat) : Int) := by omega
  obtain ⟨y, hy⟩ : ∃ y, D i2 = y := ⟨_, rfl⟩
  rw [hy] at gy
  by_cases h : y = x
  · have E := hide (show nodeCode D (i + 1) (NodeD.mk 4 (j : Int) (i2 : Int) v3 v4 nv V) = 0 by rw [code_shape F.out G.out]; simp [shapeCode, hx, hy, h])
    have tq : (y != x) = false := by simp [h]
    clear h
    go_wp2
    go_ret
    exact ⟨ret_int E.out.symm, S3⟩
  · have E := hide (show nodeCode D (i + 1) (NodeD.mk 4 (j : Int) (i2 : Int) v3 v4 nv V) = 14 by rw [code_shape F.out G.out]; simp [shapeCode, hx, hy, h])
    have tq : (y != x) = true := by simp [h]
    clear h
    go_wp2
    go_ret
    exact ⟨ret_int E.out.symm, S3⟩

set_option maxHeartbeats 6400000 in
set_option maxRecDepth 100000 in
theorem l2NodeCode5 (g : GraphD) (v1 v2 v3 v4 : Int) (nv : Nat) (V : Nat → RatD) (aL aH : Option Addr) (lo kL kH kN bN oN : Nat) (a1 : Option Addr) (k1 i : Nat) (aD : Option Addr) (bD cD : Nat) (D : Nat → Int) (w : World) (hd : (NodeD.mk 5 v1 v2 v3 v4 nv V).size ≤ 1048576) (M : NodM w lo bN (oN + i * 6) (NodeD.mk 5 v1 v2 v3 v4 nv V) a1 k1) (hi : i < g.nn) (hnn : g.nn ≤ 1000) (HD : Ints w aD bD 0 (i + 1) D) (hD : Dok D (i + 1)) :
    Calls Tryz.prog 48 #[.agg #[.int .i64 g.inn, .int .i64 g.rounds, .slice aL g.nl kL, .slice aH g.nh kH, .slice (some ⟨bN, oN, none⟩) g.nn kN, .int .i64 g.out], .slice aD (i + 1) cD, .int .i64 ((i + 1 : Nat) : Int)] w fun e w' => e = .returned (.int .i64 (nodeCode D (i + 1) (NodeD.mk 5 v1 v2 v3 v4 nv V))) ∧ w.Since w.heap.size w' := by
  have sA : w.Since w.heap.size (w.alloc (.cells #[.int .i64 g.inn, .int .i64 g.rounds, .slice aL g.nl kL, .slice aH g.nh kH, .slice (some ⟨bN, oN, none⟩) g.nn kN, .int .i64 g.out] 50)) := (World.Since.refl _ _).alloc (Nat.le_refl _) _
  have zA : (w.alloc (.cells #[.int .i64 g.inn, .int .i64 g.rounds, .slice aL g.nl kL, .slice aH g.nh kH, .slice (some ⟨bN, oN, none⟩) g.nn kN, .int .i64 g.out] 50)).heap.size = w.heap.size + 1 := by simp
  have MA := M.keep sA
  have g0 := MA.c0
  have g1 := MA.c1
  have g2 := MA.c2
  have g3 := MA.c3
  have g4 := MA.c4
  have g5 := MA.c5
  have hz : (i : Int) < (g.nn : Int) := by omega
  go_enter Tryz.func48, Tryz.ntmps48
  go_wp2_with fail
  have sB : (w.alloc (.cells #[.int .i64 g.inn, .int .i64 g.rounds, .slice aL g.nl kL, .slice aH g.nh kH, .slice (some ⟨bN, oN, none⟩) g.nn kN, .int .i64 g.out] 50)).Since (w.alloc (.cells #[.int .i64 g.inn, .int .i64 g.rounds, .slice aL g.nl kL, .slice aH g.nh kH, .slice (some ⟨bN, oN, none⟩) g.nn kN, .int .i64 g.out] 50)).heap.size ((w.alloc (.cells #[.int .i64 g.inn, .int .i64 g.rounds, .slice aL g.nl kL, .slice aH g.nh kH, .slice (some ⟨bN, oN, none⟩) g.nn kN, .int .i64 g.out] 50)).alloc (.cells #[.int .i64 5, .int .i64 v1, .int .i64 v2, .int .i64 v3, .int .i64 v4, .slice a1 nv k1] 84)) := (World.Since.refl _ _).alloc (Nat.le_refl _) _
  have nB := Box6.new (w.alloc (.cells #[.int .i64 g.inn, .int .i64 g.rounds, .slice aL g.nl kL, .slice aH g.nh kH, .slice (some ⟨bN, oN, none⟩) g.nn kN, .int .i64 g.out] 50)) (.int .i64 5) (.int .i64 v1) (.int .i64 v2) (.int .i64 v3) (.int .i64 v4) (.slice a1 nv k1) 84
  rw [zA] at nB
  have S2 := sA.trans (sinceMono sB sA.size)
  generalize (w.alloc (.cells #[.int .i64 g.inn, .int .i64 g.rounds, .slice aL g.nl kL, .slice aH g.nh kH, .slice (some ⟨bN, oN, none⟩) g.nn kN, .int .i64 g.out] 50)).alloc (.cells #[.int .i64 5, .int .i64 v1, .int .i64 v2, .int .i64 v3, .int .i64 v4, .slice a1 nv k1] 84) = w2 at *
  refine (l2FormOk_any (NodeD.mk 5 v1 v2 v3 v4 nv V) a1 lo k1 w2 hd (M.L.keep S2)).mono ?_
  rintro e w3 ⟨⟨r, rfl, hr⟩, s3⟩
  have S3 := S2.trans (sinceMono s3 S2.size)
  have N3 := nB.keep s3
  clear g0 g1 g2 g3 g4 g5 MA
  cases r
  · have E := hide (code_form (D := D) (i := i + 1) (d := (NodeD.mk 5 v1 v2 v3 v4 nv V)) (fun h => by have := hr.2 h; cases this))
    clear hr
    go_wp2
    go_ret
    exact ⟨ret_int E.out.symm, S3⟩
  have F := hide (hr.1 rfl)
  clear hr
  have q0 := N3.c0
  have q1 := N3.c1
  have q2 := N3.c2
  have q3 := N3.c3
  have q4 := N3.c4
  have q5 := N3.c5
  go_wp2_with fail
  refine (l2In_any v1 0 (i : Int) w3).mono ?_
  rintro e w4 ⟨⟨r, rfl, hr⟩, hw4⟩
  have hw5 := hw4.symm
  clear hw4
  subst hw5
  cases r
  · have E := hide (code_src (D := D) (i := i + 1) F.out (fun h => by have h2 : 0 ≤ v1 ∧ v1 < ((i + 1 : Nat) : Int) := ⟨h.1, h.2.1⟩; have := hr.2 (by unfold InP; omega); cases this))
    clear hr
    go_wp2
    go_ret
    exact ⟨ret_int E.out.symm, S3⟩
  have IA := hide (hr.1 rfl)
  clear hr
  have JB := l2UsesB_eq 5 false w3 (by decide)
  go_wp2_with fail
  refine JB.mono ?_
  rintro e w4 ⟨rfl, hw4⟩
  have hw5 := hw4.symm
  clear hw4
  subst hw5
  clear JB
  have G := hide (show SrcOk (NodeD.mk 5 v1 v2 v3 v4 nv V) (i + 1) from ⟨by have h : 0 ≤ v1 ∧ v1 ≤ i := IA.out; exact h.1, by have h : 0 ≤ v1 ∧ v1 ≤ i := IA.out; show v1 < ((i + 1 : Nat) : Int); omega, fun h => (by cases h)⟩)
  obtain ⟨j, hj⟩ : ∃ j : Nat, v1 = j := ⟨v1.toNat, by have h : 0 ≤ v1 ∧ v1 ≤ i := IA.out; omega⟩
  subst hj
  have hjn : j < i + 1 := by have h : 0 ≤ (j : Int) ∧ (j : Int) ≤ i := IA.out; omega
  obtain ⟨x, hx⟩ : ∃ x, D j = x := ⟨_, rfl⟩
  have hDj := hD j hjn
  rw [hx] at hDj
  obtain ⟨ed, gx⟩ := (HD.keep S3) j hjn
  rw [Nat.zero_add, hx] at gx
  subst ed
  have hz2 : (j : Int) < ((i + 1 : Nat) : Int) := by omega
  have hk : 1 ≤ v3 ∧ v3 ≤ 1000 := F.out.k
  have hk0 : ¬ v3 = 0 := by omega
  have p1 : x.tmod v3 = x % v3 := Int.tmod_eq_emod_of_nonneg (by omega)
  obtain ⟨y, hy⟩ : ∃ y, y = x % v3 := ⟨_, rfl⟩
  rw [← hy] at p1
  by_cases h : y = 0
  · have E := hide (show nodeCode D (i + 1) (NodeD.mk 5 (j : Int) v2 v3 v4 nv V) = 0 by rw [code_shape F.out G.out]; rw [h] at hy; simp [shapeCode, hx, ← hy])
    have tq : (y != 0) = false := by simp [h]
    clear h hy
    go_wp2
    go_ret
    exact ⟨ret_int E.out.symm, S3⟩
  · have E := hide (show nodeCode D (i + 1) (NodeD.mk 5 (j : Int) v2 v3 v4 nv V) = 14 by rw [code_shape F.out G.out]; rw [hy] at h; simp [shapeCode, hx, h])
    have tq : (y != 0) = true := by simp [h]
    clear h hy
    go_wp2
    go_ret
    exact ⟨ret_int E.out.symm, S3⟩

end Go.Proofs.YtkhpggnnpfckdaaGreatDoor

namespace Go.Proofs.YtkhpggnnpfckdaaGreatDoor
open Go.RowKit

set_option maxHeartbeats 6400000 in
set_option maxRecDepth 100000 in
theorem l2NodeCode6 (g : GraphD) (v1 v2 v3 v4 : Int) (nv : Nat) (V : Nat → RatD) (aL aH : Option Addr) (lo kL kH kN bN oN : Nat) (a1 : Option Addr) (k1 i : Nat) (aD : Option Addr) (bD cD : Nat) (D : Nat → Int) (w : World) (hd : (NodeD.mk 6 v1 v2 v3 v4 nv V).size ≤ 1048576) (M : NodM w lo bN (oN + i * 6) (NodeD.mk 6 v1 v2 v3 v4 nv V) a1 k1) (hi : i < g.nn) (hnn : g.nn ≤ 1000) (HD : Ints w aD bD 0 (i + 1) D) (hD : Dok D (i + 1)) :
    Calls Tryz.prog 48 #[.agg #[.int .i64 g.inn, .int .i64 g.rounds, .slice aL g.nl kL, .slice aH g.nh kH, .slice (some ⟨bN, oN, none⟩) g.nn kN, .int .i64 g.out], .slice aD (i + 1) cD, .int .i64 ((i + 1 : Nat) : Int)] w fun e w' => e = .returned (.int .i64 (nodeCode D (i + 1) (NodeD.mk 6 v1 v2 v3 v4 nv V))) ∧ w.Since w.heap.size w' := by
  have sA : w.Since w.heap.size (w.alloc (.cells #[.int .i64 g.inn, .int .i64 g.rounds, .slice aL g.nl kL, .slice aH g.nh kH, .slice (some ⟨bN, oN, none⟩) g.nn kN, .int .i64 g.out] 50)) := (World.Since.refl _ _).alloc (Nat.le_refl _) _
  have zA : (w.alloc (.cells #[.int .i64 g.inn, .int .i64 g.rounds, .slice aL g.nl kL, .slice aH g.nh kH, .slice (some ⟨bN, oN, none⟩) g.nn kN, .int .i64 g.out] 50)).heap.size = w.heap.size + 1 := by simp
  have MA := M.keep sA
  have g0 := MA.c0
  have g1 := MA.c1
  have g2 := MA.c2
  have g3 := MA.c3
  have g4 := MA.c4
  have g5 := MA.c5
  have hz : (i : Int) < (g.nn : Int) := by omega
  go_enter Tryz.func48, Tryz.ntmps48
  go_wp2_with fail
  have sB : (w.alloc (.cells #[.int .i64 g.inn, .int .i64 g.rounds, .slice aL g.nl kL, .slice aH g.nh kH, .slice (some ⟨bN, oN, none⟩) g.nn kN, .int .i64 g.out] 50)).Since (w.alloc (.cells #[.int .i64 g.inn, .int .i64 g.rounds, .slice aL g.nl kL, .slice aH g.nh kH, .slice (some ⟨bN, oN, none⟩) g.nn kN, .int .i64 g.out] 50)).heap.size ((w.alloc (.cells #[.int .i64 g.inn, .int .i64 g.rounds, .slice aL g.nl kL, .slice aH g.nh kH, .slice (some ⟨bN, oN, none⟩) g.nn kN, .int .i64 g.out] 50)).alloc (.cells #[.int .i64 6, .int .i64 v1, .int .i64 v2, .int .i64 v3, .int .i64 v4, .slice a1 nv k1] 84)) := (World.Since.refl _ _).alloc (Nat.le_refl _) _
  have nB := Box6.new (w.alloc (.cells #[.int .i64 g.inn, .int .i64 g.rounds, .slice aL g.nl kL, .slice aH g.nh kH, .slice (some ⟨bN, oN, none⟩) g.nn kN, .int .i64 g.out] 50)) (.int .i64 6) (.int .i64 v1) (.int .i64 v2) (.int .i64 v3) (.int .i64 v4) (.slice a1 nv k1) 84
  rw [zA] at nB
  have S2 := sA.trans (sinceMono sB sA.size)
  generalize (w.alloc (.cells #[.int .i64 g.inn, .int .i64 g.rounds, .slice aL g.nl kL, .slice aH g.nh kH, .slice (some ⟨bN, oN, none⟩) g.nn kN, .int .i64 g.out] 50)).alloc (.cells #[.int .i64 6, .int .i64 v1, .int .i64 v2, .int .i64 v3, .int .i64 v4, .slice a1 nv k1] 84) = w2 at *
  refine (l2FormOk_any (NodeD.mk 6 v1 v2 v3 v4 nv V) a1 lo k1 w2 hd (M.L.keep S2)).mono ?_
  rintro e w3 ⟨⟨r, rfl, hr⟩, s3⟩
  have S3 := S2.trans (sinceMono s3 S2.size)
  have N3 := nB.keep s3
  clear g0 g1 g2 g3 g4 g5 MA
  cases r
  · have E := hide (code_form (D := D) (i := i + 1) (d := (NodeD.mk 6 v1 v2 v3 v4 nv V)) (fun h => by have := hr.2 h; cases this))
    clear hr
    go_wp2
    go_ret
    exact ⟨ret_int E.out.symm, S3⟩
  have F := hide (hr.1 rfl)
  clear hr
  have q0 := N3.c0
  have q1 := N3.c1
  have q2 := N3.c2
  have q3 := N3.c3
  have q4 := N3.c4
  have q5 := N3.c5
  go_wp2_with fail
  refine (l2In_any v1 0 (i : Int) w3).mono ?_
  rintro e w4 ⟨⟨r, rfl, hr⟩, hw4⟩
  have hw5 := hw4.symm
  clear hw4
  subst hw5
  cases r
  · have E := hide (code_src (D := D) (i := i + 1) F.out (fun h => by have h2 : 0 ≤ v1 ∧ v1 < ((i + 1 : Nat) : Int) := ⟨h.1, h.2.1⟩; have := hr.2 (by unfold InP; omega); cases this))
    clear hr
    go_wp2
    go_ret
    exact ⟨ret_int E.out.symm, S3⟩
  have IA := hide (hr.1 rfl)
  clear hr
  have JB := l2UsesB_eq 6 false w3 (by decide)
  go_wp2_with fail
  refine JB.mono ?_
  rintro e w4 ⟨rfl, hw4⟩
  have hw5 := hw4.symm
  clear hw4
  subst hw5
  clear JB
  have G := hide (show SrcOk (NodeD.mk 6 v1 v2 v3 v4 nv V) (i + 1) from ⟨by have h : 0 ≤ v1 ∧ v1 ≤ i := IA.out; exact h.1, by have h : 0 ≤ v1 ∧ v1 ≤ i := IA.out; show v1 < ((i + 1 : Nat) : Int); omega, fun h => (by cases h)⟩)
  obtain ⟨j, hj⟩ : ∃ j : Nat, v1 = j := ⟨v1.toNat, by have h : 0 ≤ v1 ∧ v1 ≤ i := IA.out; omega⟩
  subst hj
  have hjn : j < i + 1 := by have h : 0 ≤ (j : Int) ∧ (j : Int) ≤ i := IA.out; omega
  obtain ⟨x, hx⟩ : ∃ x, D j = x := ⟨_, rfl⟩
  have hDj := hD j hjn
  rw [hx] at hDj
  obtain ⟨ed, gx⟩ := (HD.keep S3) j hjn
  rw [Nat.zero_add, hx] at gx
  subst ed
  have hz2 : (j : Int) < ((i + 1 : Nat) : Int) := by omega
  have hk : 1 ≤ v3 ∧ v3 ≤ 1000 := F.out.k
  have hv : nv ≤ 1048576 := by have h : nv + szR V nv ≤ 1048576 := hd; omega
  by_cases h : x < v3
  · have E := hide (show nodeCode D (i + 1) (NodeD.mk 6 (j : Int) v2 v3 v4 nv V) = 14 by rw [code_shape F.out G.out]; simp [shapeCode, hx, h])
    go_wp2
    go_ret
    exact ⟨ret_int E.out.symm, S3⟩
  by_cases h2 : (nv : Int) = v3 + 1
  · have E := hide (show nodeCode D (i + 1) (NodeD.mk 6 (j : Int) v2 v3 v4 nv V) = 0 by rw [code_shape F.out G.out]; simp [shapeCode, hx, h2]; omega)
    have tq : ((nv : Int) != v3 + 1) = false := by simp [h2]
    clear h2
    go_wp2
    go_ret
    exact ⟨ret_int E.out.symm, S3⟩
  · have E := hide (show nodeCode D (i + 1) (NodeD.mk 6 (j : Int) v2 v3 v4 nv V) = 14 by rw [code_shape F.out G.out]; simp [shapeCode, hx, h2])
    have tq : ((nv : Int) != v3 + 1) = true := by simp [h2]
    clear h2
    go_wp2
    go_ret
    exact ⟨ret_int E.out.symm, S3⟩

set_option maxHeartbeats 6400000 in
set_option maxRecDepth 100000 in
theorem l2NodeCode7 (g : GraphD) (v1 v2 v3 v4 : Int) (nv : Nat) (V : Nat → RatD) (aL aH : Option Addr) (lo kL kH kN bN oN : Nat) (a1 : Option Addr) (k1 i : Nat) (aD : Option Addr) (bD cD : Nat) (D : Nat → Int) (w : World) (hd : (NodeD.mk 7 v1 v2 v3 v4 nv V).size ≤ 1048576) (M : NodM w lo bN (oN + i * 6) (NodeD.mk 7 v1 v2 v3 v4 nv V) a1 k1) (hi : i < g.nn) (hnn : g.nn ≤ 1000) (HD : Ints w aD bD 0 (i + 1) D) (hD : Dok D (i + 1)) :
    Calls Tryz.prog 48 #[.agg #[.int .i64 g.inn, .int .i64 g.rounds, .slice aL g.nl kL, .slice aH g.nh kH, .slice (some ⟨bN, oN, none⟩) g.nn kN, .int .i64 g.out], .slice aD (i + 1) cD, .int .i64 ((i + 1 : Nat) : Int)] w fun e w' => e = .returned (.int .i64 (nodeCode D (i + 1) (NodeD.mk 7 v1 v2 v3 v4 nv V))) ∧ w.Since w.heap.size w' := by
  have sA : w.Since w.heap.size (w.alloc (.cells #[.int .i64 g.inn, .int .i64 g.rounds, .slice aL g.nl kL, .slice aH g.nh kH, .slice (some ⟨bN, oN, none⟩) g.nn kN, .int .i64 g.out] 50)) := (World.Since.refl _ _).alloc (Nat.le_refl _) _
  have zA : (w.alloc (.cells #[.int .i64 g.inn, .int .i64 g.rounds, .slice aL g.nl kL, .slice aH g.nh kH, .slice (some ⟨bN, oN, none⟩) g.nn kN, .int .i64 g.out] 50)).heap.size = w.heap.size + 1 := by simp
  have MA := M.keep sA
  have g0 := MA.c0
  have g1 := MA.c1
  have g2 := MA.c2
  have g3 := MA.c3
  have g4 := MA.c4
  have g5 := MA.c5
  have hz : (i : Int) < (g.nn : Int) := by omega
  go_enter Tryz.func48, Tryz.ntmps48
  go_wp2_with fail
  have sB : (w.alloc (.cells #[.int .i64 g.inn, .int .i64 g.rounds, .slice aL g.nl kL, .slice aH g.nh kH, .slice (some ⟨bN, oN, none⟩) g.nn kN, .int .i64 g.out] 50)).Since (w.alloc (.cells #[.int .i64 g.inn, .int .i64 g.rounds, .slice aL g.nl kL, .slice aH g.nh kH, .slice (some ⟨bN, oN, none⟩) g.nn kN, .int .i64 g.out] 50)).heap.size ((w.alloc (.cells #[.int .i64 g.inn, .int .i64 g.rounds, .slice aL g.nl kL, .slice aH g.nh kH, .slice (some ⟨bN, oN, none⟩) g.nn kN, .int .i64 g.out] 50)).alloc (.cells #[.int .i64 7, .int .i64 v1, .int .i64 v2, .int .i64 v3, .int .i64 v4, .slice a1 nv k1] 84)) := (World.Since.refl _ _).alloc (Nat.le_refl _) _
  have nB := Box6.new (w.alloc (.cells #[.int .i64 g.inn, .int .i64 g.rounds, .slice aL g.nl kL, .slice aH g.nh kH, .slice (some ⟨bN, oN, none⟩) g.nn kN, .int .i64 g.out] 50)) (.int .i64 7) (.int .i64 v1) (.int .i64 v2) (.int .i64 v3) (.int .i64 v4) (.slice a1 nv k1) 84
  rw [zA] at nB
  have S2 := sA.trans (sinceMono sB sA.size)
  generalize (w.alloc (.cells #[.int .i64 g.inn, .int .i64 g.rounds, .slice aL g.nl kL, .slice aH g.nh kH, .slice (some ⟨bN, oN, none⟩) g.nn kN, .int .i64 g.out] 50)).alloc (.cells #[.int .i64 7, .int .i64 v1, .int .i64 v2, .int .i64 v3, .int .i64 v4, .slice a1 nv k1] 84) = w2 at *
  refine (l2FormOk_any (NodeD.mk 7 v1 v2 v3 v4 nv V) a1 lo k1 w2 hd (M.L.keep S2)).mono ?_
  rintro e w3 ⟨⟨r, rfl, hr⟩, s3⟩
  have S3 := S2.trans (sinceMono s3 S2.size)
  have N3 := nB.keep s3
  clear g0 g1 g2 g3 g4 g5 MA
  cases r
  · have E := hide (code_form (D := D) (i := i + 1) (d := (NodeD.mk 7 v1 v2 v3 v4 nv V)) (fun h => by have := hr.2 h; cases this))
    clear hr
    go_wp2
    go_ret
    exact ⟨ret_int E.out.symm, S3⟩
  have F := hide (hr.1 rfl)
  clear hr
  have q0 := N3.c0
  have q1 := N3.c1
  have q2 := N3.c2
  have q3 := N3.c3
  have q4 := N3.c4
  have q5 := N3.c5
  go_wp2_with fail
  refine (l2In_any v1 0 (i : Int) w3).mono ?_
  rintro e w4 ⟨⟨r, rfl, hr⟩, hw4⟩
  have hw5 := hw4.symm
  clear hw4
  subst hw5
  cases r
  · have E := hide (code_src (D := D) (i := i + 1) F.out (fun h => by have h2 : 0 ≤ v1 ∧ v1 < ((i + 1 : Nat) : Int) := ⟨h.1, h.2.1⟩; have := hr.2 (by unfold InP; omega); cases this))
    clear hr
    go_wp2
    go_ret
    exact ⟨ret_int E.out.symm, S3⟩
  have IA := hide (hr.1 rfl)
  clear hr
  have JB := l2UsesB_eq 7 false w3 (by decide)
  go_wp2_with fail
  refine JB.mono ?_
  rintro e w4 ⟨rfl, hw4⟩
  have hw5 := hw4.symm
  clear hw4
  subst hw5
  clear JB
  have G := hide (show SrcOk (NodeD.mk 7 v1 v2 v3 v4 nv V) (i + 1) from ⟨by have h : 0 ≤ v1 ∧ v1 ≤ i := IA.out; exact h.1, by have h : 0 ≤ v1 ∧ v1 ≤ i := IA.out; show v1 < ((i + 1 : Nat) : Int); omega, fun h => (by cases h)⟩)
  obtain ⟨j, hj⟩ : ∃ j : Nat, v1 = j := ⟨v1.toNat, by have h : 0 ≤ v1 ∧ v1 ≤ i := IA.out; omega⟩
  subst hj
  have hjn : j < i + 1 := by have h : 0 ≤ (j : Int) ∧ (j : Int) ≤ i := IA.out; omega
  obtain ⟨x, hx⟩ : ∃ x, D j = x := ⟨_, rfl⟩
  have hDj := hD j hjn
  rw [hx] at hDj
  obtain ⟨ed, gx⟩ := (HD.keep S3) j hjn
  rw [Nat.zero_add, hx] at gx
  subst ed
  have hz2 : (j : Int) < ((i + 1 : Nat) : Int) := by omega
  have h4 := hide (show nv = 4 from F.out.v7 rfl)
  obtain ⟨bV, oV, -, LV⟩ := (M.L.keep S3).LV
  obtain ⟨ev, y1, y2, l1, l2, MV⟩ := LV 2 (by show 2 < nv; rw [h4.out]; omega)
  have mv1 := MV.c1
  subst ev
  have hz4 : (2 : Int) < (nv : Int) := by rw [h4.out]; decide
  by_cases h : (V 2).n = 0
  · have E := hide (show nodeCode D (i + 1) (NodeD.mk 7 (j : Int) v2 v3 v4 nv V) = 15 by rw [code_shape F.out G.out]; simp [shapeCode, h])
    have tq : (((V 2).n : Int) == 0) = true := by simp [h]
    clear h
    go_wp2
    go_ret
    exact ⟨ret_int E.out.symm, S3⟩
  · have E := hide (show nodeCode D (i + 1) (NodeD.mk 7 (j : Int) v2 v3 v4 nv V) = 0 by rw [code_shape F.out G.out]; simp [shapeCode, h])
    have tq : (((V 2).n : Int) == 0) = false := by simp; omega
    clear h
    go_wp2
    go_ret
    exact ⟨ret_int E.out.symm, S3⟩

end Go.Proofs.YtkhpggnnpfckdaaGreatDoor

namespace Go.Proofs.YtkhpggnnpfckdaaGreatDoor
open Go.RowKit

theorem wrap_id {z : Int} (h0 : -9223372036854775808 ≤ z) (h1 : z ≤ 9223372036854775807) : IntKind.i64.wrap z = z := by
  rw [IntKind.wrap_i64]
  omega

set_option maxHeartbeats 3200000 in
set_option maxRecDepth 100000 in
theorem dim1 (v0 v2 v3 v4 x : Int) (j : Nat) (a1 : Option Addr) (nv k1 : Nat) (aD : Option Addr) (bD n cD : Nat) (D : Nat → Int) (w : World) (HD : Ints w aD bD 0 n D) (hjn : j < n) (hx : D j = x) (_x1 : 1 ≤ x) (_x2 : x ≤ 1000) (c0 : 0 ≤ v3) (c1 : v3 ≤ 1000) (_hv : nv ≤ 1048576) :
    Calls Tryz.prog 185 #[.agg #[.int .i64 v0, .int .i64 (j : Int), .int .i64 v2, .int .i64 v3, .int .i64 v4, .slice a1 nv k1], .slice aD n cD] w fun e w' => e = .returned (.tuple #[.int .i64 (if (nv : Int) = v3 * (x + 1) then v3 else 0), .int .i64 (if (nv : Int) = v3 * (x + 1) then 0 else 14)]) ∧ w.Since w.heap.size w' := by
  have sA : w.Since w.heap.size (w.alloc (.cells #[.int .i64 v0, .int .i64 (j : Int), .int .i64 v2, .int .i64 v3, .int .i64 v4, .slice a1 nv k1] 133)) := (World.Since.refl _ _).alloc (Nat.le_refl _) _
  have hz : (j : Int) < (n : Int) := by omega
  obtain ⟨rfl, g0⟩ := (HD.keep sA) j hjn
  rw [Nat.zero_add, hx] at g0
  have y0 : 0 ≤ v3 * (x + 1) := Int.mul_nonneg c0 (by omega)
  have y1 : v3 * (x + 1) ≤ 1000 * 1001 := Int.mul_le_mul c1 (by omega) (by omega) (by omega)
  obtain ⟨y, hy⟩ : ∃ y, y = v3 * (x + 1) := ⟨_, rfl⟩
  rw [← hy] at y0 y1 ⊢
  have q1 := wrap_id (z := x + 1) (by omega) (by omega)
  have q2 : IntKind.i64.wrap (v3 * (x + 1)) = y := by rw [← hy]; exact wrap_id (by omega) (by omega)
  clear hy
  by_cases h : (nv : Int) = y
  · rw [if_pos h, if_pos h]
    have q3 : ((nv : Int) != y) = false := by simp [h]
    clear h
    go_enter Tryz.func185, Tryz.ntmps185
    go_wp2
    go_region
    go_wp2
    go_ret2
    exact ⟨rfl, sA.drew⟩
  · rw [if_neg h, if_neg h]
    have q3 : ((nv : Int) != y) = true := by simp [h]
    clear h
    go_enter Tryz.func185, Tryz.ntmps185
    go_wp2
    go_region
    go_wp2
    go_ret2
    exact ⟨rfl, sA.drew⟩

set_option maxHeartbeats 3200000 in
set_option maxRecDepth 100000 in
theorem dim2 (v0 v2 v3 v4 x : Int) (j : Nat) (a1 : Option Addr) (nv k1 : Nat) (aD : Option Addr) (bD n cD : Nat) (D : Nat → Int) (w : World) (HD : Ints w aD bD 0 n D) (hjn : j < n) (hx : D j = x) (_x1 : 1 ≤ x) (_x2 : x ≤ 1000) :
    Calls Tryz.prog 188 #[.agg #[.int .i64 v0, .int .i64 (j : Int), .int .i64 v2, .int .i64 v3, .int .i64 v4, .slice a1 nv k1], .slice aD n cD] w fun e w' => e = .returned (.tuple #[.int .i64 x, .int .i64 0]) ∧ w.Since w.heap.size w' := by
  have sA : w.Since w.heap.size (w.alloc (.cells #[.int .i64 v0, .int .i64 (j : Int), .int .i64 v2, .int .i64 v3, .int .i64 v4, .slice a1 nv k1] 135)) := (World.Since.refl _ _).alloc (Nat.le_refl _) _
  have hz : (j : Int) < (n : Int) := by omega
  obtain ⟨rfl, g0⟩ := (HD.keep sA) j hjn
  rw [Nat.zero_add, hx] at g0
  go_enter Tryz.func188, Tryz.ntmps188
  go_wp2
  go_ret2
  exact ⟨rfl, sA⟩

set_option maxHeartbeats 3200000 in
set_option maxRecDepth 100000 in
theorem dim3 (v0 v2 v3 v4 x : Int) (j : Nat) (a1 : Option Addr) (nv k1 : Nat) (aD : Option Addr) (bD n cD : Nat) (D : Nat → Int) (w : World) (HD : Ints w aD bD 0 n D) (hjn : j < n) (hx : D j = x) (_x1 : 1 ≤ x) (_x2 : x ≤ 1000) :
    Calls Tryz.prog 191 #[.agg #[.int .i64 v0, .int .i64 (j : Int), .int .i64 v2, .int .i64 v3, .int .i64 v4, .slice a1 nv k1], .slice aD n cD] w fun e w' => e = .returned (.tuple #[.int .i64 x, .int .i64 0]) ∧ w.Since w.heap.size w' := by
  have sA : w.Since w.heap.size (w.alloc (.cells #[.int .i64 v0, .int .i64 (j : Int), .int .i64 v2, .int .i64 v3, .int .i64 v4, .slice a1 nv k1] 136)) := (World.Since.refl _ _).alloc (Nat.le_refl _) _
  have hz : (j : Int) < (n : Int) := by omega
  obtain ⟨rfl, g0⟩ := (HD.keep sA) j hjn
  rw [Nat.zero_add, hx] at g0
  go_enter Tryz.func191, Tryz.ntmps191
  go_wp2
  go_ret2
  exact ⟨rfl, sA⟩

set_option maxHeartbeats 3200000 in
set_option maxRecDepth 100000 in
theorem dim4 (v0 v2 v3 v4 x : Int) (j : Nat) (a1 : Option Addr) (nv k1 : Nat) (aD : Option Addr) (bD n cD : Nat) (D : Nat → Int) (w : World) (HD : Ints w aD bD 0 n D) (hjn : j < n) (hx : D j = x) (_x1 : 1 ≤ x) (_x2 : x ≤ 1000) (i : Nat) (hi : i < n) (hv2 : v2 = i) :
    Calls Tryz.prog 195 #[.agg #[.int .i64 v0, .int .i64 (j : Int), .int .i64 v2, .int .i64 v3, .int .i64 v4, .slice a1 nv k1], .slice aD n cD] w fun e w' => e = .returned (.tuple #[.int .i64 (if D i = x then x else 0), .int .i64 (if D i = x then 0 else 14)]) ∧ w.Since w.heap.size w' := by
  have sA : w.Since w.heap.size (w.alloc (.cells #[.int .i64 v0, .int .i64 (j : Int), .int .i64 v2, .int .i64 v3, .int .i64 v4, .slice a1 nv k1] 137)) := (World.Since.refl _ _).alloc (Nat.le_refl _) _
  have hz : (j : Int) < (n : Int) := by omega
  obtain ⟨rfl, g0⟩ := (HD.keep sA) j hjn
  rw [Nat.zero_add, hx] at g0
  subst hv2
  have hz2 : (i : Int) < (n : Int) := by omega
  obtain ⟨-, g1⟩ := (HD.keep sA) i hi
  rw [Nat.zero_add] at g1
  obtain ⟨y, hy⟩ : ∃ y, y = D i := ⟨_, rfl⟩
  rw [← hy] at g1 ⊢
  clear hy
  by_cases h : y = x
  · rw [if_pos h, if_pos h]
    have q3 : (x != y) = false := by simp [h]
    clear h
    go_enter Tryz.func195, Tryz.ntmps195
    go_wp2
    go_region
    go_wp2
    go_ret2
    exact ⟨rfl, sA.drew⟩
  · rw [if_neg h, if_neg h]
    have q3 : (x != y) = true := by simp; omega
    clear h
    go_enter Tryz.func195, Tryz.ntmps195
    go_wp2
    go_region
    go_wp2
    go_ret2
    exact ⟨rfl, sA.drew⟩

end Go.Proofs.YtkhpggnnpfckdaaGreatDoor

namespace Go.Proofs.YtkhpggnnpfckdaaGreatDoor
open Go.RowKit

/-- The dimension of a node over a source of dimension x. -/
def dimX (op k s x : Int) : Int := if op = 1 then k else if op = 5 then x / k else if op = 6 then (x - k) / s + 1 else x

set_option maxHeartbeats 3200000 in
set_option maxRecDepth 100000 in
/-- spec.l2NodeDim. -/
theorem l2NodeDim_any (op v1 v2 v3 v4 x : Int) (a1 : Option Addr) (nv k1 : Nat) (w : World) (x1 : 1 ≤ x) (x2 : x ≤ 1000) (c5 : op = 5 → 1 ≤ v3 ∧ v3 ≤ 1000) (c6 : op = 6 → 1 ≤ v3 ∧ v3 ≤ x ∧ 1 ≤ v4 ∧ v4 ≤ 1000) :
    Calls Tryz.prog 49 #[.agg #[.int .i64 op, .int .i64 v1, .int .i64 v2, .int .i64 v3, .int .i64 v4, .slice a1 nv k1], .int .i64 x] w fun e w' => e = .returned (.int .i64 (dimX op v3 v4 x)) ∧ w.Since w.heap.size w' := by
  by_cases h1 : op = 1
  · subst h1
    have sA : w.Since w.heap.size (w.alloc (.cells #[.int .i64 1, .int .i64 v1, .int .i64 v2, .int .i64 v3, .int .i64 v4, .slice a1 nv k1] 84)) := (World.Since.refl _ _).alloc (Nat.le_refl _) _
    clear c5 c6
    have HX := hide (show dimX 1 v3 v4 x = v3 from rfl)
    go_enter Tryz.func49, Tryz.ntmps49
    go_wp2
    go_ret
    exact ⟨ret_int HX.out.symm, sA⟩
  by_cases h5 : op = 5
  · subst h5
    obtain ⟨k0, k2⟩ := c5 rfl
    have sA : w.Since w.heap.size (w.alloc (.cells #[.int .i64 5, .int .i64 v1, .int .i64 v2, .int .i64 v3, .int .i64 v4, .slice a1 nv k1] 84)) := (World.Since.refl _ _).alloc (Nat.le_refl _) _
    have p2 : x.tdiv v3 = x / v3 := Int.tdiv_eq_ediv_of_nonneg (by omega)
    have d0 : 0 ≤ x / v3 := Int.ediv_nonneg (by omega) (by omega)
    have d1 : x / v3 ≤ x := Int.ediv_le_self _ (by omega)
    obtain ⟨z, hz'⟩ : ∃ z, z = x / v3 := ⟨_, rfl⟩
    have HX := hide (show dimX 5 v3 v4 x = z by rw [hz']; rfl)
    rw [← hz'] at p2 d0 d1
    have q0 : ¬ v3 = 0 := by omega
    clear c5 c6 hz'
    go_enter Tryz.func49, Tryz.ntmps49
    go_wp2
    go_ret
    exact ⟨ret_int HX.out.symm, sA⟩
  by_cases h6 : op = 6
  · subst h6
    obtain ⟨k0, k2, s0, s2⟩ := c6 rfl
    have sA : w.Since w.heap.size (w.alloc (.cells #[.int .i64 6, .int .i64 v1, .int .i64 v2, .int .i64 v3, .int .i64 v4, .slice a1 nv k1] 84)) := (World.Since.refl _ _).alloc (Nat.le_refl _) _
    have nA := Box6.new w (.int .i64 6) (.int .i64 v1) (.int .i64 v2) (.int .i64 v3) (.int .i64 v4) (.slice a1 nv k1) 84
    clear c5 c6
    go_enter Tryz.func49, Tryz.ntmps49
    go_wp2_with fail
    generalize w.alloc (.cells #[.int .i64 6, .int .i64 v1, .int .i64 v2, .int .i64 v3, .int .i64 v4, .slice a1 nv k1] 84) = wA at *
    go_loopw [5, 6] (fun c i wr => ∃ k : Nat, k ≤ 1000 ∧ c = .int .i64 k ∧ i = .int .i64 k ∧ wr = wA ∧ (0 < k → ((k : Int) - 1) * v4 + v3 ≤ x)) (fun _ i _ => 1001 - (intOf i).toNat)
    case atStart => exact ⟨0, by omega, rfl, rfl, rfl, fun h => absurd h (by omega)⟩
    case round =>
      obtain ⟨k, hk, rfl, rfl, rfl, hb⟩ := hrel
      have g3 := nA.c3
      have g4 := nA.c4
      have m0 : 0 ≤ (k : Int) * v4 := Int.mul_nonneg (by omega) (by omega)
      have m1 : (k : Int) * v4 ≤ 1000 * 1000 := Int.mul_le_mul (by omega) (by omega) (by omega) (by omega)
      have m2 : ((k : Int) - 1) * v4 = (k : Int) * v4 - v4 := by rw [Int.sub_mul, Int.one_mul]
      have m3 : (k : Int) ≤ (k : Int) * v4 := by
        have := Int.mul_le_mul_of_nonneg_left s0 (show 0 ≤ (k : Int) by omega)
        omega
      obtain ⟨t, ht⟩ : ∃ t, t = (k : Int) * v4 := ⟨_, rfl⟩
      rw [← ht] at m0 m1 m2 m3
      rw [m2] at hb
      have HT := hide ht
      have e1 : (k : Int) * v4 = t := ht.symm
      clear ht m2
      by_cases hlt : t + v3 ≤ x
      · go_wp2
        go_roundw
        case rel => exact ⟨k + 1, by omega, by go_num, by go_num, (by first | rfl | trivial), fun _ => by rw [show (((k + 1 : Nat) : Int) - 1) = (k : Int) by omega, ← HT.out]; exact hlt⟩
        case measure => simp [intOf]; omega
      · have kp : 0 < k := by
          rcases Nat.eq_zero_or_pos k with e | e
          · subst e
            exfalso
            have : t = 0 := by rw [HT.out]; simp
            omega
          · exact e
        have hb' := hb kp
        have ee : (x - v3) / v4 = (k : Int) - 1 := by
          rw [Int.ediv_eq_iff_of_pos (by omega)]
          rw [Int.sub_mul, Int.one_mul, ← HT.out]
          constructor <;> omega
        have HX := hide (show dimX 6 v3 v4 x = (k : Int) by unfold dimX; rw [if_neg (by decide), if_neg (by decide), if_pos rfl, ee]; omega)
        clear ee
        go_wp2
        go_ret
        exact ⟨ret_int HX.out.symm, sA⟩
  have sA : w.Since w.heap.size (w.alloc (.cells #[.int .i64 op, .int .i64 v1, .int .i64 v2, .int .i64 v3, .int .i64 v4, .slice a1 nv k1] 84)) := (World.Since.refl _ _).alloc (Nat.le_refl _) _
  have HX := hide (show dimX op v3 v4 x = x by unfold dimX; rw [if_neg h1, if_neg h5, if_neg h6])
  clear c5 c6
  go_enter Tryz.func49, Tryz.ntmps49
  go_wp2
  go_ret
  exact ⟨ret_int HX.out.symm, sA⟩

end Go.Proofs.YtkhpggnnpfckdaaGreatDoor

namespace Go.Proofs.YtkhpggnnpfckdaaGreatDoor
open Go.RowKit

set_option maxHeartbeats 3200000 in
set_option maxRecDepth 100000 in
theorem dim5 (v0 v2 v3 v4 x : Int) (j : Nat) (a1 : Option Addr) (nv k1 : Nat) (aD : Option Addr) (bD n cD : Nat) (D : Nat → Int) (w : World) (HD : Ints w aD bD 0 n D) (hjn : j < n) (hx : D j = x) (_x1 : 1 ≤ x) (_x2 : x ≤ 1000) (c0 : 1 ≤ v3) (c1 : v3 ≤ 1000) :
    Calls Tryz.prog 199 #[.agg #[.int .i64 v0, .int .i64 (j : Int), .int .i64 v2, .int .i64 v3, .int .i64 v4, .slice a1 nv k1], .slice aD n cD] w fun e w' => e = .returned (.tuple #[.int .i64 (if x % v3 = 0 then x / v3 else 0), .int .i64 (if x % v3 = 0 then 0 else 14)]) ∧ w.Since w.heap.size w' := by
  have sA : w.Since w.heap.size (w.alloc (.cells #[.int .i64 v0, .int .i64 (j : Int), .int .i64 v2, .int .i64 v3, .int .i64 v4, .slice a1 nv k1] 138)) := (World.Since.refl _ _).alloc (Nat.le_refl _) _
  have hz : (j : Int) < (n : Int) := by omega
  obtain ⟨rfl, g0⟩ := (HD.keep sA) j hjn
  rw [Nat.zero_add, hx] at g0
  have p1 : x.tmod v3 = x % v3 := Int.tmod_eq_emod_of_nonneg (by omega)
  have p2 : x.tdiv v3 = x / v3 := Int.tdiv_eq_ediv_of_nonneg (by omega)
  have d0 : 0 ≤ x / v3 := Int.ediv_nonneg (by omega) (by omega)
  have d1 : x / v3 ≤ x := Int.ediv_le_self _ (by omega)
  obtain ⟨y, hy⟩ : ∃ y, y = x % v3 := ⟨_, rfl⟩
  obtain ⟨z, hz'⟩ : ∃ z, z = x / v3 := ⟨_, rfl⟩
  rw [← hy] at p1 ⊢
  rw [← hz'] at p2 d0 d1 ⊢
  have q0 : ¬ v3 = 0 := by omega
  have q1 : IntKind.i64.wrap (x.tdiv v3) = z := by rw [p2]; exact wrap_id (by omega) (by omega)
  clear hy hz'
  by_cases h : y = 0
  · rw [if_pos h, if_pos h]
    have q3 : (y != 0) = false := by simp [h]
    clear h
    go_enter Tryz.func199, Tryz.ntmps199
    go_wp2
    go_region
    go_wp2
    go_region
    go_wp2
    go_ret2
    exact ⟨rfl, sA.drew.drew⟩
  · rw [if_neg h, if_neg h]
    have q3 : (y != 0) = true := by simp [h]
    clear h
    go_enter Tryz.func199, Tryz.ntmps199
    go_wp2
    go_region
    go_wp2
    go_ret2
    exact ⟨rfl, sA.drew⟩

end Go.Proofs.YtkhpggnnpfckdaaGreatDoor

namespace Go.Proofs.YtkhpggnnpfckdaaGreatDoor
open Go.RowKit

set_option maxHeartbeats 3200000 in
set_option maxRecDepth 100000 in
theorem dim6 (v0 v2 v3 v4 x : Int) (j : Nat) (a1 : Option Addr) (nv k1 : Nat) (aD : Option Addr) (bD n cD : Nat) (D : Nat → Int) (w : World) (HD : Ints w aD bD 0 n D) (hjn : j < n) (hx : D j = x) (_x1 : 1 ≤ x) (_x2 : x ≤ 1000) (c0 : 1 ≤ v3) (c1 : v3 ≤ 1000) (s0 : 1 ≤ v4) (s1 : v4 ≤ 1000) (_hv : nv ≤ 1048576) :
    Calls Tryz.prog 203 #[.agg #[.int .i64 v0, .int .i64 (j : Int), .int .i64 v2, .int .i64 v3, .int .i64 v4, .slice a1 nv k1], .slice aD n cD] w fun e w' => e = .returned (.tuple #[.int .i64 (if v3 > x ∨ (nv : Int) ≠ v3 + 1 then 0 else (x - v3) / v4 + 1), .int .i64 (if v3 > x ∨ (nv : Int) ≠ v3 + 1 then 14 else 0)]) ∧ w.Since w.heap.size w' := by
  have sA : w.Since w.heap.size (w.alloc (.cells #[.int .i64 v0, .int .i64 (j : Int), .int .i64 v2, .int .i64 v3, .int .i64 v4, .slice a1 nv k1] 139)) := (World.Since.refl _ _).alloc (Nat.le_refl _) _
  have hz : (j : Int) < (n : Int) := by omega
  obtain ⟨rfl, g0⟩ := (HD.keep sA) j hjn
  rw [Nat.zero_add, hx] at g0
  by_cases h : v3 > x
  · rw [if_pos (.inl h), if_pos (.inl h)]
    have h' : x < v3 := h
    clear h
    go_enter Tryz.func203, Tryz.ntmps203
    go_wp2
    go_ret2
    exact ⟨rfl, sA⟩
  by_cases h2 : (nv : Int) = v3 + 1
  · rw [if_neg (by omega), if_neg (by omega)]
    have p2 : (x - v3).tdiv v4 = (x - v3) / v4 := Int.tdiv_eq_ediv_of_nonneg (by omega)
    have d0 : 0 ≤ (x - v3) / v4 := Int.ediv_nonneg (by omega) (by omega)
    have d1 : (x - v3) / v4 ≤ x - v3 := Int.ediv_le_self _ (by omega)
    obtain ⟨z, hz'⟩ : ∃ z, z = (x - v3) / v4 := ⟨_, rfl⟩
    rw [← hz'] at p2 d0 d1 ⊢
    have q0 : ¬ v4 = 0 := by omega
    clear hz'
    go_enter Tryz.func203, Tryz.ntmps203
    go_wp2
    go_ret2
    exact ⟨rfl, sA⟩
  · rw [if_pos (.inr h2), if_pos (.inr h2)]
    have q3 : ((nv : Int) != v3 + 1) = true := by simp [h2]
    go_enter Tryz.func203, Tryz.ntmps203
    go_wp2
    go_ret2
    exact ⟨rfl, sA⟩

end Go.Proofs.YtkhpggnnpfckdaaGreatDoor

namespace Go.Proofs.YtkhpggnnpfckdaaGreatDoor
open Go.RowKit

set_option maxHeartbeats 3200000 in
set_option maxRecDepth 100000 in
theorem dim7 (v0 v2 v3 v4 x : Int) (j : Nat) (a1 : Option Addr) (nv k1 : Nat) (aD : Option Addr) (bD n cD : Nat) (D : Nat → Int) (w : World) (HD : Ints w aD bD 0 n D) (hjn : j < n) (hx : D j = x) (_x1 : 1 ≤ x) (_x2 : x ≤ 1000) (lo bV oV : Nat) (V : Nat → RatD) (HV : Rats w lo a1 bV oV nv V) (h4 : nv = 4) :
    Calls Tryz.prog 206 #[.agg #[.int .i64 v0, .int .i64 (j : Int), .int .i64 v2, .int .i64 v3, .int .i64 v4, .slice a1 nv k1], .slice aD n cD] w fun e w' => e = .returned (.tuple #[.int .i64 (if (V 2).n = 0 then 0 else x), .int .i64 (if (V 2).n = 0 then 15 else 0)]) ∧ w.Since w.heap.size w' := by
  have sA : w.Since w.heap.size (w.alloc (.cells #[.int .i64 v0, .int .i64 (j : Int), .int .i64 v2, .int .i64 v3, .int .i64 v4, .slice a1 nv k1] 140)) := (World.Since.refl _ _).alloc (Nat.le_refl _) _
  have hz : (j : Int) < (n : Int) := by omega
  obtain ⟨rfl, g0⟩ := (HD.keep sA) j hjn
  rw [Nat.zero_add, hx] at g0
  subst h4
  obtain ⟨ea1, y1, y2, l1, l2, M⟩ := (HV.keep sA) 2 (by omega)
  subst ea1
  have m0 := M.c0
  have m1 := M.c1
  have m2 := M.c2
  have nA := Box6.new w (.int .i64 v0) (.int .i64 (j : Int)) (.int .i64 v2) (.int .i64 v3) (.int .i64 v4) (.slice (some ⟨bV, oV, none⟩) 4 k1) 140
  by_cases h : (V 2).n = 0
  · rw [if_pos h, if_pos h]
    have q : (((V 2).n : Int) == 0) = true := by simp [h]
    clear h
    go_enter Tryz.func206, Tryz.ntmps206
    go_wp2_with fail
    generalize w.alloc (.cells #[.int .i64 v0, .int .i64 (j : Int), .int .i64 v2, .int .i64 v3, .int .i64 v4, .slice (some ⟨bV, oV, none⟩) 4 k1] 140) = wA at *
    refine (isZeroRat_any (V 2).neg y1 y2 (V 2).n l1 (V 2).m l2 wA).mono ?_
    rintro e w1 ⟨rfl, s1⟩
    have N1 := nA.keep s1
    have n1 := N1.c1
    have S1 := sA.trans (sinceMono s1 sA.size)
    have g1 : w1.cell? ⟨bD, j, none⟩ = some (.int .i64 x) := (s1.cell (a := ⟨bD, j, none⟩) (World.block_lt_of_cell? _ _ g0)).trans g0
    clear m0 m1 m2 nA g0
    go_wp2
    go_ret2
    exact ⟨rfl, S1⟩
  · rw [if_neg h, if_neg h]
    have q : (((V 2).n : Int) == 0) = false := by simp; omega
    clear h
    go_enter Tryz.func206, Tryz.ntmps206
    go_wp2_with fail
    generalize w.alloc (.cells #[.int .i64 v0, .int .i64 (j : Int), .int .i64 v2, .int .i64 v3, .int .i64 v4, .slice (some ⟨bV, oV, none⟩) 4 k1] 140) = wA at *
    refine (isZeroRat_any (V 2).neg y1 y2 (V 2).n l1 (V 2).m l2 wA).mono ?_
    rintro e w1 ⟨rfl, s1⟩
    have N1 := nA.keep s1
    have n1 := N1.c1
    have S1 := sA.trans (sinceMono s1 sA.size)
    have g1 : w1.cell? ⟨bD, j, none⟩ = some (.int .i64 x) := (s1.cell (a := ⟨bD, j, none⟩) (World.block_lt_of_cell? _ _ g0)).trans g0
    clear m0 m1 m2 nA g0
    go_wp2
    go_ret2
    exact ⟨rfl, S1⟩

end Go.Proofs.YtkhpggnnpfckdaaGreatDoor

namespace Go.Proofs.YtkhpggnnpfckdaaGreatDoor
open Go.RowKit

open Classical in
/-- A node's dimension; 0 where it has none. -/
noncomputable def dimOr (D : Nat → Int) (n : Nat) (d : NodeD) : Int := if nodeCode D n d = 0 then nodeDim D d else 0

set_option maxHeartbeats 6400000 in
set_option maxRecDepth 100000 in
theorem dimOf1 (v1 v2 v3 v4 : Int) (nv : Nat) (V : Nat → RatD) (a1 : Option Addr) (lo k1 m : Nat) (aD : Option Addr) (bD n cD : Nat) (D : Nat → Int) (w : World) (hw : 0 < w.heap.size) (hT : Tab w) (K : Kinds w m) (hd : (NodeD.mk 1 v1 v2 v3 v4 nv V).size ≤ 1048576) (H : NodL w lo (NodeD.mk 1 v1 v2 v3 v4 nv V) a1 k1) (HD : Ints w aD bD 0 n D) (hD : Dok D n) :
    Calls Tryz.prog 54 #[.agg #[.int .i64 1, .int .i64 v1, .int .i64 v2, .int .i64 v3, .int .i64 v4, .slice a1 nv k1], .slice aD n cD, .map (some m)] w fun e w' => e = .returned (.tuple #[.int .i64 (dimOr D n (NodeD.mk 1 v1 v2 v3 v4 nv V)), .int .i64 (nodeCode D n (NodeD.mk 1 v1 v2 v3 v4 nv V))]) ∧ w.Since w.heap.size w' := by
  have sA : w.Since w.heap.size (w.alloc (.cells #[.int .i64 1, .int .i64 v1, .int .i64 v2, .int .i64 v3, .int .i64 v4, .slice a1 nv k1] 84)) := (World.Since.refl _ _).alloc (Nat.le_refl _) _
  have nA := Box6.new w (.int .i64 1) (.int .i64 v1) (.int .i64 v2) (.int .i64 v3) (.int .i64 v4) (.slice a1 nv k1) 84
  have hm1 : ∀ w : World, (method 313 133 (.agg #[.int .i64 1, .int .i64 v1, .int .i64 v2, .int .i64 v3, .int .i64 v4, .slice a1 nv k1]) "loop.example/s0015/impl.form").run Tryz.prog w = .ok (186, .agg #[.int .i64 1, .int .i64 v1, .int .i64 v2, .int .i64 v3, .int .i64 v4, .slice a1 nv k1]) w := fun _ => by kernel_rfl
  have hm2 : ∀ w : World, (method 313 133 (.agg #[.int .i64 1, .int .i64 v1, .int .i64 v2, .int .i64 v3, .int .i64 v4, .slice a1 nv k1]) "loop.example/s0015/impl.dimension").run Tryz.prog w = .ok (185, .agg #[.int .i64 1, .int .i64 v1, .int .i64 v2, .int .i64 v3, .int .i64 v4, .slice a1 nv k1]) w := fun _ => by kernel_rfl
  go_enter Tryz.func54, Tryz.ntmps54
  go_wp2_with fail
  generalize w.alloc (.cells #[.int .i64 1, .int .i64 v1, .int .i64 v2, .int .i64 v3, .int .i64 v4, .slice a1 nv k1] 84) = wA at *
  refine (operatorOf1 m v1 v2 v3 v4 a1 nv k1 wA (K.keep sA)).mono ?_
  rintro e w1 ⟨rfl, s1⟩
  have d1 : w1.Since w1.heap.size w1.drew := (World.Since.refl _ _).drew
  have S1 : w.Since w.heap.size w1 := sA.trans (sinceMono s1 sA.size)
  have N1 := nA.keep s1
  have J1 := form1 1 v1 v2 v3 v4 a1 nv k1 w1.drew
  have q0 := N1.c0
  have q1 := N1.c1
  have q2 := N1.c2
  have q3 := N1.c3
  have q4 := N1.c4
  have q5 := N1.c5
  go_wp2_with fail
  go_region_held3 (fun w' => w'.cell? ⟨w.heap.size, 0, none⟩ = some (.int .i64 1) ∧ w'.cell? ⟨w.heap.size, 1, none⟩ = some (.int .i64 v1) ∧ w'.cell? ⟨w.heap.size, 2, none⟩ = some (.int .i64 v2) ∧ w'.cell? ⟨w.heap.size, 3, none⟩ = some (.int .i64 v3) ∧ w'.cell? ⟨w.heap.size, 4, none⟩ = some (.int .i64 v4) ∧ w'.cell? ⟨w.heap.size, 5, none⟩ = some (.slice a1 nv k1)) (go_keep)
    (first
      | (go_at_call 186
         with_reducible refine J1.mono ?_
         rintro e w2 ⟨rfl, s2⟩
         have u2 : w1.Since w1.heap.size w2 := d1.trans (sinceMono s2 d1.size)
         have S2 : w.Since w.heap.size w2 := S1.trans (sinceMono u2 S1.size)
         have N2 := N1.keep u2
         have i0 := N2.c0
         have i1 := N2.c1
         have i2 := N2.c2
         have i3 := N2.c3
         have i4 := N2.c4
         have i5 := N2.c5
         have J2 := fits_any 1 false true false (-1) (NodeD.mk 1 v1 v2 v3 v4 nv V) a1 lo k1 w2 (Nat.lt_of_lt_of_le hw S2.size) (hT.stay hw S2) hd (H.keep S2)
         dsimp only at J2)
      | (go_at_call 94
         with_reducible refine J2.mono ?_
         rintro e w3 ⟨⟨r, rfl, hr⟩, s3⟩
         have S3 : w.Since w.heap.size w3 := S2.trans (sinceMono s3 S2.size)
         have N3 := N2.keep s3
         have i0 := N3.c0
         have i1 := N3.c1
         have i2 := N3.c2
         have i3 := N3.c3
         have i4 := N3.c4
         have i5 := N3.c5
         have hF := hide (hr.trans (form_iff (d := (NodeD.mk 1 v1 v2 v3 v4 nv V)) (z := 1) rfl (by decide) (by decide) rfl rfl rfl (.inl ⟨rfl, rfl, by decide, by decide⟩)).symm)
         clear hr))
  cases r
  · have E := hide (code_form (D := D) (i := n) (d := (NodeD.mk 1 v1 v2 v3 v4 nv V)) (fun h => by have := hF.out.2 h; cases this))
    clear hF
    go_wp2
    go_ret2
    exact ⟨by rw [E.out]; unfold dimOr; rw [E.out]; rfl, S3⟩
  have F := hide (hF.out.1 rfl)
  clear hF q0 q1 q2 q3 q4 q5
  have d3 : w3.Since w3.heap.size w3.drew := (World.Since.refl _ _).drew
  have J3 := form1 1 v1 v2 v3 v4 a1 nv k1 w3.drew
  go_wp2_with fail
  go_region_held3 (fun w' => w'.cell? ⟨w.heap.size, 0, none⟩ = some (.int .i64 1) ∧ w'.cell? ⟨w.heap.size, 1, none⟩ = some (.int .i64 v1) ∧ w'.cell? ⟨w.heap.size, 2, none⟩ = some (.int .i64 v2) ∧ w'.cell? ⟨w.heap.size, 3, none⟩ = some (.int .i64 v3) ∧ w'.cell? ⟨w.heap.size, 4, none⟩ = some (.int .i64 v4) ∧ w'.cell? ⟨w.heap.size, 5, none⟩ = some (.slice a1 nv k1)) (go_keep)
    (first
      | (go_at_call 186
         with_reducible refine J3.mono ?_
         rintro e w4 ⟨rfl, s4⟩
         have u4 : w3.Since w3.heap.size w4 := d3.trans (sinceMono s4 d3.size)
         have S4 : w.Since w.heap.size w4 := S3.trans (sinceMono u4 S3.size)
         have N4 := N3.keep u4
         have j0 := N4.c0
         have j1 := N4.c1
         have j2 := N4.c2
         have j3 := N4.c3
         have j4 := N4.c4
         have j5 := N4.c5
         have J4 := knows_any 1 false true false (-1) 1 v1 v2 v3 v4 a1 nv k1 n w4)
      | (go_at_call 95
         with_reducible refine J4.mono ?_
         rintro e w5 ⟨⟨r, rfl, hr⟩, s5⟩
         have S5 : w.Since w.heap.size w5 := S4.trans (sinceMono s5 S4.size)
         have N5 := N4.keep s5
         have j0 := N5.c0
         have j1 := N5.c1
         have j2 := N5.c2
         have j3 := N5.c3
         have j4 := N5.c4
         have j5 := N5.c5
         have hS := hide hr
         clear hr))
  cases r
  · have E := hide (code_src (D := D) F.out (fun h => by have := hS.out.2 h; cases this))
    clear hS F
    go_wp2
    go_ret2
    exact ⟨by rw [E.out]; unfold dimOr; rw [E.out]; rfl, S5⟩
  have G := hide (show SrcOk (NodeD.mk 1 v1 v2 v3 v4 nv V) n from hS.out.1 rfl)
  clear hS
  obtain ⟨j, hj⟩ : ∃ j : Nat, v1 = j := ⟨v1.toNat, by have h : 0 ≤ v1 := G.out.1; omega⟩
  subst hj
  have hjn : j < n := by have h : (j : Int) < n := G.out.2.1; omega
  obtain ⟨x, hx⟩ : ∃ x, D j = x := ⟨_, rfl⟩
  have hDj := hD j hjn
  rw [hx] at hDj
  have hk : 0 ≤ v3 ∧ v3 ≤ 1000 := by have h : 1 ≤ v3 ∧ v3 ≤ 1000 := F.out.k; omega
  have hv : nv ≤ 1048576 := by have h : nv + szR V nv ≤ 1048576 := hd; omega
  have E1 : nodeCode D n (NodeD.mk 1 (j : Int) v2 v3 v4 nv V) = if (nv : Int) = v3 * (x + 1) then 0 else 14 := by
    rw [code_shape F.out G.out]
    by_cases h : (nv : Int) = v3 * (x + 1) <;> simp [shapeCode, hx, h]
  have E2 : dimOr D n (NodeD.mk 1 (j : Int) v2 v3 v4 nv V) = if (nv : Int) = v3 * (x + 1) then v3 else 0 := by
    unfold dimOr
    rw [E1]
    by_cases h : (nv : Int) = v3 * (x + 1) <;> simp [nodeDim, h]
  have J5 := dim1 1 v2 v3 v4 x j a1 nv k1 aD bD n cD D w5 (HD.keep S5) hjn hx hDj.1 hDj.2 hk.1 hk.2 hv
  rw [← E1, ← E2] at J5
  clear E1 E2
  go_wp2_with fail
  refine J5.mono ?_
  rintro e w6 ⟨rfl, s6⟩
  go_wp2
  go_ret2
  exact ⟨rfl, S5.trans (sinceMono s6 S5.size)⟩

end Go.Proofs.YtkhpggnnpfckdaaGreatDoor

namespace Go.Proofs.YtkhpggnnpfckdaaGreatDoor
open Go.RowKit

set_option maxHeartbeats 6400000 in
set_option maxRecDepth 100000 in
theorem dimOf2 (v1 v2 v3 v4 : Int) (nv : Nat) (V : Nat → RatD) (a1 : Option Addr) (lo k1 m : Nat) (aD : Option Addr) (bD n cD : Nat) (D : Nat → Int) (w : World) (hw : 0 < w.heap.size) (hT : Tab w) (K : Kinds w m) (hd : (NodeD.mk 2 v1 v2 v3 v4 nv V).size ≤ 1048576) (H : NodL w lo (NodeD.mk 2 v1 v2 v3 v4 nv V) a1 k1) (HD : Ints w aD bD 0 n D) (hD : Dok D n) :
    Calls Tryz.prog 54 #[.agg #[.int .i64 2, .int .i64 v1, .int .i64 v2, .int .i64 v3, .int .i64 v4, .slice a1 nv k1], .slice aD n cD, .map (some m)] w fun e w' => e = .returned (.tuple #[.int .i64 (dimOr D n (NodeD.mk 2 v1 v2 v3 v4 nv V)), .int .i64 (nodeCode D n (NodeD.mk 2 v1 v2 v3 v4 nv V))]) ∧ w.Since w.heap.size w' := by
  have sA : w.Since w.heap.size (w.alloc (.cells #[.int .i64 2, .int .i64 v1, .int .i64 v2, .int .i64 v3, .int .i64 v4, .slice a1 nv k1] 84)) := (World.Since.refl _ _).alloc (Nat.le_refl _) _
  have nA := Box6.new w (.int .i64 2) (.int .i64 v1) (.int .i64 v2) (.int .i64 v3) (.int .i64 v4) (.slice a1 nv k1) 84
  have hm1 : ∀ w : World, (method 313 135 (.agg #[.int .i64 2, .int .i64 v1, .int .i64 v2, .int .i64 v3, .int .i64 v4, .slice a1 nv k1]) "loop.example/s0015/impl.form").run Tryz.prog w = .ok (189, .agg #[.int .i64 2, .int .i64 v1, .int .i64 v2, .int .i64 v3, .int .i64 v4, .slice a1 nv k1]) w := fun _ => by kernel_rfl
  have hm2 : ∀ w : World, (method 313 135 (.agg #[.int .i64 2, .int .i64 v1, .int .i64 v2, .int .i64 v3, .int .i64 v4, .slice a1 nv k1]) "loop.example/s0015/impl.dimension").run Tryz.prog w = .ok (188, .agg #[.int .i64 2, .int .i64 v1, .int .i64 v2, .int .i64 v3, .int .i64 v4, .slice a1 nv k1]) w := fun _ => by kernel_rfl
  go_enter Tryz.func54, Tryz.ntmps54
  go_wp2_with fail
  generalize w.alloc (.cells #[.int .i64 2, .int .i64 v1, .int .i64 v2, .int .i64 v3, .int .i64 v4, .slice a1 nv k1] 84) = wA at *
  refine (operatorOf2 m v1 v2 v3 v4 a1 nv k1 wA (K.keep sA)).mono ?_
  rintro e w1 ⟨rfl, s1⟩
  have d1 : w1.Since w1.heap.size w1.drew := (World.Since.refl _ _).drew
  have S1 : w.Since w.heap.size w1 := sA.trans (sinceMono s1 sA.size)
  have N1 := nA.keep s1
  have J1 := form2 2 v1 v2 v3 v4 a1 nv k1 w1.drew
  have q0 := N1.c0
  have q1 := N1.c1
  have q2 := N1.c2
  have q3 := N1.c3
  have q4 := N1.c4
  have q5 := N1.c5
  go_wp2_with fail
  go_region_held3 (fun w' => w'.cell? ⟨w.heap.size, 0, none⟩ = some (.int .i64 2) ∧ w'.cell? ⟨w.heap.size, 1, none⟩ = some (.int .i64 v1) ∧ w'.cell? ⟨w.heap.size, 2, none⟩ = some (.int .i64 v2) ∧ w'.cell? ⟨w.heap.size, 3, none⟩ = some (.int .i64 v3) ∧ w'.cell? ⟨w.heap.size, 4, none⟩ = some (.int .i64 v4) ∧ w'.cell? ⟨w.heap.size, 5, none⟩ = some (.slice a1 nv k1)) (go_keep)
    (first
      | (go_at_call 189
         with_reducible refine J1.mono ?_
         rintro e w2 ⟨rfl, s2⟩
         have u2 : w1.Since w1.heap.size w2 := d1.trans (sinceMono s2 d1.size)
         have S2 : w.Since w.heap.size w2 := S1.trans (sinceMono u2 S1.size)
         have N2 := N1.keep u2
         have i0 := N2.c0
         have i1 := N2.c1
         have i2 := N2.c2
         have i3 := N2.c3
         have i4 := N2.c4
         have i5 := N2.c5
         have J2 := fits_any 2 false false false 0 (NodeD.mk 2 v1 v2 v3 v4 nv V) a1 lo k1 w2 (Nat.lt_of_lt_of_le hw S2.size) (hT.stay hw S2) hd (H.keep S2)
         dsimp only at J2)
      | (go_at_call 94
         with_reducible refine J2.mono ?_
         rintro e w3 ⟨⟨r, rfl, hr⟩, s3⟩
         have S3 : w.Since w.heap.size w3 := S2.trans (sinceMono s3 S2.size)
         have N3 := N2.keep s3
         have i0 := N3.c0
         have i1 := N3.c1
         have i2 := N3.c2
         have i3 := N3.c3
         have i4 := N3.c4
         have i5 := N3.c5
         have hF := hide (hr.trans (form_iff (d := (NodeD.mk 2 v1 v2 v3 v4 nv V)) (z := 2) rfl (by decide) (by decide) rfl rfl rfl (.inr (.inl ⟨rfl, rfl⟩))).symm)
         clear hr))
  cases r
  · have E := hide (code_form (D := D) (i := n) (d := (NodeD.mk 2 v1 v2 v3 v4 nv V)) (fun h => by have := hF.out.2 h; cases this))
    clear hF
    go_wp2
    go_ret2
    exact ⟨by rw [E.out]; unfold dimOr; rw [E.out]; rfl, S3⟩
  have F := hide (hF.out.1 rfl)
  clear hF q0 q1 q2 q3 q4 q5
  have d3 : w3.Since w3.heap.size w3.drew := (World.Since.refl _ _).drew
  have J3 := form2 2 v1 v2 v3 v4 a1 nv k1 w3.drew
  go_wp2_with fail
  go_region_held3 (fun w' => w'.cell? ⟨w.heap.size, 0, none⟩ = some (.int .i64 2) ∧ w'.cell? ⟨w.heap.size, 1, none⟩ = some (.int .i64 v1) ∧ w'.cell? ⟨w.heap.size, 2, none⟩ = some (.int .i64 v2) ∧ w'.cell? ⟨w.heap.size, 3, none⟩ = some (.int .i64 v3) ∧ w'.cell? ⟨w.heap.size, 4, none⟩ = some (.int .i64 v4) ∧ w'.cell? ⟨w.heap.size, 5, none⟩ = some (.slice a1 nv k1)) (go_keep)
    (first
      | (go_at_call 189
         with_reducible refine J3.mono ?_
         rintro e w4 ⟨rfl, s4⟩
         have u4 : w3.Since w3.heap.size w4 := d3.trans (sinceMono s4 d3.size)
         have S4 : w.Since w.heap.size w4 := S3.trans (sinceMono u4 S3.size)
         have N4 := N3.keep u4
         have j0 := N4.c0
         have j1 := N4.c1
         have j2 := N4.c2
         have j3 := N4.c3
         have j4 := N4.c4
         have j5 := N4.c5
         have J4 := knows_any 2 false false false 0 2 v1 v2 v3 v4 a1 nv k1 n w4)
      | (go_at_call 95
         with_reducible refine J4.mono ?_
         rintro e w5 ⟨⟨r, rfl, hr⟩, s5⟩
         have S5 : w.Since w.heap.size w5 := S4.trans (sinceMono s5 S4.size)
         have N5 := N4.keep s5
         have j0 := N5.c0
         have j1 := N5.c1
         have j2 := N5.c2
         have j3 := N5.c3
         have j4 := N5.c4
         have j5 := N5.c5
         have hS := hide hr
         clear hr))
  cases r
  · have E := hide (code_src (D := D) F.out (fun h => by have := hS.out.2 h; cases this))
    clear hS F
    go_wp2
    go_ret2
    exact ⟨by rw [E.out]; unfold dimOr; rw [E.out]; rfl, S5⟩
  have G := hide (show SrcOk (NodeD.mk 2 v1 v2 v3 v4 nv V) n from hS.out.1 rfl)
  clear hS
  obtain ⟨j, hj⟩ : ∃ j : Nat, v1 = j := ⟨v1.toNat, by have h : 0 ≤ v1 := G.out.1; omega⟩
  subst hj
  have hjn : j < n := by have h : (j : Int) < n := G.out.2.1; omega
  obtain ⟨x, hx⟩ : ∃ x, D j = x := ⟨_, rfl⟩
  have hDj := hD j hjn
  rw [hx] at hDj
  have E1 : nodeCode D n (NodeD.mk 2 (j : Int) v2 v3 v4 nv V) = 0 := by rw [code_shape F.out G.out]; simp [shapeCode]
  have E2 : dimOr D n (NodeD.mk 2 (j : Int) v2 v3 v4 nv V) = x := by unfold dimOr; rw [if_pos E1]; simp [nodeDim, hx]
  have HE1 := hide E1
  have HE2 := hide E2
  have J5 := dim2 2 v2 v3 v4 x j a1 nv k1 aD bD n cD D w5 (HD.keep S5) hjn hx hDj.1 hDj.2 
  clear E1 E2
  go_wp2_with fail
  refine J5.mono ?_
  rintro e w6 ⟨rfl, s6⟩
  go_wp2
  go_ret2
  exact ⟨by rw [HE1.out, HE2.out]; rfl, S5.trans (sinceMono s6 S5.size)⟩

set_option maxHeartbeats 6400000 in
set_option maxRecDepth 100000 in
theorem dimOf3 (v1 v2 v3 v4 : Int) (nv : Nat) (V : Nat → RatD) (a1 : Option Addr) (lo k1 m : Nat) (aD : Option Addr) (bD n cD : Nat) (D : Nat → Int) (w : World) (hw : 0 < w.heap.size) (hT : Tab w) (K : Kinds w m) (hd : (NodeD.mk 3 v1 v2 v3 v4 nv V).size ≤ 1048576) (H : NodL w lo (NodeD.mk 3 v1 v2 v3 v4 nv V) a1 k1) (HD : Ints w aD bD 0 n D) (hD : Dok D n) :
    Calls Tryz.prog 54 #[.agg #[.int .i64 3, .int .i64 v1, .int .i64 v2, .int .i64 v3, .int .i64 v4, .slice a1 nv k1], .slice aD n cD, .map (some m)] w fun e w' => e = .returned (.tuple #[.int .i64 (dimOr D n (NodeD.mk 3 v1 v2 v3 v4 nv V)), .int .i64 (nodeCode D n (NodeD.mk 3 v1 v2 v3 v4 nv V))]) ∧ w.Since w.heap.size w' := by
  have sA : w.Since w.heap.size (w.alloc (.cells #[.int .i64 3, .int .i64 v1, .int .i64 v2, .int .i64 v3, .int .i64 v4, .slice a1 nv k1] 84)) := (World.Since.refl _ _).alloc (Nat.le_refl _) _
  have nA := Box6.new w (.int .i64 3) (.int .i64 v1) (.int .i64 v2) (.int .i64 v3) (.int .i64 v4) (.slice a1 nv k1) 84
  have hm1 : ∀ w : World, (method 313 136 (.agg #[.int .i64 3, .int .i64 v1, .int .i64 v2, .int .i64 v3, .int .i64 v4, .slice a1 nv k1]) "loop.example/s0015/impl.form").run Tryz.prog w = .ok (192, .agg #[.int .i64 3, .int .i64 v1, .int .i64 v2, .int .i64 v3, .int .i64 v4, .slice a1 nv k1]) w := fun _ => by kernel_rfl
  have hm2 : ∀ w : World, (method 313 136 (.agg #[.int .i64 3, .int .i64 v1, .int .i64 v2, .int .i64 v3, .int .i64 v4, .slice a1 nv k1]) "loop.example/s0015/impl.dimension").run Tryz.prog w = .ok (191, .agg #[.int .i64 3, .int .i64 v1, .int .i64 v2, .int .i64 v3, .int .i64 v4, .slice a1 nv k1]) w := fun _ => by kernel_rfl
  go_enter Tryz.func54, Tryz.ntmps54
  go_wp2_with fail
  generalize w.alloc (.cells #[.int .i64 3, .int .i64 v1, .int .i64 v2, .int .i64 v3, .int .i64 v4, .slice a1 nv k1] 84) = wA at *
  refine (operatorOf3 m v1 v2 v3 v4 a1 nv k1 wA (K.keep sA)).mono ?_
  rintro e w1 ⟨rfl, s1⟩
  have d1 : w1.Since w1.heap.size w1.drew := (World.Since.refl _ _).drew
  have S1 : w.Since w.heap.size w1 := sA.trans (sinceMono s1 sA.size)
  have N1 := nA.keep s1
  have J1 := form3 3 v1 v2 v3 v4 a1 nv k1 w1.drew
  have q0 := N1.c0
  have q1 := N1.c1
  have q2 := N1.c2
  have q3 := N1.c3
  have q4 := N1.c4
  have q5 := N1.c5
  go_wp2_with fail
  go_region_held3 (fun w' => w'.cell? ⟨w.heap.size, 0, none⟩ = some (.int .i64 3) ∧ w'.cell? ⟨w.heap.size, 1, none⟩ = some (.int .i64 v1) ∧ w'.cell? ⟨w.heap.size, 2, none⟩ = some (.int .i64 v2) ∧ w'.cell? ⟨w.heap.size, 3, none⟩ = some (.int .i64 v3) ∧ w'.cell? ⟨w.heap.size, 4, none⟩ = some (.int .i64 v4) ∧ w'.cell? ⟨w.heap.size, 5, none⟩ = some (.slice a1 nv k1)) (go_keep)
    (first
      | (go_at_call 192
         with_reducible refine J1.mono ?_
         rintro e w2 ⟨rfl, s2⟩
         have u2 : w1.Since w1.heap.size w2 := d1.trans (sinceMono s2 d1.size)
         have S2 : w.Since w.heap.size w2 := S1.trans (sinceMono u2 S1.size)
         have N2 := N1.keep u2
         have i0 := N2.c0
         have i1 := N2.c1
         have i2 := N2.c2
         have i3 := N2.c3
         have i4 := N2.c4
         have i5 := N2.c5
         have J2 := fits_any 3 false false false 1 (NodeD.mk 3 v1 v2 v3 v4 nv V) a1 lo k1 w2 (Nat.lt_of_lt_of_le hw S2.size) (hT.stay hw S2) hd (H.keep S2)
         dsimp only at J2)
      | (go_at_call 94
         with_reducible refine J2.mono ?_
         rintro e w3 ⟨⟨r, rfl, hr⟩, s3⟩
         have S3 : w.Since w.heap.size w3 := S2.trans (sinceMono s3 S2.size)
         have N3 := N2.keep s3
         have i0 := N3.c0
         have i1 := N3.c1
         have i2 := N3.c2
         have i3 := N3.c3
         have i4 := N3.c4
         have i5 := N3.c5
         have hF := hide (hr.trans (form_iff (d := (NodeD.mk 3 v1 v2 v3 v4 nv V)) (z := 3) rfl (by decide) (by decide) rfl rfl rfl (.inr (.inr (.inl ⟨rfl, rfl⟩)))).symm)
         clear hr))
  cases r
  · have E := hide (code_form (D := D) (i := n) (d := (NodeD.mk 3 v1 v2 v3 v4 nv V)) (fun h => by have := hF.out.2 h; cases this))
    clear hF
    go_wp2
    go_ret2
    exact ⟨by rw [E.out]; unfold dimOr; rw [E.out]; rfl, S3⟩
  have F := hide (hF.out.1 rfl)
  clear hF q0 q1 q2 q3 q4 q5
  have d3 : w3.Since w3.heap.size w3.drew := (World.Since.refl _ _).drew
  have J3 := form3 3 v1 v2 v3 v4 a1 nv k1 w3.drew
  go_wp2_with fail
  go_region_held3 (fun w' => w'.cell? ⟨w.heap.size, 0, none⟩ = some (.int .i64 3) ∧ w'.cell? ⟨w.heap.size, 1, none⟩ = some (.int .i64 v1) ∧ w'.cell? ⟨w.heap.size, 2, none⟩ = some (.int .i64 v2) ∧ w'.cell? ⟨w.heap.size, 3, none⟩ = some (.int .i64 v3) ∧ w'.cell? ⟨w.heap.size, 4, none⟩ = some (.int .i64 v4) ∧ w'.cell? ⟨w.heap.size, 5, none⟩ = some (.slice a1 nv k1)) (go_keep)
    (first
      | (go_at_call 192
         with_reducible refine J3.mono ?_
         rintro e w4 ⟨rfl, s4⟩
         have u4 : w3.Since w3.heap.size w4 := d3.trans (sinceMono s4 d3.size)
         have S4 : w.Since w.heap.size w4 := S3.trans (sinceMono u4 S3.size)
         have N4 := N3.keep u4
         have j0 := N4.c0
         have j1 := N4.c1
         have j2 := N4.c2
         have j3 := N4.c3
         have j4 := N4.c4
         have j5 := N4.c5
         have J4 := knows_any 3 false false false 1 3 v1 v2 v3 v4 a1 nv k1 n w4)
      | (go_at_call 95
         with_reducible refine J4.mono ?_
         rintro e w5 ⟨⟨r, rfl, hr⟩, s5⟩
         have S5 : w.Since w.heap.size w5 := S4.trans (sinceMono s5 S4.size)
         have N5 := N4.keep s5
         have j0 := N5.c0
         have j1 := N5.c1
         have j2 := N5.c2
         have j3 := N5.c3
         have j4 := N5.c4
         have j5 := N5.c5
         have hS := hide hr
         clear hr))
  cases r
  · have E := hide (code_src (D := D) F.out (fun h => by have := hS.out.2 h; cases this))
    clear hS F
    go_wp2
    go_ret2
    exact ⟨by rw [E.out]; unfold dimOr; rw [E.out]; rfl, S5⟩
  have G := hide (show SrcOk (NodeD.mk 3 v1 v2 v3 v4 nv V) n from hS.out.1 rfl)
  clear hS
  obtain ⟨j, hj⟩ : ∃ j : Nat, v1 = j := ⟨v1.toNat, by have h : 0 ≤ v1 := G.out.1; omega⟩
  subst hj
  have hjn : j < n := by have h : (j : Int) < n := G.out.2.1; omega
  obtain ⟨x, hx⟩ : ∃ x, D j = x := ⟨_, rfl⟩
  have hDj := hD j hjn
  rw [hx] at hDj
  have E1 : nodeCode D n (NodeD.mk 3 (j : Int) v2 v3 v4 nv V) = 0 := by rw [code_shape F.out G.out]; simp [shapeCode]
  have E2 : dimOr D n (NodeD.mk 3 (j : Int) v2 v3 v4 nv V) = x := by unfold dimOr; rw [if_pos E1]; simp [nodeDim, hx]
  have HE1 := hide E1
  have HE2 := hide E2
  have J5 := dim3 3 v2 v3 v4 x j a1 nv k1 aD bD n cD D w5 (HD.keep S5) hjn hx hDj.1 hDj.2 
  clear E1 E2
  go_wp2_with fail
  refine J5.mono ?_
  rintro e w6 ⟨rfl, s6⟩
  go_wp2
  go_ret2
  exact ⟨by rw [HE1.out, HE2.out]; rfl, S5.trans (sinceMono s6 S5.size)⟩

end Go.Proofs.YtkhpggnnpfckdaaGreatDoor

namespace Go.Proofs.YtkhpggnnpfckdaaGreatDoor
open Go.RowKit

set_option maxHeartbeats 6400000 in
set_option maxRecDepth 100000 in
theorem dimOf4 (v1 v2 v3 v4 : Int) (nv : Nat) (V : Nat → RatD) (a1 : Option Addr) (lo k1 m : Nat) (aD : Option Addr) (bD n cD : Nat) (D : Nat → Int) (w : World) (hw : 0 < w.heap.size) (hT : Tab w) (K : Kinds w m) (hd : (NodeD.mk 4 v1 v2 v3 v4 nv V).size ≤ 1048576) (H : NodL w lo (NodeD.mk 4 v1 v2 v3 v4 nv V) a1 k1) (HD : Ints w aD bD 0 n D) (hD : Dok D n) :
    Calls Tryz.prog 54 #[.agg #[.int .i64 4, .int .i64 v1, .int .i64 v2, .int .i64 v3, .int .i64 v4, .slice a1 nv k1], .slice aD n cD, .map (some m)] w fun e w' => e = .returned (.tuple #[.int .i64 (dimOr D n (NodeD.mk 4 v1 v2 v3 v4 nv V)), .int .i64 (nodeCode D n (NodeD.mk 4 v1 v2 v3 v4 nv V))]) ∧ w.Since w.heap.size w' := by
  have sA : w.Since w.heap.size (w.alloc (.cells #[.int .i64 4, .int .i64 v1, .int .i64 v2, .int .i64 v3, .int .i64 v4, .slice a1 nv k1] 84)) := (World.Since.refl _ _).alloc (Nat.le_refl _) _
  have nA := Box6.new w (.int .i64 4) (.int .i64 v1) (.int .i64 v2) (.int .i64 v3) (.int .i64 v4) (.slice a1 nv k1) 84
  have hm1 : ∀ w : World, (method 313 137 (.agg #[.int .i64 4, .int .i64 v1, .int .i64 v2, .int .i64 v3, .int .i64 v4, .slice a1 nv k1]) "loop.example/s0015/impl.form").run Tryz.prog w = .ok (196, .agg #[.int .i64 4, .int .i64 v1, .int .i64 v2, .int .i64 v3, .int .i64 v4, .slice a1 nv k1]) w := fun _ => by kernel_rfl
  have hm2 : ∀ w : World, (method 313 137 (.agg #[.int .i64 4, .int .i64 v1, .int .i64 v2, .int .i64 v3, .int .i64 v4, .slice a1 nv k1]) "loop.example/s0015/impl.dimension").run Tryz.prog w = .ok (195, .agg #[.int .i64 4, .int .i64 v1, .int .i64 v2, .int .i64 v3, .int .i64 v4, .slice a1 nv k1]) w := fun _ => by kernel_rfl
  go_enter Tryz.func54, Tryz.ntmps54
  go_wp2_with fail
  generalize w.alloc (.cells #[.int .i64 4, .int .i64 v1, .int .i64 v2, .int .i64 v3, .int .i64 v4, .slice a1 nv k1] 84) = wA at *
  refine (operatorOf4 m v1 v2 v3 v4 a1 nv k1 wA (K.keep sA)).mono ?_
  rintro e w1 ⟨rfl, s1⟩
  have d1 : w1.Since w1.heap.size w1.drew := (World.Since.refl _ _).drew
  have S1 : w.Since w.heap.size w1 := sA.trans (sinceMono s1 sA.size)
  have N1 := nA.keep s1
  have J1 := form4 4 v1 v2 v3 v4 a1 nv k1 w1.drew
  have q0 := N1.c0
  have q1 := N1.c1
  have q2 := N1.c2
  have q3 := N1.c3
  have q4 := N1.c4
  have q5 := N1.c5
  go_wp2_with fail
  go_region_held3 (fun w' => w'.cell? ⟨w.heap.size, 0, none⟩ = some (.int .i64 4) ∧ w'.cell? ⟨w.heap.size, 1, none⟩ = some (.int .i64 v1) ∧ w'.cell? ⟨w.heap.size, 2, none⟩ = some (.int .i64 v2) ∧ w'.cell? ⟨w.heap.size, 3, none⟩ = some (.int .i64 v3) ∧ w'.cell? ⟨w.heap.size, 4, none⟩ = some (.int .i64 v4) ∧ w'.cell? ⟨w.heap.size, 5, none⟩ = some (.slice a1 nv k1)) (go_keep)
    (first
      | (go_at_call 196
         with_reducible refine J1.mono ?_
         rintro e w2 ⟨rfl, s2⟩
         have u2 : w1.Since w1.heap.size w2 := d1.trans (sinceMono s2 d1.size)
         have S2 : w.Since w.heap.size w2 := S1.trans (sinceMono u2 S1.size)
         have N2 := N1.keep u2
         have i0 := N2.c0
         have i1 := N2.c1
         have i2 := N2.c2
         have i3 := N2.c3
         have i4 := N2.c4
         have i5 := N2.c5
         have J2 := fits_any 4 true false false 0 (NodeD.mk 4 v1 v2 v3 v4 nv V) a1 lo k1 w2 (Nat.lt_of_lt_of_le hw S2.size) (hT.stay hw S2) hd (H.keep S2)
         dsimp only at J2)
      | (go_at_call 94
         with_reducible refine J2.mono ?_
         rintro e w3 ⟨⟨r, rfl, hr⟩, s3⟩
         have S3 : w.Since w.heap.size w3 := S2.trans (sinceMono s3 S2.size)
         have N3 := N2.keep s3
         have i0 := N3.c0
         have i1 := N3.c1
         have i2 := N3.c2
         have i3 := N3.c3
         have i4 := N3.c4
         have i5 := N3.c5
         have hF := hide (hr.trans (form_iff (d := (NodeD.mk 4 v1 v2 v3 v4 nv V)) (z := 4) rfl (by decide) (by decide) rfl rfl rfl (.inr (.inl ⟨rfl, rfl⟩))).symm)
         clear hr))
  cases r
  · have E := hide (code_form (D := D) (i := n) (d := (NodeD.mk 4 v1 v2 v3 v4 nv V)) (fun h => by have := hF.out.2 h; cases this))
    clear hF
    go_wp2
    go_ret2
    exact ⟨by rw [E.out]; unfold dimOr; rw [E.out]; rfl, S3⟩
  have F := hide (hF.out.1 rfl)
  clear hF q0 q1 q2 q3 q4 q5
  have d3 : w3.Since w3.heap.size w3.drew := (World.Since.refl _ _).drew
  have J3 := form4 4 v1 v2 v3 v4 a1 nv k1 w3.drew
  go_wp2_with fail
  go_region_held3 (fun w' => w'.cell? ⟨w.heap.size, 0, none⟩ = some (.int .i64 4) ∧ w'.cell? ⟨w.heap.size, 1, none⟩ = some (.int .i64 v1) ∧ w'.cell? ⟨w.heap.size, 2, none⟩ = some (.int .i64 v2) ∧ w'.cell? ⟨w.heap.size, 3, none⟩ = some (.int .i64 v3) ∧ w'.cell? ⟨w.heap.size, 4, none⟩ = some (.int .i64 v4) ∧ w'.cell? ⟨w.heap.size, 5, none⟩ = some (.slice a1 nv k1)) (go_keep)
    (first
      | (go_at_call 196
         with_reducible refine J3.mono ?_
         rintro e w4 ⟨rfl, s4⟩
         have u4 : w3.Since w3.heap.size w4 := d3.trans (sinceMono s4 d3.size)
         have S4 : w.Since w.heap.size w4 := S3.trans (sinceMono u4 S3.size)
         have N4 := N3.keep u4
         have j0 := N4.c0
         have j1 := N4.c1
         have j2 := N4.c2
         have j3 := N4.c3
         have j4 := N4.c4
         have j5 := N4.c5
         have J4 := knows_any 4 true false false 0 4 v1 v2 v3 v4 a1 nv k1 n w4)
      | (go_at_call 95
         with_reducible refine J4.mono ?_
         rintro e w5 ⟨⟨r, rfl, hr⟩, s5⟩
         have S5 : w.Since w.heap.size w5 := S4.trans (sinceMono s5 S4.size)
         have N5 := N4.keep s5
         have j0 := N5.c0
         have j1 := N5.c1
         have j2 := N5.c2
         have j3 := N5.c3
         have j4 := N5.c4
         have j5 := N5.c5
         have hS := hide hr
         clear hr))
  cases r
  · have E := hide (code_src (D := D) F.out (fun h => by have := hS.out.2 h; cases this))
    clear hS F
    go_wp2
    go_ret2
    exact ⟨by rw [E.out]; unfold dimOr; rw [E.out]; rfl, S5⟩
  have G := hide (show SrcOk (NodeD.mk 4 v1 v2 v3 v4 nv V) n from hS.out.1 rfl)
  clear hS
  obtain ⟨j, hj⟩ : ∃ j : Nat, v1 = j := ⟨v1.toNat, by have h : 0 ≤ v1 := G.out.1; omega⟩
  subst hj
  have hjn : j < n := by have h : (j : Int) < n := G.out.2.1; omega
  obtain ⟨x, hx⟩ : ∃ x, D j = x := ⟨_, rfl⟩
  have hDj := hD j hjn
  rw [hx] at hDj
  obtain ⟨i, hi2⟩ : ∃ i : Nat, v2 = i := ⟨v2.toNat, by have h : 0 ≤ v2 ∧ v2 < n := G.out.2.2 rfl; omega⟩
  subst hi2
  have hi : i < n := by have h : 0 ≤ (i : Int) ∧ (i : Int) < n := G.out.2.2 rfl; omega
  have E1 : nodeCode D n (NodeD.mk 4 (j : Int) (i : Int) v3 v4 nv V) = if D i = x then 0 else 14 := by
    rw [code_shape F.out G.out]
    by_cases h : D i = x <;> simp [shapeCode, hx, h]
  have E2 : dimOr D n (NodeD.mk 4 (j : Int) (i : Int) v3 v4 nv V) = if D i = x then x else 0 := by
    unfold dimOr
    rw [E1]
    by_cases h : D i = x <;> simp [nodeDim, hx, h]
  have J5 := dim4 4 (i : Int) v3 v4 x j a1 nv k1 aD bD n cD D w5 (HD.keep S5) hjn hx hDj.1 hDj.2 i hi rfl
  rw [← E1, ← E2] at J5
  clear E1 E2
  go_wp2_with fail
  refine J5.mono ?_
  rintro e w6 ⟨rfl, s6⟩
  go_wp2
  go_ret2
  exact ⟨rfl, S5.trans (sinceMono s6 S5.size)⟩

set_option maxHeartbeats 6400000 in
set_option maxRecDepth 100000 in
theorem dimOf5 (v1 v2 v3 v4 : Int) (nv : Nat) (V : Nat → RatD) (a1 : Option Addr) (lo k1 m : Nat) (aD : Option Addr) (bD n cD : Nat) (D : Nat → Int) (w : World) (hw : 0 < w.heap.size) (hT : Tab w) (K : Kinds w m) (hd : (NodeD.mk 5 v1 v2 v3 v4 nv V).size ≤ 1048576) (H : NodL w lo (NodeD.mk 5 v1 v2 v3 v4 nv V) a1 k1) (HD : Ints w aD bD 0 n D) (hD : Dok D n) :
    Calls Tryz.prog 54 #[.agg #[.int .i64 5, .int .i64 v1, .int .i64 v2, .int .i64 v3, .int .i64 v4, .slice a1 nv k1], .slice aD n cD, .map (some m)] w fun e w' => e = .returned (.tuple #[.int .i64 (dimOr D n (NodeD.mk 5 v1 v2 v3 v4 nv V)), .int .i64 (nodeCode D n (NodeD.mk 5 v1 v2 v3 v4 nv V))]) ∧ w.Since w.heap.size w' := by
  have sA : w.Since w.heap.size (w.alloc (.cells #[.int .i64 5, .int .i64 v1, .int .i64 v2, .int .i64 v3, .int .i64 v4, .slice a1 nv k1] 84)) := (World.Since.refl _ _).alloc (Nat.le_refl _) _
  have nA := Box6.new w (.int .i64 5) (.int .i64 v1) (.int .i64 v2) (.int .i64 v3) (.int .i64 v4) (.slice a1 nv k1) 84
  have hm1 : ∀ w : World, (method 313 138 (.agg #[.int .i64 5, .int .i64 v1, .int .i64 v2, .int .i64 v3, .int .i64 v4, .slice a1 nv k1]) "loop.example/s0015/impl.form").run Tryz.prog w = .ok (200, .agg #[.int .i64 5, .int .i64 v1, .int .i64 v2, .int .i64 v3, .int .i64 v4, .slice a1 nv k1]) w := fun _ => by kernel_rfl
  have hm2 : ∀ w : World, (method 313 138 (.agg #[.int .i64 5, .int .i64 v1, .int .i64 v2, .int .i64 v3, .int .i64 v4, .slice a1 nv k1]) "loop.example/s0015/impl.dimension").run Tryz.prog w = .ok (199, .agg #[.int .i64 5, .int .i64 v1, .int .i64 v2, .int .i64 v3, .int .i64 v4, .slice a1 nv k1]) w := fun _ => by kernel_rfl
  go_enter Tryz.func54, Tryz.ntmps54
  go_wp2_with fail
  generalize w.alloc (.cells #[.int .i64 5, .int .i64 v1, .int .i64 v2, .int .i64 v3, .int .i64 v4, .slice a1 nv k1] 84) = wA at *
  refine (operatorOf5 m v1 v2 v3 v4 a1 nv k1 wA (K.keep sA)).mono ?_
  rintro e w1 ⟨rfl, s1⟩
  have d1 : w1.Since w1.heap.size w1.drew := (World.Since.refl _ _).drew
  have S1 : w.Since w.heap.size w1 := sA.trans (sinceMono s1 sA.size)
  have N1 := nA.keep s1
  have J1 := form5 5 v1 v2 v3 v4 a1 nv k1 w1.drew
  have q0 := N1.c0
  have q1 := N1.c1
  have q2 := N1.c2
  have q3 := N1.c3
  have q4 := N1.c4
  have q5 := N1.c5
  go_wp2_with fail
  go_region_held3 (fun w' => w'.cell? ⟨w.heap.size, 0, none⟩ = some (.int .i64 5) ∧ w'.cell? ⟨w.heap.size, 1, none⟩ = some (.int .i64 v1) ∧ w'.cell? ⟨w.heap.size, 2, none⟩ = some (.int .i64 v2) ∧ w'.cell? ⟨w.heap.size, 3, none⟩ = some (.int .i64 v3) ∧ w'.cell? ⟨w.heap.size, 4, none⟩ = some (.int .i64 v4) ∧ w'.cell? ⟨w.heap.size, 5, none⟩ = some (.slice a1 nv k1)) (go_keep)
    (first
      | (go_at_call 200
         with_reducible refine J1.mono ?_
         rintro e w2 ⟨rfl, s2⟩
         have u2 : w1.Since w1.heap.size w2 := d1.trans (sinceMono s2 d1.size)
         have S2 : w.Since w.heap.size w2 := S1.trans (sinceMono u2 S1.size)
         have N2 := N1.keep u2
         have i0 := N2.c0
         have i1 := N2.c1
         have i2 := N2.c2
         have i3 := N2.c3
         have i4 := N2.c4
         have i5 := N2.c5
         have J2 := fits_any 5 false true false 0 (NodeD.mk 5 v1 v2 v3 v4 nv V) a1 lo k1 w2 (Nat.lt_of_lt_of_le hw S2.size) (hT.stay hw S2) hd (H.keep S2)
         dsimp only at J2)
      | (go_at_call 94
         with_reducible refine J2.mono ?_
         rintro e w3 ⟨⟨r, rfl, hr⟩, s3⟩
         have S3 : w.Since w.heap.size w3 := S2.trans (sinceMono s3 S2.size)
         have N3 := N2.keep s3
         have i0 := N3.c0
         have i1 := N3.c1
         have i2 := N3.c2
         have i3 := N3.c3
         have i4 := N3.c4
         have i5 := N3.c5
         have hF := hide (hr.trans (form_iff (d := (NodeD.mk 5 v1 v2 v3 v4 nv V)) (z := 5) rfl (by decide) (by decide) rfl rfl rfl (.inr (.inl ⟨rfl, rfl⟩))).symm)
         clear hr))
  cases r
  · have E := hide (code_form (D := D) (i := n) (d := (NodeD.mk 5 v1 v2 v3 v4 nv V)) (fun h => by have := hF.out.2 h; cases this))
    clear hF
    go_wp2
    go_ret2
    exact ⟨by rw [E.out]; unfold dimOr; rw [E.out]; rfl, S3⟩
  have F := hide (hF.out.1 rfl)
  clear hF q0 q1 q2 q3 q4 q5
  have d3 : w3.Since w3.heap.size w3.drew := (World.Since.refl _ _).drew
  have J3 := form5 5 v1 v2 v3 v4 a1 nv k1 w3.drew
  go_wp2_with fail
  go_region_held3 (fun w' => w'.cell? ⟨w.heap.size, 0, none⟩ = some (.int .i64 5) ∧ w'.cell? ⟨w.heap.size, 1, none⟩ = some (.int .i64 v1) ∧ w'.cell? ⟨w.heap.size, 2, none⟩ = some (.int .i64 v2) ∧ w'.cell? ⟨w.heap.size, 3, none⟩ = some (.int .i64 v3) ∧ w'.cell? ⟨w.heap.size, 4, none⟩ = some (.int .i64 v4) ∧ w'.cell? ⟨w.heap.size, 5, none⟩ = some (.slice a1 nv k1)) (go_keep)
    (first
      | (go_at_call 200
         with_reducible refine J3.mono ?_
         rintro e w4 ⟨rfl, s4⟩
         have u4 : w3.Since w3.heap.size w4 := d3.trans (sinceMono s4 d3.size)
         have S4 : w.Since w.heap.size w4 := S3.trans (sinceMono u4 S3.size)
         have N4 := N3.keep u4
         have j0 := N4.c0
         have j1 := N4.c1
         have j2 := N4.c2
         have j3 := N4.c3
         have j4 := N4.c4
         have j5 := N4.c5
         have J4 := knows_any 5 false true false 0 5 v1 v2 v3 v4 a1 nv k1 n w4)
      | (go_at_call 95
         with_reducible refine J4.mono ?_
         rintro e w5 ⟨⟨r, rfl, hr⟩, s5⟩
         have S5 : w.Since w.heap.size w5 := S4.trans (sinceMono s5 S4.size)
         have N5 := N4.keep s5
         have j0 := N5.c0
         have j1 := N5.c1
         have j2 := N5.c2
         have j3 := N5.c3
         have j4 := N5.c4
         have j5 := N5.c5
         have hS := hide hr
         clear hr))
  cases r
  · have E := hide (code_src (D := D) F.out (fun h => by have := hS.out.2 h; cases this))
    clear hS F
    go_wp2
    go_ret2
    exact ⟨by rw [E.out]; unfold dimOr; rw [E.out]; rfl, S5⟩
  have G := hide (show SrcOk (NodeD.mk 5 v1 v2 v3 v4 nv V) n from hS.out.1 rfl)
  clear hS
  obtain ⟨j, hj⟩ : ∃ j : Nat, v1 = j := ⟨v1.toNat, by have h : 0 ≤ v1 := G.out.1; omega⟩
  subst hj
  have hjn : j < n := by have h : (j : Int) < n := G.out.2.1; omega
  obtain ⟨x, hx⟩ : ∃ x, D j = x := ⟨_, rfl⟩
  have hDj := hD j hjn
  rw [hx] at hDj
  have hk : 1 ≤ v3 ∧ v3 ≤ 1000 := F.out.k
  have E1 : nodeCode D n (NodeD.mk 5 (j : Int) v2 v3 v4 nv V) = if x % v3 = 0 then 0 else 14 := by
    rw [code_shape F.out G.out]
    by_cases h : x % v3 = 0 <;> simp [shapeCode, hx, h]
  have E2 : dimOr D n (NodeD.mk 5 (j : Int) v2 v3 v4 nv V) = if x % v3 = 0 then x / v3 else 0 := by
    unfold dimOr
    rw [E1]
    by_cases h : x % v3 = 0 <;> simp [nodeDim, hx, h]
  have J5 := dim5 5 v2 v3 v4 x j a1 nv k1 aD bD n cD D w5 (HD.keep S5) hjn hx hDj.1 hDj.2 hk.1 hk.2
  rw [← E1, ← E2] at J5
  clear E1 E2
  go_wp2_with fail
  refine J5.mono ?_
  rintro e w6 ⟨rfl, s6⟩
  go_wp2
  go_ret2
  exact ⟨rfl, S5.trans (sinceMono s6 S5.size)⟩

end Go.Proofs.YtkhpggnnpfckdaaGreatDoor

namespace Go.Proofs.YtkhpggnnpfckdaaGreatDoor
open Go.RowKit

set_option maxHeartbeats 6400000 in
set_option maxRecDepth 100000 in
theorem dimOf6 (v1 v2 v3 v4 : Int) (nv : Nat) (V : Nat → RatD) (a1 : Option Addr) (lo k1 m : Nat) (aD : Option Addr) (bD n cD : Nat) (D : Nat → Int) (w : World) (hw : 0 < w.heap.size) (hT : Tab w) (K : Kinds w m) (hd : (NodeD.mk 6 v1 v2 v3 v4 nv V).size ≤ 1048576) (H : NodL w lo (NodeD.mk 6 v1 v2 v3 v4 nv V) a1 k1) (HD : Ints w aD bD 0 n D) (hD : Dok D n) :
    Calls Tryz.prog 54 #[.agg #[.int .i64 6, .int .i64 v1, .int .i64 v2, .int .i64 v3, .int .i64 v4, .slice a1 nv k1], .slice aD n cD, .map (some m)] w fun e w' => e = .returned (.tuple #[.int .i64 (dimOr D n (NodeD.mk 6 v1 v2 v3 v4 nv V)), .int .i64 (nodeCode D n (NodeD.mk 6 v1 v2 v3 v4 nv V))]) ∧ w.Since w.heap.size w' := by
  have sA : w.Since w.heap.size (w.alloc (.cells #[.int .i64 6, .int .i64 v1, .int .i64 v2, .int .i64 v3, .int .i64 v4, .slice a1 nv k1] 84)) := (World.Since.refl _ _).alloc (Nat.le_refl _) _
  have nA := Box6.new w (.int .i64 6) (.int .i64 v1) (.int .i64 v2) (.int .i64 v3) (.int .i64 v4) (.slice a1 nv k1) 84
  have hm1 : ∀ w : World, (method 313 139 (.agg #[.int .i64 6, .int .i64 v1, .int .i64 v2, .int .i64 v3, .int .i64 v4, .slice a1 nv k1]) "loop.example/s0015/impl.form").run Tryz.prog w = .ok (204, .agg #[.int .i64 6, .int .i64 v1, .int .i64 v2, .int .i64 v3, .int .i64 v4, .slice a1 nv k1]) w := fun _ => by kernel_rfl
  have hm2 : ∀ w : World, (method 313 139 (.agg #[.int .i64 6, .int .i64 v1, .int .i64 v2, .int .i64 v3, .int .i64 v4, .slice a1 nv k1]) "loop.example/s0015/impl.dimension").run Tryz.prog w = .ok (203, .agg #[.int .i64 6, .int .i64 v1, .int .i64 v2, .int .i64 v3, .int .i64 v4, .slice a1 nv k1]) w := fun _ => by kernel_rfl
  go_enter Tryz.func54, Tryz.ntmps54
  go_wp2_with fail
  generalize w.alloc (.cells #[.int .i64 6, .int .i64 v1, .int .i64 v2, .int .i64 v3, .int .i64 v4, .slice a1 nv k1] 84) = wA at *
  refine (operatorOf6 m v1 v2 v3 v4 a1 nv k1 wA (K.keep sA)).mono ?_
  rintro e w1 ⟨rfl, s1⟩
  have d1 : w1.Since w1.heap.size w1.drew := (World.Since.refl _ _).drew
  have S1 : w.Since w.heap.size w1 := sA.trans (sinceMono s1 sA.size)
  have N1 := nA.keep s1
  have J1 := form6 6 v1 v2 v3 v4 a1 nv k1 w1.drew
  have q0 := N1.c0
  have q1 := N1.c1
  have q2 := N1.c2
  have q3 := N1.c3
  have q4 := N1.c4
  have q5 := N1.c5
  go_wp2_with fail
  go_region_held3 (fun w' => w'.cell? ⟨w.heap.size, 0, none⟩ = some (.int .i64 6) ∧ w'.cell? ⟨w.heap.size, 1, none⟩ = some (.int .i64 v1) ∧ w'.cell? ⟨w.heap.size, 2, none⟩ = some (.int .i64 v2) ∧ w'.cell? ⟨w.heap.size, 3, none⟩ = some (.int .i64 v3) ∧ w'.cell? ⟨w.heap.size, 4, none⟩ = some (.int .i64 v4) ∧ w'.cell? ⟨w.heap.size, 5, none⟩ = some (.slice a1 nv k1)) (go_keep)
    (first
      | (go_at_call 204
         with_reducible refine J1.mono ?_
         rintro e w2 ⟨rfl, s2⟩
         have u2 : w1.Since w1.heap.size w2 := d1.trans (sinceMono s2 d1.size)
         have S2 : w.Since w.heap.size w2 := S1.trans (sinceMono u2 S1.size)
         have N2 := N1.keep u2
         have i0 := N2.c0
         have i1 := N2.c1
         have i2 := N2.c2
         have i3 := N2.c3
         have i4 := N2.c4
         have i5 := N2.c5
         have J2 := fits_any 6 false true true (-1) (NodeD.mk 6 v1 v2 v3 v4 nv V) a1 lo k1 w2 (Nat.lt_of_lt_of_le hw S2.size) (hT.stay hw S2) hd (H.keep S2)
         dsimp only at J2)
      | (go_at_call 94
         with_reducible refine J2.mono ?_
         rintro e w3 ⟨⟨r, rfl, hr⟩, s3⟩
         have S3 : w.Since w.heap.size w3 := S2.trans (sinceMono s3 S2.size)
         have N3 := N2.keep s3
         have i0 := N3.c0
         have i1 := N3.c1
         have i2 := N3.c2
         have i3 := N3.c3
         have i4 := N3.c4
         have i5 := N3.c5
         have hF := hide (hr.trans (form_iff (d := (NodeD.mk 6 v1 v2 v3 v4 nv V)) (z := 6) rfl (by decide) (by decide) rfl rfl rfl (.inl ⟨rfl, rfl, by decide, by decide⟩)).symm)
         clear hr))
  cases r
  · have E := hide (code_form (D := D) (i := n) (d := (NodeD.mk 6 v1 v2 v3 v4 nv V)) (fun h => by have := hF.out.2 h; cases this))
    clear hF
    go_wp2
    go_ret2
    exact ⟨by rw [E.out]; unfold dimOr; rw [E.out]; rfl, S3⟩
  have F := hide (hF.out.1 rfl)
  clear hF q0 q1 q2 q3 q4 q5
  have d3 : w3.Since w3.heap.size w3.drew := (World.Since.refl _ _).drew
  have J3 := form6 6 v1 v2 v3 v4 a1 nv k1 w3.drew
  go_wp2_with fail
  go_region_held3 (fun w' => w'.cell? ⟨w.heap.size, 0, none⟩ = some (.int .i64 6) ∧ w'.cell? ⟨w.heap.size, 1, none⟩ = some (.int .i64 v1) ∧ w'.cell? ⟨w.heap.size, 2, none⟩ = some (.int .i64 v2) ∧ w'.cell? ⟨w.heap.size, 3, none⟩ = some (.int .i64 v3) ∧ w'.cell? ⟨w.heap.size, 4, none⟩ = some (.int .i64 v4) ∧ w'.cell? ⟨w.heap.size, 5, none⟩ = some (.slice a1 nv k1)) (go_keep)
    (first
      | (go_at_call 204
         with_reducible refine J3.mono ?_
         rintro e w4 ⟨rfl, s4⟩
         have u4 : w3.Since w3.heap.size w4 := d3.trans (sinceMono s4 d3.size)
         have S4 : w.Since w.heap.size w4 := S3.trans (sinceMono u4 S3.size)
         have N4 := N3.keep u4
         have j0 := N4.c0
         have j1 := N4.c1
         have j2 := N4.c2
         have j3 := N4.c3
         have j4 := N4.c4
         have j5 := N4.c5
         have J4 := knows_any 6 false true true (-1) 6 v1 v2 v3 v4 a1 nv k1 n w4)
      | (go_at_call 95
         with_reducible refine J4.mono ?_
         rintro e w5 ⟨⟨r, rfl, hr⟩, s5⟩
         have S5 : w.Since w.heap.size w5 := S4.trans (sinceMono s5 S4.size)
         have N5 := N4.keep s5
         have j0 := N5.c0
         have j1 := N5.c1
         have j2 := N5.c2
         have j3 := N5.c3
         have j4 := N5.c4
         have j5 := N5.c5
         have hS := hide hr
         clear hr))
  cases r
  · have E := hide (code_src (D := D) F.out (fun h => by have := hS.out.2 h; cases this))
    clear hS F
    go_wp2
    go_ret2
    exact ⟨by rw [E.out]; unfold dimOr; rw [E.out]; rfl, S5⟩
  have G := hide (show SrcOk (NodeD.mk 6 v1 v2 v3 v4 nv V) n from hS.out.1 rfl)
  clear hS
  obtain ⟨j, hj⟩ : ∃ j : Nat, v1 = j := ⟨v1.toNat, by have h : 0 ≤ v1 := G.out.1; omega⟩
  subst hj
  have hjn : j < n := by have h : (j : Int) < n := G.out.2.1; omega
  obtain ⟨x, hx⟩ : ∃ x, D j = x := ⟨_, rfl⟩
  have hDj := hD j hjn
  rw [hx] at hDj
  have hk : 1 ≤ v3 ∧ v3 ≤ 1000 := F.out.k
  have hs : 1 ≤ v4 ∧ v4 ≤ 1000 := F.out.s
  have hv : nv ≤ 1048576 := by have h : nv + szR V nv ≤ 1048576 := hd; omega
  have E1 : nodeCode D n (NodeD.mk 6 (j : Int) v2 v3 v4 nv V) = if v3 > x ∨ (nv : Int) ≠ v3 + 1 then 14 else 0 := by
    rw [code_shape F.out G.out]
    by_cases h : v3 > x ∨ (nv : Int) ≠ v3 + 1 <;> simp [shapeCode, hx, h]
  have E2 : dimOr D n (NodeD.mk 6 (j : Int) v2 v3 v4 nv V) = if v3 > x ∨ (nv : Int) ≠ v3 + 1 then 0 else (x - v3) / v4 + 1 := by
    unfold dimOr
    rw [E1]
    by_cases h : v3 > x ∨ (nv : Int) ≠ v3 + 1 <;> simp [nodeDim, hx, h]
  have J5 := dim6 6 v2 v3 v4 x j a1 nv k1 aD bD n cD D w5 (HD.keep S5) hjn hx hDj.1 hDj.2 hk.1 hk.2 hs.1 hs.2 hv
  rw [← E1, ← E2] at J5
  clear E1 E2
  go_wp2_with fail
  refine J5.mono ?_
  rintro e w6 ⟨rfl, s6⟩
  go_wp2
  go_ret2
  exact ⟨rfl, S5.trans (sinceMono s6 S5.size)⟩

end Go.Proofs.YtkhpggnnpfckdaaGreatDoor
