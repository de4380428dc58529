import Derived.Test.YtlpabmcebpppfaaGreatDoorOwnP21
import Derived.Test.YtlpabmcebpppfaaGreatDoorOwnP20
import Derived.Deep.RegionHeld3
import Derived.Test.YtlpabmcebpppfaaGreatDoorOwnP4
namespace Go.Proofs.YtlpabmcebpppfaaGreatDoor
open Go.RowKit

set_option maxHeartbeats 6400000 in
set_option maxRecDepth 100000 in
theorem l2NodeCode6 (g : GraphD) (v1 v2 v3 v4 : Int) (nv : Nat) (V : Nat → RatD) (aL aH : Option Addr) (lo kL kH kN bN oN : Nat) (a1 : Option Addr) (k1 i : Nat) (aD : Option Addr) (bD cD : Nat) (D : Nat → Int) (w : World) (hd : (NodeD.mk 6 v1 v2 v3 v4 nv V).size ≤ 1048576) (M : NodM w lo bN (oN + i * 6) (NodeD.mk 6 v1 v2 v3 v4 nv V) a1 k1) (hi : i < g.nn) (hnn : g.nn ≤ 1000) (HD : Ints w aD bD 0 (i + 1) D) (hD : Dok D (i + 1)) :
    Calls Tryz.prog 80 #[.agg #[.int .i64 g.inn, .int .i64 g.rounds, .slice aL g.nl kL, .slice aH g.nh kH, .slice (some ⟨bN, oN, none⟩) g.nn kN, .int .i64 g.out], .slice aD (i + 1) cD, .int .i64 ((i + 1 : Nat) : Int)] w fun e w' => e = .returned (.int .i64 (nodeCode D (i + 1) (NodeD.mk 6 v1 v2 v3 v4 nv V))) ∧ w.Since w.heap.size w' := by
  have sA : w.Since w.heap.size (w.alloc (.cells #[.int .i64 g.inn, .int .i64 g.rounds, .slice aL g.nl kL, .slice aH g.nh kH, .slice (some ⟨bN, oN, none⟩) g.nn kN, .int .i64 g.out] 31)) := (World.Since.refl _ _).alloc (Nat.le_refl _) _
  have zA : (w.alloc (.cells #[.int .i64 g.inn, .int .i64 g.rounds, .slice aL g.nl kL, .slice aH g.nh kH, .slice (some ⟨bN, oN, none⟩) g.nn kN, .int .i64 g.out] 31)).heap.size = w.heap.size + 1 := by simp
  have MA := M.keep sA
  have g0 := MA.c0
  have g1 := MA.c1
  have g2 := MA.c2
  have g3 := MA.c3
  have g4 := MA.c4
  have g5 := MA.c5
  have hz : (i : Int) < (g.nn : Int) := by omega
  go_enter Tryz.func80, Tryz.ntmps80
  go_wp2_with fail
  have sB : (w.alloc (.cells #[.int .i64 g.inn, .int .i64 g.rounds, .slice aL g.nl kL, .slice aH g.nh kH, .slice (some ⟨bN, oN, none⟩) g.nn kN, .int .i64 g.out] 31)).Since (w.alloc (.cells #[.int .i64 g.inn, .int .i64 g.rounds, .slice aL g.nl kL, .slice aH g.nh kH, .slice (some ⟨bN, oN, none⟩) g.nn kN, .int .i64 g.out] 31)).heap.size ((w.alloc (.cells #[.int .i64 g.inn, .int .i64 g.rounds, .slice aL g.nl kL, .slice aH g.nh kH, .slice (some ⟨bN, oN, none⟩) g.nn kN, .int .i64 g.out] 31)).alloc (.cells #[.int .i64 6, .int .i64 v1, .int .i64 v2, .int .i64 v3, .int .i64 v4, .slice a1 nv k1] 56)) := (World.Since.refl _ _).alloc (Nat.le_refl _) _
  have nB := Box6.new (w.alloc (.cells #[.int .i64 g.inn, .int .i64 g.rounds, .slice aL g.nl kL, .slice aH g.nh kH, .slice (some ⟨bN, oN, none⟩) g.nn kN, .int .i64 g.out] 31)) (.int .i64 6) (.int .i64 v1) (.int .i64 v2) (.int .i64 v3) (.int .i64 v4) (.slice a1 nv k1) 56
  rw [zA] at nB
  have S2 := sA.trans (sinceMono sB sA.size)
  generalize (w.alloc (.cells #[.int .i64 g.inn, .int .i64 g.rounds, .slice aL g.nl kL, .slice aH g.nh kH, .slice (some ⟨bN, oN, none⟩) g.nn kN, .int .i64 g.out] 31)).alloc (.cells #[.int .i64 6, .int .i64 v1, .int .i64 v2, .int .i64 v3, .int .i64 v4, .slice a1 nv k1] 56) = w2 at *
  refine (l2FormOk_any (NodeD.mk 6 v1 v2 v3 v4 nv V) a1 lo k1 w2 hd (M.L.keep S2)).mono ?_
  rintro e w3 ⟨⟨r, rfl, hr⟩, s3⟩
  have S3 := S2.trans (sinceMono s3 S2.size)
  have N3 := nB.keep s3
  clear g0 g1 g2 g3 g4 g5 MA
  cases r
  · have E := hide (code_form (D := D) (i := i + 1) (d := (NodeD.mk 6 v1 v2 v3 v4 nv V)) (fun h => by have := hr.2 h; cases this))
    clear hr
    go_wp2
    go_ret
    exact ⟨ret_int E.out.symm, S3⟩
  have F := hide (hr.1 rfl)
  clear hr
  have q0 := N3.c0
  have q1 := N3.c1
  have q2 := N3.c2
  have q3 := N3.c3
  have q4 := N3.c4
  have q5 := N3.c5
  go_wp2_with fail
  refine (l2In_any v1 0 (i : Int) w3).mono ?_
  rintro e w4 ⟨⟨r, rfl, hr⟩, hw4⟩
  have hw5 := hw4.symm
  clear hw4
  subst hw5
  cases r
  · have E := hide (code_src (D := D) (i := i + 1) F.out (fun h => by have h2 : 0 ≤ v1 ∧ v1 < ((i + 1 : Nat) : Int) := ⟨h.1, h.2.1⟩; have := hr.2 (by unfold InP; omega); cases this))
    clear hr
    go_wp2
    go_ret
    exact ⟨ret_int E.out.symm, S3⟩
  have IA := hide (hr.1 rfl)
  clear hr
  have JB := l2UsesB_eq 6 false w3 (by decide)
  go_wp2_with fail
  refine JB.mono ?_
  rintro e w4 ⟨rfl, hw4⟩
  have hw5 := hw4.symm
  clear hw4
  subst hw5
  clear JB
  have G := hide (show SrcOk (NodeD.mk 6 v1 v2 v3 v4 nv V) (i + 1) from ⟨by have h : 0 ≤ v1 ∧ v1 ≤ i := IA.out; exact h.1, by have h : 0 ≤ v1 ∧ v1 ≤ i := IA.out; show v1 < ((i + 1 : Nat) : Int); omega, fun h => (by cases h)⟩)
  obtain ⟨j, hj⟩ : ∃ j : Nat, v1 = j := ⟨v1.toNat, by have h : 0 ≤ v1 ∧ v1 ≤ i := IA.out; omega⟩
  subst hj
  have hjn : j < i + 1 := by have h : 0 ≤ (j : Int) ∧ (j : Int) ≤ i := IA.out; omega
  obtain ⟨x, hx⟩ : ∃ x, D j = x := ⟨_, rfl⟩
  have hDj := hD j hjn
  rw [hx] at hDj
  obtain ⟨ed, gx⟩ := (HD.keep S3) j hjn
  rw [Nat.zero_add, hx] at gx
  subst ed
  have hz2 : (j : Int) < ((i + 1 : Nat) : Int) := by omega
  have hk : 1 ≤ v3 ∧ v3 ≤ 1000 := F.out.k
  have hv : nv ≤ 1048576 := by have h : nv + szR V nv ≤ 1048576 := hd; omega
  by_cases h : x < v3
  · have E := hide (show nodeCode D (i + 1) (NodeD.mk 6 (j : Int) v2 v3 v4 nv V) = 14 by rw [code_shape F.out G.out]; simp [shapeCode, hx, h])
    go_wp2
    go_ret
    exact ⟨ret_int E.out.symm, S3⟩
  by_cases h2 : (nv : Int) = v3 + 1
  · have E := hide (show nodeCode D (i + 1) (NodeD.mk 6 (j : Int) v2 v3 v4 nv V) = 0 by rw [code_shape F.out G.out]; simp [shapeCode, hx, h2]; omega)
    have tq : ((nv : Int) != v3 + 1) = false := by simp [h2]
    clear h2
    go_wp2
    go_ret
    exact ⟨ret_int E.out.symm, S3⟩
  · have E := hide (show nodeCode D (i + 1) (NodeD.mk 6 (j : Int) v2 v3 v4 nv V) = 14 by rw [code_shape F.out G.out]; simp [shapeCode, hx, h2])
    have tq : ((nv : Int) != v3 + 1) = true := by simp [h2]
    clear h2
    go_wp2
    go_ret
    exact ⟨ret_int E.out.symm, S3⟩

set_option maxHeartbeats 6400000 in
set_option maxRecDepth 100000 in
theorem l2NodeCode7 (g : GraphD) (v1 v2 v3 v4 : Int) (nv : Nat) (V : Nat → RatD) (aL aH : Option Addr) (lo kL kH kN bN oN : Nat) (a1 : Option Addr) (k1 i : Nat) (aD : Option Addr) (bD cD : Nat) (D : Nat → Int) (w : World) (hd : (NodeD.mk 7 v1 v2 v3 v4 nv V).size ≤ 1048576) (M : NodM w lo bN (oN + i * 6) (NodeD.mk 7 v1 v2 v3 v4 nv V) a1 k1) (hi : i < g.nn) (hnn : g.nn ≤ 1000) (HD : Ints w aD bD 0 (i + 1) D) (hD : Dok D (i + 1)) :
    Calls Tryz.prog 80 #[.agg #[.int .i64 g.inn, .int .i64 g.rounds, .slice aL g.nl kL, .slice aH g.nh kH, .slice (some ⟨bN, oN, none⟩) g.nn kN, .int .i64 g.out], .slice aD (i + 1) cD, .int .i64 ((i + 1 : Nat) : Int)] w fun e w' => e = .returned (.int .i64 (nodeCode D (i + 1) (NodeD.mk 7 v1 v2 v3 v4 nv V))) ∧ w.Since w.heap.size w' := by
  have sA : w.Since w.heap.size (w.alloc (.cells #[.int .i64 g.inn, .int .i64 g.rounds, .slice aL g.nl kL, .slice aH g.nh kH, .slice (some ⟨bN, oN, none⟩) g.nn kN, .int .i64 g.out] 31)) := (World.Since.refl _ _).alloc (Nat.le_refl _) _
  have zA : (w.alloc (.cells #[.int .i64 g.inn, .int .i64 g.rounds, .slice aL g.nl kL, .slice aH g.nh kH, .slice (some ⟨bN, oN, none⟩) g.nn kN, .int .i64 g.out] 31)).heap.size = w.heap.size + 1 := by simp
  have MA := M.keep sA
  have g0 := MA.c0
  have g1 := MA.c1
  have g2 := MA.c2
  have g3 := MA.c3
  have g4 := MA.c4
  have g5 := MA.c5
  have hz : (i : Int) < (g.nn : Int) := by omega
  go_enter Tryz.func80, Tryz.ntmps80
  go_wp2_with fail
  have sB : (w.alloc (.cells #[.int .i64 g.inn, .int .i64 g.rounds, .slice aL g.nl kL, .slice aH g.nh kH, .slice (some ⟨bN, oN, none⟩) g.nn kN, .int .i64 g.out] 31)).Since (w.alloc (.cells #[.int .i64 g.inn, .int .i64 g.rounds, .slice aL g.nl kL, .slice aH g.nh kH, .slice (some ⟨bN, oN, none⟩) g.nn kN, .int .i64 g.out] 31)).heap.size ((w.alloc (.cells #[.int .i64 g.inn, .int .i64 g.rounds, .slice aL g.nl kL, .slice aH g.nh kH, .slice (some ⟨bN, oN, none⟩) g.nn kN, .int .i64 g.out] 31)).alloc (.cells #[.int .i64 7, .int .i64 v1, .int .i64 v2, .int .i64 v3, .int .i64 v4, .slice a1 nv k1] 56)) := (World.Since.refl _ _).alloc (Nat.le_refl _) _
  have nB := Box6.new (w.alloc (.cells #[.int .i64 g.inn, .int .i64 g.rounds, .slice aL g.nl kL, .slice aH g.nh kH, .slice (some ⟨bN, oN, none⟩) g.nn kN, .int .i64 g.out] 31)) (.int .i64 7) (.int .i64 v1) (.int .i64 v2) (.int .i64 v3) (.int .i64 v4) (.slice a1 nv k1) 56
  rw [zA] at nB
  have S2 := sA.trans (sinceMono sB sA.size)
  generalize (w.alloc (.cells #[.int .i64 g.inn, .int .i64 g.rounds, .slice aL g.nl kL, .slice aH g.nh kH, .slice (some ⟨bN, oN, none⟩) g.nn kN, .int .i64 g.out] 31)).alloc (.cells #[.int .i64 7, .int .i64 v1, .int .i64 v2, .int .i64 v3, .int .i64 v4, .slice a1 nv k1] 56) = w2 at *
  refine (l2FormOk_any (NodeD.mk 7 v1 v2 v3 v4 nv V) a1 lo k1 w2 hd (M.L.keep S2)).mono ?_
  rintro e w3 ⟨⟨r, rfl, hr⟩, s3⟩
  have S3 := S2.trans (sinceMono s3 S2.size)
  have N3 := nB.keep s3
  clear g0 g1 g2 g3 g4 g5 MA
  cases r
  · have E := hide (code_form (D := D) (i := i + 1) (d := (NodeD.mk 7 v1 v2 v3 v4 nv V)) (fun h => by have := hr.2 h; cases this))
    clear hr
    go_wp2
    go_ret
    exact ⟨ret_int E.out.symm, S3⟩
  have F := hide (hr.1 rfl)
  clear hr
  have q0 := N3.c0
  have q1 := N3.c1
  have q2 := N3.c2
  have q3 := N3.c3
  have q4 := N3.c4
  have q5 := N3.c5
  go_wp2_with fail
  refine (l2In_any v1 0 (i : Int) w3).mono ?_
  rintro e w4 ⟨⟨r, rfl, hr⟩, hw4⟩
  have hw5 := hw4.symm
  clear hw4
  subst hw5
  cases r
  · have E := hide (code_src (D := D) (i := i + 1) F.out (fun h => by have h2 : 0 ≤ v1 ∧ v1 < ((i + 1 : Nat) : Int) := ⟨h.1, h.2.1⟩; have := hr.2 (by unfold InP; omega); cases this))
    clear hr
    go_wp2
    go_ret
    exact ⟨ret_int E.out.symm, S3⟩
  have IA := hide (hr.1 rfl)
  clear hr
  have JB := l2UsesB_eq 7 false w3 (by decide)
  go_wp2_with fail
  refine JB.mono ?_
  rintro e w4 ⟨rfl, hw4⟩
  have hw5 := hw4.symm
  clear hw4
  subst hw5
  clear JB
  have G := hide (show SrcOk (NodeD.mk 7 v1 v2 v3 v4 nv V) (i + 1) from ⟨by have h : 0 ≤ v1 ∧ v1 ≤ i := IA.out; exact h.1, by have h : 0 ≤ v1 ∧ v1 ≤ i := IA.out; show v1 < ((i + 1 : Nat) : Int); omega, fun h => (by cases h)⟩)
  obtain ⟨j, hj⟩ : ∃ j : Nat, v1 = j := ⟨v1.toNat, by have h : 0 ≤ v1 ∧ v1 ≤ i := IA.out; omega⟩
  subst hj
  have hjn : j < i + 1 := by have h : 0 ≤ (j : Int) ∧ (j : Int) ≤ i := IA.out; omega
  obtain ⟨x, hx⟩ : ∃ x, D j = x := ⟨_, rfl⟩
  have hDj := hD j hjn
  rw [hx] at hDj
  obtain ⟨ed, gx⟩ := (HD.keep S3) j hjn
  rw [Nat.zero_add, hx] at gx
  subst ed
  have hz2 : (j : Int) < ((i + 1 : Nat) : Int) := by omega
  have h4 := hide (show nv = 4 from F.out.v7 rfl)
  obtain ⟨bV, oV, -, LV⟩ := (M.L.keep S3).LV
  obtain ⟨ev, y1, y2, l1, l2, MV⟩ := LV 2 (by show 2 < nv; rw [h4.out]; omega)
  have mv1 := MV.c1
  subst ev
  have hz4 : (2 : Int) < (nv : Int) := by rw [h4.out]; decide
  by_cases h : (V 2).n = 0
  · have E := hide (show nodeCode D (i + 1) (NodeD.mk 7 (j : Int) v2 v3 v4 nv V) = 15 by rw [code_shape F.out G.out]; simp [shapeCode, h])
    have tq : (((V 2).n : Int) == 0) = true := by simp [h]
    clear h
    go_wp2
    go_ret
    exact ⟨ret_int E.out.symm, S3⟩
  · have E := hide (show nodeCode D (i + 1) (NodeD.mk 7 (j : Int) v2 v3 v4 nv V) = 0 by rw [code_shape F.out G.out]; simp [shapeCode, h])
    have tq : (((V 2).n : Int) == 0) = false := by simp; omega
    clear h
    go_wp2
    go_ret
    exact ⟨ret_int E.out.symm, S3⟩

end Go.Proofs.YtlpabmcebpppfaaGreatDoor

namespace Go.Proofs.YtlpabmcebpppfaaGreatDoor
open Go.RowKit

theorem wrap_id {z : Int} (h0 : -9223372036854775808 ≤ z) (h1 : z ≤ 9223372036854775807) : IntKind.i64.wrap z = z := by
  rw [IntKind.wrap_i64]
  omega

set_option maxHeartbeats 3200000 in
set_option maxRecDepth 100000 in
theorem dim1 (v0 v2 v3 v4 x : Int) (j : Nat) (a1 : Option Addr) (nv k1 : Nat) (aD : Option Addr) (bD n cD : Nat) (D : Nat → Int) (w : World) (HD : Ints w aD bD 0 n D) (hjn : j < n) (hx : D j = x) (_x1 : 1 ≤ x) (_x2 : x ≤ 1000) (c0 : 0 ≤ v3) (c1 : v3 ≤ 1000) (_hv : nv ≤ 1048576) :
    Calls Tryz.prog 197 #[.agg #[.int .i64 v0, .int .i64 (j : Int), .int .i64 v2, .int .i64 v3, .int .i64 v4, .slice a1 nv k1], .slice aD n cD] w fun e w' => e = .returned (.tuple #[.int .i64 (if (nv : Int) = v3 * (x + 1) then v3 else 0), .int .i64 (if (nv : Int) = v3 * (x + 1) then 0 else 14)]) ∧ w.Since w.heap.size w' := by
  have sA : w.Since w.heap.size (w.alloc (.cells #[.int .i64 v0, .int .i64 (j : Int), .int .i64 v2, .int .i64 v3, .int .i64 v4, .slice a1 nv k1] 117)) := (World.Since.refl _ _).alloc (Nat.le_refl _) _
  have hz : (j : Int) < (n : Int) := by omega
  obtain ⟨rfl, g0⟩ := (HD.keep sA) j hjn
  rw [Nat.zero_add, hx] at g0
  have y0 : 0 ≤ v3 * (x + 1) := Int.mul_nonneg c0 (by omega)
  have y1 : v3 * (x + 1) ≤ 1000 * 1001 := Int.mul_le_mul c1 (by omega) (by omega) (by omega)
  obtain ⟨y, hy⟩ : ∃ y, y = v3 * (x + 1) := ⟨_, rfl⟩
  rw [← hy] at y0 y1 ⊢
  have q1 := wrap_id (z := x + 1) (by omega) (by omega)
  have q2 : IntKind.i64.wrap (v3 * (x + 1)) = y := by rw [← hy]; exact wrap_id (by omega) (by omega)
  clear hy
  by_cases h : (nv : Int) = y
  · rw [if_pos h, if_pos h]
    have q3 : ((nv : Int) != y) = false := by simp [h]
    clear h
    go_enter Tryz.func197, Tryz.ntmps197
    go_wp2
    go_region
    go_wp2
    go_ret2
    exact ⟨rfl, sA.drew⟩
  · rw [if_neg h, if_neg h]
    have q3 : ((nv : Int) != y) = true := by simp [h]
    clear h
    go_enter Tryz.func197, Tryz.ntmps197
    go_wp2
    go_region
    go_wp2
    go_ret2
    exact ⟨rfl, sA.drew⟩

set_option maxHeartbeats 3200000 in
set_option maxRecDepth 100000 in
theorem dim2 (v0 v2 v3 v4 x : Int) (j : Nat) (a1 : Option Addr) (nv k1 : Nat) (aD : Option Addr) (bD n cD : Nat) (D : Nat → Int) (w : World) (HD : Ints w aD bD 0 n D) (hjn : j < n) (hx : D j = x) (_x1 : 1 ≤ x) (_x2 : x ≤ 1000) :
    Calls Tryz.prog 200 #[.agg #[.int .i64 v0, .int .i64 (j : Int), .int .i64 v2, .int .i64 v3, .int .i64 v4, .slice a1 nv k1], .slice aD n cD] w fun e w' => e = .returned (.tuple #[.int .i64 x, .int .i64 0]) ∧ w.Since w.heap.size w' := by
  have sA : w.Since w.heap.size (w.alloc (.cells #[.int .i64 v0, .int .i64 (j : Int), .int .i64 v2, .int .i64 v3, .int .i64 v4, .slice a1 nv k1] 119)) := (World.Since.refl _ _).alloc (Nat.le_refl _) _
  have hz : (j : Int) < (n : Int) := by omega
  obtain ⟨rfl, g0⟩ := (HD.keep sA) j hjn
  rw [Nat.zero_add, hx] at g0
  go_enter Tryz.func200, Tryz.ntmps200
  go_wp2
  go_ret2
  exact ⟨rfl, sA⟩

set_option maxHeartbeats 3200000 in
set_option maxRecDepth 100000 in
theorem dim3 (v0 v2 v3 v4 x : Int) (j : Nat) (a1 : Option Addr) (nv k1 : Nat) (aD : Option Addr) (bD n cD : Nat) (D : Nat → Int) (w : World) (HD : Ints w aD bD 0 n D) (hjn : j < n) (hx : D j = x) (_x1 : 1 ≤ x) (_x2 : x ≤ 1000) :
    Calls Tryz.prog 203 #[.agg #[.int .i64 v0, .int .i64 (j : Int), .int .i64 v2, .int .i64 v3, .int .i64 v4, .slice a1 nv k1], .slice aD n cD] w fun e w' => e = .returned (.tuple #[.int .i64 x, .int .i64 0]) ∧ w.Since w.heap.size w' := by
  have sA : w.Since w.heap.size (w.alloc (.cells #[.int .i64 v0, .int .i64 (j : Int), .int .i64 v2, .int .i64 v3, .int .i64 v4, .slice a1 nv k1] 120)) := (World.Since.refl _ _).alloc (Nat.le_refl _) _
  have hz : (j : Int) < (n : Int) := by omega
  obtain ⟨rfl, g0⟩ := (HD.keep sA) j hjn
  rw [Nat.zero_add, hx] at g0
  go_enter Tryz.func203, Tryz.ntmps203
  go_wp2
  go_ret2
  exact ⟨rfl, sA⟩

set_option maxHeartbeats 3200000 in
set_option maxRecDepth 100000 in
theorem dim4 (v0 v2 v3 v4 x : Int) (j : Nat) (a1 : Option Addr) (nv k1 : Nat) (aD : Option Addr) (bD n cD : Nat) (D : Nat → Int) (w : World) (HD : Ints w aD bD 0 n D) (hjn : j < n) (hx : D j = x) (_x1 : 1 ≤ x) (_x2 : x ≤ 1000) (i : Nat) (hi : i < n) (hv2 : v2 = i) :
    Calls Tryz.prog 206 #[.agg #[.int .i64 v0, .int .i64 (j : Int), .int .i64 v2, .int .i64 v3, .int .i64 v4, .slice a1 nv k1], .slice aD n cD] w fun e w' => e = .returned (.tuple #[.int .i64 (if D i = x then x else 0), .int .i64 (if D i = x then 0 else 14)]) ∧ w.Since w.heap.size w' := by
  have sA : w.Since w.heap.size (w.alloc (.cells #[.int .i64 v0, .int .i64 (j : Int), .int .i64 v2, .int .i64 v3, .int .i64 v4, .slice a1 nv k1] 121)) := (World.Since.refl _ _).alloc (Nat.le_refl _) _
  have hz : (j : Int) < (n : Int) := by omega
  obtain ⟨rfl, g0⟩ := (HD.keep sA) j hjn
  rw [Nat.zero_add, hx] at g0
  subst hv2
  have hz2 : (i : Int) < (n : Int) := by omega
  obtain ⟨-, g1⟩ := (HD.keep sA) i hi
  rw [Nat.zero_add] at g1
  obtain ⟨y, hy⟩ : ∃ y, y = D i := ⟨_, rfl⟩
  rw [← hy] at g1 ⊢
  clear hy
  by_cases h : y = x
  · rw [if_pos h, if_pos h]
    have q3 : (x != y) = false := by simp [h]
    clear h
    go_enter Tryz.func206, Tryz.ntmps206
    go_wp2
    go_region
    go_wp2
    go_ret2
    exact ⟨rfl, sA.drew⟩
  · rw [if_neg h, if_neg h]
    have q3 : (x != y) = true := by simp; omega
    clear h
    go_enter Tryz.func206, Tryz.ntmps206
    go_wp2
    go_region
    go_wp2
    go_ret2
    exact ⟨rfl, sA.drew⟩

end Go.Proofs.YtlpabmcebpppfaaGreatDoor

namespace Go.Proofs.YtlpabmcebpppfaaGreatDoor
open Go.RowKit

/-- The dimension of a node over a source of dimension x. -/
def dimX (op k s x : Int) : Int := if op = 1 then k else if op = 5 then x / k else if op = 6 then (x - k) / s + 1 else x

set_option maxHeartbeats 3200000 in
set_option maxRecDepth 100000 in
/-- spec.l2NodeDim. -/
theorem l2NodeDim_any (op v1 v2 v3 v4 x : Int) (a1 : Option Addr) (nv k1 : Nat) (w : World) (x1 : 1 ≤ x) (x2 : x ≤ 1000) (c5 : op = 5 → 1 ≤ v3 ∧ v3 ≤ 1000) (c6 : op = 6 → 1 ≤ v3 ∧ v3 ≤ x ∧ 1 ≤ v4 ∧ v4 ≤ 1000) :
    Calls Tryz.prog 81 #[.agg #[.int .i64 op, .int .i64 v1, .int .i64 v2, .int .i64 v3, .int .i64 v4, .slice a1 nv k1], .int .i64 x] w fun e w' => e = .returned (.int .i64 (dimX op v3 v4 x)) ∧ w.Since w.heap.size w' := by
  by_cases h1 : op = 1
  · subst h1
    have sA : w.Since w.heap.size (w.alloc (.cells #[.int .i64 1, .int .i64 v1, .int .i64 v2, .int .i64 v3, .int .i64 v4, .slice a1 nv k1] 56)) := (World.Since.refl _ _).alloc (Nat.le_refl _) _
    clear c5 c6
    have HX := hide (show dimX 1 v3 v4 x = v3 from rfl)
    go_enter Tryz.func81, Tryz.ntmps81
    go_wp2
    go_ret
    exact ⟨ret_int HX.out.symm, sA⟩
  by_cases h5 : op = 5
  · subst h5
    obtain ⟨k0, k2⟩ := c5 rfl
    have sA : w.Since w.heap.size (w.alloc (.cells #[.int .i64 5, .int .i64 v1, .int .i64 v2, .int .i64 v3, .int .i64 v4, .slice a1 nv k1] 56)) := (World.Since.refl _ _).alloc (Nat.le_refl _) _
    have p2 : x.tdiv v3 = x / v3 := Int.tdiv_eq_ediv_of_nonneg (by omega)
    have d0 : 0 ≤ x / v3 := Int.ediv_nonneg (by omega) (by omega)
    have d1 : x / v3 ≤ x := Int.ediv_le_self _ (by omega)
    obtain ⟨z, hz'⟩ : ∃ z, z = x / v3 := ⟨_, rfl⟩
    have HX := hide (show dimX 5 v3 v4 x = z by rw [hz']; rfl)
    rw [← hz'] at p2 d0 d1
    have q0 : ¬ v3 = 0 := by omega
    clear c5 c6 hz'
    go_enter Tryz.func81, Tryz.ntmps81
    go_wp2
    go_ret
    exact ⟨ret_int HX.out.symm, sA⟩
  by_cases h6 : op = 6
  · subst h6
    obtain ⟨k0, k2, s0, s2⟩ := c6 rfl
    have sA : w.Since w.heap.size (w.alloc (.cells #[.int .i64 6, .int .i64 v1, .int .i64 v2, .int .i64 v3, .int .i64 v4, .slice a1 nv k1] 56)) := (World.Since.refl _ _).alloc (Nat.le_refl _) _
    have nA := Box6.new w (.int .i64 6) (.int .i64 v1) (.int .i64 v2) (.int .i64 v3) (.int .i64 v4) (.slice a1 nv k1) 56
    clear c5 c6
    go_enter Tryz.func81, Tryz.ntmps81
    go_wp2_with fail
    generalize w.alloc (.cells #[.int .i64 6, .int .i64 v1, .int .i64 v2, .int .i64 v3, .int .i64 v4, .slice a1 nv k1] 56) = wA at *
    go_loopw [5, 6] (fun c i wr => ∃ k : Nat, k ≤ 1000 ∧ c = .int .i64 k ∧ i = .int .i64 k ∧ wr = wA ∧ (0 < k → ((k : Int) - 1) * v4 + v3 ≤ x)) (fun _ i _ => 1001 - (intOf i).toNat)
    case atStart => exact ⟨0, by omega, rfl, rfl, rfl, fun h => absurd h (by omega)⟩
    case round =>
      obtain ⟨k, hk, rfl, rfl, rfl, hb⟩ := hrel
      have g3 := nA.c3
      have g4 := nA.c4
      have m0 : 0 ≤ (k : Int) * v4 := Int.mul_nonneg (by omega) (by omega)
      have m1 : (k : Int) * v4 ≤ 1000 * 1000 := Int.mul_le_mul (by omega) (by omega) (by omega) (by omega)
      have m2 : ((k : Int) - 1) * v4 = (k : Int) * v4 - v4 := by rw [Int.sub_mul, Int.one_mul]
      have m3 : (k : Int) ≤ (k : Int) * v4 := by
        have := Int.mul_le_mul_of_nonneg_left s0 (show 0 ≤ (k : Int) by omega)
        omega
      obtain ⟨t, ht⟩ : ∃ t, t = (k : Int) * v4 := ⟨_, rfl⟩
      rw [← ht] at m0 m1 m2 m3
      rw [m2] at hb
      have HT := hide ht
      have e1 : (k : Int) * v4 = t := ht.symm
      clear ht m2
      by_cases hlt : t + v3 ≤ x
      · go_wp2
        go_roundw
        case rel => exact ⟨k + 1, by omega, by go_num, by go_num, (by first | rfl | trivial), fun _ => by rw [show (((k + 1 : Nat) : Int) - 1) = (k : Int) by omega, ← HT.out]; exact hlt⟩
        case measure => simp [intOf]; omega
      · have kp : 0 < k := by
          rcases Nat.eq_zero_or_pos k with e | e
          · subst e
            exfalso
            have : t = 0 := by rw [HT.out]; simp
            omega
          · exact e
        have hb' := hb kp
        have ee : (x - v3) / v4 = (k : Int) - 1 := by
          rw [Int.ediv_eq_iff_of_pos (by omega)]
          rw [Int.sub_mul, Int.one_mul, ← HT.out]
          constructor <;> omega
        have HX := hide (show dimX 6 v3 v4 x = (k : Int) by unfold dimX; rw [if_neg (by decide), if_neg (by decide), if_pos rfl, ee]; omega)
        clear ee
        go_wp2
        go_ret
        exact ⟨ret_int HX.out.symm, sA⟩
  have sA : w.Since w.heap.size (w.alloc (.cells #[.int .i64 op, .int .i64 v1, .int .i64 v2, .int .i64 v3, .int .i64 v4, .slice a1 nv k1] 56)) := (World.Since.refl _ _).alloc (Nat.le_refl _) _
  have HX := hide (show dimX op v3 v4 x = x by unfold dimX; rw [if_neg h1, if_neg h5, if_neg h6])
  clear c5 c6
  go_enter Tryz.func81, Tryz.ntmps81
  go_wp2
  go_ret
  exact ⟨ret_int HX.out.symm, sA⟩

end Go.Proofs.YtlpabmcebpppfaaGreatDoor

namespace Go.Proofs.YtlpabmcebpppfaaGreatDoor
open Go.RowKit

set_option maxHeartbeats 3200000 in
set_option maxRecDepth 100000 in
theorem dim5 (v0 v2 v3 v4 x : Int) (j : Nat) (a1 : Option Addr) (nv k1 : Nat) (aD : Option Addr) (bD n cD : Nat) (D : Nat → Int) (w : World) (HD : Ints w aD bD 0 n D) (hjn : j < n) (hx : D j = x) (_x1 : 1 ≤ x) (_x2 : x ≤ 1000) (c0 : 1 ≤ v3) (c1 : v3 ≤ 1000) :
    Calls Tryz.prog 209 #[.agg #[.int .i64 v0, .int .i64 (j : Int), .int .i64 v2, .int .i64 v3, .int .i64 v4, .slice a1 nv k1], .slice aD n cD] w fun e w' => e = .returned (.tuple #[.int .i64 (if x % v3 = 0 then x / v3 else 0), .int .i64 (if x % v3 = 0 then 0 else 14)]) ∧ w.Since w.heap.size w' := by
  have sA : w.Since w.heap.size (w.alloc (.cells #[.int .i64 v0, .int .i64 (j : Int), .int .i64 v2, .int .i64 v3, .int .i64 v4, .slice a1 nv k1] 122)) := (World.Since.refl _ _).alloc (Nat.le_refl _) _
  have hz : (j : Int) < (n : Int) := by omega
  obtain ⟨rfl, g0⟩ := (HD.keep sA) j hjn
  rw [Nat.zero_add, hx] at g0
  have p1 : x.tmod v3 = x % v3 := Int.tmod_eq_emod_of_nonneg (by omega)
  have p2 : x.tdiv v3 = x / v3 := Int.tdiv_eq_ediv_of_nonneg (by omega)
  have d0 : 0 ≤ x / v3 := Int.ediv_nonneg (by omega) (by omega)
  have d1 : x / v3 ≤ x := Int.ediv_le_self _ (by omega)
  obtain ⟨y, hy⟩ : ∃ y, y = x % v3 := ⟨_, rfl⟩
  obtain ⟨z, hz'⟩ : ∃ z, z = x / v3 := ⟨_, rfl⟩
  rw [← hy] at p1 ⊢
  rw [← hz'] at p2 d0 d1 ⊢
  have q0 : ¬ v3 = 0 := by omega
  have q1 : IntKind.i64.wrap (x.tdiv v3) = z := by rw [p2]; exact wrap_id (by omega) (by omega)
  clear hy hz'
  by_cases h : y = 0
  · rw [if_pos h, if_pos h]
    have q3 : (y != 0) = false := by simp [h]
    clear h
    go_enter Tryz.func209, Tryz.ntmps209
    go_wp2
    go_region
    go_wp2
    go_region
    go_wp2
    go_ret2
    exact ⟨rfl, sA.drew.drew⟩
  · rw [if_neg h, if_neg h]
    have q3 : (y != 0) = true := by simp [h]
    clear h
    go_enter Tryz.func209, Tryz.ntmps209
    go_wp2
    go_region
    go_wp2
    go_ret2
    exact ⟨rfl, sA.drew⟩

end Go.Proofs.YtlpabmcebpppfaaGreatDoor

namespace Go.Proofs.YtlpabmcebpppfaaGreatDoor
open Go.RowKit

set_option maxHeartbeats 3200000 in
set_option maxRecDepth 100000 in
theorem dim6 (v0 v2 v3 v4 x : Int) (j : Nat) (a1 : Option Addr) (nv k1 : Nat) (aD : Option Addr) (bD n cD : Nat) (D : Nat → Int) (w : World) (HD : Ints w aD bD 0 n D) (hjn : j < n) (hx : D j = x) (_x1 : 1 ≤ x) (_x2 : x ≤ 1000) (c0 : 1 ≤ v3) (c1 : v3 ≤ 1000) (s0 : 1 ≤ v4) (s1 : v4 ≤ 1000) (_hv : nv ≤ 1048576) :
    Calls Tryz.prog 212 #[.agg #[.int .i64 v0, .int .i64 (j : Int), .int .i64 v2, .int .i64 v3, .int .i64 v4, .slice a1 nv k1], .slice aD n cD] w fun e w' => e = .returned (.tuple #[.int .i64 (if v3 > x ∨ (nv : Int) ≠ v3 + 1 then 0 else (x - v3) / v4 + 1), .int .i64 (if v3 > x ∨ (nv : Int) ≠ v3 + 1 then 14 else 0)]) ∧ w.Since w.heap.size w' := by
  have sA : w.Since w.heap.size (w.alloc (.cells #[.int .i64 v0, .int .i64 (j : Int), .int .i64 v2, .int .i64 v3, .int .i64 v4, .slice a1 nv k1] 123)) := (World.Since.refl _ _).alloc (Nat.le_refl _) _
  have hz : (j : Int) < (n : Int) := by omega
  obtain ⟨rfl, g0⟩ := (HD.keep sA) j hjn
  rw [Nat.zero_add, hx] at g0
  by_cases h : v3 > x
  · rw [if_pos (.inl h), if_pos (.inl h)]
    have h' : x < v3 := h
    clear h
    go_enter Tryz.func212, Tryz.ntmps212
    go_wp2
    go_ret2
    exact ⟨rfl, sA⟩
  by_cases h2 : (nv : Int) = v3 + 1
  · rw [if_neg (by omega), if_neg (by omega)]
    have p2 : (x - v3).tdiv v4 = (x - v3) / v4 := Int.tdiv_eq_ediv_of_nonneg (by omega)
    have d0 : 0 ≤ (x - v3) / v4 := Int.ediv_nonneg (by omega) (by omega)
    have d1 : (x - v3) / v4 ≤ x - v3 := Int.ediv_le_self _ (by omega)
    obtain ⟨z, hz'⟩ : ∃ z, z = (x - v3) / v4 := ⟨_, rfl⟩
    rw [← hz'] at p2 d0 d1 ⊢
    have q0 : ¬ v4 = 0 := by omega
    clear hz'
    go_enter Tryz.func212, Tryz.ntmps212
    go_wp2
    go_ret2
    exact ⟨rfl, sA⟩
  · rw [if_pos (.inr h2), if_pos (.inr h2)]
    have q3 : ((nv : Int) != v3 + 1) = true := by simp [h2]
    go_enter Tryz.func212, Tryz.ntmps212
    go_wp2
    go_ret2
    exact ⟨rfl, sA⟩

end Go.Proofs.YtlpabmcebpppfaaGreatDoor

namespace Go.Proofs.YtlpabmcebpppfaaGreatDoor
open Go.RowKit

set_option maxHeartbeats 3200000 in
set_option maxRecDepth 100000 in
theorem dim7 (v0 v2 v3 v4 x : Int) (j : Nat) (a1 : Option Addr) (nv k1 : Nat) (aD : Option Addr) (bD n cD : Nat) (D : Nat → Int) (w : World) (HD : Ints w aD bD 0 n D) (hjn : j < n) (hx : D j = x) (_x1 : 1 ≤ x) (_x2 : x ≤ 1000) (lo bV oV : Nat) (V : Nat → RatD) (HV : Rats w lo a1 bV oV nv V) (h4 : nv = 4) :
    Calls Tryz.prog 215 #[.agg #[.int .i64 v0, .int .i64 (j : Int), .int .i64 v2, .int .i64 v3, .int .i64 v4, .slice a1 nv k1], .slice aD n cD] w fun e w' => e = .returned (.tuple #[.int .i64 (if (V 2).n = 0 then 0 else x), .int .i64 (if (V 2).n = 0 then 15 else 0)]) ∧ w.Since w.heap.size w' := by
  have sA : w.Since w.heap.size (w.alloc (.cells #[.int .i64 v0, .int .i64 (j : Int), .int .i64 v2, .int .i64 v3, .int .i64 v4, .slice a1 nv k1] 124)) := (World.Since.refl _ _).alloc (Nat.le_refl _) _
  have hz : (j : Int) < (n : Int) := by omega
  obtain ⟨rfl, g0⟩ := (HD.keep sA) j hjn
  rw [Nat.zero_add, hx] at g0
  subst h4
  obtain ⟨ea1, y1, y2, l1, l2, M⟩ := (HV.keep sA) 2 (by omega)
  subst ea1
  have m0 := M.c0
  have m1 := M.c1
  have m2 := M.c2
  have nA := Box6.new w (.int .i64 v0) (.int .i64 (j : Int)) (.int .i64 v2) (.int .i64 v3) (.int .i64 v4) (.slice (some ⟨bV, oV, none⟩) 4 k1) 124
  by_cases h : (V 2).n = 0
  · rw [if_pos h, if_pos h]
    have q : (((V 2).n : Int) == 0) = true := by simp [h]
    clear h
    go_enter Tryz.func215, Tryz.ntmps215
    go_wp2_with fail
    generalize w.alloc (.cells #[.int .i64 v0, .int .i64 (j : Int), .int .i64 v2, .int .i64 v3, .int .i64 v4, .slice (some ⟨bV, oV, none⟩) 4 k1] 124) = wA at *
    refine (isZeroRat_any (V 2).neg y1 y2 (V 2).n l1 (V 2).m l2 wA).mono ?_
    rintro e w1 ⟨rfl, s1⟩
    have N1 := nA.keep s1
    have n1 := N1.c1
    have S1 := sA.trans (sinceMono s1 sA.size)
    have g1 : w1.cell? ⟨bD, j, none⟩ = some (.int .i64 x) := (s1.cell (a := ⟨bD, j, none⟩) (World.block_lt_of_cell? _ _ g0)).trans g0
    clear m0 m1 m2 nA g0
    go_wp2
    go_ret2
    exact ⟨rfl, S1⟩
  · rw [if_neg h, if_neg h]
    have q : (((V 2).n : Int) == 0) = false := by simp; omega
    clear h
    go_enter Tryz.func215, Tryz.ntmps215
    go_wp2_with fail
    generalize w.alloc (.cells #[.int .i64 v0, .int .i64 (j : Int), .int .i64 v2, .int .i64 v3, .int .i64 v4, .slice (some ⟨bV, oV, none⟩) 4 k1] 124) = wA at *
    refine (isZeroRat_any (V 2).neg y1 y2 (V 2).n l1 (V 2).m l2 wA).mono ?_
    rintro e w1 ⟨rfl, s1⟩
    have N1 := nA.keep s1
    have n1 := N1.c1
    have S1 := sA.trans (sinceMono s1 sA.size)
    have g1 : w1.cell? ⟨bD, j, none⟩ = some (.int .i64 x) := (s1.cell (a := ⟨bD, j, none⟩) (World.block_lt_of_cell? _ _ g0)).trans g0
    clear m0 m1 m2 nA g0
    go_wp2
    go_ret2
    exact ⟨rfl, S1⟩

end Go.Proofs.YtlpabmcebpppfaaGreatDoor

namespace Go.Proofs.YtlpabmcebpppfaaGreatDoor
open Go.RowKit

/-- A node's dimension; 0 where it has none. -/
def dimOr (D : Nat → Int) (n : Nat) (d : NodeD) : Int := if nodeCode D n d = 0 then nodeDim D d else 0

set_option maxHeartbeats 6400000 in
set_option maxRecDepth 100000 in
theorem dimOf1 (v1 v2 v3 v4 : Int) (nv : Nat) (V : Nat → RatD) (a1 : Option Addr) (lo k1 m : Nat) (aD : Option Addr) (bD n cD : Nat) (D : Nat → Int) (w : World) (hw : 0 ≤ w.heap.size) (hT : Tab w) (K : Kinds w m) (hd : (NodeD.mk 1 v1 v2 v3 v4 nv V).size ≤ 1048576) (H : NodL w lo (NodeD.mk 1 v1 v2 v3 v4 nv V) a1 k1) (HD : Ints w aD bD 0 n D) (hD : Dok D n) :
    Calls Tryz.prog 86 #[.agg #[.int .i64 1, .int .i64 v1, .int .i64 v2, .int .i64 v3, .int .i64 v4, .slice a1 nv k1], .slice aD n cD, .map (some m)] w fun e w' => e = .returned (.tuple #[.int .i64 (dimOr D n (NodeD.mk 1 v1 v2 v3 v4 nv V)), .int .i64 (nodeCode D n (NodeD.mk 1 v1 v2 v3 v4 nv V))]) ∧ w.Since w.heap.size w' := by
  have sA : w.Since w.heap.size (w.alloc (.cells #[.int .i64 1, .int .i64 v1, .int .i64 v2, .int .i64 v3, .int .i64 v4, .slice a1 nv k1] 56)) := (World.Since.refl _ _).alloc (Nat.le_refl _) _
  have nA := Box6.new w (.int .i64 1) (.int .i64 v1) (.int .i64 v2) (.int .i64 v3) (.int .i64 v4) (.slice a1 nv k1) 56
  have hm1 : ∀ w : World, (method 350 117 (.agg #[.int .i64 1, .int .i64 v1, .int .i64 v2, .int .i64 v3, .int .i64 v4, .slice a1 nv k1]) "loop.example/s0015/impl.form").run Tryz.prog w = .ok (198, .agg #[.int .i64 1, .int .i64 v1, .int .i64 v2, .int .i64 v3, .int .i64 v4, .slice a1 nv k1]) w := fun _ => by kernel_rfl
  have hm2 : ∀ w : World, (method 350 117 (.agg #[.int .i64 1, .int .i64 v1, .int .i64 v2, .int .i64 v3, .int .i64 v4, .slice a1 nv k1]) "loop.example/s0015/impl.dimension").run Tryz.prog w = .ok (197, .agg #[.int .i64 1, .int .i64 v1, .int .i64 v2, .int .i64 v3, .int .i64 v4, .slice a1 nv k1]) w := fun _ => by kernel_rfl
  go_enter Tryz.func86, Tryz.ntmps86
  go_wp2_with fail
  generalize w.alloc (.cells #[.int .i64 1, .int .i64 v1, .int .i64 v2, .int .i64 v3, .int .i64 v4, .slice a1 nv k1] 56) = wA at *
  refine (operatorOf1 m v1 v2 v3 v4 a1 nv k1 wA (K.keep sA)).mono ?_
  rintro e w1 ⟨rfl, s1⟩
  have d1 : w1.Since w1.heap.size w1.drew := (World.Since.refl _ _).drew
  have S1 : w.Since w.heap.size w1 := sA.trans (sinceMono s1 sA.size)
  have N1 := nA.keep s1
  have J1 := form1 1 v1 v2 v3 v4 a1 nv k1 w1.drew
  have q0 := N1.c0
  have q1 := N1.c1
  have q2 := N1.c2
  have q3 := N1.c3
  have q4 := N1.c4
  have q5 := N1.c5
  go_wp2_with fail
  go_region_held3 (fun w' => w'.cell? ⟨w.heap.size, 0, none⟩ = some (.int .i64 1) ∧ w'.cell? ⟨w.heap.size, 1, none⟩ = some (.int .i64 v1) ∧ w'.cell? ⟨w.heap.size, 2, none⟩ = some (.int .i64 v2) ∧ w'.cell? ⟨w.heap.size, 3, none⟩ = some (.int .i64 v3) ∧ w'.cell? ⟨w.heap.size, 4, none⟩ = some (.int .i64 v4) ∧ w'.cell? ⟨w.heap.size, 5, none⟩ = some (.slice a1 nv k1)) (go_keep)
    (first
      | (go_at_call 198
         with_reducible refine J1.mono ?_
         rintro e w2 ⟨rfl, s2⟩
         have u2 : w1.Since w1.heap.size w2 := d1.trans (sinceMono s2 d1.size)
         have S2 : w.Since w.heap.size w2 := S1.trans (sinceMono u2 S1.size)
         have N2 := N1.keep u2
         have i0 := N2.c0
         have i1 := N2.c1
         have i2 := N2.c2
         have i3 := N2.c3
         have i4 := N2.c4
         have i5 := N2.c5
         have J2 := fits_any 1 false true false (-1) (NodeD.mk 1 v1 v2 v3 v4 nv V) a1 lo k1 w2 (Nat.zero_le _) (hT.stay hw S2) hd (H.keep S2)
         dsimp only at J2)
      | (go_at_call 107
         with_reducible refine J2.mono ?_
         rintro e w3 ⟨⟨r, rfl, hr⟩, s3⟩
         have S3 : w.Since w.heap.size w3 := S2.trans (sinceMono s3 S2.size)
         have N3 := N2.keep s3
         have i0 := N3.c0
         have i1 := N3.c1
         have i2 := N3.c2
         have i3 := N3.c3
         have i4 := N3.c4
         have i5 := N3.c5
         have hF := hide (hr.trans (form_iff (d := (NodeD.mk 1 v1 v2 v3 v4 nv V)) (z := 1) rfl (by decide) (by decide) rfl rfl rfl (.inl ⟨rfl, rfl, by decide, by decide⟩)).symm)
         clear hr))
  cases r
  · have E := hide (code_form (D := D) (i := n) (d := (NodeD.mk 1 v1 v2 v3 v4 nv V)) (fun h => by have := hF.out.2 h; cases this))
    clear hF
    go_wp2
    go_ret2
    exact ⟨by rw [E.out]; unfold dimOr; rw [E.out]; rfl, S3⟩
  have F := hide (hF.out.1 rfl)
  clear hF q0 q1 q2 q3 q4 q5
  have d3 : w3.Since w3.heap.size w3.drew := (World.Since.refl _ _).drew
  have J3 := form1 1 v1 v2 v3 v4 a1 nv k1 w3.drew
  go_wp2_with fail
  go_region_held3 (fun w' => w'.cell? ⟨w.heap.size, 0, none⟩ = some (.int .i64 1) ∧ w'.cell? ⟨w.heap.size, 1, none⟩ = some (.int .i64 v1) ∧ w'.cell? ⟨w.heap.size, 2, none⟩ = some (.int .i64 v2) ∧ w'.cell? ⟨w.heap.size, 3, none⟩ = some (.int .i64 v3) ∧ w'.cell? ⟨w.heap.size, 4, none⟩ = some (.int .i64 v4) ∧ w'.cell? ⟨w.heap.size, 5, none⟩ = some (.slice a1 nv k1)) (go_keep)
    (first
      | (go_at_call 198
         with_reducible refine J3.mono ?_
         rintro e w4 ⟨rfl, s4⟩
         have u4 : w3.Since w3.heap.size w4 := d3.trans (sinceMono s4 d3.size)
         have S4 : w.Since w.heap.size w4 := S3.trans (sinceMono u4 S3.size)
         have N4 := N3.keep u4
         have j0 := N4.c0
         have j1 := N4.c1
         have j2 := N4.c2
         have j3 := N4.c3
         have j4 := N4.c4
         have j5 := N4.c5
         have J4 := knows_any 1 false true false (-1) 1 v1 v2 v3 v4 a1 nv k1 n w4)
      | (go_at_call 108
         with_reducible refine J4.mono ?_
         rintro e w5 ⟨⟨r, rfl, hr⟩, s5⟩
         have S5 : w.Since w.heap.size w5 := S4.trans (sinceMono s5 S4.size)
         have N5 := N4.keep s5
         have j0 := N5.c0
         have j1 := N5.c1
         have j2 := N5.c2
         have j3 := N5.c3
         have j4 := N5.c4
         have j5 := N5.c5
         have hS := hide hr
         clear hr))
  cases r
  · have E := hide (code_src (D := D) F.out (fun h => by have := hS.out.2 h; cases this))
    clear hS F
    go_wp2
    go_ret2
    exact ⟨by rw [E.out]; unfold dimOr; rw [E.out]; rfl, S5⟩
  have G := hide (show SrcOk (NodeD.mk 1 v1 v2 v3 v4 nv V) n from hS.out.1 rfl)
  clear hS
  obtain ⟨j, hj⟩ : ∃ j : Nat, v1 = j := ⟨v1.toNat, by have h : 0 ≤ v1 := G.out.1; omega⟩
  subst hj
  have hjn : j < n := by have h : (j : Int) < n := G.out.2.1; omega
  obtain ⟨x, hx⟩ : ∃ x, D j = x := ⟨_, rfl⟩
  have hDj := hD j hjn
  rw [hx] at hDj
  have hk : 0 ≤ v3 ∧ v3 ≤ 1000 := by have h : 1 ≤ v3 ∧ v3 ≤ 1000 := F.out.k; omega
  have hv : nv ≤ 1048576 := by have h : nv + szR V nv ≤ 1048576 := hd; omega
  have E1 : nodeCode D n (NodeD.mk 1 (j : Int) v2 v3 v4 nv V) = if (nv : Int) = v3 * (x + 1) then 0 else 14 := by
    rw [code_shape F.out G.out]
    by_cases h : (nv : Int) = v3 * (x + 1) <;> simp [shapeCode, hx, h]
  have E2 : dimOr D n (NodeD.mk 1 (j : Int) v2 v3 v4 nv V) = if (nv : Int) = v3 * (x + 1) then v3 else 0 := by
    unfold dimOr
    rw [E1]
    by_cases h : (nv : Int) = v3 * (x + 1) <;> simp [nodeDim, h]
  have J5 := dim1 1 v2 v3 v4 x j a1 nv k1 aD bD n cD D w5 (HD.keep S5) hjn hx hDj.1 hDj.2 hk.1 hk.2 hv
  rw [← E1, ← E2] at J5
  clear E1 E2
  go_wp2_with fail
  refine J5.mono ?_
  rintro e w6 ⟨rfl, s6⟩
  go_wp2
  go_ret2
  exact ⟨rfl, S5.trans (sinceMono s6 S5.size)⟩

end Go.Proofs.YtlpabmcebpppfaaGreatDoor

namespace Go.Proofs.YtlpabmcebpppfaaGreatDoor
open Go.RowKit

set_option maxHeartbeats 6400000 in
set_option maxRecDepth 100000 in
theorem dimOf2 (v1 v2 v3 v4 : Int) (nv : Nat) (V : Nat → RatD) (a1 : Option Addr) (lo k1 m : Nat) (aD : Option Addr) (bD n cD : Nat) (D : Nat → Int) (w : World) (hw : 0 ≤ w.heap.size) (hT : Tab w) (K : Kinds w m) (hd : (NodeD.mk 2 v1 v2 v3 v4 nv V).size ≤ 1048576) (H : NodL w lo (NodeD.mk 2 v1 v2 v3 v4 nv V) a1 k1) (HD : Ints w aD bD 0 n D) (hD : Dok D n) :
    Calls Tryz.prog 86 #[.agg #[.int .i64 2, .int .i64 v1, .int .i64 v2, .int .i64 v3, .int .i64 v4, .slice a1 nv k1], .slice aD n cD, .map (some m)] w fun e w' => e = .returned (.tuple #[.int .i64 (dimOr D n (NodeD.mk 2 v1 v2 v3 v4 nv V)), .int .i64 (nodeCode D n (NodeD.mk 2 v1 v2 v3 v4 nv V))]) ∧ w.Since w.heap.size w' := by
  have sA : w.Since w.heap.size (w.alloc (.cells #[.int .i64 2, .int .i64 v1, .int .i64 v2, .int .i64 v3, .int .i64 v4, .slice a1 nv k1] 56)) := (World.Since.refl _ _).alloc (Nat.le_refl _) _
  have nA := Box6.new w (.int .i64 2) (.int .i64 v1) (.int .i64 v2) (.int .i64 v3) (.int .i64 v4) (.slice a1 nv k1) 56
  have hm1 : ∀ w : World, (method 350 119 (.agg #[.int .i64 2, .int .i64 v1, .int .i64 v2, .int .i64 v3, .int .i64 v4, .slice a1 nv k1]) "loop.example/s0015/impl.form").run Tryz.prog w = .ok (201, .agg #[.int .i64 2, .int .i64 v1, .int .i64 v2, .int .i64 v3, .int .i64 v4, .slice a1 nv k1]) w := fun _ => by kernel_rfl
  have hm2 : ∀ w : World, (method 350 119 (.agg #[.int .i64 2, .int .i64 v1, .int .i64 v2, .int .i64 v3, .int .i64 v4, .slice a1 nv k1]) "loop.example/s0015/impl.dimension").run Tryz.prog w = .ok (200, .agg #[.int .i64 2, .int .i64 v1, .int .i64 v2, .int .i64 v3, .int .i64 v4, .slice a1 nv k1]) w := fun _ => by kernel_rfl
  go_enter Tryz.func86, Tryz.ntmps86
  go_wp2_with fail
  generalize w.alloc (.cells #[.int .i64 2, .int .i64 v1, .int .i64 v2, .int .i64 v3, .int .i64 v4, .slice a1 nv k1] 56) = wA at *
  refine (operatorOf2 m v1 v2 v3 v4 a1 nv k1 wA (K.keep sA)).mono ?_
  rintro e w1 ⟨rfl, s1⟩
  have d1 : w1.Since w1.heap.size w1.drew := (World.Since.refl _ _).drew
  have S1 : w.Since w.heap.size w1 := sA.trans (sinceMono s1 sA.size)
  have N1 := nA.keep s1
  have J1 := form2 2 v1 v2 v3 v4 a1 nv k1 w1.drew
  have q0 := N1.c0
  have q1 := N1.c1
  have q2 := N1.c2
  have q3 := N1.c3
  have q4 := N1.c4
  have q5 := N1.c5
  go_wp2_with fail
  go_region_held3 (fun w' => w'.cell? ⟨w.heap.size, 0, none⟩ = some (.int .i64 2) ∧ w'.cell? ⟨w.heap.size, 1, none⟩ = some (.int .i64 v1) ∧ w'.cell? ⟨w.heap.size, 2, none⟩ = some (.int .i64 v2) ∧ w'.cell? ⟨w.heap.size, 3, none⟩ = some (.int .i64 v3) ∧ w'.cell? ⟨w.heap.size, 4, none⟩ = some (.int .i64 v4) ∧ w'.cell? ⟨w.heap.size, 5, none⟩ = some (.slice a1 nv k1)) (go_keep)
    (first
      | (go_at_call 201
         with_reducible refine J1.mono ?_
         rintro e w2 ⟨rfl, s2⟩
         have u2 : w1.Since w1.heap.size w2 := d1.trans (sinceMono s2 d1.size)
         have S2 : w.Since w.heap.size w2 := S1.trans (sinceMono u2 S1.size)
         have N2 := N1.keep u2
         have i0 := N2.c0
         have i1 := N2.c1
         have i2 := N2.c2
         have i3 := N2.c3
         have i4 := N2.c4
         have i5 := N2.c5
         have J2 := fits_any 2 false false false 0 (NodeD.mk 2 v1 v2 v3 v4 nv V) a1 lo k1 w2 (Nat.zero_le _) (hT.stay hw S2) hd (H.keep S2)
         dsimp only at J2)
      | (go_at_call 107
         with_reducible refine J2.mono ?_
         rintro e w3 ⟨⟨r, rfl, hr⟩, s3⟩
         have S3 : w.Since w.heap.size w3 := S2.trans (sinceMono s3 S2.size)
         have N3 := N2.keep s3
         have i0 := N3.c0
         have i1 := N3.c1
         have i2 := N3.c2
         have i3 := N3.c3
         have i4 := N3.c4
         have i5 := N3.c5
         have hF := hide (hr.trans (form_iff (d := (NodeD.mk 2 v1 v2 v3 v4 nv V)) (z := 2) rfl (by decide) (by decide) rfl rfl rfl (.inr (.inl ⟨rfl, rfl⟩))).symm)
         clear hr))
  cases r
  · have E := hide (code_form (D := D) (i := n) (d := (NodeD.mk 2 v1 v2 v3 v4 nv V)) (fun h => by have := hF.out.2 h; cases this))
    clear hF
    go_wp2
    go_ret2
    exact ⟨by rw [E.out]; unfold dimOr; rw [E.out]; rfl, S3⟩
  have F := hide (hF.out.1 rfl)
  clear hF q0 q1 q2 q3 q4 q5
  have d3 : w3.Since w3.heap.size w3.drew := (World.Since.refl _ _).drew
  have J3 := form2 2 v1 v2 v3 v4 a1 nv k1 w3.drew
  go_wp2_with fail
  go_region_held3 (fun w' => w'.cell? ⟨w.heap.size, 0, none⟩ = some (.int .i64 2) ∧ w'.cell? ⟨w.heap.size, 1, none⟩ = some (.int .i64 v1) ∧ w'.cell? ⟨w.heap.size, 2, none⟩ = some (.int .i64 v2) ∧ w'.cell? ⟨w.heap.size, 3, none⟩ = some (.int .i64 v3) ∧ w'.cell? ⟨w.heap.size, 4, none⟩ = some (.int .i64 v4) ∧ w'.cell? ⟨w.heap.size, 5, none⟩ = some (.slice a1 nv k1)) (go_keep)
    (first
      | (go_at_call 201
         with_reducible refine J3.mono ?_
         rintro e w4 ⟨rfl, s4⟩
         have u4 : w3.Since w3.heap.size w4 := d3.trans (sinceMono s4 d3.size)
         have S4 : w.Since w.heap.size w4 := S3.trans (sinceMono u4 S3.size)
         have N4 := N3.keep u4
         have j0 := N4.c0
         have j1 := N4.c1
         have j2 := N4.c2
         have j3 := N4.c3
         have j4 := N4.c4
         have j5 := N4.c5
         have J4 := knows_any 2 false false false 0 2 v1 v2 v3 v4 a1 nv k1 n w4)
      | (go_at_call 108
         with_reducible refine J4.mono ?_
         rintro e w5 ⟨⟨r, rfl, hr⟩, s5⟩
         have S5 : w.Since w.heap.size w5 := S4.trans (sinceMono s5 S4.size)
         have N5 := N4.keep s5
         have j0 := N5.c0
         have j1 := N5.c1
         have j2 := N5.c2
         have j3 := N5.c3
         have j4 := N5.c4
         have j5 := N5.c5
         have hS := hide hr
         clear hr))
  cases r
  · have E := hide (code_src (D := D) F.out (fun h => by have := hS.out.2 h; cases this))
    clear hS F
    go_wp2
    go_ret2
    exact ⟨by rw [E.out]; unfold dimOr; rw [E.out]; rfl, S5⟩
  have G := hide (show SrcOk (NodeD.mk 2 v1 v2 v3 v4 nv V) n from hS.out.1 rfl)
  clear hS
  obtain ⟨j, hj⟩ : ∃ j : Nat, v1 = j := ⟨v1.toNat, by have h : 0 ≤ v1 := G.out.1; omega⟩
  subst hj
  have hjn : j < n := by have h : (j : Int) < n := G.out.2.1; omega
  obtain ⟨x, hx⟩ : ∃ x, D j = x := ⟨_, rfl⟩
  have hDj := hD j hjn
  rw [hx] at hDj
  have E1 : nodeCode D n (NodeD.mk 2 (j : Int) v2 v3 v4 nv V) = 0 := by rw [code_shape F.out G.out]; simp [shapeCode]
  have E2 : dimOr D n (NodeD.mk 2 (j : Int) v2 v3 v4 nv V) = x := by unfold dimOr; rw [if_pos E1]; simp [nodeDim, hx]
  have HE1 := hide E1
  have HE2 := hide E2
  have J5 := dim2 2 v2 v3 v4 x j a1 nv k1 aD bD n cD D w5 (HD.keep S5) hjn hx hDj.1 hDj.2 
  clear E1 E2
  go_wp2_with fail
  refine J5.mono ?_
  rintro e w6 ⟨rfl, s6⟩
  go_wp2
  go_ret2
  exact ⟨by rw [HE1.out, HE2.out]; rfl, S5.trans (sinceMono s6 S5.size)⟩

set_option maxHeartbeats 6400000 in
set_option maxRecDepth 100000 in
theorem dimOf3 (v1 v2 v3 v4 : Int) (nv : Nat) (V : Nat → RatD) (a1 : Option Addr) (lo k1 m : Nat) (aD : Option Addr) (bD n cD : Nat) (D : Nat → Int) (w : World) (hw : 0 ≤ w.heap.size) (hT : Tab w) (K : Kinds w m) (hd : (NodeD.mk 3 v1 v2 v3 v4 nv V).size ≤ 1048576) (H : NodL w lo (NodeD.mk 3 v1 v2 v3 v4 nv V) a1 k1) (HD : Ints w aD bD 0 n D) (hD : Dok D n) :
    Calls Tryz.prog 86 #[.agg #[.int .i64 3, .int .i64 v1, .int .i64 v2, .int .i64 v3, .int .i64 v4, .slice a1 nv k1], .slice aD n cD, .map (some m)] w fun e w' => e = .returned (.tuple #[.int .i64 (dimOr D n (NodeD.mk 3 v1 v2 v3 v4 nv V)), .int .i64 (nodeCode D n (NodeD.mk 3 v1 v2 v3 v4 nv V))]) ∧ w.Since w.heap.size w' := by
  have sA : w.Since w.heap.size (w.alloc (.cells #[.int .i64 3, .int .i64 v1, .int .i64 v2, .int .i64 v3, .int .i64 v4, .slice a1 nv k1] 56)) := (World.Since.refl _ _).alloc (Nat.le_refl _) _
  have nA := Box6.new w (.int .i64 3) (.int .i64 v1) (.int .i64 v2) (.int .i64 v3) (.int .i64 v4) (.slice a1 nv k1) 56
  have hm1 : ∀ w : World, (method 350 120 (.agg #[.int .i64 3, .int .i64 v1, .int .i64 v2, .int .i64 v3, .int .i64 v4, .slice a1 nv k1]) "loop.example/s0015/impl.form").run Tryz.prog w = .ok (204, .agg #[.int .i64 3, .int .i64 v1, .int .i64 v2, .int .i64 v3, .int .i64 v4, .slice a1 nv k1]) w := fun _ => by kernel_rfl
  have hm2 : ∀ w : World, (method 350 120 (.agg #[.int .i64 3, .int .i64 v1, .int .i64 v2, .int .i64 v3, .int .i64 v4, .slice a1 nv k1]) "loop.example/s0015/impl.dimension").run Tryz.prog w = .ok (203, .agg #[.int .i64 3, .int .i64 v1, .int .i64 v2, .int .i64 v3, .int .i64 v4, .slice a1 nv k1]) w := fun _ => by kernel_rfl
  go_enter Tryz.func86, Tryz.ntmps86
  go_wp2_with fail
  generalize w.alloc (.cells #[.int .i64 3, .int .i64 v1, .int .i64 v2, .int .i64 v3, .int .i64 v4, .slice a1 nv k1] 56) = wA at *
  refine (operatorOf3 m v1 v2 v3 v4 a1 nv k1 wA (K.keep sA)).mono ?_
  rintro e w1 ⟨rfl, s1⟩
  have d1 : w1.Since w1.heap.size w1.drew := (World.Since.refl _ _).drew
  have S1 : w.Since w.heap.size w1 := sA.trans (sinceMono s1 sA.size)
  have N1 := nA.keep s1
  have J1 := form3 3 v1 v2 v3 v4 a1 nv k1 w1.drew
  have q0 := N1.c0
  have q1 := N1.c1
  have q2 := N1.c2
  have q3 := N1.c3
  have q4 := N1.c4
  have q5 := N1.c5
  go_wp2_with fail
  go_region_held3 (fun w' => w'.cell? ⟨w.heap.size, 0, none⟩ = some (.int .i64 3) ∧ w'.cell? ⟨w.heap.size, 1, none⟩ = some (.int .i64 v1) ∧ w'.cell? ⟨w.heap.size, 2, none⟩ = some (.int .i64 v2) ∧ w'.cell? ⟨w.heap.size, 3, none⟩ = some (.int .i64 v3) ∧ w'.cell? ⟨w.heap.size, 4, none⟩ = some (.int .i64 v4) ∧ w'.cell? ⟨w.heap.size, 5, none⟩ = some (.slice a1 nv k1)) (go_keep)
    (first
      | (go_at_call 204
         with_reducible refine J1.mono ?_
         rintro e w2 ⟨rfl, s2⟩
         have u2 : w1.Since w1.heap.size w2 := d1.trans (sinceMono s2 d1.size)
         have S2 : w.Since w.heap.size w2 := S1.trans (sinceMono u2 S1.size)
         have N2 := N1.keep u2
         have i0 := N2.c0
         have i1 := N2.c1
         have i2 := N2.c2
         have i3 := N2.c3
         have i4 := N2.c4
         have i5 := N2.c5
         have J2 := fits_any 3 false false false 1 (NodeD.mk 3 v1 v2 v3 v4 nv V) a1 lo k1 w2 (Nat.zero_le _) (hT.stay hw S2) hd (H.keep S2)
         dsimp only at J2)
      | (go_at_call 107
         with_reducible refine J2.mono ?_
         rintro e w3 ⟨⟨r, rfl, hr⟩, s3⟩
         have S3 : w.Since w.heap.size w3 := S2.trans (sinceMono s3 S2.size)
         have N3 := N2.keep s3
         have i0 := N3.c0
         have i1 := N3.c1
         have i2 := N3.c2
         have i3 := N3.c3
         have i4 := N3.c4
         have i5 := N3.c5
         have hF := hide (hr.trans (form_iff (d := (NodeD.mk 3 v1 v2 v3 v4 nv V)) (z := 3) rfl (by decide) (by decide) rfl rfl rfl (.inr (.inr (.inl ⟨rfl, rfl⟩)))).symm)
         clear hr))
  cases r
  · have E := hide (code_form (D := D) (i := n) (d := (NodeD.mk 3 v1 v2 v3 v4 nv V)) (fun h => by have := hF.out.2 h; cases this))
    clear hF
    go_wp2
    go_ret2
    exact ⟨by rw [E.out]; unfold dimOr; rw [E.out]; rfl, S3⟩
  have F := hide (hF.out.1 rfl)
  clear hF q0 q1 q2 q3 q4 q5
  have d3 : w3.Since w3.heap.size w3.drew := (World.Since.refl _ _).drew
  have J3 := form3 3 v1 v2 v3 v4 a1 nv k1 w3.drew
  go_wp2_with fail
  go_region_held3 (fun w' => w'.cell? ⟨w.heap.size, 0, none⟩ = some (.int .i64 3) ∧ w'.cell? ⟨w.heap.size, 1, none⟩ = some (.int .i64 v1) ∧ w'.cell? ⟨w.heap.size, 2, none⟩ = some (.int .i64 v2) ∧ w'.cell? ⟨w.heap.size, 3, none⟩ = some (.int .i64 v3) ∧ w'.cell? ⟨w.heap.size, 4, none⟩ = some (.int .i64 v4) ∧ w'.cell? ⟨w.heap.size, 5, none⟩ = some (.slice a1 nv k1)) (go_keep)
    (first
      | (go_at_call 204
         with_reducible refine J3.mono ?_
         rintro e w4 ⟨rfl, s4⟩
         have u4 : w3.Since w3.heap.size w4 := d3.trans (sinceMono s4 d3.size)
         have S4 : w.Since w.heap.size w4 := S3.trans (sinceMono u4 S3.size)
         have N4 := N3.keep u4
         have j0 := N4.c0
         have j1 := N4.c1
         have j2 := N4.c2
         have j3 := N4.c3
         have j4 := N4.c4
         have j5 := N4.c5
         have J4 := knows_any 3 false false false 1 3 v1 v2 v3 v4 a1 nv k1 n w4)
      | (go_at_call 108
         with_reducible refine J4.mono ?_
         rintro e w5 ⟨⟨r, rfl, hr⟩, s5⟩
         have S5 : w.Since w.heap.size w5 := S4.trans (sinceMono s5 S4.size)
         have N5 := N4.keep s5
         have j0 := N5.c0
         have j1 := N5.c1
         have j2 := N5.c2
         have j3 := N5.c3
         have j4 := N5.c4
         have j5 := N5.c5
         have hS := hide hr
         clear hr))
  cases r
  · have E := hide (code_src (D := D) F.out (fun h => by have := hS.out.2 h; cases this))
    clear hS F
    go_wp2
    go_ret2
    exact ⟨by rw [E.out]; unfold dimOr; rw [E.out]; rfl, S5⟩
  have G := hide (show SrcOk (NodeD.mk 3 v1 v2 v3 v4 nv V) n from hS.out.1 rfl)
  clear hS
  obtain ⟨j, hj⟩ : ∃ j : Nat, v1 = j := ⟨v1.toNat, by have h : 0 ≤ v1 := G.out.1; omega⟩
  subst hj
  have hjn : j < n := by have h : (j : Int) < n := G.out.2.1; omega
  obtain ⟨x, hx⟩ : ∃ x, D j = x := ⟨_, rfl⟩
  have hDj := hD j hjn
  rw [hx] at hDj
  have E1 : nodeCode D n (NodeD.mk 3 (j : Int) v2 v3 v4 nv V) = 0 := by rw [code_shape F.out G.out]; simp [shapeCode]
  have E2 : dimOr D n (NodeD.mk 3 (j : Int) v2 v3 v4 nv V) = x := by unfold dimOr; rw [if_pos E1]; simp [nodeDim, hx]
  have HE1 := hide E1
  have HE2 := hide E2
  have J5 := dim3 3 v2 v3 v4 x j a1 nv k1 aD bD n cD D w5 (HD.keep S5) hjn hx hDj.1 hDj.2 
  clear E1 E2
  go_wp2_with fail
  refine J5.mono ?_
  rintro e w6 ⟨rfl, s6⟩
  go_wp2
  go_ret2
  exact ⟨by rw [HE1.out, HE2.out]; rfl, S5.trans (sinceMono s6 S5.size)⟩

end Go.Proofs.YtlpabmcebpppfaaGreatDoor

namespace Go.Proofs.YtlpabmcebpppfaaGreatDoor
open Go.RowKit

set_option maxHeartbeats 6400000 in
set_option maxRecDepth 100000 in
theorem dimOf4 (v1 v2 v3 v4 : Int) (nv : Nat) (V : Nat → RatD) (a1 : Option Addr) (lo k1 m : Nat) (aD : Option Addr) (bD n cD : Nat) (D : Nat → Int) (w : World) (hw : 0 ≤ w.heap.size) (hT : Tab w) (K : Kinds w m) (hd : (NodeD.mk 4 v1 v2 v3 v4 nv V).size ≤ 1048576) (H : NodL w lo (NodeD.mk 4 v1 v2 v3 v4 nv V) a1 k1) (HD : Ints w aD bD 0 n D) (hD : Dok D n) :
    Calls Tryz.prog 86 #[.agg #[.int .i64 4, .int .i64 v1, .int .i64 v2, .int .i64 v3, .int .i64 v4, .slice a1 nv k1], .slice aD n cD, .map (some m)] w fun e w' => e = .returned (.tuple #[.int .i64 (dimOr D n (NodeD.mk 4 v1 v2 v3 v4 nv V)), .int .i64 (nodeCode D n (NodeD.mk 4 v1 v2 v3 v4 nv V))]) ∧ w.Since w.heap.size w' := by
  have sA : w.Since w.heap.size (w.alloc (.cells #[.int .i64 4, .int .i64 v1, .int .i64 v2, .int .i64 v3, .int .i64 v4, .slice a1 nv k1] 56)) := (World.Since.refl _ _).alloc (Nat.le_refl _) _
  have nA := Box6.new w (.int .i64 4) (.int .i64 v1) (.int .i64 v2) (.int .i64 v3) (.int .i64 v4) (.slice a1 nv k1) 56
  have hm1 : ∀ w : World, (method 350 121 (.agg #[.int .i64 4, .int .i64 v1, .int .i64 v2, .int .i64 v3, .int .i64 v4, .slice a1 nv k1]) "loop.example/s0015/impl.form").run Tryz.prog w = .ok (207, .agg #[.int .i64 4, .int .i64 v1, .int .i64 v2, .int .i64 v3, .int .i64 v4, .slice a1 nv k1]) w := fun _ => by kernel_rfl
  have hm2 : ∀ w : World, (method 350 121 (.agg #[.int .i64 4, .int .i64 v1, .int .i64 v2, .int .i64 v3, .int .i64 v4, .slice a1 nv k1]) "loop.example/s0015/impl.dimension").run Tryz.prog w = .ok (206, .agg #[.int .i64 4, .int .i64 v1, .int .i64 v2, .int .i64 v3, .int .i64 v4, .slice a1 nv k1]) w := fun _ => by kernel_rfl
  go_enter Tryz.func86, Tryz.ntmps86
  go_wp2_with fail
  generalize w.alloc (.cells #[.int .i64 4, .int .i64 v1, .int .i64 v2, .int .i64 v3, .int .i64 v4, .slice a1 nv k1] 56) = wA at *
  refine (operatorOf4 m v1 v2 v3 v4 a1 nv k1 wA (K.keep sA)).mono ?_
  rintro e w1 ⟨rfl, s1⟩
  have d1 : w1.Since w1.heap.size w1.drew := (World.Since.refl _ _).drew
  have S1 : w.Since w.heap.size w1 := sA.trans (sinceMono s1 sA.size)
  have N1 := nA.keep s1
  have J1 := form4 4 v1 v2 v3 v4 a1 nv k1 w1.drew
  have q0 := N1.c0
  have q1 := N1.c1
  have q2 := N1.c2
  have q3 := N1.c3
  have q4 := N1.c4
  have q5 := N1.c5
  go_wp2_with fail
  go_region_held3 (fun w' => w'.cell? ⟨w.heap.size, 0, none⟩ = some (.int .i64 4) ∧ w'.cell? ⟨w.heap.size, 1, none⟩ = some (.int .i64 v1) ∧ w'.cell? ⟨w.heap.size, 2, none⟩ = some (.int .i64 v2) ∧ w'.cell? ⟨w.heap.size, 3, none⟩ = some (.int .i64 v3) ∧ w'.cell? ⟨w.heap.size, 4, none⟩ = some (.int .i64 v4) ∧ w'.cell? ⟨w.heap.size, 5, none⟩ = some (.slice a1 nv k1)) (go_keep)
    (first
      | (go_at_call 207
         with_reducible refine J1.mono ?_
         rintro e w2 ⟨rfl, s2⟩
         have u2 : w1.Since w1.heap.size w2 := d1.trans (sinceMono s2 d1.size)
         have S2 : w.Since w.heap.size w2 := S1.trans (sinceMono u2 S1.size)
         have N2 := N1.keep u2
         have i0 := N2.c0
         have i1 := N2.c1
         have i2 := N2.c2
         have i3 := N2.c3
         have i4 := N2.c4
         have i5 := N2.c5
         have J2 := fits_any 4 true false false 0 (NodeD.mk 4 v1 v2 v3 v4 nv V) a1 lo k1 w2 (Nat.zero_le _) (hT.stay hw S2) hd (H.keep S2)
         dsimp only at J2)
      | (go_at_call 107
         with_reducible refine J2.mono ?_
         rintro e w3 ⟨⟨r, rfl, hr⟩, s3⟩
         have S3 : w.Since w.heap.size w3 := S2.trans (sinceMono s3 S2.size)
         have N3 := N2.keep s3
         have i0 := N3.c0
         have i1 := N3.c1
         have i2 := N3.c2
         have i3 := N3.c3
         have i4 := N3.c4
         have i5 := N3.c5
         have hF := hide (hr.trans (form_iff (d := (NodeD.mk 4 v1 v2 v3 v4 nv V)) (z := 4) rfl (by decide) (by decide) rfl rfl rfl (.inr (.inl ⟨rfl, rfl⟩))).symm)
         clear hr))
  cases r
  · have E := hide (code_form (D := D) (i := n) (d := (NodeD.mk 4 v1 v2 v3 v4 nv V)) (fun h => by have := hF.out.2 h; cases this))
    clear hF
    go_wp2
    go_ret2
    exact ⟨by rw [E.out]; unfold dimOr; rw [E.out]; rfl, S3⟩
  have F := hide (hF.out.1 rfl)
  clear hF q0 q1 q2 q3 q4 q5
  have d3 : w3.Since w3.heap.size w3.drew := (World.Since.refl _ _).drew
  have J3 := form4 4 v1 v2 v3 v4 a1 nv k1 w3.drew
  go_wp2_with fail
  go_region_held3 (fun w' => w'.cell? ⟨w.heap.size, 0, none⟩ = some (.int .i64 4) ∧ w'.cell? ⟨w.heap.size, 1, none⟩ = some (.int .i64 v1) ∧ w'.cell? ⟨w.heap.size, 2, none⟩ = some (.int .i64 v2) ∧ w'.cell? ⟨w.heap.size, 3, none⟩ = some (.int .i64 v3) ∧ w'.cell? ⟨w.heap.size, 4, none⟩ = some (.int .i64 v4) ∧ w'.cell? ⟨w.heap.size, 5, none⟩ = some (.slice a1 nv k1)) (go_keep)
    (first
      | (go_at_call 207
         with_reducible refine J3.mono ?_
         rintro e w4 ⟨rfl, s4⟩
         have u4 : w3.Since w3.heap.size w4 := d3.trans (sinceMono s4 d3.size)
         have S4 : w.Since w.heap.size w4 := S3.trans (sinceMono u4 S3.size)
         have N4 := N3.keep u4
         have j0 := N4.c0
         have j1 := N4.c1
         have j2 := N4.c2
         have j3 := N4.c3
         have j4 := N4.c4
         have j5 := N4.c5
         have J4 := knows_any 4 true false false 0 4 v1 v2 v3 v4 a1 nv k1 n w4)
      | (go_at_call 108
         with_reducible refine J4.mono ?_
         rintro e w5 ⟨⟨r, rfl, hr⟩, s5⟩
         have S5 : w.Since w.heap.size w5 := S4.trans (sinceMono s5 S4.size)
         have N5 := N4.keep s5
         have j0 := N5.c0
         have j1 := N5.c1
         have j2 := N5.c2
         have j3 := N5.c3
         have j4 := N5.c4
         have j5 := N5.c5
         have hS := hide hr
         clear hr))
  cases r
  · have E := hide (code_src (D := D) F.out (fun h => by have := hS.out.2 h; cases this))
    clear hS F
    go_wp2
    go_ret2
    exact ⟨by rw [E.out]; unfold dimOr; rw [E.out]; rfl, S5⟩
  have G := hide (show SrcOk (NodeD.mk 4 v1 v2 v3 v4 nv V) n from hS.out.1 rfl)
  clear hS
  obtain ⟨j, hj⟩ : ∃ j : Nat, v1 = j := ⟨v1.toNat, by have h : 0 ≤ v1 := G.out.1; omega⟩
  subst hj
  have hjn : j < n := by have h : (j : Int) < n := G.out.2.1; omega
  obtain ⟨x, hx⟩ : ∃ x, D j = x := ⟨_, rfl⟩
  have hDj := hD j hjn
  rw [hx] at hDj
  obtain ⟨i, hi2⟩ : ∃ i : Nat, v2 = i := ⟨v2.toNat, by have h : 0 ≤ v2 ∧ v2 < n := G.out.2.2 rfl; omega⟩
  subst hi2
  have hi : i < n := by have h : 0 ≤ (i : Int) ∧ (i : Int) < n := G.out.2.2 rfl; omega
  have E1 : nodeCode D n (NodeD.mk 4 (j : Int) (i : Int) v3 v4 nv V) = if D i = x then 0 else 14 := by
    rw [code_shape F.out G.out]
    by_cases h : D i = x <;> simp [shapeCode, hx, h]
  have E2 : dimOr D n (NodeD.mk 4 (j : Int) (i : Int) v3 v4 nv V) = if D i = x then x else 0 := by
    unfold dimOr
    rw [E1]
    by_cases h : D i = x <;> simp [nodeDim, hx, h]
  have J5 := dim4 4 (i : Int) v3 v4 x j a1 nv k1 aD bD n cD D w5 (HD.keep S5) hjn hx hDj.1 hDj.2 i hi rfl
  rw [← E1, ← E2] at J5
  clear E1 E2
  go_wp2_with fail
  refine J5.mono ?_
  rintro e w6 ⟨rfl, s6⟩
  go_wp2
  go_ret2
  exact ⟨rfl, S5.trans (sinceMono s6 S5.size)⟩

set_option maxHeartbeats 6400000 in
set_option maxRecDepth 100000 in
theorem dimOf5 (v1 v2 v3 v4 : Int) (nv : Nat) (V : Nat → RatD) (a1 : Option Addr) (lo k1 m : Nat) (aD : Option Addr) (bD n cD : Nat) (D : Nat → Int) (w : World) (hw : 0 ≤ w.heap.size) (hT : Tab w) (K : Kinds w m) (hd : (NodeD.mk 5 v1 v2 v3 v4 nv V).size ≤ 1048576) (H : NodL w lo (NodeD.mk 5 v1 v2 v3 v4 nv V) a1 k1) (HD : Ints w aD bD 0 n D) (hD : Dok D n) :
    Calls Tryz.prog 86 #[.agg #[.int .i64 5, .int .i64 v1, .int .i64 v2, .int .i64 v3, .int .i64 v4, .slice a1 nv k1], .slice aD n cD, .map (some m)] w fun e w' => e = .returned (.tuple #[.int .i64 (dimOr D n (NodeD.mk 5 v1 v2 v3 v4 nv V)), .int .i64 (nodeCode D n (NodeD.mk 5 v1 v2 v3 v4 nv V))]) ∧ w.Since w.heap.size w' := by
  have sA : w.Since w.heap.size (w.alloc (.cells #[.int .i64 5, .int .i64 v1, .int .i64 v2, .int .i64 v3, .int .i64 v4, .slice a1 nv k1] 56)) := (World.Since.refl _ _).alloc (Nat.le_refl _) _
  have nA := Box6.new w (.int .i64 5) (.int .i64 v1) (.int .i64 v2) (.int .i64 v3) (.int .i64 v4) (.slice a1 nv k1) 56
  have hm1 : ∀ w : World, (method 350 122 (.agg #[.int .i64 5, .int .i64 v1, .int .i64 v2, .int .i64 v3, .int .i64 v4, .slice a1 nv k1]) "loop.example/s0015/impl.form").run Tryz.prog w = .ok (210, .agg #[.int .i64 5, .int .i64 v1, .int .i64 v2, .int .i64 v3, .int .i64 v4, .slice a1 nv k1]) w := fun _ => by kernel_rfl
  have hm2 : ∀ w : World, (method 350 122 (.agg #[.int .i64 5, .int .i64 v1, .int .i64 v2, .int .i64 v3, .int .i64 v4, .slice a1 nv k1]) "loop.example/s0015/impl.dimension").run Tryz.prog w = .ok (209, .agg #[.int .i64 5, .int .i64 v1, .int .i64 v2, .int .i64 v3, .int .i64 v4, .slice a1 nv k1]) w := fun _ => by kernel_rfl
  go_enter Tryz.func86, Tryz.ntmps86
  go_wp2_with fail
  generalize w.alloc (.cells #[.int .i64 5, .int .i64 v1, .int .i64 v2, .int .i64 v3, .int .i64 v4, .slice a1 nv k1] 56) = wA at *
  refine (operatorOf5 m v1 v2 v3 v4 a1 nv k1 wA (K.keep sA)).mono ?_
  rintro e w1 ⟨rfl, s1⟩
  have d1 : w1.Since w1.heap.size w1.drew := (World.Since.refl _ _).drew
  have S1 : w.Since w.heap.size w1 := sA.trans (sinceMono s1 sA.size)
  have N1 := nA.keep s1
  have J1 := form5 5 v1 v2 v3 v4 a1 nv k1 w1.drew
  have q0 := N1.c0
  have q1 := N1.c1
  have q2 := N1.c2
  have q3 := N1.c3
  have q4 := N1.c4
  have q5 := N1.c5
  go_wp2_with fail
  go_region_held3 (fun w' => w'.cell? ⟨w.heap.size, 0, none⟩ = some (.int .i64 5) ∧ w'.cell? ⟨w.heap.size, 1, none⟩ = some (.int .i64 v1) ∧ w'.cell? ⟨w.heap.size, 2, none⟩ = some (.int .i64 v2) ∧ w'.cell? ⟨w.heap.size, 3, none⟩ = some (.int .i64 v3) ∧ w'.cell? ⟨w.heap.size, 4, none⟩ = some (.int .i64 v4) ∧ w'.cell? ⟨w.heap.size, 5, none⟩ = some (.slice a1 nv k1)) (go_keep)
    (first
      | (go_at_call 210
         with_reducible refine J1.mono ?_
         rintro e w2 ⟨rfl, s2⟩
         have u2 : w1.Since w1.heap.size w2 := d1.trans (sinceMono s2 d1.size)
         have S2 : w.Since w.heap.size w2 := S1.trans (sinceMono u2 S1.size)
         have N2 := N1.keep u2
         have i0 := N2.c0
         have i1 := N2.c1
         have i2 := N2.c2
         have i3 := N2.c3
         have i4 := N2.c4
         have i5 := N2.c5
         have J2 := fits_any 5 false true false 0 (NodeD.mk 5 v1 v2 v3 v4 nv V) a1 lo k1 w2 (Nat.zero_le _) (hT.stay hw S2) hd (H.keep S2)
         dsimp only at J2)
      | (go_at_call 107
         with_reducible refine J2.mono ?_
         rintro e w3 ⟨⟨r, rfl, hr⟩, s3⟩
         have S3 : w.Since w.heap.size w3 := S2.trans (sinceMono s3 S2.size)
         have N3 := N2.keep s3
         have i0 := N3.c0
         have i1 := N3.c1
         have i2 := N3.c2
         have i3 := N3.c3
         have i4 := N3.c4
         have i5 := N3.c5
         have hF := hide (hr.trans (form_iff (d := (NodeD.mk 5 v1 v2 v3 v4 nv V)) (z := 5) rfl (by decide) (by decide) rfl rfl rfl (.inr (.inl ⟨rfl, rfl⟩))).symm)
         clear hr))
  cases r
  · have E := hide (code_form (D := D) (i := n) (d := (NodeD.mk 5 v1 v2 v3 v4 nv V)) (fun h => by have := hF.out.2 h; cases this))
    clear hF
    go_wp2
    go_ret2
    exact ⟨by rw [E.out]; unfold dimOr; rw [E.out]; rfl, S3⟩
  have F := hide (hF.out.1 rfl)
  clear hF q0 q1 q2 q3 q4 q5
  have d3 : w3.Since w3.heap.size w3.drew := (World.Since.refl _ _).drew
  have J3 := form5 5 v1 v2 v3 v4 a1 nv k1 w3.drew
  go_wp2_with fail
  go_region_held3 (fun w' => w'.cell? ⟨w.heap.size, 0, none⟩ = some (.int .i64 5) ∧ w'.cell? ⟨w.heap.size, 1, none⟩ = some (.int .i64 v1) ∧ w'.cell? ⟨w.heap.size, 2, none⟩ = some (.int .i64 v2) ∧ w'.cell? ⟨w.heap.size, 3, none⟩ = some (.int .i64 v3) ∧ w'.cell? ⟨w.heap.size, 4, none⟩ = some (.int .i64 v4) ∧ w'.cell? ⟨w.heap.size, 5, none⟩ = some (.slice a1 nv k1)) (go_keep)
    (first
      | (go_at_call 210
         with_reducible refine J3.mono ?_
         rintro e w4 ⟨rfl, s4⟩
         have u4 : w3.Since w3.heap.size w4 := d3.trans (sinceMono s4 d3.size)
         have S4 : w.Since w.heap.size w4 := S3.trans (sinceMono u4 S3.size)
         have N4 := N3.keep u4
         have j0 := N4.c0
         have j1 := N4.c1
         have j2 := N4.c2
         have j3 := N4.c3
         have j4 := N4.c4
         have j5 := N4.c5
         have J4 := knows_any 5 false true false 0 5 v1 v2 v3 v4 a1 nv k1 n w4)
      | (go_at_call 108
         with_reducible refine J4.mono ?_
         rintro e w5 ⟨⟨r, rfl, hr⟩, s5⟩
         have S5 : w.Since w.heap.size w5 := S4.trans (sinceMono s5 S4.size)
         have N5 := N4.keep s5
         have j0 := N5.c0
         have j1 := N5.c1
         have j2 := N5.c2
         have j3 := N5.c3
         have j4 := N5.c4
         have j5 := N5.c5
         have hS := hide hr
         clear hr))
  cases r
  · have E := hide (code_src (D := D) F.out (fun h => by have := hS.out.2 h; cases this))
    clear hS F
    go_wp2
    go_ret2
    exact ⟨by rw [E.out]; unfold dimOr; rw [E.out]; rfl, S5⟩
  have G := hide (show SrcOk (NodeD.mk 5 v1 v2 v3 v4 nv V) n from hS.out.1 rfl)
  clear hS
  obtain ⟨j, hj⟩ : ∃ j : Nat, v1 = j := ⟨v1.toNat, by have h : 0 ≤ v1 := G.out.1; omega⟩
  subst hj
  have hjn : j < n := by have h : (j : Int) < n := G.out.2.1; omega
  obtain ⟨x, hx⟩ : ∃ x, D j = x := ⟨_, rfl⟩
  have hDj := hD j hjn
  rw [hx] at hDj
  have hk : 1 ≤ v3 ∧ v3 ≤ 1000 := F.out.k
  have E1 : nodeCode D n (NodeD.mk 5 (j : Int) v2 v3 v4 nv V) = if x % v3 = 0 then 0 else 14 := by
    rw [code_shape F.out G.out]
    by_cases h : x % v3 = 0 <;> simp [shapeCode, hx, h]
  have E2 : dimOr D n (NodeD.mk 5 (j : Int) v2 v3 v4 nv V) = if x % v3 = 0 then x / v3 else 0 := by
    unfold dimOr
    rw [E1]
    by_cases h : x % v3 = 0 <;> simp [nodeDim, hx, h]
  have J5 := dim5 5 v2 v3 v4 x j a1 nv k1 aD bD n cD D w5 (HD.keep S5) hjn hx hDj.1 hDj.2 hk.1 hk.2
  rw [← E1, ← E2] at J5
  clear E1 E2
  go_wp2_with fail
  refine J5.mono ?_
  rintro e w6 ⟨rfl, s6⟩
  go_wp2
  go_ret2
  exact ⟨rfl, S5.trans (sinceMono s6 S5.size)⟩

end Go.Proofs.YtlpabmcebpppfaaGreatDoor

namespace Go.Proofs.YtlpabmcebpppfaaGreatDoor
open Go.RowKit

set_option maxHeartbeats 6400000 in
set_option maxRecDepth 100000 in
theorem dimOf6 (v1 v2 v3 v4 : Int) (nv : Nat) (V : Nat → RatD) (a1 : Option Addr) (lo k1 m : Nat) (aD : Option Addr) (bD n cD : Nat) (D : Nat → Int) (w : World) (hw : 0 ≤ w.heap.size) (hT : Tab w) (K : Kinds w m) (hd : (NodeD.mk 6 v1 v2 v3 v4 nv V).size ≤ 1048576) (H : NodL w lo (NodeD.mk 6 v1 v2 v3 v4 nv V) a1 k1) (HD : Ints w aD bD 0 n D) (hD : Dok D n) :
    Calls Tryz.prog 86 #[.agg #[.int .i64 6, .int .i64 v1, .int .i64 v2, .int .i64 v3, .int .i64 v4, .slice a1 nv k1], .slice aD n cD, .map (some m)] w fun e w' => e = .returned (.tuple #[.int .i64 (dimOr D n (NodeD.mk 6 v1 v2 v3 v4 nv V)), .int .i64 (nodeCode D n (NodeD.mk 6 v1 v2 v3 v4 nv V))]) ∧ w.Since w.heap.size w' := by
  have sA : w.Since w.heap.size (w.alloc (.cells #[.int .i64 6, .int .i64 v1, .int .i64 v2, .int .i64 v3, .int .i64 v4, .slice a1 nv k1] 56)) := (World.Since.refl _ _).alloc (Nat.le_refl _) _
  have nA := Box6.new w (.int .i64 6) (.int .i64 v1) (.int .i64 v2) (.int .i64 v3) (.int .i64 v4) (.slice a1 nv k1) 56
  have hm1 : ∀ w : World, (method 350 123 (.agg #[.int .i64 6, .int .i64 v1, .int .i64 v2, .int .i64 v3, .int .i64 v4, .slice a1 nv k1]) "loop.example/s0015/impl.form").run Tryz.prog w = .ok (213, .agg #[.int .i64 6, .int .i64 v1, .int .i64 v2, .int .i64 v3, .int .i64 v4, .slice a1 nv k1]) w := fun _ => by kernel_rfl
  have hm2 : ∀ w : World, (method 350 123 (.agg #[.int .i64 6, .int .i64 v1, .int .i64 v2, .int .i64 v3, .int .i64 v4, .slice a1 nv k1]) "loop.example/s0015/impl.dimension").run Tryz.prog w = .ok (212, .agg #[.int .i64 6, .int .i64 v1, .int .i64 v2, .int .i64 v3, .int .i64 v4, .slice a1 nv k1]) w := fun _ => by kernel_rfl
  go_enter Tryz.func86, Tryz.ntmps86
  go_wp2_with fail
  generalize w.alloc (.cells #[.int .i64 6, .int .i64 v1, .int .i64 v2, .int .i64 v3, .int .i64 v4, .slice a1 nv k1] 56) = wA at *
  refine (operatorOf6 m v1 v2 v3 v4 a1 nv k1 wA (K.keep sA)).mono ?_
  rintro e w1 ⟨rfl, s1⟩
  have d1 : w1.Since w1.heap.size w1.drew := (World.Since.refl _ _).drew
  have S1 : w.Since w.heap.size w1 := sA.trans (sinceMono s1 sA.size)
  have N1 := nA.keep s1
  have J1 := form6 6 v1 v2 v3 v4 a1 nv k1 w1.drew
  have q0 := N1.c0
  have q1 := N1.c1
  have q2 := N1.c2
  have q3 := N1.c3
  have q4 := N1.c4
  have q5 := N1.c5
  go_wp2_with fail
  go_region_held3 (fun w' => w'.cell? ⟨w.heap.size, 0, none⟩ = some (.int .i64 6) ∧ w'.cell? ⟨w.heap.size, 1, none⟩ = some (.int .i64 v1) ∧ w'.cell? ⟨w.heap.size, 2, none⟩ = some (.int .i64 v2) ∧ w'.cell? ⟨w.heap.size, 3, none⟩ = some (.int .i64 v3) ∧ w'.cell? ⟨w.heap.size, 4, none⟩ = some (.int .i64 v4) ∧ w'.cell? ⟨w.heap.size, 5, none⟩ = some (.slice a1 nv k1)) (go_keep)
    (first
      | (go_at_call 213
         with_reducible refine J1.mono ?_
         rintro e w2 ⟨rfl, s2⟩
         have u2 : w1.Since w1.heap.size w2 := d1.trans (sinceMono s2 d1.size)
         have S2 : w.Since w.heap.size w2 := S1.trans (sinceMono u2 S1.size)
         have N2 := N1.keep u2
         have i0 := N2.c0
         have i1 := N2.c1
         have i2 := N2.c2
         have i3 := N2.c3
         have i4 := N2.c4
         have i5 := N2.c5
         have J2 := fits_any 6 false true true (-1) (NodeD.mk 6 v1 v2 v3 v4 nv V) a1 lo k1 w2 (Nat.zero_le _) (hT.stay hw S2) hd (H.keep S2)
         dsimp only at J2)
      | (go_at_call 107
         with_reducible refine J2.mono ?_
         rintro e w3 ⟨⟨r, rfl, hr⟩, s3⟩
         have S3 : w.Since w.heap.size w3 := S2.trans (sinceMono s3 S2.size)
         have N3 := N2.keep s3
         have i0 := N3.c0
         have i1 := N3.c1
         have i2 := N3.c2
         have i3 := N3.c3
         have i4 := N3.c4
         have i5 := N3.c5
         have hF := hide (hr.trans (form_iff (d := (NodeD.mk 6 v1 v2 v3 v4 nv V)) (z := 6) rfl (by decide) (by decide) rfl rfl rfl (.inl ⟨rfl, rfl, by decide, by decide⟩)).symm)
         clear hr))
  cases r
  · have E := hide (code_form (D := D) (i := n) (d := (NodeD.mk 6 v1 v2 v3 v4 nv V)) (fun h => by have := hF.out.2 h; cases this))
    clear hF
    go_wp2
    go_ret2
    exact ⟨by rw [E.out]; unfold dimOr; rw [E.out]; rfl, S3⟩
  have F := hide (hF.out.1 rfl)
  clear hF q0 q1 q2 q3 q4 q5
  have d3 : w3.Since w3.heap.size w3.drew := (World.Since.refl _ _).drew
  have J3 := form6 6 v1 v2 v3 v4 a1 nv k1 w3.drew
  go_wp2_with fail
  go_region_held3 (fun w' => w'.cell? ⟨w.heap.size, 0, none⟩ = some (.int .i64 6) ∧ w'.cell? ⟨w.heap.size, 1, none⟩ = some (.int .i64 v1) ∧ w'.cell? ⟨w.heap.size, 2, none⟩ = some (.int .i64 v2) ∧ w'.cell? ⟨w.heap.size, 3, none⟩ = some (.int .i64 v3) ∧ w'.cell? ⟨w.heap.size, 4, none⟩ = some (.int .i64 v4) ∧ w'.cell? ⟨w.heap.size, 5, none⟩ = some (.slice a1 nv k1)) (go_keep)
    (first
      | (go_at_call 213
         with_reducible refine J3.mono ?_
         rintro e w4 ⟨rfl, s4⟩
         have u4 : w3.Since w3.heap.size w4 := d3.trans (sinceMono s4 d3.size)
         have S4 : w.Since w.heap.size w4 := S3.trans (sinceMono u4 S3.size)
         have N4 := N3.keep u4
         have j0 := N4.c0
         have j1 := N4.c1
         have j2 := N4.c2
         have j3 := N4.c3
         have j4 := N4.c4
         have j5 := N4.c5
         have J4 := knows_any 6 false true true (-1) 6 v1 v2 v3 v4 a1 nv k1 n w4)
      | (go_at_call 108
         with_reducible refine J4.mono ?_
         rintro e w5 ⟨⟨r, rfl, hr⟩, s5⟩
         have S5 : w.Since w.heap.size w5 := S4.trans (sinceMono s5 S4.size)
         have N5 := N4.keep s5
         have j0 := N5.c0
         have j1 := N5.c1
         have j2 := N5.c2
         have j3 := N5.c3
         have j4 := N5.c4
         have j5 := N5.c5
         have hS := hide hr
         clear hr))
  cases r
  · have E := hide (code_src (D := D) F.out (fun h => by have := hS.out.2 h; cases this))
    clear hS F
    go_wp2
    go_ret2
    exact ⟨by rw [E.out]; unfold dimOr; rw [E.out]; rfl, S5⟩
  have G := hide (show SrcOk (NodeD.mk 6 v1 v2 v3 v4 nv V) n from hS.out.1 rfl)
  clear hS
  obtain ⟨j, hj⟩ : ∃ j : Nat, v1 = j := ⟨v1.toNat, by have h : 0 ≤ v1 := G.out.1; omega⟩
  subst hj
  have hjn : j < n := by have h : (j : Int) < n := G.out.2.1; omega
  obtain ⟨x, hx⟩ : ∃ x, D j = x := ⟨_, rfl⟩
  have hDj := hD j hjn
  rw [hx] at hDj
  have hk : 1 ≤ v3 ∧ v3 ≤ 1000 := F.out.k
  have hs : 1 ≤ v4 ∧ v4 ≤ 1000 := F.out.s
  have hv : nv ≤ 1048576 := by have h : nv + szR V nv ≤ 1048576 := hd; omega
  have E1 : nodeCode D n (NodeD.mk 6 (j : Int) v2 v3 v4 nv V) = if v3 > x ∨ (nv : Int) ≠ v3 + 1 then 14 else 0 := by
    rw [code_shape F.out G.out]
    by_cases h : v3 > x ∨ (nv : Int) ≠ v3 + 1 <;> simp [shapeCode, hx, h]
  have E2 : dimOr D n (NodeD.mk 6 (j : Int) v2 v3 v4 nv V) = if v3 > x ∨ (nv : Int) ≠ v3 + 1 then 0 else (x - v3) / v4 + 1 := by
    unfold dimOr
    rw [E1]
    by_cases h : v3 > x ∨ (nv : Int) ≠ v3 + 1 <;> simp [nodeDim, hx, h]
  have J5 := dim6 6 v2 v3 v4 x j a1 nv k1 aD bD n cD D w5 (HD.keep S5) hjn hx hDj.1 hDj.2 hk.1 hk.2 hs.1 hs.2 hv
  rw [← E1, ← E2] at J5
  clear E1 E2
  go_wp2_with fail
  refine J5.mono ?_
  rintro e w6 ⟨rfl, s6⟩
  go_wp2
  go_ret2
  exact ⟨rfl, S5.trans (sinceMono s6 S5.size)⟩

end Go.Proofs.YtlpabmcebpppfaaGreatDoor

namespace Go.Proofs.YtlpabmcebpppfaaGreatDoor
open Go.RowKit

set_option maxHeartbeats 6400000 in
set_option maxRecDepth 100000 in
theorem dimOf7 (v1 v2 v3 v4 : Int) (nv : Nat) (V : Nat → RatD) (a1 : Option Addr) (lo k1 m : Nat) (aD : Option Addr) (bD n cD : Nat) (D : Nat → Int) (w : World) (hw : 0 ≤ w.heap.size) (hT : Tab w) (K : Kinds w m) (hd : (NodeD.mk 7 v1 v2 v3 v4 nv V).size ≤ 1048576) (H : NodL w lo (NodeD.mk 7 v1 v2 v3 v4 nv V) a1 k1) (HD : Ints w aD bD 0 n D) (hD : Dok D n) :
    Calls Tryz.prog 86 #[.agg #[.int .i64 7, .int .i64 v1, .int .i64 v2, .int .i64 v3, .int .i64 v4, .slice a1 nv k1], .slice aD n cD, .map (some m)] w fun e w' => e = .returned (.tuple #[.int .i64 (dimOr D n (NodeD.mk 7 v1 v2 v3 v4 nv V)), .int .i64 (nodeCode D n (NodeD.mk 7 v1 v2 v3 v4 nv V))]) ∧ w.Since w.heap.size w' := by
  have sA : w.Since w.heap.size (w.alloc (.cells #[.int .i64 7, .int .i64 v1, .int .i64 v2, .int .i64 v3, .int .i64 v4, .slice a1 nv k1] 56)) := (World.Since.refl _ _).alloc (Nat.le_refl _) _
  have nA := Box6.new w (.int .i64 7) (.int .i64 v1) (.int .i64 v2) (.int .i64 v3) (.int .i64 v4) (.slice a1 nv k1) 56
  have hm1 : ∀ w : World, (method 350 124 (.agg #[.int .i64 7, .int .i64 v1, .int .i64 v2, .int .i64 v3, .int .i64 v4, .slice a1 nv k1]) "loop.example/s0015/impl.form").run Tryz.prog w = .ok (216, .agg #[.int .i64 7, .int .i64 v1, .int .i64 v2, .int .i64 v3, .int .i64 v4, .slice a1 nv k1]) w := fun _ => by kernel_rfl
  have hm2 : ∀ w : World, (method 350 124 (.agg #[.int .i64 7, .int .i64 v1, .int .i64 v2, .int .i64 v3, .int .i64 v4, .slice a1 nv k1]) "loop.example/s0015/impl.dimension").run Tryz.prog w = .ok (215, .agg #[.int .i64 7, .int .i64 v1, .int .i64 v2, .int .i64 v3, .int .i64 v4, .slice a1 nv k1]) w := fun _ => by kernel_rfl
  go_enter Tryz.func86, Tryz.ntmps86
  go_wp2_with fail
  generalize w.alloc (.cells #[.int .i64 7, .int .i64 v1, .int .i64 v2, .int .i64 v3, .int .i64 v4, .slice a1 nv k1] 56) = wA at *
  refine (operatorOf7 m v1 v2 v3 v4 a1 nv k1 wA (K.keep sA)).mono ?_
  rintro e w1 ⟨rfl, s1⟩
  have d1 : w1.Since w1.heap.size w1.drew := (World.Since.refl _ _).drew
  have S1 : w.Since w.heap.size w1 := sA.trans (sinceMono s1 sA.size)
  have N1 := nA.keep s1
  have J1 := form7 7 v1 v2 v3 v4 a1 nv k1 w1.drew
  have q0 := N1.c0
  have q1 := N1.c1
  have q2 := N1.c2
  have q3 := N1.c3
  have q4 := N1.c4
  have q5 := N1.c5
  go_wp2_with fail
  go_region_held3 (fun w' => w'.cell? ⟨w.heap.size, 0, none⟩ = some (.int .i64 7) ∧ w'.cell? ⟨w.heap.size, 1, none⟩ = some (.int .i64 v1) ∧ w'.cell? ⟨w.heap.size, 2, none⟩ = some (.int .i64 v2) ∧ w'.cell? ⟨w.heap.size, 3, none⟩ = some (.int .i64 v3) ∧ w'.cell? ⟨w.heap.size, 4, none⟩ = some (.int .i64 v4) ∧ w'.cell? ⟨w.heap.size, 5, none⟩ = some (.slice a1 nv k1)) (go_keep)
    (first
      | (go_at_call 216
         with_reducible refine J1.mono ?_
         rintro e w2 ⟨rfl, s2⟩
         have u2 : w1.Since w1.heap.size w2 := d1.trans (sinceMono s2 d1.size)
         have S2 : w.Since w.heap.size w2 := S1.trans (sinceMono u2 S1.size)
         have N2 := N1.keep u2
         have i0 := N2.c0
         have i1 := N2.c1
         have i2 := N2.c2
         have i3 := N2.c3
         have i4 := N2.c4
         have i5 := N2.c5
         have J2 := fits_any 7 false false false 4 (NodeD.mk 7 v1 v2 v3 v4 nv V) a1 lo k1 w2 (Nat.zero_le _) (hT.stay hw S2) hd (H.keep S2)
         dsimp only at J2)
      | (go_at_call 107
         with_reducible refine J2.mono ?_
         rintro e w3 ⟨⟨r, rfl, hr⟩, s3⟩
         have S3 : w.Since w.heap.size w3 := S2.trans (sinceMono s3 S2.size)
         have N3 := N2.keep s3
         have i0 := N3.c0
         have i1 := N3.c1
         have i2 := N3.c2
         have i3 := N3.c3
         have i4 := N3.c4
         have i5 := N3.c5
         have hF := hide (hr.trans (form_iff (d := (NodeD.mk 7 v1 v2 v3 v4 nv V)) (z := 7) rfl (by decide) (by decide) rfl rfl rfl (.inr (.inr (.inr ⟨rfl, rfl⟩)))).symm)
         clear hr))
  cases r
  · have E := hide (code_form (D := D) (i := n) (d := (NodeD.mk 7 v1 v2 v3 v4 nv V)) (fun h => by have := hF.out.2 h; cases this))
    clear hF
    go_wp2
    go_ret2
    exact ⟨by rw [E.out]; unfold dimOr; rw [E.out]; rfl, S3⟩
  have F := hide (hF.out.1 rfl)
  clear hF q0 q1 q2 q3 q4 q5
  have d3 : w3.Since w3.heap.size w3.drew := (World.Since.refl _ _).drew
  have J3 := form7 7 v1 v2 v3 v4 a1 nv k1 w3.drew
  go_wp2_with fail
  go_region_held3 (fun w' => w'.cell? ⟨w.heap.size, 0, none⟩ = some (.int .i64 7) ∧ w'.cell? ⟨w.heap.size, 1, none⟩ = some (.int .i64 v1) ∧ w'.cell? ⟨w.heap.size, 2, none⟩ = some (.int .i64 v2) ∧ w'.cell? ⟨w.heap.size, 3, none⟩ = some (.int .i64 v3) ∧ w'.cell? ⟨w.heap.size, 4, none⟩ = some (.int .i64 v4) ∧ w'.cell? ⟨w.heap.size, 5, none⟩ = some (.slice a1 nv k1)) (go_keep)
    (first
      | (go_at_call 216
         with_reducible refine J3.mono ?_
         rintro e w4 ⟨rfl, s4⟩
         have u4 : w3.Since w3.heap.size w4 := d3.trans (sinceMono s4 d3.size)
         have S4 : w.Since w.heap.size w4 := S3.trans (sinceMono u4 S3.size)
         have N4 := N3.keep u4
         have j0 := N4.c0
         have j1 := N4.c1
         have j2 := N4.c2
         have j3 := N4.c3
         have j4 := N4.c4
         have j5 := N4.c5
         have J4 := knows_any 7 false false false 4 7 v1 v2 v3 v4 a1 nv k1 n w4)
      | (go_at_call 108
         with_reducible refine J4.mono ?_
         rintro e w5 ⟨⟨r, rfl, hr⟩, s5⟩
         have S5 : w.Since w.heap.size w5 := S4.trans (sinceMono s5 S4.size)
         have N5 := N4.keep s5
         have j0 := N5.c0
         have j1 := N5.c1
         have j2 := N5.c2
         have j3 := N5.c3
         have j4 := N5.c4
         have j5 := N5.c5
         have hS := hide hr
         clear hr))
  cases r
  · have E := hide (code_src (D := D) F.out (fun h => by have := hS.out.2 h; cases this))
    clear hS F
    go_wp2
    go_ret2
    exact ⟨by rw [E.out]; unfold dimOr; rw [E.out]; rfl, S5⟩
  have G := hide (show SrcOk (NodeD.mk 7 v1 v2 v3 v4 nv V) n from hS.out.1 rfl)
  clear hS
  obtain ⟨j, hj⟩ : ∃ j : Nat, v1 = j := ⟨v1.toNat, by have h : 0 ≤ v1 := G.out.1; omega⟩
  subst hj
  have hjn : j < n := by have h : (j : Int) < n := G.out.2.1; omega
  obtain ⟨x, hx⟩ : ∃ x, D j = x := ⟨_, rfl⟩
  have hDj := hD j hjn
  rw [hx] at hDj
  have h4 := hide (show nv = 4 from F.out.v7 rfl)
  obtain ⟨bV, oV, -, LV⟩ := (H.keep S5).LV
  have E1 : nodeCode D n (NodeD.mk 7 (j : Int) v2 v3 v4 nv V) = if (V 2).n = 0 then 15 else 0 := by
    rw [code_shape F.out G.out]
    by_cases h : (V 2).n = 0 <;> simp [shapeCode, hx, h]
  have E2 : dimOr D n (NodeD.mk 7 (j : Int) v2 v3 v4 nv V) = if (V 2).n = 0 then 0 else x := by
    unfold dimOr
    rw [E1]
    by_cases h : (V 2).n = 0 <;> simp [nodeDim, hx, h]
  have J5 := dim7 7 v2 v3 v4 x j a1 nv k1 aD bD n cD D w5 (HD.keep S5) hjn hx hDj.1 hDj.2 lo bV oV V LV h4.out
  rw [← E1, ← E2] at J5
  clear E1 E2
  go_wp2_with fail
  refine J5.mono ?_
  rintro e w6 ⟨rfl, s6⟩
  go_wp2
  go_ret2
  exact ⟨rfl, S5.trans (sinceMono s6 S5.size)⟩

end Go.Proofs.YtlpabmcebpppfaaGreatDoor

namespace Go.Proofs.YtlpabmcebpppfaaGreatDoor
open Go.RowKit

set_option maxHeartbeats 3200000 in
set_option maxRecDepth 100000 in
theorem dimOf_no (d : NodeD) (a1 : Option Addr) (k1 m : Nat) (aD : Option Addr) (n cD : Nat) (D : Nat → Int) (w : World) (K : Kinds w m) (hi : I64 d.op) (h : d.op < 1 ∨ 7 < d.op) :
    Calls Tryz.prog 86 #[.agg #[.int .i64 d.op, .int .i64 d.a, .int .i64 d.b, .int .i64 d.k, .int .i64 d.s, .slice a1 d.nv k1], .slice aD n cD, .map (some m)] w fun e w' => e = .returned (.tuple #[.int .i64 (dimOr D n d), .int .i64 (nodeCode D n d)]) ∧ w.Since w.heap.size w' := by
  have E := hide (code_form (D := D) (i := n) (d := d) (fun f => by have := f.o1; have := f.o7; omega))
  have sA : w.Since w.heap.size (w.alloc (.cells #[.int .i64 d.op, .int .i64 d.a, .int .i64 d.b, .int .i64 d.k, .int .i64 d.s, .slice a1 d.nv k1] 56)) := (World.Since.refl _ _).alloc (Nat.le_refl _) _
  go_enter Tryz.func86, Tryz.ntmps86
  go_wp2_with fail
  generalize w.alloc (.cells #[.int .i64 d.op, .int .i64 d.a, .int .i64 d.b, .int .i64 d.k, .int .i64 d.s, .slice a1 d.nv k1] 56) = wA at *
  refine (operatorOf_no m d.op d.a d.b d.k d.s a1 d.nv k1 wA (K.keep sA) h hi).mono ?_
  rintro e w1 ⟨rfl, s1⟩
  have S1 : w.Since w.heap.size w1 := sA.trans (sinceMono s1 sA.size)
  clear h hi
  go_wp2_with fail
  refine wp_region_held_drew (S := fun _ => True) (by kernel_rfl) trivial (fun hHeld => ?_)
  clear hHeld
  refine take_at 0 (some 16) (.bool false) rfl (by kernel_rfl) (by kernel_rfl) (by kernel_rfl) (by kernel_rfl) (fun _ _ _ h => h) (by kernel_rfl) trivial ?_ ?_
  · intro w' hSw
    clear hSw
    kernel_rfl
  simp only [Act.put, List.setIfInBounds_toArray, List.set_cons_zero, List.set_cons_succ]
  refine take_at 1 (some 17) (.bool true) rfl (by kernel_rfl) (by kernel_rfl) (by kernel_rfl) (by kernel_rfl) (fun _ _ _ h => h) (by kernel_rfl) trivial ?_ ?_
  · intro w' hSw
    clear hSw
    kernel_rfl
  simp only [Act.put, List.setIfInBounds_toArray, List.set_cons_zero, List.set_cons_succ]
  refine take_at 2 (some 18) (.bool true) rfl (by kernel_rfl) (by kernel_rfl) (by kernel_rfl) (by kernel_rfl) (fun _ _ _ h => h) (by kernel_rfl) trivial ?_ ?_
  · intro w' hSw
    clear hSw
    kernel_rfl
  simp only [Act.put, List.setIfInBounds_toArray, List.set_cons_zero, List.set_cons_succ]
  refine skip_at 3 (some 19) rfl (by kernel_rfl) (by kernel_rfl) (by kernel_rfl) (by kernel_rfl) (fun _ _ _ h => h) (by kernel_rfl) trivial ?_
  simp only [Act.put, List.setIfInBounds_toArray, List.set_cons_zero, List.set_cons_succ]
  refine skip_at 4 (some 20) rfl (by kernel_rfl) (by kernel_rfl) (by kernel_rfl) (by kernel_rfl) (fun _ _ _ h => h) (by kernel_rfl) trivial ?_
  simp only [Act.put, List.setIfInBounds_toArray, List.set_cons_zero, List.set_cons_succ]
  refine skip_at 5 (some 21) rfl (by kernel_rfl) (by kernel_rfl) (by kernel_rfl) (by kernel_rfl) (fun _ _ _ h => h) (by kernel_rfl) trivial ?_
  simp only [Act.put, List.setIfInBounds_toArray, List.set_cons_zero, List.set_cons_succ]
  refine skip_at 6 (some 22) rfl (by kernel_rfl) (by kernel_rfl) (by kernel_rfl) (by kernel_rfl) (fun _ _ _ h => h) (by kernel_rfl) trivial ?_
  simp only [Act.put, List.setIfInBounds_toArray, List.set_cons_zero, List.set_cons_succ]
  refine skip_at 7 (some 23) rfl (by kernel_rfl) (by kernel_rfl) (by kernel_rfl) (by kernel_rfl) (fun _ _ _ h => h) (by kernel_rfl) trivial ?_
  simp only [Act.put, List.setIfInBounds_toArray, List.set_cons_zero, List.set_cons_succ]
  refine take_at 8 (some 24) (.bool true) rfl (by kernel_rfl) (by kernel_rfl) (by kernel_rfl) (by kernel_rfl) (fun _ _ _ h => h) (by kernel_rfl) trivial ?_ ?_
  · intro w' hSw
    clear hSw
    kernel_rfl
  simp only [Act.put, List.setIfInBounds_toArray, List.set_cons_zero, List.set_cons_succ]
  refine wpAnyH_done (by kernel_rfl) ?_ _
  go_wp2
  go_ret2
  exact ⟨by rw [E.out]; unfold dimOr; rw [E.out]; rfl, S1.drew⟩

/-- impl.dimensionOf. -/
theorem dimensionOf_any (d : NodeD) (a1 : Option Addr) (lo k1 m : Nat) (aD : Option Addr) (bD n cD : Nat) (D : Nat → Int) (w : World) (hw : 0 ≤ w.heap.size) (hT : Tab w) (K : Kinds w m) (hd : d.size ≤ 1048576) (H : NodL w lo d a1 k1) (HD : Ints w aD bD 0 n D) (hD : Dok D n) :
    Calls Tryz.prog 86 #[.agg #[.int .i64 d.op, .int .i64 d.a, .int .i64 d.b, .int .i64 d.k, .int .i64 d.s, .slice a1 d.nv k1], .slice aD n cD, .map (some m)] w fun e w' => e = .returned (.tuple #[.int .i64 (dimOr D n d), .int .i64 (nodeCode D n d)]) ∧ w.Since w.heap.size w' := by
  by_cases h : d.op < 1 ∨ 7 < d.op
  · exact dimOf_no d a1 k1 m aD n cD D w K H.iop h
  have hc : d.op = 1 ∨ d.op = 2 ∨ d.op = 3 ∨ d.op = 4 ∨ d.op = 5 ∨ d.op = 6 ∨ d.op = 7 := by omega
  clear h
  obtain ⟨op, a, b, k, s, nv, V⟩ := d
  dsimp only at hc
  rcases hc with rfl | rfl | rfl | rfl | rfl | rfl | rfl
  · exact dimOf1 a b k s nv V a1 lo k1 m aD bD n cD D w hw hT K hd H HD hD
  · exact dimOf2 a b k s nv V a1 lo k1 m aD bD n cD D w hw hT K hd H HD hD
  · exact dimOf3 a b k s nv V a1 lo k1 m aD bD n cD D w hw hT K hd H HD hD
  · exact dimOf4 a b k s nv V a1 lo k1 m aD bD n cD D w hw hT K hd H HD hD
  · exact dimOf5 a b k s nv V a1 lo k1 m aD bD n cD D w hw hT K hd H HD hD
  · exact dimOf6 a b k s nv V a1 lo k1 m aD bD n cD D w hw hT K hd H HD hD
  · exact dimOf7 a b k s nv V a1 lo k1 m aD bD n cD D w hw hT K hd H HD hD

end Go.Proofs.YtlpabmcebpppfaaGreatDoor

namespace Go.Proofs.YtlpabmcebpppfaaGreatDoor
open Go.RowKit

theorem OwnE.keep {w w' : World} {lo hi b off : Nat} {f : Bool} {g h : Nat} {a1 : Option Addr} {n1 k1 : Nat} {a2 : Option Addr} {n2 k2 : Nat} {X Y : Nat → Nat} (r : OwnE w lo hi b off f g h a1 n1 k1 a2 n2 k2 X Y) (s : w.Since w.heap.size w') : OwnE w' lo hi b off f g h a1 n1 k1 a2 n2 k2 X Y := by
  have lt : b < w.heap.size := World.block_lt_of_cell? _ _ r.c0
  exact ⟨(s.cell (a := ⟨b, off, none⟩) lt).trans r.c0, (s.cell (a := ⟨b, off + 1, none⟩) lt).trans r.c1, (s.cell (a := ⟨b, off + 2, none⟩) lt).trans r.c2, r.L1.keep s, r.L2.keep s, r.s1, r.s2,
    fun h0 => ⟨(r.lg h0).1, (r.lg h0).2.1, fun o => by rw [s.frozen (a := ⟨g, o, none⟩) (r.L1.lt h0)]; exact (r.lg h0).2.2 o⟩,
    fun h0 => ⟨(r.lh h0).1, (r.lh h0).2.1, fun o => by rw [s.frozen (a := ⟨h, o, none⟩) (r.L2.lt h0)]; exact (r.lh h0).2.2 o⟩, r.ne⟩

theorem OwnFrom.keep {w w' : World} {b k n : Nat} {E : Nat → Nat} (H : OwnFrom w b k n E) (s : w.Since w.heap.size w') : OwnFrom w' b k n E := fun i h1 h2 => by
  obtain ⟨f, g, h, a1, n1, k1, a2, n2, k2, X, Y, r⟩ := H i h1 h2
  exact ⟨f, g, h, a1, n1, k1, a2, n2, k2, X, Y, r.keep s⟩

/-- A list that grows: its first k entries own blocks behind it. -/
structure OwnK (w : World) (c k : Nat) (E : Nat → Nat) : Prop where
  lo : c < E 0
  mono : ∀ i, i < k → E i ≤ E (i + 1)
  hi : E k ≤ w.heap.size
  own : OwnFrom w c 0 k E

theorem OwnK.keep {w w' : World} {c k : Nat} {E : Nat → Nat} (H : OwnK w c k E) (s : w.Since w.heap.size w') : OwnK w' c k E :=
  ⟨H.lo, H.mono, Nat.le_trans H.hi s.size, H.own.keep s⟩

theorem OwnK.put {w w' : World} {c k B n1 n2 g h : Nat} {f : Bool} {E X Y : Nat → Nat} (H : OwnK w c k E) (hB : E k ≤ B) (M : Marked w w' c) (hc : ∀ o, o < k * 3 → w'.cell? ⟨c, o, none⟩ = w.cell? ⟨c, o, none⟩)
    (c0 : w'.cell? ⟨c, k * 3, none⟩ = some (.bool f)) (c1 : w'.cell? ⟨c, k * 3 + 1, none⟩ = some (.slice (some ⟨g, 0, none⟩) n1 n1)) (c2 : w'.cell? ⟨c, k * 3 + 2, none⟩ = some (.slice (some ⟨h, 0, none⟩) n2 n2))
    (L1 : Limbs w (some ⟨g, 0, none⟩) g 0 n1 X) (L2 : Limbs w (some ⟨h, 0, none⟩) h 0 n2 Y) (s1 : n1 ≤ 4194304) (s2 : n2 ≤ 4194304) (l1 : B ≤ g) (l2 : g < h) (l3 : h < w.heap.size)
    (f1 : ∀ o, w.frozen? ⟨g, o, none⟩ = false) (f2 : ∀ o, w.frozen? ⟨h, o, none⟩ = false) : OwnK w' c (k + 1) (fun i => if i ≤ k then E i else w.heap.size) := by
  have b1 : c < E k := Nat.lt_of_lt_of_le H.lo (e_mono H.mono (Nat.zero_le _) (Nat.le_refl _))
  refine ⟨by simpa using H.lo, fun i hi => ?_, ?_, fun i _ hi => ?_⟩
  · by_cases e : i = k
    · subst e
      simp only [Nat.le_refl, if_true, show ¬ i + 1 ≤ i by omega, if_false]
      exact H.hi
    · simp only [show i ≤ k by omega, show i + 1 ≤ k by omega, if_true]
      exact H.mono i (by omega)
  · simp only [show ¬ k + 1 ≤ k by omega, if_false]
    rw [M.size]; exact Nat.le_refl _
  · by_cases e : i = k
    · subst e
      simp only [Nat.le_refl, if_true, show ¬ i + 1 ≤ i by omega, if_false]
      exact ⟨f, g, h, _, n1, n1, _, n2, n2, X, Y, c0, c1, c2, L1.marked M (fun _ => by omega), L2.marked M (fun _ => by omega), s1, s2, fun _ => ⟨by omega, by omega, fun o => by rw [M.fr.frozen]; exact f1 o⟩, fun _ => ⟨by omega, by omega, fun o => by rw [M.fr.frozen]; exact f2 o⟩, fun _ _ => by omega⟩
    · simp only [show i ≤ k by omega, show i + 1 ≤ k by omega, if_true]
      obtain ⟨f', g', h', a1', n1', k1', a2', n2', k2', X', Y', r'⟩ := H.own i (Nat.zero_le _) (by omega)
      have := e_mono H.mono (Nat.zero_le i) (show i ≤ k by omega)
      have := H.lo
      exact ⟨f', g', h', a1', n1', k1', a2', n2', k2', X', Y', r'.frame M.fr (fun c h1 h2 h3 => by omega) (fun o h1 h2 => hc o (by omega))⟩

/-- A list whose memory lies from lo to hi, and may be written. -/
structure OwnL (w : World) (lo hi c n : Nat) : Prop where
  ex : ∃ E : Nat → Nat, lo ≤ c ∧ c < E 0 ∧ (∀ i, i < n → E i ≤ E (i + 1)) ∧ E n ≤ hi ∧ OwnFrom w c 0 n E
  f : ∀ o, w.frozen? ⟨c, o, none⟩ = false
  lt : c < w.heap.size

set_option maxHeartbeats 1600000 in
set_option maxRecDepth 100000 in
/-- toRatS, with what its copy owns. -/
theorem toRatS_own (a : Option Addr) (lo b off n cap : Nat) (R : Nat → RatD) (w : World) (hn : n ≤ 1048576) (hs : szR R n ≤ 1048576) (H : Rats w lo a b off n R) :
    Calls Tryz.prog 21 #[.slice a n cap] w fun e w' => ∃ c, e = .returned (.slice (some ⟨c, 0, none⟩) n n) ∧ w.heap.size ≤ c ∧ c < w'.heap.size ∧ OwnL w' w.heap.size w'.heap.size c n ∧ Rats w' (c + 1) (some ⟨c, 0, none⟩) c 0 n R ∧ w.Since w.heap.size w' := by
  have hmk := run_make_wide (P := Tryz.prog) 28 53 _ 3 56 Tryz.underlying28 info_Rat .i64 .i64 n (by omega) (by omega)
  have sA := (World.Since.refl w.heap.size w).alloc (Nat.le_refl _) (.cells (madeCells #[.bool false, .slice none 0 0, .slice none 0 0] (n * 3)) 53)
  have rA := Room.new w #[.bool false, .slice none 0 0, .slice none 0 0] (n * 3) 53
  go_enter Tryz.func21, Tryz.ntmps21
  go_wp2
  go_loopw [4] (fun i wr => ∃ (k : Nat) (E : Nat → Nat), OwnK wr w.heap.size k E ∧ k ≤ n ∧ i = .int .i64 k ∧ w.Since w.heap.size wr ∧ Room wr w.heap.size (n * 3) ∧ Rats wr (w.heap.size + 1) (some ⟨w.heap.size, 0, none⟩) w.heap.size 0 k R) (fun i _ => n - (intOf i).toNat)
  case atStart => exact ⟨0, fun _ => w.heap.size + 1, ⟨Nat.lt_succ_self _, fun i hi => absurd hi (by omega), by simp, fun i _ hi => absurd hi (by omega)⟩, Nat.zero_le _, rfl, sA, rA, fun i hi => absurd hi (by omega)⟩
  case round =>
    obtain ⟨k, E, ow, hk, rfl, s, r, T⟩ := hrel
    by_cases hlt : k < n
    · obtain ⟨rfl, a1, a2, k1, k2, M⟩ := H k hlt
      have M' := M.keep s
      have g0 := M'.c0
      have g1 := M'.c1
      have g2 := M'.c2
      have hz : (k : Int) < (n : Int) := by omega
      have hsz := szR_at (R := R) hlt
      obtain ⟨ba, oa, -, LX⟩ := M'.L.LX
      obtain ⟨bb, ob, -, LY⟩ := M'.L.LY
      go_wp2_with fail
      refine (toRat_any (R k).neg a1 a2 ba oa (R k).n k1 bb ob (R k).m k2 (R k).X (R k).Y wr (by omega) (by omega) LX LY).mono ?_
      rintro e w2 ⟨g, h, rfl, s2, l1, l2, l3, LX2, LY2, fz1, fz2⟩
      have r2 := r.keep s2
      have T2 := T.keep s2
      have S2 : w.Since w.heap.size w2 := s.trans (sinceMono s2 s.size)
      obtain ⟨v0, u0⟩ := r2.cell (k * 3) (by omega)
      obtain ⟨v1, u1⟩ := r2.cell (k * 3 + 1) (by omega)
      obtain ⟨v2, u2⟩ := r2.cell (k * 3 + 2) (by omega)
      have f0 := r2.f (k * 3)
      have f1 := r2.f (k * 3 + 1)
      have f2 := r2.f (k * 3 + 2)
      have rl := r.lt
      clear g0 g1 g2
      go_wp2
      go_roundw
      case rel =>
        go_light
        obtain ⟨w3, e3, M3, R3, x0, x1, x2, xo⟩ := put3 (q := k * 3) r2 (by omega) (.bool (R k).neg) (.slice (some ⟨g, 0, none⟩) (R k).n (R k).n) (.slice (some ⟨h, 0, none⟩) (R k).m (R k).m)
        rw [← e3]
        exact ⟨k + 1, _, (ow.keep s2).put ow.hi M3 (fun o ho => xo o (by omega)) x0 x1 x2 LX2 LY2 (by omega) (by omega) l1 l2 l3 fz1 fz2, by omega, by go_num, S2.trans (M3.since (Nat.le_refl _)), R3, T2.put M3 (fun o ho => xo o (by omega)) ⟨Nat.le_refl _, Nat.le_refl _, (fun h => by cases h), (fun h => by cases h), ⟨g, 0, fun _ => by omega, LX2⟩, ⟨h, 0, fun _ => by omega, LY2⟩, M.L.lX, M.L.lY, M.L.n63, M.L.m63⟩ x0 x1 x2⟩
      case measure => simp [intOf]; omega
    · have e : k = n := by omega
      subst e
      have rl := r.lt
      go_wp2
      go_ret
      exact ⟨w.heap.size, rfl, Nat.le_refl _, rl, ⟨⟨E, Nat.le_refl _, ow.lo, ow.mono, ow.hi, ow.own⟩, r.f, rl⟩, T, s⟩

end Go.Proofs.YtlpabmcebpppfaaGreatDoor

namespace Go.Proofs.YtlpabmcebpppfaaGreatDoor
open Go.RowKit

section
variable {w w' : World} {lo hi lo' hi' c n : Nat}
theorem OwnL.span (H : OwnL w lo hi c n) : lo ≤ c ∧ c < hi := by
  obtain ⟨E, h1, h2, h3, h4, -⟩ := H.ex
  have := e_mono h3 (Nat.zero_le n) (Nat.le_refl _)
  exact ⟨h1, by omega⟩
theorem OwnL.wide (H : OwnL w lo hi c n) (h1 : lo' ≤ lo) (h2 : hi ≤ hi') : OwnL w lo' hi' c n := by
  obtain ⟨E, a, b, e, d, o⟩ := H.ex
  exact ⟨⟨E, by omega, b, e, by omega, o⟩, H.f, H.lt⟩
theorem OwnL.keep (H : OwnL w lo hi c n) (s : w.Since w.heap.size w') : OwnL w' lo hi c n := by
  obtain ⟨E, a, b, e, d, o⟩ := H.ex
  exact ⟨⟨E, a, b, e, d, o.keep s⟩, fun o => by rw [s.frozen (a := ⟨c, o, none⟩) H.lt]; exact H.f o, Nat.lt_of_lt_of_le H.lt s.size⟩
theorem OwnL.frame {S : Nat → Prop} (H : OwnL w lo hi c n) (F : Fra w w' S) (hS : ∀ k, lo ≤ k → k < hi → ¬ S k) : OwnL w' lo hi c n := by
  have sp := H.span
  obtain ⟨E, a, b, e, d, o⟩ := H.ex
  refine ⟨⟨E, a, b, e, d, fun i h1 h2 => ?_⟩, fun o => by rw [F.frozen]; exact H.f o, by rw [F.size]; exact H.lt⟩
  obtain ⟨f', g', h', a1', n1', k1', a2', n2', k2', X', Y', r'⟩ := o i h1 h2
  have x1 := e_mono e (Nat.zero_le i) (show i ≤ n by omega)
  have x2 := e_mono e (i := i + 1) (j := n) (by omega) (Nat.le_refl _)
  exact ⟨f', g', h', a1', n1', k1', a2', n2', k2', X', Y', r'.frame F (fun k h1 h2 => hS k (by omega) (by omega)) (fun o _ _ => F.cell (a := ⟨c, o, none⟩) (hS c sp.1 sp.2))⟩
end

end Go.Proofs.YtlpabmcebpppfaaGreatDoor
