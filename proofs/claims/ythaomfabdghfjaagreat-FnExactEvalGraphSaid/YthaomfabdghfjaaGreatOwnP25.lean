import Derived.Test.YthaomfabdghfjaaGreatOwnP24
import Derived.Test.YthaomfabdghfjaaGreatOwnP20
import Derived.Test.YthaomfabdghfjaaGreatOwnP21
import Derived.Test.YthaomfabdghfjaaGreatOwnP3
import Derived.Test.YthaomfabdghfjaaGreatOwnP19
import Derived.Test.YthaomfabdghfjaaGreatOwnP18
import Derived.Deep.RegionHeld3
import Derived.Test.YthaomfabdghfjaaGreatOwnP22
set_option maxHeartbeats 6400000
set_option maxRecDepth 100000
namespace Go.Proofs.YthaomfabdghfjaaGreat
open Go.RowKit
theorem Qb.inv {q : Rat} {k : Nat} (h : Qb q k) (h0 : q.num.natAbs ≠ 0) : Qb q⁻¹ k := by
 obtain ⟨-, e2, e3⟩ := q_inv q h0; exact ⟨by rw [e2]; exact h.2, by rw [e3]; exact h.1⟩
theorem el7 (v1 v2 v3 v4 : Int) (bw ow nv k1 : Nat) (ax az : Option Addr) (bx ox lx cx lz cz e : Nat) (X : Nat -> Rat) (w : World) (HX : xj5 w (fun _ => True) ax bx ox lx X) (qx : ∀ i, i < lx -> Qb (X i) 1048640) (W : Nat -> Rat) (HW : xj5 w (fun _ => True) (some ⟨bw, ow, none⟩) bw ow nv W) (qw : ∀ i, i < nv -> Qb (W i) 1048640) (h4 : 4 <= nv) (he : e < lx) (hz : (W 2).num.natAbs ≠ 0) :
 Calls Tryz.prog 97 #[.agg #[.int .i64 7, .int .i64 v1, .int .i64 v2, .int .i64 v3, .int .i64 v4, .slice (some ⟨bw, ow, none⟩) nv k1], .slice ax lx cx, .slice az lz cz, .int .i64 (e : Int)] w fun r w' => ∃ u, r = .returned u /\ xz4 w' (fun g => w.heap.size <= g) u (W 0 * (X e - W 1) * (W 2)⁻¹ + W 3) /\ w.Since w.heap.size w' := by
 have sA : w.Since w.heap.size ((w.alloc (.cells #[.int .i64 7, .int .i64 v1, .int .i64 v2, .int .i64 v3, .int .i64 v4, .slice (some ⟨bw, ow, none⟩) nv k1] 84)).alloc (.cells #[.bool false, .slice none 0 0, .slice none 0 0] 70)) := ((World.Since.refl _ _).alloc (Nat.le_refl _) _).alloc (by simp) _; have zA : ((w.alloc (.cells #[.int .i64 7, .int .i64 v1, .int .i64 v2, .int .i64 v3, .int .i64 v4, .slice (some ⟨bw, ow, none⟩) nv k1] 84)).alloc (.cells #[.bool false, .slice none 0 0, .slice none 0 0] 70)).heap.size = w.heap.size + 1 + 1 := by simp
 have nA : Box6 ((w.alloc (.cells #[.int .i64 7, .int .i64 v1, .int .i64 v2, .int .i64 v3, .int .i64 v4, .slice (some ⟨bw, ow, none⟩) nv k1] 84)).alloc (.cells #[.bool false, .slice none 0 0, .slice none 0 0] 70)) w.heap.size (.int .i64 7) (.int .i64 v1) (.int .i64 v2) (.int .i64 v3) (.int .i64 v4) (.slice (some ⟨bw, ow, none⟩) nv k1) := (Box6.new w _ _ _ _ _ _ _).keep ((World.Since.refl _ _).alloc (Nat.le_refl _) _)
 have rA : Box3 ((w.alloc (.cells #[.int .i64 7, .int .i64 v1, .int .i64 v2, .int .i64 v3, .int .i64 v4, .slice (some ⟨bw, ow, none⟩) nv k1] 84)).alloc (.cells #[.bool false, .slice none 0 0, .slice none 0 0] 70)) (w.heap.size + 1) (.bool false) (.slice none 0 0) (.slice none 0 0) := by
  have := Box3.new (w.alloc (.cells #[.int .i64 7, .int .i64 v1, .int .i64 v2, .int .i64 v3, .int .i64 v4, .slice (some ⟨bw, ow, none⟩) nv k1] 84)) (.bool false) (.slice none 0 0) (.slice none 0 0) 70
  simpa using this
 have p0 := nA.c0; obtain ⟨eX, x1, y1, CX⟩ := HX e he; subst eX; obtain ⟨a2, n2, c2, b2, m2, d2, -, -, -, -, -, -, e2, -⟩ := CX.R; simp only [Value.agg.injEq, Array.mk.injEq, List.cons.injEq, and_true, true_and] at e2; obtain ⟨rfl, rfl⟩ := e2; have t1 : (e : Int) < (lx : Int) := by omega
 obtain ⟨-, x0w, y0w, CW0⟩ := HW 0 (by omega); obtain ⟨aw0, nw0, cw0, bw0, mw0, dw0, -, -, -, -, -, -, ew0, -⟩ := CW0.R; simp only [Value.agg.injEq, Array.mk.injEq, List.cons.injEq, and_true, true_and] at ew0; obtain ⟨rfl, rfl⟩ := ew0; obtain ⟨-, x1w, y1w, CW1⟩ := HW 1 (by omega); obtain ⟨aw1, nw1, cw1, bw1, mw1, dw1, -, -, -, -, -, -, ew1, -⟩ := CW1.R; simp only [Value.agg.injEq, Array.mk.injEq, List.cons.injEq, and_true, true_and] at ew1; obtain ⟨rfl, rfl⟩ := ew1; obtain ⟨-, x2w, y2w, CW2⟩ := HW 2 (by omega); obtain ⟨aw2, nw2, cw2, bw2, mw2, dw2, -, -, -, -, -, -, ew2, -⟩ := CW2.R; simp only [Value.agg.injEq, Array.mk.injEq, List.cons.injEq, and_true, true_and] at ew2; obtain ⟨rfl, rfl⟩ := ew2; obtain ⟨-, x3w, y3w, CW3⟩ := HW 3 (by omega); obtain ⟨aw3, nw3, cw3, bw3, mw3, dw3, -, -, -, -, -, -, ew3, -⟩ := CW3.R; simp only [Value.agg.injEq, Array.mk.injEq, List.cons.injEq, and_true, true_and] at ew3; obtain ⟨rfl, rfl⟩ := ew3; simp only [Nat.zero_mul, Nat.add_zero, Nat.reduceMul] at CW0 CW1 CW2 CW3; have lx1 := CX.lt; have lw1 := CW0.lt; have v1' : (1 : Int) < (nv : Int) := by omega
 have v2' : (2 : Int) < (nv : Int) := by omega
 have v3' : (3 : Int) < (nv : Int) := by omega
 have v0' : (0 : Int) < (nv : Int) := by omega
 have ne1 : w.heap.size + 1 ≠ bx := by omega
 have ne2 : w.heap.size + 1 ≠ bw := by omega
 have ne3 : w.heap.size + 1 ≠ w.heap.size := by omega
 go_enter Tryz.func97, Tryz.ntmps97; go_wp2_with fail; generalize (w.alloc (.cells #[.int .i64 7, .int .i64 v1, .int .i64 v2, .int .i64 v3, .int .i64 v4, .slice (some ⟨bw, ow, none⟩) nv k1] 84)).alloc (.cells #[.bool false, .slice none 0 0, .slice none 0 0] 70) = wA at *; have dr := sdr wA; have sd := sA.trans (sM dr sA.size); have J1 := l1Sub_q (qx e he) (qw 1 (by omega)) (by omega) (CX.keep sd).R.read (CW1.keep sd).R.read; go_wp2; refine wp_region_held_drew (S := fun w' => w'.cell? ⟨w.heap.size, 5, none⟩ = some (.slice (some ⟨bw, ow, none⟩) nv k1) /\ w'.cell? ⟨bw, ow, none⟩ = some (.bool (qn (W 0))) /\ w'.cell? ⟨bw, ow + 1, none⟩ = some (.slice aw0 nw0 cw0) /\ w'.cell? ⟨bw, ow + 2, none⟩ = some (.slice bw0 mw0 dw0) /\ w'.cell? ⟨bw, ow + 3, none⟩ = some (.bool (qn (W 1))) /\ w'.cell? ⟨bw, ow + 3 + 1, none⟩ = some (.slice aw1 nw1 cw1) /\ w'.cell? ⟨bw, ow + 3 + 2, none⟩ = some (.slice bw1 mw1 dw1) /\ w'.cell? ⟨bx, ox + e * 3, none⟩ = some (.bool (qn (X e))) /\ w'.cell? ⟨bx, ox + e * 3 + 1, none⟩ = some (.slice a2 n2 c2) /\ w'.cell? ⟨bx, ox + e * 3 + 2, none⟩ = some (.slice b2 m2 d2)) (by kernel_rfl) ⟨(nA.keep dr).c5, (CW0.keep sd).c0, (CW0.keep sd).c1, (CW0.keep sd).c2, (CW1.keep sd).c0, (CW1.keep sd).c1, (CW1.keep sd).c2, (CX.keep sd).c0, (CX.keep sd).c1, (CX.keep sd).c2⟩ (fun hHeld => ?_); refine tk 0 111 (.pointer (some ⟨w.heap.size, 5, none⟩)) ?_; simp only [ap, List.setIfInBounds_toArray, List.set_cons_zero, ls]; refine ta 1 112 (.slice (some ⟨bw, ow, none⟩) nv k1) ?_ ?_
 . intro w' hSw
   obtain ⟨h5, h00, h01, h02, h10, h11, h12, hx0, hx1, hx2⟩ := hSw; go_simp
 simp only [ap, List.setIfInBounds_toArray, List.set_cons_zero, ls]; refine ta 2 113 (.pointer (some ⟨bw, ow, none⟩)) ?_ ?_
 . intro w' hSw
   clear hSw; go_simp
   try (intro h; omega)
 simp only [ap, List.setIfInBounds_toArray, List.set_cons_zero, ls]; refine ta 3 114 (.agg #[.bool (qn (W 0)), .slice aw0 nw0 cw0, .slice bw0 mw0 dw0]) ?_ ?_
 . intro w' hSw
   obtain ⟨h5, h00, h01, h02, h10, h11, h12, hx0, hx1, hx2⟩ := hSw; go_simp
 simp only [ap, List.setIfInBounds_toArray, List.set_cons_zero, ls]; refine tk 4 115 (.slice (some ⟨bx, ox, none⟩) lx cx) ?_; simp only [ap, List.setIfInBounds_toArray, List.set_cons_zero, ls]; refine tk 5 116 (.int .i64 (e : Int)) ?_; simp only [ap, List.setIfInBounds_toArray, List.set_cons_zero, ls]; refine ta 6 117 (.pointer (some ⟨bx, ox + e * 3, none⟩)) ?_ ?_
 . intro w' hSw
   clear hSw; go_simp
   try (intro h; omega)
 simp only [ap, List.setIfInBounds_toArray, List.set_cons_zero, ls]; refine ta 7 118 (.agg #[.bool (qn (X e)), .slice a2 n2 c2, .slice b2 m2 d2]) ?_ ?_
 . intro w' hSw
   obtain ⟨h5, h00, h01, h02, h10, h11, h12, hx0, hx1, hx2⟩ := hSw; go_simp
 simp only [ap, List.setIfInBounds_toArray, List.set_cons_zero, ls]; refine tk 8 119 (.pointer (some ⟨w.heap.size, 5, none⟩)) ?_; simp only [ap, List.setIfInBounds_toArray, List.set_cons_zero, ls]; refine ta 9 120 (.slice (some ⟨bw, ow, none⟩) nv k1) ?_ ?_
 . intro w' hSw
   obtain ⟨h5, h00, h01, h02, h10, h11, h12, hx0, hx1, hx2⟩ := hSw; go_simp
 simp only [ap, List.setIfInBounds_toArray, List.set_cons_zero, ls]; refine ta 10 121 (.pointer (some ⟨bw, ow + 3, none⟩)) ?_ ?_
 . intro w' hSw
   clear hSw; go_simp
   try (intro h; omega)
 simp only [ap, List.setIfInBounds_toArray, List.set_cons_zero, ls]; refine ta 11 122 (.agg #[.bool (qn (W 1)), .slice aw1 nw1 cw1, .slice bw1 mw1 dw1]) ?_ ?_
 . intro w' hSw
   obtain ⟨h5, h00, h01, h02, h10, h11, h12, hx0, hx1, hx2⟩ := hSw; go_simp
 simp only [ap, List.setIfInBounds_toArray, List.set_cons_zero, ls]; clear hHeld; generalize wA.drew = wd at *; refine wpAnyH_ready (rs := [12, 14]) (by kernel_rfl) (by simp) ?_; refine AllReadyH.cons rfl (fun K hK => ?a1) (AllReadyH.cons rfl (fun K hK => ?c1) AllReadyH.nil)
 case' a1 =>
  go_simp
  go_wp2_with (go_at_call 81; with_reducible refine J1.mono ?_; rintro r wp ⟨wpu, rfl, Rp, swp⟩)
  have Rpq := Rp; obtain ⟨awp, nwp, cwp, bwp, mwp, dwp, -, -, -, -, -, -, ewp, -⟩ := Rpq; subst ewp; have Uwp := dr.trans (sM swp dr.size); have Swp := sA.trans (sM Uwp sA.size); refine hK.out _ _ ⟨(nA.keep Uwp).c5, (CW0.keep Swp).c0, (CW0.keep Swp).c1, (CW0.keep Swp).c2, (CW1.keep Swp).c0, (CW1.keep Swp).c1, (CW1.keep Swp).c2, (CX.keep Swp).c0, (CX.keep Swp).c1, (CX.keep Swp).c2⟩ (fun h1 => ?_); clear hK K; have J2 := l1Mul_q (qw 0 (by omega)) ((qx e he).sub (qw 1 (by omega))) (by omega) (CW0.keep Swp).R.read Rp.read; refine wpAnyH_ready (rs := [13, 14]) (by kernel_rfl) (by simp) ?_; refine AllReadyH.cons rfl (fun K hK => ?a2) (AllReadyH.cons rfl (fun K hK => ?b2) AllReadyH.nil)
  case' a2 =>
   go_simp
   go_wp2_with (go_at_call 111; with_reducible refine J2.mono ?_; rintro r wq ⟨wqu, rfl, Rq, swq⟩)
   have Rqq := Rq; obtain ⟨awq, nwq, cwq, bwq, mwq, dwq, -, -, -, -, -, -, ewq, -⟩ := Rqq; subst ewq; have Uwq := Uwp.trans (sM swq Uwp.size); have Swq := sA.trans (sM Uwq sA.size); refine hK.out _ _ ⟨(nA.keep Uwq).c5, (CW0.keep Swq).c0, (CW0.keep Swq).c1, (CW0.keep Swq).c2, (CW1.keep Swq).c0, (CW1.keep Swq).c1, (CW1.keep Swq).c2, (CX.keep Swq).c0, (CX.keep Swq).c1, (CX.keep Swq).c2⟩ (fun h1 => ?_); clear hK K; refine wpAnyH_ready (rs := [14]) (by kernel_rfl) (by simp) ?_; refine AllReadyH.cons rfl (fun K hK => ?_) AllReadyH.nil; go_simp; have twn := sal wq (.cells #[.bool false, .slice none 0 0, .slice none 0 0] 70); have Bwn := Box3.new wq (.bool false) (.slice none 0 0) (.slice none 0 0) 70; have Uwn : wA.Since wA.heap.size (wq.alloc (.cells #[.bool false, .slice none 0 0, .slice none 0 0] 70)) := Uwq.trans (sM twn Uwq.size); have Swn : w.Since w.heap.size (wq.alloc (.cells #[.bool false, .slice none 0 0, .slice none 0 0] 70)) := sA.trans (sM Uwn sA.size); refine hK.out _ _ ⟨(nA.keep Uwn).c5, (CW0.keep Swn).c0, (CW0.keep Swn).c1, (CW0.keep Swn).c2, (CW1.keep Swn).c0, (CW1.keep Swn).c1, (CW1.keep Swn).c2, (CX.keep Swn).c0, (CX.keep Swn).c1, (CX.keep Swn).c2⟩ (fun h1 => ?_); clear hK K; obtain ⟨fc, hfc⟩ : ∃ fc, fc = wq.heap.size := ⟨_, rfl⟩; have fl : wA.heap.size <= fc := by rw [hfc]; exact Uwq.size
   have fll : wq.heap.size <= fc := by rw [hfc]; exact Nat.le_refl _
   rw [<- hfc] at Bwn ⊢; generalize wq.alloc (.cells #[.bool false, .slice none 0 0, .slice none 0 0] 70) = wn at *; clear hfc; refine wpAnyH_ready (rs := [15]) (by kernel_rfl) (by simp) ?_; refine AllReadyH.cons rfl (fun K hK => ?_) AllReadyH.nil; have q0 := Bwn.c0; have q1 := Bwn.c1; have q2 := Bwn.c2; have qf0 := Bwn.f 0; have qf1 := Bwn.f 1; have qf2 := Bwn.f 2; go_simp; have M8 : xq0 wn _ fc := (((xq0.refl wn _).setCell 0 (.bool (qn (W 0 * (X e - W 1))))).setCell 1 (.slice awq nwq cwq)).setCell 2 (.slice bwq mwq dwq); have B8 := ((Bwn.set0 (.bool (qn (W 0 * (X e - W 1))))).set1 (.slice awq nwq cwq)).set2 (.slice bwq mwq dwq); have U8 := Uwn.trans (M8.since fl); have S8 := sA.trans (sM U8 sA.size); have R8 := (((Rq.imp (p' := fun g => g < fc) (fun g hg _ => by omega)).keep twn).marked M8 (fun h => by have h' : fc < fc := h; omega)).read; refine hK.out _ _ ⟨(nA.keep U8).c5, (CW0.keep S8).c0, (CW0.keep S8).c1, (CW0.keep S8).c2, (CW1.keep S8).c0, (CW1.keep S8).c1, (CW1.keep S8).c2, (CX.keep S8).c0, (CX.keep S8).c1, (CX.keep S8).c2⟩ (fun h1 => ?_); clear hK K h1 q0 q1 q2 qf0 qf1 qf2; refine wpAnyH_done (by kernel_rfl) ?_ _; generalize (((wn.setCell ⟨fc, 0, none⟩ (.bool (qn (W 0 * (X e - W 1))))).setCell ⟨fc, 1, none⟩ (.slice awq nwq cwq)).setCell ⟨fc, 2, none⟩ (.slice bwq mwq dwq)) = w8 at *
  case' b2 =>
   go_simp; have twn := sal wp (.cells #[.bool false, .slice none 0 0, .slice none 0 0] 70); have Bwn := Box3.new wp (.bool false) (.slice none 0 0) (.slice none 0 0) 70; have Uwn : wA.Since wA.heap.size (wp.alloc (.cells #[.bool false, .slice none 0 0, .slice none 0 0] 70)) := Uwp.trans (sM twn Uwp.size); have Swn : w.Since w.heap.size (wp.alloc (.cells #[.bool false, .slice none 0 0, .slice none 0 0] 70)) := sA.trans (sM Uwn sA.size); refine hK.out _ _ ⟨(nA.keep Uwn).c5, (CW0.keep Swn).c0, (CW0.keep Swn).c1, (CW0.keep Swn).c2, (CW1.keep Swn).c0, (CW1.keep Swn).c1, (CW1.keep Swn).c2, (CX.keep Swn).c0, (CX.keep Swn).c1, (CX.keep Swn).c2⟩ (fun h1 => ?_); clear hK K; obtain ⟨fc, hfc⟩ : ∃ fc, fc = wp.heap.size := ⟨_, rfl⟩; have fl : wA.heap.size <= fc := by rw [hfc]; exact Uwp.size
   have fll : wp.heap.size <= fc := by rw [hfc]; exact Nat.le_refl _
   rw [<- hfc] at Bwn ⊢; generalize wp.alloc (.cells #[.bool false, .slice none 0 0, .slice none 0 0] 70) = wn at *; clear hfc; clear J2; have J2 := l1Mul_q (qw 0 (by omega)) ((qx e he).sub (qw 1 (by omega))) (by omega) (CW0.keep Swn).R.read (Rp.keep twn).read; refine wpAnyH_ready (rs := [13]) (by kernel_rfl) (by simp) ?_; refine AllReadyH.cons rfl (fun K hK => ?_) AllReadyH.nil; go_simp
   go_wp2_with (go_at_call 111; with_reducible refine J2.mono ?_; rintro r wq ⟨wqu, rfl, Rq, swq⟩)
   have Rqq := Rq; obtain ⟨awq, nwq, cwq, bwq, mwq, dwq, -, -, -, -, -, -, ewq, -⟩ := Rqq; subst ewq; have Uwq := Uwn.trans (sM swq Uwn.size); have Swq := sA.trans (sM Uwq sA.size); refine hK.out _ _ ⟨(nA.keep Uwq).c5, (CW0.keep Swq).c0, (CW0.keep Swq).c1, (CW0.keep Swq).c2, (CW1.keep Swq).c0, (CW1.keep Swq).c1, (CW1.keep Swq).c2, (CX.keep Swq).c0, (CX.keep Swq).c1, (CX.keep Swq).c2⟩ (fun h1 => ?_); clear hK K; refine wpAnyH_ready (rs := [15]) (by kernel_rfl) (by simp) ?_; refine AllReadyH.cons rfl (fun K hK => ?_) AllReadyH.nil; have Bwq := Bwn.keep swq; have q0 := Bwq.c0; have q1 := Bwq.c1; have q2 := Bwq.c2; have qf0 := Bwq.f 0; have qf1 := Bwq.f 1; have qf2 := Bwq.f 2; go_simp; have M8 : xq0 wq _ fc := (((xq0.refl wq _).setCell 0 (.bool (qn (W 0 * (X e - W 1))))).setCell 1 (.slice awq nwq cwq)).setCell 2 (.slice bwq mwq dwq); have B8 := ((Bwq.set0 (.bool (qn (W 0 * (X e - W 1))))).set1 (.slice awq nwq cwq)).set2 (.slice bwq mwq dwq); have U8 := Uwq.trans (M8.since fl); have S8 := sA.trans (sM U8 sA.size); have R8 := (Rq.marked M8 (fun h => by have h' : wn.heap.size <= fc := h; have := Bwn.lt; omega)).read; refine hK.out _ _ ⟨(nA.keep U8).c5, (CW0.keep S8).c0, (CW0.keep S8).c1, (CW0.keep S8).c2, (CW1.keep S8).c0, (CW1.keep S8).c1, (CW1.keep S8).c2, (CX.keep S8).c0, (CX.keep S8).c1, (CX.keep S8).c2⟩ (fun h1 => ?_); clear hK K h1 q0 q1 q2 qf0 qf1 qf2; refine wpAnyH_done (by kernel_rfl) ?_ _; generalize (((wq.setCell ⟨fc, 0, none⟩ (.bool (qn (W 0 * (X e - W 1))))).setCell ⟨fc, 1, none⟩ (.slice awq nwq cwq)).setCell ⟨fc, 2, none⟩ (.slice bwq mwq dwq)) = w8 at *
 case' c1 =>
  go_simp; have twn := sal wd (.cells #[.bool false, .slice none 0 0, .slice none 0 0] 70); have Bwn := Box3.new wd (.bool false) (.slice none 0 0) (.slice none 0 0) 70; have Uwn : wA.Since wA.heap.size (wd.alloc (.cells #[.bool false, .slice none 0 0, .slice none 0 0] 70)) := dr.trans (sM twn dr.size); have Swn : w.Since w.heap.size (wd.alloc (.cells #[.bool false, .slice none 0 0, .slice none 0 0] 70)) := sA.trans (sM Uwn sA.size); refine hK.out _ _ ⟨(nA.keep Uwn).c5, (CW0.keep Swn).c0, (CW0.keep Swn).c1, (CW0.keep Swn).c2, (CW1.keep Swn).c0, (CW1.keep Swn).c1, (CW1.keep Swn).c2, (CX.keep Swn).c0, (CX.keep Swn).c1, (CX.keep Swn).c2⟩ (fun h1 => ?_); clear hK K; obtain ⟨fc, hfc⟩ : ∃ fc, fc = wd.heap.size := ⟨_, rfl⟩; have fl : wA.heap.size <= fc := by rw [hfc]; exact dr.size
  have fll : wd.heap.size <= fc := by rw [hfc]; exact Nat.le_refl _
  rw [<- hfc] at Bwn ⊢; generalize wd.alloc (.cells #[.bool false, .slice none 0 0, .slice none 0 0] 70) = wn at *; clear hfc; clear J1; have J1 := l1Sub_q (qx e he) (qw 1 (by omega)) (by omega) (CX.keep Swn).R.read (CW1.keep Swn).R.read; refine wpAnyH_ready (rs := [12]) (by kernel_rfl) (by simp) ?_; refine AllReadyH.cons rfl (fun K hK => ?_) AllReadyH.nil; go_simp
  go_wp2_with (go_at_call 81; with_reducible refine J1.mono ?_; rintro r wp ⟨wpu, rfl, Rp, swp⟩)
  have Rpq := Rp; obtain ⟨awp, nwp, cwp, bwp, mwp, dwp, -, -, -, -, -, -, ewp, -⟩ := Rpq; subst ewp; have Uwp := Uwn.trans (sM swp Uwn.size); have Swp := sA.trans (sM Uwp sA.size); refine hK.out _ _ ⟨(nA.keep Uwp).c5, (CW0.keep Swp).c0, (CW0.keep Swp).c1, (CW0.keep Swp).c2, (CW1.keep Swp).c0, (CW1.keep Swp).c1, (CW1.keep Swp).c2, (CX.keep Swp).c0, (CX.keep Swp).c1, (CX.keep Swp).c2⟩ (fun h1 => ?_); clear hK K; have J2 := l1Mul_q (qw 0 (by omega)) ((qx e he).sub (qw 1 (by omega))) (by omega) (CW0.keep Swp).R.read Rp.read; refine wpAnyH_ready (rs := [13]) (by kernel_rfl) (by simp) ?_; refine AllReadyH.cons rfl (fun K hK => ?_) AllReadyH.nil; go_simp
  go_wp2_with (go_at_call 111; with_reducible refine J2.mono ?_; rintro r wq ⟨wqu, rfl, Rq, swq⟩)
  have Rqq := Rq; obtain ⟨awq, nwq, cwq, bwq, mwq, dwq, -, -, -, -, -, -, ewq, -⟩ := Rqq; subst ewq; have Uwq := Uwp.trans (sM swq Uwp.size); have Swq := sA.trans (sM Uwq sA.size); refine hK.out _ _ ⟨(nA.keep Uwq).c5, (CW0.keep Swq).c0, (CW0.keep Swq).c1, (CW0.keep Swq).c2, (CW1.keep Swq).c0, (CW1.keep Swq).c1, (CW1.keep Swq).c2, (CX.keep Swq).c0, (CX.keep Swq).c1, (CX.keep Swq).c2⟩ (fun h1 => ?_); clear hK K; refine wpAnyH_ready (rs := [15]) (by kernel_rfl) (by simp) ?_; refine AllReadyH.cons rfl (fun K hK => ?_) AllReadyH.nil; have Bwq := (Bwn.keep swp).keep swq; have q0 := Bwq.c0; have q1 := Bwq.c1; have q2 := Bwq.c2; have qf0 := Bwq.f 0; have qf1 := Bwq.f 1; have qf2 := Bwq.f 2; go_simp; have M8 : xq0 wq _ fc := (((xq0.refl wq _).setCell 0 (.bool (qn (W 0 * (X e - W 1))))).setCell 1 (.slice awq nwq cwq)).setCell 2 (.slice bwq mwq dwq); have B8 := ((Bwq.set0 (.bool (qn (W 0 * (X e - W 1))))).set1 (.slice awq nwq cwq)).set2 (.slice bwq mwq dwq); have U8 := Uwq.trans (M8.since fl); have S8 := sA.trans (sM U8 sA.size); have R8 := (Rq.marked M8 (fun h => by have h' : wp.heap.size <= fc := h; have := Bwn.lt; have := swp.size; omega)).read; refine hK.out _ _ ⟨(nA.keep U8).c5, (CW0.keep S8).c0, (CW0.keep S8).c1, (CW0.keep S8).c2, (CW1.keep S8).c0, (CW1.keep S8).c1, (CW1.keep S8).c2, (CX.keep S8).c0, (CX.keep S8).c1, (CX.keep S8).c2⟩ (fun h1 => ?_); clear hK K h1 q0 q1 q2 qf0 qf1 qf2; refine wpAnyH_done (by kernel_rfl) ?_ _; generalize (((wq.setCell ⟨fc, 0, none⟩ (.bool (qn (W 0 * (X e - W 1))))).setCell ⟨fc, 1, none⟩ (.slice awq nwq cwq)).setCell ⟨fc, 2, none⟩ (.slice bwq mwq dwq)) = w8 at *
 all_goals
  have dr8 := sdr w8; have sd8 := S8.trans (sM dr8 S8.size); have z8 : wA.heap.size <= w8.heap.size := U8.size; have nf : w.heap.size + 1 ≠ fc := by omega
  have J3 := l1Inv_q (qw 2 (by omega)) (by omega) hz (CW2.keep sd8).R.read; have g5 := (nA.keep U8).c5; have gb0 := (B8.keep (World.Since.refl _ _)).c0; have gb1 := (B8.keep (World.Since.refl _ _)).c1; have gb2 := (B8.keep (World.Since.refl _ _)).c2; have gs0 := (CW2.keep S8).c0; have gs1 := (CW2.keep S8).c1; have gs2 := (CW2.keep S8).c2; have gt0 := (CW3.keep S8).c0; have gt1 := (CW3.keep S8).c1; have gt2 := (CW3.keep S8).c2; go_wp2
  go_region_held3 (fun w' => w'.cell? ⟨w.heap.size, 5, none⟩ = some (.slice (some ⟨bw, ow, none⟩) nv k1) /\ w'.cell? ⟨fc, 0, none⟩ = some (.bool (qn (W 0 * (X e - W 1)))) /\ w'.cell? ⟨fc, 1, none⟩ = some (.slice awq nwq cwq) /\ w'.cell? ⟨fc, 2, none⟩ = some (.slice bwq mwq dwq) /\ w'.cell? ⟨bw, ow + 6, none⟩ = some (.bool (qn (W 2))) /\ w'.cell? ⟨bw, ow + 6 + 1, none⟩ = some (.slice aw2 nw2 cw2) /\ w'.cell? ⟨bw, ow + 6 + 2, none⟩ = some (.slice bw2 mw2 dw2) /\ w'.cell? ⟨bw, ow + 9, none⟩ = some (.bool (qn (W 3))) /\ w'.cell? ⟨bw, ow + 9 + 1, none⟩ = some (.slice aw3 nw3 cw3) /\ w'.cell? ⟨bw, ow + 9 + 2, none⟩ = some (.slice bw3 mw3 dw3)) (go_keep)
   (first
     | (go_at_call 129
        with_reducible refine J3.mono ?_
        rintro r wx ⟨ux, rfl, Rx, sx⟩; have vx := dr8.trans (sM sx dr8.size); have Ux := U8.trans (sM vx U8.size); have Sx := S8.trans (sM vx S8.size); have J4 := l1Mul_q ((qw 0 (by omega)).mul ((qx e he).sub (qw 1 (by omega)))) (Qb.inv (qw 2 (by omega)) hz) (by omega) (R8.keep vx) Rx.read; have h5 := (nA.keep Ux).c5; have hb0 := (B8.keep vx).c0; have hb1 := (B8.keep vx).c1; have hb2 := (B8.keep vx).c2; have hs0 := (CW2.keep Sx).c0; have hs1 := (CW2.keep Sx).c1; have hs2 := (CW2.keep Sx).c2; have ht0 := (CW3.keep Sx).c0; have ht1 := (CW3.keep Sx).c1; have ht2 := (CW3.keep Sx).c2)
     | (go_at_call 111
        with_reducible refine J4.mono ?_
        rintro r wy ⟨uy, rfl, Ry, sy⟩; have vy := vx.trans (sM sy vx.size); have Uy := U8.trans (sM vy U8.size); have Sy := S8.trans (sM vy S8.size); have J5 := l1Add_rp (((qw 0 (by omega)).mul ((qx e he).sub (qw 1 (by omega)))).mul (Qb.inv (qw 2 (by omega)) hz)) (qw 3 (by omega)) (by omega) Ry.read (CW3.keep Sy).R.read; have i5 := (nA.keep Uy).c5; have ib0 := (B8.keep vy).c0; have ib1 := (B8.keep vy).c1; have ib2 := (B8.keep vy).c2; have is0 := (CW2.keep Sy).c0; have is1 := (CW2.keep Sy).c1; have is2 := (CW2.keep Sy).c2; have it0 := (CW3.keep Sy).c0; have it1 := (CW3.keep Sy).c1; have it2 := (CW3.keep Sy).c2)
     | (go_at_call 110
        with_reducible refine J5.mono ?_
        rintro r w5 ⟨u5', rfl, R5, s5⟩; have R6 := R5; obtain ⟨a7, n7, c7, b7, m7, d7, -, -, -, -, -, -, e7, -⟩ := R6; subst e7; have v5 := vy.trans (sM s5 vy.size); have u5 := U8.trans (sM v5 U8.size); have S5 := sA.trans (sM u5 sA.size); have r5 := rA.keep u5; have r0 := r5.c0; have r1 := r5.c1; have r2 := r5.c2; have f0 := r5.f 0; have f1 := r5.f 1; have f2 := r5.f 2; have j5 := (nA.keep u5).c5; have jb0 := (B8.keep v5).c0; have jb1 := (B8.keep v5).c1; have jb2 := (B8.keep v5).c2; have js0 := (CW2.keep S5).c0; have js1 := (CW2.keep S5).c1; have js2 := (CW2.keep S5).c2; have jt0 := (CW3.keep S5).c0; have jt1 := (CW3.keep S5).c1; have jt2 := (CW3.keep S5).c2 ))
  go_wp2; have rC := ((r5.set0 (.bool (qn (W 0 * (X e - W 1) * (W 2)⁻¹ + W 3)))).set1 (.slice a7 n7 c7)).set2 (.slice b7 m7 d7); refine bodyPost_ret (rb3 rfl _ _ _ _ _ _ rfl rC) rfl ?_; have M : xq0 w5 _ (w.heap.size + 1) := (((xq0.refl w5 _).setCell 0 (.bool (qn (W 0 * (X e - W 1) * (W 2)⁻¹ + W 3)))).setCell 1 (.slice a7 n7 c7)).setCell 2 (.slice b7 m7 d7); exact ⟨_, rfl, (((R5.imp (p' := fun g => w.heap.size + 2 <= g) (fun g _ h => by have h' : wy.heap.size <= g := h; have := Uy.size; omega)).marked M (by omega)).imp (fun g _ h => by omega)), S5.trans (M.since (by omega))⟩
theorem l2Element_q (d : xq1) (n m e : Nat) (h : yv5 d n m) (hem : e < m) (hn : n <= 1000) (hnv : d.nv <= 1002000) (aV : Option Addr) (bV oV k1 : Nat) (ax az : Option Addr) (bx ox cx lz cz bz oz : Nat) (X Z : Nat -> Rat) (w : World)
 (HV : xj5 w (fun _ => True) aV bV oV d.nv d.w) (qw : ∀ i, i < d.nv -> Qb (d.w i) 1048640) (HX : xj5 w (fun _ => True) ax bx ox n X) (qx : ∀ i, i < n -> Qb (X i) 1048640) (HZ : d.op = 4 -> xj5 w (fun _ => True) az bz oz lz Z /\ m <= lz /\ ∀ i, i < lz -> Qb (Z i) 1048640)
 (q1 : d.op = 1 -> ∀ k, k <= n -> Qb (psum 0 (fun t => d.w (e * (n + 1) + t)) X k) 1048640) (q6 : d.op = 6 -> ∀ k, k <= d.k.toNat -> Qb (psum 0 d.w (fun t => X (e * d.s.toNat + t)) k) 1048640) :
 Calls Tryz.prog 97 #[.agg #[.int .i64 d.op, .int .i64 d.a, .int .i64 d.b, .int .i64 d.k, .int .i64 d.s, .slice aV d.nv k1], .slice ax n cx, .slice az lz cz, .int .i64 (e : Int)] w fun r w' => ∃ u, r = .returned u /\ xz4 w' (fun g => w.heap.size <= g) u (vecN d X Z n e) /\ w.Since w.heap.size w' := by
 have o1 := h.f.o1; have o7 := h.f.o7; have hop : d.op = 1 ∨ d.op = 2 ∨ d.op = 3 ∨ d.op = 4 ∨ d.op = 5 ∨ d.op = 6 ∨ d.op = 7 := by omega
 rcases hop with ho | ho | ho | ho | ho | ho | ho
 . obtain ⟨c1, c2⟩ := h.c1 ho
   have hE : e * (n + 1) + n < d.nv := by
    rw [c1]; have : (e + 1) * (n + 1) <= d.k.toNat * (n + 1) := Nat.mul_le_mul_right _ (by omega); rw [Nat.add_mul, Nat.one_mul] at this; omega
   have ea := (HV 0 (by omega)).1; subst ea; rw [show vecN d X Z n e = psum (d.w (e * (n + 1) + n)) (fun t => d.w (e * (n + 1) + t)) X n by unfold vecN; rw [if_pos ho], ho]; exact el1 d.a d.b d.k d.s bV oV d.nv k1 ax az bx ox n cx lz cz e X w HX qx d.w HV qw hn hnv (e * (n + 1) + n) (e * (n + 1)) rfl rfl hE (q1 ho)
 . have c := h.c2 ho
   rw [show vecN d X Z n e = qrelu (X e) by unfold vecN; rw [if_neg (by omega), if_pos ho], ho]; exact el2 d.a d.b d.k d.s aV d.nv k1 ax az bx ox n cx lz cz e X w HX qx (by omega)
 . have c := h.c3 ho
   have v := h.f.v3 ho; have ea := (HV 0 (by omega)).1; subst ea; rw [show vecN d X Z n e = if qn (X e) = true then d.w 0 * X e else X e by unfold vecN; rw [if_neg (by omega), if_neg (by omega), if_pos ho], ho]; cases hq : qn (X e)
   . rw [if_neg (by simp)]
     exact el3p d.a d.b d.k d.s bV oV d.nv k1 ax az bx ox n cx lz cz e X w HX qx d.w HV (by omega) (by omega) hq
   . rw [if_pos rfl]
     exact el3n d.a d.b d.k d.s bV oV d.nv k1 ax az bx ox n cx lz cz e X w HX qx d.w HV qw (by omega) (by omega) hq
 . have c := h.c4 ho
   obtain ⟨z1, z2, z3⟩ := HZ ho; rw [show vecN d X Z n e = X e + Z e by unfold vecN; rw [if_neg (by omega), if_neg (by omega), if_neg (by omega), if_pos ho], ho]; exact el4 d.a d.b d.k d.s aV d.nv k1 ax az bx ox n cx lz cz e X w HX qx bz oz Z z1 z3 (by omega) (by omega)
 . obtain ⟨c1, c2⟩ := h.c5 ho
   have hk : d.k = (d.k.toNat : Int) := by omega
   rw [show vecN d X Z n e = xx1 X (e * d.k.toNat) (d.k.toNat - 1) by unfold vecN; rw [if_neg (by omega), if_neg (by omega), if_neg (by omega), if_neg (by omega), if_pos ho], ho]; generalize d.k.toNat = kk at *; rw [hk]
   have hF : e * kk + kk <= n := by
    have : (e + 1) * kk <= m * kk := Nat.mul_le_mul_right _ (by omega); rw [Nat.add_mul, Nat.one_mul] at this; omega
   exact el5 d.a d.b d.s kk aV d.nv k1 ax az bx ox n cx lz cz e X w HX qx (e * kk) rfl c1 hF hn
 . obtain ⟨c1, c2⟩ := h.c6 ho
   have k0 := h.f.k; have s0 := h.f.s; rw [show usesK d.op = true by rw [ho]; rfl] at k0; rw [show usesS d.op = true by rw [ho]; rfl] at s0; have hk : d.k = (d.k.toNat : Int) := by unfold SzOk at k0; simp at k0; omega
   have hs : d.s = (d.s.toNat : Int) := by unfold SzOk at s0; simp at s0; omega
   have hF := c2 e hem; have ea := (HV 0 (by omega)).1; subst ea; rw [show vecN d X Z n e = psum (d.w d.k.toNat) d.w (fun t => X (e * d.s.toNat + t)) d.k.toNat by unfold vecN; rw [if_neg (by omega), if_neg (by omega), if_neg (by omega), if_neg (by omega), if_neg (by omega), if_pos ho], ho]; have q6' := q6 ho; generalize d.k.toNat = kk at *; generalize d.s.toNat = ss at *; rw [hk, hs]; exact el6 d.a d.b kk ss bV oV d.nv k1 ax az bx ox n cx lz cz e X w HX qx d.w HV qw hn hnv (e * ss) rfl (by omega) hF q6'
 . obtain ⟨c1, c2⟩ := h.c7 ho
   have v := h.f.v7 ho; have ea := (HV 0 (by omega)).1; subst ea
   rw [show vecN d X Z n e = d.w 0 * (X e - d.w 1) * (d.w 2)⁻¹ + d.w 3 by
    unfold vecN; rw [if_neg (by omega), if_neg (by omega), if_neg (by omega), if_neg (by omega), if_neg (by omega), if_neg (by omega), Rat.mul_assoc, Rat.mul_comm (d.w 2)⁻¹, <- Rat.mul_assoc], ho]
   exact el7 d.a d.b d.k d.s bV oV d.nv k1 ax az bx ox n cx lz cz e X w HX qx d.w HV qw (by omega) (by omega) c2
theorem greatestOf_p (p : Nat -> Prop) (bx ox n cx : Nat) (x : Nat -> Rat) (w : World) (h1 : 1 <= n) (hn : n <= 1048576) (HX : xj5 w p (some ⟨bx, ox, none⟩) bx ox n x) (hq : ∀ e, e < n -> Qb (x e) 1048640) (hcx : n <= cx) :
 Calls Tryz.prog 206 #[.slice (some ⟨bx, ox, none⟩) n cx] w fun e w' => ∃ u, e = .returned u /\ xz4 w' p u (xx1 x 0 (n - 1)) /\ w.Since w.heap.size w' := by
 obtain ⟨-, x0, y0, C0⟩ := HX 0 (by omega); obtain ⟨aa, na, ca, ba, ma, da, -, -, -, -, -, -, ea, -⟩ := C0.R; simp only [Value.agg.injEq, Array.mk.injEq, List.cons.injEq, and_true, true_and] at ea; obtain ⟨rfl, rfl⟩ := ea; rw [Nat.zero_mul, Nat.add_zero] at C0; obtain ⟨wA, eA⟩ : ∃ wA : World, wA = (w.alloc (.cells #[.bool false, .slice none 0 0, .slice none 0 0] 70)).alloc (.cells #[.bool (qn (x 0)), .slice aa na ca, .slice ba ma da] 70) := ⟨_, rfl⟩; have sA : w.Since w.heap.size wA := by rw [eA]; exact ((World.Since.refl _ _).alloc (Nat.le_refl _) _).alloc (by simp) _
 have zA : wA.heap.size = w.heap.size + 1 + 1 := by rw [eA]; simp
 have rA : Box3 wA w.heap.size (.bool false) (.slice none 0 0) (.slice none 0 0) := by rw [eA]; exact (Box3.new w _ _ _ _).keep ((World.Since.refl _ _).alloc (Nat.le_refl _) _)
 have oA : Box3 wA (w.heap.size + 1) (.bool (qn (x 0))) (.slice aa na ca) (.slice ba ma da) := by
  rw [eA]; have := Box3.new (w.alloc (.cells #[.bool false, .slice none 0 0, .slice none 0 0] 70)) (.bool (qn (x 0))) (.slice aa na ca) (.slice ba ma da) 70
  simpa using this
 have sB := sal w (.cells #[.bool false, .slice none 0 0, .slice none 0 0] 70); have g0 := (C0.keep sB).c0; have g1 := (C0.keep sB).c1; have g2 := (C0.keep sB).c2; have hz : (0 : Int) < (n : Int) := by omega
 have hz1 : (1 : Int) <= (n : Int) := by omega
 have hz2 : (n : Int) <= (cx : Int) := by omega
 have en : ((n : Int) - 1).toNat = n - 1 := by omega
 have ec : ((cx : Int) - 1).toNat = cx - 1 := by omega
 have EA := hide eA; clear eA
 by_cases hc1 : cx = 1
 . have hn1 : n = 1 := by omega
   subst hc1 hn1; go_enter Tryz.func206, Tryz.ntmps206; go_wp2_with fail; rw [<- EA.out]; clear EA g0 g1 g2
   go_loopw [12] (fun u wr => u = .int .i64 ((0 : Nat) : Int) /\ wr = wA) (fun _ _ => 0)
   case atStart => exact ⟨rfl, rfl⟩
   case round =>
    obtain ⟨rfl, ew⟩ := hrel; have ew2 := ew.symm; clear ew; subst ew2; have q0 := oA.c0; have q1 := oA.c1; have q2 := oA.c2; have p0 := rA.c0; have p1 := rA.c1; have p2 := rA.c2; have pf0 := rA.f 0; have pf1 := rA.f 1; have pf2 := rA.f 2; go_wp2; have r2 := ((rA.set0 (.bool (qn (x 0)))).set1 (.slice aa na ca)).set2 (.slice ba ma da); refine bodyPost_ret (rb3 rfl _ _ _ _ _ _ rfl r2) rfl ?_; have M : xq0 wA _ w.heap.size := (((xq0.refl wA _).setCell 0 (.bool (qn (x 0)))).setCell 1 (.slice aa na ca)).setCell 2 (.slice ba ma da); refine ⟨_, rfl, ?_, sA.trans (M.since (Nat.le_refl _))⟩; exact ((((C0.R.imp (p' := fun g => g < w.heap.size /\ p g) (fun g hg hp => ⟨hg, hp⟩)).keep sA).marked M (fun h => Nat.lt_irrefl _ h.1)).imp (fun g _ hg => hg.2))
 go_enter Tryz.func206, Tryz.ntmps206; go_wp2_with fail; rw [<- EA.out]; clear EA g0 g1 g2
 go_loopw [12] (fun u wr => ∃ k : Nat, k <= n - 1 /\ u = .int .i64 k /\ w.Since w.heap.size wr /\ w.heap.size + 1 + 1 <= wr.heap.size /\ Box3 wr w.heap.size (.bool false) (.slice none 0 0) (.slice none 0 0) /\ ∃ a1 n1 c1 a2 n2 c2, Box3 wr (w.heap.size + 1) (.bool (qn (xx1 x 0 k))) (.slice a1 n1 c1) (.slice a2 n2 c2) /\ xz4 wr (fun g => g < w.heap.size /\ p g) (.agg #[.bool (qn (xx1 x 0 k)), .slice a1 n1 c1, .slice a2 n2 c2]) (xx1 x 0 k)) (fun u _ => n - 1 - (intOf u).toNat)
 case atStart => exact ⟨0, Nat.zero_le _, rfl, sA, by omega, rA, aa, na, ca, ba, ma, da, oA, (C0.R.imp (p' := fun g => g < w.heap.size /\ p g) (fun g hg hp => ⟨hg, hp⟩)).keep sA⟩
 case round =>
  obtain ⟨k, hk, rfl, s, hsz, r, a1, n1, c1, a2, n2, c2, o, T⟩ := hrel
  by_cases hlt : k < n - 1
  . obtain ⟨-, xk, yk, Ck⟩ := HX (k + 1) (by omega)
    obtain ⟨ab, nb, cb, bb, mb, db, -, -, -, -, -, -, eb, -⟩ := Ck.R; simp only [Value.agg.injEq, Array.mk.injEq, List.cons.injEq, and_true, true_and] at eb; obtain ⟨rfl, rfl⟩ := eb; have eo : ox + (k + 1) * 3 = ox + 3 + k * 3 := by omega
    have M := Ck.keep s; have g0 := M.c0; have g1 := M.c1; have g2 := M.c2; rw [eo] at g0 g1 g2; have hz3 : (k : Int) < ((n - 1 : Nat) : Int) := by omega
    have sC := sal wr (.cells #[.bool (qn (x (k + 1))), .slice ab nb cb, .slice bb mb db] 70); have bC := Box3.new wr (.bool (qn (x (k + 1)))) (.slice ab nb cb) (.slice bb mb db) 70; have oC := o.keep sC; have q0 := oC.c0; have q1 := oC.c1; have q2 := oC.c2; have HS : Hid (xx1 x 0 (k + 1) = if xx1 x 0 k < x (k + 1) then x (k + 1) else xx1 x 0 k) := hide (by show (if xx1 x 0 k < x (0 + (k + 1)) then x (0 + (k + 1)) else xx1 x 0 k) = _; rw [Nat.zero_add])
    have qk : Qb (xx1 x 0 k) 1048640 := by
     obtain ⟨s', h1', h2'⟩ := qmaxw_mem x 0 k; rw [h2']; exact hq _ (by omega)
    obtain ⟨c, hc⟩ : ∃ c, qcmp (x (k + 1)) (xx1 x 0 k) = c := ⟨_, rfl⟩; have S3 := s.trans (sM sC s.size); have J := orderOf_q (hq (k + 1) (by omega)) qk (by omega) (Ck.keep S3).R.read (T.keep sC).read; rw [hc] at J; have HC := hide hc; clear hc; go_wp2_with fail; generalize wr.alloc (.cells #[.bool (qn (x (k + 1))), .slice ab nb cb, .slice bb mb db] 70) = wC at *; refine J.mono ?_; rintro e w2 ⟨rfl, s2⟩; have u2 := sC.trans (sM s2 sC.size); have S2 := s.trans (sM u2 s.size); have o2 := o.keep u2; have r2 := r.keep u2; have z2 := u2.size; clear g0 g1 g2 q0 q1 q2 J
    by_cases hb : xx1 x 0 k < x (k + 1)
    . have hc0 : 0 < c := by rw [<- HC.out]; unfold qcmp; rw [if_neg (Rat.not_lt.2 (Rat.le_of_lt hb)), if_pos hb]; decide
      have HE := hide (show xx1 x 0 (k + 1) = x (k + 1) by rw [HS.out, if_pos hb]); clear hb; have b2 := bC.keep s2; have q0 := b2.c0; have q1 := b2.c1; have q2 := b2.c2; have p0 := o2.c0; have p1 := o2.c1; have p2 := o2.c2; have pf0 := o2.f 0; have pf1 := o2.f 1; have pf2 := o2.f 2; go_wp2; go_roundw
      case rel =>
       go_light; have o3 := ((o2.set0 (.bool (qn (x (k + 1))))).set1 (.slice ab nb cb)).set2 (.slice bb mb db); have M : xq0 w2 _ (w.heap.size + 1) := (((xq0.refl w2 _).setCell 0 (.bool (qn (x (k + 1))))).setCell 1 (.slice ab nb cb)).setCell 2 (.slice bb mb db); refine ⟨k + 1, by omega, by go_num, S2.trans (M.since (by omega)), by rw [M.size]; omega, r2.marked M (by omega), ab, nb, cb, bb, mb, db, ?_, ?_⟩
       . rw [HE.out]; exact o3
       . rw [HE.out]; exact (((Ck.R.imp (p' := fun g => g < w.heap.size /\ p g) (fun g hg hp => ⟨hg, hp⟩)).keep S2).marked M (fun h => by have h' : w.heap.size + 1 < w.heap.size := h.1; omega))
      case measure => simp [intOf]; omega
    . have hc0 : ¬ 0 < c := by
       rw [<- HC.out]; unfold qcmp
       by_cases h : x (k + 1) < xx1 x 0 k
       . rw [if_pos h]; decide
       . rw [if_neg h, if_neg hb]; decide
      have HE := hide (show xx1 x 0 (k + 1) = xx1 x 0 k by rw [HS.out, if_neg hb]); clear hb; go_wp2; go_roundw
      case rel =>
       refine ⟨k + 1, by omega, by go_num, S2, by omega, r2, a1, n1, c1, a2, n2, c2, ?_, ?_⟩
       . rw [HE.out]; exact o2
       . rw [HE.out]; exact T.keep u2
      case measure => simp [intOf]; omega
  . have HE := hide (show n - 1 = k by omega)
    have q0 := o.c0; have q1 := o.c1; have q2 := o.c2; have p0 := r.c0; have p1 := r.c1; have p2 := r.c2; have pf0 := r.f 0; have pf1 := r.f 1; have pf2 := r.f 2; have nz : ¬ (k : Int) < ((n - 1 : Nat) : Int) := by omega
    go_wp2; have r2 := ((r.set0 (.bool (qn (xx1 x 0 k)))).set1 (.slice a1 n1 c1)).set2 (.slice a2 n2 c2); refine bodyPost_ret (rb3 rfl _ _ _ _ _ _ rfl r2) rfl ?_; have M : xq0 wr _ w.heap.size := (((xq0.refl wr _).setCell 0 (.bool (qn (xx1 x 0 k)))).setCell 1 (.slice a1 n1 c1)).setCell 2 (.slice a2 n2 c2); refine ⟨_, rfl, ?_, s.trans (M.since (Nat.le_refl _))⟩; rw [HE.out]; exact (T.marked M (fun h => Nat.lt_irrefl _ h.1)).imp (fun g _ hg => hg.2)
theorem qmaxw_shift (x : Nat -> Rat) (F t : Nat) : xx1 (fun s => x (F + s)) 0 t = xx1 x F t := by
 induction t with
 | zero => rfl
 | succ t ih =>
   show (if xx1 (fun s => x (F + s)) 0 t < x (F + (0 + (t + 1))) then x (F + (0 + (t + 1))) else xx1 (fun s => x (F + s)) 0 t) = (if xx1 x F t < x (F + (t + 1)) then x (F + (t + 1)) else xx1 x F t)
   rw [ih, Nat.zero_add]
theorem greatestOf_q' (p : Nat -> Prop) (bx ox n cx : Nat) (x : Nat -> Rat) (w0 w : World) (h1 : 1 <= n) (hn : n <= 1048576) (p0 : Nat -> Prop) (hp : ∀ g, g < w0.heap.size -> p0 g -> p g) (HX : xj5 w0 p0 (some ⟨bx, ox, none⟩) bx ox n x) (s : w0.Since w0.heap.size w) (hq : ∀ e, e < n -> Qb (x e) 1048640) (hcx : n <= cx) :
 Calls Tryz.prog 206 #[.slice (some ⟨bx, ox, none⟩) n cx] w fun e w' => ∃ u, e = .returned u /\ xz4 w' p u (xx1 x 0 (n - 1)) /\ w.Since w.heap.size w' :=
 greatestOf_p p bx ox n cx x w h1 hn ((HX.imp (p' := p) (fun g hg hx => hp g hg hx)).keep s) hq hcx
theorem maxPoolVector (v0 v2 v4 : Int) (j m l kk : Nat) (a1 : Option Addr) (nv k1 : Nat) (aV : Option Addr) (bV oV n cV : Nat) (D : Nat -> Nat) (V : Nat -> Nat -> Rat) (w : World) (p : Nat -> Prop) (_hp : ∀ g, w.heap.size <= g -> p g) (HV : Vecs w p aV bV oV n D V) (hj : j < n) (ej : D j = l) (hm2 : m <= 1000) (hl : l <= 1000) (hkk : 1 <= kk) (hml : l = m * kk)
 (qj : ∀ e, e < l -> Qb (V j e) 1048640) :
 Calls Tryz.prog 205 #[.agg #[.int .i64 v0, .int .i64 (j : Int), .int .i64 v2, .int .i64 (kk : Int), .int .i64 v4, .slice a1 nv k1], .slice aV n cV] w fun e w' => ∃ c, e = .returned (.slice (some ⟨c, 0, none⟩) m m) /\ w.heap.size <= c /\ xj5 w' (fun g => g ≠ c /\ p g) (some ⟨c, 0, none⟩) c 0 m (fun r => xx1 (V j) (r * kk) (kk - 1)) /\ w.Since w.heap.size w' := by
 have hmk := xz8 (P := Tryz.prog) 28 70 _ 3 56 Tryz.underlying28 yq0 .i64 .i64 m (by omega) (by omega); have sA := sal w (.cells #[.int .i64 v0, .int .i64 (j : Int), .int .i64 v2, .int .i64 (kk : Int), .int .i64 v4, .slice a1 nv k1] 138); have zA : (w.alloc (.cells #[.int .i64 v0, .int .i64 (j : Int), .int .i64 v2, .int .i64 (kk : Int), .int .i64 v4, .slice a1 nv k1] 138)).heap.size = w.heap.size + 1 := by simp
 have bA := Box6.new w (.int .i64 v0) (.int .i64 (j : Int)) (.int .i64 v2) (.int .i64 (kk : Int)) (.int .i64 v4) (.slice a1 nv k1) 138; obtain ⟨eV, aj, bj, oj, cj, gj0, hcj, QJ⟩ := HV j hj; subst eV; rw [ej] at gj0 hcj QJ; have gj := (sA.cell (a := ⟨bV, oV + j, none⟩) (World.block_lt_of_cell? _ _ gj0)).trans gj0; have hz1 : (j : Int) < (n : Int) := by omega
 have sB : (w.alloc (.cells #[.int .i64 v0, .int .i64 (j : Int), .int .i64 v2, .int .i64 (kk : Int), .int .i64 v4, .slice a1 nv k1] 138)).Since (w.alloc (.cells #[.int .i64 v0, .int .i64 (j : Int), .int .i64 v2, .int .i64 (kk : Int), .int .i64 v4, .slice a1 nv k1] 138)).heap.size ((w.alloc (.cells #[.int .i64 v0, .int .i64 (j : Int), .int .i64 v2, .int .i64 (kk : Int), .int .i64 v4, .slice a1 nv k1] 138)).alloc (.cells (madeCells #[.bool false, .slice none 0 0, .slice none 0 0] (m * 3)) 70)) := (World.Since.refl _ _).alloc (Nat.le_refl _) _; have rB := Room.new (w.alloc (.cells #[.int .i64 v0, .int .i64 (j : Int), .int .i64 v2, .int .i64 (kk : Int), .int .i64 v4, .slice a1 nv k1] 138)) #[.bool false, .slice none 0 0, .slice none 0 0] (m * 3) 70; rw [zA] at rB; have BB := bA.keep sB; have SB := sA.trans (sM sB sA.size)
 have p2 : (l : Int).tdiv (kk : Int) = (m : Int) := by
  rw [Int.tdiv_eq_ediv_of_nonneg (by omega), hml, Int.natCast_mul]; exact Int.mul_ediv_cancel _ (by omega)
 have q0 : ¬ (kk : Int) = 0 := by omega
 have HML := hide hml; clear hml; go_enter Tryz.func205, Tryz.ntmps205; go_wp2_with fail; generalize (w.alloc (.cells #[.int .i64 v0, .int .i64 (j : Int), .int .i64 v2, .int .i64 (kk : Int), .int .i64 v4, .slice a1 nv k1] 138)).alloc (.cells (madeCells #[.bool false, .slice none 0 0, .slice none 0 0] (m * 3)) 70) = wB at *; clear sB gj bA
 go_loopw [23] (fun u wr => ∃ k : Nat, k <= m /\ u = .int .i64 k /\ w.Since w.heap.size wr /\ Box6 wr w.heap.size (.int .i64 v0) (.int .i64 (j : Int)) (.int .i64 v2) (.int .i64 (kk : Int)) (.int .i64 v4) (.slice a1 nv k1) /\ Room wr (w.heap.size + 1) (m * 3) /\ xj5 wr (fun g => g ≠ w.heap.size + 1 /\ p g) (some ⟨w.heap.size + 1, 0, none⟩) (w.heap.size + 1) 0 k (fun r => xx1 (V j) (r * kk) (kk - 1))) (fun u _ => m - (intOf u).toNat)
 case atStart => exact ⟨0, Nat.zero_le _, rfl, SB, BB, rB, fun i hi => absurd hi (by omega)⟩
 case round =>
  obtain ⟨k, hk, rfl, s, B, r, T⟩ := hrel
  by_cases hlt : k < m
  . obtain ⟨F, hF⟩ : ∃ F, F = k * kk := ⟨_, rfl⟩
    have hFl : F + kk <= l := by
     rw [hF, HML.out, <- Nat.succ_mul]; exact Nat.mul_le_mul_right _ hlt
    have eF : (k : Int) * (kk : Int) = (F : Int) := by rw [hF, Int.natCast_mul]
    have HF := hide hF; clear hF; have qF : IntKind.i64.wrap ((k : Int) * (kk : Int)) = (F : Int) := by rw [eF]; exact xw9 (by omega) (by omega)
    clear eF; obtain ⟨ea0, -⟩ := QJ 0 (by omega); subst ea0; have hz : (k : Int) < (m : Int) := by omega
    have p3 := B.c3; have rl := r.lt; have f1 : (F : Int) <= (l : Int) := by omega
    have f2 : (F : Int) <= (cj : Int) := by omega
    have f3 : (l : Int) <= (cj : Int) := by omega
    have f4 : ¬ (cj : Int) - (F : Int) = 0 := by omega
    have f5 : (kk : Int) <= ((cj - F : Nat) : Int) := by omega
    have fb : ¬ cj = F := by omega
    have fa : (0 : Int) <= (F : Int) := by omega
    have f7 : ¬ cj - F = 0 := by omega
    have dr := sdr wr; have sd := s.trans (sM dr s.size); have ne2 : w.heap.size + 1 ≠ w.heap.size := by omega
    have ql := QJ.part (F := F) (k := kk) (by omega); have J1 := greatestOf_q' (fun g => g ≠ w.heap.size + 1 /\ p g) bj (oj + F * 3) kk (cj - F) (fun t => V j (F + t)) w wr.drew hkk (by omega) p (fun g hg hx => ⟨by omega, hx⟩) ql sd (fun t ht => qj _ (by omega)) (by omega); go_wp2_with fail
    go_region_held3 (fun w' => w'.cell? ⟨w.heap.size, 3, none⟩ = some (.int .i64 (kk : Int))) (go_keep)
     (first
       | (go_at_call 206
          with_reducible refine J1.mono ?_
          rintro e w5 ⟨u5, rfl, R5, s5⟩; have R6 := R5; obtain ⟨a6, n6, c6, b6, m6, d6, -, -, -, -, -, -, e6, -⟩ := R6; subst e6; have u5 := dr.trans (sM s5 dr.size); have S5 := s.trans (sM u5 s.size); have r5 := r.keep u5; have B5 := B.keep u5; have i3 := B5.c3; obtain ⟨v0', y0'⟩ := r5.cell (k * 3) (by omega); obtain ⟨v1', y1'⟩ := r5.cell (k * 3 + 1) (by omega); obtain ⟨v2', y2'⟩ := r5.cell (k * 3 + 2) (by omega); have h0 := r5.f (k * 3); have h1 := r5.f (k * 3 + 1); have h2 := r5.f (k * 3 + 2)))
    all_goals go_wp2
    all_goals go_roundw
    case rel =>
     go_light; obtain ⟨w7, e7, M7, R7, x0, x1, x2, xo⟩ := put3 (q := k * 3) r5 (by omega) (.bool (qn (xx1 (fun t => V j (F + t)) 0 (kk - 1)))) (.slice a6 n6 c6) (.slice b6 m6 d6); rw [<- e7]; rw [qmaxw_shift, HF.out] at R5 x0; exact ⟨k + 1, by omega, by go_num, S5.trans (M7.since (by omega)), (B.keep u5).marked M7 (by omega), R7, (T.keep u5).putP M7 (fun o ho => xo o (by omega)) R5 x0 x1 x2⟩
    case measure => simp [intOf]; omega
  . have e : k = m := by omega
    subst e; go_wp2; go_ret; exact ⟨w.heap.size + 1, rfl, by omega, T, s⟩
structure VecP (u : Value) (T F : Nat) (p : Nat -> Prop) (aV : Option Addr) (n cV m : Nat) (Q : Nat -> Rat) (w : World) : Prop where
 op : ∀ (w : World) (mk : Nat), xk6 w mk -> Calls Tryz.prog 60 #[.map (some mk), u] w fun e w' => e = .returned (.tuple #[.iface T u, .bool true]) /\ w.Since w.heap.size w'
 me : ∀ w : World, (method 324 T u "loop.example/s0015/impl.vector").run Tryz.prog w = .ok (F, u) w
 en : ∀ (args : Array Value) (w : World), (callFunc F args).run Tryz.prog w = .ok (.enter F args) w
 go : ∀ w1 : World, w.Since w.heap.size w1 -> Calls Tryz.prog F #[u, .slice aV n cV] w1 fun e w' => ∃ c, e = .returned (.slice (some ⟨c, 0, none⟩) m m) /\ w1.heap.size <= c /\ xj5 w' (fun g => g ≠ c /\ p g) (some ⟨c, 0, none⟩) c 0 m Q /\ w1.Since w1.heap.size w'
theorem vecP (g : xq8) (X : Nat -> RatD) (k : Nat) (SP : StepP g X k) (ja jb : Nat) (hja : (g.N k).a = ja) (hjb : (g.N k).b = jb) (aW : Option Addr) (bW oW k1 : Nat) (hk1 : (g.N k).nv <= k1) (aV : Option Addr) (bV oV n cV : Nat) (w : World) (hT : Tab w) (hn : n = k + 1) (p : Nat -> Prop) (hp : ∀ g, w.heap.size <= g -> p g)
 (HW : xj5 w p aW bW oW (g.N k).nv (g.N k).w) (HV : Vecs w p aV bV oV n (vD g) (vV g X)) :
 ∃ T F, VecP (.agg #[.int .i64 (g.N k).op, .int .i64 (ja : Int), .int .i64 (jb : Int), .int .i64 (g.N k).k, .int .i64 (g.N k).s, .slice aW (g.N k).nv k1]) T F p aV n cV (vD g (k + 1)) (vV g X (k + 1)) w := by
 have ea : (g.N k).a.toNat = ja := by rw [hja]; rfl
 have eb : (g.N k).b.toNat = jb := by rw [hjb]; rfl
 have sh := SP.sh; have new := SP.new; have p1 := SP.p1; have p6 := SP.p6; have m6 := SP.m6; have b4 := SP.b4; have la := SP.ai; have lb := SP.bi; have nv := SP.nv; have qw := SP.qw; rw [ea] at sh new p1 p6 m6 la; rw [eb] at new b4 lb; have qa := SP.qx ja la; have qb := SP.qx jb lb; have da := SP.d ja (by omega); have dm := SP.d (k + 1) (Nat.le_refl _); have o1 := sh.f.o1; have o7 := sh.f.o7; have fk := sh.f.k; have fs := sh.f.s; rw [new]; generalize vD g (k + 1) = m at *; generalize g.N k = d at *; obtain ⟨op, da', db', dk, ds, dnv, dV⟩ := d
 dsimp only at *
 have hop : op = 1 ∨ op = 2 ∨ op = 3 ∨ op = 4 ∨ op = 5 ∨ op = 6 ∨ op = 7 := by omega
 rcases hop with ho | ho | ho | ho | ho | ho | ho
 . subst ho
   obtain ⟨c1, c2⟩ := sh.c1 rfl; have c1 : dnv = dk.toNat * (vD g ja + 1) := c1; have c2 : m = dk.toNat := c2; have fk : 1 <= dk /\ dk <= 1000 := fk; have hk : dk = (dk.toNat : Int) := by omega
   have hpos : 0 < dnv := by rw [c1]; exact Nat.mul_pos (by omega) (by omega)
   have eW := (HW 0 hpos).1; subst eW; have p1 := p1 rfl; generalize dk.toNat = kk at *; subst hk c2; refine ⟨133, 193, fun w mk K => operatorOf1 mk _ _ _ _ _ _ _ w K, fun _ => by kernel_rfl, fun _ _ => by kernel_rfl, fun w1 s => ?_⟩; refine (denseVector 1 (jb : Int) ds ja m (vD g ja) bW oW dnv k1 _ aV bV oV n cV (vD g) (vV g X) w1 p (fun g hg => hp g (Nat.le_trans s.size hg)) (Nat.zero_le _) (hT.stay (Nat.zero_le _) s) (HW.keep s) hk1 (HV.keep s) (by omega) rfl dm.2 da.2 c1 qw qa p1).mono ?_; exact fun _ _ h => h
 . subst ho
   have c2 : m = vD g ja := sh.c2 rfl; refine ⟨135, 196, fun w mk K => operatorOf2 mk _ _ _ _ _ _ _ w K, fun _ => by kernel_rfl, fun _ _ => by kernel_rfl, fun w1 s => ?_⟩; refine (reluVector 2 (jb : Int) dk ds ja aW dnv k1 aV bV oV n cV m (vD g) (vV g X) w1 p (fun g hg => hp g (Nat.le_trans s.size hg)) (HV.keep s) (by omega) c2.symm (by omega)).mono ?_; exact fun _ _ h => h
 . subst ho
   have c2 : m = vD g ja := sh.c3 rfl; have v3 : dnv = 1 := sh.f.v3 rfl; subst v3; refine ⟨136, 199, fun w mk K => operatorOf3 mk _ _ _ _ _ _ _ w K, fun _ => by kernel_rfl, fun _ _ => by kernel_rfl, fun w1 s => ?_⟩; refine (leakyVector 3 (jb : Int) dk ds ja aW k1 bW oW _ aV bV oV n cV m (vD g) (vV g X) w1 p (fun g hg => hp g (Nat.le_trans s.size hg)) (Nat.zero_le _) (hT.stay (Nat.zero_le _) s) (HW.keep s) (HV.keep s) (by omega) c2.symm (by omega) (qw 0 (by omega)) (fun e he => qa e (by omega))).mono ?_; exact fun _ _ h => h
 . subst ho
   have c2 : m = vD g ja := sh.c4 rfl; have b4 := b4 rfl; refine ⟨137, 202, fun w mk K => operatorOf4 mk _ _ _ _ _ _ _ w K, fun _ => by kernel_rfl, fun _ _ => by kernel_rfl, fun w1 s => ?_⟩; refine (addVector 4 dk ds jb ja aW dnv k1 aV bV oV n cV m (vD g) (vV g X) w1 p (fun g hg => hp g (Nat.le_trans s.size hg)) (Nat.zero_le _) (hT.stay (Nat.zero_le _) s) (HV.keep s) (by omega) (by omega) c2.symm b4 (by omega) (fun e he => qa e (by omega)) (fun e he => qb e (by omega))).mono ?_; exact fun _ _ h => h
 . subst ho
   obtain ⟨c1, c2⟩ := sh.c5 rfl; have c1 : 1 <= dk.toNat := c1; have c2 : vD g ja = m * dk.toNat := c2; have fk : 1 <= dk /\ dk <= 1000 := fk; have hk : dk = (dk.toNat : Int) := by omega
   refine ⟨138, 205, fun w mk K => operatorOf5 mk _ _ _ _ _ _ _ w K, fun _ => by kernel_rfl, fun _ _ => by kernel_rfl, fun w1 s => ?_⟩; generalize e5 : vecN _ _ _ _ = Q; have e6 : Q = fun r => xx1 (vV g X ja) (r * dk.toNat) (dk.toNat - 1) := by rw [<- e5]; rfl
   clear e5; subst e6; generalize dk.toNat = kk at *; subst hk; refine (maxPoolVector 5 (jb : Int) ds ja m (vD g ja) kk aW dnv k1 aV bV oV n cV (vD g) (vV g X) w1 p (fun g hg => hp g (Nat.le_trans s.size hg)) (HV.keep s) (by omega) rfl dm.2 da.2 c1 c2 qa).mono ?_; exact fun _ _ h => h
 . subst ho
   obtain ⟨c1, c2⟩ := sh.c6 rfl; have c1 : dnv = dk.toNat + 1 := c1; have c2 : ∀ e, e < m -> e * ds.toNat + dk.toNat <= vD g ja := c2; have fk : 1 <= dk /\ dk <= 1000 := fk; have fs : 1 <= ds /\ ds <= 1000 := fs; have hk : dk = (dk.toNat : Int) := by omega
   have hs : ds = (ds.toNat : Int) := by omega
   have eW := (HW 0 (by omega)).1; subst eW; have p6 := p6 rfl; have m6 := m6 rfl; refine ⟨139, 209, fun w mk K => operatorOf6 mk _ _ _ _ _ _ _ w K, fun _ => by kernel_rfl, fun _ _ => by kernel_rfl, fun w1 s => ?_⟩; generalize e5 : vecN _ _ _ _ = Q; have e6 : Q = fun r => psum ((dV dk.toNat).q) (fun t => (dV t).q) (fun t => vV g X ja (r * ds.toNat + t)) dk.toNat := by rw [<- e5]; rfl
   have p6 : ∀ e, e < m -> ∀ k, k <= dk.toNat -> Qb (psum ((dV dk.toNat).q) (fun t => (dV t).q) (fun t => vV g X ja (e * ds.toNat + t)) k) 1048640 := p6; clear e5; subst e6; generalize dk.toNat = kk at *; generalize ds.toNat = ss at *; subst hk hs; have l0 := c2 0 (by omega); refine (convVector 6 (jb : Int) ja m (vD g ja) kk ss bW oW dnv k1 _ aV bV oV n cV (vD g) (vV g X) w1 p (fun g hg => hp g (Nat.le_trans s.size hg)) (Nat.zero_le _) (hT.stay (Nat.zero_le _) s) (HW.keep s) hk1 (HV.keep s) (by omega) rfl dm.1 dm.2 da.2 (by omega) (by omega) (by omega) (by omega) c1 m6 c2 qw qa p6).mono ?_; exact fun _ _ h => h
 . subst ho
   obtain ⟨c2, c3⟩ := sh.c7 rfl; have v7 : dnv = 4 := sh.f.v7 rfl; have eW := (HW 0 (by omega)).1; subst eW c2; refine ⟨140, 212, fun w mk K => operatorOf7 mk _ _ _ _ _ _ _ w K, fun _ => by kernel_rfl, fun _ _ => by kernel_rfl, fun w1 s => ?_⟩; refine (normVector 7 (jb : Int) dk ds ja (vD g ja) bW oW dnv k1 _ aV bV oV n cV (vD g) (vV g X) w1 p (fun g hg => hp g (Nat.le_trans s.size hg)) (Nat.zero_le _) (hT.stay (Nat.zero_le _) s) (HW.keep s) (HV.keep s) (by omega) rfl da.2 v7 c3 qw qa).mono ?_; rintro e w' ⟨c, r1, r2, r3, r4⟩; refine ⟨c, r1, r2, ?_, r4⟩
   have eq : (fun e => xq1.w ⟨7, da', db', dk, ds, dnv, dV⟩ 0 / xq1.w ⟨7, da', db', dk, ds, dnv, dV⟩ 2 * (vV g X ja e - xq1.w ⟨7, da', db', dk, ds, dnv, dV⟩ 1) + xq1.w ⟨7, da', db', dk, ds, dnv, dV⟩ 3) = vecN ⟨7, da', db', dk, ds, dnv, dV⟩ (vV g X ja) (vV g X jb) (vD g ja) := by
    funext e
    rw [Rat.div_def]
    rfl
   rw [<- eq]; exact r3
end Go.Proofs.YthaomfabdghfjaaGreat
