import Derived.Test.YthaomfabdghfjaaGreatOwnP20
import Derived.Test.YthaomfabdghfjaaGreatOwnP19
import Derived.Test.YthaomfabdghfjaaGreatOwnP13
import Derived.Test.YthaomfabdghfjaaGreatOwnP3
import Derived.Deep.RegionHeld3
set_option maxHeartbeats 6400000
set_option maxRecDepth 100000
namespace Go.Proofs.YthaomfabdghfjaaGreat
open Go.RowKit
theorem Qb.neg {q : Rat} {k : Nat} (h : Qb q k) : Qb (-q) k := ⟨by rw [Rat.neg_num, Int.natAbs_neg]; exact h.1, by rw [Rat.neg_den]; exact h.2⟩
theorem Qb.sub {p q : Rat} {k l : Nat} (h : Qb p k) (h' : Qb q l) : Qb (p - q) (k + l + 1) := by rw [Rat.sub_eq_add_neg]; exact h.add h'.neg
theorem normVector (v0 v2 v3 v4 : Int) (j l : Nat) (bW oW nv k1 : Nat) (W : Nat -> Rat) (aV : Option Addr) (bV oV n cV : Nat) (D : Nat -> Nat) (V : Nat -> Nat -> Rat) (w : World) (p : Nat -> Prop) (hp : ∀ g, w.heap.size <= g -> p g) (hw : 0 <= w.heap.size) (hT : Tab w) (HW : xj5 w p (some ⟨bW, oW, none⟩) bW oW nv W) (HV : Vecs w p aV bV oV n D V) (hj : j < n) (ej : D j = l) (hl : l <= 1000) (hnv : nv = 4) (h0 : (W 2).num.natAbs ≠ 0)
 (qw : ∀ e, e < nv -> Qb (W e) 1048640) (qj : ∀ e, e < l -> Qb (V j e) 1048640) :
 Calls Tryz.prog 212 #[.agg #[.int .i64 v0, .int .i64 (j : Int), .int .i64 v2, .int .i64 v3, .int .i64 v4, .slice (some ⟨bW, oW, none⟩) nv k1], .slice aV n cV] w fun e w' => ∃ c, e = .returned (.slice (some ⟨c, 0, none⟩) l l) /\ w.heap.size <= c /\ xj5 w' (fun g => g ≠ c /\ p g) (some ⟨c, 0, none⟩) c 0 l (fun e => W 0 / W 2 * (V j e - W 1) + W 3) /\ w.Since w.heap.size w' := by
 have hmk := xz8 (P := Tryz.prog) 28 70 _ 3 56 Tryz.underlying28 yq0 .i64 .i64 l (by omega) (by omega); have sA := sal w (.cells #[.int .i64 v0, .int .i64 (j : Int), .int .i64 v2, .int .i64 v3, .int .i64 v4, .slice (some ⟨bW, oW, none⟩) nv k1] 140); have zA : (w.alloc (.cells #[.int .i64 v0, .int .i64 (j : Int), .int .i64 v2, .int .i64 v3, .int .i64 v4, .slice (some ⟨bW, oW, none⟩) nv k1] 140)).heap.size = w.heap.size + 1 := by simp
 have bA := Box6.new w (.int .i64 v0) (.int .i64 (j : Int)) (.int .i64 v2) (.int .i64 v3) (.int .i64 v4) (.slice (some ⟨bW, oW, none⟩) nv k1) 140; obtain ⟨eV, aj, bj, oj, cj, gj0, hcj, QJ⟩ := HV j hj; subst eV; rw [ej] at gj0 hcj QJ; have gj := (sA.cell (a := ⟨bV, oV + j, none⟩) (World.block_lt_of_cell? _ _ gj0)).trans gj0; have hz1 : (j : Int) < (n : Int) := by omega
 subst hnv; have sB : (w.alloc (.cells #[.int .i64 v0, .int .i64 (j : Int), .int .i64 v2, .int .i64 v3, .int .i64 v4, .slice (some ⟨bW, oW, none⟩) 4 k1] 140)).Since (w.alloc (.cells #[.int .i64 v0, .int .i64 (j : Int), .int .i64 v2, .int .i64 v3, .int .i64 v4, .slice (some ⟨bW, oW, none⟩) 4 k1] 140)).heap.size ((w.alloc (.cells #[.int .i64 v0, .int .i64 (j : Int), .int .i64 v2, .int .i64 v3, .int .i64 v4, .slice (some ⟨bW, oW, none⟩) 4 k1] 140)).alloc (.cells (madeCells #[.bool false, .slice none 0 0, .slice none 0 0] (l * 3)) 70)) := (World.Since.refl _ _).alloc (Nat.le_refl _) _; have rB := Room.new (w.alloc (.cells #[.int .i64 v0, .int .i64 (j : Int), .int .i64 v2, .int .i64 v3, .int .i64 v4, .slice (some ⟨bW, oW, none⟩) 4 k1] 140)) #[.bool false, .slice none 0 0, .slice none 0 0] (l * 3) 70; rw [zA] at rB; have BB := bA.keep sB; have SB := sA.trans (sM sB sA.size); have zB : ((w.alloc (.cells #[.int .i64 v0, .int .i64 (j : Int), .int .i64 v2, .int .i64 v3, .int .i64 v4, .slice (some ⟨bW, oW, none⟩) 4 k1] 140)).alloc (.cells (madeCells #[.bool false, .slice none 0 0, .slice none 0 0] (l * 3)) 70)).heap.size = w.heap.size + 2 := by simp
 go_enter Tryz.func212, Tryz.ntmps212; go_wp2_with fail; generalize (w.alloc (.cells #[.int .i64 v0, .int .i64 (j : Int), .int .i64 v2, .int .i64 v3, .int .i64 v4, .slice (some ⟨bW, oW, none⟩) 4 k1] 140)).alloc (.cells (madeCells #[.bool false, .slice none 0 0, .slice none 0 0] (l * 3)) 70) = wB at *; clear sB gj bA sA zA; obtain ⟨-, xa, ya, C0⟩ := HW 0 (by omega); obtain ⟨-, xc, yc, C2⟩ := HW 2 (by omega); obtain ⟨-, xb, yb, C1⟩ := HW 1 (by omega); obtain ⟨-, xd, yd, C3⟩ := HW 3 (by omega); obtain ⟨a0, n0, c0, b0, m0, d0, -, -, -, -, -, -, e0, -⟩ := C0.R; obtain ⟨a1, n1, c1, b1, m1, d1, -, -, -, -, -, -, e1, -⟩ := C1.R; obtain ⟨a2, n2, c2, b2, m2, d2, -, -, -, -, -, -, e2, -⟩ := C2.R; obtain ⟨a3, n3, c3, b3, m3, d3, -, -, -, -, -, -, e3, -⟩ := C3.R; simp only [Value.agg.injEq, Array.mk.injEq, List.cons.injEq, and_true, true_and] at e0 e1 e2 e3; obtain ⟨rfl, rfl⟩ := e0; obtain ⟨rfl, rfl⟩ := e1; obtain ⟨rfl, rfl⟩ := e2; obtain ⟨rfl, rfl⟩ := e3; have lW := C0.lt; have dB := sdr wB; have sD := SB.trans (sM dB SB.size); have sE0 : wB.Since wB.heap.size (wB.alloc (.cells #[.bool false, .slice none 0 0, .slice none 0 0] 70)).drew := ((World.Since.refl _ _).alloc (Nat.le_refl _) _).drew; have sE : w.Since w.heap.size (wB.alloc (.cells #[.bool false, .slice none 0 0, .slice none 0 0] 70)).drew := SB.trans (sM sE0 SB.size); have zD : wB.drew.heap.size = w.heap.size + 2 := zB; have J1 := quotientOf_q (Nat.zero_le _) (hT.stay hw sD) (qw 0 (by omega)) (qw 2 (by omega)) (by omega) h0 (C0.keep sD).R.read (C2.keep sD).R.read; have J2 := quotientOf_q (Nat.zero_le _) (hT.stay hw sE) (qw 0 (by omega)) (qw 2 (by omega)) (by omega) h0 (C0.keep sE).R.read (C2.keep sE).R.read; have p5 := BB.c5; have n3' : w.heap.size + 2 ≠ bW := by omega
 have n4' : w.heap.size + 2 ≠ w.heap.size := by omega
 have t0 := (C0.keep SB).c0; have t1 := (C0.keep SB).c1; have t2 := (C0.keep SB).c2; have t3 := (C2.keep SB).c0; have t4 := (C2.keep SB).c1; have t5 := (C2.keep SB).c2; simp only [Nat.zero_mul, Nat.add_zero, Nat.reduceMul] at t0 t1 t2 t3 t4 t5
 go_region_held3 (fun w' => w'.cell? ⟨w.heap.size, 5, none⟩ = some (.slice (some ⟨bW, oW, none⟩) 4 k1) /\ w'.cell? ⟨bW, oW, none⟩ = some (.bool (qn (W 0))) /\ w'.cell? ⟨bW, oW + 1, none⟩ = some (.slice a0 n0 c0) /\ w'.cell? ⟨bW, oW + 2, none⟩ = some (.slice b0 m0 d0) /\ w'.cell? ⟨bW, oW + 6, none⟩ = some (.bool (qn (W 2))) /\ w'.cell? ⟨bW, oW + 6 + 1, none⟩ = some (.slice a2 n2 c2) /\ w'.cell? ⟨bW, oW + 6 + 2, none⟩ = some (.slice b2 m2 d2)) (go_keep)
  (first
    | (go_at_call 213
       with_reducible refine J1.mono ?_
       rintro e w5 ⟨u5, rfl, R5, s5⟩; have R6 := R5; obtain ⟨a6, n6, c6, b6, m6, d6, -, -, -, -, -, -, e6, -⟩ := R6; subst e6; have S5 := sD.trans (sM s5 sD.size); have u5 := dB.trans (sM s5 dB.size); have h5 := s5.size; have n1' : w5.heap.size ≠ bW := by have := S5.size; omega
       have n2' : w5.heap.size ≠ w.heap.size := by have := u5.size; omega
       have B5 := BB.keep u5; have r5 := rB.keep u5; have i5 := B5.c5; have i0 := (C0.keep S5).c0; have i1 := (C0.keep S5).c1; have i2 := (C0.keep S5).c2; have i3 := (C2.keep S5).c0; have i4 := (C2.keep S5).c1; have i6 := (C2.keep S5).c2; simp only [Nat.zero_mul, Nat.add_zero, Nat.reduceMul] at i0 i1 i2 i3 i4 i6)
    | (go_at_call 213
       with_reducible refine J2.mono ?_
       rintro e w5 ⟨u5, rfl, R5, s5⟩; have R6 := R5; obtain ⟨a6, n6, c6, b6, m6, d6, -, -, -, -, -, -, e6, -⟩ := R6; subst e6; have S5 := sE.trans (sM s5 sE.size); have u5 := sE0.trans (sM s5 sE0.size); have h5 := s5.size; have n1' : w5.heap.size ≠ bW := by have := S5.size; omega
       have n2' : w5.heap.size ≠ w.heap.size := by have := u5.size; omega
       have B5 := BB.keep u5; have r5 := rB.keep u5; have i5 := B5.c5; have i0 := (C0.keep S5).c0; have i1 := (C0.keep S5).c1; have i2 := (C0.keep S5).c2; have i3 := (C2.keep S5).c0; have i4 := (C2.keep S5).c1; have i6 := (C2.keep S5).c2; simp only [Nat.zero_mul, Nat.add_zero, Nat.reduceMul] at i0 i1 i2 i3 i4 i6; have bx := ((Box3.new wB (.bool false) (.slice none 0 0) (.slice none 0 0) 70).keep (w' := (wB.alloc (.cells #[.bool false, .slice none 0 0, .slice none 0 0] 70)).drew) ((World.Since.refl _ _).drew)).keep s5; rw [zB] at bx; have x0 := bx.c0; have x1 := bx.c1; have x2 := bx.c2; have y0 := bx.f 0; have y1 := bx.f 1; have y2 := bx.f 2))
 . have q1 := sal w5 (.cells #[.bool (qn (W 0 / W 2)), .slice a6 n6 c6, .slice b6 m6 d6] 70)
   have bz := Box3.new w5 (.bool (qn (W 0 / W 2))) (.slice a6 n6 c6) (.slice b6 m6 d6) 70; have Bz := B5.keep q1; have rz := r5.keep q1; have Sz := S5.trans (sM q1 S5.size); have Rz := (R5.imp (p' := fun g => g ≠ w.heap.size + 1) (fun g _ hg => by have hg' : wB.drew.heap.size <= g := hg; omega)).keep q1; have hfc : w.heap.size + 2 <= w5.heap.size := by omega
   generalize w5.alloc (.cells #[.bool (qn (W 0 / W 2)), .slice a6 n6 c6, .slice b6 m6 d6] 70) = wz at *; generalize w5.heap.size = fc at *; have qz : Qb (W 0 / W 2) (1048640 + 1048640) := (qw 0 (by omega)).div (qw 2 (by omega)) h0; clear J1 J2 R5 s5 S5 u5 B5 r5 i5 i0 i1 i2 i3 i4 i6 t0 t1 t2 t3 t4 t5 p5; clear sD sE sE0 dB zD; go_wp2_with fail
   go_loopw [31] (fun u wr => ∃ k : Nat, k <= l /\ u = .int .i64 k /\ w.Since w.heap.size wr /\ Box6 wr w.heap.size (.int .i64 v0) (.int .i64 (j : Int)) (.int .i64 v2) (.int .i64 v3) (.int .i64 v4) (.slice (some ⟨bW, oW, none⟩) 4 k1) /\ Room wr (w.heap.size + 1) (l * 3) /\ Box3 wr fc (.bool (qn (W 0 / W 2))) (.slice a6 n6 c6) (.slice b6 m6 d6) /\ xz4 wr (fun g => g ≠ w.heap.size + 1) (.agg #[.bool (qn (W 0 / W 2)), .slice a6 n6 c6, .slice b6 m6 d6]) (W 0 / W 2) /\ xj5 wr (fun g => g ≠ w.heap.size + 1 /\ p g) (some ⟨w.heap.size + 1, 0, none⟩) (w.heap.size + 1) 0 k (fun e => W 0 / W 2 * (V j e - W 1) + W 3)) (fun u _ => l - (intOf u).toNat)
   case atStart => exact ⟨0, Nat.zero_le _, rfl, Sz, Bz, rz, bz, Rz, fun i hi => absurd hi (by omega)⟩
   case round =>
    clear Sz Bz rz bz Rz; obtain ⟨k, hk, rfl, s, B, r, bf, RF, T⟩ := hrel
    by_cases hlt : k < l
    . obtain ⟨ex, xx, yx, CX⟩ := QJ k hlt
      subst ex; obtain ⟨ax, nx, cx, bx', mx, dx, -, -, -, -, -, -, ex, -⟩ := CX.R; simp only [Value.agg.injEq, Array.mk.injEq, List.cons.injEq, and_true, true_and] at ex; obtain ⟨rfl, rfl⟩ := ex; have hz : (k : Int) < (l : Int) := by omega
      have dr := sdr wr; have sd := s.trans (sM dr s.size); have J1 := differenceOf_q (Nat.zero_le _) (hT.stay hw sd) (qj k hlt) (qw 1 (by omega)) (by omega) (CX.keep sd).R.read (C1.keep sd).R.read; have rl := r.lt; have lx := CX.lt; have ne1 : w.heap.size + 1 ≠ bW := by omega
      have ne2 : w.heap.size + 1 ≠ w.heap.size := by omega
      have ne3 : w.heap.size + 1 ≠ bj := by omega
      have ne4 : w.heap.size + 1 ≠ fc := by omega
      have g5 := B.c5; have ga := bf.c0; have gb := bf.c1; have gc := bf.c2; have gx0 := (CX.keep s).c0; have gx1 := (CX.keep s).c1; have gx2 := (CX.keep s).c2; have gy0 := (C1.keep s).c0; have gy1 := (C1.keep s).c1; have gy2 := (C1.keep s).c2; have gz0 := (C3.keep s).c0; have gz1 := (C3.keep s).c1; have gz2 := (C3.keep s).c2; simp only [Nat.reduceMul] at gy0 gy1 gy2 gz0 gz1 gz2; go_wp2_with fail
      go_region_held3 (fun w' => w'.cell? ⟨w.heap.size, 5, none⟩ = some (.slice (some ⟨bW, oW, none⟩) 4 k1) /\ w'.cell? ⟨fc, 0, none⟩ = some (.bool (qn (W 0 / W 2))) /\ w'.cell? ⟨fc, 1, none⟩ = some (.slice a6 n6 c6) /\ w'.cell? ⟨fc, 2, none⟩ = some (.slice b6 m6 d6) /\ w'.cell? ⟨bj, oj + k * 3, none⟩ = some (.bool (qn (V j k))) /\ w'.cell? ⟨bj, oj + k * 3 + 1, none⟩ = some (.slice ax nx cx) /\ w'.cell? ⟨bj, oj + k * 3 + 2, none⟩ = some (.slice bx' mx dx) /\ w'.cell? ⟨bW, oW + 3, none⟩ = some (.bool (qn (W 1))) /\ w'.cell? ⟨bW, oW + 3 + 1, none⟩ = some (.slice a1 n1 c1) /\ w'.cell? ⟨bW, oW + 3 + 2, none⟩ = some (.slice b1 m1 d1) /\ w'.cell? ⟨bW, oW + 9, none⟩ = some (.bool (qn (W 3))) /\ w'.cell? ⟨bW, oW + 9 + 1, none⟩ = some (.slice a3 n3 c3) /\ w'.cell? ⟨bW, oW + 9 + 2, none⟩ = some (.slice b3 m3 d3)) (go_keep)
       (first
         | (go_at_call 214
            with_reducible refine J1.mono ?_
            rintro e wp ⟨up, rfl, Rp, sp⟩; have vp := dr.trans (sM sp dr.size); have Sp := s.trans (sM vp s.size); have J2 := yv7 (Nat.zero_le _) (hT.stay hw Sp) qz ((qj k hlt).sub (qw 1 (by omega))) (by omega) (RF.keep vp).read Rp.read; have h5 := (B.keep vp).c5; have ha := (bf.keep vp).c0; have hb := (bf.keep vp).c1; have hc := (bf.keep vp).c2; have hx0 := (CX.keep Sp).c0; have hx1 := (CX.keep Sp).c1; have hx2 := (CX.keep Sp).c2; have hy0 := (C1.keep Sp).c0; have hy1 := (C1.keep Sp).c1; have hy2 := (C1.keep Sp).c2; have hz0 := (C3.keep Sp).c0; have hz1 := (C3.keep Sp).c1; have hz2 := (C3.keep Sp).c2; simp only [Nat.reduceMul] at hy0 hy1 hy2 hz0 hz1 hz2)
         | (go_at_call 142
            with_reducible refine J2.mono ?_
            rintro e wq ⟨uq, rfl, Rq, sq⟩; have vq := vp.trans (sM sq vp.size); have Sq := s.trans (sM vq s.size); have J3 := sumOf_q (Nat.zero_le _) (hT.stay hw Sq) (qz.mul ((qj k hlt).sub (qw 1 (by omega)))) (qw 3 (by omega)) (by omega) Rq.read (C3.keep Sq).R.read; have i5 := (B.keep vq).c5; have ia := (bf.keep vq).c0; have ib := (bf.keep vq).c1; have ic := (bf.keep vq).c2; have ix0 := (CX.keep Sq).c0; have ix1 := (CX.keep Sq).c1; have ix2 := (CX.keep Sq).c2; have iy0 := (C1.keep Sq).c0; have iy1 := (C1.keep Sq).c1; have iy2 := (C1.keep Sq).c2; have iz0 := (C3.keep Sq).c0; have iz1 := (C3.keep Sq).c1; have iz2 := (C3.keep Sq).c2; simp only [Nat.reduceMul] at iy0 iy1 iy2 iz0 iz1 iz2)
         | (go_at_call 143
            with_reducible refine J3.mono ?_
            rintro e w5' ⟨u5', rfl, R5, s5⟩; have R6 := R5; obtain ⟨a7, n7, c7, b7, m7, d7, -, -, -, -, -, -, e7, -⟩ := R6; subst e7; have u5 := vq.trans (sM s5 vq.size); have S5 := s.trans (sM u5 s.size); have r5 := r.keep u5; have o5 := (B.keep u5).c5; have oa := (bf.keep u5).c0; have ob := (bf.keep u5).c1; have oc := (bf.keep u5).c2; have ox0 := (CX.keep S5).c0; have ox1 := (CX.keep S5).c1; have ox2 := (CX.keep S5).c2; have oy0 := (C1.keep S5).c0; have oy1 := (C1.keep S5).c1; have oy2 := (C1.keep S5).c2; have oz0 := (C3.keep S5).c0; have oz1 := (C3.keep S5).c1; have oz2 := (C3.keep S5).c2; simp only [Nat.reduceMul] at oy0 oy1 oy2 oz0 oz1 oz2; obtain ⟨v0', y0'⟩ := r5.cell (k * 3) (by omega); obtain ⟨v1', y1'⟩ := r5.cell (k * 3 + 1) (by omega); obtain ⟨v2', y2'⟩ := r5.cell (k * 3 + 2) (by omega); have h0' := r5.f (k * 3); have h1' := r5.f (k * 3 + 1); have h2' := r5.f (k * 3 + 2)))
      all_goals go_wp2
      all_goals go_roundw
      case rel =>
       go_light; obtain ⟨w7, e7, M7, R7, x0, x1, x2, xo⟩ := put3 (q := k * 3) r5 (by omega) (.bool (qn (W 0 / W 2 * (V j k - W 1) + W 3))) (.slice a7 n7 c7) (.slice b7 m7 d7); rw [<- e7]; have R9 : xz4 w5' (fun g => g ≠ w.heap.size + 1 /\ p g) (.agg #[.bool (qn (W 0 / W 2 * (V j k - W 1) + W 3)), .slice a7 n7 c7, .slice b7 m7 d7]) (W 0 / W 2 * (V j k - W 1) + W 3) := R5.imp (fun g _ hg => by have hg' : wq.heap.size <= g := hg; have := vq.size; exact ⟨by omega, hp g (by have := s.size; omega)⟩); exact ⟨k + 1, by omega, by go_num, S5.trans (M7.since (by omega)), (B.keep u5).marked M7 (by omega), R7, (bf.keep u5).marked M7 (by omega), (RF.keep u5).marked M7 (fun h => h rfl), (T.keep u5).putP M7 (fun o ho => xo o (by omega)) R9 x0 x1 x2⟩
      case measure => simp [intOf]; omega
    . have e : k = l := by omega
      subst e; go_wp2; go_ret; exact ⟨w.heap.size + 1, rfl, by omega, T, s⟩
 . have M := xq0.put3 w5 (w.heap.size + 2) (.bool (qn (W 0 / W 2))) (.slice a6 n6 c6) (.slice b6 m6 d6)
   have bz := ((bx.set0 (.bool (qn (W 0 / W 2)))).set1 (.slice a6 n6 c6)).set2 (.slice b6 m6 d6); have Bz := B5.marked M (by omega); have rz := r5.marked M (by omega); have Sz := S5.trans (M.since (by omega))
   have zE : (wB.alloc (.cells #[.bool false, .slice none 0 0, .slice none 0 0] 70)).drew.heap.size = w.heap.size + 3 := by
    have : (wB.alloc (.cells #[.bool false, .slice none 0 0, .slice none 0 0] 70)).heap.size = wB.heap.size + 1 := by simp
    rw [zB] at this; exact this
   have Rz := ((R5.imp (p' := fun g => g ≠ w.heap.size + 1 /\ g ≠ w.heap.size + 2) (fun g _ hg => by have hg' : (wB.alloc (.cells #[.bool false, .slice none 0 0, .slice none 0 0] 70)).drew.heap.size <= g := hg; rw [zE] at hg'; omega)).marked M (fun h => h.2 rfl)).imp (p' := fun g => g ≠ w.heap.size + 1) (fun g _ hg => hg.1); have hfc : w.heap.size + 2 <= w.heap.size + 2 := Nat.le_refl _; generalize ((w5.setCell ⟨w.heap.size + 2, 0, none⟩ (.bool (qn (W 0 / W 2)))).setCell ⟨w.heap.size + 2, 1, none⟩ (.slice a6 n6 c6)).setCell ⟨w.heap.size + 2, 2, none⟩ (.slice b6 m6 d6) = wz at *; have qz : Qb (W 0 / W 2) (1048640 + 1048640) := (qw 0 (by omega)).div (qw 2 (by omega)) h0; clear J1 J2 R5 s5 S5 u5 B5 r5 i5 i0 i1 i2 i3 i4 i6 t0 t1 t2 t3 t4 t5 p5; clear sD sE sE0 dB zD; go_wp2_with fail
   go_loopw [31] (fun u wr => ∃ k : Nat, k <= l /\ u = .int .i64 k /\ w.Since w.heap.size wr /\ Box6 wr w.heap.size (.int .i64 v0) (.int .i64 (j : Int)) (.int .i64 v2) (.int .i64 v3) (.int .i64 v4) (.slice (some ⟨bW, oW, none⟩) 4 k1) /\ Room wr (w.heap.size + 1) (l * 3) /\ Box3 wr (w.heap.size + 2) (.bool (qn (W 0 / W 2))) (.slice a6 n6 c6) (.slice b6 m6 d6) /\ xz4 wr (fun g => g ≠ w.heap.size + 1) (.agg #[.bool (qn (W 0 / W 2)), .slice a6 n6 c6, .slice b6 m6 d6]) (W 0 / W 2) /\ xj5 wr (fun g => g ≠ w.heap.size + 1 /\ p g) (some ⟨w.heap.size + 1, 0, none⟩) (w.heap.size + 1) 0 k (fun e => W 0 / W 2 * (V j e - W 1) + W 3)) (fun u _ => l - (intOf u).toNat)
   case atStart => exact ⟨0, Nat.zero_le _, rfl, Sz, Bz, rz, bz, Rz, fun i hi => absurd hi (by omega)⟩
   case round =>
    clear Sz Bz rz bz Rz; obtain ⟨k, hk, rfl, s, B, r, bf, RF, T⟩ := hrel
    by_cases hlt : k < l
    . obtain ⟨ex, xx, yx, CX⟩ := QJ k hlt
      subst ex; obtain ⟨ax, nx, cx, bx', mx, dx, -, -, -, -, -, -, ex, -⟩ := CX.R; simp only [Value.agg.injEq, Array.mk.injEq, List.cons.injEq, and_true, true_and] at ex; obtain ⟨rfl, rfl⟩ := ex; have hz : (k : Int) < (l : Int) := by omega
      have dr := sdr wr; have sd := s.trans (sM dr s.size); have J1 := differenceOf_q (Nat.zero_le _) (hT.stay hw sd) (qj k hlt) (qw 1 (by omega)) (by omega) (CX.keep sd).R.read (C1.keep sd).R.read; have rl := r.lt; have lx := CX.lt; have ne1 : w.heap.size + 1 ≠ bW := by omega
      have ne2 : w.heap.size + 1 ≠ w.heap.size := by omega
      have ne3 : w.heap.size + 1 ≠ bj := by omega
      have ne4 : w.heap.size + 1 ≠ (w.heap.size + 2) := by omega
      have g5 := B.c5; have ga := bf.c0; have gb := bf.c1; have gc := bf.c2; have gx0 := (CX.keep s).c0; have gx1 := (CX.keep s).c1; have gx2 := (CX.keep s).c2; have gy0 := (C1.keep s).c0; have gy1 := (C1.keep s).c1; have gy2 := (C1.keep s).c2; have gz0 := (C3.keep s).c0; have gz1 := (C3.keep s).c1; have gz2 := (C3.keep s).c2; simp only [Nat.reduceMul] at gy0 gy1 gy2 gz0 gz1 gz2; go_wp2_with fail
      go_region_held3 (fun w' => w'.cell? ⟨w.heap.size, 5, none⟩ = some (.slice (some ⟨bW, oW, none⟩) 4 k1) /\ w'.cell? ⟨w.heap.size + 2, 0, none⟩ = some (.bool (qn (W 0 / W 2))) /\ w'.cell? ⟨w.heap.size + 2, 1, none⟩ = some (.slice a6 n6 c6) /\ w'.cell? ⟨w.heap.size + 2, 2, none⟩ = some (.slice b6 m6 d6) /\ w'.cell? ⟨bj, oj + k * 3, none⟩ = some (.bool (qn (V j k))) /\ w'.cell? ⟨bj, oj + k * 3 + 1, none⟩ = some (.slice ax nx cx) /\ w'.cell? ⟨bj, oj + k * 3 + 2, none⟩ = some (.slice bx' mx dx) /\ w'.cell? ⟨bW, oW + 3, none⟩ = some (.bool (qn (W 1))) /\ w'.cell? ⟨bW, oW + 3 + 1, none⟩ = some (.slice a1 n1 c1) /\ w'.cell? ⟨bW, oW + 3 + 2, none⟩ = some (.slice b1 m1 d1) /\ w'.cell? ⟨bW, oW + 9, none⟩ = some (.bool (qn (W 3))) /\ w'.cell? ⟨bW, oW + 9 + 1, none⟩ = some (.slice a3 n3 c3) /\ w'.cell? ⟨bW, oW + 9 + 2, none⟩ = some (.slice b3 m3 d3)) (go_keep)
       (first
         | (go_at_call 214
            with_reducible refine J1.mono ?_
            rintro e wp ⟨up, rfl, Rp, sp⟩; have vp := dr.trans (sM sp dr.size); have Sp := s.trans (sM vp s.size); have J2 := yv7 (Nat.zero_le _) (hT.stay hw Sp) qz ((qj k hlt).sub (qw 1 (by omega))) (by omega) (RF.keep vp).read Rp.read; have h5 := (B.keep vp).c5; have ha := (bf.keep vp).c0; have hb := (bf.keep vp).c1; have hc := (bf.keep vp).c2; have hx0 := (CX.keep Sp).c0; have hx1 := (CX.keep Sp).c1; have hx2 := (CX.keep Sp).c2; have hy0 := (C1.keep Sp).c0; have hy1 := (C1.keep Sp).c1; have hy2 := (C1.keep Sp).c2; have hz0 := (C3.keep Sp).c0; have hz1 := (C3.keep Sp).c1; have hz2 := (C3.keep Sp).c2; simp only [Nat.reduceMul] at hy0 hy1 hy2 hz0 hz1 hz2)
         | (go_at_call 142
            with_reducible refine J2.mono ?_
            rintro e wq ⟨uq, rfl, Rq, sq⟩; have vq := vp.trans (sM sq vp.size); have Sq := s.trans (sM vq s.size); have J3 := sumOf_q (Nat.zero_le _) (hT.stay hw Sq) (qz.mul ((qj k hlt).sub (qw 1 (by omega)))) (qw 3 (by omega)) (by omega) Rq.read (C3.keep Sq).R.read; have i5 := (B.keep vq).c5; have ia := (bf.keep vq).c0; have ib := (bf.keep vq).c1; have ic := (bf.keep vq).c2; have ix0 := (CX.keep Sq).c0; have ix1 := (CX.keep Sq).c1; have ix2 := (CX.keep Sq).c2; have iy0 := (C1.keep Sq).c0; have iy1 := (C1.keep Sq).c1; have iy2 := (C1.keep Sq).c2; have iz0 := (C3.keep Sq).c0; have iz1 := (C3.keep Sq).c1; have iz2 := (C3.keep Sq).c2; simp only [Nat.reduceMul] at iy0 iy1 iy2 iz0 iz1 iz2)
         | (go_at_call 143
            with_reducible refine J3.mono ?_
            rintro e w5' ⟨u5', rfl, R5, s5⟩; have R6 := R5; obtain ⟨a7, n7, c7, b7, m7, d7, -, -, -, -, -, -, e7, -⟩ := R6; subst e7; have u5 := vq.trans (sM s5 vq.size); have S5 := s.trans (sM u5 s.size); have r5 := r.keep u5; have o5 := (B.keep u5).c5; have oa := (bf.keep u5).c0; have ob := (bf.keep u5).c1; have oc := (bf.keep u5).c2; have ox0 := (CX.keep S5).c0; have ox1 := (CX.keep S5).c1; have ox2 := (CX.keep S5).c2; have oy0 := (C1.keep S5).c0; have oy1 := (C1.keep S5).c1; have oy2 := (C1.keep S5).c2; have oz0 := (C3.keep S5).c0; have oz1 := (C3.keep S5).c1; have oz2 := (C3.keep S5).c2; simp only [Nat.reduceMul] at oy0 oy1 oy2 oz0 oz1 oz2; obtain ⟨v0', y0'⟩ := r5.cell (k * 3) (by omega); obtain ⟨v1', y1'⟩ := r5.cell (k * 3 + 1) (by omega); obtain ⟨v2', y2'⟩ := r5.cell (k * 3 + 2) (by omega); have h0' := r5.f (k * 3); have h1' := r5.f (k * 3 + 1); have h2' := r5.f (k * 3 + 2)))
      all_goals go_wp2
      all_goals go_roundw
      case rel =>
       go_light; obtain ⟨w7, e7, M7, R7, x0, x1, x2, xo⟩ := put3 (q := k * 3) r5 (by omega) (.bool (qn (W 0 / W 2 * (V j k - W 1) + W 3))) (.slice a7 n7 c7) (.slice b7 m7 d7); rw [<- e7]; have R9 : xz4 w5' (fun g => g ≠ w.heap.size + 1 /\ p g) (.agg #[.bool (qn (W 0 / W 2 * (V j k - W 1) + W 3)), .slice a7 n7 c7, .slice b7 m7 d7]) (W 0 / W 2 * (V j k - W 1) + W 3) := R5.imp (fun g _ hg => by have hg' : wq.heap.size <= g := hg; have := vq.size; exact ⟨by omega, hp g (by have := s.size; omega)⟩); exact ⟨k + 1, by omega, by go_num, S5.trans (M7.since (by omega)), (B.keep u5).marked M7 (by omega), R7, (bf.keep u5).marked M7 (by omega), (RF.keep u5).marked M7 (fun h => h rfl), (T.keep u5).putP M7 (fun o ho => xo o (by omega)) R9 x0 x1 x2⟩
      case measure => simp [intOf]; omega
    . have e : k = l := by omega
      subst e; go_wp2; go_ret; exact ⟨w.heap.size + 1, rfl, by omega, T, s⟩
def InP (x a b : Int) : Prop := a <= x /\ x <= b
theorem xj7 (x a b : Int) (w : World) : Calls Tryz.prog 46 #[.int .i64 x, .int .i64 a, .int .i64 b] w fun e w' => xw2 e (InP x a b) /\ w' = w := by
 by_cases h : a <= x
 . by_cases h2 : x <= b
   . go_enter Tryz.func46, Tryz.ntmps46
     go_wp2; go_ret; exact ⟨⟨_, rfl, by unfold InP; simp <;> omega⟩, rfl⟩
   . go_enter Tryz.func46, Tryz.ntmps46
     go_wp2; go_ret; exact ⟨⟨_, rfl, by unfold InP; simp <;> omega⟩, rfl⟩
 . go_enter Tryz.func46, Tryz.ntmps46
   go_wp2; go_ret; exact ⟨⟨_, rfl, by unfold InP; simp <;> omega⟩, rfl⟩
theorem l2UsesK_any (z : Int) (w : World) : Calls Tryz.prog 121 #[.int .i64 z] w fun e w' => xw2 e (usesK z = true) /\ w' = w := by
 by_cases h1 : z = 1
 . subst h1
   go_enter Tryz.func121, Tryz.ntmps121; go_wp2; go_ret; exact ⟨⟨true, rfl, by decide⟩, rfl⟩
 by_cases h5 : z = 5
 . subst h5
   go_enter Tryz.func121, Tryz.ntmps121; go_wp2; go_ret; exact ⟨⟨true, rfl, by decide⟩, rfl⟩
 go_enter Tryz.func121, Tryz.ntmps121; go_wp2; go_ret; exact ⟨⟨_, rfl, by unfold usesK; simp <;> omega⟩, rfl⟩
theorem l2UsesS_any (z : Int) (w : World) : Calls Tryz.prog 122 #[.int .i64 z] w fun e w' => xw2 e (usesS z = true) /\ w' = w := by
 go_enter Tryz.func122, Tryz.ntmps122; go_wp2; go_ret; exact ⟨⟨_, rfl, by unfold usesS; simp <;> omega⟩, rfl⟩
theorem l2UsesV_any (z : Int) (w : World) : Calls Tryz.prog 123 #[.int .i64 z] w fun e w' => xw2 e (usesV z = true) /\ w' = w := by
 by_cases h1 : z = 1
 . subst h1
   go_enter Tryz.func123, Tryz.ntmps123; go_wp2; go_ret; exact ⟨⟨true, rfl, by decide⟩, rfl⟩
 by_cases h3 : z = 3
 . subst h3
   go_enter Tryz.func123, Tryz.ntmps123; go_wp2; go_ret; exact ⟨⟨true, rfl, by decide⟩, rfl⟩
 by_cases h6 : z = 6
 . subst h6
   go_enter Tryz.func123, Tryz.ntmps123; go_wp2; go_ret; exact ⟨⟨true, rfl, by decide⟩, rfl⟩
 go_enter Tryz.func123, Tryz.ntmps123; go_wp2; go_ret; exact ⟨⟨_, rfl, by unfold usesV; simp <;> omega⟩, rfl⟩
theorem l2UsesB_any (z : Int) (w : World) : Calls Tryz.prog 83 #[.int .i64 z] w fun e w' => xw2 e (usesB z = true) /\ w' = w := by
 go_enter Tryz.func83, Tryz.ntmps83; go_wp2; go_ret; exact ⟨⟨_, rfl, by unfold usesB; simp <;> omega⟩, rfl⟩
theorem yq7 (z : Int) (b : Bool) (w : World) (h : usesK z = b) : Calls Tryz.prog 121 #[.int .i64 z] w fun e w' => e = .returned (.bool b) /\ w' = w := by
 refine (l2UsesK_any z w).mono ?_; rintro e w' ⟨⟨r, rfl, hr⟩, rfl⟩; refine ⟨?_, rfl⟩
 have : r = b := by
  cases r
  . cases b
    . rfl
    . exact absurd (hr.2 h) (by decide)
  . rw [<- h]; exact (hr.1 rfl).symm
 rw [this]
theorem yq6 (z : Int) (b : Bool) (w : World) (h : usesS z = b) : Calls Tryz.prog 122 #[.int .i64 z] w fun e w' => e = .returned (.bool b) /\ w' = w := by
 refine (l2UsesS_any z w).mono ?_; rintro e w' ⟨⟨r, rfl, hr⟩, rfl⟩; refine ⟨?_, rfl⟩
 have : r = b := by
  cases r
  . cases b
    . rfl
    . exact absurd (hr.2 h) (by decide)
  . rw [<- h]; exact (hr.1 rfl).symm
 rw [this]
theorem yq5 (z : Int) (b : Bool) (w : World) (h : usesV z = b) : Calls Tryz.prog 123 #[.int .i64 z] w fun e w' => e = .returned (.bool b) /\ w' = w := by
 refine (l2UsesV_any z w).mono ?_; rintro e w' ⟨⟨r, rfl, hr⟩, rfl⟩; refine ⟨?_, rfl⟩
 have : r = b := by
  cases r
  . cases b
    . rfl
    . exact absurd (hr.2 h) (by decide)
  . rw [<- h]; exact (hr.1 rfl).symm
 rw [this]
theorem xx3 (z : Int) (b : Bool) (w : World) (h : usesB z = b) : Calls Tryz.prog 83 #[.int .i64 z] w fun e w' => e = .returned (.bool b) /\ w' = w := by
 refine (l2UsesB_any z w).mono ?_; rintro e w' ⟨⟨r, rfl, hr⟩, rfl⟩; refine ⟨?_, rfl⟩
 have : r = b := by
  cases r
  . cases b
    . rfl
    . exact absurd (hr.2 h) (by decide)
  . rw [<- h]; exact (hr.1 rfl).symm
 rw [this]
theorem l2FormOk1 (v1 v2 v3 v4 : Int) (nv : Nat) (V : Nat -> RatD) (a1 : Option Addr) (lo k1 : Nat) (w : World) (hd : (xq1.mk 1 v1 v2 v3 v4 nv V).size <= 1048576) (H : NodL w lo (xq1.mk 1 v1 v2 v3 v4 nv V) a1 k1) :
 Calls Tryz.prog 82 #[.agg #[.int .i64 1, .int .i64 v1, .int .i64 v2, .int .i64 v3, .int .i64 v4, .slice a1 nv k1]] w fun e w' => xw2 e (xq1.mk 1 v1 v2 v3 v4 nv V).Form /\ w.Since w.heap.size w' := by
 have ts : nv + szR V nv <= 1048576 := hd; have sA := sal w (.cells #[.int .i64 1, .int .i64 v1, .int .i64 v2, .int .i64 v3, .int .i64 v4, .slice a1 nv k1] 84); have nA := Box6.new w (.int .i64 1) (.int .i64 v1) (.int .i64 v2) (.int .i64 v3) (.int .i64 v4) (.slice a1 nv k1) 84; obtain ⟨bV, oV, -, LV⟩ := (H.keep sA).LV; go_enter Tryz.func82, Tryz.ntmps82; go_wp2_with fail; generalize w.alloc (.cells #[.int .i64 1, .int .i64 v1, .int .i64 v2, .int .i64 v3, .int .i64 v4, .slice a1 nv k1] 84) = wA at *; refine (xj7 1 1 7 wA).mono ?_; rintro e w1 ⟨⟨r, rfl, hr⟩, hw1⟩; have hw2 := hw1.symm; clear hw1; subst hw2; cases r
 . exfalso
   have := hr.2 (by unfold InP; omega); cases this
 clear hr; have q0 := nA.c0; have q1 := nA.c1; have q2 := nA.c2; have q3 := nA.c3; have q4 := nA.c4; have q5 := nA.c5; have NN := sdr wA; have nD := nA.keep NN; have p0 := nD.c0; have p1 := nD.c1; have p2 := nD.c2; have p3 := nD.c3; have p4 := nD.c4; have p5 := nD.c5; have SD := sA.trans (sM NN sA.size); have JK := yq7 1 true wA.drew (by decide); have JS := yq6 1 false wA.drew (by decide)
 by_cases hk : v3 = 0
 . have kq : (v3 != 0) = false := by simp [hk]
   have NF := hide (show ¬ (xq1.mk 1 v1 v2 v3 v4 nv V).Form from fun f => by have h := f.k; have h2 : 1 <= v3 /\ v3 <= 1000 := h; omega); clear hk; go_wp2_with fail; refine wp_region_held_drew (S := fun w' => w'.cell? ⟨w.heap.size, 0, none⟩ = some (.int .i64 1) /\ w'.cell? ⟨w.heap.size, 3, none⟩ = some (.int .i64 v3)) (by kernel_rfl) ⟨p0, p3⟩ (fun hHeld => ?_); refine tk 0 7 (.pointer (some ⟨w.heap.size, 0, none⟩)) ?_; simp only [ap, la, lz, ls]; refine ta 1 8 (.int .i64 1) ?_ ?_
   . intro w' hSw
     try dsimp only at hSw
     go_simp
   simp only [ap, la, lz, ls]; refine tk 3 10 (.pointer (some ⟨w.heap.size, 3, none⟩)) ?_; simp only [ap, la, lz, ls]; refine ta 4 11 (.int .i64 v3) ?_ ?_
   . intro w' hSw
     try dsimp only at hSw
     go_simp
   simp only [ap, la, lz, ls]; refine ta 5 12 (.bool false) ?_ ?_
   . intro w' hSw
     try dsimp only at hSw
     go_simp
   simp only [ap, la, lz, ls]; refine wpAnyH_ready (rs := [2]) (by kernel_rfl) (by simp) ?_; refine AllReadyH.cons rfl (fun K hK => ?_) AllReadyH.nil; go_simp
   go_wp2_with (go_at_call 121; with_reducible refine JK.mono ?_; rintro e w2 ⟨rfl, rfl⟩)
   refine hK.out _ _ ⟨p0, p3⟩ (fun h1 => ?_); clear hK K hHeld; refine tk 6 13 (.bool true) ?_; simp only [ap, la, lz, ls]; refine tk 7 14 (.bool true) ?_; simp only [ap, la, lz, ls]; refine sk 8 15 ?_; simp only [ap, la, lz, ls]; refine sk 9 16 ?_; simp only [ap, la, lz, ls]; refine sk 10 17 ?_; simp only [ap, la, lz, ls]; refine sk 11 18 ?_; simp only [ap, la, lz, ls]; refine sk 12 19 ?_; simp only [ap, la, lz, ls]; refine sk 13 20 ?_; simp only [ap, la, lz, ls]; refine sk 14 21 ?_; simp only [ap, la, lz, ls]; refine tk 15 22 (.bool true) ?_; simp only [ap, la, lz, ls]; refine wpAnyH_done (by kernel_rfl) ?_ _; go_wp2; go_ret; exact ⟨⟨false, rfl, by simp only [Bool.false_eq_true, false_iff]; exact NF.out⟩, SD⟩
 have kq : (v3 != 0) = true := by simp [hk]
 have HK0 := hide hk; clear hk
 by_cases hs : v4 = 0
 case neg =>
  have sq : (v4 != 0) = true := by simp [hs]
  have NF := hide (show ¬ (xq1.mk 1 v1 v2 v3 v4 nv V).Form from fun f => by have h := f.s; have h2 : v4 = 0 := h; omega); clear hs; go_wp2_with fail
  go_region_held3 (fun w' => w'.cell? ⟨w.heap.size, 0, none⟩ = some (.int .i64 1) /\ w'.cell? ⟨w.heap.size, 3, none⟩ = some (.int .i64 v3) /\ w'.cell? ⟨w.heap.size, 4, none⟩ = some (.int .i64 v4)) (go_keep)
   (first
     | (go_at_call 121
        with_reducible refine JK.mono ?_
        rintro e w2 ⟨rfl, rfl⟩)
     | (go_at_call 122
        with_reducible refine JS.mono ?_
        rintro e w2 ⟨rfl, rfl⟩))
  go_wp2; go_ret; exact ⟨⟨false, rfl, by simp only [Bool.false_eq_true, false_iff]; exact NF.out⟩, SD⟩
 have sq : (v4 != 0) = false := by simp [hs]
 have HS0 := hide hs; clear hs; go_wp2_with fail
 go_region_held3 (fun w' => w'.cell? ⟨w.heap.size, 0, none⟩ = some (.int .i64 1) /\ w'.cell? ⟨w.heap.size, 3, none⟩ = some (.int .i64 v3) /\ w'.cell? ⟨w.heap.size, 4, none⟩ = some (.int .i64 v4)) (go_keep)
  (first
    | (go_at_call 121
       with_reducible refine JK.mono ?_
       rintro e w2 ⟨rfl, rfl⟩)
    | (go_at_call 122
       with_reducible refine JS.mono ?_
       rintro e w2 ⟨rfl, rfl⟩))
 clear q0 q1 q2 q3 q4 q5 JK JS; go_wp2_with fail; refine (xj7 v3 0 1000 wA.drew).mono ?_; rintro e w2 ⟨⟨r, rfl, hr⟩, rfl⟩; cases r
 . have NF := hide (show ¬ (xq1.mk 1 v1 v2 v3 v4 nv V).Form from fun f => by
    have h := f.k; have h3 : InP v3 0 1000 := by unfold InP; have h2 : 1 <= v3 /\ v3 <= 1000 := h; omega
    have := hr.2 h3; cases this)
   clear hr; go_wp2; go_ret; exact ⟨⟨false, rfl, by simp only [Bool.false_eq_true, false_iff]; exact NF.out⟩, SD⟩
 have IK := hide (hr.1 rfl); clear hr; go_wp2_with fail; refine (xj7 v4 0 1000 wA.drew).mono ?_; rintro e w2 ⟨⟨r, rfl, hr⟩, rfl⟩; cases r
 . have NF := hide (show ¬ (xq1.mk 1 v1 v2 v3 v4 nv V).Form from fun f => by
    have h := f.s; have h3 : InP v4 0 1000 := by unfold InP; have h2 : v4 = 0 := h; omega
    have := hr.2 h3; cases this)
   clear hr; go_wp2; go_ret; exact ⟨⟨false, rfl, by simp only [Bool.false_eq_true, false_iff]; exact NF.out⟩, SD⟩
 have IS := hide (hr.1 rfl); clear hr; have JB := xx3 1 false wA.drew (by decide); go_wp2_with fail; refine JB.mono ?_; rintro e w2 ⟨rfl, rfl⟩; clear JB
 by_cases hb : v2 = 0
 case neg =>
  have bq : (v2 != 0) = true := by simp [hb]
  have NF := hide (show ¬ (xq1.mk 1 v1 v2 v3 v4 nv V).Form from fun f => hb (f.b rfl)); clear hb; go_wp2; go_ret; exact ⟨⟨false, rfl, by simp only [Bool.false_eq_true, false_iff]; exact NF.out⟩, SD⟩
 have bq : (v2 != 0) = false := by simp [hb]
 have HB0 := hide hb; clear hb; have JV := yq5 1 true wA.drew (by decide); go_wp2_with fail; refine JV.mono ?_; rintro e w2 ⟨rfl, rfl⟩; clear JV; have JA := xx8 a1 lo bV oV nv k1 V wA.drew (by omega) (by omega) (LV.keep NN); go_wp2_with fail; refine JA.mono ?_; rintro e w3 ⟨r, rfl, hr, s3⟩; have HR := hide hr; clear hr; go_wp2; go_ret; exact ⟨⟨r, rfl, HR.out.trans ⟨fun h => ⟨(show (1 : Int) <= 1 by decide), (show (1 : Int) <= 7 by decide), (show 1 <= v3 /\ v3 <= 1000 by have h : 0 <= v3 /\ v3 <= 1000 := IK.out; have := HK0.out; omega), HS0.out, fun _ => HB0.out, fun h => (by cases h), fun h => (by cases h), fun h => (by cases h), h⟩, fun f => f.ok⟩⟩, SD.trans (sM s3 SD.size)⟩
theorem l2FormOk2 (v1 v2 v3 v4 : Int) (nv : Nat) (V : Nat -> RatD) (a1 : Option Addr) (lo k1 : Nat) (w : World) (hd : (xq1.mk 2 v1 v2 v3 v4 nv V).size <= 1048576) (H : NodL w lo (xq1.mk 2 v1 v2 v3 v4 nv V) a1 k1) :
 Calls Tryz.prog 82 #[.agg #[.int .i64 2, .int .i64 v1, .int .i64 v2, .int .i64 v3, .int .i64 v4, .slice a1 nv k1]] w fun e w' => xw2 e (xq1.mk 2 v1 v2 v3 v4 nv V).Form /\ w.Since w.heap.size w' := by
 have ts : nv + szR V nv <= 1048576 := hd; have sA := sal w (.cells #[.int .i64 2, .int .i64 v1, .int .i64 v2, .int .i64 v3, .int .i64 v4, .slice a1 nv k1] 84); have nA := Box6.new w (.int .i64 2) (.int .i64 v1) (.int .i64 v2) (.int .i64 v3) (.int .i64 v4) (.slice a1 nv k1) 84; obtain ⟨bV, oV, -, LV⟩ := (H.keep sA).LV; go_enter Tryz.func82, Tryz.ntmps82; go_wp2_with fail; generalize w.alloc (.cells #[.int .i64 2, .int .i64 v1, .int .i64 v2, .int .i64 v3, .int .i64 v4, .slice a1 nv k1] 84) = wA at *; refine (xj7 2 1 7 wA).mono ?_; rintro e w1 ⟨⟨r, rfl, hr⟩, hw1⟩; have hw2 := hw1.symm; clear hw1; subst hw2; cases r
 . exfalso
   have := hr.2 (by unfold InP; omega); cases this
 clear hr; have q0 := nA.c0; have q1 := nA.c1; have q2 := nA.c2; have q3 := nA.c3; have q4 := nA.c4; have q5 := nA.c5; have NN := sdr wA; have nD := nA.keep NN; have p0 := nD.c0; have p1 := nD.c1; have p2 := nD.c2; have p3 := nD.c3; have p4 := nD.c4; have p5 := nD.c5; have SD := sA.trans (sM NN sA.size); have JK := yq7 2 false wA.drew (by decide); have JS := yq6 2 false wA.drew (by decide)
 by_cases hk : v3 = 0
 case neg =>
  have kq : (v3 != 0) = true := by simp [hk]
  have NF := hide (show ¬ (xq1.mk 2 v1 v2 v3 v4 nv V).Form from fun f => by have h := f.k; have h2 : v3 = 0 := h; omega); clear hk; go_wp2_with fail; refine wp_region_held_drew (S := fun w' => w'.cell? ⟨w.heap.size, 0, none⟩ = some (.int .i64 2) /\ w'.cell? ⟨w.heap.size, 3, none⟩ = some (.int .i64 v3)) (by kernel_rfl) ⟨p0, p3⟩ (fun hHeld => ?_); refine tk 0 7 (.pointer (some ⟨w.heap.size, 0, none⟩)) ?_; simp only [ap, la, lz, ls]; refine ta 1 8 (.int .i64 2) ?_ ?_
  . intro w' hSw
    try dsimp only at hSw
    go_simp
  simp only [ap, la, lz, ls]; refine tk 3 10 (.pointer (some ⟨w.heap.size, 3, none⟩)) ?_; simp only [ap, la, lz, ls]; refine ta 4 11 (.int .i64 v3) ?_ ?_
  . intro w' hSw
    try dsimp only at hSw
    go_simp
  simp only [ap, la, lz, ls]; refine ta 5 12 (.bool true) ?_ ?_
  . intro w' hSw
    try dsimp only at hSw
    go_simp
  simp only [ap, la, lz, ls]; refine wpAnyH_ready (rs := [2]) (by kernel_rfl) (by simp) ?_; refine AllReadyH.cons rfl (fun K hK => ?_) AllReadyH.nil; go_simp
  go_wp2_with (go_at_call 121; with_reducible refine JK.mono ?_; rintro e w2 ⟨rfl, rfl⟩)
  refine hK.out _ _ ⟨p0, p3⟩ (fun h1 => ?_); clear hK K hHeld; refine tk 6 13 (.bool true) ?_; simp only [ap, la, lz, ls]; refine tk 7 14 (.bool true) ?_; simp only [ap, la, lz, ls]; refine sk 8 15 ?_; simp only [ap, la, lz, ls]; refine sk 9 16 ?_; simp only [ap, la, lz, ls]; refine sk 10 17 ?_; simp only [ap, la, lz, ls]; refine sk 11 18 ?_; simp only [ap, la, lz, ls]; refine sk 12 19 ?_; simp only [ap, la, lz, ls]; refine sk 13 20 ?_; simp only [ap, la, lz, ls]; refine sk 14 21 ?_; simp only [ap, la, lz, ls]; refine tk 15 22 (.bool true) ?_; simp only [ap, la, lz, ls]; refine wpAnyH_done (by kernel_rfl) ?_ _; go_wp2; go_ret; exact ⟨⟨false, rfl, by simp only [Bool.false_eq_true, false_iff]; exact NF.out⟩, SD⟩
 have kq : (v3 != 0) = false := by simp [hk]
 have HK0 := hide hk; clear hk
 by_cases hs : v4 = 0
 case neg =>
  have sq : (v4 != 0) = true := by simp [hs]
  have NF := hide (show ¬ (xq1.mk 2 v1 v2 v3 v4 nv V).Form from fun f => by have h := f.s; have h2 : v4 = 0 := h; omega); clear hs; go_wp2_with fail
  go_region_held3 (fun w' => w'.cell? ⟨w.heap.size, 0, none⟩ = some (.int .i64 2) /\ w'.cell? ⟨w.heap.size, 3, none⟩ = some (.int .i64 v3) /\ w'.cell? ⟨w.heap.size, 4, none⟩ = some (.int .i64 v4)) (go_keep)
   (first
     | (go_at_call 121
        with_reducible refine JK.mono ?_
        rintro e w2 ⟨rfl, rfl⟩)
     | (go_at_call 122
        with_reducible refine JS.mono ?_
        rintro e w2 ⟨rfl, rfl⟩))
  go_wp2; go_ret; exact ⟨⟨false, rfl, by simp only [Bool.false_eq_true, false_iff]; exact NF.out⟩, SD⟩
 have sq : (v4 != 0) = false := by simp [hs]
 have HS0 := hide hs; clear hs; go_wp2_with fail
 go_region_held3 (fun w' => w'.cell? ⟨w.heap.size, 0, none⟩ = some (.int .i64 2) /\ w'.cell? ⟨w.heap.size, 3, none⟩ = some (.int .i64 v3) /\ w'.cell? ⟨w.heap.size, 4, none⟩ = some (.int .i64 v4)) (go_keep)
  (first
    | (go_at_call 121
       with_reducible refine JK.mono ?_
       rintro e w2 ⟨rfl, rfl⟩)
    | (go_at_call 122
       with_reducible refine JS.mono ?_
       rintro e w2 ⟨rfl, rfl⟩))
 clear q0 q1 q2 q3 q4 q5 JK JS; go_wp2_with fail; refine (xj7 v3 0 1000 wA.drew).mono ?_; rintro e w2 ⟨⟨r, rfl, hr⟩, rfl⟩; cases r
 . have NF := hide (show ¬ (xq1.mk 2 v1 v2 v3 v4 nv V).Form from fun f => by
    have h := f.k; have h3 : InP v3 0 1000 := by unfold InP; have h2 : v3 = 0 := h; omega
    have := hr.2 h3; cases this)
   clear hr; go_wp2; go_ret; exact ⟨⟨false, rfl, by simp only [Bool.false_eq_true, false_iff]; exact NF.out⟩, SD⟩
 have IK := hide (hr.1 rfl); clear hr; go_wp2_with fail; refine (xj7 v4 0 1000 wA.drew).mono ?_; rintro e w2 ⟨⟨r, rfl, hr⟩, rfl⟩; cases r
 . have NF := hide (show ¬ (xq1.mk 2 v1 v2 v3 v4 nv V).Form from fun f => by
    have h := f.s; have h3 : InP v4 0 1000 := by unfold InP; have h2 : v4 = 0 := h; omega
    have := hr.2 h3; cases this)
   clear hr; go_wp2; go_ret; exact ⟨⟨false, rfl, by simp only [Bool.false_eq_true, false_iff]; exact NF.out⟩, SD⟩
 have IS := hide (hr.1 rfl); clear hr; have JB := xx3 2 false wA.drew (by decide); go_wp2_with fail; refine JB.mono ?_; rintro e w2 ⟨rfl, rfl⟩; clear JB
 by_cases hb : v2 = 0
 case neg =>
  have bq : (v2 != 0) = true := by simp [hb]
  have NF := hide (show ¬ (xq1.mk 2 v1 v2 v3 v4 nv V).Form from fun f => hb (f.b rfl)); clear hb; go_wp2; go_ret; exact ⟨⟨false, rfl, by simp only [Bool.false_eq_true, false_iff]; exact NF.out⟩, SD⟩
 have bq : (v2 != 0) = false := by simp [hb]
 have HB0 := hide hb; clear hb; have JV := yq5 2 false wA.drew (by decide); go_wp2_with fail; refine JV.mono ?_; rintro e w2 ⟨rfl, rfl⟩; clear JV
 by_cases hv : nv = 0
 case neg =>
  have vq : ((nv : Int) != 0) = true := by simp; omega
  have NF := hide (show ¬ (xq1.mk 2 v1 v2 v3 v4 nv V).Form from fun f => hv (f.v rfl)); clear hv; go_wp2; go_ret; exact ⟨⟨false, rfl, by simp only [Bool.false_eq_true, false_iff]; exact NF.out⟩, SD⟩
 have vq : ((nv : Int) != 0) = false := by simp; omega
 have HV0 := hide hv; clear hv; have JA := xx8 a1 lo bV oV nv k1 V wA.drew (by omega) (by omega) (LV.keep NN); go_wp2_with fail; refine JA.mono ?_; rintro e w3 ⟨r, rfl, hr, s3⟩; have HR := hide hr; clear hr; go_wp2; go_ret; exact ⟨⟨r, rfl, HR.out.trans ⟨fun h => ⟨(show (1 : Int) <= 2 by decide), (show (2 : Int) <= 7 by decide), HK0.out, HS0.out, fun _ => HB0.out, fun _ => HV0.out, fun h => (by cases h), fun h => (by cases h), h⟩, fun f => f.ok⟩⟩, SD.trans (sM s3 SD.size)⟩
theorem l2FormOk3 (v1 v2 v3 v4 : Int) (nv : Nat) (V : Nat -> RatD) (a1 : Option Addr) (lo k1 : Nat) (w : World) (hd : (xq1.mk 3 v1 v2 v3 v4 nv V).size <= 1048576) (H : NodL w lo (xq1.mk 3 v1 v2 v3 v4 nv V) a1 k1) :
 Calls Tryz.prog 82 #[.agg #[.int .i64 3, .int .i64 v1, .int .i64 v2, .int .i64 v3, .int .i64 v4, .slice a1 nv k1]] w fun e w' => xw2 e (xq1.mk 3 v1 v2 v3 v4 nv V).Form /\ w.Since w.heap.size w' := by
 have ts : nv + szR V nv <= 1048576 := hd; have sA := sal w (.cells #[.int .i64 3, .int .i64 v1, .int .i64 v2, .int .i64 v3, .int .i64 v4, .slice a1 nv k1] 84); have nA := Box6.new w (.int .i64 3) (.int .i64 v1) (.int .i64 v2) (.int .i64 v3) (.int .i64 v4) (.slice a1 nv k1) 84; obtain ⟨bV, oV, -, LV⟩ := (H.keep sA).LV; go_enter Tryz.func82, Tryz.ntmps82; go_wp2_with fail; generalize w.alloc (.cells #[.int .i64 3, .int .i64 v1, .int .i64 v2, .int .i64 v3, .int .i64 v4, .slice a1 nv k1] 84) = wA at *; refine (xj7 3 1 7 wA).mono ?_; rintro e w1 ⟨⟨r, rfl, hr⟩, hw1⟩; have hw2 := hw1.symm; clear hw1; subst hw2; cases r
 . exfalso
   have := hr.2 (by unfold InP; omega); cases this
 clear hr; have q0 := nA.c0; have q1 := nA.c1; have q2 := nA.c2; have q3 := nA.c3; have q4 := nA.c4; have q5 := nA.c5; have NN := sdr wA; have nD := nA.keep NN; have p0 := nD.c0; have p1 := nD.c1; have p2 := nD.c2; have p3 := nD.c3; have p4 := nD.c4; have p5 := nD.c5; have SD := sA.trans (sM NN sA.size); have JK := yq7 3 false wA.drew (by decide); have JS := yq6 3 false wA.drew (by decide)
 by_cases hk : v3 = 0
 case neg =>
  have kq : (v3 != 0) = true := by simp [hk]
  have NF := hide (show ¬ (xq1.mk 3 v1 v2 v3 v4 nv V).Form from fun f => by have h := f.k; have h2 : v3 = 0 := h; omega); clear hk; go_wp2_with fail; refine wp_region_held_drew (S := fun w' => w'.cell? ⟨w.heap.size, 0, none⟩ = some (.int .i64 3) /\ w'.cell? ⟨w.heap.size, 3, none⟩ = some (.int .i64 v3)) (by kernel_rfl) ⟨p0, p3⟩ (fun hHeld => ?_); refine tk 0 7 (.pointer (some ⟨w.heap.size, 0, none⟩)) ?_; simp only [ap, la, lz, ls]; refine ta 1 8 (.int .i64 3) ?_ ?_
  . intro w' hSw
    try dsimp only at hSw
    go_simp
  simp only [ap, la, lz, ls]; refine tk 3 10 (.pointer (some ⟨w.heap.size, 3, none⟩)) ?_; simp only [ap, la, lz, ls]; refine ta 4 11 (.int .i64 v3) ?_ ?_
  . intro w' hSw
    try dsimp only at hSw
    go_simp
  simp only [ap, la, lz, ls]; refine ta 5 12 (.bool true) ?_ ?_
  . intro w' hSw
    try dsimp only at hSw
    go_simp
  simp only [ap, la, lz, ls]; refine wpAnyH_ready (rs := [2]) (by kernel_rfl) (by simp) ?_; refine AllReadyH.cons rfl (fun K hK => ?_) AllReadyH.nil; go_simp
  go_wp2_with (go_at_call 121; with_reducible refine JK.mono ?_; rintro e w2 ⟨rfl, rfl⟩)
  refine hK.out _ _ ⟨p0, p3⟩ (fun h1 => ?_); clear hK K hHeld; refine tk 6 13 (.bool true) ?_; simp only [ap, la, lz, ls]; refine tk 7 14 (.bool true) ?_; simp only [ap, la, lz, ls]; refine sk 8 15 ?_; simp only [ap, la, lz, ls]; refine sk 9 16 ?_; simp only [ap, la, lz, ls]; refine sk 10 17 ?_; simp only [ap, la, lz, ls]; refine sk 11 18 ?_; simp only [ap, la, lz, ls]; refine sk 12 19 ?_; simp only [ap, la, lz, ls]; refine sk 13 20 ?_; simp only [ap, la, lz, ls]; refine sk 14 21 ?_; simp only [ap, la, lz, ls]; refine tk 15 22 (.bool true) ?_; simp only [ap, la, lz, ls]; refine wpAnyH_done (by kernel_rfl) ?_ _; go_wp2; go_ret; exact ⟨⟨false, rfl, by simp only [Bool.false_eq_true, false_iff]; exact NF.out⟩, SD⟩
 have kq : (v3 != 0) = false := by simp [hk]
 have HK0 := hide hk; clear hk
 by_cases hs : v4 = 0
 case neg =>
  have sq : (v4 != 0) = true := by simp [hs]
  have NF := hide (show ¬ (xq1.mk 3 v1 v2 v3 v4 nv V).Form from fun f => by have h := f.s; have h2 : v4 = 0 := h; omega); clear hs; go_wp2_with fail
  go_region_held3 (fun w' => w'.cell? ⟨w.heap.size, 0, none⟩ = some (.int .i64 3) /\ w'.cell? ⟨w.heap.size, 3, none⟩ = some (.int .i64 v3) /\ w'.cell? ⟨w.heap.size, 4, none⟩ = some (.int .i64 v4)) (go_keep)
   (first
     | (go_at_call 121
        with_reducible refine JK.mono ?_
        rintro e w2 ⟨rfl, rfl⟩)
     | (go_at_call 122
        with_reducible refine JS.mono ?_
        rintro e w2 ⟨rfl, rfl⟩))
  go_wp2; go_ret; exact ⟨⟨false, rfl, by simp only [Bool.false_eq_true, false_iff]; exact NF.out⟩, SD⟩
 have sq : (v4 != 0) = false := by simp [hs]
 have HS0 := hide hs; clear hs; go_wp2_with fail
 go_region_held3 (fun w' => w'.cell? ⟨w.heap.size, 0, none⟩ = some (.int .i64 3) /\ w'.cell? ⟨w.heap.size, 3, none⟩ = some (.int .i64 v3) /\ w'.cell? ⟨w.heap.size, 4, none⟩ = some (.int .i64 v4)) (go_keep)
  (first
    | (go_at_call 121
       with_reducible refine JK.mono ?_
       rintro e w2 ⟨rfl, rfl⟩)
    | (go_at_call 122
       with_reducible refine JS.mono ?_
       rintro e w2 ⟨rfl, rfl⟩))
 clear q0 q1 q2 q3 q4 q5 JK JS; go_wp2_with fail; refine (xj7 v3 0 1000 wA.drew).mono ?_; rintro e w2 ⟨⟨r, rfl, hr⟩, rfl⟩; cases r
 . have NF := hide (show ¬ (xq1.mk 3 v1 v2 v3 v4 nv V).Form from fun f => by
    have h := f.k; have h3 : InP v3 0 1000 := by unfold InP; have h2 : v3 = 0 := h; omega
    have := hr.2 h3; cases this)
   clear hr; go_wp2; go_ret; exact ⟨⟨false, rfl, by simp only [Bool.false_eq_true, false_iff]; exact NF.out⟩, SD⟩
 have IK := hide (hr.1 rfl); clear hr; go_wp2_with fail; refine (xj7 v4 0 1000 wA.drew).mono ?_; rintro e w2 ⟨⟨r, rfl, hr⟩, rfl⟩; cases r
 . have NF := hide (show ¬ (xq1.mk 3 v1 v2 v3 v4 nv V).Form from fun f => by
    have h := f.s; have h3 : InP v4 0 1000 := by unfold InP; have h2 : v4 = 0 := h; omega
    have := hr.2 h3; cases this)
   clear hr; go_wp2; go_ret; exact ⟨⟨false, rfl, by simp only [Bool.false_eq_true, false_iff]; exact NF.out⟩, SD⟩
 have IS := hide (hr.1 rfl); clear hr; have JB := xx3 3 false wA.drew (by decide); go_wp2_with fail; refine JB.mono ?_; rintro e w2 ⟨rfl, rfl⟩; clear JB
 by_cases hb : v2 = 0
 case neg =>
  have bq : (v2 != 0) = true := by simp [hb]
  have NF := hide (show ¬ (xq1.mk 3 v1 v2 v3 v4 nv V).Form from fun f => hb (f.b rfl)); clear hb; go_wp2; go_ret; exact ⟨⟨false, rfl, by simp only [Bool.false_eq_true, false_iff]; exact NF.out⟩, SD⟩
 have bq : (v2 != 0) = false := by simp [hb]
 have HB0 := hide hb; clear hb; have JV := yq5 3 true wA.drew (by decide); go_wp2_with fail; refine JV.mono ?_; rintro e w2 ⟨rfl, rfl⟩; clear JV
 by_cases hv : nv = 1
 case neg =>
  have vq : ((nv : Int) != 1) = true := by simp; omega
  have NF := hide (show ¬ (xq1.mk 3 v1 v2 v3 v4 nv V).Form from fun f => hv (f.v3 rfl)); clear hv; go_wp2; go_ret; exact ⟨⟨false, rfl, by simp only [Bool.false_eq_true, false_iff]; exact NF.out⟩, SD⟩
 have vq : ((nv : Int) != 1) = false := by simp; omega
 have HV0 := hide hv; clear hv; have JA := xx8 a1 lo bV oV nv k1 V wA.drew (by omega) (by omega) (LV.keep NN); go_wp2_with fail; refine JA.mono ?_; rintro e w3 ⟨r, rfl, hr, s3⟩; have HR := hide hr; clear hr; go_wp2; go_ret; exact ⟨⟨r, rfl, HR.out.trans ⟨fun h => ⟨(show (1 : Int) <= 3 by decide), (show (3 : Int) <= 7 by decide), HK0.out, HS0.out, fun _ => HB0.out, fun h => (by cases h), fun _ => HV0.out, fun h => (by cases h), h⟩, fun f => f.ok⟩⟩, SD.trans (sM s3 SD.size)⟩
theorem l2FormOk4 (v1 v2 v3 v4 : Int) (nv : Nat) (V : Nat -> RatD) (a1 : Option Addr) (lo k1 : Nat) (w : World) (hd : (xq1.mk 4 v1 v2 v3 v4 nv V).size <= 1048576) (H : NodL w lo (xq1.mk 4 v1 v2 v3 v4 nv V) a1 k1) :
 Calls Tryz.prog 82 #[.agg #[.int .i64 4, .int .i64 v1, .int .i64 v2, .int .i64 v3, .int .i64 v4, .slice a1 nv k1]] w fun e w' => xw2 e (xq1.mk 4 v1 v2 v3 v4 nv V).Form /\ w.Since w.heap.size w' := by
 have ts : nv + szR V nv <= 1048576 := hd; have sA := sal w (.cells #[.int .i64 4, .int .i64 v1, .int .i64 v2, .int .i64 v3, .int .i64 v4, .slice a1 nv k1] 84); have nA := Box6.new w (.int .i64 4) (.int .i64 v1) (.int .i64 v2) (.int .i64 v3) (.int .i64 v4) (.slice a1 nv k1) 84; obtain ⟨bV, oV, -, LV⟩ := (H.keep sA).LV; go_enter Tryz.func82, Tryz.ntmps82; go_wp2_with fail; generalize w.alloc (.cells #[.int .i64 4, .int .i64 v1, .int .i64 v2, .int .i64 v3, .int .i64 v4, .slice a1 nv k1] 84) = wA at *; refine (xj7 4 1 7 wA).mono ?_; rintro e w1 ⟨⟨r, rfl, hr⟩, hw1⟩; have hw2 := hw1.symm; clear hw1; subst hw2; cases r
 . exfalso
   have := hr.2 (by unfold InP; omega); cases this
 clear hr; have q0 := nA.c0; have q1 := nA.c1; have q2 := nA.c2; have q3 := nA.c3; have q4 := nA.c4; have q5 := nA.c5; have NN := sdr wA; have nD := nA.keep NN; have p0 := nD.c0; have p1 := nD.c1; have p2 := nD.c2; have p3 := nD.c3; have p4 := nD.c4; have p5 := nD.c5; have SD := sA.trans (sM NN sA.size); have JK := yq7 4 false wA.drew (by decide); have JS := yq6 4 false wA.drew (by decide)
 by_cases hk : v3 = 0
 case neg =>
  have kq : (v3 != 0) = true := by simp [hk]
  have NF := hide (show ¬ (xq1.mk 4 v1 v2 v3 v4 nv V).Form from fun f => by have h := f.k; have h2 : v3 = 0 := h; omega); clear hk; go_wp2_with fail; refine wp_region_held_drew (S := fun w' => w'.cell? ⟨w.heap.size, 0, none⟩ = some (.int .i64 4) /\ w'.cell? ⟨w.heap.size, 3, none⟩ = some (.int .i64 v3)) (by kernel_rfl) ⟨p0, p3⟩ (fun hHeld => ?_); refine tk 0 7 (.pointer (some ⟨w.heap.size, 0, none⟩)) ?_; simp only [ap, la, lz, ls]; refine ta 1 8 (.int .i64 4) ?_ ?_
  . intro w' hSw
    try dsimp only at hSw
    go_simp
  simp only [ap, la, lz, ls]; refine tk 3 10 (.pointer (some ⟨w.heap.size, 3, none⟩)) ?_; simp only [ap, la, lz, ls]; refine ta 4 11 (.int .i64 v3) ?_ ?_
  . intro w' hSw
    try dsimp only at hSw
    go_simp
  simp only [ap, la, lz, ls]; refine ta 5 12 (.bool true) ?_ ?_
  . intro w' hSw
    try dsimp only at hSw
    go_simp
  simp only [ap, la, lz, ls]; refine wpAnyH_ready (rs := [2]) (by kernel_rfl) (by simp) ?_; refine AllReadyH.cons rfl (fun K hK => ?_) AllReadyH.nil; go_simp
  go_wp2_with (go_at_call 121; with_reducible refine JK.mono ?_; rintro e w2 ⟨rfl, rfl⟩)
  refine hK.out _ _ ⟨p0, p3⟩ (fun h1 => ?_); clear hK K hHeld; refine tk 6 13 (.bool true) ?_; simp only [ap, la, lz, ls]; refine tk 7 14 (.bool true) ?_; simp only [ap, la, lz, ls]; refine sk 8 15 ?_; simp only [ap, la, lz, ls]; refine sk 9 16 ?_; simp only [ap, la, lz, ls]; refine sk 10 17 ?_; simp only [ap, la, lz, ls]; refine sk 11 18 ?_; simp only [ap, la, lz, ls]; refine sk 12 19 ?_; simp only [ap, la, lz, ls]; refine sk 13 20 ?_; simp only [ap, la, lz, ls]; refine sk 14 21 ?_; simp only [ap, la, lz, ls]; refine tk 15 22 (.bool true) ?_; simp only [ap, la, lz, ls]; refine wpAnyH_done (by kernel_rfl) ?_ _; go_wp2; go_ret; exact ⟨⟨false, rfl, by simp only [Bool.false_eq_true, false_iff]; exact NF.out⟩, SD⟩
 have kq : (v3 != 0) = false := by simp [hk]
 have HK0 := hide hk; clear hk
 by_cases hs : v4 = 0
 case neg =>
  have sq : (v4 != 0) = true := by simp [hs]
  have NF := hide (show ¬ (xq1.mk 4 v1 v2 v3 v4 nv V).Form from fun f => by have h := f.s; have h2 : v4 = 0 := h; omega); clear hs; go_wp2_with fail
  go_region_held3 (fun w' => w'.cell? ⟨w.heap.size, 0, none⟩ = some (.int .i64 4) /\ w'.cell? ⟨w.heap.size, 3, none⟩ = some (.int .i64 v3) /\ w'.cell? ⟨w.heap.size, 4, none⟩ = some (.int .i64 v4)) (go_keep)
   (first
     | (go_at_call 121
        with_reducible refine JK.mono ?_
        rintro e w2 ⟨rfl, rfl⟩)
     | (go_at_call 122
        with_reducible refine JS.mono ?_
        rintro e w2 ⟨rfl, rfl⟩))
  go_wp2; go_ret; exact ⟨⟨false, rfl, by simp only [Bool.false_eq_true, false_iff]; exact NF.out⟩, SD⟩
 have sq : (v4 != 0) = false := by simp [hs]
 have HS0 := hide hs; clear hs; go_wp2_with fail
 go_region_held3 (fun w' => w'.cell? ⟨w.heap.size, 0, none⟩ = some (.int .i64 4) /\ w'.cell? ⟨w.heap.size, 3, none⟩ = some (.int .i64 v3) /\ w'.cell? ⟨w.heap.size, 4, none⟩ = some (.int .i64 v4)) (go_keep)
  (first
    | (go_at_call 121
       with_reducible refine JK.mono ?_
       rintro e w2 ⟨rfl, rfl⟩)
    | (go_at_call 122
       with_reducible refine JS.mono ?_
       rintro e w2 ⟨rfl, rfl⟩))
 clear q0 q1 q2 q3 q4 q5 JK JS; go_wp2_with fail; refine (xj7 v3 0 1000 wA.drew).mono ?_; rintro e w2 ⟨⟨r, rfl, hr⟩, rfl⟩; cases r
 . have NF := hide (show ¬ (xq1.mk 4 v1 v2 v3 v4 nv V).Form from fun f => by
    have h := f.k; have h3 : InP v3 0 1000 := by unfold InP; have h2 : v3 = 0 := h; omega
    have := hr.2 h3; cases this)
   clear hr; go_wp2; go_ret; exact ⟨⟨false, rfl, by simp only [Bool.false_eq_true, false_iff]; exact NF.out⟩, SD⟩
 have IK := hide (hr.1 rfl); clear hr; go_wp2_with fail; refine (xj7 v4 0 1000 wA.drew).mono ?_; rintro e w2 ⟨⟨r, rfl, hr⟩, rfl⟩; cases r
 . have NF := hide (show ¬ (xq1.mk 4 v1 v2 v3 v4 nv V).Form from fun f => by
    have h := f.s; have h3 : InP v4 0 1000 := by unfold InP; have h2 : v4 = 0 := h; omega
    have := hr.2 h3; cases this)
   clear hr; go_wp2; go_ret; exact ⟨⟨false, rfl, by simp only [Bool.false_eq_true, false_iff]; exact NF.out⟩, SD⟩
 have IS := hide (hr.1 rfl); clear hr; have JB := xx3 4 true wA.drew (by decide); go_wp2_with fail; refine JB.mono ?_; rintro e w2 ⟨rfl, rfl⟩; clear JB; have JV := yq5 4 false wA.drew (by decide); go_wp2_with fail; refine JV.mono ?_; rintro e w2 ⟨rfl, rfl⟩; clear JV
 by_cases hv : nv = 0
 case neg =>
  have vq : ((nv : Int) != 0) = true := by simp; omega
  have NF := hide (show ¬ (xq1.mk 4 v1 v2 v3 v4 nv V).Form from fun f => hv (f.v rfl)); clear hv; go_wp2; go_ret; exact ⟨⟨false, rfl, by simp only [Bool.false_eq_true, false_iff]; exact NF.out⟩, SD⟩
 have vq : ((nv : Int) != 0) = false := by simp; omega
 have HV0 := hide hv; clear hv; have JA := xx8 a1 lo bV oV nv k1 V wA.drew (by omega) (by omega) (LV.keep NN); go_wp2_with fail; refine JA.mono ?_; rintro e w3 ⟨r, rfl, hr, s3⟩; have HR := hide hr; clear hr; go_wp2; go_ret; exact ⟨⟨r, rfl, HR.out.trans ⟨fun h => ⟨(show (1 : Int) <= 4 by decide), (show (4 : Int) <= 7 by decide), HK0.out, HS0.out, fun h => (by cases h), fun _ => HV0.out, fun h => (by cases h), fun h => (by cases h), h⟩, fun f => f.ok⟩⟩, SD.trans (sM s3 SD.size)⟩
theorem l2FormOk5 (v1 v2 v3 v4 : Int) (nv : Nat) (V : Nat -> RatD) (a1 : Option Addr) (lo k1 : Nat) (w : World) (hd : (xq1.mk 5 v1 v2 v3 v4 nv V).size <= 1048576) (H : NodL w lo (xq1.mk 5 v1 v2 v3 v4 nv V) a1 k1) :
 Calls Tryz.prog 82 #[.agg #[.int .i64 5, .int .i64 v1, .int .i64 v2, .int .i64 v3, .int .i64 v4, .slice a1 nv k1]] w fun e w' => xw2 e (xq1.mk 5 v1 v2 v3 v4 nv V).Form /\ w.Since w.heap.size w' := by
 have ts : nv + szR V nv <= 1048576 := hd; have sA := sal w (.cells #[.int .i64 5, .int .i64 v1, .int .i64 v2, .int .i64 v3, .int .i64 v4, .slice a1 nv k1] 84); have nA := Box6.new w (.int .i64 5) (.int .i64 v1) (.int .i64 v2) (.int .i64 v3) (.int .i64 v4) (.slice a1 nv k1) 84; obtain ⟨bV, oV, -, LV⟩ := (H.keep sA).LV; go_enter Tryz.func82, Tryz.ntmps82; go_wp2_with fail; generalize w.alloc (.cells #[.int .i64 5, .int .i64 v1, .int .i64 v2, .int .i64 v3, .int .i64 v4, .slice a1 nv k1] 84) = wA at *; refine (xj7 5 1 7 wA).mono ?_; rintro e w1 ⟨⟨r, rfl, hr⟩, hw1⟩; have hw2 := hw1.symm; clear hw1; subst hw2; cases r
 . exfalso
   have := hr.2 (by unfold InP; omega); cases this
 clear hr; have q0 := nA.c0; have q1 := nA.c1; have q2 := nA.c2; have q3 := nA.c3; have q4 := nA.c4; have q5 := nA.c5; have NN := sdr wA; have nD := nA.keep NN; have p0 := nD.c0; have p1 := nD.c1; have p2 := nD.c2; have p3 := nD.c3; have p4 := nD.c4; have p5 := nD.c5; have SD := sA.trans (sM NN sA.size); have JK := yq7 5 true wA.drew (by decide); have JS := yq6 5 false wA.drew (by decide)
 by_cases hk : v3 = 0
 . have kq : (v3 != 0) = false := by simp [hk]
   have NF := hide (show ¬ (xq1.mk 5 v1 v2 v3 v4 nv V).Form from fun f => by have h := f.k; have h2 : 1 <= v3 /\ v3 <= 1000 := h; omega); clear hk; go_wp2_with fail; refine wp_region_held_drew (S := fun w' => w'.cell? ⟨w.heap.size, 0, none⟩ = some (.int .i64 5) /\ w'.cell? ⟨w.heap.size, 3, none⟩ = some (.int .i64 v3)) (by kernel_rfl) ⟨p0, p3⟩ (fun hHeld => ?_); refine tk 0 7 (.pointer (some ⟨w.heap.size, 0, none⟩)) ?_; simp only [ap, la, lz, ls]; refine ta 1 8 (.int .i64 5) ?_ ?_
   . intro w' hSw
     try dsimp only at hSw
     go_simp
   simp only [ap, la, lz, ls]; refine tk 3 10 (.pointer (some ⟨w.heap.size, 3, none⟩)) ?_; simp only [ap, la, lz, ls]; refine ta 4 11 (.int .i64 v3) ?_ ?_
   . intro w' hSw
     try dsimp only at hSw
     go_simp
   simp only [ap, la, lz, ls]; refine ta 5 12 (.bool false) ?_ ?_
   . intro w' hSw
     try dsimp only at hSw
     go_simp
   simp only [ap, la, lz, ls]; refine wpAnyH_ready (rs := [2]) (by kernel_rfl) (by simp) ?_; refine AllReadyH.cons rfl (fun K hK => ?_) AllReadyH.nil; go_simp
   go_wp2_with (go_at_call 121; with_reducible refine JK.mono ?_; rintro e w2 ⟨rfl, rfl⟩)
   refine hK.out _ _ ⟨p0, p3⟩ (fun h1 => ?_); clear hK K hHeld; refine tk 6 13 (.bool true) ?_; simp only [ap, la, lz, ls]; refine tk 7 14 (.bool true) ?_; simp only [ap, la, lz, ls]; refine sk 8 15 ?_; simp only [ap, la, lz, ls]; refine sk 9 16 ?_; simp only [ap, la, lz, ls]; refine sk 10 17 ?_; simp only [ap, la, lz, ls]; refine sk 11 18 ?_; simp only [ap, la, lz, ls]; refine sk 12 19 ?_; simp only [ap, la, lz, ls]; refine sk 13 20 ?_; simp only [ap, la, lz, ls]; refine sk 14 21 ?_; simp only [ap, la, lz, ls]; refine tk 15 22 (.bool true) ?_; simp only [ap, la, lz, ls]; refine wpAnyH_done (by kernel_rfl) ?_ _; go_wp2; go_ret; exact ⟨⟨false, rfl, by simp only [Bool.false_eq_true, false_iff]; exact NF.out⟩, SD⟩
 have kq : (v3 != 0) = true := by simp [hk]
 have HK0 := hide hk; clear hk
 by_cases hs : v4 = 0
 case neg =>
  have sq : (v4 != 0) = true := by simp [hs]
  have NF := hide (show ¬ (xq1.mk 5 v1 v2 v3 v4 nv V).Form from fun f => by have h := f.s; have h2 : v4 = 0 := h; omega); clear hs; go_wp2_with fail
  go_region_held3 (fun w' => w'.cell? ⟨w.heap.size, 0, none⟩ = some (.int .i64 5) /\ w'.cell? ⟨w.heap.size, 3, none⟩ = some (.int .i64 v3) /\ w'.cell? ⟨w.heap.size, 4, none⟩ = some (.int .i64 v4)) (go_keep)
   (first
     | (go_at_call 121
        with_reducible refine JK.mono ?_
        rintro e w2 ⟨rfl, rfl⟩)
     | (go_at_call 122
        with_reducible refine JS.mono ?_
        rintro e w2 ⟨rfl, rfl⟩))
  go_wp2; go_ret; exact ⟨⟨false, rfl, by simp only [Bool.false_eq_true, false_iff]; exact NF.out⟩, SD⟩
 have sq : (v4 != 0) = false := by simp [hs]
 have HS0 := hide hs; clear hs; go_wp2_with fail
 go_region_held3 (fun w' => w'.cell? ⟨w.heap.size, 0, none⟩ = some (.int .i64 5) /\ w'.cell? ⟨w.heap.size, 3, none⟩ = some (.int .i64 v3) /\ w'.cell? ⟨w.heap.size, 4, none⟩ = some (.int .i64 v4)) (go_keep)
  (first
    | (go_at_call 121
       with_reducible refine JK.mono ?_
       rintro e w2 ⟨rfl, rfl⟩)
    | (go_at_call 122
       with_reducible refine JS.mono ?_
       rintro e w2 ⟨rfl, rfl⟩))
 clear q0 q1 q2 q3 q4 q5 JK JS; go_wp2_with fail; refine (xj7 v3 0 1000 wA.drew).mono ?_; rintro e w2 ⟨⟨r, rfl, hr⟩, rfl⟩; cases r
 . have NF := hide (show ¬ (xq1.mk 5 v1 v2 v3 v4 nv V).Form from fun f => by
    have h := f.k; have h3 : InP v3 0 1000 := by unfold InP; have h2 : 1 <= v3 /\ v3 <= 1000 := h; omega
    have := hr.2 h3; cases this)
   clear hr; go_wp2; go_ret; exact ⟨⟨false, rfl, by simp only [Bool.false_eq_true, false_iff]; exact NF.out⟩, SD⟩
 have IK := hide (hr.1 rfl); clear hr; go_wp2_with fail; refine (xj7 v4 0 1000 wA.drew).mono ?_; rintro e w2 ⟨⟨r, rfl, hr⟩, rfl⟩; cases r
 . have NF := hide (show ¬ (xq1.mk 5 v1 v2 v3 v4 nv V).Form from fun f => by
    have h := f.s; have h3 : InP v4 0 1000 := by unfold InP; have h2 : v4 = 0 := h; omega
    have := hr.2 h3; cases this)
   clear hr; go_wp2; go_ret; exact ⟨⟨false, rfl, by simp only [Bool.false_eq_true, false_iff]; exact NF.out⟩, SD⟩
 have IS := hide (hr.1 rfl); clear hr; have JB := xx3 5 false wA.drew (by decide); go_wp2_with fail; refine JB.mono ?_; rintro e w2 ⟨rfl, rfl⟩; clear JB
 by_cases hb : v2 = 0
 case neg =>
  have bq : (v2 != 0) = true := by simp [hb]
  have NF := hide (show ¬ (xq1.mk 5 v1 v2 v3 v4 nv V).Form from fun f => hb (f.b rfl)); clear hb; go_wp2; go_ret; exact ⟨⟨false, rfl, by simp only [Bool.false_eq_true, false_iff]; exact NF.out⟩, SD⟩
 have bq : (v2 != 0) = false := by simp [hb]
 have HB0 := hide hb; clear hb; have JV := yq5 5 false wA.drew (by decide); go_wp2_with fail; refine JV.mono ?_; rintro e w2 ⟨rfl, rfl⟩; clear JV
 by_cases hv : nv = 0
 case neg =>
  have vq : ((nv : Int) != 0) = true := by simp; omega
  have NF := hide (show ¬ (xq1.mk 5 v1 v2 v3 v4 nv V).Form from fun f => hv (f.v rfl)); clear hv; go_wp2; go_ret; exact ⟨⟨false, rfl, by simp only [Bool.false_eq_true, false_iff]; exact NF.out⟩, SD⟩
 have vq : ((nv : Int) != 0) = false := by simp; omega
 have HV0 := hide hv; clear hv; have JA := xx8 a1 lo bV oV nv k1 V wA.drew (by omega) (by omega) (LV.keep NN); go_wp2_with fail; refine JA.mono ?_; rintro e w3 ⟨r, rfl, hr, s3⟩; have HR := hide hr; clear hr; go_wp2; go_ret; exact ⟨⟨r, rfl, HR.out.trans ⟨fun h => ⟨(show (1 : Int) <= 5 by decide), (show (5 : Int) <= 7 by decide), (show 1 <= v3 /\ v3 <= 1000 by have h : 0 <= v3 /\ v3 <= 1000 := IK.out; have := HK0.out; omega), HS0.out, fun _ => HB0.out, fun _ => HV0.out, fun h => (by cases h), fun h => (by cases h), h⟩, fun f => f.ok⟩⟩, SD.trans (sM s3 SD.size)⟩
theorem l2FormOk6 (v1 v2 v3 v4 : Int) (nv : Nat) (V : Nat -> RatD) (a1 : Option Addr) (lo k1 : Nat) (w : World) (hd : (xq1.mk 6 v1 v2 v3 v4 nv V).size <= 1048576) (H : NodL w lo (xq1.mk 6 v1 v2 v3 v4 nv V) a1 k1) :
 Calls Tryz.prog 82 #[.agg #[.int .i64 6, .int .i64 v1, .int .i64 v2, .int .i64 v3, .int .i64 v4, .slice a1 nv k1]] w fun e w' => xw2 e (xq1.mk 6 v1 v2 v3 v4 nv V).Form /\ w.Since w.heap.size w' := by
 have ts : nv + szR V nv <= 1048576 := hd; have sA := sal w (.cells #[.int .i64 6, .int .i64 v1, .int .i64 v2, .int .i64 v3, .int .i64 v4, .slice a1 nv k1] 84); have nA := Box6.new w (.int .i64 6) (.int .i64 v1) (.int .i64 v2) (.int .i64 v3) (.int .i64 v4) (.slice a1 nv k1) 84; obtain ⟨bV, oV, -, LV⟩ := (H.keep sA).LV; go_enter Tryz.func82, Tryz.ntmps82; go_wp2_with fail; generalize w.alloc (.cells #[.int .i64 6, .int .i64 v1, .int .i64 v2, .int .i64 v3, .int .i64 v4, .slice a1 nv k1] 84) = wA at *; refine (xj7 6 1 7 wA).mono ?_; rintro e w1 ⟨⟨r, rfl, hr⟩, hw1⟩; have hw2 := hw1.symm; clear hw1; subst hw2; cases r
 . exfalso
   have := hr.2 (by unfold InP; omega); cases this
 clear hr; have q0 := nA.c0; have q1 := nA.c1; have q2 := nA.c2; have q3 := nA.c3; have q4 := nA.c4; have q5 := nA.c5; have NN := sdr wA; have nD := nA.keep NN; have p0 := nD.c0; have p1 := nD.c1; have p2 := nD.c2; have p3 := nD.c3; have p4 := nD.c4; have p5 := nD.c5; have SD := sA.trans (sM NN sA.size); have JK := yq7 6 true wA.drew (by decide); have JS := yq6 6 true wA.drew (by decide)
 by_cases hk : v3 = 0
 . have kq : (v3 != 0) = false := by simp [hk]
   have NF := hide (show ¬ (xq1.mk 6 v1 v2 v3 v4 nv V).Form from fun f => by have h := f.k; have h2 : 1 <= v3 /\ v3 <= 1000 := h; omega); clear hk; go_wp2_with fail; refine wp_region_held_drew (S := fun w' => w'.cell? ⟨w.heap.size, 0, none⟩ = some (.int .i64 6) /\ w'.cell? ⟨w.heap.size, 3, none⟩ = some (.int .i64 v3)) (by kernel_rfl) ⟨p0, p3⟩ (fun hHeld => ?_); refine tk 0 7 (.pointer (some ⟨w.heap.size, 0, none⟩)) ?_; simp only [ap, la, lz, ls]; refine ta 1 8 (.int .i64 6) ?_ ?_
   . intro w' hSw
     try dsimp only at hSw
     go_simp
   simp only [ap, la, lz, ls]; refine tk 3 10 (.pointer (some ⟨w.heap.size, 3, none⟩)) ?_; simp only [ap, la, lz, ls]; refine ta 4 11 (.int .i64 v3) ?_ ?_
   . intro w' hSw
     try dsimp only at hSw
     go_simp
   simp only [ap, la, lz, ls]; refine ta 5 12 (.bool false) ?_ ?_
   . intro w' hSw
     try dsimp only at hSw
     go_simp
   simp only [ap, la, lz, ls]; refine wpAnyH_ready (rs := [2]) (by kernel_rfl) (by simp) ?_; refine AllReadyH.cons rfl (fun K hK => ?_) AllReadyH.nil; go_simp
   go_wp2_with (go_at_call 121; with_reducible refine JK.mono ?_; rintro e w2 ⟨rfl, rfl⟩)
   refine hK.out _ _ ⟨p0, p3⟩ (fun h1 => ?_); clear hK K hHeld; refine tk 6 13 (.bool true) ?_; simp only [ap, la, lz, ls]; refine tk 7 14 (.bool true) ?_; simp only [ap, la, lz, ls]; refine sk 8 15 ?_; simp only [ap, la, lz, ls]; refine sk 9 16 ?_; simp only [ap, la, lz, ls]; refine sk 10 17 ?_; simp only [ap, la, lz, ls]; refine sk 11 18 ?_; simp only [ap, la, lz, ls]; refine sk 12 19 ?_; simp only [ap, la, lz, ls]; refine sk 13 20 ?_; simp only [ap, la, lz, ls]; refine sk 14 21 ?_; simp only [ap, la, lz, ls]; refine tk 15 22 (.bool true) ?_; simp only [ap, la, lz, ls]; refine wpAnyH_done (by kernel_rfl) ?_ _; go_wp2; go_ret; exact ⟨⟨false, rfl, by simp only [Bool.false_eq_true, false_iff]; exact NF.out⟩, SD⟩
 have kq : (v3 != 0) = true := by simp [hk]
 have HK0 := hide hk; clear hk
 by_cases hs : v4 = 0
 . have sq : (v4 != 0) = false := by simp [hs]
   have NF := hide (show ¬ (xq1.mk 6 v1 v2 v3 v4 nv V).Form from fun f => by have h := f.s; have h2 : 1 <= v4 /\ v4 <= 1000 := h; omega); clear hs; go_wp2_with fail
   go_region_held3 (fun w' => w'.cell? ⟨w.heap.size, 0, none⟩ = some (.int .i64 6) /\ w'.cell? ⟨w.heap.size, 3, none⟩ = some (.int .i64 v3) /\ w'.cell? ⟨w.heap.size, 4, none⟩ = some (.int .i64 v4)) (go_keep)
    (first
      | (go_at_call 121
         with_reducible refine JK.mono ?_
         rintro e w2 ⟨rfl, rfl⟩)
      | (go_at_call 122
         with_reducible refine JS.mono ?_
         rintro e w2 ⟨rfl, rfl⟩))
   go_wp2; go_ret; exact ⟨⟨false, rfl, by simp only [Bool.false_eq_true, false_iff]; exact NF.out⟩, SD⟩
 have sq : (v4 != 0) = true := by simp [hs]
 have HS0 := hide hs; clear hs; go_wp2_with fail
 go_region_held3 (fun w' => w'.cell? ⟨w.heap.size, 0, none⟩ = some (.int .i64 6) /\ w'.cell? ⟨w.heap.size, 3, none⟩ = some (.int .i64 v3) /\ w'.cell? ⟨w.heap.size, 4, none⟩ = some (.int .i64 v4)) (go_keep)
  (first
    | (go_at_call 121
       with_reducible refine JK.mono ?_
       rintro e w2 ⟨rfl, rfl⟩)
    | (go_at_call 122
       with_reducible refine JS.mono ?_
       rintro e w2 ⟨rfl, rfl⟩))
 clear q0 q1 q2 q3 q4 q5 JK JS; go_wp2_with fail; refine (xj7 v3 0 1000 wA.drew).mono ?_; rintro e w2 ⟨⟨r, rfl, hr⟩, rfl⟩; cases r
 . have NF := hide (show ¬ (xq1.mk 6 v1 v2 v3 v4 nv V).Form from fun f => by
    have h := f.k; have h3 : InP v3 0 1000 := by unfold InP; have h2 : 1 <= v3 /\ v3 <= 1000 := h; omega
    have := hr.2 h3; cases this)
   clear hr; go_wp2; go_ret; exact ⟨⟨false, rfl, by simp only [Bool.false_eq_true, false_iff]; exact NF.out⟩, SD⟩
 have IK := hide (hr.1 rfl); clear hr; go_wp2_with fail; refine (xj7 v4 0 1000 wA.drew).mono ?_; rintro e w2 ⟨⟨r, rfl, hr⟩, rfl⟩; cases r
 . have NF := hide (show ¬ (xq1.mk 6 v1 v2 v3 v4 nv V).Form from fun f => by
    have h := f.s; have h3 : InP v4 0 1000 := by unfold InP; have h2 : 1 <= v4 /\ v4 <= 1000 := h; omega
    have := hr.2 h3; cases this)
   clear hr; go_wp2; go_ret; exact ⟨⟨false, rfl, by simp only [Bool.false_eq_true, false_iff]; exact NF.out⟩, SD⟩
 have IS := hide (hr.1 rfl); clear hr; have JB := xx3 6 false wA.drew (by decide); go_wp2_with fail; refine JB.mono ?_; rintro e w2 ⟨rfl, rfl⟩; clear JB
 by_cases hb : v2 = 0
 case neg =>
  have bq : (v2 != 0) = true := by simp [hb]
  have NF := hide (show ¬ (xq1.mk 6 v1 v2 v3 v4 nv V).Form from fun f => hb (f.b rfl)); clear hb; go_wp2; go_ret; exact ⟨⟨false, rfl, by simp only [Bool.false_eq_true, false_iff]; exact NF.out⟩, SD⟩
 have bq : (v2 != 0) = false := by simp [hb]
 have HB0 := hide hb; clear hb; have JV := yq5 6 true wA.drew (by decide); go_wp2_with fail; refine JV.mono ?_; rintro e w2 ⟨rfl, rfl⟩; clear JV; have JA := xx8 a1 lo bV oV nv k1 V wA.drew (by omega) (by omega) (LV.keep NN); go_wp2_with fail; refine JA.mono ?_; rintro e w3 ⟨r, rfl, hr, s3⟩; have HR := hide hr; clear hr; go_wp2; go_ret; exact ⟨⟨r, rfl, HR.out.trans ⟨fun h => ⟨(show (1 : Int) <= 6 by decide), (show (6 : Int) <= 7 by decide), (show 1 <= v3 /\ v3 <= 1000 by have h : 0 <= v3 /\ v3 <= 1000 := IK.out; have := HK0.out; omega), (show 1 <= v4 /\ v4 <= 1000 by have h : 0 <= v4 /\ v4 <= 1000 := IS.out; have := HS0.out; omega), fun _ => HB0.out, fun h => (by cases h), fun h => (by cases h), fun h => (by cases h), h⟩, fun f => f.ok⟩⟩, SD.trans (sM s3 SD.size)⟩
theorem l2FormOk7 (v1 v2 v3 v4 : Int) (nv : Nat) (V : Nat -> RatD) (a1 : Option Addr) (lo k1 : Nat) (w : World) (hd : (xq1.mk 7 v1 v2 v3 v4 nv V).size <= 1048576) (H : NodL w lo (xq1.mk 7 v1 v2 v3 v4 nv V) a1 k1) :
 Calls Tryz.prog 82 #[.agg #[.int .i64 7, .int .i64 v1, .int .i64 v2, .int .i64 v3, .int .i64 v4, .slice a1 nv k1]] w fun e w' => xw2 e (xq1.mk 7 v1 v2 v3 v4 nv V).Form /\ w.Since w.heap.size w' := by
 have ts : nv + szR V nv <= 1048576 := hd; have sA := sal w (.cells #[.int .i64 7, .int .i64 v1, .int .i64 v2, .int .i64 v3, .int .i64 v4, .slice a1 nv k1] 84); have nA := Box6.new w (.int .i64 7) (.int .i64 v1) (.int .i64 v2) (.int .i64 v3) (.int .i64 v4) (.slice a1 nv k1) 84; obtain ⟨bV, oV, -, LV⟩ := (H.keep sA).LV; go_enter Tryz.func82, Tryz.ntmps82; go_wp2_with fail; generalize w.alloc (.cells #[.int .i64 7, .int .i64 v1, .int .i64 v2, .int .i64 v3, .int .i64 v4, .slice a1 nv k1] 84) = wA at *; refine (xj7 7 1 7 wA).mono ?_; rintro e w1 ⟨⟨r, rfl, hr⟩, hw1⟩; have hw2 := hw1.symm; clear hw1; subst hw2; cases r
 . exfalso
   have := hr.2 (by unfold InP; omega); cases this
 clear hr; have q0 := nA.c0; have q1 := nA.c1; have q2 := nA.c2; have q3 := nA.c3; have q4 := nA.c4; have q5 := nA.c5; have NN := sdr wA; have nD := nA.keep NN; have p0 := nD.c0; have p1 := nD.c1; have p2 := nD.c2; have p3 := nD.c3; have p4 := nD.c4; have p5 := nD.c5; have SD := sA.trans (sM NN sA.size); have JK := yq7 7 false wA.drew (by decide); have JS := yq6 7 false wA.drew (by decide)
 by_cases hk : v3 = 0
 case neg =>
  have kq : (v3 != 0) = true := by simp [hk]
  have NF := hide (show ¬ (xq1.mk 7 v1 v2 v3 v4 nv V).Form from fun f => by have h := f.k; have h2 : v3 = 0 := h; omega); clear hk; go_wp2_with fail; refine wp_region_held_drew (S := fun w' => w'.cell? ⟨w.heap.size, 0, none⟩ = some (.int .i64 7) /\ w'.cell? ⟨w.heap.size, 3, none⟩ = some (.int .i64 v3)) (by kernel_rfl) ⟨p0, p3⟩ (fun hHeld => ?_); refine tk 0 7 (.pointer (some ⟨w.heap.size, 0, none⟩)) ?_; simp only [ap, la, lz, ls]; refine ta 1 8 (.int .i64 7) ?_ ?_
  . intro w' hSw
    try dsimp only at hSw
    go_simp
  simp only [ap, la, lz, ls]; refine tk 3 10 (.pointer (some ⟨w.heap.size, 3, none⟩)) ?_; simp only [ap, la, lz, ls]; refine ta 4 11 (.int .i64 v3) ?_ ?_
  . intro w' hSw
    try dsimp only at hSw
    go_simp
  simp only [ap, la, lz, ls]; refine ta 5 12 (.bool true) ?_ ?_
  . intro w' hSw
    try dsimp only at hSw
    go_simp
  simp only [ap, la, lz, ls]; refine wpAnyH_ready (rs := [2]) (by kernel_rfl) (by simp) ?_; refine AllReadyH.cons rfl (fun K hK => ?_) AllReadyH.nil; go_simp
  go_wp2_with (go_at_call 121; with_reducible refine JK.mono ?_; rintro e w2 ⟨rfl, rfl⟩)
  refine hK.out _ _ ⟨p0, p3⟩ (fun h1 => ?_); clear hK K hHeld; refine tk 6 13 (.bool true) ?_; simp only [ap, la, lz, ls]; refine tk 7 14 (.bool true) ?_; simp only [ap, la, lz, ls]; refine sk 8 15 ?_; simp only [ap, la, lz, ls]; refine sk 9 16 ?_; simp only [ap, la, lz, ls]; refine sk 10 17 ?_; simp only [ap, la, lz, ls]; refine sk 11 18 ?_; simp only [ap, la, lz, ls]; refine sk 12 19 ?_; simp only [ap, la, lz, ls]; refine sk 13 20 ?_; simp only [ap, la, lz, ls]; refine sk 14 21 ?_; simp only [ap, la, lz, ls]; refine tk 15 22 (.bool true) ?_; simp only [ap, la, lz, ls]; refine wpAnyH_done (by kernel_rfl) ?_ _; go_wp2; go_ret; exact ⟨⟨false, rfl, by simp only [Bool.false_eq_true, false_iff]; exact NF.out⟩, SD⟩
 have kq : (v3 != 0) = false := by simp [hk]
 have HK0 := hide hk; clear hk
 by_cases hs : v4 = 0
 case neg =>
  have sq : (v4 != 0) = true := by simp [hs]
  have NF := hide (show ¬ (xq1.mk 7 v1 v2 v3 v4 nv V).Form from fun f => by have h := f.s; have h2 : v4 = 0 := h; omega); clear hs; go_wp2_with fail
  go_region_held3 (fun w' => w'.cell? ⟨w.heap.size, 0, none⟩ = some (.int .i64 7) /\ w'.cell? ⟨w.heap.size, 3, none⟩ = some (.int .i64 v3) /\ w'.cell? ⟨w.heap.size, 4, none⟩ = some (.int .i64 v4)) (go_keep)
   (first
     | (go_at_call 121
        with_reducible refine JK.mono ?_
        rintro e w2 ⟨rfl, rfl⟩)
     | (go_at_call 122
        with_reducible refine JS.mono ?_
        rintro e w2 ⟨rfl, rfl⟩))
  go_wp2; go_ret; exact ⟨⟨false, rfl, by simp only [Bool.false_eq_true, false_iff]; exact NF.out⟩, SD⟩
 have sq : (v4 != 0) = false := by simp [hs]
 have HS0 := hide hs; clear hs; go_wp2_with fail
 go_region_held3 (fun w' => w'.cell? ⟨w.heap.size, 0, none⟩ = some (.int .i64 7) /\ w'.cell? ⟨w.heap.size, 3, none⟩ = some (.int .i64 v3) /\ w'.cell? ⟨w.heap.size, 4, none⟩ = some (.int .i64 v4)) (go_keep)
  (first
    | (go_at_call 121
       with_reducible refine JK.mono ?_
       rintro e w2 ⟨rfl, rfl⟩)
    | (go_at_call 122
       with_reducible refine JS.mono ?_
       rintro e w2 ⟨rfl, rfl⟩))
 clear q0 q1 q2 q3 q4 q5 JK JS; go_wp2_with fail; refine (xj7 v3 0 1000 wA.drew).mono ?_; rintro e w2 ⟨⟨r, rfl, hr⟩, rfl⟩; cases r
 . have NF := hide (show ¬ (xq1.mk 7 v1 v2 v3 v4 nv V).Form from fun f => by
    have h := f.k; have h3 : InP v3 0 1000 := by unfold InP; have h2 : v3 = 0 := h; omega
    have := hr.2 h3; cases this)
   clear hr; go_wp2; go_ret; exact ⟨⟨false, rfl, by simp only [Bool.false_eq_true, false_iff]; exact NF.out⟩, SD⟩
 have IK := hide (hr.1 rfl); clear hr; go_wp2_with fail; refine (xj7 v4 0 1000 wA.drew).mono ?_; rintro e w2 ⟨⟨r, rfl, hr⟩, rfl⟩; cases r
 . have NF := hide (show ¬ (xq1.mk 7 v1 v2 v3 v4 nv V).Form from fun f => by
    have h := f.s; have h3 : InP v4 0 1000 := by unfold InP; have h2 : v4 = 0 := h; omega
    have := hr.2 h3; cases this)
   clear hr; go_wp2; go_ret; exact ⟨⟨false, rfl, by simp only [Bool.false_eq_true, false_iff]; exact NF.out⟩, SD⟩
 have IS := hide (hr.1 rfl); clear hr; have JB := xx3 7 false wA.drew (by decide); go_wp2_with fail; refine JB.mono ?_; rintro e w2 ⟨rfl, rfl⟩; clear JB
 by_cases hb : v2 = 0
 case neg =>
  have bq : (v2 != 0) = true := by simp [hb]
  have NF := hide (show ¬ (xq1.mk 7 v1 v2 v3 v4 nv V).Form from fun f => hb (f.b rfl)); clear hb; go_wp2; go_ret; exact ⟨⟨false, rfl, by simp only [Bool.false_eq_true, false_iff]; exact NF.out⟩, SD⟩
 have bq : (v2 != 0) = false := by simp [hb]
 have HB0 := hide hb; clear hb; have JV := yq5 7 true wA.drew (by decide); go_wp2_with fail; refine JV.mono ?_; rintro e w2 ⟨rfl, rfl⟩; clear JV
 by_cases hv : nv = 4
 case neg =>
  have vq : ((nv : Int) != 4) = true := by simp; omega
  have NF := hide (show ¬ (xq1.mk 7 v1 v2 v3 v4 nv V).Form from fun f => hv (f.v7 rfl)); clear hv; go_wp2; go_ret; exact ⟨⟨false, rfl, by simp only [Bool.false_eq_true, false_iff]; exact NF.out⟩, SD⟩
 have vq : ((nv : Int) != 4) = false := by simp; omega
 have HV0 := hide hv; clear hv; have JA := xx8 a1 lo bV oV nv k1 V wA.drew (by omega) (by omega) (LV.keep NN); go_wp2_with fail; refine JA.mono ?_; rintro e w3 ⟨r, rfl, hr, s3⟩; have HR := hide hr; clear hr; go_wp2; go_ret; exact ⟨⟨r, rfl, HR.out.trans ⟨fun h => ⟨(show (1 : Int) <= 7 by decide), (show (7 : Int) <= 7 by decide), HK0.out, HS0.out, fun _ => HB0.out, fun h => (by cases h), fun h => (by cases h), fun _ => HV0.out, h⟩, fun f => f.ok⟩⟩, SD.trans (sM s3 SD.size)⟩
end Go.Proofs.YthaomfabdghfjaaGreat
