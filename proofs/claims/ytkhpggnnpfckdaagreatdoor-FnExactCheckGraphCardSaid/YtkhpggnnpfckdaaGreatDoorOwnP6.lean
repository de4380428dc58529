import Derived.Test.YtkhpggnnpfckdaaGreatDoorOwnP5
import Derived.Test.YtkhpggnnpfckdaaGreatDoorOwnP2
namespace Go.Proofs.YtkhpggnnpfckdaaGreatDoor
open Go.RowKit

theorem pow2_unique {a b p q : Nat} (h : 2 ^ a * (2 * p + 1) = 2 ^ b * (2 * q + 1)) : a = b := by
  rcases Nat.lt_trichotomy a b with hl | he | hl
  · exfalso
    rw [show b = a + (b - a - 1 + 1) by omega, Nat.pow_add, Nat.mul_assoc] at h
    have h2 := Nat.eq_of_mul_eq_mul_left (Nat.pow_pos (by omega)) h
    rw [Nat.pow_succ, Nat.mul_comm (2 ^ (b - a - 1)) 2, Nat.mul_assoc] at h2
    omega
  · exact he
  · exfalso
    rw [show a = b + (a - b - 1 + 1) by omega, Nat.pow_add, Nat.mul_assoc] at h
    have h2 := Nat.eq_of_mul_eq_mul_left (Nat.pow_pos (by omega)) h
    rw [Nat.pow_succ, Nat.mul_comm (2 ^ (a - b - 1)) 2, Nat.mul_assoc] at h2
    omega

set_option maxHeartbeats 6400000 in
set_option maxRecDepth 100000 in
theorem becomeGcd_any (base c d gn gm : Nat) (an am : Option Addr) (n m cn cm : Nat) (X Y : Nat → Nat) (w0 w : World) (hb : 0 < base) (hn : n ≤ 16777216) (hm : m ≤ 16777216) (hG : Gd base w0 w c d gn gm an am n m cn cm X Y) (hT : Tab w0) :
    Calls Tryz.prog 141 #[.pointer (some ⟨c, 0, none⟩), .pointer (some ⟨d, 0, none⟩)] w fun e w' => e = .returned (.tuple #[]) ∧ ∃ a g k cp Z, w'.cell? ⟨c, 0, none⟩ = some (.slice a k cp) ∧ k ≤ cp ∧ k ≤ 67108864 ∧ (a = none → cp = 0) ∧ Limbs w' a g 0 k Z ∧ (0 < k → ∀ x, w'.frozen? ⟨g, x, none⟩ = false) ∧
      (∀ j, j < k → Z j < 4294967296) ∧ (0 < k → Z (k - 1) ≠ 0) ∧ lv Z k = Nat.gcd (lv X n) (lv Y m) ∧ base ≤ g ∧ w0.Since base w' := by
  obtain ⟨G, hGe⟩ : ∃ G, G = Nat.gcd (lv X n) (lv Y m) := ⟨_, rfl⟩
  have HG := hide hGe
  rw [← hGe]
  clear hGe
  have b1 := hG.bC
  have b2 := hG.bD
  go_enter Tryz.func141, Tryz.ntmps141
  go_wp2_with fail
  refine (compare_any c 0 an am gn 0 n cn gm 0 m cm X Y _ (by omega) (by omega) b1 hG.LX hG.LY hG.lX hG.lY hG.pX hG.pY).mono ?_
  rintro e w2 ⟨rfl, s2⟩
  have hG := hG.same s2
  clear s2 b1 b2
  have b1 := hG.bC
  have b2 := hG.bD
  by_cases hlt : lv X n < lv Y m
  · have hci := cmpN_neg hlt
    have HG' : Hid (G = Nat.gcd (lv Y m) (lv X n)) := by rw [Nat.gcd_comm]; exact HG
    clear hlt HG
    generalize cmpN (lv X n) (lv Y m) = z at *
    have f1 := hG.fC
    have f2 := hG.fD
    have d1 := hG.d1
    have hG := hG.swap.same (Same.refl _).drew
    go_wp2
    go_region
    clear b1 b2 f1 f2 d1
    generalize ((w2.setCell ⟨c, 0, none⟩ (.slice am m cm)).setCell ⟨d, 0, none⟩ (.slice an n cn)).drew = w4 at *
    obtain ⟨X', e0⟩ : ∃ x, x = Y := ⟨_, rfl⟩
    obtain ⟨Y', e1⟩ : ∃ x, x = X := ⟨_, rfl⟩
    obtain ⟨n', e2⟩ : ∃ x, x = m := ⟨_, rfl⟩
    obtain ⟨m', e3⟩ : ∃ x, x = n := ⟨_, rfl⟩
    obtain ⟨an', e4⟩ : ∃ x, x = am := ⟨_, rfl⟩
    obtain ⟨am', e5⟩ : ∃ x, x = an := ⟨_, rfl⟩
    obtain ⟨gn', e6⟩ : ∃ x, x = gm := ⟨_, rfl⟩
    obtain ⟨gm', e7⟩ : ∃ x, x = gn := ⟨_, rfl⟩
    obtain ⟨cn', e8⟩ : ∃ x, x = cm := ⟨_, rfl⟩
    obtain ⟨cm', e9⟩ : ∃ x, x = cn := ⟨_, rfl⟩
    subst e0 e1 e2 e3 e4 e5 e6 e7 e8 e9
    -- the first is the greater
    have g1 := hG.bC
    have g2 := hG.bD
    go_wp2_with fail
    refine (isZero_any d 0 _ m' cm' _ g2).mono ?_
    rintro e w5 ⟨rfl, hw5⟩
    rw [hw5]
    clear hw5
    by_cases hz : m' = 0
    · subst hz
      have HGv : Hid (lv X' n' = G) := by have h := HG'.out; rw [show lv Y' 0 = 0 from rfl, Nat.gcd_zero_right] at h; exact h.symm
      go_wp2
      refine bodyPost_ret (results_none rfl _ _ _) rfl ?_
      exact ⟨rfl, an', gn', n', cn', X', hG.bC, hG.nX, by omega, hG.oX, hG.LX, hG.FX, hG.lX, hG.pX, HGv.out, hG.hn, hG.S⟩
    · have hne : ((m' : Int) == 0) = false := by simp; omega
      have hm1 : 0 < m' := by omega
      have hYp : 0 < lv Y' m' := by
        have := lv_ge Y' m' hm1 (hG.pY hm1)
        have := Nat.pow_pos (n := 32 * (m' - 1)) (show 0 < 2 by omega)
        omega
      have HYp := hide hYp
      clear hYp hz
      have zC : c < w4.heap.size := World.block_lt_of_cell? _ _ hG.bC
      have zD : d < w4.heap.size := World.block_lt_of_cell? _ _ hG.bD
      have zM : gm' < w4.heap.size := hG.LY.lt hm1
      go_wp2_with fail
      refine (divideBy_any c 0 an' am' gn' n' cn' gm' m' cm' X' Y' _ (by omega) hG.nX hG.oX hm1 (by omega) g1 hG.fC hG.LX hG.LY hG.lX hG.lY hG.FX (Ne.symm hG.d3) hG.LX.lt hG.pX (hG.pY hm1)).mono ?_
      rintro e w5 ⟨vq, vr, gq, gr, rfl, k1, -, ⟨ar, nr, cr, R, rfl, r1, r2, r3, r4, r5, r6, r7, r8⟩, -, k5, -, -, k8, fr⟩
      have hbw : base ≤ w4.heap.size := by have := hG.hc; omega
      have hgr : base ≤ gr := by rcases k5 with h | h; (rw [h]; exact hG.hn); omega
      have hgm : gr ≠ gm' := by rcases k5 with h | h; (rw [h]; exact hG.d2); omega
      have hgd : gr ≠ d := by rcases k5 with h | h; (rw [h]; exact hG.d4); omega
      have S5 : w0.Since base w5 := ⟨fr.os.trans hG.S.os, fr.tape.trans hG.S.tape, fr.output.trans hG.S.output, Nat.le_trans hG.S.size fr.size, fun k hk => (fr.block k (by omega) (by have := hG.hc; omega) (by have := hG.hn; omega)).trans (hG.S.block k hk)⟩
      have eD := fr.block d zD (Ne.symm hG.d1) (Ne.symm hG.d4)
      have eM := fr.block gm' zM hG.d5 (Ne.symm hG.d2)
      have G5 : Gd base w0 w5 c d gr gm' ar am' nr m' cr cm' R Y' := ⟨S5, k1, (World.cell?_of_block (w := w4) (a := ⟨d, 0, none⟩) eD).trans hG.bD, by rw [fr.frozen]; exact hG.fC, (World.frozen?_of_block (w := w4) (a := ⟨d, 0, none⟩) eD).trans hG.fD,
        r4, fun j hj => ⟨(hG.LY j hj).1, (World.cell?_of_block (w := w4) (a := ⟨gm', 0 + j, none⟩) eM).trans (hG.LY j hj).2⟩, r5, fun h x => (World.frozen?_of_block (w := w4) (a := ⟨gm', x, none⟩) eM).trans (hG.FY h x), r1, hG.nY, r3, hG.oY, r6, hG.lY, r7, hG.pY,
        hG.hc, hG.hd, hgr, hG.hm, hG.d1, hgm, k8, hgd, hG.d5, hG.d6⟩
      have HR := hide r8
      have HG5 : Hid (G = Nat.gcd (lv R nr) (lv Y' m')) := by have h := HG'.out; rw [Nat.gcd_comm, Nat.gcd_rec, ← r8] at h; exact h
      clear k1 r1 r3 r4 r5 r6 r7 r8 k5 k8 fr S5 eD eM hG HG' g1 g2
      have g1 := G5.bC
      have g2 := G5.bD
      go_wp2_with fail
      refine (isZero_any c 0 _ nr cr _ g1).mono ?_
      rintro e w6 ⟨rfl, hw6⟩
      rw [hw6]
      clear hw6
      by_cases hz : nr = 0
      · subst hz
        have HGv : Hid (lv Y' m' = G) := by have h := HG5.out; rw [show lv R 0 = 0 from rfl, Nat.gcd_zero_left] at h; exact h.symm
        have f1 := G5.fC
        go_wp2
        refine bodyPost_ret (results_none rfl _ _ _) rfl ?_
        exact ⟨rfl, am', gm', m', cm', Y', World.cell?_setCell_same _ _ _ G5.bC, G5.nY, by omega, G5.oY, G5.LY.setOther (Ne.symm G5.d5) _, fun h x => by simp [G5.FY h x], G5.lY, G5.pY, HGv.out, G5.hm, G5.S.setCell G5.hc _⟩
      · have hne2 : ((nr : Int) == 0) = false := by simp; omega
        have hn1 : 0 < nr := by omega
        have hRp : 0 < lv R nr := by
          have := lv_ge R nr hn1 (G5.pX hn1)
          have := Nat.pow_pos (n := 32 * (nr - 1)) (show 0 < 2 by omega)
          omega
        have HRp := hide hRp
        clear hRp hz
        go_wp2_with fail
        refine (twos_any c 0 ar gr 0 nr cr R _ (by omega) g1 G5.LX G5.lX HRp.out (hT.since G5.S hb)).mono ?_
        rintro e w7 ⟨i1, s1, q1, rfl, hw7, hi1, hs1, hv1⟩
        rw [hw7]
        clear hw7
        have HV1 := hide hv1
        clear hv1
        go_wp2_with fail
        refine (twos_any d 0 am' gm' 0 m' cm' Y' _ (by omega) g2 G5.LY G5.lY HYp.out (hT.since G5.S hb)).mono ?_
        rintro e w7 ⟨i2, s2, q2, rfl, hw7, hi2, hs2, hv2⟩
        rw [hw7]
        clear hw7
        have HV2 := hide hv2
        clear hv2
        have ear := limbs_some G5.LX hn1
        subst ear
        have eam := limbs_some G5.LY hm1
        subst eam
        by_cases hmin : 32 * i1 + s1 ≤ 32 * i2 + s2
        · have hmi : (32 : Int) * (i1 : Int) + (s1 : Int) ≤ 32 * (i2 : Int) + (s2 : Int) := by omega
          go_wp2_with fail
          refine (twos_any c 0 _ gr 0 nr cr R _ (by omega) g1 G5.LX G5.lX HRp.out (hT.since G5.S hb)).mono ?_
          rintro e w7 ⟨i3, s3, q3, rfl, hw7, hi3, hs3, hv3⟩
          rw [hw7]
          clear hw7
          have HV3 := hide hv3
          clear hv3
          go_wp2_with fail
          try rw [show (32 : Int) * (i3 : Int) + (s3 : Int) = ((32 * i3 + s3 : Nat) : Int) by omega]
          refine (shiftRight_any c 0 gr nr cr i3 s3 R _ (by omega) G5.nX hi3 hs3 G5.LX G5.lX g1 G5.fC (G5.FX hn1) (Ne.symm G5.d3)).mono ?_
          rintro e w8 ⟨rfl, w9, S1, k1, mk9, L9, hk1, l9, v9, hw8⟩
          have G6 := G5.setC mk9 L9 hk1 l9
          rw [← hw8] at G6
          have HO1 : Hid (lv S1 (tlen (nz S1) k1) = 2 * q3 + 1) := by show _ = _; rw [lv_tlen, v9, HV3.out, Nat.mul_div_cancel_left _ (Nat.pow_pos (by omega))]
          have t1 := tlen_le (nz S1) k1
          clear hw8 mk9 L9 l9 v9 G5 g1 g2
          have g1 := G6.bC
          have g2 := G6.bD
          go_wp2_with fail
          refine (twos_any d 0 _ gm' 0 m' cm' Y' _ (by omega) g2 G6.LY G6.lY HYp.out (hT.since G6.S hb)).mono ?_
          rintro e w9 ⟨i4, s4, q4, rfl, hw9, hi4, hs4, hv4⟩
          rw [hw9]
          clear hw9
          have HV4 := hide hv4
          clear hv4
          go_wp2_with fail
          try rw [show (32 : Int) * (i4 : Int) + (s4 : Int) = ((32 * i4 + s4 : Nat) : Int) by omega]
          refine (shiftRight_any d 0 gm' m' cm' i4 s4 Y' _ (by omega) G6.nY hi4 hs4 G6.LY G6.lY g2 G6.fD (G6.FY hm1) (Ne.symm G6.d6)).mono ?_
          rintro e w10 ⟨rfl, w11, S2, k2, mk11, L11, hk2, l11, v11, hw10⟩
          have G7 := G6.setD mk11 L11 hk2 l11
          rw [← hw10] at G7
          have HO2 : Hid (lv S2 (tlen (nz S2) k2) = 2 * q4 + 1) := by show _ = _; rw [lv_tlen, v11, HV4.out, Nat.mul_div_cancel_left _ (Nat.pow_pos (by omega))]
          have t2 := tlen_le (nz S2) k2
          clear hw10 mk11 L11 l11 v11 G6 g1 g2
          go_wp2_with fail
          refine (becomeOddGcd_any base c d gr gm' _ _ _ _ _ _ S1 S2 w0 _ hb (by omega) (by omega) G7 (by rw [HO1.out]; omega) (by rw [HO2.out]; omega) hT).mono ?_
          rintro e w12 ⟨rfl, a5, g5, k5, c5, Z5, p1, p2, p3, p4, p5, p6, p7, p8, p9, p10, p11, p12, p13⟩
          have zc := World.block_lt_of_cell? _ _ p1
          have hfin : lv Z5 k5 * 2 ^ (32 * i1 + s1) = G := by
            have e1 : 32 * i3 + s3 = 32 * i1 + s1 := pow2_unique (HV3.out.symm.trans HV1.out)
            have e2 : 32 * i4 + s4 = 32 * i2 + s2 := pow2_unique (HV4.out.symm.trans HV2.out)
            have h := HG5.out
            rw [HV3.out, HV4.out, gcd_twos (by omega) (by omega), ← HO1.out, ← HO2.out, ← p9, e1, e2, show min (32 * i1 + s1) (32 * i2 + s2) = 32 * i1 + s1 by omega, Nat.mul_comm] at h
            exact h.symm
          have HF := hide hfin
          have hbc := G7.hc
          clear p9 hfin G7
          go_wp2_with fail
          try rw [show (32 : Int) * (i1 : Int) + (s1 : Int) = ((32 * i1 + s1 : Nat) : Int) by omega]
          refine (shiftLeft_any c 0 a5 g5 0 k5 c5 i1 s1 Z5 _ (by omega) (by omega) (by omega) p5 p7 p1 p12).mono ?_
          rintro e w13 ⟨rfl, w14, S4, s14, r14, l14, v14, hw13⟩
          have zc2 : c < w12.heap.size := zc
          have q1 : w14.cell? ⟨c, 0, none⟩ = some (.slice a5 k5 c5) := by rw [s14.cell (a := ⟨c, 0, none⟩) zc]; exact p1
          have S13 : w0.Since base w13 := by rw [hw13]; exact (p13.trans (sinceMono s14 (by omega))).setCell hbc _
          have C13 : w13.cell? ⟨c, 0, none⟩ = some (.slice (some ⟨w12.heap.size, 0, none⟩) (tlen (nz S4) (k5 + i1 + 1)) (k5 + i1 + 1)) := by rw [hw13]; exact World.cell?_setCell_same _ _ _ q1
          have R13 : w13.rowIs w12.heap.size 119 (k5 + i1 + 1) (fun j => .int .u32 (S4 j : Nat)) := by rw [hw13]; exact r14.setOther (by show w12.heap.size ≠ c; omega) _
          have HV := hide (v14.trans HF.out)
          clear hw13 v14 q1 r14 s14 p1 p5 p13
          go_wp2
          go_end0
          have t3 := tlen_le (nz S4) (k5 + i1 + 1)
          refine ⟨rfl, _, w12.heap.size, _, _, S4, C13, t3, by omega, fun h => (by cases h), (limbs_row R13).take t3, fun _ x => R13.frozen x, fun j _ => l14 j, fun h => ?_, (lv_tlen _ _).trans HV.out, by omega, S13⟩
          have := tlen_top _ _ h; simpa [nz] using this
        · have hmi : (32 : Int) * (i2 : Int) + (s2 : Int) < 32 * (i1 : Int) + (s1 : Int) := by omega
          go_wp2_with fail
          refine (twos_any c 0 _ gr 0 nr cr R _ (by omega) g1 G5.LX G5.lX HRp.out (hT.since G5.S hb)).mono ?_
          rintro e w7 ⟨i3, s3, q3, rfl, hw7, hi3, hs3, hv3⟩
          rw [hw7]
          clear hw7
          have HV3 := hide hv3
          clear hv3
          go_wp2_with fail
          try rw [show (32 : Int) * (i3 : Int) + (s3 : Int) = ((32 * i3 + s3 : Nat) : Int) by omega]
          refine (shiftRight_any c 0 gr nr cr i3 s3 R _ (by omega) G5.nX hi3 hs3 G5.LX G5.lX g1 G5.fC (G5.FX hn1) (Ne.symm G5.d3)).mono ?_
          rintro e w8 ⟨rfl, w9, S1, k1, mk9, L9, hk1, l9, v9, hw8⟩
          have G6 := G5.setC mk9 L9 hk1 l9
          rw [← hw8] at G6
          have HO1 : Hid (lv S1 (tlen (nz S1) k1) = 2 * q3 + 1) := by show _ = _; rw [lv_tlen, v9, HV3.out, Nat.mul_div_cancel_left _ (Nat.pow_pos (by omega))]
          have t1 := tlen_le (nz S1) k1
          clear hw8 mk9 L9 l9 v9 G5 g1 g2
          have g1 := G6.bC
          have g2 := G6.bD
          go_wp2_with fail
          refine (twos_any d 0 _ gm' 0 m' cm' Y' _ (by omega) g2 G6.LY G6.lY HYp.out (hT.since G6.S hb)).mono ?_
          rintro e w9 ⟨i4, s4, q4, rfl, hw9, hi4, hs4, hv4⟩
          rw [hw9]
          clear hw9
          have HV4 := hide hv4
          clear hv4
          go_wp2_with fail
          try rw [show (32 : Int) * (i4 : Int) + (s4 : Int) = ((32 * i4 + s4 : Nat) : Int) by omega]
          refine (shiftRight_any d 0 gm' m' cm' i4 s4 Y' _ (by omega) G6.nY hi4 hs4 G6.LY G6.lY g2 G6.fD (G6.FY hm1) (Ne.symm G6.d6)).mono ?_
          rintro e w10 ⟨rfl, w11, S2, k2, mk11, L11, hk2, l11, v11, hw10⟩
          have G7 := G6.setD mk11 L11 hk2 l11
          rw [← hw10] at G7
          have HO2 : Hid (lv S2 (tlen (nz S2) k2) = 2 * q4 + 1) := by show _ = _; rw [lv_tlen, v11, HV4.out, Nat.mul_div_cancel_left _ (Nat.pow_pos (by omega))]
          have t2 := tlen_le (nz S2) k2
          clear hw10 mk11 L11 l11 v11 G6 g1 g2
          go_wp2_with fail
          refine (becomeOddGcd_any base c d gr gm' _ _ _ _ _ _ S1 S2 w0 _ hb (by omega) (by omega) G7 (by rw [HO1.out]; omega) (by rw [HO2.out]; omega) hT).mono ?_
          rintro e w12 ⟨rfl, a5, g5, k5, c5, Z5, p1, p2, p3, p4, p5, p6, p7, p8, p9, p10, p11, p12, p13⟩
          have zc := World.block_lt_of_cell? _ _ p1
          have hfin : lv Z5 k5 * 2 ^ (32 * i2 + s2) = G := by
            have e1 : 32 * i3 + s3 = 32 * i1 + s1 := pow2_unique (HV3.out.symm.trans HV1.out)
            have e2 : 32 * i4 + s4 = 32 * i2 + s2 := pow2_unique (HV4.out.symm.trans HV2.out)
            have h := HG5.out
            rw [HV3.out, HV4.out, gcd_twos (by omega) (by omega), ← HO1.out, ← HO2.out, ← p9, e1, e2, show min (32 * i1 + s1) (32 * i2 + s2) = 32 * i2 + s2 by omega, Nat.mul_comm] at h
            exact h.symm
          have HF := hide hfin
          have hbc := G7.hc
          clear p9 hfin G7
          go_wp2_with fail
          try rw [show (32 : Int) * (i2 : Int) + (s2 : Int) = ((32 * i2 + s2 : Nat) : Int) by omega]
          refine (shiftLeft_any c 0 a5 g5 0 k5 c5 i2 s2 Z5 _ (by omega) (by omega) (by omega) p5 p7 p1 p12).mono ?_
          rintro e w13 ⟨rfl, w14, S4, s14, r14, l14, v14, hw13⟩
          have zc2 : c < w12.heap.size := zc
          have q1 : w14.cell? ⟨c, 0, none⟩ = some (.slice a5 k5 c5) := by rw [s14.cell (a := ⟨c, 0, none⟩) zc]; exact p1
          have S13 : w0.Since base w13 := by rw [hw13]; exact (p13.trans (sinceMono s14 (by omega))).setCell hbc _
          have C13 : w13.cell? ⟨c, 0, none⟩ = some (.slice (some ⟨w12.heap.size, 0, none⟩) (tlen (nz S4) (k5 + i2 + 1)) (k5 + i2 + 1)) := by rw [hw13]; exact World.cell?_setCell_same _ _ _ q1
          have R13 : w13.rowIs w12.heap.size 119 (k5 + i2 + 1) (fun j => .int .u32 (S4 j : Nat)) := by rw [hw13]; exact r14.setOther (by show w12.heap.size ≠ c; omega) _
          have HV := hide (v14.trans HF.out)
          clear hw13 v14 q1 r14 s14 p1 p5 p13
          go_wp2
          go_end0
          have t3 := tlen_le (nz S4) (k5 + i2 + 1)
          refine ⟨rfl, _, w12.heap.size, _, _, S4, C13, t3, by omega, fun h => (by cases h), (limbs_row R13).take t3, fun _ x => R13.frozen x, fun j _ => l14 j, fun h => ?_, (lv_tlen _ _).trans HV.out, by omega, S13⟩
          have := tlen_top _ _ h; simpa [nz] using this
  · have hci := cmpN_nonneg (Nat.le_of_not_lt hlt)
    have HG' := HG
    clear hlt HG
    generalize cmpN (lv X n) (lv Y m) = z at *
    clear b1 b2
    obtain ⟨w4, ew⟩ : ∃ x, x = w2 := ⟨_, rfl⟩
    subst ew
    obtain ⟨X', e0⟩ : ∃ x, x = X := ⟨_, rfl⟩
    obtain ⟨Y', e1⟩ : ∃ x, x = Y := ⟨_, rfl⟩
    obtain ⟨n', e2⟩ : ∃ x, x = n := ⟨_, rfl⟩
    obtain ⟨m', e3⟩ : ∃ x, x = m := ⟨_, rfl⟩
    obtain ⟨an', e4⟩ : ∃ x, x = an := ⟨_, rfl⟩
    obtain ⟨am', e5⟩ : ∃ x, x = am := ⟨_, rfl⟩
    obtain ⟨gn', e6⟩ : ∃ x, x = gn := ⟨_, rfl⟩
    obtain ⟨gm', e7⟩ : ∃ x, x = gm := ⟨_, rfl⟩
    obtain ⟨cn', e8⟩ : ∃ x, x = cn := ⟨_, rfl⟩
    obtain ⟨cm', e9⟩ : ∃ x, x = cm := ⟨_, rfl⟩
    subst e0 e1 e2 e3 e4 e5 e6 e7 e8 e9
    -- the first is the greater
    have g1 := hG.bC
    have g2 := hG.bD
    go_wp2_with fail
    refine (isZero_any d 0 _ m' cm' _ g2).mono ?_
    rintro e w5 ⟨rfl, hw5⟩
    rw [hw5]
    clear hw5
    by_cases hz : m' = 0
    · subst hz
      have HGv : Hid (lv X' n' = G) := by have h := HG'.out; rw [show lv Y' 0 = 0 from rfl, Nat.gcd_zero_right] at h; exact h.symm
      go_wp2
      refine bodyPost_ret (results_none rfl _ _ _) rfl ?_
      exact ⟨rfl, an', gn', n', cn', X', hG.bC, hG.nX, by omega, hG.oX, hG.LX, hG.FX, hG.lX, hG.pX, HGv.out, hG.hn, hG.S⟩
    · have hne : ((m' : Int) == 0) = false := by simp; omega
      have hm1 : 0 < m' := by omega
      have hYp : 0 < lv Y' m' := by
        have := lv_ge Y' m' hm1 (hG.pY hm1)
        have := Nat.pow_pos (n := 32 * (m' - 1)) (show 0 < 2 by omega)
        omega
      have HYp := hide hYp
      clear hYp hz
      have zC : c < w4.heap.size := World.block_lt_of_cell? _ _ hG.bC
      have zD : d < w4.heap.size := World.block_lt_of_cell? _ _ hG.bD
      have zM : gm' < w4.heap.size := hG.LY.lt hm1
      go_wp2_with fail
      refine (divideBy_any c 0 an' am' gn' n' cn' gm' m' cm' X' Y' _ (by omega) hG.nX hG.oX hm1 (by omega) g1 hG.fC hG.LX hG.LY hG.lX hG.lY hG.FX (Ne.symm hG.d3) hG.LX.lt hG.pX (hG.pY hm1)).mono ?_
      rintro e w5 ⟨vq, vr, gq, gr, rfl, k1, -, ⟨ar, nr, cr, R, rfl, r1, r2, r3, r4, r5, r6, r7, r8⟩, -, k5, -, -, k8, fr⟩
      have hbw : base ≤ w4.heap.size := by have := hG.hc; omega
      have hgr : base ≤ gr := by rcases k5 with h | h; (rw [h]; exact hG.hn); omega
      have hgm : gr ≠ gm' := by rcases k5 with h | h; (rw [h]; exact hG.d2); omega
      have hgd : gr ≠ d := by rcases k5 with h | h; (rw [h]; exact hG.d4); omega
      have S5 : w0.Since base w5 := ⟨fr.os.trans hG.S.os, fr.tape.trans hG.S.tape, fr.output.trans hG.S.output, Nat.le_trans hG.S.size fr.size, fun k hk => (fr.block k (by omega) (by have := hG.hc; omega) (by have := hG.hn; omega)).trans (hG.S.block k hk)⟩
      have eD := fr.block d zD (Ne.symm hG.d1) (Ne.symm hG.d4)
      have eM := fr.block gm' zM hG.d5 (Ne.symm hG.d2)
      have G5 : Gd base w0 w5 c d gr gm' ar am' nr m' cr cm' R Y' := ⟨S5, k1, (World.cell?_of_block (w := w4) (a := ⟨d, 0, none⟩) eD).trans hG.bD, by rw [fr.frozen]; exact hG.fC, (World.frozen?_of_block (w := w4) (a := ⟨d, 0, none⟩) eD).trans hG.fD,
        r4, fun j hj => ⟨(hG.LY j hj).1, (World.cell?_of_block (w := w4) (a := ⟨gm', 0 + j, none⟩) eM).trans (hG.LY j hj).2⟩, r5, fun h x => (World.frozen?_of_block (w := w4) (a := ⟨gm', x, none⟩) eM).trans (hG.FY h x), r1, hG.nY, r3, hG.oY, r6, hG.lY, r7, hG.pY,
        hG.hc, hG.hd, hgr, hG.hm, hG.d1, hgm, k8, hgd, hG.d5, hG.d6⟩
      have HR := hide r8
      have HG5 : Hid (G = Nat.gcd (lv R nr) (lv Y' m')) := by have h := HG'.out; rw [Nat.gcd_comm, Nat.gcd_rec, ← r8] at h; exact h
      clear k1 r1 r3 r4 r5 r6 r7 r8 k5 k8 fr S5 eD eM hG HG' g1 g2
      have g1 := G5.bC
      have g2 := G5.bD
      go_wp2_with fail
      refine (isZero_any c 0 _ nr cr _ g1).mono ?_
      rintro e w6 ⟨rfl, hw6⟩
      rw [hw6]
      clear hw6
      by_cases hz : nr = 0
      · subst hz
        have HGv : Hid (lv Y' m' = G) := by have h := HG5.out; rw [show lv R 0 = 0 from rfl, Nat.gcd_zero_left] at h; exact h.symm
        have f1 := G5.fC
        go_wp2
        refine bodyPost_ret (results_none rfl _ _ _) rfl ?_
        exact ⟨rfl, am', gm', m', cm', Y', World.cell?_setCell_same _ _ _ G5.bC, G5.nY, by omega, G5.oY, G5.LY.setOther (Ne.symm G5.d5) _, fun h x => by simp [G5.FY h x], G5.lY, G5.pY, HGv.out, G5.hm, G5.S.setCell G5.hc _⟩
      · have hne2 : ((nr : Int) == 0) = false := by simp; omega
        have hn1 : 0 < nr := by omega
        have hRp : 0 < lv R nr := by
          have := lv_ge R nr hn1 (G5.pX hn1)
          have := Nat.pow_pos (n := 32 * (nr - 1)) (show 0 < 2 by omega)
          omega
        have HRp := hide hRp
        clear hRp hz
        go_wp2_with fail
        refine (twos_any c 0 ar gr 0 nr cr R _ (by omega) g1 G5.LX G5.lX HRp.out (hT.since G5.S hb)).mono ?_
        rintro e w7 ⟨i1, s1, q1, rfl, hw7, hi1, hs1, hv1⟩
        rw [hw7]
        clear hw7
        have HV1 := hide hv1
        clear hv1
        go_wp2_with fail
        refine (twos_any d 0 am' gm' 0 m' cm' Y' _ (by omega) g2 G5.LY G5.lY HYp.out (hT.since G5.S hb)).mono ?_
        rintro e w7 ⟨i2, s2, q2, rfl, hw7, hi2, hs2, hv2⟩
        rw [hw7]
        clear hw7
        have HV2 := hide hv2
        clear hv2
        have ear := limbs_some G5.LX hn1
        subst ear
        have eam := limbs_some G5.LY hm1
        subst eam
        by_cases hmin : 32 * i1 + s1 ≤ 32 * i2 + s2
        · have hmi : (32 : Int) * (i1 : Int) + (s1 : Int) ≤ 32 * (i2 : Int) + (s2 : Int) := by omega
          go_wp2_with fail
          refine (twos_any c 0 _ gr 0 nr cr R _ (by omega) g1 G5.LX G5.lX HRp.out (hT.since G5.S hb)).mono ?_
          rintro e w7 ⟨i3, s3, q3, rfl, hw7, hi3, hs3, hv3⟩
          rw [hw7]
          clear hw7
          have HV3 := hide hv3
          clear hv3
          go_wp2_with fail
          try rw [show (32 : Int) * (i3 : Int) + (s3 : Int) = ((32 * i3 + s3 : Nat) : Int) by omega]
          refine (shiftRight_any c 0 gr nr cr i3 s3 R _ (by omega) G5.nX hi3 hs3 G5.LX G5.lX g1 G5.fC (G5.FX hn1) (Ne.symm G5.d3)).mono ?_
          rintro e w8 ⟨rfl, w9, S1, k1, mk9, L9, hk1, l9, v9, hw8⟩
          have G6 := G5.setC mk9 L9 hk1 l9
          rw [← hw8] at G6
          have HO1 : Hid (lv S1 (tlen (nz S1) k1) = 2 * q3 + 1) := by show _ = _; rw [lv_tlen, v9, HV3.out, Nat.mul_div_cancel_left _ (Nat.pow_pos (by omega))]
          have t1 := tlen_le (nz S1) k1
          clear hw8 mk9 L9 l9 v9 G5 g1 g2
          have g1 := G6.bC
          have g2 := G6.bD
          go_wp2_with fail
          refine (twos_any d 0 _ gm' 0 m' cm' Y' _ (by omega) g2 G6.LY G6.lY HYp.out (hT.since G6.S hb)).mono ?_
          rintro e w9 ⟨i4, s4, q4, rfl, hw9, hi4, hs4, hv4⟩
          rw [hw9]
          clear hw9
          have HV4 := hide hv4
          clear hv4
          go_wp2_with fail
          try rw [show (32 : Int) * (i4 : Int) + (s4 : Int) = ((32 * i4 + s4 : Nat) : Int) by omega]
          refine (shiftRight_any d 0 gm' m' cm' i4 s4 Y' _ (by omega) G6.nY hi4 hs4 G6.LY G6.lY g2 G6.fD (G6.FY hm1) (Ne.symm G6.d6)).mono ?_
          rintro e w10 ⟨rfl, w11, S2, k2, mk11, L11, hk2, l11, v11, hw10⟩
          have G7 := G6.setD mk11 L11 hk2 l11
          rw [← hw10] at G7
          have HO2 : Hid (lv S2 (tlen (nz S2) k2) = 2 * q4 + 1) := by show _ = _; rw [lv_tlen, v11, HV4.out, Nat.mul_div_cancel_left _ (Nat.pow_pos (by omega))]
          have t2 := tlen_le (nz S2) k2
          clear hw10 mk11 L11 l11 v11 G6 g1 g2
          go_wp2_with fail
          refine (becomeOddGcd_any base c d gr gm' _ _ _ _ _ _ S1 S2 w0 _ hb (by omega) (by omega) G7 (by rw [HO1.out]; omega) (by rw [HO2.out]; omega) hT).mono ?_
          rintro e w12 ⟨rfl, a5, g5, k5, c5, Z5, p1, p2, p3, p4, p5, p6, p7, p8, p9, p10, p11, p12, p13⟩
          have zc := World.block_lt_of_cell? _ _ p1
          have hfin : lv Z5 k5 * 2 ^ (32 * i1 + s1) = G := by
            have e1 : 32 * i3 + s3 = 32 * i1 + s1 := pow2_unique (HV3.out.symm.trans HV1.out)
            have e2 : 32 * i4 + s4 = 32 * i2 + s2 := pow2_unique (HV4.out.symm.trans HV2.out)
            have h := HG5.out
            rw [HV3.out, HV4.out, gcd_twos (by omega) (by omega), ← HO1.out, ← HO2.out, ← p9, e1, e2, show min (32 * i1 + s1) (32 * i2 + s2) = 32 * i1 + s1 by omega, Nat.mul_comm] at h
            exact h.symm
          have HF := hide hfin
          have hbc := G7.hc
          clear p9 hfin G7
          go_wp2_with fail
          try rw [show (32 : Int) * (i1 : Int) + (s1 : Int) = ((32 * i1 + s1 : Nat) : Int) by omega]
          refine (shiftLeft_any c 0 a5 g5 0 k5 c5 i1 s1 Z5 _ (by omega) (by omega) (by omega) p5 p7 p1 p12).mono ?_
          rintro e w13 ⟨rfl, w14, S4, s14, r14, l14, v14, hw13⟩
          have zc2 : c < w12.heap.size := zc
          have q1 : w14.cell? ⟨c, 0, none⟩ = some (.slice a5 k5 c5) := by rw [s14.cell (a := ⟨c, 0, none⟩) zc]; exact p1
          have S13 : w0.Since base w13 := by rw [hw13]; exact (p13.trans (sinceMono s14 (by omega))).setCell hbc _
          have C13 : w13.cell? ⟨c, 0, none⟩ = some (.slice (some ⟨w12.heap.size, 0, none⟩) (tlen (nz S4) (k5 + i1 + 1)) (k5 + i1 + 1)) := by rw [hw13]; exact World.cell?_setCell_same _ _ _ q1
          have R13 : w13.rowIs w12.heap.size 119 (k5 + i1 + 1) (fun j => .int .u32 (S4 j : Nat)) := by rw [hw13]; exact r14.setOther (by show w12.heap.size ≠ c; omega) _
          have HV := hide (v14.trans HF.out)
          clear hw13 v14 q1 r14 s14 p1 p5 p13
          go_wp2
          go_end0
          have t3 := tlen_le (nz S4) (k5 + i1 + 1)
          refine ⟨rfl, _, w12.heap.size, _, _, S4, C13, t3, by omega, fun h => (by cases h), (limbs_row R13).take t3, fun _ x => R13.frozen x, fun j _ => l14 j, fun h => ?_, (lv_tlen _ _).trans HV.out, by omega, S13⟩
          have := tlen_top _ _ h; simpa [nz] using this
        · have hmi : (32 : Int) * (i2 : Int) + (s2 : Int) < 32 * (i1 : Int) + (s1 : Int) := by omega
          go_wp2_with fail
          refine (twos_any c 0 _ gr 0 nr cr R _ (by omega) g1 G5.LX G5.lX HRp.out (hT.since G5.S hb)).mono ?_
          rintro e w7 ⟨i3, s3, q3, rfl, hw7, hi3, hs3, hv3⟩
          rw [hw7]
          clear hw7
          have HV3 := hide hv3
          clear hv3
          go_wp2_with fail
          try rw [show (32 : Int) * (i3 : Int) + (s3 : Int) = ((32 * i3 + s3 : Nat) : Int) by omega]
          refine (shiftRight_any c 0 gr nr cr i3 s3 R _ (by omega) G5.nX hi3 hs3 G5.LX G5.lX g1 G5.fC (G5.FX hn1) (Ne.symm G5.d3)).mono ?_
          rintro e w8 ⟨rfl, w9, S1, k1, mk9, L9, hk1, l9, v9, hw8⟩
          have G6 := G5.setC mk9 L9 hk1 l9
          rw [← hw8] at G6
          have HO1 : Hid (lv S1 (tlen (nz S1) k1) = 2 * q3 + 1) := by show _ = _; rw [lv_tlen, v9, HV3.out, Nat.mul_div_cancel_left _ (Nat.pow_pos (by omega))]
          have t1 := tlen_le (nz S1) k1
          clear hw8 mk9 L9 l9 v9 G5 g1 g2
          have g1 := G6.bC
          have g2 := G6.bD
          go_wp2_with fail
          refine (twos_any d 0 _ gm' 0 m' cm' Y' _ (by omega) g2 G6.LY G6.lY HYp.out (hT.since G6.S hb)).mono ?_
          rintro e w9 ⟨i4, s4, q4, rfl, hw9, hi4, hs4, hv4⟩
          rw [hw9]
          clear hw9
          have HV4 := hide hv4
          clear hv4
          go_wp2_with fail
          try rw [show (32 : Int) * (i4 : Int) + (s4 : Int) = ((32 * i4 + s4 : Nat) : Int) by omega]
          refine (shiftRight_any d 0 gm' m' cm' i4 s4 Y' _ (by omega) G6.nY hi4 hs4 G6.LY G6.lY g2 G6.fD (G6.FY hm1) (Ne.symm G6.d6)).mono ?_
          rintro e w10 ⟨rfl, w11, S2, k2, mk11, L11, hk2, l11, v11, hw10⟩
          have G7 := G6.setD mk11 L11 hk2 l11
          rw [← hw10] at G7
          have HO2 : Hid (lv S2 (tlen (nz S2) k2) = 2 * q4 + 1) := by show _ = _; rw [lv_tlen, v11, HV4.out, Nat.mul_div_cancel_left _ (Nat.pow_pos (by omega))]
          have t2 := tlen_le (nz S2) k2
          clear hw10 mk11 L11 l11 v11 G6 g1 g2
          go_wp2_with fail
          refine (becomeOddGcd_any base c d gr gm' _ _ _ _ _ _ S1 S2 w0 _ hb (by omega) (by omega) G7 (by rw [HO1.out]; omega) (by rw [HO2.out]; omega) hT).mono ?_
          rintro e w12 ⟨rfl, a5, g5, k5, c5, Z5, p1, p2, p3, p4, p5, p6, p7, p8, p9, p10, p11, p12, p13⟩
          have zc := World.block_lt_of_cell? _ _ p1
          have hfin : lv Z5 k5 * 2 ^ (32 * i2 + s2) = G := by
            have e1 : 32 * i3 + s3 = 32 * i1 + s1 := pow2_unique (HV3.out.symm.trans HV1.out)
            have e2 : 32 * i4 + s4 = 32 * i2 + s2 := pow2_unique (HV4.out.symm.trans HV2.out)
            have h := HG5.out
            rw [HV3.out, HV4.out, gcd_twos (by omega) (by omega), ← HO1.out, ← HO2.out, ← p9, e1, e2, show min (32 * i1 + s1) (32 * i2 + s2) = 32 * i2 + s2 by omega, Nat.mul_comm] at h
            exact h.symm
          have HF := hide hfin
          have hbc := G7.hc
          clear p9 hfin G7
          go_wp2_with fail
          try rw [show (32 : Int) * (i2 : Int) + (s2 : Int) = ((32 * i2 + s2 : Nat) : Int) by omega]
          refine (shiftLeft_any c 0 a5 g5 0 k5 c5 i2 s2 Z5 _ (by omega) (by omega) (by omega) p5 p7 p1 p12).mono ?_
          rintro e w13 ⟨rfl, w14, S4, s14, r14, l14, v14, hw13⟩
          have zc2 : c < w12.heap.size := zc
          have q1 : w14.cell? ⟨c, 0, none⟩ = some (.slice a5 k5 c5) := by rw [s14.cell (a := ⟨c, 0, none⟩) zc]; exact p1
          have S13 : w0.Since base w13 := by rw [hw13]; exact (p13.trans (sinceMono s14 (by omega))).setCell hbc _
          have C13 : w13.cell? ⟨c, 0, none⟩ = some (.slice (some ⟨w12.heap.size, 0, none⟩) (tlen (nz S4) (k5 + i2 + 1)) (k5 + i2 + 1)) := by rw [hw13]; exact World.cell?_setCell_same _ _ _ q1
          have R13 : w13.rowIs w12.heap.size 119 (k5 + i2 + 1) (fun j => .int .u32 (S4 j : Nat)) := by rw [hw13]; exact r14.setOther (by show w12.heap.size ≠ c; omega) _
          have HV := hide (v14.trans HF.out)
          clear hw13 v14 q1 r14 s14 p1 p5 p13
          go_wp2
          go_end0
          have t3 := tlen_le (nz S4) (k5 + i2 + 1)
          refine ⟨rfl, _, w12.heap.size, _, _, S4, C13, t3, by omega, fun h => (by cases h), (limbs_row R13).take t3, fun _ x => R13.frozen x, fun j _ => l14 j, fun h => ?_, (lv_tlen _ _).trans HV.out, by omega, S13⟩
          have := tlen_top _ _ h; simpa [nz] using this

end Go.Proofs.YtkhpggnnpfckdaaGreatDoor
