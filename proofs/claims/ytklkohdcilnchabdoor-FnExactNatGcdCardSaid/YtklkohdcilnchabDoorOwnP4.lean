import Derived.Test.YtklkohdcilnchabDoorOwnP3
import Derived.Test.YtklkohdcilnchabDoorOwnP1
import Derived.Deep.RegionWith
import Derived.Test.YtklkohdcilnchabDoorOwnP2
namespace Go.Proofs.YtklkohdcilnchabDoor
open Go.RowKit

theorem pow2_unique {a b p q : Nat} (h : 2 ^ a * (2 * p + 1) = 2 ^ b * (2 * q + 1)) : a = b := by
  rcases Nat.lt_trichotomy a b with hl | he | hl
  · exfalso
    rw [show b = a + (b - a - 1 + 1) by omega, Nat.pow_add, Nat.mul_assoc] at h
    have h2 := Nat.eq_of_mul_eq_mul_left (Nat.pow_pos (by omega)) h
    rw [Nat.pow_succ, Nat.mul_comm (2 ^ (b - a - 1)) 2, Nat.mul_assoc] at h2
    omega
  · exact he
  · exfalso
    rw [show a = b + (a - b - 1 + 1) by omega, Nat.pow_add, Nat.mul_assoc] at h
    have h2 := Nat.eq_of_mul_eq_mul_left (Nat.pow_pos (by omega)) h
    rw [Nat.pow_succ, Nat.mul_comm (2 ^ (a - b - 1)) 2, Nat.mul_assoc] at h2
    omega

set_option maxHeartbeats 6400000 in
set_option maxRecDepth 100000 in
theorem becomeGcd_any (base c d gn gm : Nat) (an am : Option Addr) (n m cn cm : Nat) (X Y : Nat → Nat) (w0 w : World) (hb : 1 < base) (hn : n ≤ 1048576) (hm : m ≤ 1048576) (hG : Gd base w0 w c d gn gm an am n m cn cm X Y) (hT : Tab w0) :
    Calls Tryd.prog 80 #[.pointer (some ⟨c, 0, none⟩), .pointer (some ⟨d, 0, none⟩)] w fun e w' => e = .returned (.tuple #[]) ∧ ∃ a g k cp Z, w'.cell? ⟨c, 0, none⟩ = some (.slice a k cp) ∧ k ≤ cp ∧ k ≤ 4194304 ∧ (a = none → cp = 0) ∧ Limbs w' a g 0 k Z ∧ (0 < k → ∀ x, w'.frozen? ⟨g, x, none⟩ = false) ∧
      (∀ j, j < k → Z j < 4294967296) ∧ (0 < k → Z (k - 1) ≠ 0) ∧ lv Z k = Nat.gcd (lv X n) (lv Y m) ∧ base ≤ g ∧ w0.Since base w' := by
  obtain ⟨G, hGe⟩ : ∃ G, G = Nat.gcd (lv X n) (lv Y m) := ⟨_, rfl⟩
  have HG := hide hGe
  rw [← hGe]
  clear hGe
  have b1 := hG.bC
  have b2 := hG.bD
  go_enter Tryd.func80, Tryd.ntmps80
  go_wp2_with fail
  refine (compare_any c 0 an am gn 0 n cn gm 0 m cm X Y _ (by omega) (by omega) b1 hG.LX hG.LY hG.lX hG.lY hG.pX hG.pY).mono ?_
  rintro e w2 ⟨rfl, s2⟩
  have hG := hG.same s2
  clear s2 b1 b2
  have b1 := hG.bC
  have b2 := hG.bD
  by_cases hlt : lv X n < lv Y m
  · have hci := cmpN_neg hlt
    have HG' : Hid (G = Nat.gcd (lv Y m) (lv X n)) := by rw [Nat.gcd_comm]; exact HG
    clear hlt HG
    generalize cmpN (lv X n) (lv Y m) = z at *
    have f1 := hG.fC
    have f2 := hG.fD
    have d1 := hG.d1
    have hG := hG.swap.same (Same.refl _).drew
    go_wp2
    go_region
    clear b1 b2 f1 f2 d1
    generalize ((w2.setCell ⟨c, 0, none⟩ (.slice am m cm)).setCell ⟨d, 0, none⟩ (.slice an n cn)).drew = w4 at *
    obtain ⟨X', e0⟩ : ∃ x, x = Y := ⟨_, rfl⟩
    obtain ⟨Y', e1⟩ : ∃ x, x = X := ⟨_, rfl⟩
    obtain ⟨n', e2⟩ : ∃ x, x = m := ⟨_, rfl⟩
    obtain ⟨m', e3⟩ : ∃ x, x = n := ⟨_, rfl⟩
    obtain ⟨an', e4⟩ : ∃ x, x = am := ⟨_, rfl⟩
    obtain ⟨am', e5⟩ : ∃ x, x = an := ⟨_, rfl⟩
    obtain ⟨gn', e6⟩ : ∃ x, x = gm := ⟨_, rfl⟩
    obtain ⟨gm', e7⟩ : ∃ x, x = gn := ⟨_, rfl⟩
    obtain ⟨cn', e8⟩ : ∃ x, x = cm := ⟨_, rfl⟩
    obtain ⟨cm', e9⟩ : ∃ x, x = cn := ⟨_, rfl⟩
    subst e0 e1 e2 e3 e4 e5 e6 e7 e8 e9
    -- the first is the greater
    have g1 := hG.bC
    have g2 := hG.bD
    go_wp2_with fail
    refine (isZero_any d 0 _ m' cm' _ g2).mono ?_
    rintro e w5 ⟨rfl, hw5⟩
    rw [hw5]
    clear hw5
    by_cases hz : m' = 0
    · subst hz
      have HGv : Hid (lv X' n' = G) := by have h := HG'.out; rw [show lv Y' 0 = 0 from rfl, Nat.gcd_zero_right] at h; exact h.symm
      go_wp2
      refine bodyPost_ret (results_none rfl _ _ _) rfl ?_
      exact ⟨rfl, an', gn', n', cn', X', hG.bC, hG.nX, by omega, hG.oX, hG.LX, hG.FX, hG.lX, hG.pX, HGv.out, hG.hn, hG.S⟩
    · have hne : ((m' : Int) == 0) = false := by simp; omega
      have hm1 : 0 < m' := by omega
      have hYp : 0 < lv Y' m' := by
        have := lv_ge Y' m' hm1 (hG.pY hm1)
        have := Nat.pow_pos (n := 32 * (m' - 1)) (show 0 < 2 by omega)
        omega
      have HYp := hide hYp
      clear hYp hz
      have zC : c < w4.heap.size := World.block_lt_of_cell? _ _ hG.bC
      have zD : d < w4.heap.size := World.block_lt_of_cell? _ _ hG.bD
      have zM : gm' < w4.heap.size := hG.LY.lt hm1
      go_wp2_with fail
      refine (divideBy_any c 0 an' am' gn' n' cn' gm' m' cm' X' Y' _ (by omega) hG.nX hG.oX hm1 (by omega) g1 hG.fC hG.LX hG.LY hG.lX hG.lY hG.FX (Ne.symm hG.d3) hG.LX.lt hG.pX (hG.pY hm1)).mono ?_
      rintro e w5 ⟨vq, vr, gq, gr, rfl, k1, -, ⟨ar, nr, cr, R, rfl, r1, r2, r3, r4, r5, r6, r7, r8⟩, -, k5, -, -, k8, fr⟩
      have hbw : base ≤ w4.heap.size := by have := hG.hc; omega
      have hgr : base ≤ gr := by rcases k5 with h | h; (rw [h]; exact hG.hn); omega
      have hgm : gr ≠ gm' := by rcases k5 with h | h; (rw [h]; exact hG.d2); omega
      have hgd : gr ≠ d := by rcases k5 with h | h; (rw [h]; exact hG.d4); omega
      have S5 : w0.Since base w5 := ⟨fr.os.trans hG.S.os, fr.tape.trans hG.S.tape, fr.output.trans hG.S.output, Nat.le_trans hG.S.size fr.size, fun k hk => (fr.block k (by omega) (by have := hG.hc; omega) (by have := hG.hn; omega)).trans (hG.S.block k hk)⟩
      have eD := fr.block d zD (Ne.symm hG.d1) (Ne.symm hG.d4)
      have eM := fr.block gm' zM hG.d5 (Ne.symm hG.d2)
      have G5 : Gd base w0 w5 c d gr gm' ar am' nr m' cr cm' R Y' := ⟨S5, k1, (World.cell?_of_block (w := w4) (a := ⟨d, 0, none⟩) eD).trans hG.bD, by rw [fr.frozen]; exact hG.fC, (World.frozen?_of_block (w := w4) (a := ⟨d, 0, none⟩) eD).trans hG.fD,
        r4, fun j hj => ⟨(hG.LY j hj).1, (World.cell?_of_block (w := w4) (a := ⟨gm', 0 + j, none⟩) eM).trans (hG.LY j hj).2⟩, r5, fun h x => (World.frozen?_of_block (w := w4) (a := ⟨gm', x, none⟩) eM).trans (hG.FY h x), r1, hG.nY, r3, hG.oY, r6, hG.lY, r7, hG.pY,
        hG.hc, hG.hd, hgr, hG.hm, hG.d1, hgm, k8, hgd, hG.d5, hG.d6⟩
      have HR := hide r8
      have HG5 : Hid (G = Nat.gcd (lv R nr) (lv Y' m')) := by have h := HG'.out; rw [Nat.gcd_comm, Nat.gcd_rec, ← r8] at h; exact h
      clear k1 r1 r3 r4 r5 r6 r7 r8 k5 k8 fr S5 eD eM hG HG' g1 g2
      have g1 := G5.bC
      have g2 := G5.bD
      go_wp2_with fail
      refine (isZero_any c 0 _ nr cr _ g1).mono ?_
      rintro e w6 ⟨rfl, hw6⟩
      rw [hw6]
      clear hw6
      by_cases hz : nr = 0
      · subst hz
        have HGv : Hid (lv Y' m' = G) := by have h := HG5.out; rw [show lv R 0 = 0 from rfl, Nat.gcd_zero_left] at h; exact h.symm
        have f1 := G5.fC
        go_wp2
        refine bodyPost_ret (results_none rfl _ _ _) rfl ?_
        exact ⟨rfl, am', gm', m', cm', Y', World.cell?_setCell_same _ _ _ G5.bC, G5.nY, by omega, G5.oY, G5.LY.setOther (Ne.symm G5.d5) _, fun h x => by simp [G5.FY h x], G5.lY, G5.pY, HGv.out, G5.hm, G5.S.setCell G5.hc _⟩
      · have hne2 : ((nr : Int) == 0) = false := by simp; omega
        have hn1 : 0 < nr := by omega
        have hRp : 0 < lv R nr := by
          have := lv_ge R nr hn1 (G5.pX hn1)
          have := Nat.pow_pos (n := 32 * (nr - 1)) (show 0 < 2 by omega)
          omega
        have HRp := hide hRp
        clear hRp hz
        go_wp2_with fail
        refine (twos_any c 0 ar gr 0 nr cr R _ (by omega) g1 G5.LX G5.lX HRp.out (hT.since G5.S hb)).mono ?_
        rintro e w7 ⟨i1, s1, q1, rfl, hw7, hi1, hs1, hv1⟩
        rw [hw7]
        clear hw7
        have HV1 := hide hv1
        clear hv1
        go_wp2_with fail
        refine (twos_any d 0 am' gm' 0 m' cm' Y' _ (by omega) g2 G5.LY G5.lY HYp.out (hT.since G5.S hb)).mono ?_
        rintro e w7 ⟨i2, s2, q2, rfl, hw7, hi2, hs2, hv2⟩
        rw [hw7]
        clear hw7
        have HV2 := hide hv2
        clear hv2
        have ear := limbs_some G5.LX hn1
        subst ear
        have eam := limbs_some G5.LY hm1
        subst eam
        by_cases hmin : 32 * i1 + s1 ≤ 32 * i2 + s2
        · have hmi : (32 : Int) * (i1 : Int) + (s1 : Int) ≤ 32 * (i2 : Int) + (s2 : Int) := by omega
          go_wp2_with fail
          refine (twos_any c 0 _ gr 0 nr cr R _ (by omega) g1 G5.LX G5.lX HRp.out (hT.since G5.S hb)).mono ?_
          rintro e w7 ⟨i3, s3, q3, rfl, hw7, hi3, hs3, hv3⟩
          rw [hw7]
          clear hw7
          have HV3 := hide hv3
          clear hv3
          go_wp2_with fail
          try rw [show (32 : Int) * (i3 : Int) + (s3 : Int) = ((32 * i3 + s3 : Nat) : Int) by omega]
          refine (shiftRight_any c 0 gr nr cr i3 s3 R _ (by omega) G5.nX hi3 hs3 G5.LX G5.lX g1 G5.fC (G5.FX hn1) (Ne.symm G5.d3)).mono ?_
          rintro e w8 ⟨rfl, w9, S1, k1, mk9, L9, hk1, l9, v9, hw8⟩
          have G6 := G5.setC mk9 L9 hk1 l9
          rw [← hw8] at G6
          have HO1 : Hid (lv S1 (tlen (nz S1) k1) = 2 * q3 + 1) := by show _ = _; rw [lv_tlen, v9, HV3.out, Nat.mul_div_cancel_left _ (Nat.pow_pos (by omega))]
          have t1 := tlen_le (nz S1) k1
          clear hw8 mk9 L9 l9 v9 G5 g1 g2
          have g1 := G6.bC
          have g2 := G6.bD
          go_wp2_with fail
          refine (twos_any d 0 _ gm' 0 m' cm' Y' _ (by omega) g2 G6.LY G6.lY HYp.out (hT.since G6.S hb)).mono ?_
          rintro e w9 ⟨i4, s4, q4, rfl, hw9, hi4, hs4, hv4⟩
          rw [hw9]
          clear hw9
          have HV4 := hide hv4
          clear hv4
          go_wp2_with fail
          try rw [show (32 : Int) * (i4 : Int) + (s4 : Int) = ((32 * i4 + s4 : Nat) : Int) by omega]
          refine (shiftRight_any d 0 gm' m' cm' i4 s4 Y' _ (by omega) G6.nY hi4 hs4 G6.LY G6.lY g2 G6.fD (G6.FY hm1) (Ne.symm G6.d6)).mono ?_
          rintro e w10 ⟨rfl, w11, S2, k2, mk11, L11, hk2, l11, v11, hw10⟩
          have G7 := G6.setD mk11 L11 hk2 l11
          rw [← hw10] at G7
          have HO2 : Hid (lv S2 (tlen (nz S2) k2) = 2 * q4 + 1) := by show _ = _; rw [lv_tlen, v11, HV4.out, Nat.mul_div_cancel_left _ (Nat.pow_pos (by omega))]
          have t2 := tlen_le (nz S2) k2
          clear hw10 mk11 L11 l11 v11 G6 g1 g2
          go_wp2_with fail
          refine (becomeOddGcd_any base c d gr gm' _ _ _ _ _ _ S1 S2 w0 _ hb (by omega) (by omega) G7 (by rw [HO1.out]; omega) (by rw [HO2.out]; omega) hT).mono ?_
          rintro e w12 ⟨rfl, a5, g5, k5, c5, Z5, p1, p2, p3, p4, p5, p6, p7, p8, p9, p10, p11, p12, p13⟩
          have zc := World.block_lt_of_cell? _ _ p1
          have hfin : lv Z5 k5 * 2 ^ (32 * i1 + s1) = G := by
            have e1 : 32 * i3 + s3 = 32 * i1 + s1 := pow2_unique (HV3.out.symm.trans HV1.out)
            have e2 : 32 * i4 + s4 = 32 * i2 + s2 := pow2_unique (HV4.out.symm.trans HV2.out)
            have h := HG5.out
            rw [HV3.out, HV4.out, gcd_twos (by omega) (by omega), ← HO1.out, ← HO2.out, ← p9, e1, e2, show min (32 * i1 + s1) (32 * i2 + s2) = 32 * i1 + s1 by omega, Nat.mul_comm] at h
            exact h.symm
          have HF := hide hfin
          have hbc := G7.hc
          clear p9 hfin G7
          go_wp2_with fail
          try rw [show (32 : Int) * (i1 : Int) + (s1 : Int) = ((32 * i1 + s1 : Nat) : Int) by omega]
          refine (shiftLeft_any c 0 a5 g5 0 k5 c5 i1 s1 Z5 _ (by omega) (by omega) (by omega) p5 p7 p1 p12).mono ?_
          rintro e w13 ⟨rfl, w14, S4, s14, r14, l14, v14, hw13⟩
          have zc2 : c < w12.heap.size := zc
          have q1 : w14.cell? ⟨c, 0, none⟩ = some (.slice a5 k5 c5) := by rw [s14.cell (a := ⟨c, 0, none⟩) zc]; exact p1
          have S13 : w0.Since base w13 := by rw [hw13]; exact (p13.trans (sinceMono s14 (by omega))).setCell hbc _
          have C13 : w13.cell? ⟨c, 0, none⟩ = some (.slice (some ⟨w12.heap.size, 0, none⟩) (tlen (nz S4) (k5 + i1 + 1)) (k5 + i1 + 1)) := by rw [hw13]; exact World.cell?_setCell_same _ _ _ q1
          have R13 : w13.rowIs w12.heap.size 49 (k5 + i1 + 1) (fun j => .int .u32 (S4 j : Nat)) := by rw [hw13]; exact r14.setOther (by show w12.heap.size ≠ c; omega) _
          have HV := hide (v14.trans HF.out)
          clear hw13 v14 q1 r14 s14 p1 p5 p13
          go_wp2
          go_end0
          have t3 := tlen_le (nz S4) (k5 + i1 + 1)
          refine ⟨rfl, _, w12.heap.size, _, _, S4, C13, t3, by omega, fun h => (by cases h), (limbs_row R13).take t3, fun _ x => R13.frozen x, fun j _ => l14 j, fun h => ?_, (lv_tlen _ _).trans HV.out, by omega, S13⟩
          have := tlen_top _ _ h; simpa [nz] using this
        · have hmi : (32 : Int) * (i2 : Int) + (s2 : Int) < 32 * (i1 : Int) + (s1 : Int) := by omega
          go_wp2_with fail
          refine (twos_any c 0 _ gr 0 nr cr R _ (by omega) g1 G5.LX G5.lX HRp.out (hT.since G5.S hb)).mono ?_
          rintro e w7 ⟨i3, s3, q3, rfl, hw7, hi3, hs3, hv3⟩
          rw [hw7]
          clear hw7
          have HV3 := hide hv3
          clear hv3
          go_wp2_with fail
          try rw [show (32 : Int) * (i3 : Int) + (s3 : Int) = ((32 * i3 + s3 : Nat) : Int) by omega]
          refine (shiftRight_any c 0 gr nr cr i3 s3 R _ (by omega) G5.nX hi3 hs3 G5.LX G5.lX g1 G5.fC (G5.FX hn1) (Ne.symm G5.d3)).mono ?_
          rintro e w8 ⟨rfl, w9, S1, k1, mk9, L9, hk1, l9, v9, hw8⟩
          have G6 := G5.setC mk9 L9 hk1 l9
          rw [← hw8] at G6
          have HO1 : Hid (lv S1 (tlen (nz S1) k1) = 2 * q3 + 1) := by show _ = _; rw [lv_tlen, v9, HV3.out, Nat.mul_div_cancel_left _ (Nat.pow_pos (by omega))]
          have t1 := tlen_le (nz S1) k1
          clear hw8 mk9 L9 l9 v9 G5 g1 g2
          have g1 := G6.bC
          have g2 := G6.bD
          go_wp2_with fail
          refine (twos_any d 0 _ gm' 0 m' cm' Y' _ (by omega) g2 G6.LY G6.lY HYp.out (hT.since G6.S hb)).mono ?_
          rintro e w9 ⟨i4, s4, q4, rfl, hw9, hi4, hs4, hv4⟩
          rw [hw9]
          clear hw9
          have HV4 := hide hv4
          clear hv4
          go_wp2_with fail
          try rw [show (32 : Int) * (i4 : Int) + (s4 : Int) = ((32 * i4 + s4 : Nat) : Int) by omega]
          refine (shiftRight_any d 0 gm' m' cm' i4 s4 Y' _ (by omega) G6.nY hi4 hs4 G6.LY G6.lY g2 G6.fD (G6.FY hm1) (Ne.symm G6.d6)).mono ?_
          rintro e w10 ⟨rfl, w11, S2, k2, mk11, L11, hk2, l11, v11, hw10⟩
          have G7 := G6.setD mk11 L11 hk2 l11
          rw [← hw10] at G7
          have HO2 : Hid (lv S2 (tlen (nz S2) k2) = 2 * q4 + 1) := by show _ = _; rw [lv_tlen, v11, HV4.out, Nat.mul_div_cancel_left _ (Nat.pow_pos (by omega))]
          have t2 := tlen_le (nz S2) k2
          clear hw10 mk11 L11 l11 v11 G6 g1 g2
          go_wp2_with fail
          refine (becomeOddGcd_any base c d gr gm' _ _ _ _ _ _ S1 S2 w0 _ hb (by omega) (by omega) G7 (by rw [HO1.out]; omega) (by rw [HO2.out]; omega) hT).mono ?_
          rintro e w12 ⟨rfl, a5, g5, k5, c5, Z5, p1, p2, p3, p4, p5, p6, p7, p8, p9, p10, p11, p12, p13⟩
          have zc := World.block_lt_of_cell? _ _ p1
          have hfin : lv Z5 k5 * 2 ^ (32 * i2 + s2) = G := by
            have e1 : 32 * i3 + s3 = 32 * i1 + s1 := pow2_unique (HV3.out.symm.trans HV1.out)
            have e2 : 32 * i4 + s4 = 32 * i2 + s2 := pow2_unique (HV4.out.symm.trans HV2.out)
            have h := HG5.out
            rw [HV3.out, HV4.out, gcd_twos (by omega) (by omega), ← HO1.out, ← HO2.out, ← p9, e1, e2, show min (32 * i1 + s1) (32 * i2 + s2) = 32 * i2 + s2 by omega, Nat.mul_comm] at h
            exact h.symm
          have HF := hide hfin
          have hbc := G7.hc
          clear p9 hfin G7
          go_wp2_with fail
          try rw [show (32 : Int) * (i2 : Int) + (s2 : Int) = ((32 * i2 + s2 : Nat) : Int) by omega]
          refine (shiftLeft_any c 0 a5 g5 0 k5 c5 i2 s2 Z5 _ (by omega) (by omega) (by omega) p5 p7 p1 p12).mono ?_
          rintro e w13 ⟨rfl, w14, S4, s14, r14, l14, v14, hw13⟩
          have zc2 : c < w12.heap.size := zc
          have q1 : w14.cell? ⟨c, 0, none⟩ = some (.slice a5 k5 c5) := by rw [s14.cell (a := ⟨c, 0, none⟩) zc]; exact p1
          have S13 : w0.Since base w13 := by rw [hw13]; exact (p13.trans (sinceMono s14 (by omega))).setCell hbc _
          have C13 : w13.cell? ⟨c, 0, none⟩ = some (.slice (some ⟨w12.heap.size, 0, none⟩) (tlen (nz S4) (k5 + i2 + 1)) (k5 + i2 + 1)) := by rw [hw13]; exact World.cell?_setCell_same _ _ _ q1
          have R13 : w13.rowIs w12.heap.size 49 (k5 + i2 + 1) (fun j => .int .u32 (S4 j : Nat)) := by rw [hw13]; exact r14.setOther (by show w12.heap.size ≠ c; omega) _
          have HV := hide (v14.trans HF.out)
          clear hw13 v14 q1 r14 s14 p1 p5 p13
          go_wp2
          go_end0
          have t3 := tlen_le (nz S4) (k5 + i2 + 1)
          refine ⟨rfl, _, w12.heap.size, _, _, S4, C13, t3, by omega, fun h => (by cases h), (limbs_row R13).take t3, fun _ x => R13.frozen x, fun j _ => l14 j, fun h => ?_, (lv_tlen _ _).trans HV.out, by omega, S13⟩
          have := tlen_top _ _ h; simpa [nz] using this
  · have hci := cmpN_nonneg (Nat.le_of_not_lt hlt)
    have HG' := HG
    clear hlt HG
    generalize cmpN (lv X n) (lv Y m) = z at *
    clear b1 b2
    obtain ⟨w4, ew⟩ : ∃ x, x = w2 := ⟨_, rfl⟩
    subst ew
    obtain ⟨X', e0⟩ : ∃ x, x = X := ⟨_, rfl⟩
    obtain ⟨Y', e1⟩ : ∃ x, x = Y := ⟨_, rfl⟩
    obtain ⟨n', e2⟩ : ∃ x, x = n := ⟨_, rfl⟩
    obtain ⟨m', e3⟩ : ∃ x, x = m := ⟨_, rfl⟩
    obtain ⟨an', e4⟩ : ∃ x, x = an := ⟨_, rfl⟩
    obtain ⟨am', e5⟩ : ∃ x, x = am := ⟨_, rfl⟩
    obtain ⟨gn', e6⟩ : ∃ x, x = gn := ⟨_, rfl⟩
    obtain ⟨gm', e7⟩ : ∃ x, x = gm := ⟨_, rfl⟩
    obtain ⟨cn', e8⟩ : ∃ x, x = cn := ⟨_, rfl⟩
    obtain ⟨cm', e9⟩ : ∃ x, x = cm := ⟨_, rfl⟩
    subst e0 e1 e2 e3 e4 e5 e6 e7 e8 e9
    -- the first is the greater
    have g1 := hG.bC
    have g2 := hG.bD
    go_wp2_with fail
    refine (isZero_any d 0 _ m' cm' _ g2).mono ?_
    rintro e w5 ⟨rfl, hw5⟩
    rw [hw5]
    clear hw5
    by_cases hz : m' = 0
    · subst hz
      have HGv : Hid (lv X' n' = G) := by have h := HG'.out; rw [show lv Y' 0 = 0 from rfl, Nat.gcd_zero_right] at h; exact h.symm
      go_wp2
      refine bodyPost_ret (results_none rfl _ _ _) rfl ?_
      exact ⟨rfl, an', gn', n', cn', X', hG.bC, hG.nX, by omega, hG.oX, hG.LX, hG.FX, hG.lX, hG.pX, HGv.out, hG.hn, hG.S⟩
    · have hne : ((m' : Int) == 0) = false := by simp; omega
      have hm1 : 0 < m' := by omega
      have hYp : 0 < lv Y' m' := by
        have := lv_ge Y' m' hm1 (hG.pY hm1)
        have := Nat.pow_pos (n := 32 * (m' - 1)) (show 0 < 2 by omega)
        omega
      have HYp := hide hYp
      clear hYp hz
      have zC : c < w4.heap.size := World.block_lt_of_cell? _ _ hG.bC
      have zD : d < w4.heap.size := World.block_lt_of_cell? _ _ hG.bD
      have zM : gm' < w4.heap.size := hG.LY.lt hm1
      go_wp2_with fail
      refine (divideBy_any c 0 an' am' gn' n' cn' gm' m' cm' X' Y' _ (by omega) hG.nX hG.oX hm1 (by omega) g1 hG.fC hG.LX hG.LY hG.lX hG.lY hG.FX (Ne.symm hG.d3) hG.LX.lt hG.pX (hG.pY hm1)).mono ?_
      rintro e w5 ⟨vq, vr, gq, gr, rfl, k1, -, ⟨ar, nr, cr, R, rfl, r1, r2, r3, r4, r5, r6, r7, r8⟩, -, k5, -, -, k8, fr⟩
      have hbw : base ≤ w4.heap.size := by have := hG.hc; omega
      have hgr : base ≤ gr := by rcases k5 with h | h; (rw [h]; exact hG.hn); omega
      have hgm : gr ≠ gm' := by rcases k5 with h | h; (rw [h]; exact hG.d2); omega
      have hgd : gr ≠ d := by rcases k5 with h | h; (rw [h]; exact hG.d4); omega
      have S5 : w0.Since base w5 := ⟨fr.os.trans hG.S.os, fr.tape.trans hG.S.tape, fr.output.trans hG.S.output, Nat.le_trans hG.S.size fr.size, fun k hk => (fr.block k (by omega) (by have := hG.hc; omega) (by have := hG.hn; omega)).trans (hG.S.block k hk)⟩
      have eD := fr.block d zD (Ne.symm hG.d1) (Ne.symm hG.d4)
      have eM := fr.block gm' zM hG.d5 (Ne.symm hG.d2)
      have G5 : Gd base w0 w5 c d gr gm' ar am' nr m' cr cm' R Y' := ⟨S5, k1, (World.cell?_of_block (w := w4) (a := ⟨d, 0, none⟩) eD).trans hG.bD, by rw [fr.frozen]; exact hG.fC, (World.frozen?_of_block (w := w4) (a := ⟨d, 0, none⟩) eD).trans hG.fD,
        r4, fun j hj => ⟨(hG.LY j hj).1, (World.cell?_of_block (w := w4) (a := ⟨gm', 0 + j, none⟩) eM).trans (hG.LY j hj).2⟩, r5, fun h x => (World.frozen?_of_block (w := w4) (a := ⟨gm', x, none⟩) eM).trans (hG.FY h x), r1, hG.nY, r3, hG.oY, r6, hG.lY, r7, hG.pY,
        hG.hc, hG.hd, hgr, hG.hm, hG.d1, hgm, k8, hgd, hG.d5, hG.d6⟩
      have HR := hide r8
      have HG5 : Hid (G = Nat.gcd (lv R nr) (lv Y' m')) := by have h := HG'.out; rw [Nat.gcd_comm, Nat.gcd_rec, ← r8] at h; exact h
      clear k1 r1 r3 r4 r5 r6 r7 r8 k5 k8 fr S5 eD eM hG HG' g1 g2
      have g1 := G5.bC
      have g2 := G5.bD
      go_wp2_with fail
      refine (isZero_any c 0 _ nr cr _ g1).mono ?_
      rintro e w6 ⟨rfl, hw6⟩
      rw [hw6]
      clear hw6
      by_cases hz : nr = 0
      · subst hz
        have HGv : Hid (lv Y' m' = G) := by have h := HG5.out; rw [show lv R 0 = 0 from rfl, Nat.gcd_zero_left] at h; exact h.symm
        have f1 := G5.fC
        go_wp2
        refine bodyPost_ret (results_none rfl _ _ _) rfl ?_
        exact ⟨rfl, am', gm', m', cm', Y', World.cell?_setCell_same _ _ _ G5.bC, G5.nY, by omega, G5.oY, G5.LY.setOther (Ne.symm G5.d5) _, fun h x => by simp [G5.FY h x], G5.lY, G5.pY, HGv.out, G5.hm, G5.S.setCell G5.hc _⟩
      · have hne2 : ((nr : Int) == 0) = false := by simp; omega
        have hn1 : 0 < nr := by omega
        have hRp : 0 < lv R nr := by
          have := lv_ge R nr hn1 (G5.pX hn1)
          have := Nat.pow_pos (n := 32 * (nr - 1)) (show 0 < 2 by omega)
          omega
        have HRp := hide hRp
        clear hRp hz
        go_wp2_with fail
        refine (twos_any c 0 ar gr 0 nr cr R _ (by omega) g1 G5.LX G5.lX HRp.out (hT.since G5.S hb)).mono ?_
        rintro e w7 ⟨i1, s1, q1, rfl, hw7, hi1, hs1, hv1⟩
        rw [hw7]
        clear hw7
        have HV1 := hide hv1
        clear hv1
        go_wp2_with fail
        refine (twos_any d 0 am' gm' 0 m' cm' Y' _ (by omega) g2 G5.LY G5.lY HYp.out (hT.since G5.S hb)).mono ?_
        rintro e w7 ⟨i2, s2, q2, rfl, hw7, hi2, hs2, hv2⟩
        rw [hw7]
        clear hw7
        have HV2 := hide hv2
        clear hv2
        have ear := limbs_some G5.LX hn1
        subst ear
        have eam := limbs_some G5.LY hm1
        subst eam
        by_cases hmin : 32 * i1 + s1 ≤ 32 * i2 + s2
        · have hmi : (32 : Int) * (i1 : Int) + (s1 : Int) ≤ 32 * (i2 : Int) + (s2 : Int) := by omega
          go_wp2_with fail
          refine (twos_any c 0 _ gr 0 nr cr R _ (by omega) g1 G5.LX G5.lX HRp.out (hT.since G5.S hb)).mono ?_
          rintro e w7 ⟨i3, s3, q3, rfl, hw7, hi3, hs3, hv3⟩
          rw [hw7]
          clear hw7
          have HV3 := hide hv3
          clear hv3
          go_wp2_with fail
          try rw [show (32 : Int) * (i3 : Int) + (s3 : Int) = ((32 * i3 + s3 : Nat) : Int) by omega]
          refine (shiftRight_any c 0 gr nr cr i3 s3 R _ (by omega) G5.nX hi3 hs3 G5.LX G5.lX g1 G5.fC (G5.FX hn1) (Ne.symm G5.d3)).mono ?_
          rintro e w8 ⟨rfl, w9, S1, k1, mk9, L9, hk1, l9, v9, hw8⟩
          have G6 := G5.setC mk9 L9 hk1 l9
          rw [← hw8] at G6
          have HO1 : Hid (lv S1 (tlen (nz S1) k1) = 2 * q3 + 1) := by show _ = _; rw [lv_tlen, v9, HV3.out, Nat.mul_div_cancel_left _ (Nat.pow_pos (by omega))]
          have t1 := tlen_le (nz S1) k1
          clear hw8 mk9 L9 l9 v9 G5 g1 g2
          have g1 := G6.bC
          have g2 := G6.bD
          go_wp2_with fail
          refine (twos_any d 0 _ gm' 0 m' cm' Y' _ (by omega) g2 G6.LY G6.lY HYp.out (hT.since G6.S hb)).mono ?_
          rintro e w9 ⟨i4, s4, q4, rfl, hw9, hi4, hs4, hv4⟩
          rw [hw9]
          clear hw9
          have HV4 := hide hv4
          clear hv4
          go_wp2_with fail
          try rw [show (32 : Int) * (i4 : Int) + (s4 : Int) = ((32 * i4 + s4 : Nat) : Int) by omega]
          refine (shiftRight_any d 0 gm' m' cm' i4 s4 Y' _ (by omega) G6.nY hi4 hs4 G6.LY G6.lY g2 G6.fD (G6.FY hm1) (Ne.symm G6.d6)).mono ?_
          rintro e w10 ⟨rfl, w11, S2, k2, mk11, L11, hk2, l11, v11, hw10⟩
          have G7 := G6.setD mk11 L11 hk2 l11
          rw [← hw10] at G7
          have HO2 : Hid (lv S2 (tlen (nz S2) k2) = 2 * q4 + 1) := by show _ = _; rw [lv_tlen, v11, HV4.out, Nat.mul_div_cancel_left _ (Nat.pow_pos (by omega))]
          have t2 := tlen_le (nz S2) k2
          clear hw10 mk11 L11 l11 v11 G6 g1 g2
          go_wp2_with fail
          refine (becomeOddGcd_any base c d gr gm' _ _ _ _ _ _ S1 S2 w0 _ hb (by omega) (by omega) G7 (by rw [HO1.out]; omega) (by rw [HO2.out]; omega) hT).mono ?_
          rintro e w12 ⟨rfl, a5, g5, k5, c5, Z5, p1, p2, p3, p4, p5, p6, p7, p8, p9, p10, p11, p12, p13⟩
          have zc := World.block_lt_of_cell? _ _ p1
          have hfin : lv Z5 k5 * 2 ^ (32 * i1 + s1) = G := by
            have e1 : 32 * i3 + s3 = 32 * i1 + s1 := pow2_unique (HV3.out.symm.trans HV1.out)
            have e2 : 32 * i4 + s4 = 32 * i2 + s2 := pow2_unique (HV4.out.symm.trans HV2.out)
            have h := HG5.out
            rw [HV3.out, HV4.out, gcd_twos (by omega) (by omega), ← HO1.out, ← HO2.out, ← p9, e1, e2, show min (32 * i1 + s1) (32 * i2 + s2) = 32 * i1 + s1 by omega, Nat.mul_comm] at h
            exact h.symm
          have HF := hide hfin
          have hbc := G7.hc
          clear p9 hfin G7
          go_wp2_with fail
          try rw [show (32 : Int) * (i1 : Int) + (s1 : Int) = ((32 * i1 + s1 : Nat) : Int) by omega]
          refine (shiftLeft_any c 0 a5 g5 0 k5 c5 i1 s1 Z5 _ (by omega) (by omega) (by omega) p5 p7 p1 p12).mono ?_
          rintro e w13 ⟨rfl, w14, S4, s14, r14, l14, v14, hw13⟩
          have zc2 : c < w12.heap.size := zc
          have q1 : w14.cell? ⟨c, 0, none⟩ = some (.slice a5 k5 c5) := by rw [s14.cell (a := ⟨c, 0, none⟩) zc]; exact p1
          have S13 : w0.Since base w13 := by rw [hw13]; exact (p13.trans (sinceMono s14 (by omega))).setCell hbc _
          have C13 : w13.cell? ⟨c, 0, none⟩ = some (.slice (some ⟨w12.heap.size, 0, none⟩) (tlen (nz S4) (k5 + i1 + 1)) (k5 + i1 + 1)) := by rw [hw13]; exact World.cell?_setCell_same _ _ _ q1
          have R13 : w13.rowIs w12.heap.size 49 (k5 + i1 + 1) (fun j => .int .u32 (S4 j : Nat)) := by rw [hw13]; exact r14.setOther (by show w12.heap.size ≠ c; omega) _
          have HV := hide (v14.trans HF.out)
          clear hw13 v14 q1 r14 s14 p1 p5 p13
          go_wp2
          go_end0
          have t3 := tlen_le (nz S4) (k5 + i1 + 1)
          refine ⟨rfl, _, w12.heap.size, _, _, S4, C13, t3, by omega, fun h => (by cases h), (limbs_row R13).take t3, fun _ x => R13.frozen x, fun j _ => l14 j, fun h => ?_, (lv_tlen _ _).trans HV.out, by omega, S13⟩
          have := tlen_top _ _ h; simpa [nz] using this
        · have hmi : (32 : Int) * (i2 : Int) + (s2 : Int) < 32 * (i1 : Int) + (s1 : Int) := by omega
          go_wp2_with fail
          refine (twos_any c 0 _ gr 0 nr cr R _ (by omega) g1 G5.LX G5.lX HRp.out (hT.since G5.S hb)).mono ?_
          rintro e w7 ⟨i3, s3, q3, rfl, hw7, hi3, hs3, hv3⟩
          rw [hw7]
          clear hw7
          have HV3 := hide hv3
          clear hv3
          go_wp2_with fail
          try rw [show (32 : Int) * (i3 : Int) + (s3 : Int) = ((32 * i3 + s3 : Nat) : Int) by omega]
          refine (shiftRight_any c 0 gr nr cr i3 s3 R _ (by omega) G5.nX hi3 hs3 G5.LX G5.lX g1 G5.fC (G5.FX hn1) (Ne.symm G5.d3)).mono ?_
          rintro e w8 ⟨rfl, w9, S1, k1, mk9, L9, hk1, l9, v9, hw8⟩
          have G6 := G5.setC mk9 L9 hk1 l9
          rw [← hw8] at G6
          have HO1 : Hid (lv S1 (tlen (nz S1) k1) = 2 * q3 + 1) := by show _ = _; rw [lv_tlen, v9, HV3.out, Nat.mul_div_cancel_left _ (Nat.pow_pos (by omega))]
          have t1 := tlen_le (nz S1) k1
          clear hw8 mk9 L9 l9 v9 G5 g1 g2
          have g1 := G6.bC
          have g2 := G6.bD
          go_wp2_with fail
          refine (twos_any d 0 _ gm' 0 m' cm' Y' _ (by omega) g2 G6.LY G6.lY HYp.out (hT.since G6.S hb)).mono ?_
          rintro e w9 ⟨i4, s4, q4, rfl, hw9, hi4, hs4, hv4⟩
          rw [hw9]
          clear hw9
          have HV4 := hide hv4
          clear hv4
          go_wp2_with fail
          try rw [show (32 : Int) * (i4 : Int) + (s4 : Int) = ((32 * i4 + s4 : Nat) : Int) by omega]
          refine (shiftRight_any d 0 gm' m' cm' i4 s4 Y' _ (by omega) G6.nY hi4 hs4 G6.LY G6.lY g2 G6.fD (G6.FY hm1) (Ne.symm G6.d6)).mono ?_
          rintro e w10 ⟨rfl, w11, S2, k2, mk11, L11, hk2, l11, v11, hw10⟩
          have G7 := G6.setD mk11 L11 hk2 l11
          rw [← hw10] at G7
          have HO2 : Hid (lv S2 (tlen (nz S2) k2) = 2 * q4 + 1) := by show _ = _; rw [lv_tlen, v11, HV4.out, Nat.mul_div_cancel_left _ (Nat.pow_pos (by omega))]
          have t2 := tlen_le (nz S2) k2
          clear hw10 mk11 L11 l11 v11 G6 g1 g2
          go_wp2_with fail
          refine (becomeOddGcd_any base c d gr gm' _ _ _ _ _ _ S1 S2 w0 _ hb (by omega) (by omega) G7 (by rw [HO1.out]; omega) (by rw [HO2.out]; omega) hT).mono ?_
          rintro e w12 ⟨rfl, a5, g5, k5, c5, Z5, p1, p2, p3, p4, p5, p6, p7, p8, p9, p10, p11, p12, p13⟩
          have zc := World.block_lt_of_cell? _ _ p1
          have hfin : lv Z5 k5 * 2 ^ (32 * i2 + s2) = G := by
            have e1 : 32 * i3 + s3 = 32 * i1 + s1 := pow2_unique (HV3.out.symm.trans HV1.out)
            have e2 : 32 * i4 + s4 = 32 * i2 + s2 := pow2_unique (HV4.out.symm.trans HV2.out)
            have h := HG5.out
            rw [HV3.out, HV4.out, gcd_twos (by omega) (by omega), ← HO1.out, ← HO2.out, ← p9, e1, e2, show min (32 * i1 + s1) (32 * i2 + s2) = 32 * i2 + s2 by omega, Nat.mul_comm] at h
            exact h.symm
          have HF := hide hfin
          have hbc := G7.hc
          clear p9 hfin G7
          go_wp2_with fail
          try rw [show (32 : Int) * (i2 : Int) + (s2 : Int) = ((32 * i2 + s2 : Nat) : Int) by omega]
          refine (shiftLeft_any c 0 a5 g5 0 k5 c5 i2 s2 Z5 _ (by omega) (by omega) (by omega) p5 p7 p1 p12).mono ?_
          rintro e w13 ⟨rfl, w14, S4, s14, r14, l14, v14, hw13⟩
          have zc2 : c < w12.heap.size := zc
          have q1 : w14.cell? ⟨c, 0, none⟩ = some (.slice a5 k5 c5) := by rw [s14.cell (a := ⟨c, 0, none⟩) zc]; exact p1
          have S13 : w0.Since base w13 := by rw [hw13]; exact (p13.trans (sinceMono s14 (by omega))).setCell hbc _
          have C13 : w13.cell? ⟨c, 0, none⟩ = some (.slice (some ⟨w12.heap.size, 0, none⟩) (tlen (nz S4) (k5 + i2 + 1)) (k5 + i2 + 1)) := by rw [hw13]; exact World.cell?_setCell_same _ _ _ q1
          have R13 : w13.rowIs w12.heap.size 49 (k5 + i2 + 1) (fun j => .int .u32 (S4 j : Nat)) := by rw [hw13]; exact r14.setOther (by show w12.heap.size ≠ c; omega) _
          have HV := hide (v14.trans HF.out)
          clear hw13 v14 q1 r14 s14 p1 p5 p13
          go_wp2
          go_end0
          have t3 := tlen_le (nz S4) (k5 + i2 + 1)
          refine ⟨rfl, _, w12.heap.size, _, _, S4, C13, t3, by omega, fun h => (by cases h), (limbs_row R13).take t3, fun _ x => R13.frozen x, fun j _ => l14 j, fun h => ?_, (lv_tlen _ _).trans HV.out, by omega, S13⟩
          have := tlen_top _ _ h; simpa [nz] using this

end Go.Proofs.YtklkohdcilnchabDoor

namespace Go.Proofs.YtklkohdcilnchabDoor
open Go.RowKit

/-- A region that draws its order, by one relation that every operation keeps. -/
theorem wpAny_inv {P : Program} {md : Region.Mode} {ops : Array Oper} {Q : Exit → Act → World → Prop} (I : Nat → Array Bool → Act → World → Prop)
    (hs : ∀ fuel l a w, I (fuel + 1) l a w → ∀ i ∈ Region.ready md ops l, ∃ o, ops[i]? = some o ∧ ∀ K' : Act → World → Prop, (∀ a w, I fuel (l.setIfInBounds i true) a w → K' a w) → if Region.wanted o (yielded ops a.tmps) = true then Oper.wp P o a w K' Q else K' (a.put o.dst undef) w)
    (h0 : ∀ l a w, I 0 l a w → Region.ready md ops l = [])
    (he : ∀ fuel l a w, I fuel l a w → Region.ready md ops l = [] → Q .normal a w) :
    ∀ fuel l a w, I fuel l a w → wpAny P md ops Q fuel l a w
  | 0, l, a, w, h => ⟨h0 l a w h, he 0 l a w h (h0 l a w h)⟩
  | fuel + 1, l, a, w, h => ⟨he _ l a w h, fun i hi => by
      obtain ⟨o, ho, hk⟩ := hs fuel l a w h i hi
      exact wpOp_step ho fun K' hK => hk K' fun a w hI => hK a w (wpAny_inv I hs h0 he fuel _ a w hI)⟩

theorem since_mono {B B' : Nat} {w w' : World} (s : w.Since B w') (h : B' ≤ B) : w.Since B' w' := ⟨s.os, s.tape, s.output, s.size, fun k hk => s.block k (by omega)⟩

/-- The block that a value names. -/
def bk : Value → Option Nat
  | .pointer (some a) => some a.block
  | .slice (some a) _ _ => some a.block
  | _ => none

/-- Named blocks lie from lo on, below the world's end. -/
def Bd (lo : Nat) (w : World) (v : Value) : Prop := ∀ g, bk v = some g → lo ≤ g ∧ g < w.heap.size
/-- Two values name no block in common. -/
def Ap (u v : Value) : Prop := ∀ g, bk u = some g → bk v = some g → False

theorem Bd.undef (lo : Nat) (w : World) : Bd lo w undef := fun g h => by cases h
theorem Bd.grow {lo : Nat} {w w' : World} {v : Value} (h : Bd lo w v) (hs : w.heap.size ≤ w'.heap.size) : Bd lo w' v := fun g e => ⟨(h g e).1, Nat.lt_of_lt_of_le (h g e).2 hs⟩
theorem Ap.symm {u v : Value} (h : Ap u v) : Ap v u := fun g a b => h g b a
theorem Ap.undef (v : Value) : Ap undef v := fun g h => by cases h
/-- A value that names new blocks alone stands apart from every elder one. -/
theorem Ap.fresh {lo : Nat} {w w' : World} {u v : Value} (h : Bd lo w u) (hv : Bd w.heap.size w' v) : Ap u v := fun g a b => by have := (h g a).2; have := (hv g b).1; omega

/-- A natural in memory of one's own. -/
def Ow (w : World) (v : Value) (m : Nat) (X : Nat → Nat) : Prop :=
  (v = .slice none 0 0 ∧ m = 0) ∨ ∃ g cp, v = .slice (some ⟨g, 0, none⟩) m cp ∧ g < w.heap.size ∧ m ≤ cp ∧ Limbs w (some ⟨g, 0, none⟩) g 0 m X ∧ ∀ x, w.frozen? ⟨g, x, none⟩ = false

theorem Ow.since {w w' : World} {v : Value} {m : Nat} {X : Nat → Nat} (h : Ow w v m X) (s : w.Since w.heap.size w') : Ow w' v m X := by
  rcases h with h | ⟨g, cp, e, hg, hc, L, F⟩
  · exact Or.inl h
  · exact Or.inr ⟨g, cp, e, Nat.lt_of_lt_of_le hg s.size, hc, L.keep s, fun x => by rw [s.frozen (a := ⟨g, x, none⟩) hg]; exact F x⟩

theorem Ow.set {w : World} {v : Value} {m : Nat} {X : Nat → Nat} (h : Ow w v m X) {c : Nat} {t : Value} (ht : t = .pointer (some ⟨c, 0, none⟩)) (ha : Ap t v) (u : Value) : Ow (w.setCell ⟨c, 0, none⟩ u) v m X := by
  subst ht
  rcases h with h | ⟨g, cp, rfl, hg, hc, L, F⟩
  · exact Or.inl h
  · have : c ≠ g := fun e => ha g (by rw [e]; rfl) rfl
    exact Or.inr ⟨g, cp, rfl, by simpa using hg, hc, L.setOther this _, fun x => by simp [F x]⟩

theorem own_ow {w : World} {base : Nat} {v : Value} {m : Nat} {X : Nat → Nat} (h : w.ownsRow base 49 1 v m (ll X m)) : Ow w v m X ∧ Bd base w v := by
  have hc := @World.ownsRow.cells _ _ _ _ _ _ _ h
  rcases h.2 with ⟨rfl, rfl⟩ | ⟨g, cap, cur, rfl, hb, hg, hm, _⟩
  · exact ⟨Or.inl ⟨rfl, rfl⟩, fun g e => by cases e⟩
  · have hlt := (Array.getElem?_eq_some_iff.1 hg).1
    refine ⟨Or.inr ⟨g, cap, rfl, hlt, hm, fun j hj => ⟨rfl, ?_⟩, fun o => by simp [World.frozen?, hg]⟩, fun g' e => ?_⟩
    · have := hc (g := g) rfl j _ (ll_get X m j hj)
      rw [Addr.add_lit] at this; exact this
    · cases e; exact ⟨hb, hlt⟩

/-- What a box holds: laid, empty or filled. -/
def Bx (w : World) (t : Value) (u : Value) : Prop := ∃ c, t = .pointer (some ⟨c, 0, none⟩) ∧ w.cell? ⟨c, 0, none⟩ = some u ∧ w.frozen? ⟨c, 0, none⟩ = false ∧ c < w.heap.size

theorem Bx.since {w w' : World} {t u : Value} (h : Bx w t u) (s : w.Since w.heap.size w') : Bx w' t u := by
  obtain ⟨c, e, h1, h2, h3⟩ := h
  exact ⟨c, e, by rw [s.cell (a := ⟨c, 0, none⟩) h3]; exact h1, by rw [s.frozen (a := ⟨c, 0, none⟩) h3]; exact h2, Nat.lt_of_lt_of_le h3 s.size⟩

theorem Bx.other {w : World} {t u t' : Value} (h : Bx w t u) {c : Nat} (e : t' = .pointer (some ⟨c, 0, none⟩)) (ha : Ap t' t) (x : Value) : Bx (w.setCell ⟨c, 0, none⟩ x) t u := by
  obtain ⟨d, rfl, h1, h2, h3⟩ := h
  subst e
  have : c ≠ d := fun e => ha d (by rw [e]; rfl) rfl
  exact ⟨d, rfl, by rw [cellO (by exact this)]; exact h1, by simp [h2], by simpa using h3⟩

theorem Bx.fill {w : World} {t u : Value} {c : Nat} (h : Bx w t u) (e : t = .pointer (some ⟨c, 0, none⟩)) (x : Value) : Bx (w.setCell ⟨c, 0, none⟩ x) t x := by
  obtain ⟨d, rfl, h1, h2, h3⟩ := h
  cases e
  exact ⟨_, rfl, World.cell?_setCell_same _ _ _ h1, by simp [h2], by simpa using h3⟩

theorem Bx.new (w : World) (u : Value) (ty : TypeId) : Bx (w.alloc (.cells #[u] ty)) (.pointer (some ⟨w.heap.size, 0, none⟩)) u := ⟨_, rfl, by simp [go_sem], by simp [go_sem], by simp⟩

/-- The statement 'n, m := ownCopy(a), ownCopy(b)', in whatever order. -/
structure J (wA : World) (sa sb : Value) (n m : Nat) (X Y : Nat → Nat) (l0 l1 l2 l3 l4 l5 l6 l7 : Bool) (t5 t6 t20 t21 t22 t23 : Value) (w : World) : Prop where
  S : wA.Since wA.heap.size w
  B5 : Bd wA.heap.size w t5
  B6 : Bd wA.heap.size w t6
  B21 : Bd wA.heap.size w t21
  B23 : Bd wA.heap.size w t23
  A56 : Ap t5 t6
  A51 : Ap t5 t21
  A53 : Ap t5 t23
  A61 : Ap t6 t21
  A63 : Ap t6 t23
  A13 : Ap t21 t23
  h0 : l0 = true → t20 = sa
  h2 : l2 = true → t22 = sb
  h1 : l1 = true → Ow w t21 n X
  h3 : l3 = true → Ow w t23 m Y
  h4 : l4 = true → Bx w t5 (if l6 = true then t21 else .slice none 0 0)
  h5 : l5 = true → Bx w t6 (if l7 = true then t23 else .slice none 0 0)

section
variable {wA : World} {sa sb : Value} {n m : Nat} {X Y : Nat → Nat} {l0 l1 l2 l3 l4 l5 l6 l7 : Bool} {t5 t6 t20 t21 t22 t23 : Value} {w w' : World}

theorem J.grow (h : J wA sa sb n m X Y l0 l1 l2 l3 l4 l5 l6 l7 t5 t6 t20 t21 t22 t23 w) (s : w.Since w.heap.size w') : J wA sa sb n m X Y l0 l1 l2 l3 l4 l5 l6 l7 t5 t6 t20 t21 t22 t23 w' :=
  ⟨h.S.trans (since_mono s h.S.size), h.B5.grow s.size, h.B6.grow s.size, h.B21.grow s.size, h.B23.grow s.size, h.A56, h.A51, h.A53, h.A61, h.A63, h.A13, h.h0, h.h2, fun e => (h.h1 e).since s, fun e => (h.h3 e).since s, fun e => (h.h4 e).since s, fun e => (h.h5 e).since s⟩

theorem J.start (wA : World) (sa sb : Value) (n m : Nat) (X Y : Nat → Nat) (u20 u22 : Value) : J wA sa sb n m X Y false false false false false false false false undef undef u20 undef u22 undef wA :=
  ⟨.refl _ _, .undef _ _, .undef _ _, .undef _ _, .undef _ _, .undef _, .undef _, .undef _, .undef _, .undef _, .undef _, fun h => (by cases h), fun h => (by cases h), fun h => (by cases h), fun h => (by cases h), fun h => (by cases h), fun h => (by cases h)⟩

theorem J.op0 (h : J wA sa sb n m X Y l0 l1 l2 l3 l4 l5 l6 l7 t5 t6 t20 t21 t22 t23 w) : J wA sa sb n m X Y true l1 l2 l3 l4 l5 l6 l7 t5 t6 sa t21 t22 t23 w := { h with h0 := fun _ => rfl }
theorem J.op2 (h : J wA sa sb n m X Y l0 l1 l2 l3 l4 l5 l6 l7 t5 t6 t20 t21 t22 t23 w) : J wA sa sb n m X Y l0 l1 true l3 l4 l5 l6 l7 t5 t6 t20 t21 sb t23 w := { h with h2 := fun _ => rfl }

theorem J.op1 (h : J wA sa sb n m X Y l0 l1 l2 l3 l4 l5 false l7 t5 t6 t20 t21 t22 t23 w) (s : w.Since w.heap.size w') {v : Value} (o : Ow w' v n X) (b : Bd w.heap.size w' v) : J wA sa sb n m X Y l0 true l2 l3 l4 l5 false l7 t5 t6 t20 v t22 t23 w' :=
  have g := h.grow s
  have b' : Bd wA.heap.size w' v := fun x e => ⟨Nat.le_trans h.S.size (b x e).1, (b x e).2⟩
  { g with B21 := b', A51 := .fresh h.B5 b, A61 := .fresh h.B6 b, A13 := (Ap.fresh h.B23 b).symm, h1 := fun _ => o }

theorem J.op3 (h : J wA sa sb n m X Y l0 l1 l2 l3 l4 l5 l6 false t5 t6 t20 t21 t22 t23 w) (s : w.Since w.heap.size w') {v : Value} (o : Ow w' v m Y) (b : Bd w.heap.size w' v) : J wA sa sb n m X Y l0 l1 l2 true l4 l5 l6 false t5 t6 t20 t21 t22 v w' :=
  have g := h.grow s
  have b' : Bd wA.heap.size w' v := fun x e => ⟨Nat.le_trans h.S.size (b x e).1, (b x e).2⟩
  { g with B23 := b', A53 := .fresh h.B5 b, A63 := .fresh h.B6 b, A13 := .fresh h.B21 b, h3 := fun _ => o }

theorem bd_new (w : World) (u : Value) (ty : TypeId) : Bd w.heap.size (w.alloc (.cells #[u] ty)) (.pointer (some ⟨w.heap.size, 0, none⟩)) := fun g e => by cases e; simp

theorem J.op4 (h : J wA sa sb n m X Y l0 l1 l2 l3 l4 l5 false l7 t5 t6 t20 t21 t22 t23 w) (ty : TypeId) : J wA sa sb n m X Y l0 l1 l2 l3 true l5 false l7 (.pointer (some ⟨w.heap.size, 0, none⟩)) t6 t20 t21 t22 t23 (w.alloc (.cells #[.slice none 0 0] ty)) :=
  have g := h.grow ((World.Since.refl _ _).alloc (Nat.le_refl _) (.cells #[.slice none 0 0] ty))
  have b := bd_new w (.slice none 0 0) ty
  { g with B5 := fun x e => ⟨Nat.le_trans h.S.size (b x e).1, (b x e).2⟩, A56 := (Ap.fresh h.B6 b).symm, A51 := (Ap.fresh h.B21 b).symm, A53 := (Ap.fresh h.B23 b).symm, h4 := fun _ => Bx.new _ _ _ }

theorem J.op5 (h : J wA sa sb n m X Y l0 l1 l2 l3 l4 l5 l6 false t5 t6 t20 t21 t22 t23 w) (ty : TypeId) : J wA sa sb n m X Y l0 l1 l2 l3 l4 true l6 false t5 (.pointer (some ⟨w.heap.size, 0, none⟩)) t20 t21 t22 t23 (w.alloc (.cells #[.slice none 0 0] ty)) :=
  have g := h.grow ((World.Since.refl _ _).alloc (Nat.le_refl _) (.cells #[.slice none 0 0] ty))
  have b := bd_new w (.slice none 0 0) ty
  { g with B6 := fun x e => ⟨Nat.le_trans h.S.size (b x e).1, (b x e).2⟩, A56 := Ap.fresh h.B5 b, A61 := (Ap.fresh h.B21 b).symm, A63 := (Ap.fresh h.B23 b).symm, h5 := fun _ => Bx.new _ _ _ }

theorem bd_set {lo c : Nat} {u x : Value} (h : Bd lo w u) : Bd lo (w.setCell ⟨c, 0, none⟩ x) u := h.grow (by simp)

theorem J.op6 (h : J wA sa sb n m X Y l0 l1 l2 l3 true l5 l6 l7 t5 t6 t20 t21 t22 t23 w) {c : Nat} (e : t5 = .pointer (some ⟨c, 0, none⟩)) : J wA sa sb n m X Y l0 l1 l2 l3 true l5 true l7 t5 t6 t20 t21 t22 t23 (w.setCell ⟨c, 0, none⟩ t21) :=
  ⟨h.S.setCell (h.B5 c (by rw [e]; rfl)).1 _, bd_set h.B5, bd_set h.B6, bd_set h.B21, bd_set h.B23, h.A56, h.A51, h.A53, h.A61, h.A63, h.A13, h.h0, h.h2, fun k => (h.h1 k).set e h.A51 _, fun k => (h.h3 k).set e h.A53 _, fun _ => (h.h4 rfl).fill e _, fun k => (h.h5 k).other e h.A56 _⟩

theorem J.op7 (h : J wA sa sb n m X Y l0 l1 l2 l3 l4 true l6 l7 t5 t6 t20 t21 t22 t23 w) {c : Nat} (e : t6 = .pointer (some ⟨c, 0, none⟩)) : J wA sa sb n m X Y l0 l1 l2 l3 l4 true l6 true t5 t6 t20 t21 t22 t23 (w.setCell ⟨c, 0, none⟩ t23) :=
  ⟨h.S.setCell (h.B6 c (by rw [e]; rfl)).1 _, bd_set h.B5, bd_set h.B6, bd_set h.B21, bd_set h.B23, h.A56, h.A51, h.A53, h.A61, h.A63, h.A13, h.h0, h.h2, fun k => (h.h1 k).set e h.A61 _, fun k => (h.h3 k).set e h.A63 _, fun k => (h.h4 k).other e h.A56.symm _, fun _ => (h.h5 rfl).fill e _⟩

theorem ow_parts {lo : Nat} {v : Value} (h : Ow w v m X) (b : Bd lo w v) (far : Nat) (hf : lo ≤ far) (_hw : w.heap.size ≤ far) : ∃ a g cp, v = .slice a m cp ∧ m ≤ cp ∧ (a = none → cp = 0) ∧ Limbs w a g 0 m X ∧ (0 < m → ∀ x, w.frozen? ⟨g, x, none⟩ = false) ∧ lo ≤ g ∧ (g = far ∨ bk v = some g) := by
  rcases h with ⟨rfl, rfl⟩ | ⟨g, cp, rfl, hg, hc, L, F⟩
  · exact ⟨none, far, 0, rfl, Nat.le_refl _, fun _ => rfl, fun j hj => absurd hj (by omega), fun h => absurd h (by omega), hf, Or.inl rfl⟩
  · exact ⟨_, g, cp, rfl, hc, fun h => (by cases h), L, fun _ => F, (b g rfl).1, Or.inr rfl⟩

/-- What the statement leaves. -/
theorem J.gd (h : J wA sa sb n m X Y true true true true true true true true t5 t6 t20 t21 t22 t23 w) (lX : ∀ j, j < n → X j < 4294967296) (lY : ∀ j, j < m → Y j < 4294967296) (pX : 0 < n → X (n - 1) ≠ 0) (pY : 0 < m → Y (m - 1) ≠ 0) :
    ∃ c d gn gm an am cn cm, t5 = .pointer (some ⟨c, 0, none⟩) ∧ t6 = .pointer (some ⟨d, 0, none⟩) ∧ Gd wA.heap.size wA w c d gn gm an am n m cn cm X Y := by
  obtain ⟨c, e5, c1, c2, c3⟩ := h.h4 rfl
  obtain ⟨d, e6, d1, d2, d3⟩ := h.h5 rfl
  have hs := h.S.size
  obtain ⟨an, gn, cn, e21, q1, q2, q3, q4, q5, q6⟩ := ow_parts (h.h1 rfl) h.B21 w.heap.size hs (Nat.le_refl _)
  obtain ⟨am, gm, cm, e23, r1, r2, r3, r4, r5, r6⟩ := ow_parts (h.h3 rfl) h.B23 (w.heap.size + 1) (by omega) (by omega)
  have kc : bk t5 = some c := by rw [e5]; rfl
  have kd : bk t6 = some d := by rw [e6]; rfl
  have bn : gn < w.heap.size ∨ gn = w.heap.size := q6.elim Or.inr fun e => Or.inl (h.B21 _ e).2
  have bm : gm < w.heap.size ∨ gm = w.heap.size + 1 := r6.elim Or.inr fun e => Or.inl (h.B23 _ e).2
  refine ⟨c, d, gn, gm, an, am, cn, cm, e5, e6, h.S, by rw [c1, if_pos rfl, e21], by rw [d1, if_pos rfl, e23], c2, d2, q3, r3, q4, r4, q1, r1, q2, r2, lX, lY, pX, pY, (h.B5 c kc).1, (h.B6 d kd).1, q5, r5, ?_, ?_, ?_, ?_, ?_, ?_⟩
  · exact fun e => h.A56 c kc (by rw [kd, e])
  · rcases q6 with e | e
    · omega
    · rcases r6 with e' | e'
      · have := (h.B21 _ e).2; omega
      · exact fun k => h.A13 gn e (by rw [e', k])
  · rcases q6 with e | e
    · omega
    · exact fun k => h.A51 c kc (by rw [e, k])
  · rcases q6 with e | e
    · omega
    · exact fun k => h.A61 d kd (by rw [e, k])
  · rcases r6 with e | e
    · omega
    · exact fun k => h.A53 c kc (by rw [e, k])
  · rcases r6 with e | e
    · omega
    · exact fun k => h.A63 d kd (by rw [e, k])
end

end Go.Proofs.YtklkohdcilnchabDoor

namespace Go.Proofs.YtklkohdcilnchabDoor
open Go.RowKit

/-- What comes up. -/
def rdy (l0 l1 l2 l3 l4 l5 l6 l7 : Bool) : Nat → Bool
  | 0 => !l0
  | 1 => l0 && !l1 && !l6 && !l3
  | 2 => !l2
  | 3 => l1 && l2 && !l3 && !l7
  | 4 => !l4 && !l6
  | 5 => !l5 && !l7
  | 6 => l4 && l1 && l3 && l5 && !l6
  | 7 => l6 && l5 && l3 && !l7
  | _ => false

def left8 (l0 l1 l2 l3 l4 l5 l6 l7 : Bool) : Nat := (!l0).toNat + (!l1).toNat + (!l2).toNat + (!l3).toNat + (!l4).toNat + (!l5).toNat + (!l6).toNat + (!l7).toNat
/-- The reached ones. -/
def okl (l1 l3 l4 l5 l6 l7 : Bool) : Bool := (!l6 || (l1 && l3 && l4 && l5)) && (!l7 || l6) && (!l3 || l1)

set_option maxHeartbeats 6400000 in
set_option maxRecDepth 100000 in
theorem gcdOf_big (a b : Option Addr) (ba oa n ca bb ob m cb : Nat) (X Y : Nat → Nat) (w : World) (hw : 1 < w.heap.size) (hn : n ≤ 1048576) (hm : m ≤ 1048576) (hnc : n ≤ ca) (hmc : m ≤ cb) (hac : a = none → ca = 0) (hbc : b = none → cb = 0)
    (hX : Limbs w a ba oa n X) (hY : Limbs w b bb ob m Y) (hXl : ∀ j, j < n → X j < 4294967296) (hYl : ∀ j, j < m → Y j < 4294967296) (pX : 0 < n → X (n - 1) ≠ 0) (pY : 0 < m → Y (m - 1) ≠ 0) (hT : Tab w)
    (h1 : lv X n ≠ 1) (h2 : lv Y m ≠ 1) (h3 : 2 < n ∨ 2 < m) :
    Calls Tryd.prog 39 #[.slice a n ca, .slice b m cb] w fun e w' => ∃ v g, e = .returned v ∧ NatAt w' v g (Nat.gcd (lv X n) (lv Y m)) 4194304 ∧ w.heap.size ≤ g ∧ w.Since w.heap.size w' := by
  have d1 : decide (lv X n = 1) = false := by simp [h1]
  have d2 : decide (lv Y m = 1) = false := by simp [h2]
  have sA : w.Since w.heap.size ((w.alloc (.cells #[.slice a n ca] 50)).alloc (.cells #[.slice b m cb] 50)) := ((World.Since.refl _ _).alloc (Nat.le_refl _) _).alloc (by simp) _
  have bx1 : ((w.alloc (.cells #[.slice a n ca] 50)).alloc (.cells #[.slice b m cb] 50)).cell? ⟨w.heap.size, 0, none⟩ = some (.slice a n ca) := by rw [World.cell?_alloc_old _ _ _ (by simp)]; simp [go_sem]
  have bx2 : ((w.alloc (.cells #[.slice a n ca] 50)).alloc (.cells #[.slice b m cb] 50)).cell? ⟨w.heap.size + 1, 0, none⟩ = some (.slice b m cb) := by simp [go_sem]
  have zA : w.heap.size + 2 ≤ ((w.alloc (.cells #[.slice a n ca] 50)).alloc (.cells #[.slice b m cb] 50)).heap.size := by simp
  have XA := hX.keep sA
  have YA := hY.keep sA
  go_enter Tryd.func39, Tryd.ntmps39
  go_wp2_with fail
  generalize (w.alloc (.cells #[.slice a n ca] 50)).alloc (.cells #[.slice b m cb] 50) = wA at *
  have I1 := isOne_any w.heap.size 0 a ba oa n ca X wA bx1 XA hXl pX
  have I2 := isOne_any (w.heap.size + 1) 0 b bb ob m cb Y wA bx2 YA hYl pY
  rw [d1] at I1
  rw [d2] at I2
  refine I1.mono ?_
  clear I1
  rintro e w1 ⟨rfl, hw1⟩
  rw [hw1]
  clear hw1
  have I2 := hide I2
  go_wp2_with fail
  refine I2.out.mono ?_
  clear I2
  rintro e w1 ⟨rfl, hw1⟩
  rw [hw1]
  clear hw1
  by_cases h4 : 2 < n
  · go_wp2_with fail
    refine (isShort_no w.heap.size 0 a n ca _ h4 bx1).mono ?_
    rintro e w1 ⟨rfl, hw1⟩
    rw [hw1]
    clear hw1 d1 d2 h1 h2 hX hY
    go_wp2
    refine wp_region_any (by kernel_rfl) ?_
    change wpAny _ _ _ _ _ _ _ (World.drew _)
    have bx1 : wA.drew.cell? ⟨w.heap.size, 0, none⟩ = some (.slice a n ca) := bx1
    have bx2 : wA.drew.cell? ⟨w.heap.size + 1, 0, none⟩ = some (.slice b m cb) := bx2
    have XA : Limbs wA.drew a ba oa n X := XA
    have YA : Limbs wA.drew b bb ob m Y := YA
    have zA : w.heap.size + 2 ≤ wA.drew.heap.size := zA
    have sA : w.Since w.heap.size wA.drew := ⟨sA.os, sA.tape, sA.output, sA.size, sA.block⟩
    generalize wA.drew = wD at *
    refine wpAny_inv (fun fuel l ac wx => ∃ l0 l1 l2 l3 l4 l5 l6 l7 t5 t6 t20 t21 t22 t23, l = #[l0, l1, l2, l3, l4, l5, l6, l7] ∧ fuel = left8 l0 l1 l2 l3 l4 l5 l6 l7 ∧ okl l1 l3 l4 l5 l6 l7 = true ∧
      ac = { tmps := #[Value.slice a n ca, Value.slice b m cb, Value.pointer (some { block := w.heap.size, off := 0 }), Value.pointer (some { block := w.heap.size + 1, off := 0 }), Value.slice none 0 0, t5, t6,
            Value.bool false, Value.bool false, Value.bool false, Value.bool false, undef, Value.bool false, Value.bool false, undef, Value.bool false, undef, undef, undef, undef, t20, t21, t22, t23, undef, undef], defers := [] } ∧
      J wD (.slice a n ca) (.slice b m cb) (tlen (nz X) n) (tlen (nz Y) m) X Y l0 l1 l2 l3 l4 l5 l6 l7 t5 t6 t20 t21 t22 t23 wx) ?_ ?_ ?_ _ _ _ _ ⟨_, _, _, _, _, _, _, _, _, _, _, _, _, _, rfl, rfl, rfl, rfl, J.start _ _ _ _ _ _ _ _ _⟩
    · rintro fuel l ac wx ⟨l0, l1, l2, l3, l4, l5, l6, l7, t5, t6, t20, t21, t22, t23, rfl, hf, hk, rfl, j⟩ i hi
      have hr : rdy l0 l1 l2 l3 l4 l5 l6 l7 i = true := by
        revert i
        refine List.all_eq_true.1 ?_
        revert hk
        clear hf j
        revert l0 l1 l2 l3 l4 l5 l6 l7
        exact of_decide_eq_true (by kernel_rfl)
      have k1 : wx.cell? ⟨w.heap.size, 0, none⟩ = some (.slice a n ca) := by rw [j.S.cell (a := ⟨w.heap.size, 0, none⟩) (by show w.heap.size < _; omega)]; exact bx1
      have k2 : wx.cell? ⟨w.heap.size + 1, 0, none⟩ = some (.slice b m cb) := by rw [j.S.cell (a := ⟨w.heap.size + 1, 0, none⟩) (by show w.heap.size + 1 < _; omega)]; exact bx2
      have kX := XA.keep j.S
      have kY := YA.keep j.S
      clear hi
      rcases i with _ | _ | _ | _ | _ | _ | _ | _ | i
      · simp [rdy] at hr
        subst hr
        refine ⟨_, rfl, fun K hK => ?_⟩
        go_simp
        refine hK _ _ ⟨true, l1, l2, l3, l4, l5, l6, l7, t5, t6, _, t21, t22, t23, rfl, ?_, hk, rfl, j.op0⟩
        simp [left8] at hf ⊢; omega
      · simp [rdy] at hr
        obtain ⟨⟨⟨rfl, rfl⟩, rfl⟩, rfl⟩ := hr
        have e := j.h0 rfl
        subst e
        refine ⟨_, rfl, fun K hK => ?_⟩
        go_simp
        refine (ownCopy_any a ba oa n ca X _ (by omega) hnc hac kX).mono ?_
        rintro e w' ⟨v, rfl, o, s⟩
        refine hK _ _ ⟨true, true, l2, false, l4, l5, false, l7, t5, t6, _, v, t22, t23, rfl, ?_, ?_, rfl, j.op1 s (own_ow o).1 (own_ow o).2⟩
        · simp [left8] at hf ⊢; omega
        · simpa [okl] using hk
      · simp [rdy] at hr
        subst hr
        refine ⟨_, rfl, fun K hK => ?_⟩
        go_simp
        refine hK _ _ ⟨l0, l1, true, l3, l4, l5, l6, l7, t5, t6, t20, t21, _, t23, rfl, ?_, hk, rfl, j.op2⟩
        simp [left8] at hf ⊢; omega
      · simp [rdy] at hr
        obtain ⟨⟨⟨rfl, rfl⟩, rfl⟩, rfl⟩ := hr
        have e := j.h2 rfl
        subst e
        refine ⟨_, rfl, fun K hK => ?_⟩
        go_simp
        refine (ownCopy_any b bb ob m cb Y _ (by omega) hmc hbc kY).mono ?_
        rintro e w' ⟨v, rfl, o, s⟩
        refine hK _ _ ⟨l0, true, true, true, l4, l5, l6, false, t5, t6, t20, t21, _, v, rfl, ?_, ?_, rfl, j.op3 s (own_ow o).1 (own_ow o).2⟩
        · simp [left8] at hf ⊢; omega
        · revert hk; cases l6 <;> cases l4 <;> cases l5 <;> decide
      · simp [rdy] at hr
        obtain ⟨rfl, rfl⟩ := hr
        refine ⟨_, rfl, fun K hK => ?_⟩
        go_simp
        refine hK _ _ ⟨l0, l1, l2, l3, true, l5, false, l7, _, t6, t20, t21, t22, t23, rfl, ?_, ?_, rfl, j.op4 50⟩
        · simp [left8] at hf ⊢; omega
        · simpa [okl] using hk
      · simp [rdy] at hr
        obtain ⟨rfl, rfl⟩ := hr
        refine ⟨_, rfl, fun K hK => ?_⟩
        go_simp
        refine hK _ _ ⟨l0, l1, l2, l3, l4, true, l6, false, t5, _, t20, t21, t22, t23, rfl, ?_, ?_, rfl, j.op5 50⟩
        · simp [left8] at hf ⊢; omega
        · revert hk; cases l6 <;> cases l4 <;> cases l1 <;> cases l3 <;> decide
      · simp [rdy] at hr
        obtain ⟨⟨⟨⟨rfl, rfl⟩, rfl⟩, rfl⟩, rfl⟩ := hr
        obtain ⟨c, e5, c1, c2, c3⟩ := j.h4 rfl
        obtain ⟨xa, xg, xc, e21, -⟩ := ow_parts (j.h1 rfl) j.B21 wx.heap.size j.S.size (Nat.le_refl _)
        subst e5 e21
        rw [if_neg (by simp)] at c1
        refine ⟨_, rfl, fun K hK => ?_⟩
        go_simp
        refine hK _ _ ⟨l0, true, l2, true, true, true, true, l7, _, t6, t20, _, t22, t23, rfl, ?_, ?_, rfl, j.op6 rfl⟩
        · simp [left8] at hf ⊢; omega
        · simp [okl]
      · simp [rdy] at hr
        obtain ⟨⟨⟨rfl, rfl⟩, rfl⟩, rfl⟩ := hr
        obtain ⟨c, e5, c1, c2, c3⟩ := j.h5 rfl
        obtain ⟨xa, xg, xc, e21, -⟩ := ow_parts (j.h3 rfl) j.B23 wx.heap.size j.S.size (Nat.le_refl _)
        subst e5 e21
        rw [if_neg (by simp)] at c1
        refine ⟨_, rfl, fun K hK => ?_⟩
        go_simp
        refine hK _ _ ⟨l0, l1, l2, true, l4, true, true, true, t5, _, t20, t21, t22, _, rfl, ?_, ?_, rfl, j.op7 rfl⟩
        · simp [left8] at hf ⊢; omega
        · simpa [okl] using hk
      · cases hr
    · rintro l ac wx ⟨l0, l1, l2, l3, l4, l5, l6, l7, t5, t6, t20, t21, t22, t23, rfl, hf, hk, rfl, j⟩
      revert hf
      clear hk j
      revert l0 l1 l2 l3 l4 l5 l6 l7
      exact of_decide_eq_true (by kernel_rfl)
    · rintro fuel l ac wx ⟨l0, l1, l2, l3, l4, l5, l6, l7, t5, t6, t20, t21, t22, t23, rfl, hf, hk, rfl, j⟩ he
      have hall : (l0 && (l1 && (l2 && (l3 && (l4 && (l5 && (l6 && l7))))))) = true := by
        revert he
        clear hf j
        revert hk
        revert l0 l1 l2 l3 l4 l5 l6 l7
        exact of_decide_eq_true (by kernel_rfl)
      simp only [Bool.and_eq_true] at hall
      obtain ⟨rfl, rfl, rfl, rfl, rfl, rfl, rfl, rfl⟩ := hall
      have htX := tlen_le (nz X) n
      have htY := tlen_le (nz Y) m
      obtain ⟨c, d, gn, gm, an, am, cn, cm, rfl, rfl, G⟩ := j.gd (fun q hq => hXl q (by omega)) (fun q hq => hYl q (by omega)) (fun h => by have := tlen_top (nz X) n h; simpa [nz] using this) (fun h => by have := tlen_top (nz Y) m h; simpa [nz] using this)
      have HL := hide (And.intro (lv_tlen X n) (lv_tlen Y m))
      have hTD : Tab wD := fun q hq => by rw [sA.cell (a := ⟨1, q, none⟩) hw]; exact hT q hq
      clear j he hk hf hXl hYl pX pY
      go_wp2_with fail
      refine (becomeGcd_any _ c d gn gm an am _ _ cn cm X Y _ _ (by omega) (by omega) (by omega) G hTD).mono ?_
      rintro e w3 ⟨rfl, ra, rg, rk, rc, Z, z1, z2, z3, z4, z5, z6, z7, z8, z9, z10, z11⟩
      have Z7 := hide (And.intro z7 (And.intro z8 z9))
      clear z7 z8 z9
      go_wp2_with fail
      go_ret
      refine ⟨_, rg, rfl, ⟨ra, rk, rc, Z, rfl, z2, z3, z4, z5, z6, Z7.out.1, Z7.out.2.1, ?_⟩, by omega, sA.trans (sinceMono z11 (by omega))⟩
      rw [Z7.out.2.2, HL.out.1, HL.out.2]
  · go_wp2_with fail
    refine (isShort_yes w.heap.size 0 a n ca _ (by omega) bx1).mono ?_
    rintro e w1 ⟨rfl, hw1⟩
    rw [hw1]
    clear hw1
    go_wp2_with fail
    refine (isShort_no (w.heap.size + 1) 0 b m cb _ (by omega) bx2).mono ?_
    rintro e w1 ⟨rfl, hw1⟩
    rw [hw1]
    clear hw1 d1 d2 h1 h2 hX hY
    go_wp2
    refine wp_region_any (by kernel_rfl) ?_
    change wpAny _ _ _ _ _ _ _ (World.drew _)
    have bx1 : wA.drew.cell? ⟨w.heap.size, 0, none⟩ = some (.slice a n ca) := bx1
    have bx2 : wA.drew.cell? ⟨w.heap.size + 1, 0, none⟩ = some (.slice b m cb) := bx2
    have XA : Limbs wA.drew a ba oa n X := XA
    have YA : Limbs wA.drew b bb ob m Y := YA
    have zA : w.heap.size + 2 ≤ wA.drew.heap.size := zA
    have sA : w.Since w.heap.size wA.drew := ⟨sA.os, sA.tape, sA.output, sA.size, sA.block⟩
    generalize wA.drew = wD at *
    refine wpAny_inv (fun fuel l ac wx => ∃ l0 l1 l2 l3 l4 l5 l6 l7 t5 t6 t20 t21 t22 t23, l = #[l0, l1, l2, l3, l4, l5, l6, l7] ∧ fuel = left8 l0 l1 l2 l3 l4 l5 l6 l7 ∧ okl l1 l3 l4 l5 l6 l7 = true ∧
      ac = { tmps := #[Value.slice a n ca, Value.slice b m cb, Value.pointer (some { block := w.heap.size, off := 0 }), Value.pointer (some { block := w.heap.size + 1, off := 0 }), Value.slice none 0 0, t5, t6,
            Value.bool false, Value.bool false, Value.bool false, Value.bool false, undef, Value.bool true, Value.bool true, Value.bool false, Value.bool false, undef, undef, undef, undef, t20, t21, t22, t23, undef, undef], defers := [] } ∧
      J wD (.slice a n ca) (.slice b m cb) (tlen (nz X) n) (tlen (nz Y) m) X Y l0 l1 l2 l3 l4 l5 l6 l7 t5 t6 t20 t21 t22 t23 wx) ?_ ?_ ?_ _ _ _ _ ⟨_, _, _, _, _, _, _, _, _, _, _, _, _, _, rfl, rfl, rfl, rfl, J.start _ _ _ _ _ _ _ _ _⟩
    · rintro fuel l ac wx ⟨l0, l1, l2, l3, l4, l5, l6, l7, t5, t6, t20, t21, t22, t23, rfl, hf, hk, rfl, j⟩ i hi
      have hr : rdy l0 l1 l2 l3 l4 l5 l6 l7 i = true := by
        revert i
        refine List.all_eq_true.1 ?_
        revert hk
        clear hf j
        revert l0 l1 l2 l3 l4 l5 l6 l7
        exact of_decide_eq_true (by kernel_rfl)
      have k1 : wx.cell? ⟨w.heap.size, 0, none⟩ = some (.slice a n ca) := by rw [j.S.cell (a := ⟨w.heap.size, 0, none⟩) (by show w.heap.size < _; omega)]; exact bx1
      have k2 : wx.cell? ⟨w.heap.size + 1, 0, none⟩ = some (.slice b m cb) := by rw [j.S.cell (a := ⟨w.heap.size + 1, 0, none⟩) (by show w.heap.size + 1 < _; omega)]; exact bx2
      have kX := XA.keep j.S
      have kY := YA.keep j.S
      clear hi
      rcases i with _ | _ | _ | _ | _ | _ | _ | _ | i
      · simp [rdy] at hr
        subst hr
        refine ⟨_, rfl, fun K hK => ?_⟩
        go_simp
        refine hK _ _ ⟨true, l1, l2, l3, l4, l5, l6, l7, t5, t6, _, t21, t22, t23, rfl, ?_, hk, rfl, j.op0⟩
        simp [left8] at hf ⊢; omega
      · simp [rdy] at hr
        obtain ⟨⟨⟨rfl, rfl⟩, rfl⟩, rfl⟩ := hr
        have e := j.h0 rfl
        subst e
        refine ⟨_, rfl, fun K hK => ?_⟩
        go_simp
        refine (ownCopy_any a ba oa n ca X _ (by omega) hnc hac kX).mono ?_
        rintro e w' ⟨v, rfl, o, s⟩
        refine hK _ _ ⟨true, true, l2, false, l4, l5, false, l7, t5, t6, _, v, t22, t23, rfl, ?_, ?_, rfl, j.op1 s (own_ow o).1 (own_ow o).2⟩
        · simp [left8] at hf ⊢; omega
        · simpa [okl] using hk
      · simp [rdy] at hr
        subst hr
        refine ⟨_, rfl, fun K hK => ?_⟩
        go_simp
        refine hK _ _ ⟨l0, l1, true, l3, l4, l5, l6, l7, t5, t6, t20, t21, _, t23, rfl, ?_, hk, rfl, j.op2⟩
        simp [left8] at hf ⊢; omega
      · simp [rdy] at hr
        obtain ⟨⟨⟨rfl, rfl⟩, rfl⟩, rfl⟩ := hr
        have e := j.h2 rfl
        subst e
        refine ⟨_, rfl, fun K hK => ?_⟩
        go_simp
        refine (ownCopy_any b bb ob m cb Y _ (by omega) hmc hbc kY).mono ?_
        rintro e w' ⟨v, rfl, o, s⟩
        refine hK _ _ ⟨l0, true, true, true, l4, l5, l6, false, t5, t6, t20, t21, _, v, rfl, ?_, ?_, rfl, j.op3 s (own_ow o).1 (own_ow o).2⟩
        · simp [left8] at hf ⊢; omega
        · revert hk; cases l6 <;> cases l4 <;> cases l5 <;> decide
      · simp [rdy] at hr
        obtain ⟨rfl, rfl⟩ := hr
        refine ⟨_, rfl, fun K hK => ?_⟩
        go_simp
        refine hK _ _ ⟨l0, l1, l2, l3, true, l5, false, l7, _, t6, t20, t21, t22, t23, rfl, ?_, ?_, rfl, j.op4 50⟩
        · simp [left8] at hf ⊢; omega
        · simpa [okl] using hk
      · simp [rdy] at hr
        obtain ⟨rfl, rfl⟩ := hr
        refine ⟨_, rfl, fun K hK => ?_⟩
        go_simp
        refine hK _ _ ⟨l0, l1, l2, l3, l4, true, l6, false, t5, _, t20, t21, t22, t23, rfl, ?_, ?_, rfl, j.op5 50⟩
        · simp [left8] at hf ⊢; omega
        · revert hk; cases l6 <;> cases l4 <;> cases l1 <;> cases l3 <;> decide
      · simp [rdy] at hr
        obtain ⟨⟨⟨⟨rfl, rfl⟩, rfl⟩, rfl⟩, rfl⟩ := hr
        obtain ⟨c, e5, c1, c2, c3⟩ := j.h4 rfl
        obtain ⟨xa, xg, xc, e21, -⟩ := ow_parts (j.h1 rfl) j.B21 wx.heap.size j.S.size (Nat.le_refl _)
        subst e5 e21
        rw [if_neg (by simp)] at c1
        refine ⟨_, rfl, fun K hK => ?_⟩
        go_simp
        refine hK _ _ ⟨l0, true, l2, true, true, true, true, l7, _, t6, t20, _, t22, t23, rfl, ?_, ?_, rfl, j.op6 rfl⟩
        · simp [left8] at hf ⊢; omega
        · simp [okl]
      · simp [rdy] at hr
        obtain ⟨⟨⟨rfl, rfl⟩, rfl⟩, rfl⟩ := hr
        obtain ⟨c, e5, c1, c2, c3⟩ := j.h5 rfl
        obtain ⟨xa, xg, xc, e21, -⟩ := ow_parts (j.h3 rfl) j.B23 wx.heap.size j.S.size (Nat.le_refl _)
        subst e5 e21
        rw [if_neg (by simp)] at c1
        refine ⟨_, rfl, fun K hK => ?_⟩
        go_simp
        refine hK _ _ ⟨l0, l1, l2, true, l4, true, true, true, t5, _, t20, t21, t22, _, rfl, ?_, ?_, rfl, j.op7 rfl⟩
        · simp [left8] at hf ⊢; omega
        · simpa [okl] using hk
      · cases hr
    · rintro l ac wx ⟨l0, l1, l2, l3, l4, l5, l6, l7, t5, t6, t20, t21, t22, t23, rfl, hf, hk, rfl, j⟩
      revert hf
      clear hk j
      revert l0 l1 l2 l3 l4 l5 l6 l7
      exact of_decide_eq_true (by kernel_rfl)
    · rintro fuel l ac wx ⟨l0, l1, l2, l3, l4, l5, l6, l7, t5, t6, t20, t21, t22, t23, rfl, hf, hk, rfl, j⟩ he
      have hall : (l0 && (l1 && (l2 && (l3 && (l4 && (l5 && (l6 && l7))))))) = true := by
        revert he
        clear hf j
        revert hk
        revert l0 l1 l2 l3 l4 l5 l6 l7
        exact of_decide_eq_true (by kernel_rfl)
      simp only [Bool.and_eq_true] at hall
      obtain ⟨rfl, rfl, rfl, rfl, rfl, rfl, rfl, rfl⟩ := hall
      have htX := tlen_le (nz X) n
      have htY := tlen_le (nz Y) m
      obtain ⟨c, d, gn, gm, an, am, cn, cm, rfl, rfl, G⟩ := j.gd (fun q hq => hXl q (by omega)) (fun q hq => hYl q (by omega)) (fun h => by have := tlen_top (nz X) n h; simpa [nz] using this) (fun h => by have := tlen_top (nz Y) m h; simpa [nz] using this)
      have HL := hide (And.intro (lv_tlen X n) (lv_tlen Y m))
      have hTD : Tab wD := fun q hq => by rw [sA.cell (a := ⟨1, q, none⟩) hw]; exact hT q hq
      clear j he hk hf hXl hYl pX pY
      go_wp2_with fail
      refine (becomeGcd_any _ c d gn gm an am _ _ cn cm X Y _ _ (by omega) (by omega) (by omega) G hTD).mono ?_
      rintro e w3 ⟨rfl, ra, rg, rk, rc, Z, z1, z2, z3, z4, z5, z6, z7, z8, z9, z10, z11⟩
      have Z7 := hide (And.intro z7 (And.intro z8 z9))
      clear z7 z8 z9
      go_wp2_with fail
      go_ret
      refine ⟨_, rg, rfl, ⟨ra, rk, rc, Z, rfl, z2, z3, z4, z5, z6, Z7.out.1, Z7.out.2.1, ?_⟩, by omega, sA.trans (sinceMono z11 (by omega))⟩
      rw [Z7.out.2.2, HL.out.1, HL.out.2]

end Go.Proofs.YtklkohdcilnchabDoor

namespace Go.Proofs.YtklkohdcilnchabDoor
open Go.RowKit

theorem natAt_one (w : World) : NatAt (w.alloc (.cells #[.int .u32 1] 49)) (.slice (some ⟨w.heap.size, 0, none⟩) 1 1) w.heap.size 1 4194304 := by
  refine ⟨_, 1, 1, fun _ => 1, rfl, by omega, by omega, fun h => (by cases h), fun j hj => ?_, fun _ o => by simp [go_sem], fun _ _ => (by show 1 < 4294967296; omega), fun _ => by decide, by simp [lv]⟩
  have e : j = 0 := by omega
  subst e
  exact ⟨rfl, by simp [go_sem]⟩

set_option maxHeartbeats 6400000 in
set_option maxRecDepth 100000 in
theorem gcdOf_any (a b : Option Addr) (ba oa n ca bb ob m cb : Nat) (X Y : Nat → Nat) (w : World) (hw : 1 < w.heap.size) (hn : n ≤ 1048576) (hm : m ≤ 1048576) (hnc : n ≤ ca) (hmc : m ≤ cb) (hac : a = none → ca = 0) (hbc : b = none → cb = 0)
    (hX : Limbs w a ba oa n X) (hY : Limbs w b bb ob m Y) (hXl : ∀ j, j < n → X j < 4294967296) (hYl : ∀ j, j < m → Y j < 4294967296) (pX : 0 < n → X (n - 1) ≠ 0) (pY : 0 < m → Y (m - 1) ≠ 0) (hT : Tab w) :
    Calls Tryd.prog 39 #[.slice a n ca, .slice b m cb] w fun e w' => ∃ v g, e = .returned v ∧ NatAt w' v g (Nat.gcd (lv X n) (lv Y m)) 4194304 ∧ w.heap.size ≤ g ∧ w.Since w.heap.size w' := by
  by_cases hbig : lv X n ≠ 1 ∧ lv Y m ≠ 1 ∧ (2 < n ∨ 2 < m)
  · exact gcdOf_big a b ba oa n ca bb ob m cb X Y w hw hn hm hnc hmc hac hbc hX hY hXl hYl pX pY hT hbig.1 hbig.2.1 hbig.2.2
  have sA : w.Since w.heap.size ((w.alloc (.cells #[.slice a n ca] 50)).alloc (.cells #[.slice b m cb] 50)) := ((World.Since.refl _ _).alloc (Nat.le_refl _) _).alloc (by simp) _
  have bx1 : ((w.alloc (.cells #[.slice a n ca] 50)).alloc (.cells #[.slice b m cb] 50)).cell? ⟨w.heap.size, 0, none⟩ = some (.slice a n ca) := by rw [World.cell?_alloc_old _ _ _ (by simp)]; simp [go_sem]
  have bx2 : ((w.alloc (.cells #[.slice a n ca] 50)).alloc (.cells #[.slice b m cb] 50)).cell? ⟨w.heap.size + 1, 0, none⟩ = some (.slice b m cb) := by simp [go_sem]
  have zA : w.heap.size + 2 ≤ ((w.alloc (.cells #[.slice a n ca] 50)).alloc (.cells #[.slice b m cb] 50)).heap.size := by simp
  have XA := hX.keep sA
  have YA := hY.keep sA
  by_cases h1 : lv X n = 1
  · have eG : Nat.gcd (lv X n) (lv Y m) = 1 := by rw [h1]; exact Nat.gcd_one_left _
    rw [eG]
    have d1 : decide (lv X n = 1) = true := by simp [h1]
    go_enter Tryd.func39, Tryd.ntmps39
    go_wp2_with fail
    generalize (w.alloc (.cells #[.slice a n ca] 50)).alloc (.cells #[.slice b m cb] 50) = wA at *
    have I1 := isOne_any w.heap.size 0 a ba oa n ca X wA bx1 XA hXl pX
    rw [d1] at I1
    refine I1.mono ?_
    clear I1
    rintro e w1 ⟨rfl, hw1⟩
    rw [hw1]
    clear hw1 hXl hYl pX pY d1 h1 hbig eG
    go_wp2
    go_ret
    exact ⟨_, wA.heap.size, rfl, natAt_one wA, by omega, sA.alloc (by omega) _⟩
  by_cases h2 : lv Y m = 1
  · have eG : Nat.gcd (lv X n) (lv Y m) = 1 := by rw [h2]; exact Nat.gcd_one_right _
    rw [eG]
    have d1 : decide (lv X n = 1) = false := by simp [h1]
    have d2 : decide (lv Y m = 1) = true := by simp [h2]
    go_enter Tryd.func39, Tryd.ntmps39
    go_wp2_with fail
    generalize (w.alloc (.cells #[.slice a n ca] 50)).alloc (.cells #[.slice b m cb] 50) = wA at *
    have I1 := isOne_any w.heap.size 0 a ba oa n ca X wA bx1 XA hXl pX
    have I2 := isOne_any (w.heap.size + 1) 0 b bb ob m cb Y wA bx2 YA hYl pY
    rw [d1] at I1
    rw [d2] at I2
    refine I1.mono ?_
    clear I1
    rintro e w1 ⟨rfl, hw1⟩
    rw [hw1]
    clear hw1
    have I2 := hide I2
    go_wp2_with fail
    refine I2.out.mono ?_
    clear I2
    rintro e w1 ⟨rfl, hw1⟩
    rw [hw1]
    clear hw1 hXl hYl pX pY d1 d2 h1 h2 hbig eG
    go_wp2
    go_ret
    exact ⟨_, wA.heap.size, rfl, natAt_one wA, by omega, sA.alloc (by omega) _⟩
  · have h3 : n ≤ 2 := by rcases Nat.lt_or_ge 2 n with h | h; · exact absurd ⟨h1, h2, Or.inl h⟩ hbig
                          · exact h
    have h4 : m ≤ 2 := by rcases Nat.lt_or_ge 2 m with h | h; · exact absurd ⟨h1, h2, Or.inr h⟩ hbig
                          · exact h
    have d1 : decide (lv X n = 1) = false := by simp [h1]
    have d2 : decide (lv Y m = 1) = false := by simp [h2]
    have vX : lv X n < 18446744073709551616 := short_lt h3 hXl
    have vY : lv Y m < 18446744073709551616 := short_lt h4 hYl
    have vG : Nat.gcd (lv X n) (lv Y m) < 18446744073709551616 := by
      rcases Nat.eq_zero_or_pos (lv X n) with e | e
      · rw [e, Nat.gcd_zero_left]; exact vY
      · exact Nat.lt_of_le_of_lt (Nat.gcd_le_left _ e) vX
    go_enter Tryd.func39, Tryd.ntmps39
    go_wp2_with fail
    generalize (w.alloc (.cells #[.slice a n ca] 50)).alloc (.cells #[.slice b m cb] 50) = wA at *
    have I1 := isOne_any w.heap.size 0 a ba oa n ca X wA bx1 XA hXl pX
    have I2 := isOne_any (w.heap.size + 1) 0 b bb ob m cb Y wA bx2 YA hYl pY
    rw [d1] at I1
    rw [d2] at I2
    refine I1.mono ?_
    clear I1
    rintro e w1 ⟨rfl, hw1⟩
    rw [hw1]
    clear hw1
    have I2 := hide I2
    go_wp2_with fail
    refine I2.out.mono ?_
    clear I2
    rintro e w1 ⟨rfl, hw1⟩
    rw [hw1]
    clear hw1
    go_wp2_with fail
    refine (isShort_yes w.heap.size 0 a n ca _ h3 bx1).mono ?_
    rintro e w1 ⟨rfl, hw1⟩
    rw [hw1]
    clear hw1
    go_wp2_with fail
    refine (isShort_yes (w.heap.size + 1) 0 b m cb _ h4 bx2).mono ?_
    rintro e w1 ⟨rfl, hw1⟩
    rw [hw1]
    clear hw1
    go_wp2_with fail
    refine (short_any w.heap.size 0 a ba oa n ca X wA h3 bx1 XA hXl).mono ?_
    rintro e w1 ⟨rfl, hw1⟩
    rw [hw1]
    clear hw1
    go_wp2_with fail
    refine (short_any (w.heap.size + 1) 0 b bb ob m cb Y wA h4 bx2 YA hYl).mono ?_
    rintro e w1 ⟨rfl, hw1⟩
    rw [hw1]
    clear hw1
    go_wp2_with fail
    refine (shortGcd_any _ _ wA vX vY).mono ?_
    rintro e w1 ⟨rfl, s1⟩
    go_wp2_with fail
    refine (natOfShort_any _ w1 vG).mono ?_
    rintro e w2 ⟨S, rfl, r2, l2, e2, s2⟩
    go_wp2_with fail
    go_ret
    have t2 := tlen_le (nz S) 2
    have z1 := (s1.since wA.heap.size).size
    have L2 := limbs_row r2
    refine ⟨_, w1.heap.size, rfl, ⟨_, _, _, S, rfl, t2, by omega, fun h => (by cases h), L2.take t2, fun _ o => r2.frozen o, fun j _ => l2 j, fun h => by have := tlen_top (nz S) 2 h; simpa [nz] using this, by rw [lv_tlen]; exact e2⟩, by omega, ?_⟩
    exact (sA.trans (sinceMono (s1.since wA.heap.size) (by omega))).trans (sinceMono s2 (by omega))

end Go.Proofs.YtklkohdcilnchabDoor

namespace Go.Proofs.YtklkohdcilnchabDoor
open Go.RowKit

theorem Tab.keep {w w' : World} (h : Tab w) (hw : 1 < w.heap.size) (s : w.Since w.heap.size w') : Tab w' := fun q hq => by rw [s.cell (a := ⟨1, q, none⟩) hw]; exact h q hq

set_option maxHeartbeats 3200000 in
set_option maxRecDepth 100000 in
theorem implNatGcd_any (a a' : Option Addr) (b off n cap b' off' m cap' : Nat) (X Y : Nat → Nat) (w : World) (hw : 1 < w.heap.size) (hn : n ≤ 1048576) (hm : m ≤ 1048576) (hnc : n ≤ cap) (hmc : m ≤ cap') (hac : a = none → cap = 0) (hbc : a' = none → cap' = 0)
    (hX : Limbs w a b off n X) (hY : Limbs w a' b' off' m Y) (hXl : ∀ j, j < n → X j < 4294967296) (hYl : ∀ j, j < m → Y j < 4294967296) (hT : Tab w) :
    Calls Tryd.prog 13 #[.slice a n cap, .slice a' m cap'] w fun e w' => ∃ v, e = .returned v ∧ NatOut w w' v (Nat.gcd (lv X n) (lv Y m)) 4194304 ∧ w.Since w.heap.size w' := by
  have tX := tlen_le (nz X) n
  have tY := tlen_le (nz Y) m
  go_enter Tryd.func13, Tryd.ntmps13
  go_wp2_with fail
  refine (readOnly_any a b off n cap X _ (by omega) hnc hX).mono ?_
  rintro e w1 ⟨rfl, s1⟩
  go_wp2_with fail
  refine (readOnly_any a' b' off' m cap' Y _ (by omega) hmc (hY.keep s1)).mono ?_
  rintro e w2 ⟨rfl, s2⟩
  have S2 : w.Since w.heap.size w2 := s1.trans (sinceMono s2 s1.size)
  clear s1 s2
  have z2 := S2.size
  go_wp2_with fail
  refine (gcdOf_any a a' b off _ cap b' off' _ cap' X Y _ (by omega) (by omega) (by omega) (by omega) (by omega) hac hbc ((hX.keep S2).take tX) ((hY.keep S2).take tY) (fun j hj => hXl j (by omega)) (fun j hj => hYl j (by omega))
    (fun h => by have := tlen_top (nz X) n h; simpa [nz] using this) (fun h => by have := tlen_top (nz Y) m h; simpa [nz] using this) (hT.keep hw S2)).mono ?_
  rintro e w3 ⟨v, g, rfl, ⟨a3, k, c3, Z, rfl, k1, k2, k3, L, F, l, p, e3⟩, hg, s3⟩
  rw [lv_tlen, lv_tlen] at e3
  have E := hide (And.intro l (And.intro p e3))
  clear l p e3
  go_wp2_with fail
  go_ret
  exact ⟨_, rfl, ⟨a3, g, k, c3, Z, rfl, k1, k2, L, by omega, F, E.out.1, E.out.2.1, E.out.2.2⟩, S2.trans (sinceMono s3 z2)⟩

set_option maxHeartbeats 3200000 in
set_option maxRecDepth 100000 in
theorem specNatGcd_any (a a' : Option Addr) (b off n cap b' off' m cap' : Nat) (X Y : Nat → Nat) (w : World) (hn : n ≤ 1048576) (hm : m ≤ 1048576) (hX : Limbs w a b off n X) (hY : Limbs w a' b' off' m Y)
    (hXl : ∀ j, j < n → X j < 4294967296) (hYl : ∀ j, j < m → Y j < 4294967296) :
    Calls Tryd.prog 11 #[.slice a n cap, .slice a' m cap'] w fun e w' => ∃ v, e = .returned v ∧ NatOut w w' v (Nat.gcd (lv X n) (lv Y m)) 4194304 ∧ w.Since w.heap.size w' := by
  go_enter Tryd.func11, Tryd.ntmps11
  go_wp2_with fail
  refine (l1Bits_any a b off n cap X _ (by omega) hX hXl).mono ?_
  rintro e w1 ⟨a1, g1, m1, c1, B1, rfl, k1, k2, L1, -, p1, e1, s1⟩
  have T1 : Tr w1 (.slice a1 m1 c1) m1 B1 := ⟨a1, g1, 0, c1, rfl, k1, L1, p1⟩
  clear L1 p1
  go_wp2_with fail
  refine (l1Bits_any a' b' off' m cap' Y _ (by omega) (hY.keep s1) hYl).mono ?_
  rintro e w2 ⟨a2, g2, m2, c2, B2, rfl, q1, q2, L2, -, p2, e2, s2⟩
  have T2 : Tr w2 (.slice a2 m2 c2) m2 B2 := ⟨a2, g2, 0, c2, rfl, q1, L2, p2⟩
  clear L2 p2
  have T1 := T1.keep s2
  have S2 : w.Since w.heap.size w2 := s1.trans (sinceMono s2 s1.size)
  have z2 := S2.size
  clear s1 s2
  have E12 := hide (And.intro e1 e2)
  clear e1 e2 hXl hYl
  go_wp2_with fail
  refine (l1GcdBits_any _ _ m1 m2 B1 B2 _ (by omega) (by omega) T1 T2).mono ?_
  rintro e w3 ⟨v, t, O, rfl, ht, ⟨a3, b3, o3, c3, rfl, r1, L3, -⟩, e3, s3⟩
  have S3 : w.Since w.heap.size w3 := S2.trans (sinceMono s3 z2)
  have z3 := S3.size
  have E3 := hide e3
  clear e3 s3 S2 T1 T2
  go_wp2_with fail
  refine (l1Limbs_any a3 b3 o3 t c3 O _ (by omega) r1 L3).mono ?_
  rintro e w4 ⟨a4, g4, m4, c4, Z, rfl, u1, u2, L4, u3, F4, l4, p4, e4, s4⟩
  have E := hide (And.intro l4 (And.intro p4 e4))
  clear l4 p4 e4
  have z4 := s4.size
  go_wp2_with fail
  go_ret
  exact ⟨_, rfl, natOut_mk (by omega) u1 (by omega) L4 (fun h => by have := u3 h; omega) F4 (fun j _ => E.out.1 j) E.out.2.1 (by rw [E.out.2.2, E3.out, E12.out.1, E12.out.2]), S3.trans (sinceMono s4 z3)⟩

set_option maxHeartbeats 3200000 in
set_option maxRecDepth 100000 in
theorem natGcd_long (a a' : Option Addr) (n cap m cap' : Nat) (w : World) (hn : n ≤ 9223372036854775807) (hm : m ≤ 9223372036854775807) (h : 1048576 < n ∨ 1048576 < m) :
    Calls Tryd.prog 3 #[.slice a n cap, .slice a' m cap'] w fun e w' => e = .returned (.bool true) ∧ w.Since w.heap.size w' := by
  by_cases h1 : 1048576 < n
  · go_enter Tryd.func3, Tryd.ntmps3
    go_wp2
    go_ret
    exact ⟨rfl, World.Since.refl _ _⟩
  · have h2 : 1048576 < m := by omega
    go_enter Tryd.func3, Tryd.ntmps3
    go_wp2
    go_ret
    exact ⟨rfl, World.Since.refl _ _⟩

end Go.Proofs.YtklkohdcilnchabDoor

namespace Go.Proofs.YtklkohdcilnchabDoor
open Go.RowKit

/-- What the law holds in hand behind its two calls: the two answers (g3: the specification's, g6: the function's), the two arguments handed over (x0, x1). -/
structure St (w wk : World) (a3 a6 : Option Addr) (g3 g6 x0 x1 n m t : Nat) (X Y Z : Nat → Nat) : Prop where
  S : w.Since w.heap.size wk
  L3 : Limbs wk a3 g3 0 t Z
  L4 : Limbs wk (some ⟨x0, 0, none⟩) x0 0 n X
  L5 : Limbs wk (some ⟨x1, 0, none⟩) x1 0 m Y
  L6 : Limbs wk a6 g6 0 t Z
  F4 : ∀ o, wk.frozen? ⟨x0, o, none⟩ = false
  F5 : ∀ o, wk.frozen? ⟨x1, o, none⟩ = false
  F6 : 0 < t → ∀ o, wk.frozen? ⟨g6, o, none⟩ = false
  b4 : x0 < wk.heap.size
  b5 : x1 < wk.heap.size

theorem St.keep {w wk wk' : World} {a3 a6 : Option Addr} {g3 g6 x0 x1 n m t : Nat} {X Y Z : Nat → Nat} (h : St w wk a3 a6 g3 g6 x0 x1 n m t X Y Z) (s : wk.Since wk.heap.size wk') : St w wk' a3 a6 g3 g6 x0 x1 n m t X Y Z :=
  ⟨h.S.trans (sinceMono s h.S.size), h.L3.keep s, h.L4.keep s, h.L5.keep s, h.L6.keep s, fun o => by rw [s.frozen (a := ⟨x0, o, none⟩) h.b4]; exact h.F4 o, fun o => by rw [s.frozen (a := ⟨x1, o, none⟩) h.b5]; exact h.F5 o,
    fun h0 o => by rw [s.frozen (a := ⟨g6, o, none⟩) (h.L6.lt h0)]; exact h.F6 h0 o, Nat.lt_of_lt_of_le h.b4 s.size, Nat.lt_of_lt_of_le h.b5 s.size⟩

theorem St.same {w wk wk' : World} {a3 a6 : Option Addr} {g3 g6 x0 x1 n m t : Nat} {X Y Z : Nat → Nat} (h : St w wk a3 a6 g3 g6 x0 x1 n m t X Y Z) (s : Same wk wk') : St w wk' a3 a6 g3 g6 x0 x1 n m t X Y Z := h.keep (s.since _)

set_option maxHeartbeats 3200000 in
set_option maxRecDepth 100000 in
theorem natGcd_law (a a' : Option Addr) (b off n cap b' off' m cap' : Nat) (X Y : Nat → Nat) (w : World) (hn : n ≤ 1048576) (hm : m ≤ 1048576) (hX : Limbs w a b off n X) (hY : Limbs w a' b' off' m Y)
    (hXl : ∀ j, j < n → X j < 4294967296) (hYl : ∀ j, j < m → Y j < 4294967296) (hw : 1 < w.heap.size) (hT : Tab w) :
    Calls Tryd.prog 3 #[.slice a n cap, .slice a' m cap'] w fun e w' => e = .returned (.bool true) ∧ w.Since w.heap.size w' := by
  have hbX : 0 < n → b < w.heap.size := hX.lt
  have hbY : 0 < m → b' < w.heap.size := hY.lt
  go_enter Tryd.func3, Tryd.ntmps3
  go_wp2_with fail
  -- w0 := spec.NatGcd(toUint32S(aA), toUint32S(aB))
  refine (to_any a b off n cap X _ hn hX).mono ?_
  rintro e w1 ⟨rfl, s1, r1⟩
  go_wp2_with fail
  refine (to_any a' b' off' m cap' Y _ hm (hY.keep s1)).mono ?_
  rintro e w2 ⟨rfl, s2, r2⟩
  go_wp2_with fail
  refine (specNatGcd_any _ _ _ 0 n n _ 0 m m X Y _ hn hm ((limbs_row r1).keep s2) (limbs_row r2) hXl hYl).mono ?_
  rintro e w3 ⟨v3, rfl, ⟨a3, g3, m3, c3, Z3, rfl, k31, k32, L3, G3, F3, l3, p3, e3⟩, s3⟩
  have S3 : w.Since w.heap.size w3 := (s1.trans (sinceMono s2 s1.size)).trans (sinceMono s3 (by have := s1.size; have := s2.size; omega))
  have G3' : w.heap.size ≤ g3 := by have := s1.size; have := s2.size; omega
  clear s1 s2 s3 r1 r2 G3
  -- x0, x1, g0 := impl.NatGcd(x0, x1)
  go_wp2_with fail
  refine (to_any a b off n cap X _ hn (hX.keep S3)).mono ?_
  rintro e w4 ⟨rfl, s4, r4⟩
  go_wp2_with fail
  refine (to_any a' b' off' m cap' Y _ hm ((hY.keep S3).keep s4)).mono ?_
  rintro e w5 ⟨rfl, s5, r5⟩
  have S5 : w.Since w.heap.size w5 := (S3.trans (sinceMono s4 S3.size)).trans (sinceMono s5 (by have := s4.size; have := S3.size; omega))
  have L4 := (limbs_row r4).keep s5
  have L5 := limbs_row r5
  have F4 : ∀ o, w5.frozen? ⟨w3.heap.size, o, none⟩ = false := fun o => by rw [s5.frozen (a := ⟨w3.heap.size, o, none⟩) r4.lt]; exact r4.frozen o
  have F5 : ∀ o, w5.frozen? ⟨w4.heap.size, o, none⟩ = false := fun o => r5.frozen o
  have L3' := (L3.keep s4).keep s5
  have b3 : 0 < m3 → g3 < w3.heap.size := L3.lt
  have b34 : w3.heap.size < w4.heap.size := r4.lt
  have b45 : w4.heap.size < w5.heap.size := r5.lt
  have b0 := S3.size
  clear r4 r5 s4 s5 L3
  go_wp2_with fail
  refine (implNatGcd_any _ _ _ 0 n n _ 0 m m X Y _ (by omega) hn hm (Nat.le_refl _) (Nat.le_refl _) (fun h => (by cases h)) (fun h => (by cases h)) L4 L5 hXl hYl (hT.keep hw S5)).mono ?_
  rintro e w6 ⟨v6, rfl, ⟨a6, g6, m6, c6, Z6, rfl, k61, k62, L6, G6, F6, l6, p6, e6⟩, s6⟩
  obtain ⟨em, eZ⟩ := lv_inj l6 l3 p6 p3 (e6.trans e3.symm)
  subst em
  have L6 := L6.congr eZ
  have l3' := hide l3
  have p3' := hide p3
  have e3' := hide e3
  clear l6 p6 e6 eZ l3 p3 e3
  have S6 : w.Since w.heap.size w6 := S5.trans (sinceMono s6 S5.size)
  have b56 := s6.size
  have b6 : 0 < m6 → g6 < w6.heap.size := L6.lt
  have T6 : St w w6 a3 a6 g3 g6 w3.heap.size w4.heap.size n m m6 X Y Z3 := ⟨S6, L3'.keep s6, L4.keep s6, L5.keep s6, L6, fun o => by rw [s6.frozen (a := ⟨w3.heap.size, o, none⟩) (by show w3.heap.size < _; omega)]; exact F4 o,
    fun o => by rw [s6.frozen (a := ⟨w4.heap.size, o, none⟩) b45]; exact F5 o, F6, by omega, by omega⟩
  clear L3' s6 S5 S3 L4 L5 F4 F5 F6 S6 L6
  -- the two answers are one
  go_wp2_with fail
  refine (eq_true a6 a3 g6 0 g3 0 m6 c6 c3 Z3 _ (by omega) T6.L6 T6.L3).mono ?_
  rintro e w7 ⟨rfl, s7⟩
  have T7 := T6.same s7
  clear s7 T6
  -- the arguments are as they were
  go_wp2_with fail
  refine (to_any a b off n cap X _ hn (hX.keep T7.S)).mono ?_
  rintro e w8 ⟨rfl, s8, r8⟩
  have T8 := T7.keep s8
  go_wp2_with fail
  refine (eq_true _ _ w3.heap.size 0 w7.heap.size 0 n n n X _ (by omega) T8.L4 (limbs_row r8)).mono ?_
  rintro e w9 ⟨rfl, s9⟩
  have T9 := T8.same s9
  clear s9 s8 r8 T8 T7
  go_wp2_with fail
  refine (to_any a' b' off' m cap' Y _ hm (hY.keep T9.S)).mono ?_
  rintro e w10 ⟨rfl, s10, r10⟩
  have T10 := T9.keep s10
  go_wp2_with fail
  refine (eq_true _ _ w4.heap.size 0 w9.heap.size 0 m m m Y _ (by omega) T10.L5 (limbs_row r10)).mono ?_
  rintro e w11 ⟨rfl, s11⟩
  have T11 := T10.same s11
  clear s11 s10 r10 T10 T9
  -- marks in the arguments do not reach the answer
  go_wp2_with fail
  refine (mark_any _ w3.heap.size n n X 1 _ (by omega) (by omega) T11.L4 (fun _ => T11.F4)).mono ?_
  rintro e w12 ⟨rfl, s12, -⟩
  go_wp2_with fail
  refine (mark_any _ w4.heap.size m m Y (1 + n) _ (by omega) (by omega) (T11.L5.marked s12 (fun _ => by omega)) (fun _ o => by rw [s12.frozenO (a := ⟨w4.heap.size, o, none⟩) (by show w4.heap.size ≠ _; omega)]; exact T11.F5 o)).mono ?_
  rintro e w13 ⟨rfl, s13, -⟩
  have S13 : w.Since w.heap.size w13 := (T11.S.trans (s12.since b0)).trans (s13.since (by omega))
  have L3 := (T11.L3.marked s12 (fun h => by have := b3 h; omega)).marked s13 (fun h => by have := b3 h; omega)
  have L6 := (T11.L6.marked s12 (fun h => by omega)).marked s13 (fun h => by omega)
  have F6 : 0 < m6 → ∀ o, w13.frozen? ⟨g6, o, none⟩ = false := fun h o => by rw [s13.frozenO (a := ⟨g6, o, none⟩) (by show g6 ≠ _; omega), s12.frozenO (a := ⟨g6, o, none⟩) (by show g6 ≠ _; omega)]; exact T11.F6 h o
  clear s12 s13 T11
  go_wp2_with fail
  refine (eq_true a6 a3 g6 0 g3 0 m6 c6 c3 Z3 _ (by omega) L6 L3).mono ?_
  rintro e w14 ⟨rfl, s14⟩
  have S14 : w.Since w.heap.size w14 := S13.trans (s14.since _)
  have L3 := L3.same s14
  have L6 := L6.same s14
  have F6 : 0 < m6 → ∀ o, w14.frozen? ⟨g6, o, none⟩ = false := fun h o => by rw [s14.frozen]; exact F6 h o
  clear s14 S13
  -- the answer owns its memory
  go_wp2_with fail
  refine (mark_any a6 g6 m6 c6 Z3 1 _ (by omega) (by omega) L6 F6).mono ?_
  rintro e w15 ⟨rfl, s15, L6⟩
  have S15 : w.Since w.heap.size w15 := S14.trans (s15.since (by omega))
  have L3 := L3.marked s15 (fun h => by have := b3 h; omega)
  clear s15 S14 F6
  go_wp2_with fail
  refine (held_any a6 g6 0 m6 c6 1 _ (by omega) (by omega) L6).mono ?_
  rintro e w16 ⟨rfl, rfl⟩
  clear L6
  -- a second call answers the same
  go_wp2_with fail
  refine (to_any a b off n cap X _ hn (hX.keep S15)).mono ?_
  rintro e w17 ⟨rfl, s17, r17⟩
  go_wp2_with fail
  refine (to_any a' b' off' m cap' Y _ hm ((hY.keep S15).keep s17)).mono ?_
  rintro e w18 ⟨rfl, s18, r18⟩
  go_wp2_with fail
  have S18 : w.Since w.heap.size w18 := (S15.trans (sinceMono s17 S15.size)).trans (sinceMono s18 (by have := s17.size; have := S15.size; omega))
  have z18 := S18.size
  refine (implNatGcd_any _ _ _ 0 n n _ 0 m m X Y _ (by omega) hn hm (Nat.le_refl _) (Nat.le_refl _) (fun h => (by cases h)) (fun h => (by cases h)) ((limbs_row r17).keep s18) (limbs_row r18) hXl hYl (hT.keep hw S18)).mono ?_
  rintro e w19 ⟨v19, rfl, ⟨a19, g19, m19, c19, Z19, rfl, k191, k192, L19, G19, F19, l19, p19, e19⟩, s19⟩
  obtain ⟨em, eZ⟩ := lv_inj l19 l3'.out p19 p3'.out (e19.trans e3'.out.symm)
  subst em
  have L19 := L19.congr eZ
  have S19 : w.Since w.heap.size w19 := ((S15.trans (sinceMono s17 S15.size)).trans (sinceMono s18 (by have := s17.size; have := S15.size; omega))).trans (sinceMono s19 (by have := s18.size; have := s17.size; have := S15.size; omega))
  have L3 := ((L3.keep s17).keep s18).keep s19
  clear l19 p19 e19 eZ s17 s18 s19 r17 r18 S15
  go_wp2_with fail
  refine (eq_true a19 a3 g19 0 g3 0 m19 c19 c3 Z3 _ (by omega) L19 L3).mono ?_
  rintro e w20 ⟨rfl, s20⟩
  have S20 : w.Since w.heap.size w20 := S19.trans (s20.since _)
  clear s20 S19
  go_wp2
  go_ret
  exact ⟨rfl, S20⟩

end Go.Proofs.YtklkohdcilnchabDoor
