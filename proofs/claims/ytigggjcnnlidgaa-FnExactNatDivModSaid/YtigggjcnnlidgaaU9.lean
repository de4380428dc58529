import Derived.Test.YtigggjcnnlidgaaU8
namespace Go.Proofs.Ytigggjcnnlidgaa
open Go.RowKit

/-- A plain natural of value N whose limbs lie in block g. -/
def NatAt (w : World) (v : Value) (g N M : Nat) : Prop :=
  ∃ a m cap Y, v = .slice a m cap ∧ m ≤ cap ∧ m ≤ M ∧ (a = none → cap = 0) ∧ Limbs w a g 0 m Y ∧ (0 < m → ∀ o, w.frozen? ⟨g, o, none⟩ = false) ∧ (∀ j, j < m → Y j < 4294967296) ∧ (0 < m → Y (m - 1) ≠ 0) ∧ lv Y m = N

/-- What the loop of long division holds in hand: the receiver's cell, the boxed divisor and its limbs, the dividend's limbs W in block G, the quotient's row BQ and its box QB. -/
structure Lg (c o b : Nat) (w wr : World) (G BQ QB nn dl L cG : Nat) (S1 W Q : Nat → Nat) : Prop where
  fr : Fr c o b w wr
  cC : wr.cell? ⟨c, o, none⟩ = some (.slice (some ⟨G, 0, none⟩) nn cG)
  box : wr.cell? ⟨w.heap.size, 0, none⟩ = some (.slice (some ⟨w.heap.size + 1, 0, none⟩) dl (dl + 1))
  D : Limbs wr (some ⟨w.heap.size + 1, 0, none⟩) (w.heap.size + 1) 0 dl S1
  LW : Limbs wr (some ⟨G, 0, none⟩) G 0 nn W
  FG : ∀ x, wr.frozen? ⟨G, x, none⟩ = false
  rQ : wr.rowIs BQ 33 L (fun j => .int .u32 (Q j))
  bQ : wr.rowIs QB 34 1 (fun _ => .slice (some ⟨BQ, 0, none⟩) L L)
  g0 : w.heap.size + 2 ≤ G
  g1 : G < BQ
  g2 : G < QB
  g3 : BQ ≠ QB

section
variable {c o b : Nat} {w wr wr' : World} {G BQ QB nn dl L cG : Nat} {S1 W W' Q : Nat → Nat}

theorem Lg.same (h : Lg c o b w wr G BQ QB nn dl L cG S1 W Q) (s : Same wr wr') : Lg c o b w wr' G BQ QB nn dl L cG S1 W Q :=
  ⟨h.fr.same s, by rw [s.cell]; exact h.cC, by rw [s.cell]; exact h.box, h.D.same s, h.LW.same s, fun x => by rw [s.frozen]; exact h.FG x, h.rQ.of_block (by rw [s.heap]), h.bQ.of_block (by rw [s.heap]), h.g0, h.g1, h.g2, h.g3⟩

theorem Lg.marked (h : Lg c o b w wr G BQ QB nn dl L cG S1 W Q) (m : Marked wr wr' G) (hL : Limbs wr' (some ⟨G, 0, none⟩) G 0 nn W') : Lg c o b w wr' G BQ QB nn dl L cG S1 W' Q := by
  have := h.g0; have := h.g1; have := h.g2; have := h.fr.lt
  exact ⟨h.fr.marked m (Or.inr (by omega)) (by omega), by rw [m.cell (a := ⟨c, o, none⟩) (by show c ≠ G; omega)]; exact h.cC, by rw [m.cell (a := ⟨w.heap.size, 0, none⟩) (by show w.heap.size ≠ G; omega)]; exact h.box,
    h.D.marked m (fun _ => by omega), hL, fun x => by rw [m.frozen]; exact h.FG x, h.rQ.of_block (m.other _ (by omega)), h.bQ.of_block (m.other _ (by omega)), h.g0, h.g1, h.g2, h.g3⟩

theorem Lg.put (h : Lg c o b w wr G BQ QB nn dl L cG S1 W Q) (i v : Nat) : Lg c o b w (wr.setCell ⟨BQ, i, none⟩ (.int .u32 v)) G BQ QB nn dl L cG S1 W (upd Q i v) := by
  have := h.g0; have := h.g1; have := h.g2; have := h.g3; have := h.fr.lt
  refine ⟨h.fr.setNew (Or.inr (by omega)) (by omega) _, ?_, ?_, h.D.setOther (by omega) _, h.LW.setOther (by omega) _, fun x => by simp [h.FG x], (h.rQ.set i _).congr (fun j _ => ?_), h.bQ.setOther (by show QB ≠ BQ; omega) _, h.g0, h.g1, h.g2, h.g3⟩
  · rw [World.cell?_setCell_other _ _ _ _ (fun e => by have := congrArg Addr.block e; simp at this; omega)]; exact h.cC
  · rw [World.cell?_setCell_other _ _ _ _ (fun e => by have := congrArg Addr.block e; simp at this; omega)]; exact h.box
  · by_cases e : j = i <;> simp [upd, e]
end

set_option maxHeartbeats 6400000 in
set_option maxRecDepth 100000 in
theorem divideByLong_any (c o : Nat) (a a' : Option Addr) (b n cap b' dl cap' : Nat) (X Y : Nat → Nat) (w : World) (hn : n ≤ 2097152) (hdn : dl ≤ n) (hdl : 2 ≤ dl)
    (hc0 : w.cell? ⟨c, o, none⟩ = some (.slice a n cap)) (hf0 : w.frozen? ⟨c, o, none⟩ = false) (hX : Limbs w a b 0 n X) (hY : Limbs w a' b' 0 dl Y) (hXl : ∀ j, j < n → X j < 4294967296) (hYl : ∀ j, j < dl → Y j < 4294967296)
    (tX : X (n - 1) ≠ 0) (tY : Y (dl - 1) ≠ 0) :
    Calls Try.prog 28 #[.pointer (some ⟨c, o, none⟩), .slice a' dl cap'] w fun e w' => ∃ vq vr gq gr, e = .returned vq ∧ w'.cell? ⟨c, o, none⟩ = some vr ∧ NatAt w' vq gq (lv X n / lv Y dl) (n + 2) ∧ NatAt w' vr gr (lv X n % lv Y dl) (n + 2) ∧
      w.heap.size ≤ gq ∧ w.heap.size ≤ gr ∧ gq ≠ gr ∧ gq < w'.heap.size ∧ gr < w'.heap.size ∧ Fr c o b w w' := by
  have hcl : c < w.heap.size := World.block_lt_of_cell? _ _ hc0
  have kd : w.cell? ⟨b', dl - 1, none⟩ = some (.int .u32 (Y (dl - 1))) := by simpa using (hY (dl - 1) (by omega)).2
  have hbl : b' < w.heap.size := hY.lt (by omega)
  obtain ⟨rfl, -⟩ := hY 0 (by omega)
  have HtX := hide tX
  have hy0 : 0 < Y (dl - 1) := by omega
  have hyl := hYl (dl - 1) (by omega)
  have hd1 : (1 : Int) ≤ (dl : Int) := by omega
  clear tX tY
  go_enter Try.func28, Try.ntmps28
  go_wp2_with fail
  refine (lz32_any (Y (dl - 1)) _ hy0 hyl).mono ?_
  rintro e w0 ⟨s, rfl, rfl, hs, hs1, hs2⟩
  have HS1 := hide hs1
  have HS2 := hide hs2
  clear hs1 hs2
  have f1 : Fr c o b w (w.alloc (.cells #[.slice (some ⟨b', 0, none⟩) dl cap'] 34)) := (Fr.refl o b hcl).alloc _
  -- the divisor is shifted
  go_wp2_with fail
  refine (shiftLeft_small w.heap.size 0 _ b' 0 dl cap' s Y _ (by omega) hs (hY.keep ((World.Since.refl _ _).alloc (Nat.le_refl _) _)) hYl (by simp [go_sem]) (by simp [go_sem])).mono ?_
  rintro e w3 ⟨rfl, w2, S1, hs2, hr1, hS1, hv1, hw3⟩
  have hz1 : (w.alloc (.cells #[.slice (some ⟨b', 0, none⟩) dl cap'] 34)).heap.size = w.heap.size + 1 := by simp
  rw [hz1] at hs2 hr1 hw3
  clear hz1 f1
  obtain ⟨et, ev, ed, ed1, ed2⟩ := shl_divisor (by omega) hs hYl hS1 HS1.out HS2.out hv1
  rw [et] at hw3
  have z2 : w.heap.size + 2 ≤ w2.heap.size := by have := hr1.lt; omega
  have s2 : w.Since w.heap.size w2 := ((World.Since.refl _ _).alloc (Nat.le_refl _) _).trans (sinceMono hs2 (by omega))
  have s3 : w.Since w.heap.size w3 := by rw [hw3]; exact s2.setCell (Nat.le_refl _) _
  have box3 : w3.cell? ⟨w.heap.size, 0, none⟩ = some (.slice (some ⟨w.heap.size + 1, 0, none⟩) dl (dl + 1)) := by
    rw [hw3]
    refine World.cell?_setCell_same _ _ _ (u := .slice (some ⟨b', 0, none⟩) dl cap') ?_
    rw [hs2.cell (a := ⟨w.heap.size, 0, none⟩) (by simp)]; simp [go_sem]
  have D3 : Limbs w3 (some ⟨w.heap.size + 1, 0, none⟩) (w.heap.size + 1) 0 dl S1 := by
    rw [hw3]; exact ((limbs_row hr1).take (by omega)).setOther (by omega) _
  have z3 : w.heap.size + 2 ≤ w3.heap.size := by rw [hw3]; simpa [World.setCell] using z2
  have HS := hide hS1
  have HEv := hide ev
  have HEd := hide ed
  have HE1 := hide ed1
  have HE2 := hide ed2
  have HYl := hide hYl
  clear hw3 hs2 hr1 s2 z2 ev ed ed1 ed2 et hv1 hS1 hYl hY kd HS1 HS2 hy0 hyl
  -- the dividend is shifted
  go_wp2_with fail
  refine (shiftLeft_small c o a b 0 n cap s X _ (by omega) hs (hX.keep s3) hXl (by rw [s3.cell (a := ⟨c, o, none⟩) hcl]; exact hc0) (by rw [s3.frozen (a := ⟨c, o, none⟩) hcl]; exact hf0)).mono ?_
  rintro e w5 ⟨rfl, w4, S2, s4, hr2, hS2, hv2, hw5⟩
  obtain ⟨t2, ht2⟩ : ∃ t, t = tlen (nz S2) (n + 1) := ⟨_, rfl⟩
  rw [← ht2] at hw5
  have ht2l : t2 ≤ n + 1 := by rw [ht2]; exact tlen_le _ _
  have HV2 : Hid (lv S2 t2 = lv X n * 2 ^ s) := by rw [ht2]; exact (lv_tlen _ _).trans hv2
  have ht2g : n ≤ t2 := by
    by_cases h : n ≤ t2
    · exact h
    · exfalso
      have h1 := lv_lt S2 t2 (fun j _ => hS2 j)
      have h2 := lv_ge X n (by omega) HtX.out
      have h3 : 2 ^ (32 * t2) ≤ 2 ^ (32 * (n - 1)) := Nat.pow_le_pow_right (by omega) (by omega)
      have h4 : lv X n * 1 ≤ lv X n * 2 ^ s := Nat.mul_le_mul_left _ (Nat.pow_pos (by omega))
      have h5 := HV2.out
      omega
  have HS2 := hide hS2
  clear ht2 hv2 hS2
  have c4 : w4.cell? ⟨c, o, none⟩ = some (.slice a n cap) := by rw [s4.cell (a := ⟨c, o, none⟩) (by show c < _; omega), s3.cell (a := ⟨c, o, none⟩) hcl]; exact hc0
  have c5 : w5.cell? ⟨c, o, none⟩ = some (.slice (some ⟨w3.heap.size, 0, none⟩) t2 (n + 1)) := by rw [hw5]; exact World.cell?_setCell_same _ _ _ c4
  have fr5 : Fr c o b w w5 := by rw [hw5]; exact (((Fr.refl o b hcl).since s3).since s4).set _
  have row5 : w5.rowIs w3.heap.size 33 (n + 1) (fun j => .int .u32 (S2 j)) := by rw [hw5]; exact hr2.setOther (by show w3.heap.size ≠ c; omega) _
  have box5 : w5.cell? ⟨w.heap.size, 0, none⟩ = some (.slice (some ⟨w.heap.size + 1, 0, none⟩) dl (dl + 1)) := by
    rw [hw5, World.cell?_setCell_other _ _ _ _ (fun h => by have := congrArg Addr.block h; simp at this; omega), s4.cell (a := ⟨w.heap.size, 0, none⟩) (by show w.heap.size < _; omega)]; exact box3
  have D5 : Limbs w5 (some ⟨w.heap.size + 1, 0, none⟩) (w.heap.size + 1) 0 dl S1 := by rw [hw5]; exact (D3.keep s4).setOther (by omega) _
  have z5 : w3.heap.size < w5.heap.size := row5.lt
  clear hw5 c4 hr2 s4 box3 D3 s3 hX hc0
  have f5 : w5.frozen? ⟨c, o, none⟩ = false := by rw [fr5.frozen]; exact hf0
  obtain ⟨i0, hi, hz0, hz1, hz2⟩ := info_parts Try.info33
  -- one limb more on top
  go_wp2_with (at_builtin; refine wpList_append_own _ rfl _ _ 34 rfl w3.heap.size 33 i0 (.int .u32 0) 1 4 Try.underlying34 hi hz0 hz1 hz2 rfl (by decide) _ _ _ rfl ((row_own row5 ht2l (by unfold maxLen; omega) (Nat.le_refl _)).alloc _) ⟨w5.heap.size, 0, none⟩ 1 1 [.int .u32 0] rfl rfl (new_cell _ _ _) (one_one _ rfl) (by unfold maxLen; omega) (by omega) (by simp; omega) ?_)
  intro v' w6 hown' hgrow hnn
  rw [← ll_capped] at hown'
  obtain ⟨G, cG, rfl, hcG, hG, hGl, L6, F6⟩ := own_limbs_some hown' hnn
  have fr6 : Fr c o b w w6 := (fr5.alloc _).grown hgrow (fun k hk => by simp [Value.ownBlock] at hk; omega)
  have hcc : some c ≠ (Value.slice (some ⟨w3.heap.size, 0, none⟩) t2 (n + 1)).ownBlock := by simp [Value.ownBlock]; omega
  have c6 : w6.cell? ⟨c, o, none⟩ = some (.slice (some ⟨w3.heap.size, 0, none⟩) t2 (n + 1)) := hgrow.cell (a := ⟨c, o, none⟩) (by rw [World.cell?_alloc_old _ _ _ (by show c ≠ _; omega)]; exact c5) hcc
  have f6 : w6.frozen? ⟨c, o, none⟩ = false := by rw [fr6.frozen]; exact hf0
  have box6 : w6.cell? ⟨w.heap.size, 0, none⟩ = some (.slice (some ⟨w.heap.size + 1, 0, none⟩) dl (dl + 1)) := hgrow.cell (a := ⟨w.heap.size, 0, none⟩) (by rw [World.cell?_alloc_old _ _ _ (by show w.heap.size ≠ _; omega)]; exact box5) (by simp [Value.ownBlock]; omega)
  have D6 : Limbs w6 (some ⟨w.heap.size + 1, 0, none⟩) (w.heap.size + 1) 0 dl S1 := fun j hj => ⟨rfl, hgrow.cell (a := ⟨w.heap.size + 1, 0 + j, none⟩) (by rw [World.cell?_alloc_old _ _ _ (by show w.heap.size + 1 ≠ _; omega)]; exact (D5 j hj).2) (by simp [Value.ownBlock]; omega)⟩
  have z6 : w5.heap.size + 1 ≤ w6.heap.size := by have := hgrow.size; simpa using this
  clear hown' hgrow hnn hcc fr5 c5 f5 row5 box5 D5 hi hz0 hz1 hz2
  obtain ⟨nn, hnn⟩ : ∃ nn, nn = t2 + 1 := ⟨_, rfl⟩
  rw [← hnn] at L6 hcG ⊢
  obtain ⟨L, hL⟩ : ∃ L, L = nn - dl := ⟨_, rfl⟩
  have hnL : nn = L + dl := by omega
  have HnL := hide hnL
  have hLi : (nn : Int) - (dl : Int) = (L : Int) := by omega
  have hmk := run_make_row' (P := Try.prog) 34 33 (.int .u32 0) 4 Try.underlying34 Try.info33 rfl .i64 .i64 L (by omega) (by omega)
  have hLp : 1 ≤ L := by omega
  have HNN := hide hnn
  have hnnl : nn ≤ n + 2 := by omega
  clear hL hnL hnn
  go_wp2
  have fr7 := fr6.set (.slice (some ⟨G, 0, none⟩) nn cG)
  have c7 := World.cell?_setCell_same _ _ (.slice (some ⟨G, 0, none⟩) nn cG) c6
  have box7 : (w6.setCell ⟨c, o, none⟩ (.slice (some ⟨G, 0, none⟩) nn cG)).cell? ⟨w.heap.size, 0, none⟩ = some (.slice (some ⟨w.heap.size + 1, 0, none⟩) dl (dl + 1)) := by
    rw [World.cell?_setCell_other _ _ _ _ (fun h => by have := congrArg Addr.block h; simp at this; omega)]; exact box6
  have D7 := D6.setOther (c := c) (o := o) (by omega) (.slice (some ⟨G, 0, none⟩) nn cG)
  have L7 := L6.setOther (c := c) (o := o) (by omega) (.slice (some ⟨G, 0, none⟩) nn cG)
  have F7 : ∀ x, (w6.setCell ⟨c, o, none⟩ (.slice (some ⟨G, 0, none⟩) nn cG)).frozen? ⟨G, x, none⟩ = false := fun x => by simp [F6 x]
  have z7 : (w6.setCell ⟨c, o, none⟩ (.slice (some ⟨G, 0, none⟩) nn cG)).heap.size = w6.heap.size := by simp [World.setCell]
  generalize w6.setCell ⟨c, o, none⟩ (.slice (some ⟨G, 0, none⟩) nn cG) = w7 at *
  rw [← z7] at z6 hGl
  clear z7 fr6 c6 f6 box6 D6 L6 F6
  have n1 : c ≠ w7.heap.size := by omega
  have n2 : w.heap.size ≠ w7.heap.size := by omega
  have hLw : IntKind.i64.wrap (L : Int) = (L : Int) := by rw [IntKind.wrap_i64]; omega
  have a0 : ∀ x, (w7.alloc x).cell? ⟨w.heap.size, 0, none⟩ = some (.slice (some ⟨w.heap.size + 1, 0, none⟩) dl (dl + 1)) := fun x => by rw [World.cell?_alloc_old _ _ _ n2]; exact box7
  have a1 : ∀ x, (w7.alloc x).cell? ⟨c, o, none⟩ = some (.slice (some ⟨G, 0, none⟩) nn cG) := fun x => by rw [World.cell?_alloc_old _ _ _ n1]; exact c7
  go_region
  all_goals go_wp2
  all_goals clear a0 a1 hmk hLw
  · have rQ := (World.rowIs_made w7 (.int .u32 0) L 33).alloc (.cells #[.slice (some ⟨w7.heap.size, 0, none⟩) L L] 34)
    have bQ := World.rowIs_alloc (w7.alloc (.cells (madeCells #[.int .u32 0] L) 33)) #[.slice (some ⟨w7.heap.size, 0, none⟩) L L] 34 (fun _ => .slice (some ⟨w7.heap.size, 0, none⟩) L L) (fun i hi => by simp at hi; subst hi; rfl)
    rw [show (w7.alloc (.cells (madeCells #[.int .u32 0] L) 33)).heap.size = w7.heap.size + 1 by simp] at bQ
    have sL : w7.Since w7.heap.size ((w7.alloc (.cells (madeCells #[.int .u32 0] L) 33)).alloc (.cells #[.slice (some ⟨w7.heap.size, 0, none⟩) L L] 34)).drew := (((World.Since.refl _ _).alloc (Nat.le_refl _) _).alloc (by simp) _).drew
    have rQ := rQ.drew
    have bQ := bQ.drew
    obtain ⟨QB, hQB⟩ : ∃ x, x = w7.heap.size + 1 := ⟨_, rfl⟩
    obtain ⟨BQ, hBQ⟩ : ∃ x, x = w7.heap.size := ⟨_, rfl⟩
    generalize ((w7.alloc (.cells (madeCells #[.int .u32 0] L) 33)).alloc (.cells #[.slice (some ⟨w7.heap.size, 0, none⟩) L L] 34)).drew = wL at *
    rw [← hQB] at bQ
    rw [← hQB]
    rw [← hBQ] at bQ rQ
    rw [← hBQ]
    have lg0 : Lg c o b w wL G BQ QB nn dl L cG S1 (capped S2 t2) (fun _ => 0) := ⟨fr7.since sL, by rw [sL.cell (a := ⟨c, o, none⟩) (by show c < _; omega)]; exact c7, by rw [sL.cell (a := ⟨w.heap.size, 0, none⟩) (by show w.heap.size < _; omega)]; exact box7,
      D7.keep sL, L7.keep sL, fun x => by rw [sL.frozen (a := ⟨G, x, none⟩) hGl]; exact F7 x, rQ, bQ, by omega, by omega, by omega, by omega⟩
    clear rQ bQ sL hQB hBQ
    have hN := long_start (W := capped S2 t2) (D := lv S1 dl) (dl := dl) (L := L) (nn := nn) HnL.out (by omega) (capped_lt t2 HS2.out) (by rw [HNN.out]; exact capped_top S2 t2) HE1.out
    have HN := hide hN
    have hD0 : 0 < lv S1 dl := by have := HE1.out; have := Nat.pow_pos (n := 32 * (dl - 1)) (show 0 < 2 by omega); omega
    have HD0 := hide hD0
    clear hN hD0 fr7 c7 box7 D7 L7 F7 n1 n2
    go_loopw [7] (fun q wr => ∃ (k : Nat) (z : Int) (W Q : Nat → Nat), k ≤ L ∧ q = .int .i64 z ∧ Hid (z = k - 1) ∧ Lg c o b w wr G BQ QB nn dl L cG S1 W Q ∧ Hid (LongRel (lv (capped S2 t2) nn) (lv S1 dl) dl L nn W Q k)) (fun q _ => (intOf q + 1).toNat)
    case atStart => exact ⟨L, (L : Int) - 1, _, _, Nat.le_refl _, rfl, rfl, lg0, HN⟩
    case round =>
      clear lg0 HN
      obtain ⟨k, z, W, Q, hk, rfl, HZ, lg, HR⟩ := hrel
      by_cases hz : 0 ≤ z
      · obtain ⟨p, rfl⟩ := Int.eq_ofNat_of_zero_le hz
        have hkp : k = p + 1 := by have := HZ.out; omega
        subst hkp
        clear HZ
        have q1 := lg.box
        have hpn : p + dl < nn := by have := HnL.out; omega
        go_wp2_with fail
        refine (guess_any c o G nn cG (w.heap.size + 1) dl (dl + 1) p W S1 _ (by omega) hdl hpn lg.cC lg.LW lg.D HR.out.2.2.2.1 (fun j _ => HS.out j) HEd.out (long_top HR.out (by omega) rfl (fun j _ => HS.out j))).mono ?_
        rintro e w8 ⟨rfl, s8⟩
        have lg8 := lg.same s8
        have hgs := long_guess (W := W) (Y := S1) (a := p) hdl rfl (fun j _ => HS.out j) HR.out.2.2.2.1 (by have := HEd.out; omega) (long_window HR.out)
        have hgl := guess3_le (W (p + dl)) (W (p + dl - 1)) (W (p + dl - 2)) (S1 (dl - 1)) (S1 (dl - 2))
        generalize guess3 (W (p + dl)) (W (p + dl - 1)) (W (p + dl - 2)) (S1 (dl - 1)) (S1 (dl - 2)) = g at *
        have HGS := hide hgs
        clear hgs lg s8 q1
        have q1 := lg8.box
        go_wp2_with fail
        refine (takeTimes_any c o G nn cG (w.heap.size + 1) dl (dl + 1) g p W S1 _ (by omega) hgl hpn lg8.cC lg8.FG (by have := lg8.g0; omega) (by have := lg8.g0; omega) lg8.LW lg8.D HR.out.2.2.2.1 (fun j _ => HS.out j)).mono ?_
        rintro e w9 ⟨W1, bo, rfl, m9, L9, v9, e9, l9⟩
        have lg9 := lg8.marked m9 L9
        have HV9 := hide v9
        have HE9 := hide e9
        have HL9 := hide l9
        clear m9 L9 v9 e9 l9 lg8 q1
        have hpL : (p : Int) < (L : Int) := by omega
        cases bo with
        | false =>
          have hw9 : win W1 p (dl + 1) + g * lv S1 dl = win W p (dl + 1) := by have := HV9.out; simpa [win] using this
          have hgq := take_exact HD0.out hw9 HGS.out.1
          obtain ⟨HLR, -⟩ := long_step HR.out (by omega) HE2.out HD0.out hgq hw9 HE9.out HL9.out
          have HLR := hide HLR
          have q2 := lg9.bQ.cell (i := 0) (by omega)
          have q3 := lg9.rQ.cell (i := p) (by omega)
          have q4 := lg9.rQ.frozen p
          clear hw9 hgq HV9 HE9 HL9 HR HGS
          go_wp2
          go_roundw
          case rel => exact ⟨p, (p : Int) - 1, _, _, by omega, by go_num, rfl, lg9.put p g, HLR⟩
          case measure => simp [intOf]
        | true =>
          have q1 := lg9.box
          have hg1 : 1 ≤ g := by
            by_cases h : 1 ≤ g
            · exact h
            · exfalso
              have e0 : g = 0 := by omega
              have h1 := HV9.out
              have h2 := win_lt HL9.out p (dl + 1)
              unfold win at h2
              rw [e0] at h1
              simp at h1
              omega
          go_wp2_with fail
          refine (giveBack_any c o G nn cG (w.heap.size + 1) dl (dl + 1) p W1 S1 _ (by omega) hpn lg9.cC lg9.FG (by have := lg9.g0; omega) (by have := lg9.g0; omega) lg9.LW lg9.D HL9.out (fun j _ => HS.out j)).mono ?_
          rintro e w10 ⟨W2, cy, rfl, m10, L10, v10, e10, l10, hcy⟩
          have lg10 := lg9.marked m10 L10
          have hto := take_over (U := win W p (dl + 1)) (V := win W1 p (dl + 1)) (V2 := win W2 p (dl + 1)) HD0.out (by have := HV9.out; simpa [win] using this) (win_lt HL9.out p (dl + 1)) HGS.out.2 v10 hcy (win_lt l10 p (dl + 1))
          obtain ⟨HLR, -⟩ := long_step HR.out (by omega) HE2.out HD0.out hto.2.1 hto.2.2 (fun k hk => (e10 k hk).trans (HE9.out k hk)) l10
          have HLR := hide HLR
          have q2 := lg10.bQ.cell (i := 0) (by omega)
          have q3 := lg10.rQ.cell (i := p) (by omega)
          have q4 := lg10.rQ.frozen p
          clear hto v10 e10 l10 HV9 HE9 HL9 HR HGS q1 lg9 L10 m10
          go_wp2
          go_roundw
          case rel =>
            have := lg10.put p (g - 1)
            rw [show ((g - 1 : Nat) : Int) = (g : Int) - 1 by omega] at this
            exact ⟨p, (p : Int) - 1, _, _, by omega, by go_num, rfl, this, HLR⟩
          case measure => simp [intOf]
      · have hk0 : k = 0 := by have := HZ.out; omega
        subst hk0
        obtain ⟨vQ, vW⟩ := long_end HR.out (by have := HnL.out; omega)
        have eN : lv (capped S2 t2) nn = lv X n * 2 ^ s := by rw [HNN.out, lv_capped]; exact HV2.out
        rw [eN, HEv.out] at vQ vW
        have q2 := lg.bQ.cell (i := 0) (by omega)
        have q3 := lg.bQ.frozen 0
        have hWl := hide HR.out.2.2.2.1
        have hQl := hide HR.out.2.2.2.2
        have HVQ : Hid (lv Q L = lv X n / lv Y dl) := vQ.trans shl_div.1
        have HVW : Hid (lv W nn / 2 ^ s = lv X n % lv Y dl) := by rw [vW]; exact shl_div.2
        clear vQ vW eN HR
        have j0 := lg.g0; have j1 := lg.g1; have j2 := lg.g2; have j3 := lg.g3
        go_wp2_with fail
        refine (trimAt_any QB 0 _ BQ 0 L L Q _ (by omega) (Nat.le_refl _) q2 q3 (limbs_row lg.rQ)).mono ?_
        rintro e w8 ⟨rfl, hw8⟩
        have fr8 : Fr c o b w w8 := by rw [hw8]; exact lg.fr.setNew (Or.inr (by omega)) (by omega) _
        have c8 : w8.cell? ⟨c, o, none⟩ = some (.slice (some ⟨G, 0, none⟩) nn cG) := by rw [hw8, World.cell?_setCell_other _ _ _ _ (fun e => by have := congrArg Addr.block e; simp at this; omega)]; exact lg.cC
        have L8 : Limbs w8 (some ⟨G, 0, none⟩) G 0 nn W := by rw [hw8]; exact lg.LW.setOther (by omega) _
        have F8 : ∀ x, w8.frozen? ⟨G, x, none⟩ = false := fun x => by rw [hw8]; simp [lg.FG x]
        have r8 : w8.rowIs BQ 33 L (fun j => .int .u32 (Q j)) := by rw [hw8]; exact lg.rQ.setOther (by show BQ ≠ QB; omega) _
        have b8 : w8.cell? ⟨QB, 0, none⟩ = some (.slice (some ⟨BQ, 0, none⟩) (tlen (nz Q) L) L) := by rw [hw8]; exact World.cell?_setCell_same _ _ _ q2
        clear hw8 lg q2 q3
        go_wp2_with fail
        refine (shiftRight_small c o G nn cG s W _ (by omega) hcG (by have := HnL.out; omega) hs L8 (fun j _ => hWl.out j) c8 (by rw [fr8.frozen]; exact hf0) F8 (by omega)).mono ?_
        rintro e w9 ⟨rfl, w10, S3, k3, m10, L10, hk3, l10, v10, hw9⟩
        have HV10 := hide (v10.trans HVW.out)
        have fr9 : Fr c o b w w9 := by rw [hw9]; exact (fr8.marked m10 (Or.inr (by omega)) (by omega)).set _
        have r9 : w9.rowIs BQ 33 L (fun j => .int .u32 (Q j)) := by rw [hw9]; exact (r8.of_block (m10.other _ (by omega))).setOther (by show BQ ≠ c; omega) _
        have b9 : w9.cell? ⟨QB, 0, none⟩ = some (.slice (some ⟨BQ, 0, none⟩) (tlen (nz Q) L) L) := by
          rw [hw9, World.cell?_setCell_other _ _ _ _ (fun e => by have := congrArg Addr.block e; simp at this; omega), m10.cell (a := ⟨QB, 0, none⟩) (by show QB ≠ G; omega)]; exact b8
        have c9 : w9.cell? ⟨c, o, none⟩ = some (.slice (some ⟨G, 0, none⟩) (tlen (nz S3) k3) cG) := by
          rw [hw9]; exact World.cell?_setCell_same _ _ _ ((m10.cell (a := ⟨c, o, none⟩) (by show c ≠ G; omega)).trans c8)
        have L9 : Limbs w9 (some ⟨G, 0, none⟩) G 0 k3 S3 := by rw [hw9]; exact L10.setOther (by omega) _
        have F9 : ∀ x, w9.frozen? ⟨G, x, none⟩ = false := fun x => by rw [hw9]; simp [m10.frozen, F8 x]
        have zG : G < w9.heap.size := by have := r9.lt; omega
        clear v10 hw9 m10 L10 L8 F8 r8 b8 c8 fr8
        go_wp2
        go_ret
        have t1 := tlen_le (nz Q) L
        have t2 := tlen_le (nz S3) k3
        have hLn : L ≤ n + 2 := by have := HnL.out; omega
        refine ⟨_, _, BQ, G, rfl, c9, ⟨_, _, _, Q, rfl, t1, by omega, fun h => (by cases h), (limbs_row r9).take t1, fun _ x => r9.frozen x, fun j _ => hQl.out j, fun h => ?_, (lv_tlen _ _).trans HVQ.out⟩,
          ⟨_, _, _, S3, rfl, by omega, by omega, fun h => (by cases h), L9.take t2, fun _ x => F9 x, fun j hj => l10 j (by omega), fun h => ?_, (lv_tlen _ _).trans HV10.out⟩, by omega, by omega, by omega, r9.lt, zG, fr9⟩
        · have := tlen_top _ _ h; simpa [nz] using this
        · have := tlen_top _ _ h; simpa [nz] using this
  · have bQ := (World.rowIs_alloc w7 #[.slice (some ⟨w7.heap.size + 1, 0, none⟩) L L] 34 (fun _ => .slice (some ⟨w7.heap.size + 1, 0, none⟩) L L) (fun i hi => by simp at hi; subst hi; rfl)).alloc (.cells (madeCells #[.int .u32 0] L) 33)
    have rQ := World.rowIs_made (w7.alloc (.cells #[.slice (some ⟨w7.heap.size + 1, 0, none⟩) L L] 34)) (.int .u32 0) L 33
    rw [show (w7.alloc (.cells #[.slice (some ⟨w7.heap.size + 1, 0, none⟩) L L] 34)).heap.size = w7.heap.size + 1 by simp] at rQ
    have sL : w7.Since w7.heap.size ((w7.alloc (.cells #[.slice (some ⟨w7.heap.size + 1, 0, none⟩) L L] 34)).alloc (.cells (madeCells #[.int .u32 0] L) 33)).drew := (((World.Since.refl _ _).alloc (Nat.le_refl _) _).alloc (by simp) _).drew
    have rQ := rQ.drew
    have bQ := bQ.drew
    obtain ⟨BQ, hBQ⟩ : ∃ x, x = w7.heap.size + 1 := ⟨_, rfl⟩
    obtain ⟨QB, hQB⟩ : ∃ x, x = w7.heap.size := ⟨_, rfl⟩
    generalize ((w7.alloc (.cells #[.slice (some ⟨w7.heap.size + 1, 0, none⟩) L L] 34)).alloc (.cells (madeCells #[.int .u32 0] L) 33)).drew = wL at *
    rw [← hBQ] at bQ rQ
    rw [← hBQ]
    rw [← hQB] at bQ
    rw [← hQB]
    have lg0 : Lg c o b w wL G BQ QB nn dl L cG S1 (capped S2 t2) (fun _ => 0) := ⟨fr7.since sL, by rw [sL.cell (a := ⟨c, o, none⟩) (by show c < _; omega)]; exact c7, by rw [sL.cell (a := ⟨w.heap.size, 0, none⟩) (by show w.heap.size < _; omega)]; exact box7,
      D7.keep sL, L7.keep sL, fun x => by rw [sL.frozen (a := ⟨G, x, none⟩) hGl]; exact F7 x, rQ, bQ, by omega, by omega, by omega, by omega⟩
    clear rQ bQ sL hQB hBQ
    have hN := long_start (W := capped S2 t2) (D := lv S1 dl) (dl := dl) (L := L) (nn := nn) HnL.out (by omega) (capped_lt t2 HS2.out) (by rw [HNN.out]; exact capped_top S2 t2) HE1.out
    have HN := hide hN
    have hD0 : 0 < lv S1 dl := by have := HE1.out; have := Nat.pow_pos (n := 32 * (dl - 1)) (show 0 < 2 by omega); omega
    have HD0 := hide hD0
    clear hN hD0 fr7 c7 box7 D7 L7 F7 n1 n2
    go_loopw [7] (fun q wr => ∃ (k : Nat) (z : Int) (W Q : Nat → Nat), k ≤ L ∧ q = .int .i64 z ∧ Hid (z = k - 1) ∧ Lg c o b w wr G BQ QB nn dl L cG S1 W Q ∧ Hid (LongRel (lv (capped S2 t2) nn) (lv S1 dl) dl L nn W Q k)) (fun q _ => (intOf q + 1).toNat)
    case atStart => exact ⟨L, (L : Int) - 1, _, _, Nat.le_refl _, rfl, rfl, lg0, HN⟩
    case round =>
      clear lg0 HN
      obtain ⟨k, z, W, Q, hk, rfl, HZ, lg, HR⟩ := hrel
      by_cases hz : 0 ≤ z
      · obtain ⟨p, rfl⟩ := Int.eq_ofNat_of_zero_le hz
        have hkp : k = p + 1 := by have := HZ.out; omega
        subst hkp
        clear HZ
        have q1 := lg.box
        have hpn : p + dl < nn := by have := HnL.out; omega
        go_wp2_with fail
        refine (guess_any c o G nn cG (w.heap.size + 1) dl (dl + 1) p W S1 _ (by omega) hdl hpn lg.cC lg.LW lg.D HR.out.2.2.2.1 (fun j _ => HS.out j) HEd.out (long_top HR.out (by omega) rfl (fun j _ => HS.out j))).mono ?_
        rintro e w8 ⟨rfl, s8⟩
        have lg8 := lg.same s8
        have hgs := long_guess (W := W) (Y := S1) (a := p) hdl rfl (fun j _ => HS.out j) HR.out.2.2.2.1 (by have := HEd.out; omega) (long_window HR.out)
        have hgl := guess3_le (W (p + dl)) (W (p + dl - 1)) (W (p + dl - 2)) (S1 (dl - 1)) (S1 (dl - 2))
        generalize guess3 (W (p + dl)) (W (p + dl - 1)) (W (p + dl - 2)) (S1 (dl - 1)) (S1 (dl - 2)) = g at *
        have HGS := hide hgs
        clear hgs lg s8 q1
        have q1 := lg8.box
        go_wp2_with fail
        refine (takeTimes_any c o G nn cG (w.heap.size + 1) dl (dl + 1) g p W S1 _ (by omega) hgl hpn lg8.cC lg8.FG (by have := lg8.g0; omega) (by have := lg8.g0; omega) lg8.LW lg8.D HR.out.2.2.2.1 (fun j _ => HS.out j)).mono ?_
        rintro e w9 ⟨W1, bo, rfl, m9, L9, v9, e9, l9⟩
        have lg9 := lg8.marked m9 L9
        have HV9 := hide v9
        have HE9 := hide e9
        have HL9 := hide l9
        clear m9 L9 v9 e9 l9 lg8 q1
        have hpL : (p : Int) < (L : Int) := by omega
        cases bo with
        | false =>
          have hw9 : win W1 p (dl + 1) + g * lv S1 dl = win W p (dl + 1) := by have := HV9.out; simpa [win] using this
          have hgq := take_exact HD0.out hw9 HGS.out.1
          obtain ⟨HLR, -⟩ := long_step HR.out (by omega) HE2.out HD0.out hgq hw9 HE9.out HL9.out
          have HLR := hide HLR
          have q2 := lg9.bQ.cell (i := 0) (by omega)
          have q3 := lg9.rQ.cell (i := p) (by omega)
          have q4 := lg9.rQ.frozen p
          clear hw9 hgq HV9 HE9 HL9 HR HGS
          go_wp2
          go_roundw
          case rel => exact ⟨p, (p : Int) - 1, _, _, by omega, by go_num, rfl, lg9.put p g, HLR⟩
          case measure => simp [intOf]
        | true =>
          have q1 := lg9.box
          have hg1 : 1 ≤ g := by
            by_cases h : 1 ≤ g
            · exact h
            · exfalso
              have e0 : g = 0 := by omega
              have h1 := HV9.out
              have h2 := win_lt HL9.out p (dl + 1)
              unfold win at h2
              rw [e0] at h1
              simp at h1
              omega
          go_wp2_with fail
          refine (giveBack_any c o G nn cG (w.heap.size + 1) dl (dl + 1) p W1 S1 _ (by omega) hpn lg9.cC lg9.FG (by have := lg9.g0; omega) (by have := lg9.g0; omega) lg9.LW lg9.D HL9.out (fun j _ => HS.out j)).mono ?_
          rintro e w10 ⟨W2, cy, rfl, m10, L10, v10, e10, l10, hcy⟩
          have lg10 := lg9.marked m10 L10
          have hto := take_over (U := win W p (dl + 1)) (V := win W1 p (dl + 1)) (V2 := win W2 p (dl + 1)) HD0.out (by have := HV9.out; simpa [win] using this) (win_lt HL9.out p (dl + 1)) HGS.out.2 v10 hcy (win_lt l10 p (dl + 1))
          obtain ⟨HLR, -⟩ := long_step HR.out (by omega) HE2.out HD0.out hto.2.1 hto.2.2 (fun k hk => (e10 k hk).trans (HE9.out k hk)) l10
          have HLR := hide HLR
          have q2 := lg10.bQ.cell (i := 0) (by omega)
          have q3 := lg10.rQ.cell (i := p) (by omega)
          have q4 := lg10.rQ.frozen p
          clear hto v10 e10 l10 HV9 HE9 HL9 HR HGS q1 lg9 L10 m10
          go_wp2
          go_roundw
          case rel =>
            have := lg10.put p (g - 1)
            rw [show ((g - 1 : Nat) : Int) = (g : Int) - 1 by omega] at this
            exact ⟨p, (p : Int) - 1, _, _, by omega, by go_num, rfl, this, HLR⟩
          case measure => simp [intOf]
      · have hk0 : k = 0 := by have := HZ.out; omega
        subst hk0
        obtain ⟨vQ, vW⟩ := long_end HR.out (by have := HnL.out; omega)
        have eN : lv (capped S2 t2) nn = lv X n * 2 ^ s := by rw [HNN.out, lv_capped]; exact HV2.out
        rw [eN, HEv.out] at vQ vW
        have q2 := lg.bQ.cell (i := 0) (by omega)
        have q3 := lg.bQ.frozen 0
        have hWl := hide HR.out.2.2.2.1
        have hQl := hide HR.out.2.2.2.2
        have HVQ : Hid (lv Q L = lv X n / lv Y dl) := vQ.trans shl_div.1
        have HVW : Hid (lv W nn / 2 ^ s = lv X n % lv Y dl) := by rw [vW]; exact shl_div.2
        clear vQ vW eN HR
        have j0 := lg.g0; have j1 := lg.g1; have j2 := lg.g2; have j3 := lg.g3
        go_wp2_with fail
        refine (trimAt_any QB 0 _ BQ 0 L L Q _ (by omega) (Nat.le_refl _) q2 q3 (limbs_row lg.rQ)).mono ?_
        rintro e w8 ⟨rfl, hw8⟩
        have fr8 : Fr c o b w w8 := by rw [hw8]; exact lg.fr.setNew (Or.inr (by omega)) (by omega) _
        have c8 : w8.cell? ⟨c, o, none⟩ = some (.slice (some ⟨G, 0, none⟩) nn cG) := by rw [hw8, World.cell?_setCell_other _ _ _ _ (fun e => by have := congrArg Addr.block e; simp at this; omega)]; exact lg.cC
        have L8 : Limbs w8 (some ⟨G, 0, none⟩) G 0 nn W := by rw [hw8]; exact lg.LW.setOther (by omega) _
        have F8 : ∀ x, w8.frozen? ⟨G, x, none⟩ = false := fun x => by rw [hw8]; simp [lg.FG x]
        have r8 : w8.rowIs BQ 33 L (fun j => .int .u32 (Q j)) := by rw [hw8]; exact lg.rQ.setOther (by show BQ ≠ QB; omega) _
        have b8 : w8.cell? ⟨QB, 0, none⟩ = some (.slice (some ⟨BQ, 0, none⟩) (tlen (nz Q) L) L) := by rw [hw8]; exact World.cell?_setCell_same _ _ _ q2
        clear hw8 lg q2 q3
        go_wp2_with fail
        refine (shiftRight_small c o G nn cG s W _ (by omega) hcG (by have := HnL.out; omega) hs L8 (fun j _ => hWl.out j) c8 (by rw [fr8.frozen]; exact hf0) F8 (by omega)).mono ?_
        rintro e w9 ⟨rfl, w10, S3, k3, m10, L10, hk3, l10, v10, hw9⟩
        have HV10 := hide (v10.trans HVW.out)
        have fr9 : Fr c o b w w9 := by rw [hw9]; exact (fr8.marked m10 (Or.inr (by omega)) (by omega)).set _
        have r9 : w9.rowIs BQ 33 L (fun j => .int .u32 (Q j)) := by rw [hw9]; exact (r8.of_block (m10.other _ (by omega))).setOther (by show BQ ≠ c; omega) _
        have b9 : w9.cell? ⟨QB, 0, none⟩ = some (.slice (some ⟨BQ, 0, none⟩) (tlen (nz Q) L) L) := by
          rw [hw9, World.cell?_setCell_other _ _ _ _ (fun e => by have := congrArg Addr.block e; simp at this; omega), m10.cell (a := ⟨QB, 0, none⟩) (by show QB ≠ G; omega)]; exact b8
        have c9 : w9.cell? ⟨c, o, none⟩ = some (.slice (some ⟨G, 0, none⟩) (tlen (nz S3) k3) cG) := by
          rw [hw9]; exact World.cell?_setCell_same _ _ _ ((m10.cell (a := ⟨c, o, none⟩) (by show c ≠ G; omega)).trans c8)
        have L9 : Limbs w9 (some ⟨G, 0, none⟩) G 0 k3 S3 := by rw [hw9]; exact L10.setOther (by omega) _
        have F9 : ∀ x, w9.frozen? ⟨G, x, none⟩ = false := fun x => by rw [hw9]; simp [m10.frozen, F8 x]
        have zG : G < w9.heap.size := by have := r9.lt; omega
        clear v10 hw9 m10 L10 L8 F8 r8 b8 c8 fr8
        go_wp2
        go_ret
        have t1 := tlen_le (nz Q) L
        have t2 := tlen_le (nz S3) k3
        have hLn : L ≤ n + 2 := by have := HnL.out; omega
        refine ⟨_, _, BQ, G, rfl, c9, ⟨_, _, _, Q, rfl, t1, by omega, fun h => (by cases h), (limbs_row r9).take t1, fun _ x => r9.frozen x, fun j _ => hQl.out j, fun h => ?_, (lv_tlen _ _).trans HVQ.out⟩,
          ⟨_, _, _, S3, rfl, by omega, by omega, fun h => (by cases h), L9.take t2, fun _ x => F9 x, fun j hj => l10 j (by omega), fun h => ?_, (lv_tlen _ _).trans HV10.out⟩, by omega, by omega, by omega, r9.lt, zG, fr9⟩
        · have := tlen_top _ _ h; simpa [nz] using this
        · have := tlen_top _ _ h; simpa [nz] using this

end Go.Proofs.Ytigggjcnnlidgaa
