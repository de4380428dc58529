import Derived.Test.YtickondjmilehabDoorG6
namespace Go.Proofs.YtickondjmilehabDoor
open Go.RowKit

/-- What comes up. -/
def rdy (l0 l1 l2 l3 l4 l5 l6 l7 : Bool) : Nat → Bool
  | 0 => !l0
  | 1 => l0 && !l1 && !l6 && !l3
  | 2 => !l2
  | 3 => l1 && l2 && !l3 && !l7
  | 4 => !l4 && !l6
  | 5 => !l5 && !l7
  | 6 => l4 && l1 && l3 && l5 && !l6
  | 7 => l6 && l5 && l3 && !l7
  | _ => false

def left8 (l0 l1 l2 l3 l4 l5 l6 l7 : Bool) : Nat := (!l0).toNat + (!l1).toNat + (!l2).toNat + (!l3).toNat + (!l4).toNat + (!l5).toNat + (!l6).toNat + (!l7).toNat
/-- The reached ones. -/
def okl (l1 l3 l4 l5 l6 l7 : Bool) : Bool := (!l6 || (l1 && l3 && l4 && l5)) && (!l7 || l6) && (!l3 || l1)

set_option maxHeartbeats 6400000 in
set_option maxRecDepth 100000 in
theorem gcdOf_big (a b : Option Addr) (ba oa n ca bb ob m cb : Nat) (X Y : Nat → Nat) (w : World) (hw : 1 < w.heap.size) (hn : n ≤ 1048576) (hm : m ≤ 1048576) (hnc : n ≤ ca) (hmc : m ≤ cb) (hac : a = none → ca = 0) (hbc : b = none → cb = 0)
    (hX : Limbs w a ba oa n X) (hY : Limbs w b bb ob m Y) (hXl : ∀ j, j < n → X j < 4294967296) (hYl : ∀ j, j < m → Y j < 4294967296) (pX : 0 < n → X (n - 1) ≠ 0) (pY : 0 < m → Y (m - 1) ≠ 0) (hT : Tab w)
    (h1 : lv X n ≠ 1) (h2 : lv Y m ≠ 1) (h3 : 2 < n ∨ 2 < m) :
    Calls Tryd.prog 39 #[.slice a n ca, .slice b m cb] w fun e w' => ∃ v g, e = .returned v ∧ NatAt w' v g (Nat.gcd (lv X n) (lv Y m)) 4194304 ∧ w.heap.size ≤ g ∧ w.Since w.heap.size w' := by
  have d1 : decide (lv X n = 1) = false := by simp [h1]
  have d2 : decide (lv Y m = 1) = false := by simp [h2]
  have sA : w.Since w.heap.size ((w.alloc (.cells #[.slice a n ca] 50)).alloc (.cells #[.slice b m cb] 50)) := ((World.Since.refl _ _).alloc (Nat.le_refl _) _).alloc (by simp) _
  have bx1 : ((w.alloc (.cells #[.slice a n ca] 50)).alloc (.cells #[.slice b m cb] 50)).cell? ⟨w.heap.size, 0, none⟩ = some (.slice a n ca) := by rw [World.cell?_alloc_old _ _ _ (by simp)]; simp [go_sem]
  have bx2 : ((w.alloc (.cells #[.slice a n ca] 50)).alloc (.cells #[.slice b m cb] 50)).cell? ⟨w.heap.size + 1, 0, none⟩ = some (.slice b m cb) := by simp [go_sem]
  have zA : w.heap.size + 2 ≤ ((w.alloc (.cells #[.slice a n ca] 50)).alloc (.cells #[.slice b m cb] 50)).heap.size := by simp
  have XA := hX.keep sA
  have YA := hY.keep sA
  go_enter Tryd.func39, Tryd.ntmps39
  go_wp2_with fail
  generalize (w.alloc (.cells #[.slice a n ca] 50)).alloc (.cells #[.slice b m cb] 50) = wA at *
  have I1 := isOne_any w.heap.size 0 a ba oa n ca X wA bx1 XA hXl pX
  have I2 := isOne_any (w.heap.size + 1) 0 b bb ob m cb Y wA bx2 YA hYl pY
  rw [d1] at I1
  rw [d2] at I2
  refine I1.mono ?_
  clear I1
  rintro e w1 ⟨rfl, hw1⟩
  rw [hw1]
  clear hw1
  have I2 := hide I2
  go_wp2_with fail
  refine I2.out.mono ?_
  clear I2
  rintro e w1 ⟨rfl, hw1⟩
  rw [hw1]
  clear hw1
  by_cases h4 : 2 < n
  · go_wp2_with fail
    refine (isShort_no w.heap.size 0 a n ca _ h4 bx1).mono ?_
    rintro e w1 ⟨rfl, hw1⟩
    rw [hw1]
    clear hw1 d1 d2 h1 h2 hX hY
    go_wp2
    refine wp_region_any (by kernel_rfl) ?_
    change wpAny _ _ _ _ _ _ _ (World.drew _)
    have bx1 : wA.drew.cell? ⟨w.heap.size, 0, none⟩ = some (.slice a n ca) := bx1
    have bx2 : wA.drew.cell? ⟨w.heap.size + 1, 0, none⟩ = some (.slice b m cb) := bx2
    have XA : Limbs wA.drew a ba oa n X := XA
    have YA : Limbs wA.drew b bb ob m Y := YA
    have zA : w.heap.size + 2 ≤ wA.drew.heap.size := zA
    have sA : w.Since w.heap.size wA.drew := ⟨sA.os, sA.tape, sA.output, sA.size, sA.block⟩
    generalize wA.drew = wD at *
    refine wpAny_inv (fun fuel l ac wx => ∃ l0 l1 l2 l3 l4 l5 l6 l7 t5 t6 t20 t21 t22 t23, l = #[l0, l1, l2, l3, l4, l5, l6, l7] ∧ fuel = left8 l0 l1 l2 l3 l4 l5 l6 l7 ∧ okl l1 l3 l4 l5 l6 l7 = true ∧
      ac = { tmps := #[Value.slice a n ca, Value.slice b m cb, Value.pointer (some { block := w.heap.size, off := 0 }), Value.pointer (some { block := w.heap.size + 1, off := 0 }), Value.slice none 0 0, t5, t6,
            Value.bool false, Value.bool false, Value.bool false, Value.bool false, undef, Value.bool false, Value.bool false, undef, Value.bool false, undef, undef, undef, undef, t20, t21, t22, t23, undef, undef], defers := [] } ∧
      J wD (.slice a n ca) (.slice b m cb) (tlen (nz X) n) (tlen (nz Y) m) X Y l0 l1 l2 l3 l4 l5 l6 l7 t5 t6 t20 t21 t22 t23 wx) ?_ ?_ ?_ _ _ _ _ ⟨_, _, _, _, _, _, _, _, _, _, _, _, _, _, rfl, rfl, rfl, rfl, J.start _ _ _ _ _ _ _ _ _⟩
    · rintro fuel l ac wx ⟨l0, l1, l2, l3, l4, l5, l6, l7, t5, t6, t20, t21, t22, t23, rfl, hf, hk, rfl, j⟩ i hi
      have hr : rdy l0 l1 l2 l3 l4 l5 l6 l7 i = true := by
        revert i
        refine List.all_eq_true.1 ?_
        revert hk
        clear hf j
        revert l0 l1 l2 l3 l4 l5 l6 l7
        exact of_decide_eq_true (by kernel_rfl)
      have k1 : wx.cell? ⟨w.heap.size, 0, none⟩ = some (.slice a n ca) := by rw [j.S.cell (a := ⟨w.heap.size, 0, none⟩) (by show w.heap.size < _; omega)]; exact bx1
      have k2 : wx.cell? ⟨w.heap.size + 1, 0, none⟩ = some (.slice b m cb) := by rw [j.S.cell (a := ⟨w.heap.size + 1, 0, none⟩) (by show w.heap.size + 1 < _; omega)]; exact bx2
      have kX := XA.keep j.S
      have kY := YA.keep j.S
      clear hi
      rcases i with _ | _ | _ | _ | _ | _ | _ | _ | i
      · simp [rdy] at hr
        subst hr
        refine ⟨_, rfl, fun K hK => ?_⟩
        go_simp
        refine hK _ _ ⟨true, l1, l2, l3, l4, l5, l6, l7, t5, t6, _, t21, t22, t23, rfl, ?_, hk, rfl, j.op0⟩
        simp [left8] at hf ⊢; omega
      · simp [rdy] at hr
        obtain ⟨⟨⟨rfl, rfl⟩, rfl⟩, rfl⟩ := hr
        have e := j.h0 rfl
        subst e
        refine ⟨_, rfl, fun K hK => ?_⟩
        go_simp
        refine (ownCopy_any a ba oa n ca X _ (by omega) hnc hac kX).mono ?_
        rintro e w' ⟨v, rfl, o, s⟩
        refine hK _ _ ⟨true, true, l2, false, l4, l5, false, l7, t5, t6, _, v, t22, t23, rfl, ?_, ?_, rfl, j.op1 s (own_ow o).1 (own_ow o).2⟩
        · simp [left8] at hf ⊢; omega
        · simpa [okl] using hk
      · simp [rdy] at hr
        subst hr
        refine ⟨_, rfl, fun K hK => ?_⟩
        go_simp
        refine hK _ _ ⟨l0, l1, true, l3, l4, l5, l6, l7, t5, t6, t20, t21, _, t23, rfl, ?_, hk, rfl, j.op2⟩
        simp [left8] at hf ⊢; omega
      · simp [rdy] at hr
        obtain ⟨⟨⟨rfl, rfl⟩, rfl⟩, rfl⟩ := hr
        have e := j.h2 rfl
        subst e
        refine ⟨_, rfl, fun K hK => ?_⟩
        go_simp
        refine (ownCopy_any b bb ob m cb Y _ (by omega) hmc hbc kY).mono ?_
        rintro e w' ⟨v, rfl, o, s⟩
        refine hK _ _ ⟨l0, true, true, true, l4, l5, l6, false, t5, t6, t20, t21, _, v, rfl, ?_, ?_, rfl, j.op3 s (own_ow o).1 (own_ow o).2⟩
        · simp [left8] at hf ⊢; omega
        · revert hk; cases l6 <;> cases l4 <;> cases l5 <;> decide
      · simp [rdy] at hr
        obtain ⟨rfl, rfl⟩ := hr
        refine ⟨_, rfl, fun K hK => ?_⟩
        go_simp
        refine hK _ _ ⟨l0, l1, l2, l3, true, l5, false, l7, _, t6, t20, t21, t22, t23, rfl, ?_, ?_, rfl, j.op4 50⟩
        · simp [left8] at hf ⊢; omega
        · simpa [okl] using hk
      · simp [rdy] at hr
        obtain ⟨rfl, rfl⟩ := hr
        refine ⟨_, rfl, fun K hK => ?_⟩
        go_simp
        refine hK _ _ ⟨l0, l1, l2, l3, l4, true, l6, false, t5, _, t20, t21, t22, t23, rfl, ?_, ?_, rfl, j.op5 50⟩
        · simp [left8] at hf ⊢; omega
        · revert hk; cases l6 <;> cases l4 <;> cases l1 <;> cases l3 <;> decide
      · simp [rdy] at hr
        obtain ⟨⟨⟨⟨rfl, rfl⟩, rfl⟩, rfl⟩, rfl⟩ := hr
        obtain ⟨c, e5, c1, c2, c3⟩ := j.h4 rfl
        obtain ⟨xa, xg, xc, e21, -⟩ := ow_parts (j.h1 rfl) j.B21 wx.heap.size j.S.size (Nat.le_refl _)
        subst e5 e21
        rw [if_neg (by simp)] at c1
        refine ⟨_, rfl, fun K hK => ?_⟩
        go_simp
        refine hK _ _ ⟨l0, true, l2, true, true, true, true, l7, _, t6, t20, _, t22, t23, rfl, ?_, ?_, rfl, j.op6 rfl⟩
        · simp [left8] at hf ⊢; omega
        · simp [okl]
      · simp [rdy] at hr
        obtain ⟨⟨⟨rfl, rfl⟩, rfl⟩, rfl⟩ := hr
        obtain ⟨c, e5, c1, c2, c3⟩ := j.h5 rfl
        obtain ⟨xa, xg, xc, e21, -⟩ := ow_parts (j.h3 rfl) j.B23 wx.heap.size j.S.size (Nat.le_refl _)
        subst e5 e21
        rw [if_neg (by simp)] at c1
        refine ⟨_, rfl, fun K hK => ?_⟩
        go_simp
        refine hK _ _ ⟨l0, l1, l2, true, l4, true, true, true, t5, _, t20, t21, t22, _, rfl, ?_, ?_, rfl, j.op7 rfl⟩
        · simp [left8] at hf ⊢; omega
        · simpa [okl] using hk
      · cases hr
    · rintro l ac wx ⟨l0, l1, l2, l3, l4, l5, l6, l7, t5, t6, t20, t21, t22, t23, rfl, hf, hk, rfl, j⟩
      revert hf
      clear hk j
      revert l0 l1 l2 l3 l4 l5 l6 l7
      exact of_decide_eq_true (by kernel_rfl)
    · rintro fuel l ac wx ⟨l0, l1, l2, l3, l4, l5, l6, l7, t5, t6, t20, t21, t22, t23, rfl, hf, hk, rfl, j⟩ he
      have hall : (l0 && (l1 && (l2 && (l3 && (l4 && (l5 && (l6 && l7))))))) = true := by
        revert he
        clear hf j
        revert hk
        revert l0 l1 l2 l3 l4 l5 l6 l7
        exact of_decide_eq_true (by kernel_rfl)
      simp only [Bool.and_eq_true] at hall
      obtain ⟨rfl, rfl, rfl, rfl, rfl, rfl, rfl, rfl⟩ := hall
      have htX := tlen_le (nz X) n
      have htY := tlen_le (nz Y) m
      obtain ⟨c, d, gn, gm, an, am, cn, cm, rfl, rfl, G⟩ := j.gd (fun q hq => hXl q (by omega)) (fun q hq => hYl q (by omega)) (fun h => by have := tlen_top (nz X) n h; simpa [nz] using this) (fun h => by have := tlen_top (nz Y) m h; simpa [nz] using this)
      have HL := hide (And.intro (lv_tlen X n) (lv_tlen Y m))
      have hTD : Tab wD := fun q hq => by rw [sA.cell (a := ⟨1, q, none⟩) hw]; exact hT q hq
      clear j he hk hf hXl hYl pX pY
      go_wp2_with fail
      refine (becomeGcd_any _ c d gn gm an am _ _ cn cm X Y _ _ (by omega) (by omega) (by omega) G hTD).mono ?_
      rintro e w3 ⟨rfl, ra, rg, rk, rc, Z, z1, z2, z3, z4, z5, z6, z7, z8, z9, z10, z11⟩
      have Z7 := hide (And.intro z7 (And.intro z8 z9))
      clear z7 z8 z9
      go_wp2_with fail
      go_ret
      refine ⟨_, rg, rfl, ⟨ra, rk, rc, Z, rfl, z2, z3, z4, z5, z6, Z7.out.1, Z7.out.2.1, ?_⟩, by omega, sA.trans (sinceMono z11 (by omega))⟩
      rw [Z7.out.2.2, HL.out.1, HL.out.2]
  · go_wp2_with fail
    refine (isShort_yes w.heap.size 0 a n ca _ (by omega) bx1).mono ?_
    rintro e w1 ⟨rfl, hw1⟩
    rw [hw1]
    clear hw1
    go_wp2_with fail
    refine (isShort_no (w.heap.size + 1) 0 b m cb _ (by omega) bx2).mono ?_
    rintro e w1 ⟨rfl, hw1⟩
    rw [hw1]
    clear hw1 d1 d2 h1 h2 hX hY
    go_wp2
    refine wp_region_any (by kernel_rfl) ?_
    change wpAny _ _ _ _ _ _ _ (World.drew _)
    have bx1 : wA.drew.cell? ⟨w.heap.size, 0, none⟩ = some (.slice a n ca) := bx1
    have bx2 : wA.drew.cell? ⟨w.heap.size + 1, 0, none⟩ = some (.slice b m cb) := bx2
    have XA : Limbs wA.drew a ba oa n X := XA
    have YA : Limbs wA.drew b bb ob m Y := YA
    have zA : w.heap.size + 2 ≤ wA.drew.heap.size := zA
    have sA : w.Since w.heap.size wA.drew := ⟨sA.os, sA.tape, sA.output, sA.size, sA.block⟩
    generalize wA.drew = wD at *
    refine wpAny_inv (fun fuel l ac wx => ∃ l0 l1 l2 l3 l4 l5 l6 l7 t5 t6 t20 t21 t22 t23, l = #[l0, l1, l2, l3, l4, l5, l6, l7] ∧ fuel = left8 l0 l1 l2 l3 l4 l5 l6 l7 ∧ okl l1 l3 l4 l5 l6 l7 = true ∧
      ac = { tmps := #[Value.slice a n ca, Value.slice b m cb, Value.pointer (some { block := w.heap.size, off := 0 }), Value.pointer (some { block := w.heap.size + 1, off := 0 }), Value.slice none 0 0, t5, t6,
            Value.bool false, Value.bool false, Value.bool false, Value.bool false, undef, Value.bool true, Value.bool true, Value.bool false, Value.bool false, undef, undef, undef, undef, t20, t21, t22, t23, undef, undef], defers := [] } ∧
      J wD (.slice a n ca) (.slice b m cb) (tlen (nz X) n) (tlen (nz Y) m) X Y l0 l1 l2 l3 l4 l5 l6 l7 t5 t6 t20 t21 t22 t23 wx) ?_ ?_ ?_ _ _ _ _ ⟨_, _, _, _, _, _, _, _, _, _, _, _, _, _, rfl, rfl, rfl, rfl, J.start _ _ _ _ _ _ _ _ _⟩
    · rintro fuel l ac wx ⟨l0, l1, l2, l3, l4, l5, l6, l7, t5, t6, t20, t21, t22, t23, rfl, hf, hk, rfl, j⟩ i hi
      have hr : rdy l0 l1 l2 l3 l4 l5 l6 l7 i = true := by
        revert i
        refine List.all_eq_true.1 ?_
        revert hk
        clear hf j
        revert l0 l1 l2 l3 l4 l5 l6 l7
        exact of_decide_eq_true (by kernel_rfl)
      have k1 : wx.cell? ⟨w.heap.size, 0, none⟩ = some (.slice a n ca) := by rw [j.S.cell (a := ⟨w.heap.size, 0, none⟩) (by show w.heap.size < _; omega)]; exact bx1
      have k2 : wx.cell? ⟨w.heap.size + 1, 0, none⟩ = some (.slice b m cb) := by rw [j.S.cell (a := ⟨w.heap.size + 1, 0, none⟩) (by show w.heap.size + 1 < _; omega)]; exact bx2
      have kX := XA.keep j.S
      have kY := YA.keep j.S
      clear hi
      rcases i with _ | _ | _ | _ | _ | _ | _ | _ | i
      · simp [rdy] at hr
        subst hr
        refine ⟨_, rfl, fun K hK => ?_⟩
        go_simp
        refine hK _ _ ⟨true, l1, l2, l3, l4, l5, l6, l7, t5, t6, _, t21, t22, t23, rfl, ?_, hk, rfl, j.op0⟩
        simp [left8] at hf ⊢; omega
      · simp [rdy] at hr
        obtain ⟨⟨⟨rfl, rfl⟩, rfl⟩, rfl⟩ := hr
        have e := j.h0 rfl
        subst e
        refine ⟨_, rfl, fun K hK => ?_⟩
        go_simp
        refine (ownCopy_any a ba oa n ca X _ (by omega) hnc hac kX).mono ?_
        rintro e w' ⟨v, rfl, o, s⟩
        refine hK _ _ ⟨true, true, l2, false, l4, l5, false, l7, t5, t6, _, v, t22, t23, rfl, ?_, ?_, rfl, j.op1 s (own_ow o).1 (own_ow o).2⟩
        · simp [left8] at hf ⊢; omega
        · simpa [okl] using hk
      · simp [rdy] at hr
        subst hr
        refine ⟨_, rfl, fun K hK => ?_⟩
        go_simp
        refine hK _ _ ⟨l0, l1, true, l3, l4, l5, l6, l7, t5, t6, t20, t21, _, t23, rfl, ?_, hk, rfl, j.op2⟩
        simp [left8] at hf ⊢; omega
      · simp [rdy] at hr
        obtain ⟨⟨⟨rfl, rfl⟩, rfl⟩, rfl⟩ := hr
        have e := j.h2 rfl
        subst e
        refine ⟨_, rfl, fun K hK => ?_⟩
        go_simp
        refine (ownCopy_any b bb ob m cb Y _ (by omega) hmc hbc kY).mono ?_
        rintro e w' ⟨v, rfl, o, s⟩
        refine hK _ _ ⟨l0, true, true, true, l4, l5, l6, false, t5, t6, t20, t21, _, v, rfl, ?_, ?_, rfl, j.op3 s (own_ow o).1 (own_ow o).2⟩
        · simp [left8] at hf ⊢; omega
        · revert hk; cases l6 <;> cases l4 <;> cases l5 <;> decide
      · simp [rdy] at hr
        obtain ⟨rfl, rfl⟩ := hr
        refine ⟨_, rfl, fun K hK => ?_⟩
        go_simp
        refine hK _ _ ⟨l0, l1, l2, l3, true, l5, false, l7, _, t6, t20, t21, t22, t23, rfl, ?_, ?_, rfl, j.op4 50⟩
        · simp [left8] at hf ⊢; omega
        · simpa [okl] using hk
      · simp [rdy] at hr
        obtain ⟨rfl, rfl⟩ := hr
        refine ⟨_, rfl, fun K hK => ?_⟩
        go_simp
        refine hK _ _ ⟨l0, l1, l2, l3, l4, true, l6, false, t5, _, t20, t21, t22, t23, rfl, ?_, ?_, rfl, j.op5 50⟩
        · simp [left8] at hf ⊢; omega
        · revert hk; cases l6 <;> cases l4 <;> cases l1 <;> cases l3 <;> decide
      · simp [rdy] at hr
        obtain ⟨⟨⟨⟨rfl, rfl⟩, rfl⟩, rfl⟩, rfl⟩ := hr
        obtain ⟨c, e5, c1, c2, c3⟩ := j.h4 rfl
        obtain ⟨xa, xg, xc, e21, -⟩ := ow_parts (j.h1 rfl) j.B21 wx.heap.size j.S.size (Nat.le_refl _)
        subst e5 e21
        rw [if_neg (by simp)] at c1
        refine ⟨_, rfl, fun K hK => ?_⟩
        go_simp
        refine hK _ _ ⟨l0, true, l2, true, true, true, true, l7, _, t6, t20, _, t22, t23, rfl, ?_, ?_, rfl, j.op6 rfl⟩
        · simp [left8] at hf ⊢; omega
        · simp [okl]
      · simp [rdy] at hr
        obtain ⟨⟨⟨rfl, rfl⟩, rfl⟩, rfl⟩ := hr
        obtain ⟨c, e5, c1, c2, c3⟩ := j.h5 rfl
        obtain ⟨xa, xg, xc, e21, -⟩ := ow_parts (j.h3 rfl) j.B23 wx.heap.size j.S.size (Nat.le_refl _)
        subst e5 e21
        rw [if_neg (by simp)] at c1
        refine ⟨_, rfl, fun K hK => ?_⟩
        go_simp
        refine hK _ _ ⟨l0, l1, l2, true, l4, true, true, true, t5, _, t20, t21, t22, _, rfl, ?_, ?_, rfl, j.op7 rfl⟩
        · simp [left8] at hf ⊢; omega
        · simpa [okl] using hk
      · cases hr
    · rintro l ac wx ⟨l0, l1, l2, l3, l4, l5, l6, l7, t5, t6, t20, t21, t22, t23, rfl, hf, hk, rfl, j⟩
      revert hf
      clear hk j
      revert l0 l1 l2 l3 l4 l5 l6 l7
      exact of_decide_eq_true (by kernel_rfl)
    · rintro fuel l ac wx ⟨l0, l1, l2, l3, l4, l5, l6, l7, t5, t6, t20, t21, t22, t23, rfl, hf, hk, rfl, j⟩ he
      have hall : (l0 && (l1 && (l2 && (l3 && (l4 && (l5 && (l6 && l7))))))) = true := by
        revert he
        clear hf j
        revert hk
        revert l0 l1 l2 l3 l4 l5 l6 l7
        exact of_decide_eq_true (by kernel_rfl)
      simp only [Bool.and_eq_true] at hall
      obtain ⟨rfl, rfl, rfl, rfl, rfl, rfl, rfl, rfl⟩ := hall
      have htX := tlen_le (nz X) n
      have htY := tlen_le (nz Y) m
      obtain ⟨c, d, gn, gm, an, am, cn, cm, rfl, rfl, G⟩ := j.gd (fun q hq => hXl q (by omega)) (fun q hq => hYl q (by omega)) (fun h => by have := tlen_top (nz X) n h; simpa [nz] using this) (fun h => by have := tlen_top (nz Y) m h; simpa [nz] using this)
      have HL := hide (And.intro (lv_tlen X n) (lv_tlen Y m))
      have hTD : Tab wD := fun q hq => by rw [sA.cell (a := ⟨1, q, none⟩) hw]; exact hT q hq
      clear j he hk hf hXl hYl pX pY
      go_wp2_with fail
      refine (becomeGcd_any _ c d gn gm an am _ _ cn cm X Y _ _ (by omega) (by omega) (by omega) G hTD).mono ?_
      rintro e w3 ⟨rfl, ra, rg, rk, rc, Z, z1, z2, z3, z4, z5, z6, z7, z8, z9, z10, z11⟩
      have Z7 := hide (And.intro z7 (And.intro z8 z9))
      clear z7 z8 z9
      go_wp2_with fail
      go_ret
      refine ⟨_, rg, rfl, ⟨ra, rk, rc, Z, rfl, z2, z3, z4, z5, z6, Z7.out.1, Z7.out.2.1, ?_⟩, by omega, sA.trans (sinceMono z11 (by omega))⟩
      rw [Z7.out.2.2, HL.out.1, HL.out.2]

end Go.Proofs.YtickondjmilehabDoor
