import Derived.Test.YtickondjmilehabDoorM2
import Derived.Deep.RegionHeld
namespace Go.Proofs.YtickondjmilehabDoor
open Go.RowKit

theorem Tab.oth {w w' : World} {c : Nat} (h : Tab w) (hw : 1 < w.heap.size) (hc : 1 ≠ c) (s : Oth c w w') : Tab w' := fun q hq => by rw [s.cell (a := ⟨1, q, none⟩) hw hc]; exact h q hq
theorem Tab.stay {w w' : World} (h : Tab w) (hw : 1 < w.heap.size) (s : w.Since w.heap.size w') : Tab w' := h.oth (c := w.heap.size) hw (by omega) (Oth.ofSince _ s)

theorem box1_keep {w1 w2 : World} {v : Value} {t : TypeId} (s : (w1.alloc (.cells #[v] t)).drew.Since (w1.alloc (.cells #[v] t)).drew.heap.size w2) : w2.cell? ⟨w1.heap.size, 0, none⟩ = some v ∧ w2.frozen? ⟨w1.heap.size, 0, none⟩ = false ∧ w1.heap.size < w2.heap.size := by
  have z : w1.heap.size < (w1.alloc (.cells #[v] t)).drew.heap.size := by show w1.heap.size < (w1.alloc (.cells #[v] t)).heap.size; simp
  exact ⟨(s.cell (a := ⟨w1.heap.size, 0, none⟩) z).trans (by show (w1.alloc (.cells #[v] t)).cell? _ = _; simp [go_sem]), (s.frozen (a := ⟨w1.heap.size, 0, none⟩) z).trans (by show (w1.alloc (.cells #[v] t)).frozen? _ = _; simp [go_sem]), Nat.lt_of_lt_of_le z s.size⟩

set_option maxHeartbeats 3200000 in
set_option maxRecDepth 100000 in
/-- normalise where the two parts have no common divisor. -/
theorem normalise_one (c : Nat) (f : Bool) (v1 v2 : Value) (g h N D B : Nat) (w : World) (hw : 1 < w.heap.size) (hT : Tab w) (Bx : Box3 w c (.bool f) v1 v2) (H1 : NatAt w v1 g N 1048576) (H2 : NatAt w v2 h D 1048576)
    (hgh : g ≠ h) (hgl : g < w.heap.size) (hhl : h < w.heap.size) (hg : B ≤ g) (hh : B ≤ h) (hB : B ≤ w.heap.size) (_hc : B ≤ c) (h1 : Nat.gcd N D = 1) :
    Calls Tryd.prog 70 #[.pointer (some ⟨c, 0, none⟩)] w fun e w' => ∃ v, e = .returned v ∧ RatV w' v (f && N != 0) N D B 1048578 ∧ w.Since B w' := by
  have H1s := H1
  have H2s := H2
  obtain ⟨a, n, ca, X, rfl, n1, n2, n3, LX, FX, lX, pX, eX⟩ := H1
  obtain ⟨b, m, cb, Y, rfl, m1, m2, m3, LY, FY, lY, pY, eY⟩ := H2
  have hcl := Bx.lt
  have sA : w.Since w.heap.size (w.alloc (.cells #[.bool false, .slice none 0 0, .slice none 0 0] 31)) := (World.Since.refl _ _).alloc (Nat.le_refl _) _
  have rA := Box3.new w (.bool false) (.slice none 0 0) (.slice none 0 0) 31
  have bA := Bx.keep sA
  have tA := hT.stay hw sA
  have wA : 1 < (w.alloc (.cells #[.bool false, .slice none 0 0, .slice none 0 0] 31)).heap.size := Nat.lt_of_lt_of_le hw sA.size
  have XA := LX.keep sA
  have YA := LY.keep sA
  go_enter Tryd.func70, Tryd.ntmps70
  go_wp2
  generalize w.alloc (.cells #[.bool false, .slice none 0 0, .slice none 0 0] 31) = w1 at *
  have J1 : ∀ w', w1.Since w1.heap.size w' → Calls Tryd.prog 39 #[.slice a n ca, .slice b m cb] w' fun e w2 => ∃ v g, e = .returned v ∧ NatAt w2 v g 1 4194304 ∧ w'.heap.size ≤ g ∧ w'.Since w'.heap.size w2 ∧ w1.Since w1.heap.size w2 := fun w' s => by
    have J := gcdOf_any a b g 0 n ca h 0 m cb X Y w' (Nat.lt_of_lt_of_le wA s.size) n2 m2 n1 m1 n3 m3 (XA.keep s) (YA.keep s) lX lY pX pY (tA.stay wA s)
    rw [eX, eY, h1] at J
    exact J.mono fun e w2 ⟨v, g, q1, q2, q3, q4⟩ => ⟨v, g, q1, q2, q3, q4, s.trans (sinceMono q4 s.size)⟩
  have k0 := bA.c1
  have k1 := bA.c2
  have z1 := rA.lt
  have E := hide (And.intro lX (And.intro pX (And.intro lY pY)))
  clear lX pX lY pY
  have ne0 := World.new_ne w1 _ k0
  have JA := J1 (w1.alloc (.cells #[.slice none 0 0] 50)).drew (since_drew ((World.Since.refl _ _).alloc (Nat.le_refl _) _))
  have JB := J1 w1.drew (since_drew (World.Since.refl _ _))
  clear J1
  go_region_held3 (fun w' => w'.cell? ⟨c, 1, none⟩ = some (.slice a n ca) ∧ w'.cell? ⟨c, 2, none⟩ = some (.slice b m cb)) (go_keep)
    (first
      | (go_at_call 39
         with_reducible refine JA.mono ?_
         rintro e w2 ⟨v3, g3, rfl, ⟨a3, k3, c3, Z, rfl, y1, y2, y3, L3, F3, l3, p3, e3⟩, hg3, s2, S2⟩
         have b2 := bA.keep S2
         have r2 := rA.keep S2
         have i1 := b2.c1
         have i2 := b2.c2
         have ne1 := World.new_ne w2 _ i1
         obtain ⟨x0, x1, x2⟩ := box1_keep s2)
      | (go_at_call 39
         with_reducible refine JB.mono ?_
         rintro e w2 ⟨v3, g3, rfl, ⟨a3, k3, c3, Z, rfl, y1, y2, y3, L3, F3, l3, p3, e3⟩, hg3, s2, S2⟩
         have b2 := bA.keep S2
         have r2 := rA.keep S2
         have i1 := b2.c1
         have i2 := b2.c2
         have ne1 := World.new_ne w2 _ i1))
  · go_wp2_with fail
    have t3 : w2.Since w2.heap.size (w2.alloc (.cells #[.slice a3 k3 c3] 50)) := (World.Since.refl _ _).alloc (Nat.le_refl _) _
    have b3 := b2.keep t3
    have r3 := r2.keep t3
    have L4 := L3.keep t3
    have S3 := S2.trans (sinceMono t3 S2.size)
    have Q0 : (w2.alloc (.cells #[.slice a3 k3 c3] 50)).cell? ⟨w2.heap.size, 0, none⟩ = some (.slice a3 k3 c3) := by simp [go_sem]
    generalize w2.alloc (.cells #[.slice a3 k3 c3] 50) = w3 at *
    generalize w2.heap.size = q at *
    have SW : w.Since w.heap.size w3 := sA.trans (sinceMono S3 (by have := sA.size; omega))
    have N4 := (H1s.keep SW).more (show 1048576 ≤ 1048578 by omega)
    have D4 := (H2s.keep SW).more (show 1048576 ≤ 1048578 by omega)
    have S4 : w.Since B w3.drew := since_drew (sinceMono SW hB)
    have hg4 : g ≠ w.heap.size := by omega
    have hh4 : h ≠ w.heap.size := by omega
    have hnz : ((n : Int) == 0) = !(N != 0) := by
      have hN : n = 0 ↔ N = 0 := by
        rw [← eX]
        constructor
        · intro h; rw [h]; rfl
        · intro h
          rcases Nat.eq_zero_or_pos n with e | e
          · exact e
          · have := lv_ge X n e (E.out.2.1 e); have := Nat.pow_pos (n := 32 * (n - 1)) (show 0 < 2 by omega); omega
      rw [Bool.eq_iff_iff]; simp; omega
    have HZ := hide hnz
    clear hnz
    have e4 : decide (lv Z k3 = 1) = true := by simp [e3]
    have I1 := isOne_any q 0 a3 g3 0 k3 c3 Z w3 Q0 L4 l3 p3
    rw [e4] at I1
    clear e4 e3 l3 p3
    refine I1.mono ?_
    rintro e w4 ⟨rfl, rfl⟩
    clear I1
    have j0 := b3.c0
    have j1 := b3.c1
    have j2 := b3.c2
    have u0 := r3.c0
    have u1 := r3.c1
    have u2 := r3.c2
    have uf0 := r3.f 0
    have uf1 := r3.f 1
    have uf2 := r3.f 2
    have I2 := isZero_any c 1 a n ca w4.drew b3.drew.c1
    have hne : w.heap.size ≠ c := Nat.ne_of_gt hcl
    cases f
    · go_wp2
      first | go_region_held (fun w' => w'.cell? ⟨c, 0, none⟩ = some (.bool false) ∧ w'.cell? ⟨c, 1, none⟩ = some (.slice a n ca) ∧ w'.cell? ⟨c, 2, none⟩ = some (.slice b m cb)) (go_keep) (fail) | fail
      all_goals go_wp2
      all_goals
        have r4 := ((r3.drew.set0 (.bool false)).set1 (.slice a n ca)).set2 (.slice b m cb)
        refine bodyPost_ret (results_box3 rfl _ _ _ _ _ _ rfl r4) rfl ?_
        have M : Marked w4.drew _ w.heap.size := (((Marked.refl w4.drew _).setCell 0 (.bool false)).setCell 1 (.slice a n ca)).setCell 2 (.slice b m cb)
        exact ⟨_, rfl, ⟨_, _, g, h, rfl, N4.drew.marked M hg4, D4.drew.marked M hh4, hg, hh, hgh⟩, S4.trans (M.since hB)⟩
    · go_wp2
      go_region_held3 (fun w' => w'.cell? ⟨c, 0, none⟩ = some (.bool true) ∧ w'.cell? ⟨c, 1, none⟩ = some (.slice a n ca) ∧ w'.cell? ⟨c, 2, none⟩ = some (.slice b m cb)) (go_keep)
        (first | (go_at_call 69; with_reducible refine I2.mono ?_; rintro e w5 ⟨rfl, rfl⟩))
      all_goals go_wp2
      all_goals
        have r4 := ((r3.drew.set0 (.bool (!((n : Int) == 0)))).set1 (.slice a n ca)).set2 (.slice b m cb)
        refine bodyPost_ret (results_box3 rfl _ _ _ _ _ _ rfl r4) rfl ?_
        have M : Marked w4.drew _ w.heap.size := (((Marked.refl w4.drew _).setCell 0 (.bool (!((n : Int) == 0)))).setCell 1 (.slice a n ca)).setCell 2 (.slice b m cb)
        rw [HZ.out] at M ⊢
        exact ⟨_, rfl, ⟨_, _, g, h, by simp, N4.drew.marked M hg4, D4.drew.marked M hh4, hg, hh, hgh⟩, S4.trans (M.since hB)⟩
  · go_wp2_with fail
    have M3 : Marked w2 (w2.setCell ⟨w1.heap.size, 0, none⟩ (.slice a3 k3 c3)) w1.heap.size := (Marked.refl w2 _).setCell _ _
    have zc : c < w1.heap.size := bA.lt
    have b3 := b2.marked M3 (by omega)
    have r3 := r2.marked M3 (by omega)
    have hg3' : w1.heap.size + 1 ≤ g3 := by
      have : (w1.alloc (.cells #[.slice none 0 0] 50)).drew.heap.size = w1.heap.size + 1 := by show (w1.alloc _).heap.size = _; simp
      omega
    have L4 := L3.marked M3 (fun _ => by omega)
    have S3 := S2.trans (M3.since (Nat.le_refl _))
    have Q0 : (w2.setCell ⟨w1.heap.size, 0, none⟩ (.slice a3 k3 c3)).cell? ⟨w1.heap.size, 0, none⟩ = some (.slice a3 k3 c3) := World.cell?_setCell_same _ _ _ x0
    generalize w2.setCell ⟨w1.heap.size, 0, none⟩ (.slice a3 k3 c3) = w3 at *
    generalize hq : w1.heap.size = q at *
    have SW : w.Since w.heap.size w3 := sA.trans (sinceMono S3 (by have := sA.size; omega))
    have N4 := (H1s.keep SW).more (show 1048576 ≤ 1048578 by omega)
    have D4 := (H2s.keep SW).more (show 1048576 ≤ 1048578 by omega)
    have S4 : w.Since B w3.drew := since_drew (sinceMono SW hB)
    have hg4 : g ≠ w.heap.size := by omega
    have hh4 : h ≠ w.heap.size := by omega
    have hnz : ((n : Int) == 0) = !(N != 0) := by
      have hN : n = 0 ↔ N = 0 := by
        rw [← eX]
        constructor
        · intro h; rw [h]; rfl
        · intro h
          rcases Nat.eq_zero_or_pos n with e | e
          · exact e
          · have := lv_ge X n e (E.out.2.1 e); have := Nat.pow_pos (n := 32 * (n - 1)) (show 0 < 2 by omega); omega
      rw [Bool.eq_iff_iff]; simp; omega
    have HZ := hide hnz
    clear hnz
    have e4 : decide (lv Z k3 = 1) = true := by simp [e3]
    have I1 := isOne_any q 0 a3 g3 0 k3 c3 Z w3 Q0 L4 l3 p3
    rw [e4] at I1
    clear e4 e3 l3 p3
    refine I1.mono ?_
    rintro e w4 ⟨rfl, rfl⟩
    clear I1
    have j0 := b3.c0
    have j1 := b3.c1
    have j2 := b3.c2
    have u0 := r3.c0
    have u1 := r3.c1
    have u2 := r3.c2
    have uf0 := r3.f 0
    have uf1 := r3.f 1
    have uf2 := r3.f 2
    have I2 := isZero_any c 1 a n ca w4.drew b3.drew.c1
    have hne : w.heap.size ≠ c := Nat.ne_of_gt hcl
    cases f
    · go_wp2
      first | go_region_held (fun w' => w'.cell? ⟨c, 0, none⟩ = some (.bool false) ∧ w'.cell? ⟨c, 1, none⟩ = some (.slice a n ca) ∧ w'.cell? ⟨c, 2, none⟩ = some (.slice b m cb)) (go_keep) (fail) | fail
      all_goals go_wp2
      all_goals
        have r4 := ((r3.drew.set0 (.bool false)).set1 (.slice a n ca)).set2 (.slice b m cb)
        refine bodyPost_ret (results_box3 rfl _ _ _ _ _ _ rfl r4) rfl ?_
        have M : Marked w4.drew _ w.heap.size := (((Marked.refl w4.drew _).setCell 0 (.bool false)).setCell 1 (.slice a n ca)).setCell 2 (.slice b m cb)
        exact ⟨_, rfl, ⟨_, _, g, h, rfl, N4.drew.marked M hg4, D4.drew.marked M hh4, hg, hh, hgh⟩, S4.trans (M.since hB)⟩
    · go_wp2
      go_region_held3 (fun w' => w'.cell? ⟨c, 0, none⟩ = some (.bool true) ∧ w'.cell? ⟨c, 1, none⟩ = some (.slice a n ca) ∧ w'.cell? ⟨c, 2, none⟩ = some (.slice b m cb)) (go_keep)
        (first | (go_at_call 69; with_reducible refine I2.mono ?_; rintro e w5 ⟨rfl, rfl⟩))
      all_goals go_wp2
      all_goals
        have r4 := ((r3.drew.set0 (.bool (!((n : Int) == 0)))).set1 (.slice a n ca)).set2 (.slice b m cb)
        refine bodyPost_ret (results_box3 rfl _ _ _ _ _ _ rfl r4) rfl ?_
        have M : Marked w4.drew _ w.heap.size := (((Marked.refl w4.drew _).setCell 0 (.bool (!((n : Int) == 0)))).setCell 1 (.slice a n ca)).setCell 2 (.slice b m cb)
        rw [HZ.out] at M ⊢
        exact ⟨_, rfl, ⟨_, _, g, h, by simp, N4.drew.marked M hg4, D4.drew.marked M hh4, hg, hh, hgh⟩, S4.trans (M.since hB)⟩

end Go.Proofs.YtickondjmilehabDoor
