import Derived.Test.YtickondjmilehabDoorM3
namespace Go.Proofs.YtickondjmilehabDoor
open Go.RowKit

section
variable {w w' : World} {a : Option Addr} {d g off n N M : Nat} {X : Nat → Nat} {v x y z : Value}
theorem Box3.ofBlock (h : Box3 w d x y z) (e : w'.heap[d]? = w.heap[d]?) : Box3 w' d x y z :=
  ⟨(World.cell?_of_block (w := w) (a := ⟨d, 0, none⟩) e).trans h.c0, (World.cell?_of_block (w := w) (a := ⟨d, 1, none⟩) e).trans h.c1, (World.cell?_of_block (w := w) (a := ⟨d, 2, none⟩) e).trans h.c2, fun k => (World.frozen?_of_block (w := w) (a := ⟨d, k, none⟩) e).trans (h.f k)⟩
theorem Limbs.ofBlock (h : Limbs w a g off n X) (e : 0 < n → w'.heap[g]? = w.heap[g]?) : Limbs w' a g off n X :=
  fun j hj => ⟨(h j hj).1, (World.cell?_of_block (w := w) (a := ⟨g, off + j, none⟩) (e (by omega))).trans (h j hj).2⟩
theorem NatAt.ofBlock (h : NatAt w v g N M) (e : g < w.heap.size → w'.heap[g]? = w.heap[g]?) : NatAt w' v g N M := by
  obtain ⟨a, m, cap, Y, h1, h2, h3, h4, h5, h6, h7, h8, h9⟩ := h
  exact ⟨a, m, cap, Y, h1, h2, h3, h4, h5.ofBlock (fun h0 => e (h5.lt h0)), fun h0 o => (World.frozen?_of_block (w := w) (a := ⟨g, o, none⟩) (e (h5.lt h0))).trans (h6 h0 o), h7, h8, h9⟩
/-- A natural of no limb lies wherever we say. -/
theorem NatAt.place (h : NatAt w v g N M) (g' : Nat) : g < w.heap.size ∨ NatAt w v g' N M := by
  obtain ⟨a, m, cap, Y, h1, h2, h3, h4, h5, h6, h7, h8, h9⟩ := h
  rcases Nat.eq_zero_or_pos m with e | e
  · subst e
    exact Or.inr ⟨a, 0, cap, Y, h1, h2, h3, h4, fun j hj => absurd hj (by omega), fun h => absurd h (by omega), h7, h8, h9⟩
  · exact Or.inl (h5.lt e)
end

theorem lv_zero {X : Nat → Nat} {n : Nat} (p : 0 < n → X (n - 1) ≠ 0) : n = 0 ↔ lv X n = 0 := by
  constructor
  · intro h; rw [h]; rfl
  · intro h
    rcases Nat.eq_zero_or_pos n with e | e
    · exact e
    · have := lv_ge X n e (p e); have := Nat.pow_pos (n := 32 * (n - 1)) (show 0 < 2 by omega); omega

theorem div_gcd_zero {N D : Nat} (hD : 0 < D) : N / Nat.gcd N D = 0 ↔ N = 0 := by
  have hG : 0 < Nat.gcd N D := Nat.gcd_pos_of_pos_right N hD
  constructor
  · intro h
    rcases Nat.eq_zero_or_pos N with e | e
    · exact e
    · have := Nat.div_pos (Nat.gcd_le_left D e) hG; omega
  · intro h; rw [h]; exact Nat.zero_div _

set_option maxHeartbeats 6400000 in
set_option maxRecDepth 100000 in
/-- normalise where a common divisor is taken out. -/
theorem normalise_big (c : Nat) (f : Bool) (v1 v2 : Value) (g h N D B : Nat) (w : World) (hw : 1 < w.heap.size) (hT : Tab w) (Bx : Box3 w c (.bool f) v1 v2) (H1 : NatAt w v1 g N 1048576) (H2 : NatAt w v2 h D 1048576)
    (hgh : g ≠ h) (hgl : g < w.heap.size) (hhl : h < w.heap.size) (hcg : c ≠ g) (hch : c ≠ h) (hg : B ≤ g) (hh : B ≤ h) (hB : B ≤ w.heap.size) (hc : B ≤ c) (hD : 0 < D) (h1 : Nat.gcd N D ≠ 1) :
    Calls Tryd.prog 70 #[.pointer (some ⟨c, 0, none⟩)] w fun e w' => ∃ v, e = .returned v ∧ RatV w' v (f && N != 0) (N / Nat.gcd N D) (D / Nat.gcd N D) B 1048578 ∧ w.Since B w' := by
  have H1s := H1
  have H2s := H2
  obtain ⟨a, n, ca, X, rfl, n1, n2, n3, LX, FX, lX, pX, eX⟩ := H1
  obtain ⟨b, m, cb, Y, rfl, m1, m2, m3, LY, FY, lY, pY, eY⟩ := H2
  have hcl := Bx.lt
  have sA : w.Since w.heap.size (w.alloc (.cells #[.bool false, .slice none 0 0, .slice none 0 0] 31)) := (World.Since.refl _ _).alloc (Nat.le_refl _) _
  have rA := Box3.new w (.bool false) (.slice none 0 0) (.slice none 0 0) 31
  have bA := Bx.keep sA
  have tA := hT.stay hw sA
  have wA : 1 < (w.alloc (.cells #[.bool false, .slice none 0 0, .slice none 0 0] 31)).heap.size := Nat.lt_of_lt_of_le hw sA.size
  have XA := LX.keep sA
  have YA := LY.keep sA
  obtain ⟨G, hG⟩ : ∃ G, G = Nat.gcd N D := ⟨_, rfl⟩
  have hG0 : 0 < G := by rw [hG]; exact Nat.gcd_pos_of_pos_right N hD
  have hGD : G ≤ D := by rw [hG]; exact Nat.gcd_le_right N hD
  have hGz := hide (div_gcd_zero (N := N) hD)
  rw [← hG] at hGz h1 ⊢
  go_enter Tryd.func70, Tryd.ntmps70
  go_wp2
  generalize w.alloc (.cells #[.bool false, .slice none 0 0, .slice none 0 0] 31) = w1 at *
  have J1 : ∀ w', w1.Since w1.heap.size w' → Calls Tryd.prog 39 #[.slice a n ca, .slice b m cb] w' fun e w2 => ∃ v g, e = .returned v ∧ NatAt w2 v g G 4194304 ∧ w'.heap.size ≤ g ∧ w'.Since w'.heap.size w2 ∧ w1.Since w1.heap.size w2 := fun w' s => by
    have J := gcdOf_any a b g 0 n ca h 0 m cb X Y w' (Nat.lt_of_lt_of_le wA s.size) n2 m2 n1 m1 n3 m3 (XA.keep s) (YA.keep s) lX lY pX pY (tA.stay wA s)
    rw [eX, eY, ← hG] at J
    exact J.mono fun e w2 ⟨v, g, q1, q2, q3, q4⟩ => ⟨v, g, q1, q2, q3, q4, s.trans (sinceMono q4 s.size)⟩
  have k0 := bA.c1
  have k1 := bA.c2
  have z1 := rA.lt
  have E := hide (And.intro lX (And.intro pX (And.intro lY pY)))
  clear lX pX lY pY hG
  have ne0 := World.new_ne w1 _ k0
  have JA := J1 (w1.alloc (.cells #[.slice none 0 0] 50)).drew (since_drew ((World.Since.refl _ _).alloc (Nat.le_refl _) _))
  have JB := J1 w1.drew (since_drew (World.Since.refl _ _))
  clear J1
  go_region_held3 (fun w' => w'.cell? ⟨c, 1, none⟩ = some (.slice a n ca) ∧ w'.cell? ⟨c, 2, none⟩ = some (.slice b m cb)) (go_keep)
    (first
      | (go_at_call 39
         with_reducible refine JA.mono ?_
         rintro e w2 ⟨v3, g3, rfl, ⟨a3, k3, c3, Z, rfl, y1, y2, y3, L3, F3, l3, p3, e3⟩, hg3, s2, S2⟩
         have b2 := bA.keep S2
         have r2 := rA.keep S2
         have i1 := b2.c1
         have i2 := b2.c2
         have ne1 := World.new_ne w2 _ i1
         obtain ⟨x0, x1, x2⟩ := box1_keep s2)
      | (go_at_call 39
         with_reducible refine JB.mono ?_
         rintro e w2 ⟨v3, g3, rfl, ⟨a3, k3, c3, Z, rfl, y1, y2, y3, L3, F3, l3, p3, e3⟩, hg3, s2, S2⟩
         have b2 := bA.keep S2
         have r2 := rA.keep S2
         have i1 := b2.c1
         have i2 := b2.c2
         have ne1 := World.new_ne w2 _ i1))
  · go_wp2_with fail
    have t3 : w2.Since w2.heap.size (w2.alloc (.cells #[.slice a3 k3 c3] 50)) := (World.Since.refl _ _).alloc (Nat.le_refl _) _
    have b3 := b2.keep t3
    have r3 := r2.keep t3
    have L4 := L3.keep t3
    have S3 := S2.trans (sinceMono t3 S2.size)
    have Q0 : (w2.alloc (.cells #[.slice a3 k3 c3] 50)).cell? ⟨w2.heap.size, 0, none⟩ = some (.slice a3 k3 c3) := by simp [go_sem]
    have hg1 : w1.heap.size ≤ g3 := hg3
    have hq1 : w1.heap.size ≤ w2.heap.size := S2.size
    generalize w2.alloc (.cells #[.slice a3 k3 c3] 50) = w3 at *
    generalize w2.heap.size = q at *
    have z0 : w.heap.size < w1.heap.size := rA.lt
    have SW : w.Since w.heap.size w3 := sA.trans (sinceMono S3 (by have := sA.size; omega))
    have hq2 : q < w3.heap.size := World.block_lt_of_cell? _ _ Q0
    have hk3 : 0 < k3 := by
      rcases Nat.eq_zero_or_pos k3 with e | e
      · subst e; rw [show lv Z 0 = 0 from rfl] at e3; omega
      · exact e
    have hkm : k3 ≤ m := by
      rcases Nat.lt_or_ge m k3 with hlt | hge
      · have := lv_short (A := Y) (B := Z) E.out.2.2.1 hlt p3; omega
      · exact hge
    have hg3l : g3 < w3.heap.size := L4.lt hk3
    have e4 : decide (lv Z k3 = 1) = false := by rw [e3]; simp [h1]
    have I1 := isOne_any q 0 a3 g3 0 k3 c3 Z w3 Q0 L4 l3 p3
    rw [e4] at I1
    clear e4
    have EZ := hide (And.intro l3 (And.intro p3 e3))
    clear l3 p3 e3
    refine I1.mono ?_
    rintro e w4 ⟨rfl, rfl⟩
    clear I1
    have N4 := (H1s.keep SW).drew
    have D4 := (H2s.keep SW).drew
    have X4 : Limbs w4.drew a g 0 n X := LX.keep (since_drew SW)
    have F4 : 0 < n → ∀ x, w4.drew.frozen? ⟨g, x, none⟩ = false := fun h0 x => ((since_drew SW).frozen (a := ⟨g, x, none⟩) hgl).trans (FX h0 x)
    have JD := divideBy_any c 1 a a3 g n ca g3 k3 c3 X Z w4.drew (by omega) n1 n3 hk3 (by omega) b3.drew.c1 (b3.drew.f 1) X4 L4.drew E.out.1 EZ.out.1 F4 hcg (fun _ => by show g < w4.heap.size; omega) E.out.2.1 (EZ.out.2.1 hk3)
    rw [eX, EZ.out.2.2] at JD
    have Q1 : w4.drew.cell? ⟨q, 0, none⟩ = some (.slice a3 k3 c3) := Q0
    have hqc : q ≠ c := by omega
    have hqg : q ≠ g := by omega
    have Q2 := Q0
    have zd : w4.drew.heap.size = w4.heap.size := rfl
    go_wp2
    go_region_held3 (fun w' => w'.cell? ⟨q, 0, none⟩ = some (.slice a3 k3 c3)) (go_keep)
      (first
        | (go_at_call 97
           with_reducible refine JD.mono ?_
           rintro e w5 ⟨vq, vr, gq, gr, rfl, cr, ⟨aq, nq, cq, U, rfl, u1, u2, u3, LU, FU, lU, pU, eU⟩, Nr, hq3, hr3, d1, d2, d3, Fq⟩
           have i1 : w5.cell? ⟨q, 0, none⟩ = some (.slice a3 k3 c3) := (World.cell?_of_block (w := w4.drew) (a := ⟨q, 0, none⟩) (Fq.block q hq2 hqc hqg)).trans Q1
           have fz : w5.frozen? ⟨c, 1, none⟩ = false := (Fq.frozen 1).trans (b3.f 1)
           have hcq : c ≠ q := by omega))
    have z5 := Fq.size
    have Nq : NatAt w5 (.slice aq nq cq) gq (N / G) 1048578 := ⟨aq, nq, cq, U, rfl, u1, by omega, u3, LU, FU, lU, pU, eU⟩
    have b5 : Box3 w5 c (.bool f) vr (.slice b m cb) := ⟨(Fq.cell 0 (by decide)).trans b3.c0, cr, (Fq.cell 2 (by decide)).trans b3.c2, fun k => (Fq.frozen k).trans (b3.f k)⟩
    have b6 := b5.set1 (.slice aq nq cq)
    have M6 : Marked w5 (w5.setCell ⟨c, 1, none⟩ (.slice aq nq cq)) c := (Marked.refl w5 _).setCell _ _
    have r6 := (r3.drew.ofBlock (Fq.block w.heap.size (by show w.heap.size < w4.heap.size; omega) (by omega) (by omega))).marked M6 (by omega)
    have N6 := Nq.marked M6 d2
    have D6 := (D4.ofBlock (fun _ => Fq.block h (by show h < w4.heap.size; omega) (by omega) (by omega))).marked M6 (by omega)
    have L6 := (L4.drew.ofBlock (fun _ => Fq.block g3 hg3l (by omega) (by omega))).marked M6 (fun _ => by omega)
    have Q6 : (w5.setCell ⟨c, 1, none⟩ (.slice aq nq cq)).cell? ⟨q, 0, none⟩ = some (.slice a3 k3 c3) := (M6.cell (a := ⟨q, 0, none⟩) hqc).trans i1
    have z6 := M6.size
    have S6 : w.Since B (w5.setCell ⟨c, 1, none⟩ (.slice aq nq cq)) := by
      have s4 : w.Since B w4.drew := since_drew (sinceMono SW hB)
      have s5 : w4.drew.Since B w5 := ⟨Fq.os, Fq.tape, Fq.output, Fq.size, fun k hk => Fq.block k (by show k < w4.heap.size; omega) (by omega) (by omega)⟩
      exact (s4.trans s5).trans (M6.since hc)
    clear LU FU lU pU u1 u2 u3 b5 cr Nr N4 D4 L4 Q0 Q1 Q2 i1 fz
    go_wp2_with fail
    generalize w5.setCell ⟨c, 1, none⟩ (.slice aq nq cq) = w6 at *
    obtain ⟨b', m', cb', Y', ev, m1', m2', m3', LY6, FY6, lY6, pY6, eY6⟩ := D6
    obtain ⟨rfl, rfl, rfl⟩ : b' = b ∧ m' = m ∧ cb' = cb := by simp at ev; exact ⟨ev.1.symm, ev.2.1.symm, ev.2.2.symm⟩
    have JE := divideBy_any c 2 b' a3 h m' cb' g3 k3 c3 Y' Z w6.drew (by omega) m1' m3' hk3 (by omega) b6.drew.c2 (b6.drew.f 2) LY6.drew L6.drew lY6 EZ.out.1 FY6 hch (fun _ => by show h < w6.heap.size; omega) pY6 (EZ.out.2.1 hk3)
    rw [eY6, EZ.out.2.2] at JE
    clear lY6 pY6 eY6 ev LY6 FY6
    have hqh : q ≠ h := by omega
    have Q7 : w6.drew.cell? ⟨q, 0, none⟩ = some (.slice a3 k3 c3) := Q6
    have hq6 : q < w6.drew.heap.size := by show q < w6.heap.size; omega
    go_wp2
    go_region_held3 (fun w' => w'.cell? ⟨q, 0, none⟩ = some (.slice a3 k3 c3)) (go_keep)
      (first
        | (go_at_call 97
           with_reducible refine JE.mono ?_
           rintro e w7 ⟨vq, vr, gp, gs, rfl, cr, ⟨ap, np, cp, V, rfl, u1, u2, u3, LU, FU, lU, pU, eV⟩, Nr, hp3, hs3, d4, d5, d6, Fp⟩
           have i1 : w7.cell? ⟨q, 0, none⟩ = some (.slice a3 k3 c3) := (World.cell?_of_block (w := w6.drew) (a := ⟨q, 0, none⟩) (Fp.block q hq6 hqc hqh)).trans Q7
           have fz : w7.frozen? ⟨c, 2, none⟩ = false := (Fp.frozen 2).trans (b6.f 2)
           have hcq : c ≠ q := by omega))
    have z7 := Fp.size
    have zd6 : w6.drew.heap.size = w6.heap.size := rfl
    have Np : NatAt w7 (.slice ap np cp) gp (D / G) 1048578 := ⟨ap, np, cp, V, rfl, u1, by omega, u3, LU, FU, lU, pU, eV⟩
    have b7 : Box3 w7 c (.bool f) (.slice aq nq cq) vr := ⟨(Fp.cell 0 (by decide)).trans b6.c0, (Fp.cell 1 (by decide)).trans b6.c1, cr, fun k => (Fp.frozen k).trans (b6.f k)⟩
    have b8 := b7.set2 (.slice ap np cp)
    have M8 : Marked w7 (w7.setCell ⟨c, 2, none⟩ (.slice ap np cp)) c := (Marked.refl w7 _).setCell _ _
    have r8 := (r6.drew.ofBlock (Fp.block w.heap.size (by show w.heap.size < w6.heap.size; omega) (by omega) (by omega))).marked M8 (by omega)
    have hqh2 : gq ≠ h := by omega
    have N8 := (N6.drew.ofBlock (fun hl => Fp.block gq hl d2 hqh2)).marked M8 d2
    have P8 := Np.marked M8 d5
    have z8 := M8.size
    have S8 : w.Since B (w7.setCell ⟨c, 2, none⟩ (.slice ap np cp)) := by
      have s7 : w6.drew.Since B w7 := ⟨Fp.os, Fp.tape, Fp.output, Fp.size, fun k hk => Fp.block k (by show k < w6.heap.size; omega) (by omega) (by omega)⟩
      exact ((since_drew S6).trans s7).trans (M8.since hc)
    have hnz : ((nq : Int) == 0) = !(N != 0) := by
      obtain ⟨a9, m9, c9, Y9, e9, -, -, -, -, -, -, p9, v9⟩ := N8
      have : m9 = nq := by simp at e9; exact e9.2.1.symm
      subst this
      have hN := (lv_zero p9)
      rw [v9, hGz.out] at hN
      rw [Bool.eq_iff_iff]; simp; omega
    have HZ := hide hnz
    clear hnz LU FU lU pU u1 u2 u3 b7 cr Nr Q6 Q7 i1 fz
    have hpl : gp = h ∨ w6.heap.size ≤ gp := hp3
    have gq1 : gq = g ∨ w4.heap.size ≤ gq := hq3
    obtain ⟨g', hg', hBg', hg'1, N9⟩ : ∃ g', g' ≠ gp ∧ B ≤ g' ∧ g' ≠ w.heap.size ∧ NatAt (w7.setCell ⟨c, 2, none⟩ (.slice ap np cp)) (.slice aq nq cq) g' (N / G) 1048578 := by
      rcases N6.place (gp + 1 + w.heap.size) with hl | hp
      · exact ⟨gq, by omega, by omega, by omega, N8⟩
      · refine ⟨gp + 1 + w.heap.size, by omega, by omega, by omega, ?_⟩
        rcases N8.place (gp + 1 + w.heap.size) with hl8 | hp8
        · obtain ⟨a9, m9, c9, Y9, e9, q1, q2, q3, L9, -, q5, q6, q7⟩ := hp
          obtain ⟨a8, m8, c8, Y8, e8, r1, r2, r3, L8, F8, r5, r6, r7⟩ := N8
          rcases Nat.eq_zero_or_pos m8 with e0 | e0
          · exact ⟨a8, m8, c8, Y8, e8, r1, r2, r3, fun j hj => absurd hj (by omega), fun hj => absurd hj (by omega), r5, r6, r7⟩
          · have e89 : m8 = m9 ∧ a8 = a9 := by rw [e8] at e9; simp at e9; exact ⟨e9.2.1, e9.1⟩
            have x8 := (L8 0 e0).1
            have x9 := (L9 0 (by omega)).1
            rw [e89.2, x9] at x8
            simp at x8
            rw [x8]
            exact ⟨a8, m8, c8, Y8, e8, r1, r2, r3, L8, F8, r5, r6, r7⟩
        · exact hp8
    clear N6 N8 hq3 hp3
    have hBp : B ≤ gp := by omega
    have hgp1 : gp ≠ w.heap.size := by omega
    go_wp2_with fail
    generalize w7.setCell ⟨c, 2, none⟩ (.slice ap np cp) = w8 at *
    have j0 := b8.c0
    have j1 := b8.c1
    have j2 := b8.c2
    have u0 := r8.c0
    have u1 := r8.c1
    have u2 := r8.c2
    have uf0 := r8.f 0
    have uf1 := r8.f 1
    have uf2 := r8.f 2
    have I2 := isZero_any c 1 aq nq cq w8.drew b8.drew.c1
    have hne : w.heap.size ≠ c := Nat.ne_of_gt hcl
    cases f
    · go_wp2
      first | go_region_held (fun w' => w'.cell? ⟨c, 0, none⟩ = some (.bool false) ∧ w'.cell? ⟨c, 1, none⟩ = some (.slice aq nq cq) ∧ w'.cell? ⟨c, 2, none⟩ = some (.slice ap np cp)) (go_keep) (fail) | fail
      all_goals go_wp2
      all_goals
        have r4 := ((r8.drew.set0 (.bool false)).set1 (.slice aq nq cq)).set2 (.slice ap np cp)
        refine bodyPost_ret (results_box3 rfl _ _ _ _ _ _ rfl r4) rfl ?_
        have M : Marked w8.drew _ w.heap.size := (((Marked.refl w8.drew _).setCell 0 (.bool false)).setCell 1 (.slice aq nq cq)).setCell 2 (.slice ap np cp)
        exact ⟨_, rfl, ⟨_, _, g', gp, rfl, N9.drew.marked M hg'1, P8.drew.marked M hgp1, hBg', hBp, hg'⟩, (since_drew S8).trans (M.since hB)⟩
    · go_wp2
      go_region_held3 (fun w' => w'.cell? ⟨c, 0, none⟩ = some (.bool true) ∧ w'.cell? ⟨c, 1, none⟩ = some (.slice aq nq cq) ∧ w'.cell? ⟨c, 2, none⟩ = some (.slice ap np cp)) (go_keep)
        (first | (go_at_call 69; with_reducible refine I2.mono ?_; rintro e w9 ⟨rfl, rfl⟩))
      all_goals go_wp2
      all_goals
        have r4 := ((r8.drew.set0 (.bool (!((nq : Int) == 0)))).set1 (.slice aq nq cq)).set2 (.slice ap np cp)
        refine bodyPost_ret (results_box3 rfl _ _ _ _ _ _ rfl r4) rfl ?_
        have M : Marked w8.drew _ w.heap.size := (((Marked.refl w8.drew _).setCell 0 (.bool (!((nq : Int) == 0)))).setCell 1 (.slice aq nq cq)).setCell 2 (.slice ap np cp)
        rw [HZ.out] at M ⊢
        exact ⟨_, rfl, ⟨_, _, g', gp, by simp, N9.drew.marked M hg'1, P8.drew.marked M hgp1, hBg', hBp, hg'⟩, (since_drew S8).trans (M.since hB)⟩
  · go_wp2_with fail
    have M3 : Marked w2 (w2.setCell ⟨w1.heap.size, 0, none⟩ (.slice a3 k3 c3)) w1.heap.size := (Marked.refl w2 _).setCell _ _
    have zc : c < w1.heap.size := bA.lt
    have b3 := b2.marked M3 (by omega)
    have r3 := r2.marked M3 (by omega)
    have hg1 : w1.heap.size + 1 ≤ g3 := by
      have : (w1.alloc (.cells #[.slice none 0 0] 50)).drew.heap.size = w1.heap.size + 1 := by show (w1.alloc _).heap.size = _; simp
      omega
    have L4 := L3.marked M3 (fun _ => by omega)
    have S3 := S2.trans (M3.since (Nat.le_refl _))
    have Q0 : (w2.setCell ⟨w1.heap.size, 0, none⟩ (.slice a3 k3 c3)).cell? ⟨w1.heap.size, 0, none⟩ = some (.slice a3 k3 c3) := World.cell?_setCell_same _ _ _ x0
    have hq1 : w1.heap.size ≤ w1.heap.size := Nat.le_refl _
    generalize w2.setCell ⟨w1.heap.size, 0, none⟩ (.slice a3 k3 c3) = w3 at *
    generalize hq : w1.heap.size = q at *
    have z0 : w.heap.size < w1.heap.size := rA.lt
    have SW : w.Since w.heap.size w3 := sA.trans (sinceMono S3 (by have := sA.size; omega))
    have hq2 : q < w3.heap.size := World.block_lt_of_cell? _ _ Q0
    have hk3 : 0 < k3 := by
      rcases Nat.eq_zero_or_pos k3 with e | e
      · subst e; rw [show lv Z 0 = 0 from rfl] at e3; omega
      · exact e
    have hkm : k3 ≤ m := by
      rcases Nat.lt_or_ge m k3 with hlt | hge
      · have := lv_short (A := Y) (B := Z) E.out.2.2.1 hlt p3; omega
      · exact hge
    have hg3l : g3 < w3.heap.size := L4.lt hk3
    have e4 : decide (lv Z k3 = 1) = false := by rw [e3]; simp [h1]
    have I1 := isOne_any q 0 a3 g3 0 k3 c3 Z w3 Q0 L4 l3 p3
    rw [e4] at I1
    clear e4
    have EZ := hide (And.intro l3 (And.intro p3 e3))
    clear l3 p3 e3
    refine I1.mono ?_
    rintro e w4 ⟨rfl, rfl⟩
    clear I1
    have N4 := (H1s.keep SW).drew
    have D4 := (H2s.keep SW).drew
    have X4 : Limbs w4.drew a g 0 n X := LX.keep (since_drew SW)
    have F4 : 0 < n → ∀ x, w4.drew.frozen? ⟨g, x, none⟩ = false := fun h0 x => ((since_drew SW).frozen (a := ⟨g, x, none⟩) hgl).trans (FX h0 x)
    have JD := divideBy_any c 1 a a3 g n ca g3 k3 c3 X Z w4.drew (by omega) n1 n3 hk3 (by omega) b3.drew.c1 (b3.drew.f 1) X4 L4.drew E.out.1 EZ.out.1 F4 hcg (fun _ => by show g < w4.heap.size; omega) E.out.2.1 (EZ.out.2.1 hk3)
    rw [eX, EZ.out.2.2] at JD
    have Q1 : w4.drew.cell? ⟨q, 0, none⟩ = some (.slice a3 k3 c3) := Q0
    have hqc : q ≠ c := by omega
    have hqg : q ≠ g := by omega
    have Q2 := Q0
    have zd : w4.drew.heap.size = w4.heap.size := rfl
    go_wp2
    go_region_held3 (fun w' => w'.cell? ⟨q, 0, none⟩ = some (.slice a3 k3 c3)) (go_keep)
      (first
        | (go_at_call 97
           with_reducible refine JD.mono ?_
           rintro e w5 ⟨vq, vr, gq, gr, rfl, cr, ⟨aq, nq, cq, U, rfl, u1, u2, u3, LU, FU, lU, pU, eU⟩, Nr, hq3, hr3, d1, d2, d3, Fq⟩
           have i1 : w5.cell? ⟨q, 0, none⟩ = some (.slice a3 k3 c3) := (World.cell?_of_block (w := w4.drew) (a := ⟨q, 0, none⟩) (Fq.block q hq2 hqc hqg)).trans Q1
           have fz : w5.frozen? ⟨c, 1, none⟩ = false := (Fq.frozen 1).trans (b3.f 1)
           have hcq : c ≠ q := by omega))
    have z5 := Fq.size
    have Nq : NatAt w5 (.slice aq nq cq) gq (N / G) 1048578 := ⟨aq, nq, cq, U, rfl, u1, by omega, u3, LU, FU, lU, pU, eU⟩
    have b5 : Box3 w5 c (.bool f) vr (.slice b m cb) := ⟨(Fq.cell 0 (by decide)).trans b3.c0, cr, (Fq.cell 2 (by decide)).trans b3.c2, fun k => (Fq.frozen k).trans (b3.f k)⟩
    have b6 := b5.set1 (.slice aq nq cq)
    have M6 : Marked w5 (w5.setCell ⟨c, 1, none⟩ (.slice aq nq cq)) c := (Marked.refl w5 _).setCell _ _
    have r6 := (r3.drew.ofBlock (Fq.block w.heap.size (by show w.heap.size < w4.heap.size; omega) (by omega) (by omega))).marked M6 (by omega)
    have N6 := Nq.marked M6 d2
    have D6 := (D4.ofBlock (fun _ => Fq.block h (by show h < w4.heap.size; omega) (by omega) (by omega))).marked M6 (by omega)
    have L6 := (L4.drew.ofBlock (fun _ => Fq.block g3 hg3l (by omega) (by omega))).marked M6 (fun _ => by omega)
    have Q6 : (w5.setCell ⟨c, 1, none⟩ (.slice aq nq cq)).cell? ⟨q, 0, none⟩ = some (.slice a3 k3 c3) := (M6.cell (a := ⟨q, 0, none⟩) hqc).trans i1
    have z6 := M6.size
    have S6 : w.Since B (w5.setCell ⟨c, 1, none⟩ (.slice aq nq cq)) := by
      have s4 : w.Since B w4.drew := since_drew (sinceMono SW hB)
      have s5 : w4.drew.Since B w5 := ⟨Fq.os, Fq.tape, Fq.output, Fq.size, fun k hk => Fq.block k (by show k < w4.heap.size; omega) (by omega) (by omega)⟩
      exact (s4.trans s5).trans (M6.since hc)
    clear LU FU lU pU u1 u2 u3 b5 cr Nr N4 D4 L4 Q0 Q1 Q2 i1 fz
    go_wp2_with fail
    generalize w5.setCell ⟨c, 1, none⟩ (.slice aq nq cq) = w6 at *
    obtain ⟨b', m', cb', Y', ev, m1', m2', m3', LY6, FY6, lY6, pY6, eY6⟩ := D6
    obtain ⟨rfl, rfl, rfl⟩ : b' = b ∧ m' = m ∧ cb' = cb := by simp at ev; exact ⟨ev.1.symm, ev.2.1.symm, ev.2.2.symm⟩
    have JE := divideBy_any c 2 b' a3 h m' cb' g3 k3 c3 Y' Z w6.drew (by omega) m1' m3' hk3 (by omega) b6.drew.c2 (b6.drew.f 2) LY6.drew L6.drew lY6 EZ.out.1 FY6 hch (fun _ => by show h < w6.heap.size; omega) pY6 (EZ.out.2.1 hk3)
    rw [eY6, EZ.out.2.2] at JE
    clear lY6 pY6 eY6 ev LY6 FY6
    have hqh : q ≠ h := by omega
    have Q7 : w6.drew.cell? ⟨q, 0, none⟩ = some (.slice a3 k3 c3) := Q6
    have hq6 : q < w6.drew.heap.size := by show q < w6.heap.size; omega
    go_wp2
    go_region_held3 (fun w' => w'.cell? ⟨q, 0, none⟩ = some (.slice a3 k3 c3)) (go_keep)
      (first
        | (go_at_call 97
           with_reducible refine JE.mono ?_
           rintro e w7 ⟨vq, vr, gp, gs, rfl, cr, ⟨ap, np, cp, V, rfl, u1, u2, u3, LU, FU, lU, pU, eV⟩, Nr, hp3, hs3, d4, d5, d6, Fp⟩
           have i1 : w7.cell? ⟨q, 0, none⟩ = some (.slice a3 k3 c3) := (World.cell?_of_block (w := w6.drew) (a := ⟨q, 0, none⟩) (Fp.block q hq6 hqc hqh)).trans Q7
           have fz : w7.frozen? ⟨c, 2, none⟩ = false := (Fp.frozen 2).trans (b6.f 2)
           have hcq : c ≠ q := by omega))
    have z7 := Fp.size
    have zd6 : w6.drew.heap.size = w6.heap.size := rfl
    have Np : NatAt w7 (.slice ap np cp) gp (D / G) 1048578 := ⟨ap, np, cp, V, rfl, u1, by omega, u3, LU, FU, lU, pU, eV⟩
    have b7 : Box3 w7 c (.bool f) (.slice aq nq cq) vr := ⟨(Fp.cell 0 (by decide)).trans b6.c0, (Fp.cell 1 (by decide)).trans b6.c1, cr, fun k => (Fp.frozen k).trans (b6.f k)⟩
    have b8 := b7.set2 (.slice ap np cp)
    have M8 : Marked w7 (w7.setCell ⟨c, 2, none⟩ (.slice ap np cp)) c := (Marked.refl w7 _).setCell _ _
    have r8 := (r6.drew.ofBlock (Fp.block w.heap.size (by show w.heap.size < w6.heap.size; omega) (by omega) (by omega))).marked M8 (by omega)
    have hqh2 : gq ≠ h := by omega
    have N8 := (N6.drew.ofBlock (fun hl => Fp.block gq hl d2 hqh2)).marked M8 d2
    have P8 := Np.marked M8 d5
    have z8 := M8.size
    have S8 : w.Since B (w7.setCell ⟨c, 2, none⟩ (.slice ap np cp)) := by
      have s7 : w6.drew.Since B w7 := ⟨Fp.os, Fp.tape, Fp.output, Fp.size, fun k hk => Fp.block k (by show k < w6.heap.size; omega) (by omega) (by omega)⟩
      exact ((since_drew S6).trans s7).trans (M8.since hc)
    have hnz : ((nq : Int) == 0) = !(N != 0) := by
      obtain ⟨a9, m9, c9, Y9, e9, -, -, -, -, -, -, p9, v9⟩ := N8
      have : m9 = nq := by simp at e9; exact e9.2.1.symm
      subst this
      have hN := (lv_zero p9)
      rw [v9, hGz.out] at hN
      rw [Bool.eq_iff_iff]; simp; omega
    have HZ := hide hnz
    clear hnz LU FU lU pU u1 u2 u3 b7 cr Nr Q6 Q7 i1 fz
    have hpl : gp = h ∨ w6.heap.size ≤ gp := hp3
    have gq1 : gq = g ∨ w4.heap.size ≤ gq := hq3
    obtain ⟨g', hg', hBg', hg'1, N9⟩ : ∃ g', g' ≠ gp ∧ B ≤ g' ∧ g' ≠ w.heap.size ∧ NatAt (w7.setCell ⟨c, 2, none⟩ (.slice ap np cp)) (.slice aq nq cq) g' (N / G) 1048578 := by
      rcases N6.place (gp + 1 + w.heap.size) with hl | hp
      · exact ⟨gq, by omega, by omega, by omega, N8⟩
      · refine ⟨gp + 1 + w.heap.size, by omega, by omega, by omega, ?_⟩
        rcases N8.place (gp + 1 + w.heap.size) with hl8 | hp8
        · obtain ⟨a9, m9, c9, Y9, e9, q1, q2, q3, L9, -, q5, q6, q7⟩ := hp
          obtain ⟨a8, m8, c8, Y8, e8, r1, r2, r3, L8, F8, r5, r6, r7⟩ := N8
          rcases Nat.eq_zero_or_pos m8 with e0 | e0
          · exact ⟨a8, m8, c8, Y8, e8, r1, r2, r3, fun j hj => absurd hj (by omega), fun hj => absurd hj (by omega), r5, r6, r7⟩
          · have e89 : m8 = m9 ∧ a8 = a9 := by rw [e8] at e9; simp at e9; exact ⟨e9.2.1, e9.1⟩
            have x8 := (L8 0 e0).1
            have x9 := (L9 0 (by omega)).1
            rw [e89.2, x9] at x8
            simp at x8
            rw [x8]
            exact ⟨a8, m8, c8, Y8, e8, r1, r2, r3, L8, F8, r5, r6, r7⟩
        · exact hp8
    clear N6 N8 hq3 hp3
    have hBp : B ≤ gp := by omega
    have hgp1 : gp ≠ w.heap.size := by omega
    go_wp2_with fail
    generalize w7.setCell ⟨c, 2, none⟩ (.slice ap np cp) = w8 at *
    have j0 := b8.c0
    have j1 := b8.c1
    have j2 := b8.c2
    have u0 := r8.c0
    have u1 := r8.c1
    have u2 := r8.c2
    have uf0 := r8.f 0
    have uf1 := r8.f 1
    have uf2 := r8.f 2
    have I2 := isZero_any c 1 aq nq cq w8.drew b8.drew.c1
    have hne : w.heap.size ≠ c := Nat.ne_of_gt hcl
    cases f
    · go_wp2
      first | go_region_held (fun w' => w'.cell? ⟨c, 0, none⟩ = some (.bool false) ∧ w'.cell? ⟨c, 1, none⟩ = some (.slice aq nq cq) ∧ w'.cell? ⟨c, 2, none⟩ = some (.slice ap np cp)) (go_keep) (fail) | fail
      all_goals go_wp2
      all_goals
        have r4 := ((r8.drew.set0 (.bool false)).set1 (.slice aq nq cq)).set2 (.slice ap np cp)
        refine bodyPost_ret (results_box3 rfl _ _ _ _ _ _ rfl r4) rfl ?_
        have M : Marked w8.drew _ w.heap.size := (((Marked.refl w8.drew _).setCell 0 (.bool false)).setCell 1 (.slice aq nq cq)).setCell 2 (.slice ap np cp)
        exact ⟨_, rfl, ⟨_, _, g', gp, rfl, N9.drew.marked M hg'1, P8.drew.marked M hgp1, hBg', hBp, hg'⟩, (since_drew S8).trans (M.since hB)⟩
    · go_wp2
      go_region_held3 (fun w' => w'.cell? ⟨c, 0, none⟩ = some (.bool true) ∧ w'.cell? ⟨c, 1, none⟩ = some (.slice aq nq cq) ∧ w'.cell? ⟨c, 2, none⟩ = some (.slice ap np cp)) (go_keep)
        (first | (go_at_call 69; with_reducible refine I2.mono ?_; rintro e w9 ⟨rfl, rfl⟩))
      all_goals go_wp2
      all_goals
        have r4 := ((r8.drew.set0 (.bool (!((nq : Int) == 0)))).set1 (.slice aq nq cq)).set2 (.slice ap np cp)
        refine bodyPost_ret (results_box3 rfl _ _ _ _ _ _ rfl r4) rfl ?_
        have M : Marked w8.drew _ w.heap.size := (((Marked.refl w8.drew _).setCell 0 (.bool (!((nq : Int) == 0)))).setCell 1 (.slice aq nq cq)).setCell 2 (.slice ap np cp)
        rw [HZ.out] at M ⊢
        exact ⟨_, rfl, ⟨_, _, g', gp, by simp, N9.drew.marked M hg'1, P8.drew.marked M hgp1, hBg', hBp, hg'⟩, (since_drew S8).trans (M.since hB)⟩

end Go.Proofs.YtickondjmilehabDoor
