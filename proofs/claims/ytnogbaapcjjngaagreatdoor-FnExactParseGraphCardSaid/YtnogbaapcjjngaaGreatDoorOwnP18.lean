import Derived.Test.YtnogbaapcjjngaaGreatDoorOwnP17
import Derived.Deep.RegionHeld
import Derived.Deep.RegionWith
namespace Go.Proofs.YtnogbaapcjjngaaGreatDoor
open Go.RowKit

theorem gcd_shared {N D K : Nat} (h : Nat.gcd N D ∣ K) : Nat.gcd (Nat.gcd K N) D = Nat.gcd N D := by
  rw [Nat.gcd_assoc]; exact Nat.gcd_eq_right h

set_option maxHeartbeats 1600000 in
set_option maxRecDepth 100000 in
/-- (*fraction).common. -/
theorem common_any (c : Nat) (f : Bool) (v1 v2 v3 : Value) (g h q N D K : Nat) (w : World) (Bx : Box4 w c (.bool f) v1 v2 v3) (H1 : NatAt w v1 g N 16777216) (H2 : NatAt w v2 h D 16777216) (H3 : NatAt w v3 q K 16777216) (hK : Nat.gcd N D ∣ K) :
    Calls Tryz.prog 162 #[.pointer (some ⟨c, 0, none⟩)] w fun e w' => ∃ v g, e = .returned v ∧ NatAt w' v g (Nat.gcd N D) 67108864 ∧ w.heap.size ≤ g ∧ w.Since w.heap.size w' := by
  obtain ⟨a, n, ca, X, rfl, n1, n2, n3, LX, FX, lX, pX, eX⟩ := H1
  obtain ⟨b, m, cb, Y, rfl, m1, m2, m3, LY, FY, lY, pY, eY⟩ := H2
  obtain ⟨d, k, cd, Z, rfl, k1, k2, k3, LZ, FZ, lZ, pZ, eZ⟩ := H3
  have b1 := Bx.c1
  have b2 := Bx.c2
  have b3 := Bx.c3
  have I2 := isOne_any c 2 b h 0 m cb Y w b2 LY lY pY
  have I3 := isOne_any c 3 d q 0 k cd Z w b3 LZ lZ pZ
  rw [eY] at I2
  rw [eZ] at I3
  have sA : w.Since w.heap.size (w.alloc (.cells #[.int .u32 1] 159)) := (World.Since.refl _ _).alloc (Nat.le_refl _) _
  by_cases hD : D = 1
  · have hG : Nat.gcd N D = 1 := by rw [hD]; exact Nat.gcd_one_right N
    rw [hG]
    rw [show decide (D = 1) = true by simp [hD]] at I2
    clear I3 lX lY lZ pX pY pZ
    go_enter Tryz.func162, Tryz.ntmps162
    go_wp2_with fail
    refine I2.mono ?_
    rintro e w1 ⟨rfl, rfl⟩
    go_wp2
    go_ret
    exact ⟨_, _, rfl, natAt_one w1, Nat.le_refl _, sA⟩
  · rw [show decide (D = 1) = false by simp [hD]] at I2
    by_cases hK1 : K = 1
    · have hG : Nat.gcd N D = 1 := by rw [hK1] at hK; exact Nat.dvd_one.1 hK
      rw [hG]
      rw [show decide (K = 1) = true by simp [hK1]] at I3
      clear lX lY lZ pX pY pZ
      go_enter Tryz.func162, Tryz.ntmps162
      go_wp2_with fail
      refine I2.mono ?_
      rintro e w1 ⟨rfl, hw1⟩
      rw [hw1]
      clear hw1 w1
      go_wp2_with fail
      refine I3.mono ?_
      rintro e w1 ⟨rfl, rfl⟩
      go_wp2
      go_ret
      exact ⟨_, _, rfl, natAt_one w1, Nat.le_refl _, sA⟩
    · rw [show decide (K = 1) = false by simp [hK1]] at I3
      have J1 := gcdOf_any d a q 0 k cd g 0 n ca Z X w.drew (Nat.zero_le _) k2 n2 k1 n1 k3 n3 LZ LX lZ lX pZ pX trivial
      have HX := hide (And.intro lX pX)
      have HY := hide (And.intro lY pY)
      have HZ := hide (And.intro lZ pZ)
      have HG := hide (gcd_shared hK)
      have EX := hide eX
      have EY := hide eY
      have EZ := hide eZ
      have dr : w.Since w.heap.size w.drew := since_drew (World.Since.refl _ _)
      clear lX lY lZ pX pY pZ eX eY eZ hK sA
      go_enter Tryz.func162, Tryz.ntmps162
      go_wp2_with fail
      refine I2.mono ?_
      rintro e w1 ⟨rfl, hw1⟩
      rw [hw1]
      clear hw1 w1
      go_wp2_with fail
      refine I3.mono ?_
      rintro e w1 ⟨rfl, hw1⟩
      rw [hw1]
      clear hw1 w1 I2 I3
      go_wp2
      go_region_held3 (fun w' => w'.cell? ⟨c, 1, none⟩ = some (.slice a n ca) ∧ w'.cell? ⟨c, 2, none⟩ = some (.slice b m cb) ∧ w'.cell? ⟨c, 3, none⟩ = some (.slice d k cd)) (go_keep)
        (first
          | (go_at_call 141
             with_reducible refine J1.mono ?_
             rintro e w2 ⟨v4, g4, rfl, ⟨a4, n4, c4, Z4, rfl, y1, y2, y3, L4, F4, l4, p4, e4⟩, hg4, s4⟩
             have S4 : w.Since w.heap.size w2 := dr.trans (sinceMono s4 dr.size)
             have B4 := Bx.keep S4
             have i1 := B4.c1
             have i2 := B4.c2
             have i3 := B4.c3
             have hn4 : n4 ≤ 16777216 := by
               rw [EZ.out, EX.out] at e4
               by_cases hN0 : N = 0
               · have h5 : lv Z4 n4 ≤ lv Z k := by rw [e4, EZ.out, hN0, Nat.gcd_zero_right]; exact Nat.le_refl _
                 have := lv_len_le HZ.out.1 p4 h5
                 omega
               · have h5 : lv Z4 n4 ≤ lv X n := by rw [e4, EX.out]; exact Nat.gcd_le_right _ (by omega)
                 have := lv_len_le HX.out.1 p4 h5
                 omega
             have J2 := gcdOf_any a4 b g4 0 n4 c4 h 0 m cb Z4 Y w2 (Nat.zero_le _) hn4 m2 y1 m1 y3 m3 L4 (LY.keep S4) l4 HY.out.1 p4 HY.out.2 trivial)
          | (go_at_call 141
             with_reducible refine J2.mono ?_
             rintro e w3 ⟨v5, g5, rfl, N5, hg5, s5⟩
             have S5 : w.Since w.heap.size w3 := S4.trans (sinceMono s5 S4.size)
             have B5 := Bx.keep S5
             have i1 := B5.c1
             have i2 := B5.c2
             have i3 := B5.c3))
      rw [e4, EY.out, EZ.out, EX.out, HG.out] at N5
      go_wp2
      go_ret
      exact ⟨_, g5, rfl, N5, Nat.le_trans S4.size hg5, S5⟩

end Go.Proofs.YtnogbaapcjjngaaGreatDoor

namespace Go.Proofs.YtnogbaapcjjngaaGreatDoor
open Go.RowKit

theorem Tab.oth {w w' : World} {c : Nat} (_h : Tab w) (_hw : 0 ≤ w.heap.size) (_hc : 0 ≤ c) (_s : Oth c w w') : Tab w' := trivial
theorem Tab.stay {w w' : World} (h : Tab w) (hw : 0 ≤ w.heap.size) (s : w.Since w.heap.size w') : Tab w' := h.oth (c := w.heap.size) hw (by omega) (Oth.ofSince _ s)

set_option maxHeartbeats 3200000 in
set_option maxRecDepth 100000 in
/-- normalise where the two parts have no common divisor. -/
theorem normalise_one (c : Nat) (f : Bool) (v1 v2 v3 : Value) (g h q N D K B : Nat) (w : World) (hw : 0 ≤ w.heap.size) (hT : Tab w) (Bx : Box4 w c (.bool f) v1 v2 v3) (H1 : NatAt w v1 g N 16777216) (H2 : NatAt w v2 h D 16777216) (H3 : NatAt w v3 q K 16777216) (hK : Nat.gcd N D ∣ K)
    (hgh : g ≠ h) (hgl : g < w.heap.size) (hhl : h < w.heap.size) (hg : B ≤ g) (hh : B ≤ h) (hB : B ≤ w.heap.size) (_hc : B ≤ c) (h1 : Nat.gcd N D = 1) :
    Calls Tryz.prog 127 #[.pointer (some ⟨c, 0, none⟩)] w fun e w' => ∃ v, e = .returned v ∧ RatV w' v (f && N != 0) N D B 16777218 ∧ w.Since B w' := by
  have H1s := H1
  have H2s := H2
  obtain ⟨a, n, ca, X, rfl, n1, n2, n3, LX, FX, lX, pX, eX⟩ := H1
  obtain ⟨b, m, cb, Y, rfl, m1, m2, m3, LY, FY, lY, pY, eY⟩ := H2
  have hcl := Bx.lt
  have sA : w.Since w.heap.size (w.alloc (.cells #[.bool false, .slice none 0 0, .slice none 0 0] 61)) := (World.Since.refl _ _).alloc (Nat.le_refl _) _
  have rA := Box3.new w (.bool false) (.slice none 0 0) (.slice none 0 0) 61
  have bA := Bx.keep sA
  have tA := hT.stay hw sA
  have wA : 0 ≤ (w.alloc (.cells #[.bool false, .slice none 0 0, .slice none 0 0] 61)).heap.size := Nat.zero_le _
  have XA := LX.keep sA
  have YA := LY.keep sA
  go_enter Tryz.func127, Tryz.ntmps127
  go_wp2_with fail
  generalize w.alloc (.cells #[.bool false, .slice none 0 0, .slice none 0 0] 61) = w1 at *
  have J1 := common_any c f _ _ v3 g h q N D K w1 bA (H1s.keep sA) (H2s.keep sA) (H3.keep sA) hK
  rw [h1] at J1
  have k0 := bA.c1
  have k1 := bA.c2
  have z1 := rA.lt
  have E := hide (And.intro lX (And.intro pX (And.intro lY pY)))
  clear lX pX lY pY
  refine J1.mono ?_
  rintro e w2 ⟨v4, g3, rfl, ⟨a3, k3, c3, Z, rfl, y1, y2, y3, L3, F3, l3, p3, e3⟩, hg3, S2⟩
  clear J1
  have b2 := bA.keep S2
  have r2 := rA.keep S2
  go_wp2_with fail
  have t3 : w2.Since w2.heap.size (w2.alloc (.cells #[.slice a3 k3 c3] 165)) := (World.Since.refl _ _).alloc (Nat.le_refl _) _
  have b3 := b2.keep t3
  have r3 := r2.keep t3
  have L4 := L3.keep t3
  have S3 := S2.trans (sinceMono t3 S2.size)
  have Q0 : (w2.alloc (.cells #[.slice a3 k3 c3] 165)).cell? ⟨w2.heap.size, 0, none⟩ = some (.slice a3 k3 c3) := by simp [go_sem]
  generalize w2.alloc (.cells #[.slice a3 k3 c3] 165) = w3 at *
  generalize w2.heap.size = q at *
  have SW : w.Since w.heap.size w3 := sA.trans (sinceMono S3 (by have := sA.size; omega))
  have N4 := (H1s.keep SW).more (show 16777216 ≤ 16777218 by omega)
  have D4 := (H2s.keep SW).more (show 16777216 ≤ 16777218 by omega)
  have S4 : w.Since B w3.drew := since_drew (sinceMono SW hB)
  have hg4 : g ≠ w.heap.size := by omega
  have hh4 : h ≠ w.heap.size := by omega
  have hnz : ((n : Int) == 0) = !(N != 0) := by
    have hN : n = 0 ↔ N = 0 := by
      rw [← eX]
      constructor
      · intro h; rw [h]; rfl
      · intro h
        rcases Nat.eq_zero_or_pos n with e | e
        · exact e
        · have := lv_ge X n e (E.out.2.1 e); have := Nat.pow_pos (n := 32 * (n - 1)) (show 0 < 2 by omega); omega
    rw [Bool.eq_iff_iff]; simp; omega
  have HZ := hide hnz
  clear hnz
  have e4 : decide (lv Z k3 = 1) = true := by simp [e3]
  have I1 := isOne_any q 0 a3 g3 0 k3 c3 Z w3 Q0 L4 l3 p3
  rw [e4] at I1
  clear e4 e3 l3 p3
  refine I1.mono ?_
  rintro e w4 ⟨rfl, rfl⟩
  clear I1
  have j0 := b3.c0
  have j1 := b3.c1
  have j2 := b3.c2
  have u0 := r3.c0
  have u1 := r3.c1
  have u2 := r3.c2
  have uf0 := r3.f 0
  have uf1 := r3.f 1
  have uf2 := r3.f 2
  have I2 := isZero_any c 1 a n ca w4.drew b3.drew.c1
  have hne : w.heap.size ≠ c := Nat.ne_of_gt hcl
  cases f
  · go_wp2
    first | go_region_held (fun w' => w'.cell? ⟨c, 0, none⟩ = some (.bool false) ∧ w'.cell? ⟨c, 1, none⟩ = some (.slice a n ca) ∧ w'.cell? ⟨c, 2, none⟩ = some (.slice b m cb)) (go_keep) (fail) | fail
    all_goals go_wp2
    all_goals
      have r4 := ((r3.drew.set0 (.bool false)).set1 (.slice a n ca)).set2 (.slice b m cb)
      refine bodyPost_ret (results_box3 rfl _ _ _ _ _ _ rfl r4) rfl ?_
      have M : Marked w4.drew _ w.heap.size := (((Marked.refl w4.drew _).setCell 0 (.bool false)).setCell 1 (.slice a n ca)).setCell 2 (.slice b m cb)
      exact ⟨_, rfl, ⟨_, _, g, h, rfl, N4.drew.marked M hg4, D4.drew.marked M hh4, hg, hh, hgh⟩, S4.trans (M.since hB)⟩
  · go_wp2
    go_region_held3 (fun w' => w'.cell? ⟨c, 0, none⟩ = some (.bool true) ∧ w'.cell? ⟨c, 1, none⟩ = some (.slice a n ca) ∧ w'.cell? ⟨c, 2, none⟩ = some (.slice b m cb)) (go_keep)
      (first | (go_at_call 126; with_reducible refine I2.mono ?_; rintro e w5 ⟨rfl, rfl⟩))
    all_goals go_wp2
    all_goals
      have r4 := ((r3.drew.set0 (.bool (!((n : Int) == 0)))).set1 (.slice a n ca)).set2 (.slice b m cb)
      refine bodyPost_ret (results_box3 rfl _ _ _ _ _ _ rfl r4) rfl ?_
      have M : Marked w4.drew _ w.heap.size := (((Marked.refl w4.drew _).setCell 0 (.bool (!((n : Int) == 0)))).setCell 1 (.slice a n ca)).setCell 2 (.slice b m cb)
      rw [HZ.out] at M ⊢
      exact ⟨_, rfl, ⟨_, _, g, h, by simp, N4.drew.marked M hg4, D4.drew.marked M hh4, hg, hh, hgh⟩, S4.trans (M.since hB)⟩

end Go.Proofs.YtnogbaapcjjngaaGreatDoor

namespace Go.Proofs.YtnogbaapcjjngaaGreatDoor
open Go.RowKit

section
variable {w w' : World} {a : Option Addr} {d g off n N M : Nat} {X : Nat → Nat} {v x y z : Value}
theorem Box3.ofBlock (h : Box3 w d x y z) (e : w'.heap[d]? = w.heap[d]?) : Box3 w' d x y z :=
  ⟨(World.cell?_of_block (w := w) (a := ⟨d, 0, none⟩) e).trans h.c0, (World.cell?_of_block (w := w) (a := ⟨d, 1, none⟩) e).trans h.c1, (World.cell?_of_block (w := w) (a := ⟨d, 2, none⟩) e).trans h.c2, fun k => (World.frozen?_of_block (w := w) (a := ⟨d, k, none⟩) e).trans (h.f k)⟩
theorem Limbs.ofBlock (h : Limbs w a g off n X) (e : 0 < n → w'.heap[g]? = w.heap[g]?) : Limbs w' a g off n X :=
  fun j hj => ⟨(h j hj).1, (World.cell?_of_block (w := w) (a := ⟨g, off + j, none⟩) (e (by omega))).trans (h j hj).2⟩
theorem NatAt.ofBlock (h : NatAt w v g N M) (e : g < w.heap.size → w'.heap[g]? = w.heap[g]?) : NatAt w' v g N M := by
  obtain ⟨a, m, cap, Y, h1, h2, h3, h4, h5, h6, h7, h8, h9⟩ := h
  exact ⟨a, m, cap, Y, h1, h2, h3, h4, h5.ofBlock (fun h0 => e (h5.lt h0)), fun h0 o => (World.frozen?_of_block (w := w) (a := ⟨g, o, none⟩) (e (h5.lt h0))).trans (h6 h0 o), h7, h8, h9⟩
/-- A natural of no limb lies wherever we say. -/
theorem NatAt.place (h : NatAt w v g N M) (g' : Nat) : g < w.heap.size ∨ NatAt w v g' N M := by
  obtain ⟨a, m, cap, Y, h1, h2, h3, h4, h5, h6, h7, h8, h9⟩ := h
  rcases Nat.eq_zero_or_pos m with e | e
  · subst e
    exact Or.inr ⟨a, 0, cap, Y, h1, h2, h3, h4, fun j hj => absurd hj (by omega), fun h => absurd h (by omega), h7, h8, h9⟩
  · exact Or.inl (h5.lt e)
end

theorem lv_zero {X : Nat → Nat} {n : Nat} (p : 0 < n → X (n - 1) ≠ 0) : n = 0 ↔ lv X n = 0 := by
  constructor
  · intro h; rw [h]; rfl
  · intro h
    rcases Nat.eq_zero_or_pos n with e | e
    · exact e
    · have := lv_ge X n e (p e); have := Nat.pow_pos (n := 32 * (n - 1)) (show 0 < 2 by omega); omega

theorem div_gcd_zero {N D : Nat} (hD : 0 < D) : N / Nat.gcd N D = 0 ↔ N = 0 := by
  have hG : 0 < Nat.gcd N D := Nat.gcd_pos_of_pos_right N hD
  constructor
  · intro h
    rcases Nat.eq_zero_or_pos N with e | e
    · exact e
    · have := Nat.div_pos (Nat.gcd_le_left D e) hG; omega
  · intro h; rw [h]; exact Nat.zero_div _

set_option maxHeartbeats 6400000 in
set_option maxRecDepth 100000 in
/-- normalise where a common divisor is taken out. -/
theorem normalise_big (c : Nat) (f : Bool) (v1 v2 v3 : Value) (g h q N D K B : Nat) (w : World) (hw : 0 ≤ w.heap.size) (hT : Tab w) (Bx : Box4 w c (.bool f) v1 v2 v3) (H1 : NatAt w v1 g N 16777216) (H2 : NatAt w v2 h D 16777216) (H3 : NatAt w v3 q K 16777216) (hK : Nat.gcd N D ∣ K)
    (hgh : g ≠ h) (hgl : g < w.heap.size) (hhl : h < w.heap.size) (hcg : c ≠ g) (hch : c ≠ h) (hg : B ≤ g) (hh : B ≤ h) (hB : B ≤ w.heap.size) (hc : B ≤ c) (hD : 0 < D) (h1 : Nat.gcd N D ≠ 1) :
    Calls Tryz.prog 127 #[.pointer (some ⟨c, 0, none⟩)] w fun e w' => ∃ v, e = .returned v ∧ RatV w' v (f && N != 0) (N / Nat.gcd N D) (D / Nat.gcd N D) B 16777218 ∧ w.Since B w' := by
  have H1s := H1
  have H2s := H2
  obtain ⟨a, n, ca, X, rfl, n1, n2, n3, LX, FX, lX, pX, eX⟩ := H1
  obtain ⟨b, m, cb, Y, rfl, m1, m2, m3, LY, FY, lY, pY, eY⟩ := H2
  have hcl := Bx.lt
  have sA : w.Since w.heap.size (w.alloc (.cells #[.bool false, .slice none 0 0, .slice none 0 0] 61)) := (World.Since.refl _ _).alloc (Nat.le_refl _) _
  have rA := Box3.new w (.bool false) (.slice none 0 0) (.slice none 0 0) 61
  have bA := Bx.keep sA
  have tA := hT.stay hw sA
  have wA : 0 ≤ (w.alloc (.cells #[.bool false, .slice none 0 0, .slice none 0 0] 61)).heap.size := Nat.zero_le _
  have XA := LX.keep sA
  have YA := LY.keep sA
  obtain ⟨G, hG⟩ : ∃ G, G = Nat.gcd N D := ⟨_, rfl⟩
  have hG0 : 0 < G := by rw [hG]; exact Nat.gcd_pos_of_pos_right N hD
  have hGD : G ≤ D := by rw [hG]; exact Nat.gcd_le_right N hD
  have hGz := hide (div_gcd_zero (N := N) hD)
  rw [← hG] at hGz h1 ⊢
  go_enter Tryz.func127, Tryz.ntmps127
  go_wp2_with fail
  generalize w.alloc (.cells #[.bool false, .slice none 0 0, .slice none 0 0] 61) = w1 at *
  have J1 := common_any c f _ _ v3 g h q N D K w1 bA (H1s.keep sA) (H2s.keep sA) (H3.keep sA) hK
  rw [← hG] at J1
  have k0 := bA.c1
  have k1 := bA.c2
  have z1 := rA.lt
  have E := hide (And.intro lX (And.intro pX (And.intro lY pY)))
  clear lX pX lY pY hG
  refine J1.mono ?_
  rintro e w2 ⟨v4, g3, rfl, ⟨a3, k3, c3, Z, rfl, y1, y2, y3, L3, F3, l3, p3, e3⟩, hg3, S2⟩
  clear J1
  have b2 := bA.keep S2
  have r2 := rA.keep S2
  go_wp2_with fail
  have t3 : w2.Since w2.heap.size (w2.alloc (.cells #[.slice a3 k3 c3] 165)) := (World.Since.refl _ _).alloc (Nat.le_refl _) _
  have b3 := b2.keep t3
  have r3 := r2.keep t3
  have L4 := L3.keep t3
  have S3 := S2.trans (sinceMono t3 S2.size)
  have Q0 : (w2.alloc (.cells #[.slice a3 k3 c3] 165)).cell? ⟨w2.heap.size, 0, none⟩ = some (.slice a3 k3 c3) := by simp [go_sem]
  have hg1 : w1.heap.size ≤ g3 := hg3
  have hq1 : w1.heap.size ≤ w2.heap.size := S2.size
  generalize w2.alloc (.cells #[.slice a3 k3 c3] 165) = w3 at *
  generalize w2.heap.size = q at *
  have z0 : w.heap.size < w1.heap.size := rA.lt
  have SW : w.Since w.heap.size w3 := sA.trans (sinceMono S3 (by have := sA.size; omega))
  have hq2 : q < w3.heap.size := World.block_lt_of_cell? _ _ Q0
  have hk3 : 0 < k3 := by
    rcases Nat.eq_zero_or_pos k3 with e | e
    · subst e; rw [show lv Z 0 = 0 from rfl] at e3; omega
    · exact e
  have hkm : k3 ≤ m := by
    rcases Nat.lt_or_ge m k3 with hlt | hge
    · have := lv_short (A := Y) (B := Z) E.out.2.2.1 hlt p3; omega
    · exact hge
  have hg3l : g3 < w3.heap.size := L4.lt hk3
  have e4 : decide (lv Z k3 = 1) = false := by rw [e3]; simp [h1]
  have I1 := isOne_any q 0 a3 g3 0 k3 c3 Z w3 Q0 L4 l3 p3
  rw [e4] at I1
  clear e4
  have EZ := hide (And.intro l3 (And.intro p3 e3))
  clear l3 p3 e3
  refine I1.mono ?_
  rintro e w4 ⟨rfl, rfl⟩
  clear I1
  have N4 := (H1s.keep SW).drew
  have D4 := (H2s.keep SW).drew
  have X4 : Limbs w4.drew a g 0 n X := LX.keep (since_drew SW)
  have F4 : 0 < n → ∀ x, w4.drew.frozen? ⟨g, x, none⟩ = false := fun h0 x => ((since_drew SW).frozen (a := ⟨g, x, none⟩) hgl).trans (FX h0 x)
  have JD := divideBy_any c 1 a a3 g n ca g3 k3 c3 X Z w4.drew (by omega) n1 n3 hk3 (by omega) b3.drew.c1 (b3.drew.f 1) X4 L4.drew E.out.1 EZ.out.1 F4 hcg (fun _ => by show g < w4.heap.size; omega) E.out.2.1 (EZ.out.2.1 hk3)
  rw [eX, EZ.out.2.2] at JD
  have Q1 : w4.drew.cell? ⟨q, 0, none⟩ = some (.slice a3 k3 c3) := Q0
  have hqc : q ≠ c := by omega
  have hqg : q ≠ g := by omega
  have Q2 := Q0
  have zd : w4.drew.heap.size = w4.heap.size := rfl
  go_wp2
  go_region_held3 (fun w' => w'.cell? ⟨q, 0, none⟩ = some (.slice a3 k3 c3)) (go_keep)
    (first
      | (go_at_call 163
         with_reducible refine JD.mono ?_
         rintro e w5 ⟨vq, vr, gq, gr, rfl, cr, ⟨aq, nq, cq, U, rfl, u1, u2, u3, LU, FU, lU, pU, eU⟩, Nr, hq3, hr3, d1, d2, d3, Fq⟩
         have i1 : w5.cell? ⟨q, 0, none⟩ = some (.slice a3 k3 c3) := (World.cell?_of_block (w := w4.drew) (a := ⟨q, 0, none⟩) (Fq.block q hq2 hqc hqg)).trans Q1
         have fz : w5.frozen? ⟨c, 1, none⟩ = false := (Fq.frozen 1).trans (b3.f 1)
         have hcq : c ≠ q := by omega))
  have z5 := Fq.size
  have Nq : NatAt w5 (.slice aq nq cq) gq (N / G) 16777218 := ⟨aq, nq, cq, U, rfl, u1, by omega, u3, LU, FU, lU, pU, eU⟩
  have b5 : Box4 w5 c (.bool f) vr (.slice b m cb) v3 := ⟨(Fq.cell 0 (by decide)).trans b3.c0, cr, (Fq.cell 2 (by decide)).trans b3.c2, (Fq.cell 3 (by decide)).trans b3.c3, fun k => (Fq.frozen k).trans (b3.f k)⟩
  have b6 := b5.set1 (.slice aq nq cq)
  have M6 : Marked w5 (w5.setCell ⟨c, 1, none⟩ (.slice aq nq cq)) c := (Marked.refl w5 _).setCell _ _
  have r6 := (r3.drew.ofBlock (Fq.block w.heap.size (by show w.heap.size < w4.heap.size; omega) (by omega) (by omega))).marked M6 (by omega)
  have N6 := Nq.marked M6 d2
  have D6 := (D4.ofBlock (fun _ => Fq.block h (by show h < w4.heap.size; omega) (by omega) (by omega))).marked M6 (by omega)
  have L6 := (L4.drew.ofBlock (fun _ => Fq.block g3 hg3l (by omega) (by omega))).marked M6 (fun _ => by omega)
  have Q6 : (w5.setCell ⟨c, 1, none⟩ (.slice aq nq cq)).cell? ⟨q, 0, none⟩ = some (.slice a3 k3 c3) := (M6.cell (a := ⟨q, 0, none⟩) hqc).trans i1
  have z6 := M6.size
  have S6 : w.Since B (w5.setCell ⟨c, 1, none⟩ (.slice aq nq cq)) := by
    have s4 : w.Since B w4.drew := since_drew (sinceMono SW hB)
    have s5 : w4.drew.Since B w5 := ⟨Fq.os, Fq.tape, Fq.output, Fq.size, fun k hk => Fq.block k (by show k < w4.heap.size; omega) (by omega) (by omega)⟩
    exact (s4.trans s5).trans (M6.since hc)
  clear LU FU lU pU u1 u2 u3 b5 cr Nr N4 D4 L4 Q0 Q1 Q2 i1 fz
  go_wp2_with fail
  generalize w5.setCell ⟨c, 1, none⟩ (.slice aq nq cq) = w6 at *
  obtain ⟨b', m', cb', Y', ev, m1', m2', m3', LY6, FY6, lY6, pY6, eY6⟩ := D6
  obtain ⟨rfl, rfl, rfl⟩ : b' = b ∧ m' = m ∧ cb' = cb := by simp at ev; exact ⟨ev.1.symm, ev.2.1.symm, ev.2.2.symm⟩
  have JE := divideBy_any c 2 b' a3 h m' cb' g3 k3 c3 Y' Z w6.drew (by omega) m1' m3' hk3 (by omega) b6.drew.c2 (b6.drew.f 2) LY6.drew L6.drew lY6 EZ.out.1 FY6 hch (fun _ => by show h < w6.heap.size; omega) pY6 (EZ.out.2.1 hk3)
  rw [eY6, EZ.out.2.2] at JE
  clear lY6 pY6 eY6 ev LY6 FY6
  have hqh : q ≠ h := by omega
  have Q7 : w6.drew.cell? ⟨q, 0, none⟩ = some (.slice a3 k3 c3) := Q6
  have hq6 : q < w6.drew.heap.size := by show q < w6.heap.size; omega
  go_wp2
  go_region_held3 (fun w' => w'.cell? ⟨q, 0, none⟩ = some (.slice a3 k3 c3)) (go_keep)
    (first
      | (go_at_call 163
         with_reducible refine JE.mono ?_
         rintro e w7 ⟨vq, vr, gp, gs, rfl, cr, ⟨ap, np, cp, V, rfl, u1, u2, u3, LU, FU, lU, pU, eV⟩, Nr, hp3, hs3, d4, d5, d6, Fp⟩
         have i1 : w7.cell? ⟨q, 0, none⟩ = some (.slice a3 k3 c3) := (World.cell?_of_block (w := w6.drew) (a := ⟨q, 0, none⟩) (Fp.block q hq6 hqc hqh)).trans Q7
         have fz : w7.frozen? ⟨c, 2, none⟩ = false := (Fp.frozen 2).trans (b6.f 2)
         have hcq : c ≠ q := by omega))
  have z7 := Fp.size
  have zd6 : w6.drew.heap.size = w6.heap.size := rfl
  have Np : NatAt w7 (.slice ap np cp) gp (D / G) 16777218 := ⟨ap, np, cp, V, rfl, u1, by omega, u3, LU, FU, lU, pU, eV⟩
  have b7 : Box4 w7 c (.bool f) (.slice aq nq cq) vr v3 := ⟨(Fp.cell 0 (by decide)).trans b6.c0, (Fp.cell 1 (by decide)).trans b6.c1, cr, (Fp.cell 3 (by decide)).trans b6.c3, fun k => (Fp.frozen k).trans (b6.f k)⟩
  have b8 := b7.set2 (.slice ap np cp)
  have M8 : Marked w7 (w7.setCell ⟨c, 2, none⟩ (.slice ap np cp)) c := (Marked.refl w7 _).setCell _ _
  have r8 := (r6.drew.ofBlock (Fp.block w.heap.size (by show w.heap.size < w6.heap.size; omega) (by omega) (by omega))).marked M8 (by omega)
  have hqh2 : gq ≠ h := by omega
  have N8 := (N6.drew.ofBlock (fun hl => Fp.block gq hl d2 hqh2)).marked M8 d2
  have P8 := Np.marked M8 d5
  have z8 := M8.size
  have S8 : w.Since B (w7.setCell ⟨c, 2, none⟩ (.slice ap np cp)) := by
    have s7 : w6.drew.Since B w7 := ⟨Fp.os, Fp.tape, Fp.output, Fp.size, fun k hk => Fp.block k (by show k < w6.heap.size; omega) (by omega) (by omega)⟩
    exact ((since_drew S6).trans s7).trans (M8.since hc)
  have hnz : ((nq : Int) == 0) = !(N != 0) := by
    obtain ⟨a9, m9, c9, Y9, e9, -, -, -, -, -, -, p9, v9⟩ := N8
    have : m9 = nq := by simp at e9; exact e9.2.1.symm
    subst this
    have hN := (lv_zero p9)
    rw [v9, hGz.out] at hN
    rw [Bool.eq_iff_iff]; simp; omega
  have HZ := hide hnz
  clear hnz LU FU lU pU u1 u2 u3 b7 cr Nr Q6 Q7 i1 fz
  have hpl : gp = h ∨ w6.heap.size ≤ gp := hp3
  have gq1 : gq = g ∨ w4.heap.size ≤ gq := hq3
  obtain ⟨g', hg', hBg', hg'1, N9⟩ : ∃ g', g' ≠ gp ∧ B ≤ g' ∧ g' ≠ w.heap.size ∧ NatAt (w7.setCell ⟨c, 2, none⟩ (.slice ap np cp)) (.slice aq nq cq) g' (N / G) 16777218 := by
    rcases N6.place (gp + 1 + w.heap.size) with hl | hp
    · exact ⟨gq, by omega, by omega, by omega, N8⟩
    · refine ⟨gp + 1 + w.heap.size, by omega, by omega, by omega, ?_⟩
      rcases N8.place (gp + 1 + w.heap.size) with hl8 | hp8
      · obtain ⟨a9, m9, c9, Y9, e9, q1, q2, q3, L9, -, q5, q6, q7⟩ := hp
        obtain ⟨a8, m8, c8, Y8, e8, r1, r2, r3, L8, F8, r5, r6, r7⟩ := N8
        rcases Nat.eq_zero_or_pos m8 with e0 | e0
        · exact ⟨a8, m8, c8, Y8, e8, r1, r2, r3, fun j hj => absurd hj (by omega), fun hj => absurd hj (by omega), r5, r6, r7⟩
        · have e89 : m8 = m9 ∧ a8 = a9 := by rw [e8] at e9; simp at e9; exact ⟨e9.2.1, e9.1⟩
          have x8 := (L8 0 e0).1
          have x9 := (L9 0 (by omega)).1
          rw [e89.2, x9] at x8
          simp at x8
          rw [x8]
          exact ⟨a8, m8, c8, Y8, e8, r1, r2, r3, L8, F8, r5, r6, r7⟩
      · exact hp8
  clear N6 N8 hq3 hp3
  have hBp : B ≤ gp := by omega
  have hgp1 : gp ≠ w.heap.size := by omega
  go_wp2_with fail
  generalize w7.setCell ⟨c, 2, none⟩ (.slice ap np cp) = w8 at *
  have j0 := b8.c0
  have j1 := b8.c1
  have j2 := b8.c2
  have u0 := r8.c0
  have u1 := r8.c1
  have u2 := r8.c2
  have uf0 := r8.f 0
  have uf1 := r8.f 1
  have uf2 := r8.f 2
  have I2 := isZero_any c 1 aq nq cq w8.drew b8.drew.c1
  have hne : w.heap.size ≠ c := Nat.ne_of_gt hcl
  cases f
  · go_wp2
    first | go_region_held (fun w' => w'.cell? ⟨c, 0, none⟩ = some (.bool false) ∧ w'.cell? ⟨c, 1, none⟩ = some (.slice aq nq cq) ∧ w'.cell? ⟨c, 2, none⟩ = some (.slice ap np cp)) (go_keep) (fail) | fail
    all_goals go_wp2
    all_goals
      have r4 := ((r8.drew.set0 (.bool false)).set1 (.slice aq nq cq)).set2 (.slice ap np cp)
      refine bodyPost_ret (results_box3 rfl _ _ _ _ _ _ rfl r4) rfl ?_
      have M : Marked w8.drew _ w.heap.size := (((Marked.refl w8.drew _).setCell 0 (.bool false)).setCell 1 (.slice aq nq cq)).setCell 2 (.slice ap np cp)
      exact ⟨_, rfl, ⟨_, _, g', gp, rfl, N9.drew.marked M hg'1, P8.drew.marked M hgp1, hBg', hBp, hg'⟩, (since_drew S8).trans (M.since hB)⟩
  · go_wp2
    go_region_held3 (fun w' => w'.cell? ⟨c, 0, none⟩ = some (.bool true) ∧ w'.cell? ⟨c, 1, none⟩ = some (.slice aq nq cq) ∧ w'.cell? ⟨c, 2, none⟩ = some (.slice ap np cp)) (go_keep)
      (first | (go_at_call 126; with_reducible refine I2.mono ?_; rintro e w9 ⟨rfl, rfl⟩))
    all_goals go_wp2
    all_goals
      have r4 := ((r8.drew.set0 (.bool (!((nq : Int) == 0)))).set1 (.slice aq nq cq)).set2 (.slice ap np cp)
      refine bodyPost_ret (results_box3 rfl _ _ _ _ _ _ rfl r4) rfl ?_
      have M : Marked w8.drew _ w.heap.size := (((Marked.refl w8.drew _).setCell 0 (.bool (!((nq : Int) == 0)))).setCell 1 (.slice aq nq cq)).setCell 2 (.slice ap np cp)
      rw [HZ.out] at M ⊢
      exact ⟨_, rfl, ⟨_, _, g', gp, by simp, N9.drew.marked M hg'1, P8.drew.marked M hgp1, hBg', hBp, hg'⟩, (since_drew S8).trans (M.since hB)⟩

end Go.Proofs.YtnogbaapcjjngaaGreatDoor

namespace Go.Proofs.YtnogbaapcjjngaaGreatDoor
open Go.RowKit

end Go.Proofs.YtnogbaapcjjngaaGreatDoor

namespace Go.Proofs.YtnogbaapcjjngaaGreatDoor
open Go.RowKit

end Go.Proofs.YtnogbaapcjjngaaGreatDoor

namespace Go.Proofs.YtnogbaapcjjngaaGreatDoor
open Go.RowKit

end Go.Proofs.YtnogbaapcjjngaaGreatDoor

namespace Go.Proofs.YtnogbaapcjjngaaGreatDoor
open Go.RowKit

theorem normalise_any (c : Nat) (f : Bool) (v1 v2 v3 : Value) (g h q N D K B : Nat) (w : World) (hw : 0 ≤ w.heap.size) (hT : Tab w) (Bx : Box4 w c (.bool f) v1 v2 v3) (H1 : NatAt w v1 g N 16777216) (H2 : NatAt w v2 h D 16777216) (H3 : NatAt w v3 q K 16777216) (hK : Nat.gcd N D ∣ K)
    (hgh : g ≠ h) (hgl : g < w.heap.size) (hhl : h < w.heap.size) (hcg : c ≠ g) (hch : c ≠ h) (hg : B ≤ g) (hh : B ≤ h) (hB : B ≤ w.heap.size) (hc : B ≤ c) (hD : 0 < D) :
    Calls Tryz.prog 127 #[.pointer (some ⟨c, 0, none⟩)] w fun e w' => ∃ v, e = .returned v ∧ RatV w' v (f && N != 0) (N / Nat.gcd N D) (D / Nat.gcd N D) B 16777218 ∧ w.Since B w' := by
  by_cases h1 : Nat.gcd N D = 1
  · rw [h1, Nat.div_one, Nat.div_one]
    exact normalise_one c f v1 v2 v3 g h q N D K B w hw hT Bx H1 H2 H3 hK hgh hgl hhl hg hh hB hc h1
  · exact normalise_big c f v1 v2 v3 g h q N D K B w hw hT Bx H1 H2 H3 hK hgh hgl hhl hcg hch hg hh hB hc hD h1

end Go.Proofs.YtnogbaapcjjngaaGreatDoor

namespace Go.Proofs.YtnogbaapcjjngaaGreatDoor
open Go.RowKit

end Go.Proofs.YtnogbaapcjjngaaGreatDoor

namespace Go.Proofs.YtnogbaapcjjngaaGreatDoor
open Go.RowKit

/-- The limbs of a machine number. -/
def nl (v j : Nat) : Nat := v / 4294967296 ^ j % 4294967296

set_option maxHeartbeats 1600000 in
set_option maxRecDepth 100000 in
/-- l1Make of two trimmed lists of bits, the second not zero. -/
theorem l1Make_any (neg : Bool) (v1 v2 : Value) (n m : Nat) (A B : Nat → Bool) (w : World) (hn : n ≤ 1073741824) (hm : m ≤ 1073741824) (hA : Tr w v1 n A) (hB : Tr w v2 m B) (hD : 0 < bv B m) :
    Calls Tryz.prog 107 #[.bool neg, v1, v2] w fun e w' => ∃ v, e = .returned v ∧ RatV w' v (neg && bv A n != 0) (bv A n / Nat.gcd (bv A n) (bv B m)) (bv B m / Nat.gcd (bv A n) (bv B m)) w.heap.size 67108864 ∧ w.Since w.heap.size w' := by
  have hA' := hA
  have hB' := hB
  obtain ⟨a, ba, oa, ca, rfl, hca, LA, tA⟩ := hA
  obtain ⟨b, bb, ob, cb, rfl, hcb, LB, tB⟩ := hB
  have sA : w.Since w.heap.size (w.alloc (.cells #[.bool false, .slice none 0 0, .slice none 0 0] 61)) := (World.Since.refl _ _).alloc (Nat.le_refl _) _
  have rA := Box3.new w (.bool false) (.slice none 0 0) (.slice none 0 0) 61
  by_cases h0 : n = 0
  · subst h0
    have e0 : bv A 0 = 0 := rfl
    rw [e0]
    have e1 : bv B m / Nat.gcd 0 (bv B m) = 1 := by rw [Nat.gcd_zero_left]; exact Nat.div_self hD
    rw [show (neg && (0 : Nat) != 0) = false by simp, Nat.zero_div, e1]
    clear e1 e0 tA tB hD hA' hB'
    go_enter Tryz.func107, Tryz.ntmps107
    go_wp2_with fail
    generalize (w.alloc (.cells #[.bool false, .slice none 0 0, .slice none 0 0] 61)) = w1 at *
    refine (l1Zero_any w1).mono ?_
    rintro e w2 ⟨v, rfl, ⟨v1, v2, g, h, rfl, N1, N2, b1, b2, ne⟩, s2⟩
    have rB := rA.keep s2
    have hz := rA.lt
    have N1' := N1
    have N2' := N2
    obtain ⟨a1, m1, c1, Y1, rfl, -⟩ := N1
    obtain ⟨a2, m2, c2, Y2, rfl, -⟩ := N2
    have u0 := rB.c0
    have u1 := rB.c1
    have u2 := rB.c2
    have uf0 := rB.f 0
    have uf1 := rB.f 1
    have uf2 := rB.f 2
    go_wp2
    have r4 := ((rB.set0 (.bool false)).set1 (.slice a1 m1 c1)).set2 (.slice a2 m2 c2)
    refine bodyPost_ret (results_box3 rfl _ _ _ _ _ _ rfl r4) rfl ?_
    have M : Marked w2 _ w.heap.size := (((Marked.refl w2 _).setCell 0 (.bool false)).setCell 1 (.slice a1 m1 c1)).setCell 2 (.slice a2 m2 c2)
    exact ⟨_, rfl, ⟨_, _, g, h, rfl, N1'.marked M (by omega), N2'.marked M (by omega), by omega, by omega, ne⟩, (sA.trans (sinceMono s2 sA.size)).trans (M.since (Nat.le_refl _))⟩
  · have hne : ((n : Int) == 0) = false := by simp; omega
    have hpos : 0 < bv A n := bv_pos (by omega) (tA (by omega))
    have hb : (neg && bv A n != 0) = neg := by
      have h9 : bv A n ≠ 0 := by omega
      simp [h9]
    rw [hb]
    obtain ⟨G, hG⟩ : ∃ G, G = Nat.gcd (bv A n) (bv B m) := ⟨_, rfl⟩
    have hG0 : 0 < G := by rw [hG]; exact Nat.gcd_pos_of_pos_right _ hD
    have hGl : G ≤ bv B m := by rw [hG]; exact Nat.gcd_le_right _ hD
    have hGA : G ≤ bv A n := by rw [hG]; exact Nat.gcd_le_left _ hpos
    rw [← hG]
    clear hb
    go_enter Tryz.func107, Tryz.ntmps107
    go_wp2_with fail
    generalize (w.alloc (.cells #[.bool false, .slice none 0 0, .slice none 0 0] 61)) = w1 at *
    refine (l1GcdBits_any _ _ n m A B w1 hn hm (hA'.keep sA) (hB'.keep sA)).mono ?_
    rintro e w2 ⟨v3, t, O, rfl, ht, T3, e3, s2⟩
    rw [← hG] at e3
    obtain ⟨a3, b3, o3, c3, rfl, hc3, L3, p3⟩ := T3
    have S2 : w.Since w.heap.size w2 := sA.trans (sinceMono s2 sA.size)
    have htm : t ≤ m := bv_len p3 (by rw [e3]; exact hGl)
    clear hG hA' hB'
    go_wp2_with fail
    refine (l1DivBits_any a a3 ba oa n ca b3 o3 t c3 A O w2 (by omega) (by omega) (LA.keep S2) L3 p3 (by rw [e3]; exact hG0)).mono ?_
    rintro e w3 ⟨gq, tq, cq, Q, gr, tr, cr, R, rfl, q1, q2, q3, q4, LQ, -, q5, q6, q7, q8, eQ, -, s3⟩
    have S3 : w.Since w.heap.size w3 := S2.trans (sinceMono s3 S2.size)
    go_wp2_with fail
    refine (l1DivBits_any b a3 bb ob m cb b3 o3 t c3 B O w3 (by omega) (by omega) (LB.keep S3) (L3.keep s3) p3 (by rw [e3]; exact hG0)).mono ?_
    rintro e w4 ⟨gp, tp, cp, Q', gs, ts, cs, R', rfl, p1, p2, p3', p4, LP, -, p5, p6, p7, p8, eP, -, s4⟩
    have S4 : w.Since w.heap.size w4 := S3.trans (sinceMono s4 S3.size)
    have rB := ((rA.keep s2).keep s3).keep s4
    rw [e3] at eQ eP
    have EE := hide (And.intro (eQ.trans rfl) (And.intro eP (And.intro (Nat.div_pos hGA hG0) (Nat.div_pos hGl hG0))))
    clear eQ eP e3 q7 q8 p7 p8 p3 hpos tA tB hD hG0 hGl hGA
    go_wp2_with fail
    refine (l1Limbs_any _ gq 0 tq cq Q w4 (by omega) q1 (LQ.keep s4)).mono ?_
    rintro e w5 ⟨a5, g5, m5, c5, Y5, rfl, x1, x2, L5, x3, F5, l5, y5, e5, s5⟩
    go_wp2_with fail
    refine (l1Limbs_any _ gp 0 tp cp Q' w5 (by omega) p1 (LP.keep s5)).mono ?_
    rintro e w6 ⟨a6, g6, m6, c6, Y6, rfl, z1, z2, L6, z3, F6, l6, y6, e6, s6⟩
    have rC := (rB.keep s5).keep s6
    have u0 := rC.c0
    have u1 := rC.c1
    have u2 := rC.c2
    have uf0 := rC.f 0
    have uf1 := rC.f 1
    have uf2 := rC.f 2
    have hz := rB.lt
    have b5 := s5.size
    have b6 := s6.size
    have EF := hide (And.intro l5 (And.intro y5 (And.intro e5 (And.intro l6 (And.intro y6 e6)))))
    clear l5 y5 e5 l6 y6 e6
    go_wp2
    obtain ⟨l5, y5, e5, l6, y6, e6⟩ := EF.out
    obtain ⟨f1, f2, f3, f4⟩ := EE.out
    have k5 : 0 < m5 := by
      rcases Nat.eq_zero_or_pos m5 with h | h
      · subst h; rw [show lv Y5 0 = 0 from rfl] at e5; omega
      · exact h
    have k6 : 0 < m6 := by
      rcases Nat.eq_zero_or_pos m6 with h | h
      · subst h; rw [show lv Y6 0 = 0 from rfl] at e6; omega
      · exact h
    have N5 : NatAt w5 (.slice a5 m5 c5) g5 (bv A n / G) 67108864 := ⟨a5, m5, c5, Y5, rfl, x1, by omega, fun h => (by rw [(L5 0 k5).1] at h; cases h), L5, F5, fun j _ => l5 j, y5, e5.trans f1⟩
    have N6 : NatAt w6 (.slice a6 m6 c6) g6 (bv B m / G) 67108864 := ⟨a6, m6, c6, Y6, rfl, z1, by omega, fun h => (by rw [(L6 0 k6).1] at h; cases h), L6, F6, fun j _ => l6 j, y6, e6.trans f2⟩
    have g5l := L5.lt k5
    have x3' := x3 k5
    have z3' := z3 k6
    have r4 := ((rC.set0 (.bool neg)).set1 (.slice a5 m5 c5)).set2 (.slice a6 m6 c6)
    refine bodyPost_ret (results_box3 rfl _ _ _ _ _ _ rfl r4) rfl ?_
    have M : Marked w6 _ w.heap.size := (((Marked.refl w6 _).setCell 0 (.bool neg)).setCell 1 (.slice a5 m5 c5)).setCell 2 (.slice a6 m6 c6)
    exact ⟨_, rfl, ⟨_, _, g5, g6, rfl, (N5.keep s6).marked M (by omega), N6.marked M (by omega), by have := S4.size; omega, by have := S4.size; omega, by omega⟩, ((S4.trans (sinceMono s5 S4.size)).trans (sinceMono s6 (Nat.le_trans S4.size b5))).trans (M.since (Nat.le_refl _))⟩

end Go.Proofs.YtnogbaapcjjngaaGreatDoor

namespace Go.Proofs.YtnogbaapcjjngaaGreatDoor
open Go.RowKit

end Go.Proofs.YtnogbaapcjjngaaGreatDoor

namespace Go.Proofs.YtnogbaapcjjngaaGreatDoor
open Go.RowKit

end Go.Proofs.YtnogbaapcjjngaaGreatDoor

namespace Go.Proofs.YtnogbaapcjjngaaGreatDoor
open Go.RowKit

end Go.Proofs.YtnogbaapcjjngaaGreatDoor

namespace Go.Proofs.YtnogbaapcjjngaaGreatDoor
open Go.RowKit

end Go.Proofs.YtnogbaapcjjngaaGreatDoor
