import Derived.Test.YtnogbaapcjjngaaGreatDoorOwnP19
import Derived.Deep.RegionHeld
import Derived.Deep.RegionWith
import Derived.Test.YtnogbaapcjjngaaGreatDoorOwnP20
set_option maxHeartbeats 6400000
set_option maxRecDepth 100000
namespace Go.Proofs.YtnogbaapcjjngaaGreatDoor
open Go.RowKit
theorem gcd_shared {N D K : Nat} (h : Nat.gcd N D ∣ K) : Nat.gcd (Nat.gcd K N) D = Nat.gcd N D := by
 rw [Nat.gcd_assoc]; exact Nat.gcd_eq_right h
theorem common_any (c : Nat) (f : Bool) (v1 v2 v3 : Value) (g h q N D K : Nat) (w : World) (Bx : Box4 w c (.bool f) v1 v2 v3) (H1 : xj0 w v1 g N 16777216) (H2 : xj0 w v2 h D 16777216) (H3 : xj0 w v3 q K 16777216) (hK : Nat.gcd N D ∣ K) :
 Calls Tryz.prog 162 #[.pointer (some ⟨c, 0, none⟩)] w fun e w' => ∃ v g, e = .returned v /\ xj0 w' v g (Nat.gcd N D) 67108864 /\ w.heap.size <= g /\ w.Since w.heap.size w' := by
 obtain ⟨a, n, ca, X, rfl, n1, n2, n3, LX, FX, lX, pX, eX⟩ := H1; obtain ⟨b, m, cb, Y, rfl, m1, m2, m3, LY, FY, lY, pY, eY⟩ := H2; obtain ⟨d, k, cd, Z, rfl, k1, k2, k3, LZ, FZ, lZ, pZ, eZ⟩ := H3; have b1 := Bx.c1; have b2 := Bx.c2; have b3 := Bx.c3; have I2 := xz4 c 2 b h 0 m cb Y w b2 LY lY pY; have I3 := xz4 c 3 d q 0 k cd Z w b3 LZ lZ pZ; rw [eY] at I2; rw [eZ] at I3; have sA := sal w (.cells #[.int .u32 1] 159)
 by_cases hD : D = 1
 . have hG : Nat.gcd N D = 1 := by rw [hD]; exact Nat.gcd_one_right N
   rw [hG]; rw [show decide (D = 1) = true by simp [hD]] at I2; clear I3 lX lY lZ pX pY pZ; go_enter Tryz.func162, Tryz.ntmps162; go_wp2_with fail; refine I2.mono ?_; rintro e w1 ⟨rfl, rfl⟩; go_wp2; go_ret; exact ⟨_, _, rfl, yx4 w1, Nat.le_refl _, sA⟩
 . rw [show decide (D = 1) = false by simp [hD]] at I2
   by_cases hK1 : K = 1
   . have hG : Nat.gcd N D = 1 := by rw [hK1] at hK; exact Nat.dvd_one.1 hK
     rw [hG]; rw [show decide (K = 1) = true by simp [hK1]] at I3; clear lX lY lZ pX pY pZ; go_enter Tryz.func162, Tryz.ntmps162; go_wp2_with fail; refine I2.mono ?_; rintro e w1 ⟨rfl, hw1⟩; rw [hw1]; clear hw1 w1; go_wp2_with fail; refine I3.mono ?_; rintro e w1 ⟨rfl, rfl⟩; go_wp2; go_ret; exact ⟨_, _, rfl, yx4 w1, Nat.le_refl _, sA⟩
   . rw [show decide (K = 1) = false by simp [hK1]] at I3
     have J1 := yx6 d a q 0 k cd g 0 n ca Z X w.drew (Nat.zero_le _) k2 n2 k1 n1 k3 n3 LZ LX lZ lX pZ pX trivial; have HX := hide (And.intro lX pX); have HY := hide (And.intro lY pY); have HZ := hide (And.intro lZ pZ); have HG := hide (gcd_shared hK); have EX := hide eX; have EY := hide eY; have EZ := hide eZ; have dr : w.Since w.heap.size w.drew := xq6 (World.Since.refl _ _); clear lX lY lZ pX pY pZ eX eY eZ hK sA; go_enter Tryz.func162, Tryz.ntmps162; go_wp2_with fail; refine I2.mono ?_; rintro e w1 ⟨rfl, hw1⟩; rw [hw1]; clear hw1 w1; go_wp2_with fail; refine I3.mono ?_; rintro e w1 ⟨rfl, hw1⟩; rw [hw1]; clear hw1 w1 I2 I3; go_wp2
     go_region_held3 (fun w' => w'.cell? ⟨c, 1, none⟩ = some (.slice a n ca) /\ w'.cell? ⟨c, 2, none⟩ = some (.slice b m cb) /\ w'.cell? ⟨c, 3, none⟩ = some (.slice d k cd)) (go_keep)
      (first
        | (go_at_call 141
           with_reducible refine J1.mono ?_
           rintro e w2 ⟨v4, g4, rfl, ⟨a4, n4, c4, Z4, rfl, y1, y2, y3, L4, F4, l4, p4, e4⟩, hg4, s4⟩; have S4 := dr.trans (sM s4 dr.size); have B4 := Bx.keep S4; have i1 := B4.c1; have i2 := B4.c2; have i3 := B4.c3
           have hn4 : n4 <= 16777216 := by
            rw [EZ.out, EX.out] at e4
            by_cases hN0 : N = 0
            . have h5 : lv Z4 n4 <= lv Z k := by rw [e4, EZ.out, hN0, Nat.gcd_zero_right]; exact Nat.le_refl _
              have := xv1 HZ.out.1 p4 h5; omega
            . have h5 : lv Z4 n4 <= lv X n := by rw [e4, EX.out]; exact Nat.gcd_le_right _ (by omega)
              have := xv1 HX.out.1 p4 h5; omega
           have J2 := yx6 a4 b g4 0 n4 c4 h 0 m cb Z4 Y w2 (Nat.zero_le _) hn4 m2 y1 m1 y3 m3 L4 (LY.keep S4) l4 HY.out.1 p4 HY.out.2 trivial)
        | (go_at_call 141
           with_reducible refine J2.mono ?_
           rintro e w3 ⟨v5, g5, rfl, N5, hg5, s5⟩; have S5 := S4.trans (sM s5 S4.size); have B5 := Bx.keep S5; have i1 := B5.c1; have i2 := B5.c2; have i3 := B5.c3))
     rw [e4, EY.out, EZ.out, EX.out, HG.out] at N5; go_wp2; go_ret; exact ⟨_, g5, rfl, N5, Nat.le_trans S4.size hg5, S5⟩
theorem Tab.oth {w w' : World} {c : Nat} (_h : Tab w) (_hw : 0 <= w.heap.size) (_hc : 0 <= c) (_s : Oth c w w') : Tab w' := trivial
theorem Tab.stay {w w' : World} (h : Tab w) (hw : 0 <= w.heap.size) (s : w.Since w.heap.size w') : Tab w' := h.oth (c := w.heap.size) hw (by omega) (Oth.ofSince _ s)
theorem normalise_one (c : Nat) (f : Bool) (v1 v2 v3 : Value) (g h q N D K B : Nat) (w : World) (hw : 0 <= w.heap.size) (hT : Tab w) (Bx : Box4 w c (.bool f) v1 v2 v3) (H1 : xj0 w v1 g N 16777216) (H2 : xj0 w v2 h D 16777216) (H3 : xj0 w v3 q K 16777216) (hK : Nat.gcd N D ∣ K)
 (hgh : g ≠ h) (hgl : g < w.heap.size) (hhl : h < w.heap.size) (hg : B <= g) (hh : B <= h) (hB : B <= w.heap.size) (_hc : B <= c) (h1 : Nat.gcd N D = 1) :
 Calls Tryz.prog 127 #[.pointer (some ⟨c, 0, none⟩)] w fun e w' => ∃ v, e = .returned v /\ RatV w' v (f && N != 0) N D B 16777218 /\ w.Since B w' := by
 have H1s := H1; have H2s := H2; obtain ⟨a, n, ca, X, rfl, n1, n2, n3, LX, FX, lX, pX, eX⟩ := H1; obtain ⟨b, m, cb, Y, rfl, m1, m2, m3, LY, FY, lY, pY, eY⟩ := H2; have hcl := Bx.lt; have sA := sal w (.cells #[.bool false, .slice none 0 0, .slice none 0 0] 61); have rA := Box3.new w (.bool false) (.slice none 0 0) (.slice none 0 0) 61; have bA := Bx.keep sA; have tA := hT.stay hw sA; have wA : 0 <= (w.alloc (.cells #[.bool false, .slice none 0 0, .slice none 0 0] 61)).heap.size := Nat.zero_le _; have XA := LX.keep sA; have YA := LY.keep sA; go_enter Tryz.func127, Tryz.ntmps127; go_wp2_with fail; generalize w.alloc (.cells #[.bool false, .slice none 0 0, .slice none 0 0] 61) = w1 at *; have J1 := common_any c f _ _ v3 g h q N D K w1 bA (H1s.keep sA) (H2s.keep sA) (H3.keep sA) hK; rw [h1] at J1; have k0 := bA.c1; have k1 := bA.c2; have z1 := rA.lt; have E := hide (And.intro lX (And.intro pX (And.intro lY pY))); clear lX pX lY pY; refine J1.mono ?_; rintro e w2 ⟨v4, g3, rfl, ⟨a3, k3, c3, Z, rfl, y1, y2, y3, L3, F3, l3, p3, e3⟩, hg3, S2⟩; clear J1; have b2 := bA.keep S2; have r2 := rA.keep S2; go_wp2_with fail; have t3 := sal w2 (.cells #[.slice a3 k3 c3] 165); have b3 := b2.keep t3; have r3 := r2.keep t3; have L4 := L3.keep t3; have S3 := S2.trans (sM t3 S2.size); have Q0 : (w2.alloc (.cells #[.slice a3 k3 c3] 165)).cell? ⟨w2.heap.size, 0, none⟩ = some (.slice a3 k3 c3) := by simp [go_sem]
 generalize w2.alloc (.cells #[.slice a3 k3 c3] 165) = w3 at *; generalize w2.heap.size = q at *; have SW := sA.trans (sM S3 (by have := sA.size; omega)); have N4 := (H1s.keep SW).more (show 16777216 <= 16777218 by omega); have D4 := (H2s.keep SW).more (show 16777216 <= 16777218 by omega); have S4 : w.Since B w3.drew := xq6 (sM SW hB); have hg4 : g ≠ w.heap.size := by omega
 have hh4 : h ≠ w.heap.size := by omega
 have hnz : ((n : Int) == 0) = !(N != 0) := by
  have hN : n = 0 ↔ N = 0 := by
   rw [<- eX]
   constructor
   . intro h; rw [h]; rfl
   . intro h
     rcases Nat.eq_zero_or_pos n with e | e
     . exact e
     . have := lv_ge X n e (E.out.2.1 e); have := Nat.pow_pos (n := 32 * (n - 1)) (show 0 < 2 by omega); omega
  rw [Bool.eq_iff_iff]; simp; omega
 have HZ := hide hnz; clear hnz; have e4 : decide (lv Z k3 = 1) = true := by simp [e3]
 have I1 := xz4 q 0 a3 g3 0 k3 c3 Z w3 Q0 L4 l3 p3; rw [e4] at I1; clear e4 e3 l3 p3; refine I1.mono ?_; rintro e w4 ⟨rfl, rfl⟩; clear I1; have j0 := b3.c0; have j1 := b3.c1; have j2 := b3.c2; have u0 := r3.c0; have u1 := r3.c1; have u2 := r3.c2; have uf0 := r3.f 0; have uf1 := r3.f 1; have uf2 := r3.f 2; have I2 := xk9 c 1 a n ca w4.drew b3.drew.c1; have hne : w.heap.size ≠ c := Nat.ne_of_gt hcl; cases f
 . go_wp2
   first | go_region_held (fun w' => w'.cell? ⟨c, 0, none⟩ = some (.bool false) /\ w'.cell? ⟨c, 1, none⟩ = some (.slice a n ca) /\ w'.cell? ⟨c, 2, none⟩ = some (.slice b m cb)) (go_keep) (fail) | fail
   all_goals go_wp2
   all_goals
    have r4 := ((r3.drew.set0 (.bool false)).set1 (.slice a n ca)).set2 (.slice b m cb); refine bodyPost_ret (rb3 rfl _ _ _ _ _ _ rfl r4) rfl ?_; have M : xq0 w4.drew _ w.heap.size := (((xq0.refl w4.drew _).setCell 0 (.bool false)).setCell 1 (.slice a n ca)).setCell 2 (.slice b m cb); exact ⟨_, rfl, ⟨_, _, g, h, rfl, N4.drew.marked M hg4, D4.drew.marked M hh4, hg, hh, hgh⟩, S4.trans (M.since hB)⟩
 . go_wp2
   go_region_held3 (fun w' => w'.cell? ⟨c, 0, none⟩ = some (.bool true) /\ w'.cell? ⟨c, 1, none⟩ = some (.slice a n ca) /\ w'.cell? ⟨c, 2, none⟩ = some (.slice b m cb)) (go_keep)
    (first | (go_at_call 126; with_reducible refine I2.mono ?_; rintro e w5 ⟨rfl, rfl⟩))
   all_goals go_wp2
   all_goals
    have r4 := ((r3.drew.set0 (.bool (!((n : Int) == 0)))).set1 (.slice a n ca)).set2 (.slice b m cb); refine bodyPost_ret (rb3 rfl _ _ _ _ _ _ rfl r4) rfl ?_; have M : xq0 w4.drew _ w.heap.size := (((xq0.refl w4.drew _).setCell 0 (.bool (!((n : Int) == 0)))).setCell 1 (.slice a n ca)).setCell 2 (.slice b m cb); rw [HZ.out] at M ⊢; exact ⟨_, rfl, ⟨_, _, g, h, by simp, N4.drew.marked M hg4, D4.drew.marked M hh4, hg, hh, hgh⟩, S4.trans (M.since hB)⟩
section
variable {w w' : World} {a : Option Addr} {d g off n N M : Nat} {X : Nat -> Nat} {v x y z : Value}
theorem Box4.ofBlock {u : Value} (h : Box4 w d x y z u) (e : w'.heap[d]? = w.heap[d]?) : Box4 w' d x y z u :=
 ⟨(World.cell?_of_block (w := w) (a := ⟨d, 0, none⟩) e).trans h.c0, (World.cell?_of_block (w := w) (a := ⟨d, 1, none⟩) e).trans h.c1, (World.cell?_of_block (w := w) (a := ⟨d, 2, none⟩) e).trans h.c2, (World.cell?_of_block (w := w) (a := ⟨d, 3, none⟩) e).trans h.c3, fun k => (World.frozen?_of_block (w := w) (a := ⟨d, k, none⟩) e).trans (h.f k)⟩
theorem Box3.ofBlock (h : Box3 w d x y z) (e : w'.heap[d]? = w.heap[d]?) : Box3 w' d x y z :=
 ⟨(World.cell?_of_block (w := w) (a := ⟨d, 0, none⟩) e).trans h.c0, (World.cell?_of_block (w := w) (a := ⟨d, 1, none⟩) e).trans h.c1, (World.cell?_of_block (w := w) (a := ⟨d, 2, none⟩) e).trans h.c2, fun k => (World.frozen?_of_block (w := w) (a := ⟨d, k, none⟩) e).trans (h.f k)⟩
theorem xq1.ofBlock (h : xq1 w a g off n X) (e : 0 < n -> w'.heap[g]? = w.heap[g]?) : xq1 w' a g off n X :=
 fun j hj => ⟨(h j hj).1, (World.cell?_of_block (w := w) (a := ⟨g, off + j, none⟩) (e (by omega))).trans (h j hj).2⟩
theorem xj0.ofBlock (h : xj0 w v g N M) (e : g < w.heap.size -> w'.heap[g]? = w.heap[g]?) : xj0 w' v g N M := by
 obtain ⟨a, m, cap, Y, h1, h2, h3, h4, h5, h6, h7, h8, h9⟩ := h; exact ⟨a, m, cap, Y, h1, h2, h3, h4, h5.ofBlock (fun h0 => e (h5.lt h0)), fun h0 o => (World.frozen?_of_block (w := w) (a := ⟨g, o, none⟩) (e (h5.lt h0))).trans (h6 h0 o), h7, h8, h9⟩
theorem xj0.place (h : xj0 w v g N M) (g' : Nat) : g < w.heap.size ∨ xj0 w v g' N M := by
 obtain ⟨a, m, cap, Y, h1, h2, h3, h4, h5, h6, h7, h8, h9⟩ := h
 rcases Nat.eq_zero_or_pos m with e | e
 . subst e
   exact Or.inr ⟨a, 0, cap, Y, h1, h2, h3, h4, fun j hj => absurd hj (by omega), fun h => absurd h (by omega), h7, h8, h9⟩
 . exact Or.inl (h5.lt e)
end
theorem xw4 {X : Nat -> Nat} {n : Nat} (p : 0 < n -> X (n - 1) ≠ 0) : n = 0 ↔ lv X n = 0 := by
 constructor
 . intro h; rw [h]; rfl
 . intro h
   rcases Nat.eq_zero_or_pos n with e | e
   . exact e
   . have := lv_ge X n e (p e); have := Nat.pow_pos (n := 32 * (n - 1)) (show 0 < 2 by omega); omega
theorem div_gcd_zero {N D : Nat} (hD : 0 < D) : N / Nat.gcd N D = 0 ↔ N = 0 := by
 have hG : 0 < Nat.gcd N D := Nat.gcd_pos_of_pos_right N hD
 constructor
 . intro h
   rcases Nat.eq_zero_or_pos N with e | e
   . exact e
   . have := Nat.div_pos (Nat.gcd_le_left D e) hG; omega
 . intro h; rw [h]; exact Nat.zero_div _
theorem normalise_big (c : Nat) (f : Bool) (v1 v2 v3 : Value) (g h q N D K B : Nat) (w : World) (hw : 0 <= w.heap.size) (hT : Tab w) (Bx : Box4 w c (.bool f) v1 v2 v3) (H1 : xj0 w v1 g N 16777216) (H2 : xj0 w v2 h D 16777216) (H3 : xj0 w v3 q K 16777216) (hK : Nat.gcd N D ∣ K)
 (hgh : g ≠ h) (hgl : g < w.heap.size) (hhl : h < w.heap.size) (hcg : c ≠ g) (hch : c ≠ h) (hg : B <= g) (hh : B <= h) (hB : B <= w.heap.size) (hc : B <= c) (hD : 0 < D) (h1 : Nat.gcd N D ≠ 1) :
 Calls Tryz.prog 127 #[.pointer (some ⟨c, 0, none⟩)] w fun e w' => ∃ v, e = .returned v /\ RatV w' v (f && N != 0) (N / Nat.gcd N D) (D / Nat.gcd N D) B 16777218 /\ w.Since B w' := by
 have H1s := H1; have H2s := H2; obtain ⟨a, n, ca, X, rfl, n1, n2, n3, LX, FX, lX, pX, eX⟩ := H1; obtain ⟨b, m, cb, Y, rfl, m1, m2, m3, LY, FY, lY, pY, eY⟩ := H2; have hcl := Bx.lt; have sA := sal w (.cells #[.bool false, .slice none 0 0, .slice none 0 0] 61); have rA := Box3.new w (.bool false) (.slice none 0 0) (.slice none 0 0) 61; have bA := Bx.keep sA; have tA := hT.stay hw sA; have wA : 0 <= (w.alloc (.cells #[.bool false, .slice none 0 0, .slice none 0 0] 61)).heap.size := Nat.zero_le _; have XA := LX.keep sA; have YA := LY.keep sA; obtain ⟨G, hG⟩ : ∃ G, G = Nat.gcd N D := ⟨_, rfl⟩; have hG0 : 0 < G := by rw [hG]; exact Nat.gcd_pos_of_pos_right N hD
 have hGD : G <= D := by rw [hG]; exact Nat.gcd_le_right N hD
 have hGz := hide (div_gcd_zero (N := N) hD); rw [<- hG] at hGz h1 ⊢; go_enter Tryz.func127, Tryz.ntmps127; go_wp2_with fail; generalize w.alloc (.cells #[.bool false, .slice none 0 0, .slice none 0 0] 61) = w1 at *; have J1 := common_any c f _ _ v3 g h q N D K w1 bA (H1s.keep sA) (H2s.keep sA) (H3.keep sA) hK; rw [<- hG] at J1; have k0 := bA.c1; have k1 := bA.c2; have z1 := rA.lt; have E := hide (And.intro lX (And.intro pX (And.intro lY pY))); clear lX pX lY pY hG; refine J1.mono ?_; rintro e w2 ⟨v4, g3, rfl, ⟨a3, k3, c3, Z, rfl, y1, y2, y3, L3, F3, l3, p3, e3⟩, hg3, S2⟩; clear J1; have b2 := bA.keep S2; have r2 := rA.keep S2; go_wp2_with fail; have t3 := sal w2 (.cells #[.slice a3 k3 c3] 165); have b3 := b2.keep t3; have r3 := r2.keep t3; have L4 := L3.keep t3; have S3 := S2.trans (sM t3 S2.size); have Q0 : (w2.alloc (.cells #[.slice a3 k3 c3] 165)).cell? ⟨w2.heap.size, 0, none⟩ = some (.slice a3 k3 c3) := by simp [go_sem]
 have hg1 : w1.heap.size <= g3 := hg3; have hq1 : w1.heap.size <= w2.heap.size := S2.size; generalize w2.alloc (.cells #[.slice a3 k3 c3] 165) = w3 at *; generalize w2.heap.size = q at *; have z0 : w.heap.size < w1.heap.size := rA.lt; have SW := sA.trans (sM S3 (by have := sA.size; omega)); have hq2 : q < w3.heap.size := World.block_lt_of_cell? _ _ Q0
 have hk3 : 0 < k3 := by
  rcases Nat.eq_zero_or_pos k3 with e | e
  . subst e; rw [show lv Z 0 = 0 from rfl] at e3; omega
  . exact e
 have hkm : k3 <= m := by
  rcases Nat.lt_or_ge m k3 with hlt | hge
  . have := yz5 (A := Y) (B := Z) E.out.2.2.1 hlt p3; omega
  . exact hge
 have hg3l : g3 < w3.heap.size := L4.lt hk3; have e4 : decide (lv Z k3 = 1) = false := by rw [e3]; simp [h1]
 have I1 := xz4 q 0 a3 g3 0 k3 c3 Z w3 Q0 L4 l3 p3; rw [e4] at I1; clear e4; have EZ := hide (And.intro l3 (And.intro p3 e3)); clear l3 p3 e3; refine I1.mono ?_; rintro e w4 ⟨rfl, rfl⟩; clear I1; have N4 := (H1s.keep SW).drew; have D4 := (H2s.keep SW).drew; have X4 : xq1 w4.drew a g 0 n X := LX.keep (xq6 SW); have F4 : 0 < n -> ∀ x, w4.drew.frozen? ⟨g, x, none⟩ = false := fun h0 x => ((xq6 SW).frozen (a := ⟨g, x, none⟩) hgl).trans (FX h0 x)
 have JD := yz7 c 1 a a3 g n ca g3 k3 c3 X Z w4.drew (by omega) n1 n3 hk3 (by omega) b3.drew.c1 (b3.drew.f 1) X4 L4.drew E.out.1 EZ.out.1 F4 hcg (fun _ => by show g < w4.heap.size; omega) E.out.2.1 (EZ.out.2.1 hk3); rw [eX, EZ.out.2.2] at JD; have Q1 : w4.drew.cell? ⟨q, 0, none⟩ = some (.slice a3 k3 c3) := Q0; have hqc : q ≠ c := by omega
 have hqg : q ≠ g := by omega
 have Q2 := Q0; have zd : w4.drew.heap.size = w4.heap.size := rfl; go_wp2
 go_region_held3 (fun w' => w'.cell? ⟨q, 0, none⟩ = some (.slice a3 k3 c3)) (go_keep)
  (first
    | (go_at_call 163
       with_reducible refine JD.mono ?_
       rintro e w5 ⟨vq, vr, gq, gr, rfl, cr, ⟨aq, nq, cq, U, rfl, u1, u2, u3, LU, FU, lU, pU, eU⟩, Nr, hq3, hr3, d1, d2, d3, Fq⟩; have i1 : w5.cell? ⟨q, 0, none⟩ = some (.slice a3 k3 c3) := (World.cell?_of_block (w := w4.drew) (a := ⟨q, 0, none⟩) (Fq.block q hq2 hqc hqg)).trans Q1; have fz : w5.frozen? ⟨c, 1, none⟩ = false := (Fq.frozen 1).trans (b3.f 1); have hcq : c ≠ q := by omega))
 have z5 := Fq.size; have Nq : xj0 w5 (.slice aq nq cq) gq (N / G) 16777218 := ⟨aq, nq, cq, U, rfl, u1, by omega, u3, LU, FU, lU, pU, eU⟩; have b5 : Box4 w5 c (.bool f) vr (.slice b m cb) v3 := ⟨(Fq.cell 0 (by decide)).trans b3.c0, cr, (Fq.cell 2 (by decide)).trans b3.c2, (Fq.cell 3 (by decide)).trans b3.c3, fun k => (Fq.frozen k).trans (b3.f k)⟩; have b6 := b5.set1 (.slice aq nq cq); have M6 : xq0 w5 (w5.setCell ⟨c, 1, none⟩ (.slice aq nq cq)) c := (xq0.refl w5 _).setCell _ _; have r6 := (r3.drew.ofBlock (Fq.block w.heap.size (by show w.heap.size < w4.heap.size; omega) (by omega) (by omega))).marked M6 (by omega); have N6 := Nq.marked M6 d2; have D6 := (D4.ofBlock (fun _ => Fq.block h (by show h < w4.heap.size; omega) (by omega) (by omega))).marked M6 (by omega); have L6 := (L4.drew.ofBlock (fun _ => Fq.block g3 hg3l (by omega) (by omega))).marked M6 (fun _ => by omega); have Q6 : (w5.setCell ⟨c, 1, none⟩ (.slice aq nq cq)).cell? ⟨q, 0, none⟩ = some (.slice a3 k3 c3) := (M6.cell (a := ⟨q, 0, none⟩) hqc).trans i1; have z6 := M6.size
 have S6 : w.Since B (w5.setCell ⟨c, 1, none⟩ (.slice aq nq cq)) := by
  have s4 : w.Since B w4.drew := xq6 (sM SW hB); have s5 : w4.drew.Since B w5 := ⟨Fq.os, Fq.tape, Fq.output, Fq.size, fun k hk => Fq.block k (by show k < w4.heap.size; omega) (by omega) (by omega)⟩; exact (s4.trans s5).trans (M6.since hc)
 clear LU FU lU pU u1 u2 u3 b5 cr Nr N4 D4 L4 Q0 Q1 Q2 i1 fz; go_wp2_with fail; generalize w5.setCell ⟨c, 1, none⟩ (.slice aq nq cq) = w6 at *; obtain ⟨b', m', cb', Y', ev, m1', m2', m3', LY6, FY6, lY6, pY6, eY6⟩ := D6; obtain ⟨rfl, rfl, rfl⟩ : b' = b /\ m' = m /\ cb' = cb := by simp at ev; exact ⟨ev.1.symm, ev.2.1.symm, ev.2.2.symm⟩
 have JE := yz7 c 2 b' a3 h m' cb' g3 k3 c3 Y' Z w6.drew (by omega) m1' m3' hk3 (by omega) b6.drew.c2 (b6.drew.f 2) LY6.drew L6.drew lY6 EZ.out.1 FY6 hch (fun _ => by show h < w6.heap.size; omega) pY6 (EZ.out.2.1 hk3); rw [eY6, EZ.out.2.2] at JE; clear lY6 pY6 eY6 ev LY6 FY6; have hqh : q ≠ h := by omega
 have Q7 : w6.drew.cell? ⟨q, 0, none⟩ = some (.slice a3 k3 c3) := Q6; have hq6 : q < w6.drew.heap.size := by show q < w6.heap.size; omega
 go_wp2
 go_region_held3 (fun w' => w'.cell? ⟨q, 0, none⟩ = some (.slice a3 k3 c3)) (go_keep)
  (first
    | (go_at_call 163
       with_reducible refine JE.mono ?_
       rintro e w7 ⟨vq, vr, gp, gs, rfl, cr, ⟨ap, np, cp, V, rfl, u1, u2, u3, LU, FU, lU, pU, eV⟩, Nr, hp3, hs3, d4, d5, d6, Fp⟩; have i1 : w7.cell? ⟨q, 0, none⟩ = some (.slice a3 k3 c3) := (World.cell?_of_block (w := w6.drew) (a := ⟨q, 0, none⟩) (Fp.block q hq6 hqc hqh)).trans Q7; have fz : w7.frozen? ⟨c, 2, none⟩ = false := (Fp.frozen 2).trans (b6.f 2); have hcq : c ≠ q := by omega))
 have z7 := Fp.size; have zd6 : w6.drew.heap.size = w6.heap.size := rfl; have Np : xj0 w7 (.slice ap np cp) gp (D / G) 16777218 := ⟨ap, np, cp, V, rfl, u1, by omega, u3, LU, FU, lU, pU, eV⟩; have b7 : Box4 w7 c (.bool f) (.slice aq nq cq) vr v3 := ⟨(Fp.cell 0 (by decide)).trans b6.c0, (Fp.cell 1 (by decide)).trans b6.c1, cr, (Fp.cell 3 (by decide)).trans b6.c3, fun k => (Fp.frozen k).trans (b6.f k)⟩; have b8 := b7.set2 (.slice ap np cp); have M8 : xq0 w7 (w7.setCell ⟨c, 2, none⟩ (.slice ap np cp)) c := (xq0.refl w7 _).setCell _ _; have r8 := (r6.drew.ofBlock (Fp.block w.heap.size (by show w.heap.size < w6.heap.size; omega) (by omega) (by omega))).marked M8 (by omega); have hqh2 : gq ≠ h := by omega
 have N8 := (N6.drew.ofBlock (fun hl => Fp.block gq hl d2 hqh2)).marked M8 d2; have P8 := Np.marked M8 d5; have z8 := M8.size
 have S8 : w.Since B (w7.setCell ⟨c, 2, none⟩ (.slice ap np cp)) := by
  have s7 : w6.drew.Since B w7 := ⟨Fp.os, Fp.tape, Fp.output, Fp.size, fun k hk => Fp.block k (by show k < w6.heap.size; omega) (by omega) (by omega)⟩; exact ((xq6 S6).trans s7).trans (M8.since hc)
 have hnz : ((nq : Int) == 0) = !(N != 0) := by
  obtain ⟨a9, m9, c9, Y9, e9, -, -, -, -, -, -, p9, v9⟩ := N8; have : m9 = nq := by simp at e9; exact e9.2.1.symm
  subst this; have hN := (xw4 p9); rw [v9, hGz.out] at hN; rw [Bool.eq_iff_iff]; simp; omega
 have HZ := hide hnz; clear hnz LU FU lU pU u1 u2 u3 b7 cr Nr Q6 Q7 i1 fz; have hpl : gp = h ∨ w6.heap.size <= gp := hp3; have gq1 : gq = g ∨ w4.heap.size <= gq := hq3
 obtain ⟨g', hg', hBg', hg'1, N9⟩ : ∃ g', g' ≠ gp /\ B <= g' /\ g' ≠ w.heap.size /\ xj0 (w7.setCell ⟨c, 2, none⟩ (.slice ap np cp)) (.slice aq nq cq) g' (N / G) 16777218 := by
  rcases N6.place (gp + 1 + w.heap.size) with hl | hp
  . exact ⟨gq, by omega, by omega, by omega, N8⟩
  . refine ⟨gp + 1 + w.heap.size, by omega, by omega, by omega, ?_⟩
    rcases N8.place (gp + 1 + w.heap.size) with hl8 | hp8
    . obtain ⟨a9, m9, c9, Y9, e9, q1, q2, q3, L9, -, q5, q6, q7⟩ := hp
      obtain ⟨a8, m8, c8, Y8, e8, r1, r2, r3, L8, F8, r5, r6, r7⟩ := N8
      rcases Nat.eq_zero_or_pos m8 with e0 | e0
      . exact ⟨a8, m8, c8, Y8, e8, r1, r2, r3, fun j hj => absurd hj (by omega), fun hj => absurd hj (by omega), r5, r6, r7⟩
      . have e89 : m8 = m9 /\ a8 = a9 := by rw [e8] at e9; simp at e9; exact ⟨e9.2.1, e9.1⟩
        have x8 := (L8 0 e0).1; have x9 := (L9 0 (by omega)).1; rw [e89.2, x9] at x8
        simp at x8
        rw [x8]; exact ⟨a8, m8, c8, Y8, e8, r1, r2, r3, L8, F8, r5, r6, r7⟩
    . exact hp8
 clear N6 N8 hq3 hp3; have hBp : B <= gp := by omega
 have hgp1 : gp ≠ w.heap.size := by omega
 go_wp2_with fail; generalize w7.setCell ⟨c, 2, none⟩ (.slice ap np cp) = w8 at *; have j0 := b8.c0; have j1 := b8.c1; have j2 := b8.c2; have u0 := r8.c0; have u1 := r8.c1; have u2 := r8.c2; have uf0 := r8.f 0; have uf1 := r8.f 1; have uf2 := r8.f 2; have I2 := xk9 c 1 aq nq cq w8.drew b8.drew.c1; have hne : w.heap.size ≠ c := Nat.ne_of_gt hcl; cases f
 . go_wp2
   first | go_region_held (fun w' => w'.cell? ⟨c, 0, none⟩ = some (.bool false) /\ w'.cell? ⟨c, 1, none⟩ = some (.slice aq nq cq) /\ w'.cell? ⟨c, 2, none⟩ = some (.slice ap np cp)) (go_keep) (fail) | fail
   all_goals go_wp2
   all_goals
    have r4 := ((r8.drew.set0 (.bool false)).set1 (.slice aq nq cq)).set2 (.slice ap np cp); refine bodyPost_ret (rb3 rfl _ _ _ _ _ _ rfl r4) rfl ?_; have M : xq0 w8.drew _ w.heap.size := (((xq0.refl w8.drew _).setCell 0 (.bool false)).setCell 1 (.slice aq nq cq)).setCell 2 (.slice ap np cp); exact ⟨_, rfl, ⟨_, _, g', gp, rfl, N9.drew.marked M hg'1, P8.drew.marked M hgp1, hBg', hBp, hg'⟩, (xq6 S8).trans (M.since hB)⟩
 . go_wp2
   go_region_held3 (fun w' => w'.cell? ⟨c, 0, none⟩ = some (.bool true) /\ w'.cell? ⟨c, 1, none⟩ = some (.slice aq nq cq) /\ w'.cell? ⟨c, 2, none⟩ = some (.slice ap np cp)) (go_keep)
    (first | (go_at_call 126; with_reducible refine I2.mono ?_; rintro e w9 ⟨rfl, rfl⟩))
   all_goals go_wp2
   all_goals
    have r4 := ((r8.drew.set0 (.bool (!((nq : Int) == 0)))).set1 (.slice aq nq cq)).set2 (.slice ap np cp); refine bodyPost_ret (rb3 rfl _ _ _ _ _ _ rfl r4) rfl ?_; have M : xq0 w8.drew _ w.heap.size := (((xq0.refl w8.drew _).setCell 0 (.bool (!((nq : Int) == 0)))).setCell 1 (.slice aq nq cq)).setCell 2 (.slice ap np cp); rw [HZ.out] at M ⊢; exact ⟨_, rfl, ⟨_, _, g', gp, by simp, N9.drew.marked M hg'1, P8.drew.marked M hgp1, hBg', hBp, hg'⟩, (xq6 S8).trans (M.since hB)⟩
theorem ownCopy_o (a : Option Addr) (b off n cap : Nat) (X : Nat -> Nat) (w : World) (hn : n <= 67108864) (hnc : n <= cap) (hac : a = none -> cap = 0) (hX : xq1 w a b off n X) (pX : 0 < n -> X (n - 1) ≠ 0) :
 Calls Tryz.prog 131 #[.slice a n cap] w fun e w' => ∃ a' cap' g, e = .returned (.slice a' n cap') /\ n <= cap' /\ (a' = none -> cap' = 0) /\ xq1 w' a' g 0 n X /\ (0 < n -> w.heap.size <= g /\ g < w'.heap.size /\ ∀ o, w'.frozen? ⟨g, o, none⟩ = false) /\ w.Since w.heap.size w' := by
 refine (xx5 a b off n cap X w (by omega) hnc hac hX).mono ?_; rintro e w' ⟨v, rfl, o, s⟩; rw [xk5 pX] at o; have hc := @World.ownsRow.cells _ _ _ _ _ _ _ o; obtain ⟨_, ⟨rfl, rfl⟩ | ⟨g, cap', cur, rfl, hg, hb, hn', _⟩⟩ := o
 . exact ⟨none, 0, 0, rfl, Nat.le_refl _, fun _ => rfl, fun j hj => absurd hj (by omega), fun h => absurd h (by omega), s⟩
 . refine ⟨_, cap', g, rfl, hn', (fun h => by cases h), fun j hj => ⟨rfl, ?_⟩, fun h => ⟨hg, ?_, fun o => by simp [World.frozen?, hb]⟩, s⟩
   . have := hc (g := g) rfl j (.int .u32 (X j)) (ll_get X n j hj)
     rw [Go.WideShapes.add_plain] at this; exact this
   . obtain ⟨hlt, _⟩ := Array.getElem?_eq_some_iff.1 hb
     exact hlt
theorem without_any (c o : Nat) (b : Option Addr) (bb ob m cb : Nat) (Y : Nat -> Nat) (d : Option Addr) (g k cd : Nat) (Z : Nat -> Nat) (w : World) (hm : m <= 16777216) (hk : k <= 16777216) (hk0 : 0 < k) (hc0 : w.cell? ⟨c, o, none⟩ = some (.slice b m cb)) (hmc : m <= cb) (hbc : b = none -> cb = 0) (hY : xq1 w b bb ob m Y)
 (lY : ∀ j, j < m -> Y j < 4294967296) (pY : 0 < m -> Y (m - 1) ≠ 0) (hZ : xq1 w d g 0 k Z) (lZ : ∀ j, j < k -> Z j < 4294967296) (pZ : 0 < k -> Z (k - 1) ≠ 0) :
 Calls Tryz.prog 232 #[.pointer (some ⟨c, o, none⟩), .slice d k cd] w fun e w' => ∃ (a : Option Addr) (q off n ca : Nat) (X : Nat -> Nat), e = .returned (.slice a n ca) /\ n <= ca /\ n <= m /\ (a = none -> ca = 0) /\ xq1 w' a q off n X /\ (∀ j, j < n -> X j < 4294967296) /\ (0 < n -> X (n - 1) ≠ 0) /\
  lv X n = lv Y m / lv Z k /\ (0 < n -> (q = bb /\ 0 < m) ∨ w.heap.size <= q) /\ w.Since w.heap.size w' := by
 have sA := sal w (.cells #[.slice d k cd] 165); have qA : (w.alloc (.cells #[.slice d k cd] 165)).cell? ⟨w.heap.size, 0, none⟩ = some (.slice d k cd) := by simp [go_sem]
 have hcl : c < w.heap.size := World.block_lt_of_cell? _ _ hc0; have cA : (w.alloc (.cells #[.slice d k cd] 165)).cell? ⟨c, o, none⟩ = some (.slice b m cb) := (sA.cell (a := ⟨c, o, none⟩) hcl).trans hc0; have zA : w.heap.size < (w.alloc (.cells #[.slice d k cd] 165)).heap.size := by simp
 have YA := hY.keep sA; have ZA := hZ.keep sA; have I1 := xz4 w.heap.size 0 d g 0 k cd Z (w.alloc (.cells #[.slice d k cd] 165)) qA ZA lZ pZ
 by_cases h1 : lv Z k = 1
 . rw [show decide (lv Z k = 1) = true by simp [h1]] at I1
   rw [h1, Nat.div_one]; go_enter Tryz.func232, Tryz.ntmps232; go_wp2_with fail; generalize w.alloc (.cells #[.slice d k cd] 165) = w1 at *; refine I1.mono ?_; rintro e w2 ⟨rfl, hw2⟩; rw [hw2]; clear hw2 w2 I1; go_wp2; go_ret; exact ⟨b, bb, ob, m, cb, Y, rfl, hmc, Nat.le_refl _, hbc, YA, lY, pY, rfl, fun h => Or.inl ⟨rfl, h⟩, sA⟩
 . rw [show decide (lv Z k = 1) = false by simp [h1]] at I1
   have J1 := ownCopy_o b bb ob m cb Y (w.alloc (.cells #[.slice d k cd] 165)) (by omega) hmc hbc YA pY; go_enter Tryz.func232, Tryz.ntmps232; go_wp2_with fail; generalize w.alloc (.cells #[.slice d k cd] 165) = w1 at *; refine I1.mono ?_; rintro e w2 ⟨rfl, hw2⟩; rw [hw2]; clear hw2 w2 I1; go_wp2_with fail; refine J1.mono ?_; rintro e w2 ⟨a2, c2, g2, rfl, x1, x2, L2, x3, s2⟩; have S2 := sA.trans (sM s2 sA.size); have q2 := (s2.cell (a := ⟨w.heap.size, 0, none⟩) zA).trans qA; have z2 := s2.size; have t3 := sal w2 (.cells #[.slice a2 m c2] 165); have S3 : w.Since w.heap.size (w2.alloc (.cells #[.slice a2 m c2] 165)) := S2.trans (sM t3 S2.size); have q3 := (t3.cell (a := ⟨w.heap.size, 0, none⟩) (show w.heap.size < w2.heap.size by omega)).trans q2; have b3 : (w2.alloc (.cells #[.slice a2 m c2] 165)).cell? ⟨w2.heap.size, 0, none⟩ = some (.slice a2 m c2) := by simp [go_sem]
   have f3 : (w2.alloc (.cells #[.slice a2 m c2] 165)).frozen? ⟨w2.heap.size, 0, none⟩ = false := by simp [go_sem]
   have L3 := L2.keep t3; have F3 : 0 < m -> ∀ x, (w2.alloc (.cells #[.slice a2 m c2] 165)).frozen? ⟨g2, x, none⟩ = false := fun h x => (t3.frozen (a := ⟨g2, x, none⟩) (x3 h).2.1).trans ((x3 h).2.2 x)
   have z3 : w2.heap.size < (w2.alloc (.cells #[.slice a2 m c2] 165)).heap.size := by simp
   by_cases hm0 : 0 < m
   . have y3 := x3 hm0
     have J2 := yz7 w2.heap.size 0 a2 d g2 m c2 g k cd Y Z (w2.alloc (.cells #[.slice a2 m c2] 165)) (by omega) x1 x2 hk0 (by omega) b3 f3 L3 (hZ.keep S3) lY lZ F3 (by omega) (fun h => by omega) pY (pZ hk0); go_wp2_with fail; generalize w2.alloc (.cells #[.slice a2 m c2] 165) = w3 at *; refine J2.mono ?_; rintro e w4 ⟨vq, vr, gq, gr, rfl, k1, ⟨aq, nq, cq, U, rfl, u1, u2, u3, LU, FU, lU, pU, eU⟩, -, k4, -, -, -, -, fr⟩; have S4 : w.Since w.heap.size w4 := ⟨fr.os.trans S3.os, fr.tape.trans S3.tape, fr.output.trans S3.output, Nat.le_trans S3.size fr.size, fun i hi => (fr.block i (by omega) (by omega) (by omega)).trans (S3.block i hi)⟩; have hl : nq <= m := xv1 lY pU (by rw [eU]; exact Nat.div_le_self _ _); clear J2 J1 k1 fr; go_wp2; go_ret; exact ⟨aq, gq, 0, nq, cq, U, rfl, u1, hl, u3, LU, lU, pU, eU, fun _ => Or.inr (by omega), S4⟩
   . have e0 : m = 0 := by omega
     subst e0; have hlt : lv Y 0 = 0 := rfl; have J2 := yz7 w2.heap.size 0 a2 d (w2.heap.size + 1) 0 c2 g k cd Y Z (w2.alloc (.cells #[.slice a2 0 c2] 165)) (by omega) x1 x2 hk0 (by omega) b3 f3 (fun j hj => absurd hj (by omega)) (hZ.keep S3) (fun j hj => absurd hj (by omega)) lZ (fun h => absurd h (by omega)) (by omega) (fun h => absurd h (by omega)) (fun h => absurd h (by omega)) (pZ hk0); go_wp2_with fail; generalize w2.alloc (.cells #[.slice a2 0 c2] 165) = w3 at *; refine J2.mono ?_; rintro e w4 ⟨vq, vr, gq, gr, rfl, k1, ⟨aq, nq, cq, U, rfl, u1, u2, u3, LU, FU, lU, pU, eU⟩, -, k4, -, -, -, -, fr⟩; have S4 : w.Since w.heap.size w4 := ⟨fr.os.trans S3.os, fr.tape.trans S3.tape, fr.output.trans S3.output, Nat.le_trans S3.size fr.size, fun i hi => (fr.block i (by omega) (by omega) (by omega)).trans (S3.block i hi)⟩; have hl : nq <= 0 := xv1 (X := U) (Y := Y) (m := 0) (fun j hj => absurd hj (by omega)) pU (by rw [eU]; exact Nat.div_le_self _ _); clear J2 J1 k1 fr; go_wp2; go_ret; exact ⟨aq, gq, 0, nq, cq, U, rfl, u1, hl, u3, LU, lU, pU, eU, fun h => absurd h (by omega), S4⟩
theorem gcd_of_iff {a p y : Nat} (h : ∀ d, d ∣ y -> (d ∣ a ↔ d ∣ p)) : Nat.gcd a y = Nat.gcd p y := by
 apply Nat.dvd_antisymm
 . exact Nat.dvd_gcd ((h _ (Nat.gcd_dvd_right _ _)).1 (Nat.gcd_dvd_left _ _)) (Nat.gcd_dvd_right _ _)
 . exact Nat.dvd_gcd ((h _ (Nat.gcd_dvd_right _ _)).2 (Nat.gcd_dvd_left _ _)) (Nat.gcd_dvd_right _ _)
theorem gcd_cross {x y x' y' : Nat} (h : Nat.gcd x y = 1) (h' : Nat.gcd x' y' = 1) : Nat.gcd (x * x') (y * y') ∣ Nat.gcd x y' * Nat.gcd x' y := by
 have h1 := Nat.gcd_mul_right_dvd_mul_gcd (x * x') y y'; have e1 : Nat.gcd (x * x') y = Nat.gcd x' y := Nat.Coprime.gcd_mul_left_cancel x' h; have e2 : Nat.gcd (x * x') y' = Nat.gcd x y' := Nat.Coprime.gcd_mul_right_cancel x h'; rw [e1, e2, Nat.mul_comm (Nat.gcd x' y)] at h1; exact h1
theorem mulAt3 (c : Nat) (x z u : Value) (a a' : Option Addr) (b off n cap b' off' m cap' : Nat) (X Y : Nat -> Nat) (w : World) (hn : n <= 67108864) (hm : m <= 67108864) (hX : xq1 w a b off n X) (hY : xq1 w a' b' off' m Y)
 (hXl : ∀ j, j < n -> X j < 4294967296) (hYl : ∀ j, j < m -> Y j < 4294967296) (B : Box4 w c x z u (.slice a n cap)) :
 Calls Tryz.prog 231 #[.pointer (some ⟨c, 3, none⟩), .slice a' m cap'] w fun e w' => e = .returned (.tuple #[]) /\ ∃ v, Box4 w' c x z u v /\ xj0 w' v w.heap.size (lv X n * lv Y m) (n + m) /\ Oth c w w' /\ w.heap.size < w'.heap.size := by
 refine (yj1 c 3 a a' b off n cap b' off' m cap' X Y w hn hm hX hY hXl hYl B.c3 (B.f 3)).mono ?_; rintro e w' ⟨rfl, w2, P, s, r, hP, hv, rfl⟩; have M := (xq0.refl w2 c).setCell 3 (.slice (some ⟨w.heap.size, 0, none⟩) (tlen (nz P) (n + m)) (n + m)); exact ⟨rfl, _, (B.keep s).set3 _, (natAt_row r hP hv).marked M (Nat.ne_of_gt B.lt), (Oth.ofSince c s).trans (Oth.ofMarked M), by rw [M.size]; exact r.lt⟩
theorem gcd_len {w : World} {v : Value} {g N D k m : Nat} {Y : Nat -> Nat} (h : xj0 w v g (Nat.gcd N D) k) (hD : 0 < D) (l : ∀ j, j < m -> Y j < 4294967296) (e : lv Y m = D) : xj0 w v g (Nat.gcd N D) m := by
 obtain ⟨a, n, c, X, rfl, h1, h2, h3, h4, h5, h6, h7, h8⟩ := h; exact ⟨a, n, c, X, rfl, h1, xv1 l h7 (by rw [h8, e]; exact Nat.gcd_le_right _ hD), h3, h4, h5, h6, h7, h8⟩
theorem fracMul_any (c : Nat) (f f' : Bool) (a b a' b' : Option Addr) (ba oa n ca bb ob m cb ba' oa' n' ca' bb' ob' m' cb' : Nat) (X Y X' Y' : Nat -> Nat) (w : World) (hn : n <= 16777216) (hm : m <= 16777216) (hn' : n' <= 16777216) (hm' : m' <= 16777216)
 (hX : xq1 w a ba oa n X) (hY : xq1 w b bb ob m Y) (hX' : xq1 w a' ba' oa' n' X') (hY' : xq1 w b' bb' ob' m' Y') (hXl : ∀ j, j < n -> X j < 4294967296) (hYl : ∀ j, j < m -> Y j < 4294967296) (hXl' : ∀ j, j < n' -> X' j < 4294967296) (hYl' : ∀ j, j < m' -> Y' j < 4294967296)
 (ea : 0 < n -> ba ≠ c) (eb : 0 < m -> bb ≠ c) (ea' : 0 < n' -> ba' ≠ c) (eb' : 0 < m' -> bb' ≠ c) (pX : 0 < n -> X (n - 1) ≠ 0) (pY : 0 < m -> Y (m - 1) ≠ 0) (pX' : 0 < n' -> X' (n' - 1) ≠ 0) (pY' : 0 < m' -> Y' (m' - 1) ≠ 0) (hnc : n <= ca) (hmc : m <= cb) (hnc' : n' <= ca') (hmc' : m' <= cb') (hac : a = none -> ca = 0) (hbc : b = none -> cb = 0) (hac' : a' = none -> ca' = 0) (hbc' : b' = none -> cb' = 0)
 (hY0 : 0 < lv Y m) (hY0' : 0 < lv Y' m') (s s' : Value) (B : Box4 w c (.bool f) (.slice a n ca) (.slice b m cb) s) :
 Calls Tryz.prog 215 #[.pointer (some ⟨c, 0, none⟩), .agg #[.bool f', .slice a' n' ca', .slice b' m' cb', s']] w fun e w' => e = .returned (.tuple #[]) /\ ∃ v1 v2 v3 g h q, Box4 w' c (.bool (f != f')) v1 v2 v3 /\ xj0 w' v3 q (Nat.gcd (lv X n) (lv Y' m') * Nat.gcd (lv X' n') (lv Y m)) (m' + m) /\
  xj0 w' v1 g (lv X n * lv X' n') (n + n') /\ xj0 w' v2 h (lv Y m * lv Y' m') (m + m') /\ w.heap.size <= g /\ g < h /\ h < w'.heap.size /\ Oth c w w' := by
 have sA := sal w (.cells #[.bool f', .slice a' n' ca', .slice b' m' cb', s'] 168); have gA := Box4.new w (.bool f') (.slice a' n' ca') (.slice b' m' cb') s' 168; have BA := B.keep sA; have hcl := B.lt; have hne1 : c ≠ w.heap.size := by omega
 have hne2 : w.heap.size ≠ c := by omega
 have k1 := BA.c1; have g2 := gA.c2; go_enter Tryz.func215, Tryz.ntmps215; go_wp2; have hz0 : w.heap.size < (w.alloc (.cells #[.bool f', .slice a' n' ca', .slice b' m' cb', s'] 168)).heap.size := gA.lt; generalize w.alloc (.cells #[.bool f', .slice a' n' ca', .slice b' m' cb', s'] 168) = w1 at *; clear B; have S1 : w.Since w.heap.size w1.drew := xq6 sA; have J1 := yx6 a b' ba oa n ca bb' ob' m' cb' X Y' w1.drew (Nat.zero_le _) hn hm' hnc hmc' hac hbc' (hX.keep S1) (hY'.keep S1) hXl hYl' pX pY' trivial; have B1 := BA.drew; have G1 := gA.drew; have d1 : w1.Since w1.heap.size w1.drew := xq6 (World.Since.refl _ _); clear sA BA gA
 go_region_held3 (fun w' => w'.cell? ⟨c, 1, none⟩ = some (.slice a n ca) /\ w'.cell? ⟨w.heap.size, 2, none⟩ = some (.slice b' m' cb')) (go_keep)
  (first
    | (go_at_call 141
       with_reducible refine J1.mono ?_
       rintro e w2 ⟨v4, g4, rfl, N4, hg4, s4⟩; have B2 := B1.keep s4; have G2 := G1.keep s4; have S2 := S1.trans (sM s4 S1.size); have N4' := gcd_len N4 hY0' hYl' rfl; obtain ⟨a4, n4, c4, Z4, rfl, y1, y2, y3, L4, F4, l4, p4, e4⟩ := N4'; have i1 := B2.c1; have i2 := G2.c2; have i3 := B2.c3; have i4 := B2.f 3; have i5 := (B2.set3 (.slice a4 n4 c4)).c1; have i6 := (G2.marked ((xq0.refl w2 c).setCell 3 (.slice a4 n4 c4)) (by omega)).c2))
 have M2 := (xq0.refl w2 c).setCell 3 (.slice a4 n4 c4); have B3 := B2.set3 (.slice a4 n4 c4); have G3 := G2.marked M2 (by omega); have hz2 : w.heap.size < w2.heap.size := Nat.lt_of_lt_of_le hz0 s4.size; have hgc : g4 ≠ c := by have h1 : w1.heap.size <= g4 := hg4; have h2 : c < w1.heap.size := Nat.lt_trans hcl hz0; omega
 have L4' := L4.marked M2 (fun _ => hgc); have O3 : Oth c w (w2.setCell ⟨c, 3, none⟩ (.slice a4 n4 c4)) := (Oth.ofSince c S2).trans (Oth.ofMarked M2); have hz3 : (w2.setCell ⟨c, 3, none⟩ (.slice a4 n4 c4)).heap.size = w2.heap.size := M2.size; clear k1 g2 i1 i2 i3 i4 i5 i6 J1 B2 G2 N4 M2 L4 d1 S1 B1 G1; go_wp2; generalize w2.setCell ⟨c, 3, none⟩ (.slice a4 n4 c4) = w3 at *; have k2 := B3.c2; have k3 := B3.c3; have g1 := G3.c1; have O3d := O3.drew; have J2 := yx6 a' b ba' oa' n' ca' bb ob m cb X' Y w3.drew (Nat.zero_le _) hn' hm hnc' hmc hac' hbc (hX'.oth O3d ea') (hY.oth O3d eb) hXl' hYl pX' pY trivial; have LD : xq1 w3.drew a4 g4 0 n4 Z4 := L4'; have BD := B3.drew; have GD := G3.drew
 go_region_held3 (fun w' => w'.cell? ⟨c, 2, none⟩ = some (.slice b m cb) /\ w'.cell? ⟨w.heap.size, 1, none⟩ = some (.slice a' n' ca')) (go_keep)
  (first
    | (go_at_call 141
       with_reducible refine J2.mono ?_
       rintro e w4 ⟨v5, g5, rfl, N5, hg5, s5⟩; have B4 := BD.keep s5; have G4 := GD.keep s5; have N5' := gcd_len N5 hY0 hYl rfl; obtain ⟨a5, n5, c5, Z5, rfl, x1, x2, x3, L5, F5, l5, p5, e5⟩ := N5'; have i1 := B4.c2; have i2 := G4.c1; have J3 := mulAt3 c _ _ _ a4 a5 g4 0 n4 c4 g5 0 n5 c5 Z4 Z5 w4 (by omega) (by omega) (LD.keep s5) L5 l4 l5 B4)
    | (go_at_call 231
       with_reducible refine J3.mono ?_
       rintro e w5 ⟨rfl, v3, B5, N6, O5, z5⟩; have G5 := G4.oth O5 (by omega); have i1 := B5.c2; have i2 := G5.c1))
 have N6' : xj0 w5 v3 w4.heap.size (Nat.gcd (lv X n) (lv Y' m') * Nat.gcd (lv X' n') (lv Y m)) (m' + m) := by
  rw [<- e4, <- e5]; exact N6.more (by omega)
 have O35 : Oth c w w5 := (O3d.trans (Oth.ofSince c s5)).trans O5; have hz5 : w.heap.size < w5.heap.size := by have h1 := s5.size; have h2 : w3.heap.size <= w4.heap.size := h1; omega
 have hq : c < w4.heap.size := by have h1 := s5.size; have h2 : w3.heap.size <= w4.heap.size := h1; omega
 clear k2 k3 g1 J2 J3 LD BD GD B3 G3 B4 G4 i1 i2 N6 N5 L4' L5 O3 O3d O5; have k0 := B5.c0; have kf := B5.f 0; have g0 := G5.c0; have M6 := (xq0.refl w5 c).setCell 0 (.bool (!(f == f'))); have B6 : Box4 (w5.setCell ⟨c, 0, none⟩ (.bool (!(f == f')))).drew c (.bool (!(f == f'))) (.slice a n ca) (.slice b m cb) v3 := (B5.set0 _).drew; have G6 : Box4 (w5.setCell ⟨c, 0, none⟩ (.bool (!(f == f')))).drew w.heap.size (.bool f') (.slice a' n' ca') (.slice b' m' cb') s' := (G5.marked M6 (by omega)).drew; have N7 : xj0 (w5.setCell ⟨c, 0, none⟩ (.bool (!(f == f')))).drew v3 w4.heap.size (Nat.gcd (lv X n) (lv Y' m') * Nat.gcd (lv X' n') (lv Y m)) (m' + m) := (N6'.marked M6 (by omega)).drew; have O6 : Oth c w (w5.setCell ⟨c, 0, none⟩ (.bool (!(f == f')))).drew := (O35.trans (Oth.ofMarked M6)).drew; have hz6 : (w5.setCell ⟨c, 0, none⟩ (.bool (!(f == f')))).drew.heap.size = w5.heap.size := M6.size; go_wp2
 go_region_with (fail)
 all_goals
  clear k0 kf g0 M6 B5 G5 N6' O35; generalize (w5.setCell ⟨c, 0, none⟩ (.bool (!(f == f')))).drew = w6 at *; have k2 := G6.c1; have JA := mulAt1 c _ _ _ a a' ba oa n ca ba' oa' n' ca' X X' w6.drew (by omega) (by omega) (hX.oth O6.drew ea) (hX'.oth O6.drew ea') hXl hXl' B6.drew; go_wp2
  go_region_held3 (fun w' => w'.cell? ⟨w.heap.size, 1, none⟩ = some (.slice a' n' ca')) (go_keep)
   (first
     | (go_at_call 231
        with_reducible refine JA.mono ?_
        rintro e w7 ⟨rfl, v1, B7, N1, O7, z7⟩; have G7 := G6.drew.oth O7 (by omega); have O67 := O6.drew.trans O7; have i1 := G7.c1))
  have k3 := G7.c2; have N8 := N7.drew.oth O7 (by omega); have JB := mulAt2 c _ _ _ b b' bb ob m cb bb' ob' m' cb' Y Y' w7.drew (by omega) (by omega) (hY.oth O67.drew eb) (hY'.oth O67.drew eb') hYl hYl' B7.drew; go_wp2
  go_region_held3 (fun w' => w'.cell? ⟨w.heap.size, 2, none⟩ = some (.slice b' m' cb')) (go_keep)
   (first
     | (go_at_call 231
        with_reducible refine JB.mono ?_
        rintro e w8 ⟨rfl, v2, B8, N2, O8, z8⟩; have i2 := (G7.drew.oth O8 (by omega)).c2))
  go_wp2
  go_end0
  exact ⟨rfl, v1, v2, v3, w6.heap.size, w7.heap.size, w4.heap.size, B8, N8.drew.oth O8 (by omega), N1.drew.oth O8 (by show w6.heap.size ≠ _; omega), N2, by omega, z7, z8, O67.drew.trans O8⟩
theorem Oth.up3 {c g h : Nat} {w w1 w2 : World} (x : Oth c w w1) (y : Oth3 c g h w1 w2) (hg : w.heap.size <= g) (hh : w.heap.size <= h) : Oth c w w2 :=
 ⟨y.os.trans x.os, y.tape.trans x.tape, y.output.trans x.output, Nat.le_trans x.size y.size, fun k h1 h2 => (y.block k (Nat.lt_of_lt_of_le h1 x.size) h2 (by omega) (by omega)).trans (x.block k h1 h2)⟩
theorem sumTop_scale (f f' : Bool) (p r s : Nat) (hs : 0 < s) : xq4 f f' (p * s) (r * s) = xq4 f f' p r * s := by
 unfold xq4
 split
 . rw [Nat.add_mul]
 . by_cases h : p < r
   . rw [if_pos h, if_pos (Nat.mul_lt_mul_of_pos_right h hs), Nat.sub_mul]
   . rw [if_neg h, if_neg (by have := Nat.mul_le_mul_right s (Nat.le_of_not_lt h); omega), Nat.sub_mul]
theorem sumNeg_scale (f f' : Bool) (p r s : Nat) (hs : 0 < s) : xj5 f f' (p * s) (r * s) = xj5 f f' p r := by
 unfold xj5
 split
 . rfl
 . by_cases h : p < r
   . rw [if_pos h, if_pos (Nat.mul_lt_mul_of_pos_right h hs)]
   . rw [if_neg h, if_neg (by have := Nat.mul_le_mul_right s (Nat.le_of_not_lt h); omega)]
theorem gcd_sumTop_l (f f' : Bool) {p r y : Nat} (h : y ∣ r) : Nat.gcd (xq4 f f' p r) y = Nat.gcd p y := by
 refine gcd_of_iff (fun d hd => ?_); have hr : d ∣ r := Nat.dvd_trans hd h; unfold xq4
 split
 . exact (Nat.dvd_add_iff_left hr).symm
 . split
   . constructor
     . intro k
       have h2 := Nat.dvd_sub hr k; rw [Nat.sub_sub_self (by omega)] at h2; exact h2
     . exact fun k => Nat.dvd_sub hr k
   . constructor
     . intro k
       have h2 := Nat.dvd_add k hr; rw [Nat.sub_add_cancel (by omega)] at h2; exact h2
     . exact fun k => Nat.dvd_sub k hr
theorem sumTop_comm (f f' : Bool) (p r : Nat) : xq4 f f' p r = xq4 f' f r p := by
 unfold xq4
 by_cases h : f = f'
 . simp [h, Nat.add_comm]
 . have h2 : ¬ f' = f := fun e => h e.symm
   simp only [h, h2, if_false]
   split <;> split <;> omega
theorem gcd_add_shared (f f' : Bool) {x y x' y' : Nat} (h : Nat.gcd x y = 1) (h' : Nat.gcd x' y' = 1) (hy : 0 < y) : Nat.gcd (xq4 f f' (x * (y' / Nat.gcd y y')) (x' * (y / Nat.gcd y y'))) (y * (y' / Nat.gcd y y')) ∣ Nat.gcd y y' := by
 have s0 : 0 < Nat.gcd y y' := Nat.gcd_pos_of_pos_left _ hy; have co : Nat.gcd (y / Nat.gcd y y') (y' / Nat.gcd y y') = 1 := Nat.coprime_div_gcd_div_gcd s0; have e1 : y = y / Nat.gcd y y' * Nat.gcd y y' := (Nat.div_mul_cancel (Nat.gcd_dvd_left y y')).symm; have e2 : y' = y' / Nat.gcd y y' * Nat.gcd y y' := (Nat.div_mul_cancel (Nat.gcd_dvd_right y y')).symm; generalize Nat.gcd y y' = s at *; generalize y / s = m at *; generalize y' / s = k at *; subst e1; have hxm : Nat.gcd x m = 1 := Nat.Coprime.coprime_mul_right_right h; have hxk : Nat.gcd x' k = 1 := by rw [e2] at h'; exact Nat.Coprime.coprime_mul_right_right h'
 have c1 : Nat.gcd (xq4 f f' (x * k) (x' * m)) m = 1 := by
  rw [gcd_sumTop_l f f' (Nat.dvd_mul_left m x')]; exact Nat.Coprime.mul_left hxm (by rw [Nat.Coprime, Nat.gcd_comm]; exact co)
 have c2 : Nat.gcd (xq4 f f' (x * k) (x' * m)) k = 1 := by
  rw [sumTop_comm, gcd_sumTop_l f' f (Nat.dvd_mul_left k x)]; exact Nat.Coprime.mul_left hxk co
 generalize xq4 f f' (x * k) (x' * m) = t at *
 have d1 : Nat.gcd t (m * s * k) = Nat.gcd t s := by
  rw [Nat.Coprime.gcd_mul_right_cancel_right (m * s) (Nat.Coprime.symm c2), Nat.Coprime.gcd_mul_left_cancel_right s (Nat.Coprime.symm c1)]
 rw [d1]; exact Nat.gcd_dvd_right _ _
theorem fracAdd_any (c : Nat) (f f' : Bool) (a b a' b' : Option Addr) (ba oa n ca bb ob m cb ba' oa' n' ca' bb' ob' m' cb' : Nat) (X Y X' Y' : Nat -> Nat) (w : World) (hn : n + n' + m + m' <= 16777216) (hm0 : 0 < m) (hm0' : 0 < m')
 (hX : xq1 w a ba oa n X) (hY : xq1 w b bb ob m Y) (hX' : xq1 w a' ba' oa' n' X') (hY' : xq1 w b' bb' ob' m' Y') (hXl : ∀ j, j < n -> X j < 4294967296) (hYl : ∀ j, j < m -> Y j < 4294967296) (hXl' : ∀ j, j < n' -> X' j < 4294967296) (hYl' : ∀ j, j < m' -> Y' j < 4294967296)
 (ea : 0 < n -> ba ≠ c) (eb : 0 < m -> bb ≠ c) (_ea' : 0 < n' -> ba' ≠ c) (eb' : 0 < m' -> bb' ≠ c) (pY : 0 < m -> Y (m - 1) ≠ 0) (pY' : 0 < m' -> Y' (m' - 1) ≠ 0) (hmc : m <= cb) (hmc' : m' <= cb') (hbc : b = none -> cb = 0) (hbc' : b' = none -> cb' = 0)
 (hY0 : 0 < lv Y m) (hY0' : 0 < lv Y' m') (s s' : Value) (B : Box4 w c (.bool f) (.slice a n ca) (.slice b m cb) s) :
 Calls Tryz.prog 216 #[.pointer (some ⟨c, 0, none⟩), .agg #[.bool f', .slice a' n' ca', .slice b' m' cb', s']] w fun e w' => e = .returned (.tuple #[]) /\ ∃ v1 v2 v3 g h q,
  Box4 w' c (.bool (xj5 f f' (lv X n * (lv Y' m' / Nat.gcd (lv Y m) (lv Y' m'))) (lv X' n' * (lv Y m / Nat.gcd (lv Y m) (lv Y' m'))))) v1 v2 v3 /\ xj0 w' v3 q (Nat.gcd (lv Y m) (lv Y' m')) 16777216 /\
  xj0 w' v1 g (xq4 f f' (lv X n * (lv Y' m' / Nat.gcd (lv Y m) (lv Y' m'))) (lv X' n' * (lv Y m / Nat.gcd (lv Y m) (lv Y' m')))) 16777216 /\ xj0 w' v2 h (lv Y m * (lv Y' m' / Nat.gcd (lv Y m) (lv Y' m'))) 16777216 /\ w.heap.size <= g /\ w.heap.size <= h /\ g ≠ h /\ g < w'.heap.size /\ h < w'.heap.size /\ Oth c w w' := by
 obtain ⟨sv, hsv⟩ : ∃ sv, sv = Nat.gcd (lv Y m) (lv Y' m') := ⟨_, rfl⟩; have HS := hide hsv; rw [<- hsv]; clear hsv; have sA := sal w (.cells #[.bool f', .slice a' n' ca', .slice b' m' cb', s'] 168); have gA := Box4.new w (.bool f') (.slice a' n' ca') (.slice b' m' cb') s' 168; have BA := B.keep sA; have hcl := B.lt; have k1 := BA.c2; have g2 := gA.c2; go_enter Tryz.func216, Tryz.ntmps216; go_wp2; have hz0 : w.heap.size < (w.alloc (.cells #[.bool f', .slice a' n' ca', .slice b' m' cb', s'] 168)).heap.size := gA.lt; generalize w.alloc (.cells #[.bool f', .slice a' n' ca', .slice b' m' cb', s'] 168) = w1 at *; clear B; have S1 : w.Since w.heap.size w1.drew := xq6 sA; have J1 := yx6 b b' bb ob m cb bb' ob' m' cb' Y Y' w1.drew (Nat.zero_le _) (by omega) (by omega) hmc hmc' hbc hbc' (hY.keep S1) (hY'.keep S1) hYl hYl' pY pY' trivial; have B1 := BA.drew; have G1 := gA.drew; clear sA BA gA
 go_region_held3 (fun w' => w'.cell? ⟨c, 2, none⟩ = some (.slice b m cb) /\ w'.cell? ⟨w.heap.size, 2, none⟩ = some (.slice b' m' cb')) (go_keep)
  (first
    | (go_at_call 141
       with_reducible refine J1.mono ?_
       rintro e w2 ⟨v4, g4, rfl, N4, hg4, s4⟩; have B2 := B1.keep s4; have G2 := G1.keep s4; have S2 := S1.trans (sM s4 S1.size); have N4' := gcd_len N4 hY0' hYl' rfl; have N4q := N4'; obtain ⟨a4, n4, c4, Z4, rfl, y1, y2, y3, L4, F4, l4, p4, e4⟩ := N4'; have i1 := B2.c2; have i2 := G2.c2))
 have hs0 : 0 < Nat.gcd (lv Y m) (lv Y' m') := Nat.gcd_pos_of_pos_left _ hY0; rw [<- HS.out] at e4 hs0 N4q; clear HS
 have hn4 : 0 < n4 := by
  rcases Nat.eq_zero_or_pos n4 with e | e
  . subst e; rw [show lv Z4 0 = 0 from rfl] at e4; omega
  . exact e
 have hz2 : w1.heap.size <= w2.heap.size := s4.size; have hg4' : w1.heap.size <= g4 := hg4; have hg4l : g4 < w2.heap.size := L4.lt hn4; clear k1 g2 i1 i2 J1 B1 G1 S1; have J2 := without_any c 2 b bb ob m cb Y a4 g4 n4 c4 Z4 w2 (by omega) (by omega) hn4 B2.c2 hmc hbc (hY.keep S2) hYl pY L4 l4 p4; rw [e4] at J2; go_wp2_with fail; refine J2.mono ?_; rintro e w3 ⟨a5, q5, o5, n5, c5, Z5, rfl, x1, x2, x3, L5, l5, p5, e5, b5, s5⟩; have S3 := S2.trans (sM s5 S2.size); have B3 := B2.keep s5; have G3 := G2.keep s5; have hz3 := s5.size; have J3 := without_any w.heap.size 2 b' bb' ob' m' cb' Y' a4 g4 n4 c4 Z4 w3 (by omega) (by omega) hn4 G3.c2 hmc' hbc' (hY'.keep S3) hYl' pY' (L4.keep s5) l4 p4; rw [e4] at J3; clear J2 B2 G2; go_wp2_with fail; refine J3.mono ?_; rintro e w4 ⟨a6, q6, o6, n6, c6, Z6, rfl, u1, u2, u3, L6, l6, p6, e6, b6, s6⟩; have S4 := S3.trans (sM s6 S3.size); have B4 := B3.keep s6; have G4 := G3.keep s6; have hz4 := s6.size; have L5' := L5.keep s6; have N5 := (N4q.keep s5).keep s6; have t5 := sal w4 (.cells #[.slice a' n' ca'] 165); have B5 := B4.keep t5; have G5 := G4.keep t5; have S5 : w.Since w.heap.size (w4.alloc (.cells #[.slice a' n' ca'] 165)) := S4.trans (sM t5 S4.size); have qA : (w4.alloc (.cells #[.slice a' n' ca'] 165)).cell? ⟨w4.heap.size, 0, none⟩ = some (.slice a' n' ca') := by simp [go_sem]
 have fA : (w4.alloc (.cells #[.slice a' n' ca'] 165)).frozen? ⟨w4.heap.size, 0, none⟩ = false := by simp [go_sem]
 have zA : (w4.alloc (.cells #[.slice a' n' ca'] 165)).heap.size = w4.heap.size + 1 := by simp
 have L5a := L5'.keep t5; have L6a := L6.keep t5; have N5a := N5.keep t5; have kk := G4.c1; clear J3 B3 G3; go_wp2_with fail; generalize (w4.alloc (.cells #[.slice a' n' ca'] 165)) = w5 at *; have zl : w4.heap.size + 1 <= w5.heap.size := by omega
 clear zA
 have q5c : 0 < n5 -> q5 ≠ c := fun h => by
  rcases b5 h with ⟨e, hm⟩ | e
  . rw [e]; exact eb hm
  . omega
 have q6c : 0 < n6 -> q6 ≠ c := fun h => by
  rcases b6 h with ⟨e, hm⟩ | e
  . rw [e]; exact eb' hm
  . omega
 have q5l : 0 < n5 -> q5 < w4.heap.size := fun h => L5'.lt h
 have q6l : 0 < n6 -> q6 < w4.heap.size := fun h => L6.lt h
 refine (mulAtR w4.heap.size a' a5 ba' oa' n' ca' q5 o5 n5 c5 X' Z5 w5 (by omega) (by omega) (hX'.keep S5) L5a hXl' l5 qA fA).mono ?_; rintro e w6 ⟨rfl, P1, q2, qf2, r2, hP1, e1, O2, z2⟩; have O02 : Oth c w w6 := (Oth.ofSince c S5).up O2 (by omega); have B6 := B5.oth O2 (by omega); have G6 := G5.oth O2 (by omega); have L6b := L6a.oth O2 (fun h => by have := q6l h; omega); have N6a := N5a.oth O2 (by omega); have hw6 : w5.heap.size < w6.heap.size := z2; clear B5 G5 qA fA L5a L6a N5a O2 kk; go_wp2_with fail; refine (mulAt1r c _ _ _ a a6 ba oa n ca q6 o6 n6 c6 X Z6 w6 (by omega) (by omega) (hX.oth O02 ea) L6b hXl l6 B6).mono ?_; rintro e w7 ⟨rfl, P2, B7, r3, hP2, e2, O3, z3⟩; have O03 := O02.trans O3; have G7 := G6.oth O3 (by omega); have q3 : w7.cell? ⟨w4.heap.size, 0, none⟩ = _ := (O3.cell (a := ⟨w4.heap.size, 0, none⟩) (World.block_lt_of_cell? _ _ q2) (show w4.heap.size ≠ c by omega)).trans q2; have r23 := row_oth r2 O3 (by omega); have L7b := L6b.oth O3 q6c; have N7a := N6a.oth O3 (by omega); clear B6 G6 q2 qf2 r2 L6b N6a; go_wp2_with fail; refine (mulAt2 c _ _ _ b a6 bb ob m cb q6 o6 n6 c6 Y Z6 w7 (by omega) (by omega) (hY.oth O03 eb) L7b hYl l6 B7).mono ?_; rintro e w8 ⟨rfl, v2, B8, N8, O4, z4⟩; have O04 := O03.trans O4; have G8 := G7.oth O4 (by omega); have q4 : w8.cell? ⟨w4.heap.size, 0, none⟩ = _ := (O4.cell (a := ⟨w4.heap.size, 0, none⟩) (World.block_lt_of_cell? _ _ q3) (show w4.heap.size ≠ c by omega)).trans q3; have r24 := row_oth r23 O4 (by omega); have r34 := row_oth r3 O4 (by omega); have N8a := N7a.oth O4 (by omega); clear B7 G7 q3 r23 r3 L7b N7a; have k1 := G8.c0; have k3 := q4; go_wp2_with fail; refine (addTop_any c f f' v2 _ w6.heap.size w5.heap.size (n + n6) (n' + n5) P2 P1 w8 (by omega) (by omega) B8 r34 r24 hP2 hP1 (by omega) (by omega) (by omega)).mono ?_; rintro e w9 ⟨rfl, v, gg, B9, N9, hgg, hgl, O5⟩; rw [e1, e2, e5, e6] at B9 N9; rw [e6] at N8; have hs9 := O5.size; have ND := N8.ofBlock (fun _ => O5.block w7.heap.size (by omega) (by omega) (by omega) (by omega)); have NS := N8a.ofBlock (fun _ => O5.block g4 (by omega) (by omega) (by omega) (by omega)); have MS := (xq0.refl w9 c).setCell 3 (.slice a4 n4 c4); have f3 := B9.f 3; have c3 := B9.c3; have O09 : Oth c w w9 := O04.up3 O5 (by omega) (by omega); clear k1 k3; go_wp2
 go_end0
 refine ⟨rfl, v, v2, _, gg, w7.heap.size, g4, B9.set3 _, (NS.marked MS (by omega)).more (by omega), N9.marked MS (by omega), (ND.marked MS (by omega)).more (by omega), by omega, by omega, by omega, by rw [MS.size]; exact hgl, by rw [MS.size]; omega, O09.trans (Oth.ofMarked MS)⟩
theorem yv4 (c : Nat) (f : Bool) (v1 v2 v3 : Value) (g h q N D K B : Nat) (w : World) (hw : 0 <= w.heap.size) (hT : Tab w) (Bx : Box4 w c (.bool f) v1 v2 v3) (H1 : xj0 w v1 g N 16777216) (H2 : xj0 w v2 h D 16777216) (H3 : xj0 w v3 q K 16777216) (hK : Nat.gcd N D ∣ K)
 (hgh : g ≠ h) (hgl : g < w.heap.size) (hhl : h < w.heap.size) (hcg : c ≠ g) (hch : c ≠ h) (hg : B <= g) (hh : B <= h) (hB : B <= w.heap.size) (hc : B <= c) (hD : 0 < D) :
 Calls Tryz.prog 127 #[.pointer (some ⟨c, 0, none⟩)] w fun e w' => ∃ v, e = .returned v /\ RatV w' v (f && N != 0) (N / Nat.gcd N D) (D / Nat.gcd N D) B 16777218 /\ w.Since B w' := by
 by_cases h1 : Nat.gcd N D = 1
 . rw [h1, Nat.div_one, Nat.div_one]
   exact normalise_one c f v1 v2 v3 g h q N D K B w hw hT Bx H1 H2 H3 hK hgh hgl hhl hg hh hB hc h1
 . exact normalise_big c f v1 v2 v3 g h q N D K B w hw hT Bx H1 H2 H3 hK hgh hgl hhl hcg hch hg hh hB hc hD h1
structure RIn (w : World) (a b : Option Addr) (ba oa n ca bb ob m cb : Nat) (X Y : Nat -> Nat) : Prop where
 nc : n <= ca
 mc : m <= cb
 ac : a = none -> ca = 0
 bc : b = none -> cb = 0
 LX : xq1 w a ba oa n X
 LY : xq1 w b bb ob m Y
 lX : ∀ j, j < n -> X j < 4294967296
 lY : ∀ j, j < m -> Y j < 4294967296
 pX : 0 < n -> X (n - 1) ≠ 0
 pY : 0 < m -> Y (m - 1) ≠ 0
 m0 : 0 < m
theorem RIn.keep {w w' : World} {a b : Option Addr} {ba oa n ca bb ob m cb : Nat} {X Y : Nat -> Nat} (h : RIn w a b ba oa n ca bb ob m cb X Y) (s : w.Since w.heap.size w') : RIn w' a b ba oa n ca bb ob m cb X Y :=
 ⟨h.nc, h.mc, h.ac, h.bc, h.LX.keep s, h.LY.keep s, h.lX, h.lY, h.pX, h.pY, h.m0⟩
theorem RIn.den {w : World} {a b : Option Addr} {ba oa n ca bb ob m cb : Nat} {X Y : Nat -> Nat} (h : RIn w a b ba oa n ca bb ob m cb X Y) : 0 < lv Y m := by
 rcases Nat.eq_zero_or_pos (lv Y m) with e | e
 . have := (xw4 h.pY).2 e; have := h.m0; omega
 . exact e
theorem productOf_any (f f' : Bool) (a b a' b' : Option Addr) (ba oa n ca bb ob m cb ba' oa' n' ca' bb' ob' m' cb' : Nat) (X Y X' Y' : Nat -> Nat) (w : World) (hw : 0 <= w.heap.size) (hT : Tab w) (hn : n + n' <= 16777216) (hm : m + m' <= 16777216)
 (R : RIn w a b ba oa n ca bb ob m cb X Y) (R' : RIn w a' b' ba' oa' n' ca' bb' ob' m' cb' X' Y') (co : Nat.gcd (lv X n) (lv Y m) = 1) (co' : Nat.gcd (lv X' n') (lv Y' m') = 1) :
 Calls Tryz.prog 190 #[.agg #[.bool f, .slice a n ca, .slice b m cb], .agg #[.bool f', .slice a' n' ca', .slice b' m' cb']] w fun e w' => ∃ v, e = .returned v /\
  RatV w' v ((f != f') && lv X n * lv X' n' != 0) (lv X n * lv X' n' / Nat.gcd (lv X n * lv X' n') (lv Y m * lv Y' m')) (lv Y m * lv Y' m' / Nat.gcd (lv X n * lv X' n') (lv Y m * lv Y' m')) w.heap.size 16777218 /\ w.Since w.heap.size w' := by
 obtain ⟨sA, zA, -, pA, rA⟩ := bx w (.bool f) (.slice a n ca) (.slice b m cb) (.bool f') (.slice a' n' ca') (.slice b' m' cb') (.bool false) (.slice none 0 0) (.slice none 0 0); have HCO := hide (gcd_cross co co'); clear co co'; have m1 := R.m0; have m1' := R'.m0; go_enter Tryz.func190, Tryz.ntmps190; go_wp2_with fail; generalize (((w.alloc (.cells #[.bool f, .slice a n ca, .slice b m cb] 61)).alloc (.cells #[.bool f', .slice a' n' ca', .slice b' m' cb'] 61)).alloc (.cells #[.bool false, .slice none 0 0, .slice none 0 0] 61)) = w1 at *; refine (yq6 f a b ba oa n ca bb ob m cb X Y w1 (by omega) (by omega) R.nc R.mc (R.keep sA).LX (R.keep sA).LY R.pX R.pY).mono ?_; rintro e w2 ⟨rfl, s2⟩; have S2 := sA.trans (sM s2 sA.size); have z2 := s2.size; have p2 := pA.keep s2; have r2 := rA.keep s2; clear pA rA s2; have t3 := sal w2 (.cells #[.bool f, .slice a n ca, .slice b m cb, .slice none 0 0] 168); have c3 := Box4.new w2 (.bool f) (.slice a n ca) (.slice b m cb) (.slice none 0 0) 168; have p3 := p2.keep t3; have r3 := r2.keep t3; have S3 : w.Since w.heap.size (w2.alloc (.cells #[.bool f, .slice a n ca, .slice b m cb, .slice none 0 0] 168)) := S2.trans (sM t3 S2.size); have k0 := p3.c0; have k1 := p3.c1; have k2 := p3.c2; go_wp2_with fail; generalize w2.alloc (.cells #[.bool f, .slice a n ca, .slice b m cb, .slice none 0 0] 168) = w3 at *; refine (yq6 f' a' b' ba' oa' n' ca' bb' ob' m' cb' X' Y' w3 (by omega) (by omega) R'.nc R'.mc (R'.keep S3).LX (R'.keep S3).LY R'.pX R'.pY).mono ?_; rintro e w4 ⟨rfl, s4⟩; have S4 := S3.trans (sM s4 S3.size); have c4 := c3.keep s4; have r4 := r3.keep s4; have R4 := R.keep S4; have R4' := R'.keep S4; have zc : w.heap.size <= w2.heap.size := by omega
 have lX : 0 < n -> ba < w.heap.size := R.LX.lt; have lY : 0 < m -> bb < w.heap.size := R.LY.lt; have lX' : 0 < n' -> ba' < w.heap.size := R'.LX.lt; have lY' : 0 < m' -> bb' < w.heap.size := R'.LY.lt; have hDD : 0 < lv Y m * lv Y' m' := Nat.mul_pos R.den R'.den; clear k0 k1 k2 p3 p2 r2 c3 r3 s4; go_wp2_with fail
 refine (fracMul_any w2.heap.size f f' a b a' b' ba oa n ca bb ob m cb ba' oa' n' ca' bb' ob' m' cb' X Y X' Y' w4 (by omega) (by omega) (by omega) (by omega) R4.LX R4.LY R4'.LX R4'.LY R.lX R.lY R'.lX R'.lY
  (fun h => by have := lX h; omega) (fun h => by have := lY h; omega) (fun h => by have := lX' h; omega) (fun h => by have := lY' h; omega) R.pX R.pY R'.pX R'.pY R.nc R.mc R'.nc R'.mc R.ac R.bc R'.ac R'.bc R.den R'.den _ _ c4).mono ?_
 rintro e w5 ⟨rfl, v1, v2, v3, g, h, q, c5, K5, N5, D5, b5, b6, b7, O5⟩; have hcl := c4.lt; have r5 := r4.oth O5 (by omega); have S5 := S4.trans (sM (O5.since (by omega)) zc); have T5 := hT.stay hw S5; clear R4 R4' R R' lX lY lX' lY'; go_wp2_with fail; refine (yv4 w2.heap.size (f != f') v1 v2 v3 g h q (lv X n * lv X' n') (lv Y m * lv Y' m') _ (w.heap.size + 1 + 1 + 1) w5 (Nat.zero_le _) T5 c5 (N5.more hn) (D5.more hm) (K5.more (by omega)) HCO.out (by omega) (by omega) b7 (by omega) (by omega) (by omega) (by omega) (by omega) (by omega) hDD).mono ?_; rintro e w6 ⟨v, rfl, ⟨x1, x2, g6, h6, rfl, N6, D6, y1, y2, y3⟩, s6⟩; have rB := r5.since s6 (by omega); have N6' := N6; have D6' := D6; obtain ⟨a1, q1, c1, Y1, rfl, -⟩ := N6; obtain ⟨a2, q2, c2, Y2, rfl, -⟩ := D6; have S6 := S5.trans (sM s6 (by omega)); have u0 := rB.c0; have u1 := rB.c1; have u2 := rB.c2; have uf0 := rB.f 0; have uf1 := rB.f 1; have uf2 := rB.f 2; obtain ⟨neg, hneg⟩ : ∃ neg, (f != f' && lv X n * lv X' n' != 0) = neg := ⟨_, rfl⟩; rw [hneg]; have hneg := hide hneg; go_wp2; have rC := ((rB.set0 (.bool neg)).set1 (.slice a1 q1 c1)).set2 (.slice a2 q2 c2); refine bodyPost_ret (rb3 rfl _ _ _ _ _ _ rfl rC) rfl ?_; have M : xq0 w6 _ (w.heap.size + 1 + 1) := (((xq0.refl w6 _).setCell 0 (.bool neg)).setCell 1 (.slice a1 q1 c1)).setCell 2 (.slice a2 q2 c2); exact ⟨_, rfl, ⟨_, _, g6, h6, by rw [hneg.out], N6'.marked M (by omega), D6'.marked M (by omega), by omega, by omega, y3⟩, S6.trans (M.since (by omega))⟩
theorem sumOf_any (f f' : Bool) (a b a' b' : Option Addr) (ba oa n ca bb ob m cb ba' oa' n' ca' bb' ob' m' cb' : Nat) (X Y X' Y' : Nat -> Nat) (w : World) (hw : 0 <= w.heap.size) (hT : Tab w) (hn : n + n' + m + m' <= 16777216)
 (R : RIn w a b ba oa n ca bb ob m cb X Y) (R' : RIn w a' b' ba' oa' n' ca' bb' ob' m' cb' X' Y') (co : Nat.gcd (lv X n) (lv Y m) = 1) (co' : Nat.gcd (lv X' n') (lv Y' m') = 1) :
 Calls Tryz.prog 191 #[.agg #[.bool f, .slice a n ca, .slice b m cb], .agg #[.bool f', .slice a' n' ca', .slice b' m' cb']] w fun e w' => ∃ v, e = .returned v /\
  RatV w' v (xj5 f f' (lv X n * lv Y' m') (lv X' n' * lv Y m) && xq4 f f' (lv X n * lv Y' m') (lv X' n' * lv Y m) != 0) (xq4 f f' (lv X n * lv Y' m') (lv X' n' * lv Y m) / Nat.gcd (xq4 f f' (lv X n * lv Y' m') (lv X' n' * lv Y m)) (lv Y m * lv Y' m')) (lv Y m * lv Y' m' / Nat.gcd (xq4 f f' (lv X n * lv Y' m') (lv X' n' * lv Y m)) (lv Y m * lv Y' m')) w.heap.size 16777218 /\ w.Since w.heap.size w' := by
 have HCO := hide (gcd_add_shared f f' co co' R.den); obtain ⟨sv, hsv⟩ : ∃ sv, sv = Nat.gcd (lv Y m) (lv Y' m') := ⟨_, rfl⟩; have hs0 : 0 < sv := by rw [hsv]; exact Nat.gcd_pos_of_pos_left _ R.den
 have dY : lv Y m / sv * sv = lv Y m := by rw [hsv]; exact Nat.div_mul_cancel (Nat.gcd_dvd_left _ _)
 have dY' : lv Y' m' / sv * sv = lv Y' m' := by rw [hsv]; exact Nat.div_mul_cancel (Nat.gcd_dvd_right _ _)
 rw [<- hsv] at HCO; have eP : lv X n * lv Y' m' = lv X n * (lv Y' m' / sv) * sv := by rw [Nat.mul_assoc, dY']
 have eR : lv X' n' * lv Y m = lv X' n' * (lv Y m / sv) * sv := by rw [Nat.mul_assoc, dY]
 have eD : lv Y m * lv Y' m' = lv Y m * (lv Y' m' / sv) * sv := by rw [Nat.mul_assoc, dY']
 have hD1 : 0 < lv Y m * (lv Y' m' / sv) := Nat.mul_pos R.den (by rcases Nat.eq_zero_or_pos (lv Y' m' / sv) with e | e; (have h2 := R'.den; rw [e] at dY'; omega); exact e); rw [eP, eR, eD, sumTop_scale _ _ _ _ _ hs0, sumNeg_scale _ _ _ _ _ hs0, Nat.gcd_mul_right, Nat.mul_div_mul_right _ _ hs0, Nat.mul_div_mul_right _ _ hs0]
 have hnz : ∀ t : Nat, (t * sv != 0) = (t != 0) := fun t => by
  rcases Nat.eq_zero_or_pos t with e | e
  . subst e; simp
  . have h2 := Nat.mul_pos e hs0
    have h3 : (t * sv != 0) = true := bne_iff_ne.2 (by omega); have h4 : (t != 0) = true := bne_iff_ne.2 (by omega); rw [h3, h4]
 rw [hnz]; have HSV := hide hsv; have HD1 := hide hD1; clear co co' hsv dY dY' eP eR eD hnz hD1; obtain ⟨sA, zA, -, pA, rA⟩ := bx w (.bool f) (.slice a n ca) (.slice b m cb) (.bool f') (.slice a' n' ca') (.slice b' m' cb') (.bool false) (.slice none 0 0) (.slice none 0 0); have m1 := R.m0; have m1' := R'.m0; go_enter Tryz.func191, Tryz.ntmps191; go_wp2_with fail; generalize (((w.alloc (.cells #[.bool f, .slice a n ca, .slice b m cb] 61)).alloc (.cells #[.bool f', .slice a' n' ca', .slice b' m' cb'] 61)).alloc (.cells #[.bool false, .slice none 0 0, .slice none 0 0] 61)) = w1 at *; refine (yq6 f a b ba oa n ca bb ob m cb X Y w1 (by omega) (by omega) R.nc R.mc (R.keep sA).LX (R.keep sA).LY R.pX R.pY).mono ?_; rintro e w2 ⟨rfl, s2⟩; have S2 := sA.trans (sM s2 sA.size); have z2 := s2.size; have p2 := pA.keep s2; have r2 := rA.keep s2; clear pA rA s2; have t3 := sal w2 (.cells #[.bool f, .slice a n ca, .slice b m cb, .slice none 0 0] 168); have c3 := Box4.new w2 (.bool f) (.slice a n ca) (.slice b m cb) (.slice none 0 0) 168; have p3 := p2.keep t3; have r3 := r2.keep t3; have S3 : w.Since w.heap.size (w2.alloc (.cells #[.bool f, .slice a n ca, .slice b m cb, .slice none 0 0] 168)) := S2.trans (sM t3 S2.size); have k0 := p3.c0; have k1 := p3.c1; have k2 := p3.c2; go_wp2_with fail; generalize w2.alloc (.cells #[.bool f, .slice a n ca, .slice b m cb, .slice none 0 0] 168) = w3 at *; refine (yq6 f' a' b' ba' oa' n' ca' bb' ob' m' cb' X' Y' w3 (by omega) (by omega) R'.nc R'.mc (R'.keep S3).LX (R'.keep S3).LY R'.pX R'.pY).mono ?_; rintro e w4 ⟨rfl, s4⟩; have S4 := S3.trans (sM s4 S3.size); have c4 := c3.keep s4; have r4 := r3.keep s4; have R4 := R.keep S4; have R4' := R'.keep S4; have zc : w.heap.size <= w2.heap.size := by omega
 have lX : 0 < n -> ba < w.heap.size := R.LX.lt; have lY : 0 < m -> bb < w.heap.size := R.LY.lt; have lX' : 0 < n' -> ba' < w.heap.size := R'.LX.lt; have lY' : 0 < m' -> bb' < w.heap.size := R'.LY.lt; clear k0 k1 k2 p3 p2 r2 c3 r3 s4; go_wp2_with fail
 refine (fracAdd_any w2.heap.size f f' a b a' b' ba oa n ca bb ob m cb ba' oa' n' ca' bb' ob' m' cb' X Y X' Y' w4 hn m1 m1' R4.LX R4.LY R4'.LX R4'.LY R.lX R.lY R'.lX R'.lY
  (fun h => by have := lX h; omega) (fun h => by have := lY h; omega) (fun h => by have := lX' h; omega) (fun h => by have := lY' h; omega) R.pY R'.pY R.mc R'.mc R.bc R'.bc R.den R'.den _ _ c4).mono ?_
 rw [<- HSV.out]; rintro e w5 ⟨rfl, v1, v2, v3, g, h, q, c5, K5, N5, D5, b5, b6, b7, b8, b9, O5⟩; have hcl := c4.lt; have r5 := r4.oth O5 (by omega); have S5 := S4.trans (sM (O5.since (by omega)) zc); have T5 := hT.stay hw S5; clear R4 R4' R R' lX lY lX' lY'; go_wp2_with fail; refine (yv4 w2.heap.size _ v1 v2 v3 g h q _ _ _ (w.heap.size + 1 + 1 + 1) w5 (Nat.zero_le _) T5 c5 N5 D5 K5 HCO.out b7 b8 b9 (by omega) (by omega) (by omega) (by omega) (by omega) (by omega) HD1.out).mono ?_; rintro e w6 ⟨v, rfl, ⟨x1, x2, g6, h6, rfl, N6, D6, y1, y2, y3⟩, s6⟩; have rB := r5.since s6 (by omega); have N6' := N6; have D6' := D6; obtain ⟨a1, q1, c1, Y1, rfl, -⟩ := N6; obtain ⟨a2, q2, c2, Y2, rfl, -⟩ := D6; have S6 := S5.trans (sM s6 (by omega)); have u0 := rB.c0; have u1 := rB.c1; have u2 := rB.c2; have uf0 := rB.f 0; have uf1 := rB.f 1; have uf2 := rB.f 2; obtain ⟨neg, hneg⟩ : ∃ neg, (xj5 f f' (lv X n * (lv Y' m' / sv)) (lv X' n' * (lv Y m / sv)) && xq4 f f' (lv X n * (lv Y' m' / sv)) (lv X' n' * (lv Y m / sv)) != 0) = neg := ⟨_, rfl⟩; rw [hneg]; have hneg := hide hneg; go_wp2; have rC := ((rB.set0 (.bool neg)).set1 (.slice a1 q1 c1)).set2 (.slice a2 q2 c2); refine bodyPost_ret (rb3 rfl _ _ _ _ _ _ rfl rC) rfl ?_; have M : xq0 w6 _ (w.heap.size + 1 + 1) := (((xq0.refl w6 _).setCell 0 (.bool neg)).setCell 1 (.slice a1 q1 c1)).setCell 2 (.slice a2 q2 c2); exact ⟨_, rfl, ⟨_, _, g6, h6, by rw [hneg.out], N6'.marked M (by omega), D6'.marked M (by omega), by omega, by omega, y3⟩, S6.trans (M.since (by omega))⟩
def nl (v j : Nat) : Nat := v / 4294967296 ^ j % 4294967296
theorem lv_nl (v k : Nat) : lv (nl v) k = v % 4294967296 ^ k := by
 induction k with
 | zero => simp [lv, Nat.mod_one]
 | succ k ih =>
   have h : lv (nl v) (k + 1) = lv (nl v) k + nl v k * 2 ^ (32 * k) := rfl; rw [h, ih, Nat.pow_succ, Nat.mod_mul, show (2 : Nat) ^ (32 * k) = 4294967296 ^ k by rw [Nat.pow_mul], Nat.mul_comm (4294967296 ^ k)]
   rfl
theorem own_limbs2 {w : World} {base : Nat} {v : Value} {m : Nat} {X : Nat -> Nat} (h : w.ownsRow base 159 1 v m (ll X m)) (hs : v ≠ .slice none 0 0) :
 ∃ a g cap, v = .slice a m cap /\ m <= cap /\ (a = none -> cap = 0) /\ base <= g /\ g < w.heap.size /\ xq1 w a g 0 m X /\ (0 < m -> ∀ o, w.frozen? ⟨g, o, none⟩ = false) := by
 have hc := @World.ownsRow.cells _ _ _ _ _ _ _ h
 rcases h.2 with ⟨rfl, rfl⟩ | ⟨g, cap, cur, rfl, hb, hg, hm, _⟩
 . exact absurd rfl hs
 . refine ⟨_, g, cap, rfl, hm, fun h => (by cases h), hb, (Array.getElem?_eq_some_iff.1 hg).1, fun j hj => ⟨rfl, ?_⟩, fun _ o => by simp [World.frozen?, hg]⟩
   have := hc (g := g) rfl j _ (ll_get X m j hj); rw [Addr.add_lit] at this; exact this
theorem l1LimbsOf_any (v : Nat) (w : World) (hv : v < 18446744073709551616) :
 Calls Tryz.prog 205 #[.int .u64 v] w fun e w' => ∃ x g, e = .returned x /\ xj0 w' x g v 67108864 /\ w.heap.size <= g /\ w.Since w.heap.size w' /\ g < w'.heap.size := by
 obtain ⟨i0, hi, hz0, hz1, hz2⟩ := info_parts Tryz.info159; go_enter Tryz.func205, Tryz.ntmps205; go_wp2
 go_loopw [0, 3] (fun p o wr => ∃ k q : Nat, k <= 2 /\ p = .int .u64 q /\ q < 18446744073709551616 /\ Hid (q = v / 4294967296 ^ k) /\ Hid (0 < k -> 0 < v / 4294967296 ^ (k - 1)) /\ wr.ownsRow w.heap.size 159 1 o k (ll (nl v) k) /\ w.Since w.heap.size wr /\ Hid (o ≠ .slice none 0 0)) (fun p _ _ => (intOf p).toNat)
 case atStart => exact ⟨0, v, by omega, rfl, hv, hide (by simp), hide (fun h => absurd h (by omega)), World.ownsRow_made w #[] 0 (Nat.le_refl _) (by decide) rfl, (World.Since.refl _ _).alloc (Nat.le_refl _) _, hide (by simp)⟩
 case round =>
  obtain ⟨k, q, hk, rfl, hq, HQ, HP, hown, hs, hsz⟩ := hrel
  by_cases h0 : q = 0
  . subst h0
    obtain ⟨a', g, cap', rfl, hmc, hac, hg, hgl, hL, hf⟩ := own_limbs2 hown hsz.out; go_wp2; go_ret
    have hlt : v < 4294967296 ^ k := by
     have := HQ.out; have h2 : 0 < 4294967296 ^ k := Nat.pow_pos (by omega)
     rcases Nat.lt_or_ge v (4294967296 ^ k) with h | h
     . exact h
     . have := Nat.div_pos h h2; omega
    refine ⟨_, g, rfl, ⟨a', k, cap', nl v, rfl, hmc, by omega, hac, hL, hf, fun j _ => Nat.mod_lt _ (by omega), fun h => ?_, (lv_nl v k).trans (Nat.mod_eq_of_lt hlt)⟩, hg, hs, hgl⟩; have h1 := HP.out h; obtain ⟨j, rfl⟩ : ∃ j, k = j + 1 := ⟨k - 1, by omega⟩; have h2 : v / 4294967296 ^ j < 4294967296 := by rw [Nat.div_lt_iff_lt_mul (Nat.pow_pos (by omega))]; rw [Nat.pow_succ] at hlt; omega
    simp only [Nat.add_sub_cancel] at h1 ⊢; unfold nl; rw [Nat.mod_eq_of_lt h2]; omega
  . have hk2 : k < 2 := by
     rcases Nat.lt_or_ge k 2 with h | h
     . exact h
     . have e : k = 2 := by omega
       subst e; have := HQ.out; rw [Nat.div_eq_of_lt (show v < 4294967296 ^ 2 by omega)] at this; omega
    have hne : 0 < q := by omega
    have hne2 : ((q : Int) == 0) = false := by simp; omega
    obtain ⟨y, hy⟩ : ∃ y, y = nl v k := ⟨_, rfl⟩; have hyq : (q : Int) % 4294967296 = (y : Int) := by rw [hy]; unfold nl; rw [<- HQ.out]; omega
    have hyl : y < 4294967296 := by rw [hy]; exact Nat.mod_lt _ (by omega)
    have HY := hide hy; clear hy h0
    go_wp2_with (at_builtin; refine wpList_append_own _ rfl _ _ 59 rfl w.heap.size 159 i0 (.int .u32 0) 1 4 Tryz.underlying59 hi hz0 hz1 hz2 rfl (by decide) _ _ _ rfl (hown.alloc _) ⟨wr.heap.size, 0, none⟩ 1 1 [.int .u32 _] rfl rfl (xj2 _ _ _) (xj6 _ rfl) (by unfold maxLen; omega) (by omega) (by have := hs.size; simp; omega) ?_)
    intro v' w1 hown' hgrow hnn; have hs1 : w.Since w.heap.size w1 := (hs.alloc hs.size _).grown hgrow (by have := hs.size; simp; omega) (fun k hk => (hown.lt k hk).1); have HN := hide hnn; rw [HY.out, <- ll_succ] at hown'; clear hgrow hown hs hnn hsz; go_wp2; go_roundw
    case rel => exact ⟨k + 1, q / 4294967296, by omega, by go_num, by omega, hide (by rw [HQ.out, Nat.div_div_eq_div_mul, Nat.pow_succ]), hide (fun _ => by rw [Nat.add_sub_cancel, <- HQ.out]; exact hne), hown', hs1, HN⟩
    case measure => simp [intOf]; omega
theorem xw5 (neg : Bool) (n d : Nat) (w : World) (hn : n < 18446744073709551616) (hd : d < 18446744073709551616) (hd0 : 0 < d) :
 Calls Tryz.prog 184 #[.bool neg, .int .u64 n, .int .u64 d] w fun e w' => ∃ v, e = .returned v /\ RatV w' v (neg && n != 0) (n / Nat.gcd n d) (d / Nat.gcd n d) w.heap.size 67108864 /\ w.Since w.heap.size w' := by
 by_cases h0 : n = 0
 . subst h0
   have e1 : d / Nat.gcd 0 d = 1 := by rw [Nat.gcd_zero_left]; exact Nat.div_self hd0
   rw [show (neg && (0 : Nat) != 0) = false by simp, Nat.zero_div, e1]; clear e1; have sA := sal w (.cells #[.bool false, .slice none 0 0, .slice none 0 0] 61); have rA := Box3.new w (.bool false) (.slice none 0 0) (.slice none 0 0) 61; go_enter Tryz.func184, Tryz.ntmps184; go_wp2_with fail; generalize (w.alloc (.cells #[.bool false, .slice none 0 0, .slice none 0 0] 61)) = w1 at *; refine (xv2 w1).mono ?_; rintro e w2 ⟨v, rfl, ⟨v1, v2, g, h, rfl, N1, N2, b1, b2, ne⟩, s2⟩; have rB := rA.keep s2; have hz := rA.lt; have N1' := N1; have N2' := N2; obtain ⟨a1, m1, c1, Y1, rfl, -⟩ := N1; obtain ⟨a2, m2, c2, Y2, rfl, -⟩ := N2; have u0 := rB.c0; have u1 := rB.c1; have u2 := rB.c2; have uf0 := rB.f 0; have uf1 := rB.f 1; have uf2 := rB.f 2; go_wp2; have r4 := ((rB.set0 (.bool false)).set1 (.slice a1 m1 c1)).set2 (.slice a2 m2 c2); refine bodyPost_ret (rb3 rfl _ _ _ _ _ _ rfl r4) rfl ?_; have M : xq0 w2 _ w.heap.size := (((xq0.refl w2 _).setCell 0 (.bool false)).setCell 1 (.slice a1 m1 c1)).setCell 2 (.slice a2 m2 c2); exact ⟨_, rfl, ⟨_, _, g, h, rfl, N1'.marked M (by omega), N2'.marked M (by omega), by omega, by omega, ne⟩, (sA.trans (sM s2 sA.size)).trans (M.since (Nat.le_refl _))⟩
 . have hne : ((n : Int) == 0) = false := by simp; omega
   obtain ⟨G, hG⟩ : ∃ G, G = Nat.gcd n d := ⟨_, rfl⟩; have hG0 : 0 < G := by rw [hG]; exact Nat.gcd_pos_of_pos_right n hd0
   have hGl : G < 18446744073709551616 := by rw [hG]; exact Nat.lt_of_le_of_lt (Nat.gcd_le_right n hd0) hd
   have hb : (neg && n != 0) = neg := by simp [h0]
   rw [<- hG, hb]; have sA := sal w (.cells #[.bool false, .slice none 0 0, .slice none 0 0] 61); have rA := Box3.new w (.bool false) (.slice none 0 0) (.slice none 0 0) 61; have JG := yx1 n d (w.alloc (.cells #[.bool false, .slice none 0 0, .slice none 0 0] 61)) hn hd; rw [<- hG] at JG; obtain ⟨x, hx⟩ : ∃ x, x = n / G := ⟨_, rfl⟩; obtain ⟨y, hy⟩ : ∃ y, y = d / G := ⟨_, rfl⟩; have hxl : x < 18446744073709551616 := by rw [hx]; exact Nat.lt_of_le_of_lt (Nat.div_le_self _ _) hn
   have hyl : y < 18446744073709551616 := by rw [hy]; exact Nat.lt_of_le_of_lt (Nat.div_le_self _ _) hd
   have hxd : IntKind.u64.wrap ((n : Int) / (G : Int)) = (x : Int) := by rw [<- Int.natCast_ediv, <- hx]; exact xq8 x hxl
   have hyd : IntKind.u64.wrap ((d : Int) / (G : Int)) = (y : Int) := by rw [<- Int.natCast_ediv, <- hy]; exact xq8 y hyl
   have hGz : ((G : Int) == 0) = false := by simp; omega
   have hGz2 : ¬ (G : Int) = 0 := by omega
   rw [<- hx, <- hy]; clear hx hy hG hn hd; go_enter Tryz.func184, Tryz.ntmps184; go_wp2_with fail; refine JG.mono ?_; rintro e w1 ⟨rfl, rfl⟩; clear JG; generalize (w.alloc (.cells #[.bool false, .slice none 0 0, .slice none 0 0] 61)) = w1 at *; have J1 := l1LimbsOf_any x w1.drew hxl; go_wp2
   go_region_held (fun _ => True) (trivial)
    (first
      | (go_at_call 205
         first
          | (with_reducible refine J1.mono ?_
             rintro e w2 ⟨v1, g, rfl, N1, b1, s2, z2⟩; have J2 := l1LimbsOf_any y w2 hyl; have rC := rA.drew.keep s2; have N1' := N1; obtain ⟨a1, m1, c1, Y1, rfl, -⟩ := N1)
          | (with_reducible refine J2.mono ?_
             rintro e w3 ⟨v2, h, rfl, N2, b2, s3, z3⟩; have N2' := N2; obtain ⟨a2, m2, c2, Y2, rfl, -⟩ := N2; have rB := rC.keep s3; have u0 := rB.c0; have u1 := rB.c1; have u2 := rB.c2; have uf0 := rB.f 0; have uf1 := rB.f 1; have uf2 := rB.f 2)))
   all_goals go_wp2
   all_goals
    have hz : w.heap.size < w1.heap.size := rA.lt; have zd : w1.drew.heap.size = w1.heap.size := rfl; have r4 := ((rB.set0 (.bool neg)).set1 (.slice a1 m1 c1)).set2 (.slice a2 m2 c2); refine bodyPost_ret (rb3 rfl _ _ _ _ _ _ rfl r4) rfl ?_; have M : xq0 w3 _ w.heap.size := (((xq0.refl w3 _).setCell 0 (.bool neg)).setCell 1 (.slice a1 m1 c1)).setCell 2 (.slice a2 m2 c2); have S1 : w.Since w.heap.size w1.drew := xq6 sA; exact ⟨_, rfl, ⟨_, _, g, h, rfl, (N1'.keep s3).marked M (by omega), N2'.marked M (by omega), by omega, by omega, by omega⟩, ((S1.trans (sM s2 S1.size)).trans (sM s3 (Nat.le_trans S1.size s2.size))).trans (M.since (Nat.le_refl _))⟩
theorem xx9 (neg : Bool) (v1 v2 : Value) (n m : Nat) (A B : Nat -> Bool) (w : World) (hn : n <= 1073741824) (hm : m <= 1073741824) (hA : Tr w v1 n A) (hB : Tr w v2 m B) (hD : 0 < bv B m) :
 Calls Tryz.prog 107 #[.bool neg, v1, v2] w fun e w' => ∃ v, e = .returned v /\ RatV w' v (neg && bv A n != 0) (bv A n / Nat.gcd (bv A n) (bv B m)) (bv B m / Nat.gcd (bv A n) (bv B m)) w.heap.size 67108864 /\ w.Since w.heap.size w' := by
 have hA' := hA; have hB' := hB; obtain ⟨a, ba, oa, ca, rfl, hca, LA, tA⟩ := hA; obtain ⟨b, bb, ob, cb, rfl, hcb, LB, tB⟩ := hB; have sA := sal w (.cells #[.bool false, .slice none 0 0, .slice none 0 0] 61); have rA := Box3.new w (.bool false) (.slice none 0 0) (.slice none 0 0) 61
 by_cases h0 : n = 0
 . subst h0
   have e0 : bv A 0 = 0 := rfl; rw [e0]; have e1 : bv B m / Nat.gcd 0 (bv B m) = 1 := by rw [Nat.gcd_zero_left]; exact Nat.div_self hD
   rw [show (neg && (0 : Nat) != 0) = false by simp, Nat.zero_div, e1]; clear e1 e0 tA tB hD hA' hB'; go_enter Tryz.func107, Tryz.ntmps107; go_wp2_with fail; generalize (w.alloc (.cells #[.bool false, .slice none 0 0, .slice none 0 0] 61)) = w1 at *; refine (xv2 w1).mono ?_; rintro e w2 ⟨v, rfl, ⟨v1, v2, g, h, rfl, N1, N2, b1, b2, ne⟩, s2⟩; have rB := rA.keep s2; have hz := rA.lt; have N1' := N1; have N2' := N2; obtain ⟨a1, m1, c1, Y1, rfl, -⟩ := N1; obtain ⟨a2, m2, c2, Y2, rfl, -⟩ := N2; have u0 := rB.c0; have u1 := rB.c1; have u2 := rB.c2; have uf0 := rB.f 0; have uf1 := rB.f 1; have uf2 := rB.f 2; go_wp2; have r4 := ((rB.set0 (.bool false)).set1 (.slice a1 m1 c1)).set2 (.slice a2 m2 c2); refine bodyPost_ret (rb3 rfl _ _ _ _ _ _ rfl r4) rfl ?_; have M : xq0 w2 _ w.heap.size := (((xq0.refl w2 _).setCell 0 (.bool false)).setCell 1 (.slice a1 m1 c1)).setCell 2 (.slice a2 m2 c2); exact ⟨_, rfl, ⟨_, _, g, h, rfl, N1'.marked M (by omega), N2'.marked M (by omega), by omega, by omega, ne⟩, (sA.trans (sM s2 sA.size)).trans (M.since (Nat.le_refl _))⟩
 . have hne : ((n : Int) == 0) = false := by simp; omega
   have hpos : 0 < bv A n := bv_pos (by omega) (tA (by omega))
   have hb : (neg && bv A n != 0) = neg := by
    have h9 : bv A n ≠ 0 := by omega
    simp [h9]
   rw [hb]; obtain ⟨G, hG⟩ : ∃ G, G = Nat.gcd (bv A n) (bv B m) := ⟨_, rfl⟩; have hG0 : 0 < G := by rw [hG]; exact Nat.gcd_pos_of_pos_right _ hD
   have hGl : G <= bv B m := by rw [hG]; exact Nat.gcd_le_right _ hD
   have hGA : G <= bv A n := by rw [hG]; exact Nat.gcd_le_left _ hpos
   rw [<- hG]; clear hb; go_enter Tryz.func107, Tryz.ntmps107; go_wp2_with fail; generalize (w.alloc (.cells #[.bool false, .slice none 0 0, .slice none 0 0] 61)) = w1 at *; refine (yv6 _ _ n m A B w1 hn hm (hA'.keep sA) (hB'.keep sA)).mono ?_; rintro e w2 ⟨v3, t, O, rfl, ht, T3, e3, s2⟩; rw [<- hG] at e3; obtain ⟨a3, b3, o3, c3, rfl, hc3, L3, p3⟩ := T3; have S2 := sA.trans (sM s2 sA.size); have htm : t <= m := bv_len p3 (by rw [e3]; exact hGl); clear hG hA' hB'; go_wp2_with fail; refine (l1DivBits_any a a3 ba oa n ca b3 o3 t c3 A O w2 (by omega) (by omega) (LA.keep S2) L3 p3 (by rw [e3]; exact hG0)).mono ?_; rintro e w3 ⟨gq, tq, cq, Q, gr, tr, cr, R, rfl, q1, q2, q3, q4, LQ, -, q5, q6, q7, q8, eQ, -, s3⟩; have S3 := S2.trans (sM s3 S2.size); go_wp2_with fail; refine (l1DivBits_any b a3 bb ob m cb b3 o3 t c3 B O w3 (by omega) (by omega) (LB.keep S3) (L3.keep s3) p3 (by rw [e3]; exact hG0)).mono ?_; rintro e w4 ⟨gp, tp, cp, Q', gs, ts, cs, R', rfl, p1, p2, p3', p4, LP, -, p5, p6, p7, p8, eP, -, s4⟩; have S4 := S3.trans (sM s4 S3.size); have rB := ((rA.keep s2).keep s3).keep s4; rw [e3] at eQ eP; have EE := hide (And.intro (eQ.trans rfl) (And.intro eP (And.intro (Nat.div_pos hGA hG0) (Nat.div_pos hGl hG0)))); clear eQ eP e3 q7 q8 p7 p8 p3 hpos tA tB hD hG0 hGl hGA; go_wp2_with fail; refine (l1Limbs_any _ gq 0 tq cq Q w4 (by omega) q1 (LQ.keep s4)).mono ?_; rintro e w5 ⟨a5, g5, m5, c5, Y5, rfl, x1, x2, L5, x3, F5, l5, y5, e5, s5⟩; go_wp2_with fail; refine (l1Limbs_any _ gp 0 tp cp Q' w5 (by omega) p1 (LP.keep s5)).mono ?_; rintro e w6 ⟨a6, g6, m6, c6, Y6, rfl, z1, z2, L6, z3, F6, l6, y6, e6, s6⟩; have rC := (rB.keep s5).keep s6; have u0 := rC.c0; have u1 := rC.c1; have u2 := rC.c2; have uf0 := rC.f 0; have uf1 := rC.f 1; have uf2 := rC.f 2; have hz := rB.lt; have b5 := s5.size; have b6 := s6.size; have EF := hide (And.intro l5 (And.intro y5 (And.intro e5 (And.intro l6 (And.intro y6 e6))))); clear l5 y5 e5 l6 y6 e6; go_wp2; obtain ⟨l5, y5, e5, l6, y6, e6⟩ := EF.out; obtain ⟨f1, f2, f3, f4⟩ := EE.out
   have k5 : 0 < m5 := by
    rcases Nat.eq_zero_or_pos m5 with h | h
    . subst h; rw [show lv Y5 0 = 0 from rfl] at e5; omega
    . exact h
   have k6 : 0 < m6 := by
    rcases Nat.eq_zero_or_pos m6 with h | h
    . subst h; rw [show lv Y6 0 = 0 from rfl] at e6; omega
    . exact h
   have N5 : xj0 w5 (.slice a5 m5 c5) g5 (bv A n / G) 67108864 := ⟨a5, m5, c5, Y5, rfl, x1, by omega, fun h => (by rw [(L5 0 k5).1] at h; cases h), L5, F5, fun j _ => l5 j, y5, e5.trans f1⟩; have N6 : xj0 w6 (.slice a6 m6 c6) g6 (bv B m / G) 67108864 := ⟨a6, m6, c6, Y6, rfl, z1, by omega, fun h => (by rw [(L6 0 k6).1] at h; cases h), L6, F6, fun j _ => l6 j, y6, e6.trans f2⟩; have g5l := L5.lt k5; have x3' := x3 k5; have z3' := z3 k6; have r4 := ((rC.set0 (.bool neg)).set1 (.slice a5 m5 c5)).set2 (.slice a6 m6 c6); refine bodyPost_ret (rb3 rfl _ _ _ _ _ _ rfl r4) rfl ?_; have M : xq0 w6 _ w.heap.size := (((xq0.refl w6 _).setCell 0 (.bool neg)).setCell 1 (.slice a5 m5 c5)).setCell 2 (.slice a6 m6 c6); exact ⟨_, rfl, ⟨_, _, g5, g6, rfl, (N5.keep s6).marked M (by omega), N6.marked M (by omega), by have := S4.size; omega, by have := S4.size; omega, by omega⟩, ((S4.trans (sM s5 S4.size)).trans (sM s6 (Nat.le_trans S4.size b5))).trans (M.since (Nat.le_refl _))⟩
theorem yv9 (f : Bool) (a b : Option Addr) (n ca m cb : Nat) (w : World) :
 Calls Tryz.prog 164 #[.agg #[.bool f, .slice a n ca, .slice b m cb]] w fun e w' => e = .returned (.bool ((n : Int) == 0)) /\ w.Since w.heap.size w' := by
 have sA := sal w (.cells #[.bool f, .slice a n ca, .slice b m cb] 61); go_enter Tryz.func164, Tryz.ntmps164; go_wp2; go_ret; exact ⟨rfl, sA⟩
def cmpR (f f' : Bool) (x y : Nat) : Int := if f = f' then (if f then cmpN y x else cmpN x y) else if f then -1 else 1
end Go.Proofs.YtnogbaapcjjngaaGreatDoor
