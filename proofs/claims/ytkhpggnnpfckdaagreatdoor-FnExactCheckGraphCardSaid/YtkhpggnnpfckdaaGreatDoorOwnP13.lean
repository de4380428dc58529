import Derived.Test.YtkhpggnnpfckdaaGreatDoorOwnP11
import Derived.Test.YtkhpggnnpfckdaaGreatDoorOwnP10
namespace Go.Proofs.YtkhpggnnpfckdaaGreatDoor
open Go.RowKit

theorem row_keep {w w' : World} {g t n : Nat} {F : Nat → Value} (h : w.rowIs g t n F) (s : w.Since w.heap.size w') : w'.rowIs g t n F := h.of_block (s.block g h.lt)
theorem row_oth {w w' : World} {g t n c : Nat} {F : Nat → Value} (h : w.rowIs g t n F) (s : Oth c w w') (hne : g ≠ c) : w'.rowIs g t n F := h.of_block (s.block g h.lt hne)

theorem Oth.up {c d : Nat} {w w1 w2 : World} (x : Oth c w w1) (y : Oth d w1 w2) (hd : w.heap.size ≤ d) : Oth c w w2 :=
  ⟨y.os.trans x.os, y.tape.trans x.tape, y.output.trans x.output, Nat.le_trans x.size y.size, fun k h1 h2 => (y.block k (Nat.lt_of_lt_of_le h1 x.size) (by omega)).trans (x.block k h1 h2)⟩
theorem Oth.up3 {c g h : Nat} {w w1 w2 : World} (x : Oth c w w1) (y : Oth3 c g h w1 w2) (hg : w.heap.size ≤ g) (hh : w.heap.size ≤ h) : Oth c w w2 :=
  ⟨y.os.trans x.os, y.tape.trans x.tape, y.output.trans x.output, Nat.le_trans x.size y.size, fun k h1 h2 => (y.block k (Nat.lt_of_lt_of_le h1 x.size) h2 (by omega) (by omega)).trans (x.block k h1 h2)⟩

/-- multiply at the second cell of a struct: the row told. -/
theorem mulAt1r (c : Nat) (x z : Value) (a a' : Option Addr) (b off n cap b' off' m cap' : Nat) (X Y : Nat → Nat) (w : World) (hn : n ≤ 67108864) (hm : m ≤ 67108864) (hX : Limbs w a b off n X) (hY : Limbs w a' b' off' m Y)
    (hXl : ∀ j, j < n → X j < 4294967296) (hYl : ∀ j, j < m → Y j < 4294967296) (B : Box3 w c x (.slice a n cap) z) :
    Calls Tryz.prog 124 #[.pointer (some ⟨c, 1, none⟩), .slice a' m cap'] w fun e w' => e = .returned (.tuple #[]) ∧ ∃ P : Nat → Nat, Box3 w' c x (.slice (some ⟨w.heap.size, 0, none⟩) (tlen (nz P) (n + m)) (n + m)) z ∧ w'.rowIs w.heap.size 119 (n + m) (fun j => .int .u32 (P j : Nat)) ∧
      (∀ k, P k < 4294967296) ∧ lv P (n + m) = lv X n * lv Y m ∧ Oth c w w' ∧ w.heap.size < w'.heap.size := by
  refine (multiply_any c 1 a a' b off n cap b' off' m cap' X Y w hn hm hX hY hXl hYl B.c1 (B.f 1)).mono ?_
  rintro e w' ⟨rfl, w2, P, s, r, hP, hv, rfl⟩
  have M := (Marked.refl w2 c).setCell 1 (.slice (some ⟨w.heap.size, 0, none⟩) (tlen (nz P) (n + m)) (n + m))
  exact ⟨rfl, P, (B.keep s).set1 _, r.of_block (M.other _ (Nat.ne_of_gt B.lt)), hP, hv, (Oth.ofSince c s).trans (Oth.ofMarked M), by rw [M.size]; exact r.lt⟩

/-- multiply at a box of one cell: the row told. -/
theorem mulAtR (c : Nat) (a a' : Option Addr) (b off n cap b' off' m cap' : Nat) (X Y : Nat → Nat) (w : World) (hn : n ≤ 67108864) (hm : m ≤ 67108864) (hX : Limbs w a b off n X) (hY : Limbs w a' b' off' m Y)
    (hXl : ∀ j, j < n → X j < 4294967296) (hYl : ∀ j, j < m → Y j < 4294967296) (hc0 : w.cell? ⟨c, 0, none⟩ = some (.slice a n cap)) (hf0 : w.frozen? ⟨c, 0, none⟩ = false) :
    Calls Tryz.prog 124 #[.pointer (some ⟨c, 0, none⟩), .slice a' m cap'] w fun e w' => e = .returned (.tuple #[]) ∧ ∃ P : Nat → Nat, w'.cell? ⟨c, 0, none⟩ = some (.slice (some ⟨w.heap.size, 0, none⟩) (tlen (nz P) (n + m)) (n + m)) ∧ w'.frozen? ⟨c, 0, none⟩ = false ∧ w'.rowIs w.heap.size 119 (n + m) (fun j => .int .u32 (P j : Nat)) ∧
      (∀ k, P k < 4294967296) ∧ lv P (n + m) = lv X n * lv Y m ∧ Oth c w w' ∧ w.heap.size < w'.heap.size := by
  have hcl := World.block_lt_of_cell? _ _ hc0
  refine (multiply_any c 0 a a' b off n cap b' off' m cap' X Y w hn hm hX hY hXl hYl hc0 hf0).mono ?_
  rintro e w' ⟨rfl, w2, P, s, r, hP, hv, rfl⟩
  have M := (Marked.refl w2 c).setCell 0 (.slice (some ⟨w.heap.size, 0, none⟩) (tlen (nz P) (n + m)) (n + m))
  have h2 : w2.cell? ⟨c, 0, none⟩ = some (.slice a n cap) := by rw [s.cell (a := ⟨c, 0, none⟩) hcl]; exact hc0
  exact ⟨rfl, P, World.cell?_setCell_same _ _ _ h2, by rw [M.frozen, s.frozen (a := ⟨c, 0, none⟩) hcl]; exact hf0, r.of_block (M.other _ (Nat.ne_of_gt hcl)), hP, hv, (Oth.ofSince c s).trans (Oth.ofMarked M), by rw [M.size]; exact r.lt⟩

set_option maxHeartbeats 1600000 in
set_option maxRecDepth 100000 in
/-- (*fraction).add. -/
theorem fracAdd_any (c : Nat) (f f' : Bool) (a b a' b' : Option Addr) (ba oa n ca bb ob m cb ba' oa' n' ca' bb' ob' m' cb' : Nat) (X Y X' Y' : Nat → Nat) (w : World) (hn : n + n' + m + m' ≤ 16777216) (hm0 : 0 < m) (hm0' : 0 < m')
    (hX : Limbs w a ba oa n X) (hY : Limbs w b bb ob m Y) (hX' : Limbs w a' ba' oa' n' X') (hY' : Limbs w b' bb' ob' m' Y') (hXl : ∀ j, j < n → X j < 4294967296) (hYl : ∀ j, j < m → Y j < 4294967296) (hXl' : ∀ j, j < n' → X' j < 4294967296) (hYl' : ∀ j, j < m' → Y' j < 4294967296)
    (ea : 0 < n → ba ≠ c) (eb : 0 < m → bb ≠ c) (_ea' : 0 < n' → ba' ≠ c) (eb' : 0 < m' → bb' ≠ c) (B : Box3 w c (.bool f) (.slice a n ca) (.slice b m cb)) :
    Calls Tryz.prog 143 #[.pointer (some ⟨c, 0, none⟩), .agg #[.bool f', .slice a' n' ca', .slice b' m' cb']] w fun e w' => e = .returned (.tuple #[]) ∧ ∃ v1 v2 g h, Box3 w' c (.bool (sumNeg f f' (lv X n * lv Y' m') (lv X' n' * lv Y m))) v1 v2 ∧
      NatAt w' v1 g (sumTop f f' (lv X n * lv Y' m') (lv X' n' * lv Y m)) 16777216 ∧ NatAt w' v2 h (lv Y m * lv Y' m') 16777216 ∧ w.heap.size ≤ g ∧ w.heap.size ≤ h ∧ g ≠ h ∧ g < w'.heap.size ∧ h < w'.heap.size ∧ Oth c w w' := by
  have sA : w.Since w.heap.size ((w.alloc (.cells #[.bool f', .slice a' n' ca', .slice b' m' cb'] 129)).alloc (.cells #[.slice a' n' ca'] 115)) := ((World.Since.refl _ _).alloc (Nat.le_refl _) _).alloc (by simp) _
  have gA : Box3 ((w.alloc (.cells #[.bool f', .slice a' n' ca', .slice b' m' cb'] 129)).alloc (.cells #[.slice a' n' ca'] 115)) w.heap.size (.bool f') (.slice a' n' ca') (.slice b' m' cb') := (Box3.new w _ _ _ _).keep ((World.Since.refl _ _).alloc (Nat.le_refl _) _)
  have BA := B.keep sA
  have hcl := B.lt
  have zA : ((w.alloc (.cells #[.bool f', .slice a' n' ca', .slice b' m' cb'] 129)).alloc (.cells #[.slice a' n' ca'] 115)).heap.size = w.heap.size + 1 + 1 := by simp
  have qA : ((w.alloc (.cells #[.bool f', .slice a' n' ca', .slice b' m' cb'] 129)).alloc (.cells #[.slice a' n' ca'] 115)).cell? ⟨w.heap.size + 1, 0, none⟩ = some (.slice a' n' ca') ∧ ((w.alloc (.cells #[.bool f', .slice a' n' ca', .slice b' m' cb'] 129)).alloc (.cells #[.slice a' n' ca'] 115)).frozen? ⟨w.heap.size + 1, 0, none⟩ = false := by
    simp
  have kB := BA.c2
  have JA := mulAtR (w.heap.size + 1) a' b ba' oa' n' ca' bb ob m cb X' Y ((w.alloc (.cells #[.bool f', .slice a' n' ca', .slice b' m' cb'] 129)).alloc (.cells #[.slice a' n' ca'] 115)) (by omega) (by omega) (hX'.keep sA) (hY.keep sA) hXl' hYl qA.1 qA.2
  go_enter Tryz.func143, Tryz.ntmps143
  go_wp2_with fail
  generalize ((w.alloc (.cells #[.bool f', .slice a' n' ca', .slice b' m' cb'] 129)).alloc (.cells #[.slice a' n' ca'] 115)) = w1 at *
  have zl : w.heap.size + 1 + 1 ≤ w1.heap.size := by omega
  clear kB zA
  refine JA.mono ?_
  rintro e w2 ⟨rfl, P1, q2, qf2, r2, hP1, e1, O2, z2⟩
  have O02 : Oth c w w2 := (Oth.ofSince c sA).up O2 (by omega)
  have B2 := BA.oth O2 (by omega)
  have G2 := gA.oth O2 (by omega)
  have k2 := G2.c2
  clear JA BA gA O2 sA
  have JB := mulAt1r c _ _ a b' ba oa n ca bb' ob' m' cb' X Y' w2.drew (by omega) (by omega) (hX.oth O02.drew ea) (hY'.oth O02.drew eb') hXl hYl' B2.drew
  go_wp2_with fail
  go_region_held3 (fun w' => w'.cell? ⟨w.heap.size, 2, none⟩ = some (.slice b' m' cb')) (go_keep)
    (first
      | (go_at_call 124
         with_reducible refine JB.mono ?_
         rintro e w3 ⟨rfl, P2, B3, r3, hP2, e2, O3, z3⟩
         have i1 := (G2.drew.oth O3 (by omega)).c2))
  have O3 : Oth c w2 w3 := ⟨O3.os, O3.tape, O3.output, O3.size, O3.block⟩
  have O03 := O02.trans O3
  have G3 := G2.oth O3 (by omega)
  have q3 : w3.cell? ⟨w.heap.size + 1, 0, none⟩ = _ := (O3.cell (a := ⟨w.heap.size + 1, 0, none⟩) (World.block_lt_of_cell? _ _ q2) (show w.heap.size + 1 ≠ c by omega)).trans q2
  have r23 := row_oth r2 O3 (by omega)
  have z3 : w2.heap.size < w3.heap.size := z3
  have r3 : w3.rowIs w2.heap.size _ _ _ := r3
  have B3 : Box3 w3 c (.bool f) (.slice (some ⟨w2.heap.size, 0, none⟩) (tlen (nz P2) (n + m')) (n + m')) (.slice b m cb) := B3
  clear k2 i1 JB B2 G2 O02 q2 qf2 r2
  have k2 := G3.c2
  have JC := mulAt2 c _ _ b b' bb ob m cb bb' ob' m' cb' Y Y' w3.drew (by omega) (by omega) (hY.oth O03.drew eb) (hY'.oth O03.drew eb') hYl hYl' B3.drew
  go_wp2_with fail
  go_region_held3 (fun w' => w'.cell? ⟨w.heap.size, 2, none⟩ = some (.slice b' m' cb')) (go_keep)
    (first
      | (go_at_call 124
         with_reducible refine JC.mono ?_
         rintro e w4 ⟨rfl, v2, B4, N4, O4, z4⟩
         have i1 := (G3.drew.oth O4 (by omega)).c2))
  have O4 : Oth c w3 w4 := ⟨O4.os, O4.tape, O4.output, O4.size, O4.block⟩
  have O04 := O03.trans O4
  have G4 := G3.oth O4 (by omega)
  have q4 : w4.cell? ⟨w.heap.size + 1, 0, none⟩ = _ := (O4.cell (a := ⟨w.heap.size + 1, 0, none⟩) (World.block_lt_of_cell? _ _ q3) (show w.heap.size + 1 ≠ c by omega)).trans q3
  have r24 := row_oth r23 O4 (by omega)
  have r34 := row_oth r3 O4 (by omega)
  have z4 : w3.heap.size < w4.heap.size := z4
  have N4 : NatAt w4 v2 w3.heap.size (lv Y m * lv Y' m') (m + m') := N4
  clear k2 i1 JC B3 G3 O03 q3 r23 r3 O3 O4
  have k1 := G4.c0
  have k3 := q4
  go_wp2_with fail
  refine (addTop_any c f f' v2 w2.heap.size w1.heap.size (n + m') (n' + m) P2 P1 w4 (by omega) (by omega) B4 r34 r24 hP2 hP1 (by omega) (by omega) (by omega)).mono ?_
  rintro e w5 ⟨rfl, v, gg, B5, N5, hgg, hgl, O5⟩
  rw [e1, e2] at B5 N5
  have hs := O5.size
  go_wp2
  go_end0
  exact ⟨rfl, v, v2, gg, w3.heap.size, B5, N5, (N4.ofBlock (fun _ => O5.block w3.heap.size (by omega) (by omega) (by omega) (by omega))).more (by omega), by omega, by omega, by omega, hgl, by omega, O04.up3 O5 (by omega) (by omega)⟩

end Go.Proofs.YtkhpggnnpfckdaaGreatDoor

namespace Go.Proofs.YtkhpggnnpfckdaaGreatDoor
open Go.RowKit

set_option maxHeartbeats 1600000 in
set_option maxRecDepth 100000 in
theorem sumOf_any (f f' : Bool) (a b a' b' : Option Addr) (ba oa n ca bb ob m cb ba' oa' n' ca' bb' ob' m' cb' : Nat) (X Y X' Y' : Nat → Nat) (w : World) (hw : 0 < w.heap.size) (hT : Tab w) (hn : n + n' + m + m' ≤ 16777216)
    (R : RIn w a b ba oa n ca bb ob m cb X Y) (R' : RIn w a' b' ba' oa' n' ca' bb' ob' m' cb' X' Y') :
    Calls Tryz.prog 198 #[.agg #[.bool f, .slice a n ca, .slice b m cb], .agg #[.bool f', .slice a' n' ca', .slice b' m' cb']] w fun e w' => ∃ v, e = .returned v ∧
      RatV w' v (sumNeg f f' (lv X n * lv Y' m') (lv X' n' * lv Y m) && sumTop f f' (lv X n * lv Y' m') (lv X' n' * lv Y m) != 0) (sumTop f f' (lv X n * lv Y' m') (lv X' n' * lv Y m) / Nat.gcd (sumTop f f' (lv X n * lv Y' m') (lv X' n' * lv Y m)) (lv Y m * lv Y' m')) (lv Y m * lv Y' m' / Nat.gcd (sumTop f f' (lv X n * lv Y' m') (lv X' n' * lv Y m)) (lv Y m * lv Y' m')) w.heap.size 16777218 ∧ w.Since w.heap.size w' := by
  have sA : w.Since w.heap.size (((w.alloc (.cells #[.bool f, .slice a n ca, .slice b m cb] 70)).alloc (.cells #[.bool f', .slice a' n' ca', .slice b' m' cb'] 70)).alloc (.cells #[.bool false, .slice none 0 0, .slice none 0 0] 70)) := (((World.Since.refl _ _).alloc (Nat.le_refl _) _).alloc (by simp) _).alloc (by simp; omega) _
  have zA : (((w.alloc (.cells #[.bool f, .slice a n ca, .slice b m cb] 70)).alloc (.cells #[.bool f', .slice a' n' ca', .slice b' m' cb'] 70)).alloc (.cells #[.bool false, .slice none 0 0, .slice none 0 0] 70)).heap.size = w.heap.size + 1 + 1 + 1 := by simp
  have pA : Box3 (((w.alloc (.cells #[.bool f, .slice a n ca, .slice b m cb] 70)).alloc (.cells #[.bool f', .slice a' n' ca', .slice b' m' cb'] 70)).alloc (.cells #[.bool false, .slice none 0 0, .slice none 0 0] 70)) (w.heap.size + 1) (.bool f') (.slice a' n' ca') (.slice b' m' cb') := by
    have := (Box3.new (w.alloc (.cells #[.bool f, .slice a n ca, .slice b m cb] 70)) (.bool f') (.slice a' n' ca') (.slice b' m' cb') 70).keep ((World.Since.refl _ _).alloc (Nat.le_refl _) (.cells #[.bool false, .slice none 0 0, .slice none 0 0] 70))
    simpa using this
  have rA : Box3 (((w.alloc (.cells #[.bool f, .slice a n ca, .slice b m cb] 70)).alloc (.cells #[.bool f', .slice a' n' ca', .slice b' m' cb'] 70)).alloc (.cells #[.bool false, .slice none 0 0, .slice none 0 0] 70)) (w.heap.size + 1 + 1) (.bool false) (.slice none 0 0) (.slice none 0 0) := by
    have := Box3.new ((w.alloc (.cells #[.bool f, .slice a n ca, .slice b m cb] 70)).alloc (.cells #[.bool f', .slice a' n' ca', .slice b' m' cb'] 70)) (.bool false) (.slice none 0 0) (.slice none 0 0) 70
    simpa using this
  have m1 := R.m0
  have m1' := R'.m0
  go_enter Tryz.func198, Tryz.ntmps198
  go_wp2_with fail
  generalize (((w.alloc (.cells #[.bool f, .slice a n ca, .slice b m cb] 70)).alloc (.cells #[.bool f', .slice a' n' ca', .slice b' m' cb'] 70)).alloc (.cells #[.bool false, .slice none 0 0, .slice none 0 0] 70)) = w1 at *
  refine (fractionOf_any f a b ba oa n ca bb ob m cb X Y w1 (by omega) (by omega) R.nc R.mc (R.keep sA).LX (R.keep sA).LY R.pX R.pY).mono ?_
  rintro e w2 ⟨rfl, s2⟩
  have S2 : w.Since w.heap.size w2 := sA.trans (sinceMono s2 sA.size)
  have z2 := s2.size
  have p2 := pA.keep s2
  have r2 := rA.keep s2
  clear pA rA s2
  have t3 : w2.Since w2.heap.size (w2.alloc (.cells #[.bool f, .slice a n ca, .slice b m cb] 129)) := (World.Since.refl _ _).alloc (Nat.le_refl _) _
  have c3 := Box3.new w2 (.bool f) (.slice a n ca) (.slice b m cb) 129
  have p3 := p2.keep t3
  have r3 := r2.keep t3
  have S3 : w.Since w.heap.size (w2.alloc (.cells #[.bool f, .slice a n ca, .slice b m cb] 129)) := S2.trans (sinceMono t3 S2.size)
  have k0 := p3.c0
  have k1 := p3.c1
  have k2 := p3.c2
  go_wp2_with fail
  generalize w2.alloc (.cells #[.bool f, .slice a n ca, .slice b m cb] 129) = w3 at *
  refine (fractionOf_any f' a' b' ba' oa' n' ca' bb' ob' m' cb' X' Y' w3 (by omega) (by omega) R'.nc R'.mc (R'.keep S3).LX (R'.keep S3).LY R'.pX R'.pY).mono ?_
  rintro e w4 ⟨rfl, s4⟩
  have S4 : w.Since w.heap.size w4 := S3.trans (sinceMono s4 S3.size)
  have c4 := c3.keep s4
  have r4 := r3.keep s4
  have R4 := R.keep S4
  have R4' := R'.keep S4
  have zc : w.heap.size ≤ w2.heap.size := by omega
  have lX : 0 < n → ba < w.heap.size := R.LX.lt
  have lY : 0 < m → bb < w.heap.size := R.LY.lt
  have lX' : 0 < n' → ba' < w.heap.size := R'.LX.lt
  have lY' : 0 < m' → bb' < w.heap.size := R'.LY.lt
  have hDD : 0 < lv Y m * lv Y' m' := Nat.mul_pos R.den R'.den
  clear k0 k1 k2 p3 p2 r2 c3 r3 s4
  go_wp2_with fail
  refine (fracAdd_any w2.heap.size f f' a b a' b' ba oa n ca bb ob m cb ba' oa' n' ca' bb' ob' m' cb' X Y X' Y' w4 hn m1 m1' R4.LX R4.LY R4'.LX R4'.LY R.lX R.lY R'.lX R'.lY
    (fun h => by have := lX h; omega) (fun h => by have := lY h; omega) (fun h => by have := lX' h; omega) (fun h => by have := lY' h; omega) c4).mono ?_
  rintro e w5 ⟨rfl, v1, v2, g, h, c5, N5, D5, b5, b6, b7, b8, b9, O5⟩
  have hcl := c4.lt
  have r5 := r4.oth O5 (by omega)
  have S5 : w.Since w.heap.size w5 := S4.trans (sinceMono (O5.since (by omega)) zc)
  have T5 := hT.stay hw S5
  clear R4 R4' R R' lX lY lX' lY'
  go_wp2_with fail
  refine (normalise_any w2.heap.size (sumNeg f f' (lv X n * lv Y' m') (lv X' n' * lv Y m)) v1 v2 g h (sumTop f f' (lv X n * lv Y' m') (lv X' n' * lv Y m)) (lv Y m * lv Y' m') (w.heap.size + 1 + 1 + 1) w5 (Nat.lt_of_lt_of_le hw S5.size) T5 c5 N5 D5 b7 b8 b9 (by omega) (by omega) (by omega) (by omega) (by omega) (by omega) hDD).mono ?_
  rintro e w6 ⟨v, rfl, ⟨x1, x2, g6, h6, rfl, N6, D6, y1, y2, y3⟩, s6⟩
  have rB := r5.since s6 (by omega)
  have N6' := N6
  have D6' := D6
  obtain ⟨a1, q1, c1, Y1, rfl, -⟩ := N6
  obtain ⟨a2, q2, c2, Y2, rfl, -⟩ := D6
  have S6 : w.Since w.heap.size w6 := S5.trans (sinceMono s6 (by omega))
  have u0 := rB.c0
  have u1 := rB.c1
  have u2 := rB.c2
  have uf0 := rB.f 0
  have uf1 := rB.f 1
  have uf2 := rB.f 2
  obtain ⟨neg, hneg⟩ : ∃ neg, (sumNeg f f' (lv X n * lv Y' m') (lv X' n' * lv Y m) && sumTop f f' (lv X n * lv Y' m') (lv X' n' * lv Y m) != 0) = neg := ⟨_, rfl⟩
  rw [hneg]
  have hneg := hide hneg
  go_wp2
  have rC := ((rB.set0 (.bool neg)).set1 (.slice a1 q1 c1)).set2 (.slice a2 q2 c2)
  refine bodyPost_ret (results_box3 rfl _ _ _ _ _ _ rfl rC) rfl ?_
  have M : Marked w6 _ (w.heap.size + 1 + 1) := (((Marked.refl w6 _).setCell 0 (.bool neg)).setCell 1 (.slice a1 q1 c1)).setCell 2 (.slice a2 q2 c2)
  exact ⟨_, rfl, ⟨_, _, g6, h6, by rw [hneg.out], N6'.marked M (by omega), D6'.marked M (by omega), by omega, by omega, y3⟩, S6.trans (M.since (by omega))⟩

end Go.Proofs.YtkhpggnnpfckdaaGreatDoor

namespace Go.Proofs.YtkhpggnnpfckdaaGreatDoor
open Go.RowKit

end Go.Proofs.YtkhpggnnpfckdaaGreatDoor

namespace Go.Proofs.YtkhpggnnpfckdaaGreatDoor
open Go.RowKit

set_option maxHeartbeats 1600000 in
set_option maxRecDepth 100000 in
/-- (*fraction).compare at like signs. -/
theorem fracCmp_same (c : Nat) (f : Bool) (a b a' b' : Option Addr) (ba oa n ca bb ob m cb ba' oa' n' ca' bb' ob' m' cb' : Nat) (X Y X' Y' : Nat → Nat) (w : World) (hn : n + n' + m + m' ≤ 16777216)
    (hX : Limbs w a ba oa n X) (hY : Limbs w b bb ob m Y) (hX' : Limbs w a' ba' oa' n' X') (hY' : Limbs w b' bb' ob' m' Y') (hXl : ∀ j, j < n → X j < 4294967296) (hYl : ∀ j, j < m → Y j < 4294967296) (hXl' : ∀ j, j < n' → X' j < 4294967296) (hYl' : ∀ j, j < m' → Y' j < 4294967296)
    (B : Box3 w c (.bool f) (.slice a n ca) (.slice b m cb)) :
    Calls Tryz.prog 86 #[.pointer (some ⟨c, 0, none⟩), .agg #[.bool f, .slice a' n' ca', .slice b' m' cb']] w fun e w' => e = .returned (.int .i64 (if f then cmpN (lv X' n' * lv Y m) (lv X n * lv Y' m') else cmpN (lv X n * lv Y' m') (lv X' n' * lv Y m))) ∧ w.Since w.heap.size w' := by
  have sA : w.Since w.heap.size (w.alloc (.cells #[.bool f, .slice a' n' ca', .slice b' m' cb'] 129)) := (World.Since.refl _ _).alloc (Nat.le_refl _) _
  have BA := B.keep sA
  have gA := Box3.new w (.bool f) (.slice a' n' ca') (.slice b' m' cb') 129
  have hcl := B.lt
  have zA : (w.alloc (.cells #[.bool f, .slice a' n' ca', .slice b' m' cb'] 129)).heap.size = w.heap.size + 1 := by simp
  have k0 := BA.c0
  have k1 := BA.c1
  have g0 := gA.c0
  have g1 := gA.c1
  go_enter Tryz.func86, Tryz.ntmps86
  go_wp2
  go_quiet (fail)
  go_wp2
  have S1 : w.Since w.heap.size ((w.alloc (.cells #[.bool f, .slice a' n' ca', .slice b' m' cb'] 129)).drewN nq) := ⟨sA.os, sA.tape, sA.output, sA.size, sA.block⟩
  have B1 : Box3 ((w.alloc (.cells #[.bool f, .slice a' n' ca', .slice b' m' cb'] 129)).drewN nq) c (.bool f) (.slice a n ca) (.slice b m cb) := ⟨BA.c0, BA.c1, BA.c2, BA.f⟩
  have G1 : Box3 ((w.alloc (.cells #[.bool f, .slice a' n' ca', .slice b' m' cb'] 129)).drewN nq) w.heap.size (.bool f) (.slice a' n' ca') (.slice b' m' cb') := ⟨gA.c0, gA.c1, gA.c2, gA.f⟩
  have zl : w.heap.size + 1 ≤ ((w.alloc (.cells #[.bool f, .slice a' n' ca', .slice b' m' cb'] 129)).drewN nq).heap.size := Nat.le_of_eq zA.symm
  clear sA BA gA zA k0 k1 g0 g1
  generalize (w.alloc (.cells #[.bool f, .slice a' n' ca', .slice b' m' cb'] 129)).drewN nq = w1 at *
  have n1 : w1.heap.size ≠ c := by omega
  have n2 : w1.heap.size ≠ w.heap.size := by omega
  have n3 : w1.heap.size + 1 ≠ c := by omega
  have n4 : w1.heap.size + 1 ≠ w.heap.size := by omega
  have kk := And.intro B1.c1 G1.c1
  have tZ : (w1.drew.alloc (.cells #[.slice none 0 0] 115)).Since (w1.drew.alloc (.cells #[.slice none 0 0] 115)).heap.size ((w1.drew.alloc (.cells #[.slice none 0 0] 115)).alloc (.cells #[.slice none 0 0] 115)) := (World.Since.refl _ _).alloc (Nat.le_refl _) _
  have a1 : ((w1.drew.alloc (.cells #[.slice none 0 0] 115)).alloc (.cells #[.slice none 0 0] 115)).cell? ⟨w1.heap.size, 0, none⟩ = some (.slice none 0 0) := by rw [tZ.cell (a := ⟨w1.heap.size, 0, none⟩) (by show w1.drew.heap.size < _; simp)]; exact World.cell?_alloc_new w1.drew _ _ 0
  clear tZ
  go_region_held3 (fun w' => w'.cell? ⟨c, 1, none⟩ = some (.slice a n ca) ∧ w'.cell? ⟨w.heap.size, 1, none⟩ = some (.slice a' n' ca')) (go_keep) (fail)
  all_goals
    first
    | (with_reducible show Exit.then _ _ Exit.normal _ ((w1.alloc (.cells #[.slice a n ca] 115)).alloc (.cells #[.slice a' n' ca'] 115)).drew
       have tV : w1.Since w1.heap.size (w1.alloc (.cells #[.slice a n ca] 115)) := (World.Since.refl _ _).alloc (Nat.le_refl _) _
       have tW : (w1.alloc (.cells #[.slice a n ca] 115)).Since (w1.alloc (.cells #[.slice a n ca] 115)).heap.size ((w1.alloc (.cells #[.slice a n ca] 115)).alloc (.cells #[.slice a' n' ca'] 115)) := (World.Since.refl _ _).alloc (Nat.le_refl _) _
       have tt : w1.Since w1.heap.size ((w1.alloc (.cells #[.slice a n ca] 115)).alloc (.cells #[.slice a' n' ca'] 115)).drew := since_drew (tV.trans (sinceMono tW tV.size))
       have zV : (w1.alloc (.cells #[.slice a n ca] 115)).heap.size = w1.heap.size + 1 := by simp
       have zW : ((w1.alloc (.cells #[.slice a n ca] 115)).alloc (.cells #[.slice a' n' ca'] 115)).drew.heap.size = w1.heap.size + 2 := by show ((w1.alloc (.cells #[.slice a n ca] 115)).alloc (.cells #[.slice a' n' ca'] 115)).heap.size = _; simp
       have ql : ((w1.alloc (.cells #[.slice a n ca] 115)).alloc (.cells #[.slice a' n' ca'] 115)).drew.cell? ⟨w1.heap.size, 0, none⟩ = some (.slice a n ca) := (tW.cell (a := ⟨w1.heap.size, 0, none⟩) (by show w1.heap.size < _; omega)).trans (World.cell?_alloc_new w1 _ _ 0)
       have fl : ((w1.alloc (.cells #[.slice a n ca] 115)).alloc (.cells #[.slice a' n' ca'] 115)).drew.frozen? ⟨w1.heap.size, 0, none⟩ = false := (tW.frozen (a := ⟨w1.heap.size, 0, none⟩) (by show w1.heap.size < _; omega)).trans (by simp)
       have qr : ((w1.alloc (.cells #[.slice a n ca] 115)).alloc (.cells #[.slice a' n' ca'] 115)).drew.cell? ⟨w1.heap.size + 1, 0, none⟩ = some (.slice a' n' ca') := by have := World.cell?_alloc_new (w1.alloc (.cells #[.slice a n ca] 115)) #[.slice a' n' ca'] 115 0; rw [zV] at this; exact this
       have fr : ((w1.alloc (.cells #[.slice a n ca] 115)).alloc (.cells #[.slice a' n' ca'] 115)).drew.frozen? ⟨w1.heap.size + 1, 0, none⟩ = false := by have h9 : ((w1.alloc (.cells #[.slice a n ca] 115)).alloc (.cells #[.slice a' n' ca'] 115)).frozen? ⟨(w1.alloc (.cells #[.slice a n ca] 115)).heap.size, 0, none⟩ = false := (by simp); rw [zV] at h9; exact h9
       have S2 := S1.trans (sinceMono tt S1.size)
       have B2 := B1.keep tt
       have G2 := G1.keep tt
       obtain ⟨L, hL⟩ : ∃ L, L = w1.heap.size := ⟨_, rfl⟩
       obtain ⟨R, hR⟩ : ∃ R, R = w1.heap.size + 1 := ⟨_, rfl⟩
       have hLR : L ≠ R ∧ w.heap.size < L ∧ w.heap.size < R ∧ L < ((w1.alloc (.cells #[.slice a n ca] 115)).alloc (.cells #[.slice a' n' ca'] 115)).drew.heap.size ∧ R < ((w1.alloc (.cells #[.slice a n ca] 115)).alloc (.cells #[.slice a' n' ca'] 115)).drew.heap.size := by omega
       rw [← hR, ← hL]
       rw [← hL] at ql fl
       rw [← hR] at qr fr
       clear tV tW tt zV zW
       generalize ((w1.alloc (.cells #[.slice a n ca] 115)).alloc (.cells #[.slice a' n' ca'] 115)).drew = w2 at *)
    | (with_reducible show Exit.then _ _ Exit.normal _ ((w1.alloc (.cells #[.slice a' n' ca'] 115)).alloc (.cells #[.slice a n ca] 115)).drew
       have tV : w1.Since w1.heap.size (w1.alloc (.cells #[.slice a' n' ca'] 115)) := (World.Since.refl _ _).alloc (Nat.le_refl _) _
       have tW : (w1.alloc (.cells #[.slice a' n' ca'] 115)).Since (w1.alloc (.cells #[.slice a' n' ca'] 115)).heap.size ((w1.alloc (.cells #[.slice a' n' ca'] 115)).alloc (.cells #[.slice a n ca] 115)) := (World.Since.refl _ _).alloc (Nat.le_refl _) _
       have tt : w1.Since w1.heap.size ((w1.alloc (.cells #[.slice a' n' ca'] 115)).alloc (.cells #[.slice a n ca] 115)).drew := since_drew (tV.trans (sinceMono tW tV.size))
       have zV : (w1.alloc (.cells #[.slice a' n' ca'] 115)).heap.size = w1.heap.size + 1 := by simp
       have zW : ((w1.alloc (.cells #[.slice a' n' ca'] 115)).alloc (.cells #[.slice a n ca] 115)).drew.heap.size = w1.heap.size + 2 := by show ((w1.alloc (.cells #[.slice a' n' ca'] 115)).alloc (.cells #[.slice a n ca] 115)).heap.size = _; simp
       have qr : ((w1.alloc (.cells #[.slice a' n' ca'] 115)).alloc (.cells #[.slice a n ca] 115)).drew.cell? ⟨w1.heap.size, 0, none⟩ = some (.slice a' n' ca') := (tW.cell (a := ⟨w1.heap.size, 0, none⟩) (by show w1.heap.size < _; omega)).trans (World.cell?_alloc_new w1 _ _ 0)
       have fr : ((w1.alloc (.cells #[.slice a' n' ca'] 115)).alloc (.cells #[.slice a n ca] 115)).drew.frozen? ⟨w1.heap.size, 0, none⟩ = false := (tW.frozen (a := ⟨w1.heap.size, 0, none⟩) (by show w1.heap.size < _; omega)).trans (by simp)
       have ql : ((w1.alloc (.cells #[.slice a' n' ca'] 115)).alloc (.cells #[.slice a n ca] 115)).drew.cell? ⟨w1.heap.size + 1, 0, none⟩ = some (.slice a n ca) := by have := World.cell?_alloc_new (w1.alloc (.cells #[.slice a' n' ca'] 115)) #[.slice a n ca] 115 0; rw [zV] at this; exact this
       have fl : ((w1.alloc (.cells #[.slice a' n' ca'] 115)).alloc (.cells #[.slice a n ca] 115)).drew.frozen? ⟨w1.heap.size + 1, 0, none⟩ = false := by have h9 : ((w1.alloc (.cells #[.slice a' n' ca'] 115)).alloc (.cells #[.slice a n ca] 115)).frozen? ⟨(w1.alloc (.cells #[.slice a' n' ca'] 115)).heap.size, 0, none⟩ = false := (by simp); rw [zV] at h9; exact h9
       have S2 := S1.trans (sinceMono tt S1.size)
       have B2 := B1.keep tt
       have G2 := G1.keep tt
       obtain ⟨L, hL⟩ : ∃ L, L = w1.heap.size + 1 := ⟨_, rfl⟩
       obtain ⟨R, hR⟩ : ∃ R, R = w1.heap.size := ⟨_, rfl⟩
       have hLR : L ≠ R ∧ w.heap.size < L ∧ w.heap.size < R ∧ L < ((w1.alloc (.cells #[.slice a' n' ca'] 115)).alloc (.cells #[.slice a n ca] 115)).drew.heap.size ∧ R < ((w1.alloc (.cells #[.slice a' n' ca'] 115)).alloc (.cells #[.slice a n ca] 115)).drew.heap.size := by omega
       rw [← hL, ← hR]
       rw [← hL] at ql fl
       rw [← hR] at qr fr
       clear tV tW tt zV zW
       generalize ((w1.alloc (.cells #[.slice a' n' ca'] 115)).alloc (.cells #[.slice a n ca] 115)).drew = w2 at *)
  all_goals
    obtain ⟨hLR, hwL, hwR, hL2, hR2⟩ := hLR
    clear hL hR a1 n1 n2 n3 n4 kk zl S1 B1 G1
    have k2 := G2.c2
    go_wp2_with fail
    refine (mulAtR L a b' ba oa n ca bb' ob' m' cb' X Y' w2 (by omega) (by omega) (hX.keep S2) (hY'.keep S2) hXl hYl' ql fl).mono ?_
    rintro e w3 ⟨rfl, P, q3, f3, r3, hP, eP, O3, z3⟩
    have O03 : Oth w.heap.size w w3 := (Oth.ofSince _ S2).up O3 (by omega)
    have S3 : w.Since w.heap.size w3 := O03.since (Nat.le_refl _)
    have B3 := B2.oth O3 (by omega)
    have q4 : w3.cell? ⟨R, 0, none⟩ = some (.slice a' n' ca') := (O3.cell (a := ⟨R, 0, none⟩) hR2 (Ne.symm hLR)).trans qr
    have f4 : w3.frozen? ⟨R, 0, none⟩ = false := (O3.frozen (a := ⟨R, 0, none⟩) hR2 (Ne.symm hLR)).trans fr
    clear k2 G2 ql fl qr fr O03
    have k2 := B3.c2
    go_wp2_with fail
    refine (mulAtR R a' b ba' oa' n' ca' bb ob m cb X' Y w3 (by omega) (by omega) (hX'.keep S3) (hY.keep S3) hXl' hYl q4 f4).mono ?_
    rintro e w4 ⟨rfl, Q, q5, f5, r5, hQ, eQ, O4, z4⟩
    have hs3 := O3.size
    have O04 : Oth w.heap.size w w4 := (Oth.ofSince _ S3).up O4 (by omega)
    have S4 : w.Since w.heap.size w4 := O04.since (Nat.le_refl _)
    have B4 := B3.oth O4 (by omega)
    have q6 : w4.cell? ⟨L, 0, none⟩ = _ := (O4.cell (a := ⟨L, 0, none⟩) (show L < _ by omega) hLR).trans q3
    have r6 := row_oth r3 O4 (by omega)
    clear k2 B3 q3 f3 q4 f4 r3 O04 B2 O3 O4
    have k0 := B4.c0
    have tP := tlen_le (nz P) (n + m')
    have tQ := tlen_le (nz Q) (n' + m)
    have LP := (limbs_row r6).take tP
    have LQ := (limbs_row r5).take tQ
    have JA := compare_any R 0 (some ⟨w3.heap.size, 0, none⟩) (some ⟨w2.heap.size, 0, none⟩) w3.heap.size 0 (tlen (nz Q) (n' + m)) (n' + m) w2.heap.size 0 (tlen (nz P) (n + m')) (n + m') Q P w4 (by omega) (by omega) q5 LQ LP (fun j _ => hQ j) (fun j _ => hP j) top_row top_row
    have JB := compare_any L 0 (some ⟨w2.heap.size, 0, none⟩) (some ⟨w3.heap.size, 0, none⟩) w2.heap.size 0 (tlen (nz P) (n + m')) (n + m') w3.heap.size 0 (tlen (nz Q) (n' + m)) (n' + m) P Q w4 (by omega) (by omega) q6 LP LQ (fun j _ => hP j) (fun j _ => hQ j) top_row top_row
    rw [lv_tlen, lv_tlen, eP, eQ] at JA JB
    clear r5 r6 LP LQ hP hQ eP eQ tP tQ
    cases f
    · go_wp2_with fail
      refine JB.mono ?_
      rintro e w5 ⟨rfl, s5⟩
      go_wp2
      go_ret
      exact ⟨rfl, S4.trans (sinceMono (s5.since w4.heap.size) S4.size)⟩
    · go_wp2_with fail
      refine JA.mono ?_
      rintro e w5 ⟨rfl, s5⟩
      go_wp2
      go_ret
      exact ⟨rfl, S4.trans (sinceMono (s5.since w4.heap.size) S4.size)⟩

end Go.Proofs.YtkhpggnnpfckdaaGreatDoor

namespace Go.Proofs.YtkhpggnnpfckdaaGreatDoor
open Go.RowKit

/-- The order of two fractions. -/
def cmpR (f f' : Bool) (x y : Nat) : Int := if f = f' then (if f then cmpN y x else cmpN x y) else if f then -1 else 1

theorem fracCmp_any (c : Nat) (f f' : Bool) (a b a' b' : Option Addr) (ba oa n ca bb ob m cb ba' oa' n' ca' bb' ob' m' cb' : Nat) (X Y X' Y' : Nat → Nat) (w : World) (hn : n + n' + m + m' ≤ 16777216)
    (hX : Limbs w a ba oa n X) (hY : Limbs w b bb ob m Y) (hX' : Limbs w a' ba' oa' n' X') (hY' : Limbs w b' bb' ob' m' Y') (hXl : ∀ j, j < n → X j < 4294967296) (hYl : ∀ j, j < m → Y j < 4294967296) (hXl' : ∀ j, j < n' → X' j < 4294967296) (hYl' : ∀ j, j < m' → Y' j < 4294967296)
    (B : Box3 w c (.bool f) (.slice a n ca) (.slice b m cb)) :
    Calls Tryz.prog 86 #[.pointer (some ⟨c, 0, none⟩), .agg #[.bool f', .slice a' n' ca', .slice b' m' cb']] w fun e w' => e = .returned (.int .i64 (cmpR f f' (lv X n * lv Y' m') (lv X' n' * lv Y m))) ∧ w.Since w.heap.size w' := by
  by_cases hff : f = f'
  · subst hff
    rw [show cmpR f f (lv X n * lv Y' m') (lv X' n' * lv Y m) = if f then cmpN (lv X' n' * lv Y m) (lv X n * lv Y' m') else cmpN (lv X n * lv Y' m') (lv X' n' * lv Y m) by simp [cmpR]]
    exact fracCmp_same c f a b a' b' ba oa n ca bb ob m cb ba' oa' n' ca' bb' ob' m' cb' X Y X' Y' w hn hX hY hX' hY' hXl hYl hXl' hYl' B
  · rw [show cmpR f f' (lv X n * lv Y' m') (lv X' n' * lv Y m) = if f then -1 else 1 by simp [cmpR, hff]]
    exact fracCmp_sign c f f' a b a' b' n ca m cb n' ca' m' cb' w B hff

set_option maxHeartbeats 1600000 in
set_option maxRecDepth 100000 in
theorem orderOf_any (f f' : Bool) (a b a' b' : Option Addr) (ba oa n ca bb ob m cb ba' oa' n' ca' bb' ob' m' cb' : Nat) (X Y X' Y' : Nat → Nat) (w : World) (hn : n + n' + m + m' ≤ 16777216)
    (R : RIn w a b ba oa n ca bb ob m cb X Y) (R' : RIn w a' b' ba' oa' n' ca' bb' ob' m' cb' X' Y') :
    Calls Tryz.prog 52 #[.agg #[.bool f, .slice a n ca, .slice b m cb], .agg #[.bool f', .slice a' n' ca', .slice b' m' cb']] w fun e w' => e = .returned (.int .i64 (cmpR f f' (lv X n * lv Y' m') (lv X' n' * lv Y m))) ∧ w.Since w.heap.size w' := by
  have sA : w.Since w.heap.size ((w.alloc (.cells #[.bool f, .slice a n ca, .slice b m cb] 70)).alloc (.cells #[.bool f', .slice a' n' ca', .slice b' m' cb'] 70)) := ((World.Since.refl _ _).alloc (Nat.le_refl _) _).alloc (by simp) _
  have zA : ((w.alloc (.cells #[.bool f, .slice a n ca, .slice b m cb] 70)).alloc (.cells #[.bool f', .slice a' n' ca', .slice b' m' cb'] 70)).heap.size = w.heap.size + 1 + 1 := by simp
  have oA : Box3 ((w.alloc (.cells #[.bool f, .slice a n ca, .slice b m cb] 70)).alloc (.cells #[.bool f', .slice a' n' ca', .slice b' m' cb'] 70)) w.heap.size (.bool f) (.slice a n ca) (.slice b m cb) := (Box3.new w _ _ _ _).keep ((World.Since.refl _ _).alloc (Nat.le_refl _) _)
  have pA : Box3 ((w.alloc (.cells #[.bool f, .slice a n ca, .slice b m cb] 70)).alloc (.cells #[.bool f', .slice a' n' ca', .slice b' m' cb'] 70)) (w.heap.size + 1) (.bool f') (.slice a' n' ca') (.slice b' m' cb') := by
    have := Box3.new (w.alloc (.cells #[.bool f, .slice a n ca, .slice b m cb] 70)) (.bool f') (.slice a' n' ca') (.slice b' m' cb') 70
    simpa using this
  have m1 := R.m0
  have m1' := R'.m0
  go_enter Tryz.func52, Tryz.ntmps52
  go_wp2_with fail
  generalize ((w.alloc (.cells #[.bool f, .slice a n ca, .slice b m cb] 70)).alloc (.cells #[.bool f', .slice a' n' ca', .slice b' m' cb'] 70)) = w1 at *
  refine (fractionOf_any f a b ba oa n ca bb ob m cb X Y w1 (by omega) (by omega) R.nc R.mc (R.keep sA).LX (R.keep sA).LY R.pX R.pY).mono ?_
  rintro e w2 ⟨rfl, s2⟩
  have S2 : w.Since w.heap.size w2 := sA.trans (sinceMono s2 sA.size)
  have z2 := s2.size
  have p2 := pA.keep s2
  clear pA oA s2
  have t3 : w2.Since w2.heap.size (w2.alloc (.cells #[.bool f, .slice a n ca, .slice b m cb] 129)) := (World.Since.refl _ _).alloc (Nat.le_refl _) _
  have c3 := Box3.new w2 (.bool f) (.slice a n ca) (.slice b m cb) 129
  have p3 := p2.keep t3
  have S3 : w.Since w.heap.size (w2.alloc (.cells #[.bool f, .slice a n ca, .slice b m cb] 129)) := S2.trans (sinceMono t3 S2.size)
  have k0 := p3.c0
  have k1 := p3.c1
  have k2 := p3.c2
  go_wp2_with fail
  generalize w2.alloc (.cells #[.bool f, .slice a n ca, .slice b m cb] 129) = w3 at *
  refine (fractionOf_any f' a' b' ba' oa' n' ca' bb' ob' m' cb' X' Y' w3 (by omega) (by omega) R'.nc R'.mc (R'.keep S3).LX (R'.keep S3).LY R'.pX R'.pY).mono ?_
  rintro e w4 ⟨rfl, s4⟩
  have S4 : w.Since w.heap.size w4 := S3.trans (sinceMono s4 S3.size)
  have c4 := c3.keep s4
  have R4 := R.keep S4
  have R4' := R'.keep S4
  clear k0 k1 k2 p3 p2 c3 s4
  have J := fracCmp_any w2.heap.size f f' a b a' b' ba oa n ca bb ob m cb ba' oa' n' ca' bb' ob' m' cb' X Y X' Y' w4 hn R4.LX R4.LY R4'.LX R4'.LY R.lX R.lY R'.lX R'.lY c4
  obtain ⟨z, hz⟩ : ∃ z, z = cmpR f f' (lv X n * lv Y' m') (lv X' n' * lv Y m) := ⟨_, rfl⟩
  rw [← hz] at J
  have HZ := hide hz
  clear hz
  go_wp2_with fail
  refine J.mono ?_
  rintro e w5 ⟨rfl, s5⟩
  go_wp2
  go_ret
  exact ⟨ret_int HZ.out, S4.trans (sinceMono s5 S4.size)⟩

end Go.Proofs.YtkhpggnnpfckdaaGreatDoor
