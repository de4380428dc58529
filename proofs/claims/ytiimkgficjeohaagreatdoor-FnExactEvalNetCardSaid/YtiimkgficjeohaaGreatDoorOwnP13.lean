import Derived.Test.YtiimkgficjeohaaGreatDoorOwnP11
import Derived.Test.YtiimkgficjeohaaGreatDoorOwnP10
namespace Go.Proofs.YtiimkgficjeohaaGreatDoor
open Go.RowKit

theorem row_keep {w w' : World} {g t n : Nat} {F : Nat → Value} (h : w.rowIs g t n F) (s : w.Since w.heap.size w') : w'.rowIs g t n F := h.of_block (s.block g h.lt)
theorem row_oth {w w' : World} {g t n c : Nat} {F : Nat → Value} (h : w.rowIs g t n F) (s : Oth c w w') (hne : g ≠ c) : w'.rowIs g t n F := h.of_block (s.block g h.lt hne)

theorem Oth.up {c d : Nat} {w w1 w2 : World} (x : Oth c w w1) (y : Oth d w1 w2) (hd : w.heap.size ≤ d) : Oth c w w2 :=
  ⟨y.os.trans x.os, y.tape.trans x.tape, y.output.trans x.output, Nat.le_trans x.size y.size, fun k h1 h2 => (y.block k (Nat.lt_of_lt_of_le h1 x.size) (by omega)).trans (x.block k h1 h2)⟩
theorem Oth.up3 {c g h : Nat} {w w1 w2 : World} (x : Oth c w w1) (y : Oth3 c g h w1 w2) (hg : w.heap.size ≤ g) (hh : w.heap.size ≤ h) : Oth c w w2 :=
  ⟨y.os.trans x.os, y.tape.trans x.tape, y.output.trans x.output, Nat.le_trans x.size y.size, fun k h1 h2 => (y.block k (Nat.lt_of_lt_of_le h1 x.size) h2 (by omega) (by omega)).trans (x.block k h1 h2)⟩

/-- multiply at the second cell of a struct: the row told. -/
theorem mulAt1r (c : Nat) (x z : Value) (a a' : Option Addr) (b off n cap b' off' m cap' : Nat) (X Y : Nat → Nat) (w : World) (hn : n ≤ 67108864) (hm : m ≤ 67108864) (hX : Limbs w a b off n X) (hY : Limbs w a' b' off' m Y)
    (hXl : ∀ j, j < n → X j < 4294967296) (hYl : ∀ j, j < m → Y j < 4294967296) (B : Box3 w c x (.slice a n cap) z) :
    Calls Tryz.prog 88 #[.pointer (some ⟨c, 1, none⟩), .slice a' m cap'] w fun e w' => e = .returned (.tuple #[]) ∧ ∃ P : Nat → Nat, Box3 w' c x (.slice (some ⟨w.heap.size, 0, none⟩) (tlen (nz P) (n + m)) (n + m)) z ∧ w'.rowIs w.heap.size 79 (n + m) (fun j => .int .u32 (P j : Nat)) ∧
      (∀ k, P k < 4294967296) ∧ lv P (n + m) = lv X n * lv Y m ∧ Oth c w w' ∧ w.heap.size < w'.heap.size := by
  refine (multiply_any c 1 a a' b off n cap b' off' m cap' X Y w hn hm hX hY hXl hYl B.c1 (B.f 1)).mono ?_
  rintro e w' ⟨rfl, w2, P, s, r, hP, hv, rfl⟩
  have M := (Marked.refl w2 c).setCell 1 (.slice (some ⟨w.heap.size, 0, none⟩) (tlen (nz P) (n + m)) (n + m))
  exact ⟨rfl, P, (B.keep s).set1 _, r.of_block (M.other _ (Nat.ne_of_gt B.lt)), hP, hv, (Oth.ofSince c s).trans (Oth.ofMarked M), by rw [M.size]; exact r.lt⟩

/-- multiply at a box of one cell: the row told. -/
theorem mulAtR (c : Nat) (a a' : Option Addr) (b off n cap b' off' m cap' : Nat) (X Y : Nat → Nat) (w : World) (hn : n ≤ 67108864) (hm : m ≤ 67108864) (hX : Limbs w a b off n X) (hY : Limbs w a' b' off' m Y)
    (hXl : ∀ j, j < n → X j < 4294967296) (hYl : ∀ j, j < m → Y j < 4294967296) (hc0 : w.cell? ⟨c, 0, none⟩ = some (.slice a n cap)) (hf0 : w.frozen? ⟨c, 0, none⟩ = false) :
    Calls Tryz.prog 88 #[.pointer (some ⟨c, 0, none⟩), .slice a' m cap'] w fun e w' => e = .returned (.tuple #[]) ∧ ∃ P : Nat → Nat, w'.cell? ⟨c, 0, none⟩ = some (.slice (some ⟨w.heap.size, 0, none⟩) (tlen (nz P) (n + m)) (n + m)) ∧ w'.frozen? ⟨c, 0, none⟩ = false ∧ w'.rowIs w.heap.size 79 (n + m) (fun j => .int .u32 (P j : Nat)) ∧
      (∀ k, P k < 4294967296) ∧ lv P (n + m) = lv X n * lv Y m ∧ Oth c w w' ∧ w.heap.size < w'.heap.size := by
  have hcl := World.block_lt_of_cell? _ _ hc0
  refine (multiply_any c 0 a a' b off n cap b' off' m cap' X Y w hn hm hX hY hXl hYl hc0 hf0).mono ?_
  rintro e w' ⟨rfl, w2, P, s, r, hP, hv, rfl⟩
  have M := (Marked.refl w2 c).setCell 0 (.slice (some ⟨w.heap.size, 0, none⟩) (tlen (nz P) (n + m)) (n + m))
  have h2 : w2.cell? ⟨c, 0, none⟩ = some (.slice a n cap) := by rw [s.cell (a := ⟨c, 0, none⟩) hcl]; exact hc0
  exact ⟨rfl, P, World.cell?_setCell_same _ _ _ h2, by rw [M.frozen, s.frozen (a := ⟨c, 0, none⟩) hcl]; exact hf0, r.of_block (M.other _ (Nat.ne_of_gt hcl)), hP, hv, (Oth.ofSince c s).trans (Oth.ofMarked M), by rw [M.size]; exact r.lt⟩

set_option maxHeartbeats 1600000 in
set_option maxRecDepth 100000 in
/-- (*fraction).add. -/
theorem fracAdd_any (c : Nat) (f f' : Bool) (a b a' b' : Option Addr) (ba oa n ca bb ob m cb ba' oa' n' ca' bb' ob' m' cb' : Nat) (X Y X' Y' : Nat → Nat) (w : World) (hn : n + n' + m + m' ≤ 16777216) (hm0 : 0 < m) (hm0' : 0 < m')
    (hX : Limbs w a ba oa n X) (hY : Limbs w b bb ob m Y) (hX' : Limbs w a' ba' oa' n' X') (hY' : Limbs w b' bb' ob' m' Y') (hXl : ∀ j, j < n → X j < 4294967296) (hYl : ∀ j, j < m → Y j < 4294967296) (hXl' : ∀ j, j < n' → X' j < 4294967296) (hYl' : ∀ j, j < m' → Y' j < 4294967296)
    (ea : 0 < n → ba ≠ c) (eb : 0 < m → bb ≠ c) (_ea' : 0 < n' → ba' ≠ c) (eb' : 0 < m' → bb' ≠ c) (B : Box3 w c (.bool f) (.slice a n ca) (.slice b m cb)) :
    Calls Tryz.prog 72 #[.pointer (some ⟨c, 0, none⟩), .agg #[.bool f', .slice a' n' ca', .slice b' m' cb']] w fun e w' => e = .returned (.tuple #[]) ∧ ∃ v1 v2 g h, Box3 w' c (.bool (sumNeg f f' (lv X n * lv Y' m') (lv X' n' * lv Y m))) v1 v2 ∧
      NatAt w' v1 g (sumTop f f' (lv X n * lv Y' m') (lv X' n' * lv Y m)) 16777216 ∧ NatAt w' v2 h (lv Y m * lv Y' m') 16777216 ∧ w.heap.size ≤ g ∧ w.heap.size ≤ h ∧ g ≠ h ∧ g < w'.heap.size ∧ h < w'.heap.size ∧ Oth c w w' := by
  have sA : w.Since w.heap.size ((w.alloc (.cells #[.bool f', .slice a' n' ca', .slice b' m' cb'] 95)).alloc (.cells #[.slice a' n' ca'] 75)) := ((World.Since.refl _ _).alloc (Nat.le_refl _) _).alloc (by simp) _
  have gA : Box3 ((w.alloc (.cells #[.bool f', .slice a' n' ca', .slice b' m' cb'] 95)).alloc (.cells #[.slice a' n' ca'] 75)) w.heap.size (.bool f') (.slice a' n' ca') (.slice b' m' cb') := (Box3.new w _ _ _ _).keep ((World.Since.refl _ _).alloc (Nat.le_refl _) _)
  have BA := B.keep sA
  have hcl := B.lt
  have zA : ((w.alloc (.cells #[.bool f', .slice a' n' ca', .slice b' m' cb'] 95)).alloc (.cells #[.slice a' n' ca'] 75)).heap.size = w.heap.size + 1 + 1 := by simp
  have qA : ((w.alloc (.cells #[.bool f', .slice a' n' ca', .slice b' m' cb'] 95)).alloc (.cells #[.slice a' n' ca'] 75)).cell? ⟨w.heap.size + 1, 0, none⟩ = some (.slice a' n' ca') ∧ ((w.alloc (.cells #[.bool f', .slice a' n' ca', .slice b' m' cb'] 95)).alloc (.cells #[.slice a' n' ca'] 75)).frozen? ⟨w.heap.size + 1, 0, none⟩ = false := by
    simp
  have kB := BA.c2
  have JA := mulAtR (w.heap.size + 1) a' b ba' oa' n' ca' bb ob m cb X' Y ((w.alloc (.cells #[.bool f', .slice a' n' ca', .slice b' m' cb'] 95)).alloc (.cells #[.slice a' n' ca'] 75)) (by omega) (by omega) (hX'.keep sA) (hY.keep sA) hXl' hYl qA.1 qA.2
  go_enter Tryz.func72, Tryz.ntmps72
  go_wp2_with fail
  generalize ((w.alloc (.cells #[.bool f', .slice a' n' ca', .slice b' m' cb'] 95)).alloc (.cells #[.slice a' n' ca'] 75)) = w1 at *
  have zl : w.heap.size + 1 + 1 ≤ w1.heap.size := by omega
  clear kB zA
  refine JA.mono ?_
  rintro e w2 ⟨rfl, P1, q2, qf2, r2, hP1, e1, O2, z2⟩
  have O02 : Oth c w w2 := (Oth.ofSince c sA).up O2 (by omega)
  have B2 := BA.oth O2 (by omega)
  have G2 := gA.oth O2 (by omega)
  have k2 := G2.c2
  clear JA BA gA O2 sA
  have JB := mulAt1r c _ _ a b' ba oa n ca bb' ob' m' cb' X Y' w2.drew (by omega) (by omega) (hX.oth O02.drew ea) (hY'.oth O02.drew eb') hXl hYl' B2.drew
  go_wp2_with fail
  go_region_held3 (fun w' => w'.cell? ⟨w.heap.size, 2, none⟩ = some (.slice b' m' cb')) (go_keep)
    (first
      | (go_at_call 88
         with_reducible refine JB.mono ?_
         rintro e w3 ⟨rfl, P2, B3, r3, hP2, e2, O3, z3⟩
         have i1 := (G2.drew.oth O3 (by omega)).c2))
  have O3 : Oth c w2 w3 := ⟨O3.os, O3.tape, O3.output, O3.size, O3.block⟩
  have O03 := O02.trans O3
  have G3 := G2.oth O3 (by omega)
  have q3 : w3.cell? ⟨w.heap.size + 1, 0, none⟩ = _ := (O3.cell (a := ⟨w.heap.size + 1, 0, none⟩) (World.block_lt_of_cell? _ _ q2) (show w.heap.size + 1 ≠ c by omega)).trans q2
  have r23 := row_oth r2 O3 (by omega)
  have z3 : w2.heap.size < w3.heap.size := z3
  have r3 : w3.rowIs w2.heap.size _ _ _ := r3
  have B3 : Box3 w3 c (.bool f) (.slice (some ⟨w2.heap.size, 0, none⟩) (tlen (nz P2) (n + m')) (n + m')) (.slice b m cb) := B3
  clear k2 i1 JB B2 G2 O02 q2 qf2 r2
  have k2 := G3.c2
  have JC := mulAt2 c _ _ b b' bb ob m cb bb' ob' m' cb' Y Y' w3.drew (by omega) (by omega) (hY.oth O03.drew eb) (hY'.oth O03.drew eb') hYl hYl' B3.drew
  go_wp2_with fail
  go_region_held3 (fun w' => w'.cell? ⟨w.heap.size, 2, none⟩ = some (.slice b' m' cb')) (go_keep)
    (first
      | (go_at_call 88
         with_reducible refine JC.mono ?_
         rintro e w4 ⟨rfl, v2, B4, N4, O4, z4⟩
         have i1 := (G3.drew.oth O4 (by omega)).c2))
  have O4 : Oth c w3 w4 := ⟨O4.os, O4.tape, O4.output, O4.size, O4.block⟩
  have O04 := O03.trans O4
  have G4 := G3.oth O4 (by omega)
  have q4 : w4.cell? ⟨w.heap.size + 1, 0, none⟩ = _ := (O4.cell (a := ⟨w.heap.size + 1, 0, none⟩) (World.block_lt_of_cell? _ _ q3) (show w.heap.size + 1 ≠ c by omega)).trans q3
  have r24 := row_oth r23 O4 (by omega)
  have r34 := row_oth r3 O4 (by omega)
  have z4 : w3.heap.size < w4.heap.size := z4
  have N4 : NatAt w4 v2 w3.heap.size (lv Y m * lv Y' m') (m + m') := N4
  clear k2 i1 JC B3 G3 O03 q3 r23 r3 O3 O4
  have k1 := G4.c0
  have k3 := q4
  go_wp2_with fail
  refine (addTop_any c f f' v2 w2.heap.size w1.heap.size (n + m') (n' + m) P2 P1 w4 (by omega) (by omega) B4 r34 r24 hP2 hP1 (by omega) (by omega) (by omega)).mono ?_
  rintro e w5 ⟨rfl, v, gg, B5, N5, hgg, hgl, O5⟩
  rw [e1, e2] at B5 N5
  have hs := O5.size
  go_wp2
  go_end0
  exact ⟨rfl, v, v2, gg, w3.heap.size, B5, N5, (N4.ofBlock (fun _ => O5.block w3.heap.size (by omega) (by omega) (by omega) (by omega))).more (by omega), by omega, by omega, by omega, hgl, by omega, O04.up3 O5 (by omega) (by omega)⟩

end Go.Proofs.YtiimkgficjeohaaGreatDoor

namespace Go.Proofs.YtiimkgficjeohaaGreatDoor
open Go.RowKit

end Go.Proofs.YtiimkgficjeohaaGreatDoor

namespace Go.Proofs.YtiimkgficjeohaaGreatDoor
open Go.RowKit

end Go.Proofs.YtiimkgficjeohaaGreatDoor

namespace Go.Proofs.YtiimkgficjeohaaGreatDoor
open Go.RowKit

end Go.Proofs.YtiimkgficjeohaaGreatDoor

namespace Go.Proofs.YtiimkgficjeohaaGreatDoor
open Go.RowKit

/-- The order of two fractions. -/
def cmpR (f f' : Bool) (x y : Nat) : Int := if f = f' then (if f then cmpN y x else cmpN x y) else if f then -1 else 1

end Go.Proofs.YtiimkgficjeohaaGreatDoor
