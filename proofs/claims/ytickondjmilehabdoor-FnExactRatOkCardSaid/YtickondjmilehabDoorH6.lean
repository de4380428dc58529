import Derived.Test.YtickondjmilehabDoorH5
namespace Go.Proofs.YtickondjmilehabDoor
open Go.RowKit

theorem Tab.keep' {w w' : World} (h : Tab w) (hw : 1 < w.heap.size) (s : w.Since w.heap.size w') : Tab w' := fun q hq => by rw [s.cell (a := ⟨1, q, none⟩) hw]; exact h q hq

set_option maxHeartbeats 1600000 in
set_option maxRecDepth 100000 in
theorem ratOk_law (neg : Bool) (a b : Option Addr) (ba oa n ca bb ob m cb : Nat) (X Y : Nat → Nat) (w : World) (hn : n + m ≤ 1048576) (hX : Limbs w a ba oa n X) (hY : Limbs w b bb ob m Y)
    (hXl : ∀ j, j < n → X j < 4294967296) (hYl : ∀ j, j < m → Y j < 4294967296) (hw : 1 < w.heap.size) (hT : Tab w) :
    Calls Tryd.prog 4 #[.agg #[.bool neg, .slice a n ca, .slice b m cb]] w fun e w' => e = .returned (.bool true) ∧ w.Since w.heap.size w' := by
  have sA : w.Since w.heap.size (w.alloc (.cells #[.bool neg, .slice a n ca, .slice b m cb] 28)) := (World.Since.refl _ _).alloc (Nat.le_refl _) _
  have bA := Box3.new w (.bool neg) (.slice a n ca) (.slice b m cb) 28
  go_enter Tryd.func4, Tryd.ntmps4
  go_wp2_with fail
  generalize w.alloc (.cells #[.bool neg, .slice a n ca, .slice b m cb] 28) = wA at *
  refine (szRat_ok neg a b n ca m cb 1048576 wA (by omega) hn).mono ?_
  rintro e w1 ⟨rfl, s1⟩
  have S1 : w.Since w.heap.size w1 := sA.trans (sinceMono s1 sA.size)
  have B1 := bA.keep s1
  clear bA sA s1
  have k0 := B1.c0
  have k1 := B1.c1
  have k2 := B1.c2
  have hl : ¬ (((1048576 - n - m : Nat) : Int) < 0) := by omega
  -- w0 := spec.RatOk(toRat(aR))
  go_wp2_with fail
  refine (toRat_any neg a b ba oa n ca bb ob m cb X Y w1 (by omega) (by omega) (hX.keep S1) (hY.keep S1)).mono ?_
  rintro e w2 ⟨g2, h2, rfl, s2, u1, u2, u3, LX2, LY2, -, -⟩
  have S2 : w.Since w.heap.size w2 := S1.trans (sinceMono s2 S1.size)
  have B2 := B1.keep s2
  clear k0 k1 k2 B1 s2 S1
  go_wp2_with fail
  refine (specRatOk_any neg _ _ g2 0 n n h2 0 m m X Y w2 (by omega) (by omega) LX2 LY2 hXl hYl).mono ?_
  rintro e w3 ⟨rfl, s3⟩
  have S3 : w.Since w.heap.size w3 := S2.trans (sinceMono s3 S2.size)
  have B3 := B2.keep s3
  clear LX2 LY2 B2 s3 S2 u1 u2 u3
  have k0 := B3.c0
  have k1 := B3.c1
  have k2 := B3.c2
  -- x0 := toRat(aR); g0 := impl.RatOk(x0)
  go_wp2_with fail
  refine (toRat_any neg a b ba oa n ca bb ob m cb X Y w3 (by omega) (by omega) (hX.keep S3) (hY.keep S3)).mono ?_
  rintro e w4 ⟨g4, h4, rfl, s4, u1, u2, u3, LX4, LY4, -, -⟩
  have S4 : w.Since w.heap.size w4 := S3.trans (sinceMono s4 S3.size)
  have B4 := B3.keep s4
  clear k0 k1 k2 B3 s4
  go_wp2_with fail
  have z4 : w.heap.size < w4.heap.size := B4.lt
  have t4 : w4.Since w4.heap.size (w4.alloc (.cells #[.bool neg, .slice (some ⟨g4, 0, none⟩) n n, .slice (some ⟨h4, 0, none⟩) m m] 31)) := (World.Since.refl _ _).alloc (Nat.le_refl _) _
  have C5 := Box3.new w4 (.bool neg) (.slice (some ⟨g4, 0, none⟩) n n) (.slice (some ⟨h4, 0, none⟩) m m) 31
  generalize w4.alloc (.cells #[.bool neg, .slice (some ⟨g4, 0, none⟩) n n, .slice (some ⟨h4, 0, none⟩) m m] 31) = w5 at *
  have S5 : w.Since w.heap.size w5 := S4.trans (sinceMono t4 S4.size)
  have B5 := B4.keep t4
  have LX5 := LX4.keep t4
  have LY5 := LY4.keep t4
  clear t4 B4 LX4 LY4
  refine (implRatOk_any neg _ _ g4 0 n n h4 0 m m X Y w5 (Nat.lt_of_lt_of_le hw S5.size) (by omega) (by omega) (Nat.le_refl _) (Nat.le_refl _) (fun h => by cases h) (fun h => by cases h) LX5 LY5 hXl hYl (hT.keep' hw S5)).mono ?_
  rintro e w6 ⟨rfl, s6⟩
  have S6 : w.Since w.heap.size w6 := S5.trans (sinceMono s6 S5.size)
  have B6 := B5.keep s6
  have C6 := C5.keep s6
  have LX6 := LX5.keep s6
  have LY6 := LY5.keep s6
  clear s6 B5 C5 LX5 LY5 S5
  generalize ratOkB neg X n Y m = ok
  have k0 := B6.c0
  have k1 := B6.c1
  have k2 := B6.c2
  have j0 := C6.c0
  have j1 := C6.c1
  have j2 := C6.c2
  go_wp2_with fail
  have S7 : w.Since w.heap.size w6.drew := ⟨S6.os, S6.tape, S6.output, S6.size, S6.block⟩
  have LX7 : Limbs w6.drew (some ⟨g4, 0, none⟩) g4 0 n X := LX6
  have LY7 : Limbs w6.drew (some ⟨h4, 0, none⟩) h4 0 m Y := LY6
  have B7 : Box3 w6.drew w.heap.size (.bool neg) (.slice a n ca) (.slice b m cb) := ⟨k0, k1, k2, B6.f⟩
  have C7 : Box3 w6.drew w4.heap.size (.bool neg) (.slice (some ⟨g4, 0, none⟩) n n) (.slice (some ⟨h4, 0, none⟩) m m) := ⟨j0, j1, j2, C6.f⟩
  have J1 := toRat_any neg a b ba oa n ca bb ob m cb X Y w6.drew (by omega) (by omega) (hX.keep S7) (hY.keep S7)
  clear B6 C6 LX6 LY6 S6 hT hl hX hY hXl hYl
  go_region_held3 (fun w' => w'.cell? ⟨w.heap.size, 0, none⟩ = some (.bool neg) ∧ w'.cell? ⟨w.heap.size, 1, none⟩ = some (.slice a n ca) ∧ w'.cell? ⟨w.heap.size, 2, none⟩ = some (.slice b m cb) ∧ w'.cell? ⟨w4.heap.size, 0, none⟩ = some (.bool neg) ∧ w'.cell? ⟨w4.heap.size, 1, none⟩ = some (.slice (some ⟨g4, 0, none⟩) n n) ∧ w'.cell? ⟨w4.heap.size, 2, none⟩ = some (.slice (some ⟨h4, 0, none⟩) m m)) (go_keep)
    (first
      | (go_at_call 19
         with_reducible refine J1.mono ?_
         rintro e w8 ⟨g8, h8, rfl, s8, v1, v2, v3, LX8, LY8, -, -⟩
         have S8 : w.Since w.heap.size w8 := S7.trans (sinceMono s8 S7.size)
         have J2 := eqRat_true neg _ _ _ _ g4 0 g8 0 n n n h4 0 h8 0 m m m X Y w8 (by omega) (by omega) (LX7.keep s8) LX8 (LY7.keep s8) LY8
         have B8 := B7.keep s8
         have C8 := C7.keep s8
         have i0 := B8.c0
         have i1 := B8.c1
         have i2 := B8.c2
         have l0 := C8.c0
         have l1 := C8.c1
         have l2 := C8.c2)
      | (go_at_call 21
         with_reducible refine J2.mono ?_
         rintro e w9 ⟨rfl, s9⟩
         have S9 : w.Since w.heap.size w9 := S8.trans (sinceMono s9 S8.size)
         have B9 := B8.keep s9
         have C9 := C8.keep s9
         have i0' := B9.c0
         have i1' := B9.c1
         have i2' := B9.c2
         have l0' := C9.c0
         have l1' := C9.c1
         have l2' := C9.c2))
  all_goals go_wp2
  all_goals go_ret
  all_goals exact ⟨rfl, S9⟩

set_option maxHeartbeats 800000 in
set_option maxRecDepth 100000 in
theorem ratOk_long (neg : Bool) (a b : Option Addr) (n ca m cb : Nat) (w : World) (hn : 1048576 < n + m) (h1 : n ≤ 9223372036854775807) (h2 : m ≤ 9223372036854775807) :
    Calls Tryd.prog 4 #[.agg #[.bool neg, .slice a n ca, .slice b m cb]] w fun e w' => e = .returned (.bool true) ∧ w.Since w.heap.size w' := by
  have sA : w.Since w.heap.size (w.alloc (.cells #[.bool neg, .slice a n ca, .slice b m cb] 28)) := (World.Since.refl _ _).alloc (Nat.le_refl _) _
  go_enter Tryd.func4, Tryd.ntmps4
  go_wp2_with fail
  refine (szRat_no neg a b n ca m cb 1048576 _ (by omega) hn h1 h2).mono ?_
  rintro e w1 ⟨rfl, s1⟩
  go_wp2
  go_ret
  exact ⟨rfl, sA.trans (sinceMono s1 sA.size)⟩

end Go.Proofs.YtickondjmilehabDoor
