import Derived.Test.YtlpabmcebpppfaaGreatDoorOwnP27
import Derived.Test.YtlpabmcebpppfaaGreatDoorOwnP33
import Derived.Test.YtlpabmcebpppfaaGreatDoorOwnP17
namespace Go.Proofs.YtlpabmcebpppfaaGreatDoor
open Go.RowKit

/-- The text that NetText answers. -/
def nTxt (n : Nat) (A : Nat → AffD) [Decidable (NetP n A)] : List UInt8 := if NetP n A then netB n A else []

open Classical in
theorem specNetText_any (a : Option Addr) (lo b off n cap : Nat) (A : Nat → AffD) (w : World) (hn : n ≤ 1048576) (hs : szA A n ≤ 1048576) (H : Affs w lo a b off n A) :
    Calls Tryz.prog 11 #[.agg #[.slice a n cap]] w fun e w' => e = .returned (.string ⟨(nTxt n A).toArray⟩) ∧ w.Since w.heap.size w' := by
  by_cases E : NetP n A
  · rw [nTxt, if_pos E]
    have := (H 0 (by have := E.n0; omega)).1
    subst this
    exact specNetText_okA lo b off n cap A w hn hs H E
  · rw [nTxt, if_neg E]
    exact specNetText_no a lo b off n cap A w hn hs H E

open Classical in
theorem implNetText_any (a : Option Addr) (lo b off n cap : Nat) (A : Nat → AffD) (w : World) (hP : Pow w) (hn : n ≤ 1048576) (hs : szA A n ≤ 1048576) (H : Affs w lo a b off n A) :
    Calls Tryz.prog 13 #[.agg #[.slice a n cap]] w fun e w' => e = .returned (.string ⟨(nTxt n A).toArray⟩) ∧ w.Since w.heap.size w' := by
  by_cases E : NetP n A
  · rw [nTxt, if_pos E]
    have := (H 0 (by have := E.n0; omega)).1
    subst this
    exact implNetText_okA lo b off n cap A w hP hn hs H E
  · rw [nTxt, if_neg E]
    exact implNetText_no a lo b off n cap A w hn hs H E

open Classical in
set_option maxHeartbeats 3200000 in
set_option maxRecDepth 100000 in
theorem netText_law (a : Option Addr) (lo b off n cap : Nat) (A : Nat → AffD) (w : World) (hP : Pow w) (hz : n + szA A n ≤ 1048576) (H : Affs w lo a b off n A) :
    Calls Tryz.prog 4 #[.agg #[.slice a n cap]] w fun e w' => e = .returned (.bool true) ∧ w.Since w.heap.size w' := by
  have sA : w.Since w.heap.size (w.alloc (.cells #[.slice a n cap] 37)) := (World.Since.refl _ _).alloc (Nat.le_refl _) _
  have bA := Box1.new w (.slice a n cap) 37
  have J0 := szNet_any a lo b off n cap 1048576 A _ (by omega) (by omega) (H.keep sA)
  rw [szl_ok hz] at J0
  have hl : ¬ (((1048576 - (n + szA A n) : Nat) : Int) < 0) := by omega
  go_enter Tryz.func4, Tryz.ntmps4
  go_wp2_with fail
  generalize w.alloc (.cells #[.slice a n cap] 37) = wA at *
  refine J0.mono ?_
  rintro e w1 ⟨rfl, s1⟩
  have S1 : w.Since w.heap.size w1 := sA.trans (sinceMono s1 sA.size)
  have B1 := bA.keep s1
  have b0 := B1.c0
  clear bA J0
  -- w0 := spec.NetOk(toNet(aN))
  go_wp2_with fail
  refine (toNet_any a lo b off n cap A w1 (by omega) (by omega) (H.keep S1)).mono ?_
  rintro e w2 ⟨c2, rfl, -, -, H2, s2⟩
  have S2 : w.Since w.heap.size w2 := S1.trans (sinceMono s2 S1.size)
  have B2 := B1.keep s2
  clear b0 B1 hl
  go_wp2_with fail
  refine (specNetText_any _ _ c2 0 n n A w2 (by omega) (by omega) H2).mono ?_
  rintro e w3 ⟨rfl, s3⟩
  have S3 : w.Since w.heap.size w3 := S2.trans (sinceMono s3 S2.size)
  have B3 := B2.keep s3
  have b0 := B3.c0
  clear B2 H2
  -- x0 := toNet(aN); g0 := impl.NetOk(x0)
  go_wp2_with fail
  refine (toNet_any a lo b off n cap A w3 (by omega) (by omega) (H.keep S3)).mono ?_
  rintro e w4 ⟨c4, rfl, -, -, H4, s4⟩
  have S4 : w.Since w.heap.size w4 := S3.trans (sinceMono s4 S3.size)
  have B4 := B3.keep s4
  clear b0 B3
  have t4 : w4.Since w4.heap.size (w4.alloc (.cells #[.slice (some ⟨c4, 0, none⟩) n n] 42)) := (World.Since.refl _ _).alloc (Nat.le_refl _) _
  have C5 := Box1.new w4 (.slice (some ⟨c4, 0, none⟩) n n) 42
  go_wp2_with fail
  generalize w4.alloc (.cells #[.slice (some ⟨c4, 0, none⟩) n n] 42) = w5 at *
  have S5 : w.Since w.heap.size w5 := S4.trans (sinceMono t4 S4.size)
  have B5 := B4.keep t4
  have H5 := H4.keep t4
  refine (implNetText_any _ _ c4 0 n n A w5 (hP.stay S5) (by omega) (by omega) H5).mono ?_
  rintro e w6 ⟨rfl, s6⟩
  generalize nTxt n A = txt
  have S6 : w.Since w.heap.size w6 := S5.trans (sinceMono s6 S5.size)
  have B6 := B5.keep s6
  have C6 := C5.keep s6
  have H6 := H5.keep s6
  clear B4 C5 H4 H5 B5
  have b0 := B6.c0
  have c0 := C6.c0
  go_wp2_with fail
  have S7 : w.Since w.heap.size w6.drew := ⟨S6.os, S6.tape, S6.output, S6.size, S6.block⟩
  have B7 : Box1 w6.drew w.heap.size (.slice a n cap) := ⟨b0, B6.f⟩
  have C7 : Box1 w6.drew w4.heap.size (.slice (some ⟨c4, 0, none⟩) n n) := ⟨c0, C6.f⟩
  have dr : w6.Since w6.heap.size w6.drew := (World.Since.refl _ _).drew
  have H7 := H6.keep dr
  have J1 := toNet_any a lo b off n cap A w6.drew (by omega) (by omega) (H.keep S7)
  clear B6 C6 H6 S6 hP H
  go_region_held3 (fun w' => w'.cell? ⟨w.heap.size, 0, none⟩ = some (.slice a n cap) ∧ w'.cell? ⟨w4.heap.size, 0, none⟩ = some (.slice (some ⟨c4, 0, none⟩) n n)) (go_keep)
    (first
      | (go_at_call 12
         with_reducible refine J1.mono ?_
         rintro e w8 ⟨c8, rfl, -, -, H8, s8⟩
         have S8 : w.Since w.heap.size w8 := S7.trans (sinceMono s8 S7.size)
         have J2 := eqNet_true _ _ _ c4 0 n _ c8 0 n n A w8 (by omega) (by omega) (H7.keep s8) H8
         have B8 := B7.keep s8
         have C8 := C7.keep s8
         have i0 := B8.c0
         have l0 := C8.c0)
      | (go_at_call 14
         with_reducible refine J2.mono ?_
         rintro e w9 ⟨rfl, s9⟩
         have S9 : w.Since w.heap.size w9 := S8.trans (sinceMono s9 S8.size)
         have i0' := (B8.keep s9).c0
         have l0' := (C8.keep s9).c0))
  all_goals go_wp2
  all_goals go_ret
  all_goals exact ⟨rfl, S9⟩

set_option maxHeartbeats 800000 in
set_option maxRecDepth 100000 in
theorem netText_long (a : Option Addr) (lo b off n cap : Nat) (A : Nat → AffD) (w : World) (hn : n ≤ 9223372036854775807) (hz : 1048576 < n + szA A n) (H : Affs w lo a b off n A) :
    Calls Tryz.prog 4 #[.agg #[.slice a n cap]] w fun e w' => e = .returned (.bool true) ∧ w.Since w.heap.size w' := by
  have sA : w.Since w.heap.size (w.alloc (.cells #[.slice a n cap] 37)) := (World.Since.refl _ _).alloc (Nat.le_refl _) _
  have J0 := szNet_any a lo b off n cap 1048576 A _ (by omega) hn (H.keep sA)
  rw [szl_no hz] at J0
  go_enter Tryz.func4, Tryz.ntmps4
  go_wp2_with fail
  refine J0.mono ?_
  rintro e w1 ⟨rfl, s1⟩
  go_wp2
  go_ret
  exact ⟨rfl, sA.trans (sinceMono s1 sA.size)⟩

end Go.Proofs.YtlpabmcebpppfaaGreatDoor
