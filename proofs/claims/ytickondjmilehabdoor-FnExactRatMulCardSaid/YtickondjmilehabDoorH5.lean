import Derived.Test.YtickondjmilehabDoorW1
import Derived.Test.YtickondjmilehabDoorW2
import Derived.Test.YtickondjmilehabDoorH4
import Derived.Test.YtickondjmilehabDoorB3
import Derived.Deep.RegionHeld3
namespace Go.Proofs.YtickondjmilehabDoor
open Go.RowKit

set_option maxHeartbeats 800000 in
set_option maxRecDepth 100000 in
theorem szU_ok (a : Option Addr) (n cap L : Nat) (w : World) (hL : L ≤ 1048576) (hn : n ≤ L) :
    Calls Tryd.prog 41 #[.slice a n cap, .int .i64 L] w fun e w' => e = .returned (.int .i64 ((L - n : Nat) : Int)) ∧ w' = w := by
  have h : (L : Int) - n = ((L - n : Nat) : Int) := by omega
  have H := hide h
  clear h
  go_enter Tryd.func41, Tryd.ntmps41
  go_wp2
  go_ret
  exact ⟨ret_int H.out, rfl⟩

set_option maxHeartbeats 800000 in
set_option maxRecDepth 100000 in
theorem szU_no (a : Option Addr) (n cap L : Nat) (w : World) (hL : L ≤ 1048576) (hn : L < n) (hm : n ≤ 9223372036854775807) :
    Calls Tryd.prog 41 #[.slice a n cap, .int .i64 L] w fun e w' => e = .returned (.int .i64 (-1)) ∧ w' = w := by
  go_enter Tryd.func41, Tryd.ntmps41
  go_wp2
  go_ret
  exact ⟨rfl, rfl⟩

set_option maxHeartbeats 800000 in
set_option maxRecDepth 100000 in
theorem szRat_ok (neg : Bool) (a b : Option Addr) (n ca m cb L : Nat) (w : World) (hL : L ≤ 1048576) (hn : n + m ≤ L) :
    Calls Tryd.prog 17 #[.agg #[.bool neg, .slice a n ca, .slice b m cb], .int .i64 L] w fun e w' => e = .returned (.int .i64 ((L - n - m : Nat) : Int)) ∧ w.Since w.heap.size w' := by
  have sA : w.Since w.heap.size (w.alloc (.cells #[.bool neg, .slice a n ca, .slice b m cb] 28)) := (World.Since.refl _ _).alloc (Nat.le_refl _) _
  go_enter Tryd.func17, Tryd.ntmps17
  go_wp2_with fail
  refine (szU_ok a n ca L _ hL (by omega)).mono ?_
  rintro e w1 ⟨rfl, rfl⟩
  go_wp2_with fail
  refine (szU_ok b m cb (L - n) _ (by omega) (by omega)).mono ?_
  rintro e w1 ⟨rfl, rfl⟩
  go_wp2
  go_ret
  exact ⟨rfl, sA⟩

set_option maxHeartbeats 800000 in
set_option maxRecDepth 100000 in
theorem szRat_no (neg : Bool) (a b : Option Addr) (n ca m cb L : Nat) (w : World) (hL : L ≤ 1048576) (hn : L < n + m) (hn1 : n ≤ 9223372036854775807) (hm : m ≤ 9223372036854775807) :
    Calls Tryd.prog 17 #[.agg #[.bool neg, .slice a n ca, .slice b m cb], .int .i64 L] w fun e w' => e = .returned (.int .i64 (-1)) ∧ w.Since w.heap.size w' := by
  have sA : w.Since w.heap.size (w.alloc (.cells #[.bool neg, .slice a n ca, .slice b m cb] 28)) := (World.Since.refl _ _).alloc (Nat.le_refl _) _
  by_cases h : L < n
  · go_enter Tryd.func17, Tryd.ntmps17
    go_wp2_with fail
    refine (szU_no a n ca L _ hL h hn1).mono ?_
    rintro e w1 ⟨rfl, rfl⟩
    go_wp2
    go_ret
    exact ⟨rfl, sA⟩
  · go_enter Tryd.func17, Tryd.ntmps17
    go_wp2_with fail
    refine (szU_ok a n ca L _ hL (by omega)).mono ?_
    rintro e w1 ⟨rfl, rfl⟩
    go_wp2_with fail
    refine (szU_no b m cb (L - n) _ (by omega) (by omega) hm).mono ?_
    rintro e w1 ⟨rfl, rfl⟩
    go_wp2
    go_ret
    exact ⟨rfl, sA⟩

set_option maxHeartbeats 1600000 in
set_option maxRecDepth 100000 in
theorem toRat_any (neg : Bool) (a b : Option Addr) (ba oa n ca bb ob m cb : Nat) (X Y : Nat → Nat) (w : World) (hn : n ≤ 1048576) (hm : m ≤ 1048576) (hX : Limbs w a ba oa n X) (hY : Limbs w b bb ob m Y) :
    Calls Tryd.prog 19 #[.agg #[.bool neg, .slice a n ca, .slice b m cb]] w fun e w' => ∃ g h, e = .returned (.agg #[.bool neg, .slice (some ⟨g, 0, none⟩) n n, .slice (some ⟨h, 0, none⟩) m m]) ∧ w.Since w.heap.size w' ∧ w.heap.size ≤ g ∧ g < h ∧
      h < w'.heap.size ∧ Limbs w' (some ⟨g, 0, none⟩) g 0 n X ∧ Limbs w' (some ⟨h, 0, none⟩) h 0 m Y ∧ (∀ o, w'.frozen? ⟨g, o, none⟩ = false) ∧ (∀ o, w'.frozen? ⟨h, o, none⟩ = false) := by
  have sA : w.Since w.heap.size (((w.alloc (.cells #[.bool neg, .slice a n ca, .slice b m cb] 28)).alloc (.cells #[.bool false, .slice none 0 0, .slice none 0 0] 31)).alloc (.cells #[.bool neg, .slice none 0 0, .slice none 0 0] 31)) :=
    (((World.Since.refl _ _).alloc (Nat.le_refl _) _).alloc (by simp) _).alloc (by simp; omega) _
  have zA : (((w.alloc (.cells #[.bool neg, .slice a n ca, .slice b m cb] 28)).alloc (.cells #[.bool false, .slice none 0 0, .slice none 0 0] 31)).alloc (.cells #[.bool neg, .slice none 0 0, .slice none 0 0] 31)).heap.size = w.heap.size + 1 + 1 + 1 := by simp
  have bA : Box3 (((w.alloc (.cells #[.bool neg, .slice a n ca, .slice b m cb] 28)).alloc (.cells #[.bool false, .slice none 0 0, .slice none 0 0] 31)).alloc (.cells #[.bool neg, .slice none 0 0, .slice none 0 0] 31)) w.heap.size (.bool neg) (.slice a n ca) (.slice b m cb) := ((Box3.new w _ _ _ _).keep ((World.Since.refl _ _).alloc (Nat.le_refl _) _)).keep ((World.Since.refl _ _).alloc (Nat.le_refl _) _)
  have rA : Box3 (((w.alloc (.cells #[.bool neg, .slice a n ca, .slice b m cb] 28)).alloc (.cells #[.bool false, .slice none 0 0, .slice none 0 0] 31)).alloc (.cells #[.bool neg, .slice none 0 0, .slice none 0 0] 31)) (w.heap.size + 1) (.bool false) (.slice none 0 0) (.slice none 0 0) := by
    have := (Box3.new (w.alloc (.cells #[.bool neg, .slice a n ca, .slice b m cb] 28)) (.bool false) (.slice none 0 0) (.slice none 0 0) 31).keep ((World.Since.refl _ _).alloc (Nat.le_refl _) (.cells #[.bool neg, .slice none 0 0, .slice none 0 0] 31))
    simpa using this
  have oA : Box3 (((w.alloc (.cells #[.bool neg, .slice a n ca, .slice b m cb] 28)).alloc (.cells #[.bool false, .slice none 0 0, .slice none 0 0] 31)).alloc (.cells #[.bool neg, .slice none 0 0, .slice none 0 0] 31)) (w.heap.size + 1 + 1) (.bool neg) (.slice none 0 0) (.slice none 0 0) := by
    have := Box3.new ((w.alloc (.cells #[.bool neg, .slice a n ca, .slice b m cb] 28)).alloc (.cells #[.bool false, .slice none 0 0, .slice none 0 0] 31)) (.bool neg) (.slice none 0 0) (.slice none 0 0) 31
    simpa using this
  go_enter Tryd.func19, Tryd.ntmps19
  go_wp2_with fail
  generalize (((w.alloc (.cells #[.bool neg, .slice a n ca, .slice b m cb] 28)).alloc (.cells #[.bool false, .slice none 0 0, .slice none 0 0] 31)).alloc (.cells #[.bool neg, .slice none 0 0, .slice none 0 0] 31)) = wA at *
  refine (to_any a ba oa n ca X wA hn (hX.keep sA)).mono ?_
  rintro e w1 ⟨rfl, s1, r1⟩
  have z1 := s1.size
  have b1 := bA.keep s1
  have q1 := rA.keep s1
  have o1 := oA.keep s1
  have S1 : w.Since w.heap.size w1 := sA.trans (sinceMono s1 sA.size)
  have L1 := limbs_row r1
  have F1 : ∀ o, w1.frozen? ⟨wA.heap.size, o, none⟩ = false := fun o => r1.frozen o
  have t1 : wA.heap.size < w1.heap.size := r1.lt
  rw [zA] at L1 F1 t1
  clear r1 bA rA oA
  have k1 := b1.c2
  have k2 := o1.c1
  have k3 := o1.f 1
  go_wp2_with fail
  clear k1 k2 k3
  have M2 : Marked w1 (w1.setCell ⟨w.heap.size + 1 + 1, 1, none⟩ (.slice (some ⟨w.heap.size + 1 + 1 + 1, 0, none⟩) n n)) (w.heap.size + 1 + 1) := (Marked.refl w1 _).setCell _ _
  have o2 := o1.set1 (.slice (some ⟨w.heap.size + 1 + 1 + 1, 0, none⟩) n n)
  have q2 := q1.marked M2 (by omega)
  have S2 : w.Since w.heap.size (w1.setCell ⟨w.heap.size + 1 + 1, 1, none⟩ (.slice (some ⟨w.heap.size + 1 + 1 + 1, 0, none⟩) n n)) := S1.trans (M2.since (by omega))
  have L2 := L1.marked M2 (fun _ => by omega)
  have F2 : ∀ o, (w1.setCell ⟨w.heap.size + 1 + 1, 1, none⟩ (.slice (some ⟨w.heap.size + 1 + 1 + 1, 0, none⟩) n n)).frozen? ⟨w.heap.size + 1 + 1 + 1, o, none⟩ = false := fun o => by rw [M2.frozenO (a := ⟨w.heap.size + 1 + 1 + 1, o, none⟩) (by show w.heap.size + 1 + 1 + 1 ≠ _; omega)]; exact F1 o
  have z2 := M2.size
  generalize w1.setCell ⟨w.heap.size + 1 + 1, 1, none⟩ (.slice (some ⟨w.heap.size + 1 + 1 + 1, 0, none⟩) n n) = w2 at *
  refine (to_any b bb ob m cb Y w2 hm (hY.keep S2)).mono ?_
  rintro e w3 ⟨rfl, s3, r3⟩
  have z3 := s3.size
  have q3 := q2.keep s3
  have o3 := o2.keep s3
  have S3 : w.Since w.heap.size w3 := S2.trans (sinceMono s3 S2.size)
  have L3 := L2.keep s3
  have F3 : ∀ o, w3.frozen? ⟨w.heap.size + 1 + 1 + 1, o, none⟩ = false := fun o => by rw [s3.frozen (a := ⟨w.heap.size + 1 + 1 + 1, o, none⟩) (by show w.heap.size + 1 + 1 + 1 < _; omega)]; exact F2 o
  have K3 := limbs_row r3
  have G3 : ∀ o, w3.frozen? ⟨w2.heap.size, o, none⟩ = false := fun o => r3.frozen o
  have t3 : w2.heap.size < w3.heap.size := r3.lt
  clear r3 L1 L2 F1 F2 b1 q1 o1 q2 o2
  have q30 := q3.c0
  have q31 := q3.c1
  have q32 := q3.c2
  have q3f0 := q3.f 0
  have q3f1 := q3.f 1
  have q3f2 := q3.f 2
  have o30 := o3.c0
  have o31 := o3.c1
  have o32 := o3.c2
  have o3f2 := o3.f 2
  have M4 : Marked w3 (w3.setCell ⟨w.heap.size + 1 + 1, 2, none⟩ (.slice (some ⟨w1.heap.size, 0, none⟩) m m)) (w.heap.size + 1 + 1) := (Marked.refl w3 _).setCell _ _
  rw [z2] at K3 G3 t3
  go_wp2
  have q4 := (((q3.marked M4 (by omega)).set0 (.bool neg)).set1 (.slice (some ⟨w.heap.size + 1 + 1 + 1, 0, none⟩) n n)).set2 (.slice (some ⟨w1.heap.size, 0, none⟩) m m)
  refine bodyPost_ret (results_box3 rfl _ _ _ _ _ _ rfl q4) rfl ?_
  have M5 : Marked (w3.setCell ⟨w.heap.size + 1 + 1, 2, none⟩ (.slice (some ⟨w1.heap.size, 0, none⟩) m m)) _ (w.heap.size + 1) := (((Marked.refl _ _).setCell 0 (.bool neg)).setCell 1 (.slice (some ⟨w.heap.size + 1 + 1 + 1, 0, none⟩) n n)).setCell 2 (.slice (some ⟨w1.heap.size, 0, none⟩) m m)
  refine ⟨w.heap.size + 1 + 1 + 1, w1.heap.size, rfl, (S3.trans (M4.since (by omega))).trans (M5.since (by omega)), by omega, by omega, by rw [M5.size, M4.size]; omega,
    (L3.marked M4 (fun _ => by omega)).marked M5 (fun _ => by omega), (K3.marked M4 (fun _ => by omega)).marked M5 (fun _ => by omega), fun o => ?_, fun o => ?_⟩
  · rw [M5.frozenO (a := ⟨w.heap.size + 1 + 1 + 1, o, none⟩) (by show w.heap.size + 1 + 1 + 1 ≠ _; omega), M4.frozenO (a := ⟨w.heap.size + 1 + 1 + 1, o, none⟩) (by show w.heap.size + 1 + 1 + 1 ≠ _; omega)]; exact F3 o
  · rw [M5.frozenO (a := ⟨w1.heap.size, o, none⟩) (by show w1.heap.size ≠ _; omega), M4.frozenO (a := ⟨w1.heap.size, o, none⟩) (by show w1.heap.size ≠ _; omega)]; exact G3 o

set_option maxHeartbeats 800000 in
set_option maxRecDepth 100000 in
/-- eqRat at two Rats of the same fields. -/
theorem eqRat_true (neg : Bool) (a a' b b' : Option Addr) (ba oa ba' oa' n ca ca' bb ob bb' ob' m cb cb' : Nat) (X Y : Nat → Nat) (w : World) (hn : n ≤ 4194304) (hm : m ≤ 4194304)
    (hX : Limbs w a ba oa n X) (hX' : Limbs w a' ba' oa' n X) (hY : Limbs w b bb ob m Y) (hY' : Limbs w b' bb' ob' m Y) :
    Calls Tryd.prog 21 #[.agg #[.bool neg, .slice a n ca, .slice b m cb], .agg #[.bool neg, .slice a' n ca', .slice b' m cb']] w fun e w' => e = .returned (.bool true) ∧ w.Since w.heap.size w' := by
  have sA : w.Since w.heap.size ((w.alloc (.cells #[.bool neg, .slice a n ca, .slice b m cb] 31)).alloc (.cells #[.bool neg, .slice a' n ca', .slice b' m cb'] 31)) := ((World.Since.refl _ _).alloc (Nat.le_refl _) _).alloc (by simp) _
  have bA : Box3 ((w.alloc (.cells #[.bool neg, .slice a n ca, .slice b m cb] 31)).alloc (.cells #[.bool neg, .slice a' n ca', .slice b' m cb'] 31)) w.heap.size (.bool neg) (.slice a n ca) (.slice b m cb) := (Box3.new w _ _ _ _).keep ((World.Since.refl _ _).alloc (Nat.le_refl _) _)
  have cA : Box3 ((w.alloc (.cells #[.bool neg, .slice a n ca, .slice b m cb] 31)).alloc (.cells #[.bool neg, .slice a' n ca', .slice b' m cb'] 31)) (w.heap.size + 1) (.bool neg) (.slice a' n ca') (.slice b' m cb') := by
    have := Box3.new (w.alloc (.cells #[.bool neg, .slice a n ca, .slice b m cb] 31)) (.bool neg) (.slice a' n ca') (.slice b' m cb') 31
    simpa using this
  go_enter Tryd.func21, Tryd.ntmps21
  go_wp2_with fail
  generalize ((w.alloc (.cells #[.bool neg, .slice a n ca, .slice b m cb] 31)).alloc (.cells #[.bool neg, .slice a' n ca', .slice b' m cb'] 31)) = wA at *
  refine (eq_true a a' ba oa ba' oa' n ca ca' X wA hn (hX.keep sA) (hX'.keep sA)).mono ?_
  rintro e w1 ⟨rfl, s1⟩
  have S1 := s1.since wA.heap.size
  have k1 := (bA.keep S1).c2
  have k2 := (cA.keep S1).c2
  go_wp2_with fail
  refine (eq_true b b' bb ob bb' ob' m cb cb' Y w1 hm ((hY.keep sA).keep S1) ((hY'.keep sA).keep S1)).mono ?_
  rintro e w2 ⟨rfl, s2⟩
  go_wp2
  go_ret
  exact ⟨rfl, (sA.trans (sinceMono S1 sA.size)).trans (s2.since _)⟩

end Go.Proofs.YtickondjmilehabDoor
