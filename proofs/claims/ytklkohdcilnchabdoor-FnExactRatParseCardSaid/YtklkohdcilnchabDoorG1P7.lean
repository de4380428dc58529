import Derived.Test.YtklkohdcilnchabDoorG1P6
import Derived.Test.YtklkohdcilnchabDoorG1P4
import Derived.Test.YtklkohdcilnchabDoorG1P5
import Derived.Deep.RegionHeld3
namespace Go.Proofs.YtklkohdcilnchabDoor
open Go.RowKit

set_option maxHeartbeats 800000 in
set_option maxRecDepth 100000 in
theorem szU_ok (a : Option Addr) (n cap L : Nat) (w : World) (hL : L ≤ 1048576) (hn : n ≤ L) :
    Calls Tryd.prog 41 #[.slice a n cap, .int .i64 L] w fun e w' => e = .returned (.int .i64 ((L - n : Nat) : Int)) ∧ w' = w := by
  have h : (L : Int) - n = ((L - n : Nat) : Int) := by omega
  have H := hide h
  clear h
  go_enter Tryd.func41, Tryd.ntmps41
  go_wp2
  go_ret
  exact ⟨ret_int H.out, rfl⟩

set_option maxHeartbeats 800000 in
set_option maxRecDepth 100000 in
theorem szU_no (a : Option Addr) (n cap L : Nat) (w : World) (hL : L ≤ 1048576) (hn : L < n) (hm : n ≤ 9223372036854775807) :
    Calls Tryd.prog 41 #[.slice a n cap, .int .i64 L] w fun e w' => e = .returned (.int .i64 (-1)) ∧ w' = w := by
  go_enter Tryd.func41, Tryd.ntmps41
  go_wp2
  go_ret
  exact ⟨rfl, rfl⟩

set_option maxHeartbeats 800000 in
set_option maxRecDepth 100000 in
theorem szRat_ok (neg : Bool) (a b : Option Addr) (n ca m cb L : Nat) (w : World) (hL : L ≤ 1048576) (hn : n + m ≤ L) :
    Calls Tryd.prog 17 #[.agg #[.bool neg, .slice a n ca, .slice b m cb], .int .i64 L] w fun e w' => e = .returned (.int .i64 ((L - n - m : Nat) : Int)) ∧ w.Since w.heap.size w' := by
  have sA : w.Since w.heap.size (w.alloc (.cells #[.bool neg, .slice a n ca, .slice b m cb] 28)) := (World.Since.refl _ _).alloc (Nat.le_refl _) _
  go_enter Tryd.func17, Tryd.ntmps17
  go_wp2_with fail
  refine (szU_ok a n ca L _ hL (by omega)).mono ?_
  rintro e w1 ⟨rfl, rfl⟩
  go_wp2_with fail
  refine (szU_ok b m cb (L - n) _ (by omega) (by omega)).mono ?_
  rintro e w1 ⟨rfl, rfl⟩
  go_wp2
  go_ret
  exact ⟨rfl, sA⟩

set_option maxHeartbeats 800000 in
set_option maxRecDepth 100000 in
theorem szRat_no (neg : Bool) (a b : Option Addr) (n ca m cb L : Nat) (w : World) (hL : L ≤ 1048576) (hn : L < n + m) (hn1 : n ≤ 9223372036854775807) (hm : m ≤ 9223372036854775807) :
    Calls Tryd.prog 17 #[.agg #[.bool neg, .slice a n ca, .slice b m cb], .int .i64 L] w fun e w' => e = .returned (.int .i64 (-1)) ∧ w.Since w.heap.size w' := by
  have sA : w.Since w.heap.size (w.alloc (.cells #[.bool neg, .slice a n ca, .slice b m cb] 28)) := (World.Since.refl _ _).alloc (Nat.le_refl _) _
  by_cases h : L < n
  · go_enter Tryd.func17, Tryd.ntmps17
    go_wp2_with fail
    refine (szU_no a n ca L _ hL h hn1).mono ?_
    rintro e w1 ⟨rfl, rfl⟩
    go_wp2
    go_ret
    exact ⟨rfl, sA⟩
  · go_enter Tryd.func17, Tryd.ntmps17
    go_wp2_with fail
    refine (szU_ok a n ca L _ hL (by omega)).mono ?_
    rintro e w1 ⟨rfl, rfl⟩
    go_wp2_with fail
    refine (szU_no b m cb (L - n) _ (by omega) (by omega) hm).mono ?_
    rintro e w1 ⟨rfl, rfl⟩
    go_wp2
    go_ret
    exact ⟨rfl, sA⟩

set_option maxHeartbeats 1600000 in
set_option maxRecDepth 100000 in
theorem toRat_any (neg : Bool) (a b : Option Addr) (ba oa n ca bb ob m cb : Nat) (X Y : Nat → Nat) (w : World) (hn : n ≤ 1048576) (hm : m ≤ 1048576) (hX : Limbs w a ba oa n X) (hY : Limbs w b bb ob m Y) :
    Calls Tryd.prog 19 #[.agg #[.bool neg, .slice a n ca, .slice b m cb]] w fun e w' => ∃ g h, e = .returned (.agg #[.bool neg, .slice (some ⟨g, 0, none⟩) n n, .slice (some ⟨h, 0, none⟩) m m]) ∧ w.Since w.heap.size w' ∧ w.heap.size ≤ g ∧ g < h ∧
      h < w'.heap.size ∧ Limbs w' (some ⟨g, 0, none⟩) g 0 n X ∧ Limbs w' (some ⟨h, 0, none⟩) h 0 m Y ∧ (∀ o, w'.frozen? ⟨g, o, none⟩ = false) ∧ (∀ o, w'.frozen? ⟨h, o, none⟩ = false) := by
  have sA : w.Since w.heap.size (((w.alloc (.cells #[.bool neg, .slice a n ca, .slice b m cb] 28)).alloc (.cells #[.bool false, .slice none 0 0, .slice none 0 0] 31)).alloc (.cells #[.bool neg, .slice none 0 0, .slice none 0 0] 31)) :=
    (((World.Since.refl _ _).alloc (Nat.le_refl _) _).alloc (by simp) _).alloc (by simp; omega) _
  have zA : (((w.alloc (.cells #[.bool neg, .slice a n ca, .slice b m cb] 28)).alloc (.cells #[.bool false, .slice none 0 0, .slice none 0 0] 31)).alloc (.cells #[.bool neg, .slice none 0 0, .slice none 0 0] 31)).heap.size = w.heap.size + 1 + 1 + 1 := by simp
  have bA : Box3 (((w.alloc (.cells #[.bool neg, .slice a n ca, .slice b m cb] 28)).alloc (.cells #[.bool false, .slice none 0 0, .slice none 0 0] 31)).alloc (.cells #[.bool neg, .slice none 0 0, .slice none 0 0] 31)) w.heap.size (.bool neg) (.slice a n ca) (.slice b m cb) := ((Box3.new w _ _ _ _).keep ((World.Since.refl _ _).alloc (Nat.le_refl _) _)).keep ((World.Since.refl _ _).alloc (Nat.le_refl _) _)
  have rA : Box3 (((w.alloc (.cells #[.bool neg, .slice a n ca, .slice b m cb] 28)).alloc (.cells #[.bool false, .slice none 0 0, .slice none 0 0] 31)).alloc (.cells #[.bool neg, .slice none 0 0, .slice none 0 0] 31)) (w.heap.size + 1) (.bool false) (.slice none 0 0) (.slice none 0 0) := by
    have := (Box3.new (w.alloc (.cells #[.bool neg, .slice a n ca, .slice b m cb] 28)) (.bool false) (.slice none 0 0) (.slice none 0 0) 31).keep ((World.Since.refl _ _).alloc (Nat.le_refl _) (.cells #[.bool neg, .slice none 0 0, .slice none 0 0] 31))
    simpa using this
  have oA : Box3 (((w.alloc (.cells #[.bool neg, .slice a n ca, .slice b m cb] 28)).alloc (.cells #[.bool false, .slice none 0 0, .slice none 0 0] 31)).alloc (.cells #[.bool neg, .slice none 0 0, .slice none 0 0] 31)) (w.heap.size + 1 + 1) (.bool neg) (.slice none 0 0) (.slice none 0 0) := by
    have := Box3.new ((w.alloc (.cells #[.bool neg, .slice a n ca, .slice b m cb] 28)).alloc (.cells #[.bool false, .slice none 0 0, .slice none 0 0] 31)) (.bool neg) (.slice none 0 0) (.slice none 0 0) 31
    simpa using this
  go_enter Tryd.func19, Tryd.ntmps19
  go_wp2_with fail
  generalize (((w.alloc (.cells #[.bool neg, .slice a n ca, .slice b m cb] 28)).alloc (.cells #[.bool false, .slice none 0 0, .slice none 0 0] 31)).alloc (.cells #[.bool neg, .slice none 0 0, .slice none 0 0] 31)) = wA at *
  refine (to_any a ba oa n ca X wA hn (hX.keep sA)).mono ?_
  rintro e w1 ⟨rfl, s1, r1⟩
  have z1 := s1.size
  have b1 := bA.keep s1
  have q1 := rA.keep s1
  have o1 := oA.keep s1
  have S1 : w.Since w.heap.size w1 := sA.trans (sinceMono s1 sA.size)
  have L1 := limbs_row r1
  have F1 : ∀ o, w1.frozen? ⟨wA.heap.size, o, none⟩ = false := fun o => r1.frozen o
  have t1 : wA.heap.size < w1.heap.size := r1.lt
  rw [zA] at L1 F1 t1
  clear r1 bA rA oA
  have k1 := b1.c2
  have k2 := o1.c1
  have k3 := o1.f 1
  go_wp2_with fail
  clear k1 k2 k3
  have M2 : Marked w1 (w1.setCell ⟨w.heap.size + 1 + 1, 1, none⟩ (.slice (some ⟨w.heap.size + 1 + 1 + 1, 0, none⟩) n n)) (w.heap.size + 1 + 1) := (Marked.refl w1 _).setCell _ _
  have o2 := o1.set1 (.slice (some ⟨w.heap.size + 1 + 1 + 1, 0, none⟩) n n)
  have q2 := q1.marked M2 (by omega)
  have S2 : w.Since w.heap.size (w1.setCell ⟨w.heap.size + 1 + 1, 1, none⟩ (.slice (some ⟨w.heap.size + 1 + 1 + 1, 0, none⟩) n n)) := S1.trans (M2.since (by omega))
  have L2 := L1.marked M2 (fun _ => by omega)
  have F2 : ∀ o, (w1.setCell ⟨w.heap.size + 1 + 1, 1, none⟩ (.slice (some ⟨w.heap.size + 1 + 1 + 1, 0, none⟩) n n)).frozen? ⟨w.heap.size + 1 + 1 + 1, o, none⟩ = false := fun o => by rw [M2.frozenO (a := ⟨w.heap.size + 1 + 1 + 1, o, none⟩) (by show w.heap.size + 1 + 1 + 1 ≠ _; omega)]; exact F1 o
  have z2 := M2.size
  generalize w1.setCell ⟨w.heap.size + 1 + 1, 1, none⟩ (.slice (some ⟨w.heap.size + 1 + 1 + 1, 0, none⟩) n n) = w2 at *
  refine (to_any b bb ob m cb Y w2 hm (hY.keep S2)).mono ?_
  rintro e w3 ⟨rfl, s3, r3⟩
  have z3 := s3.size
  have q3 := q2.keep s3
  have o3 := o2.keep s3
  have S3 : w.Since w.heap.size w3 := S2.trans (sinceMono s3 S2.size)
  have L3 := L2.keep s3
  have F3 : ∀ o, w3.frozen? ⟨w.heap.size + 1 + 1 + 1, o, none⟩ = false := fun o => by rw [s3.frozen (a := ⟨w.heap.size + 1 + 1 + 1, o, none⟩) (by show w.heap.size + 1 + 1 + 1 < _; omega)]; exact F2 o
  have K3 := limbs_row r3
  have G3 : ∀ o, w3.frozen? ⟨w2.heap.size, o, none⟩ = false := fun o => r3.frozen o
  have t3 : w2.heap.size < w3.heap.size := r3.lt
  clear r3 L1 L2 F1 F2 b1 q1 o1 q2 o2
  have q30 := q3.c0
  have q31 := q3.c1
  have q32 := q3.c2
  have q3f0 := q3.f 0
  have q3f1 := q3.f 1
  have q3f2 := q3.f 2
  have o30 := o3.c0
  have o31 := o3.c1
  have o32 := o3.c2
  have o3f2 := o3.f 2
  have M4 : Marked w3 (w3.setCell ⟨w.heap.size + 1 + 1, 2, none⟩ (.slice (some ⟨w1.heap.size, 0, none⟩) m m)) (w.heap.size + 1 + 1) := (Marked.refl w3 _).setCell _ _
  rw [z2] at K3 G3 t3
  go_wp2
  have q4 := (((q3.marked M4 (by omega)).set0 (.bool neg)).set1 (.slice (some ⟨w.heap.size + 1 + 1 + 1, 0, none⟩) n n)).set2 (.slice (some ⟨w1.heap.size, 0, none⟩) m m)
  refine bodyPost_ret (results_box3 rfl _ _ _ _ _ _ rfl q4) rfl ?_
  have M5 : Marked (w3.setCell ⟨w.heap.size + 1 + 1, 2, none⟩ (.slice (some ⟨w1.heap.size, 0, none⟩) m m)) _ (w.heap.size + 1) := (((Marked.refl _ _).setCell 0 (.bool neg)).setCell 1 (.slice (some ⟨w.heap.size + 1 + 1 + 1, 0, none⟩) n n)).setCell 2 (.slice (some ⟨w1.heap.size, 0, none⟩) m m)
  refine ⟨w.heap.size + 1 + 1 + 1, w1.heap.size, rfl, (S3.trans (M4.since (by omega))).trans (M5.since (by omega)), by omega, by omega, by rw [M5.size, M4.size]; omega,
    (L3.marked M4 (fun _ => by omega)).marked M5 (fun _ => by omega), (K3.marked M4 (fun _ => by omega)).marked M5 (fun _ => by omega), fun o => ?_, fun o => ?_⟩
  · rw [M5.frozenO (a := ⟨w.heap.size + 1 + 1 + 1, o, none⟩) (by show w.heap.size + 1 + 1 + 1 ≠ _; omega), M4.frozenO (a := ⟨w.heap.size + 1 + 1 + 1, o, none⟩) (by show w.heap.size + 1 + 1 + 1 ≠ _; omega)]; exact F3 o
  · rw [M5.frozenO (a := ⟨w1.heap.size, o, none⟩) (by show w1.heap.size ≠ _; omega), M4.frozenO (a := ⟨w1.heap.size, o, none⟩) (by show w1.heap.size ≠ _; omega)]; exact G3 o

set_option maxHeartbeats 800000 in
set_option maxRecDepth 100000 in
/-- eqRat at two Rats of the same fields. -/
theorem eqRat_true (neg : Bool) (a a' b b' : Option Addr) (ba oa ba' oa' n ca ca' bb ob bb' ob' m cb cb' : Nat) (X Y : Nat → Nat) (w : World) (hn : n ≤ 4194304) (hm : m ≤ 4194304)
    (hX : Limbs w a ba oa n X) (hX' : Limbs w a' ba' oa' n X) (hY : Limbs w b bb ob m Y) (hY' : Limbs w b' bb' ob' m Y) :
    Calls Tryd.prog 21 #[.agg #[.bool neg, .slice a n ca, .slice b m cb], .agg #[.bool neg, .slice a' n ca', .slice b' m cb']] w fun e w' => e = .returned (.bool true) ∧ w.Since w.heap.size w' := by
  have sA : w.Since w.heap.size ((w.alloc (.cells #[.bool neg, .slice a n ca, .slice b m cb] 31)).alloc (.cells #[.bool neg, .slice a' n ca', .slice b' m cb'] 31)) := ((World.Since.refl _ _).alloc (Nat.le_refl _) _).alloc (by simp) _
  have bA : Box3 ((w.alloc (.cells #[.bool neg, .slice a n ca, .slice b m cb] 31)).alloc (.cells #[.bool neg, .slice a' n ca', .slice b' m cb'] 31)) w.heap.size (.bool neg) (.slice a n ca) (.slice b m cb) := (Box3.new w _ _ _ _).keep ((World.Since.refl _ _).alloc (Nat.le_refl _) _)
  have cA : Box3 ((w.alloc (.cells #[.bool neg, .slice a n ca, .slice b m cb] 31)).alloc (.cells #[.bool neg, .slice a' n ca', .slice b' m cb'] 31)) (w.heap.size + 1) (.bool neg) (.slice a' n ca') (.slice b' m cb') := by
    have := Box3.new (w.alloc (.cells #[.bool neg, .slice a n ca, .slice b m cb] 31)) (.bool neg) (.slice a' n ca') (.slice b' m cb') 31
    simpa using this
  go_enter Tryd.func21, Tryd.ntmps21
  go_wp2_with fail
  generalize ((w.alloc (.cells #[.bool neg, .slice a n ca, .slice b m cb] 31)).alloc (.cells #[.bool neg, .slice a' n ca', .slice b' m cb'] 31)) = wA at *
  refine (eq_true a a' ba oa ba' oa' n ca ca' X wA hn (hX.keep sA) (hX'.keep sA)).mono ?_
  rintro e w1 ⟨rfl, s1⟩
  have S1 := s1.since wA.heap.size
  have k1 := (bA.keep S1).c2
  have k2 := (cA.keep S1).c2
  go_wp2_with fail
  refine (eq_true b b' bb ob bb' ob' m cb cb' Y w1 hm ((hY.keep sA).keep S1) ((hY'.keep sA).keep S1)).mono ?_
  rintro e w2 ⟨rfl, s2⟩
  go_wp2
  go_ret
  exact ⟨rfl, (sA.trans (sinceMono S1 sA.size)).trans (s2.since _)⟩

end Go.Proofs.YtklkohdcilnchabDoor

namespace Go.Proofs.YtklkohdcilnchabDoor
open Go.RowKit

/-- What marks in the two lists of a Rat leave. -/
structure Mk2 (w w' : World) (n m g h : Nat) : Prop where
  os : w'.os = w.os
  tape : w'.tape = w.tape
  output : w'.output = w.output
  size : w.heap.size ≤ w'.heap.size
  block : ∀ k, k < w.heap.size → (0 < n → k ≠ g) → (0 < m → k ≠ h) → w'.heap[k]? = w.heap[k]?

theorem Mk2.since {w w' : World} {n m g h B : Nat} (s : Mk2 w w' n m g h) (hB : B ≤ w.heap.size) (hg : 0 < n → B ≤ g) (hh : 0 < m → B ≤ h) : w.Since B w' :=
  ⟨s.os, s.tape, s.output, s.size, fun k hk => s.block k (by omega) (fun h0 => by have := hg h0; omega) (fun h0 => by have := hh h0; omega)⟩

set_option maxHeartbeats 800000 in
set_option maxRecDepth 100000 in
/-- markRat writes into the two lists alone. -/
theorem markRat_any (f : Bool) (a b : Option Addr) (g h n ca m cb : Nat) (X Y : Nat → Nat) (k0 : Nat) (w : World) (hn : n ≤ 4194304) (hm : m ≤ 4194304) (hk0 : k0 ≤ 8388608) (hX : Limbs w a g 0 n X) (hY : Limbs w b h 0 m Y) (hgh : g ≠ h)
    (hf : 0 < n → ∀ o, w.frozen? ⟨g, o, none⟩ = false) (hf' : 0 < m → ∀ o, w.frozen? ⟨h, o, none⟩ = false) :
    Calls Tryd.prog 24 #[.agg #[.bool f, .slice a n ca, .slice b m cb], .int .i64 k0] w fun e w' => e = .returned (.int .i64 ((k0 + n + m : Nat) : Int)) ∧
      Mk2 w w' n m g h ∧ Limbs w' a g 0 n (fun j => k0 + j) ∧ Limbs w' b h 0 m (fun j => k0 + n + j) := by
  have sA : w.Since w.heap.size (w.alloc (.cells #[.bool f, .slice a n ca, .slice b m cb] 31)) := (World.Since.refl _ _).alloc (Nat.le_refl _) _
  have oA := Box3.new w (.bool f) (.slice a n ca) (.slice b m cb) 31
  have lX : 0 < n → g < w.heap.size := hX.lt
  have lY : 0 < m → h < w.heap.size := hY.lt
  go_enter Tryd.func24, Tryd.ntmps24
  go_wp2_with fail
  generalize w.alloc (.cells #[.bool f, .slice a n ca, .slice b m cb] 31) = w1 at *
  have z1 := oA.lt
  obtain ⟨g', hg1, hg2⟩ : ∃ g', (0 < n → g' = g) ∧ (n = 0 → w1.heap.size + h + 1 ≤ g') := by
    by_cases e : n = 0
    · exact ⟨w1.heap.size + h + 1, fun h0 => by omega, fun _ => Nat.le_refl _⟩
    · exact ⟨g, fun _ => rfl, fun h0 => by omega⟩
  obtain ⟨h', hh1, hh2⟩ : ∃ h', (0 < m → h' = h) ∧ (m = 0 → w1.heap.size + g + g' + 1 ≤ h') := by
    by_cases e : m = 0
    · exact ⟨w1.heap.size + g + g' + 1, fun h0 => by omega, fun _ => Nat.le_refl _⟩
    · exact ⟨h, fun _ => rfl, fun h0 => by omega⟩
  have X1 : Limbs w1 a g' 0 n X := fun j hj => by rw [hg1 (by omega)]; exact (hX.keep sA) j hj
  have f1 : 0 < n → ∀ o, w1.frozen? ⟨g', o, none⟩ = false := fun h0 o => by rw [hg1 h0, sA.frozen (a := ⟨g, o, none⟩) (lX h0)]; exact hf h0 o
  have ne1 : w.heap.size ≠ g' := by
    rcases Nat.eq_zero_or_pos n with e | e
    · have := hg2 e; omega
    · have := hg1 e; have := lX e; omega
  have ne2 : h' ≠ g' := by
    rcases Nat.eq_zero_or_pos m with e | e
    · have := hh2 e; omega
    · rcases Nat.eq_zero_or_pos n with e' | e'
      · have := hg2 e'; have := hh1 e; omega
      · have := hg1 e'; have := hh1 e; omega
  refine (mark_any a g' n ca X k0 w1 hn (by omega) X1 f1).mono ?_
  rintro e w2 ⟨rfl, M2, L2⟩
  have o2 := oA.marked M2 ne1
  have k2 := o2.c2
  have Y2 : Limbs w2 b h' 0 m Y := fun j hj => by rw [hh1 (by omega)]; exact ((hY.keep sA).marked M2 (fun h0 => by have := hh1 h0; omega)) j hj
  have f2 : 0 < m → ∀ o, w2.frozen? ⟨h', o, none⟩ = false := fun h0 o => by rw [M2.frozenO (a := ⟨h', o, none⟩) ne2, hh1 h0, sA.frozen (a := ⟨h, o, none⟩) (lY h0)]; exact hf' h0 o
  go_wp2_with fail
  refine (mark_any b h' m cb Y (k0 + n) w2 hm (by omega) Y2 f2).mono ?_
  rintro e w3 ⟨rfl, M3, L3⟩
  go_wp2
  go_ret
  refine ⟨rfl, ⟨by rw [M3.os, M2.os, sA.os], by rw [M3.tape, M2.tape, sA.tape], by rw [M3.output, M2.output, sA.output], by rw [M3.size, M2.size]; exact sA.size, fun k hk c1 c2 => ?_⟩, fun j hj => ?_, fun j hj => ?_⟩
  · rw [M3.other k (by
      rcases Nat.eq_zero_or_pos m with e | e
      · have := hh2 e; omega
      · rw [hh1 e]; exact c2 e), M2.other k (by
      rcases Nat.eq_zero_or_pos n with e | e
      · have := hg2 e; omega
      · rw [hg1 e]; exact c1 e)]
    exact sA.block k hk
  · rw [← hg1 (by omega)]; exact (L2.marked M3 (fun _ => by omega)) j hj
  · rw [← hh1 (by omega)]; exact L3 j hj

set_option maxHeartbeats 800000 in
set_option maxRecDepth 100000 in
theorem heldRat_any (f : Bool) (a b : Option Addr) (g h n ca m cb : Nat) (k0 : Nat) (w : World) (hn : n ≤ 4194304) (hm : m ≤ 4194304) (hk0 : k0 ≤ 8388608) (hX : Limbs w a g 0 n (fun j => k0 + j)) (hY : Limbs w b h 0 m (fun j => k0 + n + j)) :
    Calls Tryd.prog 25 #[.agg #[.bool f, .slice a n ca, .slice b m cb], .int .i64 k0] w fun e w' => e = .returned (.int .i64 ((k0 + n + m : Nat) : Int)) ∧ w.Since w.heap.size w' := by
  have sA : w.Since w.heap.size (w.alloc (.cells #[.bool f, .slice a n ca, .slice b m cb] 31)) := (World.Since.refl _ _).alloc (Nat.le_refl _) _
  have oA := Box3.new w (.bool f) (.slice a n ca) (.slice b m cb) 31
  go_enter Tryd.func25, Tryd.ntmps25
  go_wp2_with fail
  generalize w.alloc (.cells #[.bool f, .slice a n ca, .slice b m cb] 31) = w1 at *
  refine (held_any a g 0 n ca k0 w1 hn (by omega) (hX.keep sA)).mono ?_
  rintro e w2 ⟨rfl, rfl⟩
  have k2 := oA.c2
  go_wp2_with fail
  refine (held_any b h 0 m cb (k0 + n) w2 hm (by omega) (hY.keep sA)).mono ?_
  rintro e w3 ⟨rfl, rfl⟩
  go_wp2
  go_ret
  exact ⟨rfl, sA⟩

end Go.Proofs.YtklkohdcilnchabDoor

namespace Go.Proofs.YtklkohdcilnchabDoor
open Go.RowKit

/-- A list handed over: in a block of its own. -/
structure Own (w : World) (g n : Nat) (X : Nat → Nat) : Prop where
  L : Limbs w (some ⟨g, 0, none⟩) g 0 n X
  F : ∀ o, w.frozen? ⟨g, o, none⟩ = false
  lt : g < w.heap.size

theorem Own.keep {w w' : World} {g n : Nat} {X : Nat → Nat} (h : Own w g n X) (s : w.Since w.heap.size w') : Own w' g n X :=
  ⟨h.L.keep s, fun o => by rw [s.frozen (a := ⟨g, o, none⟩) h.lt]; exact h.F o, Nat.lt_of_lt_of_le h.lt s.size⟩
theorem Own.ofBlock {w w' : World} {g n : Nat} {X : Nat → Nat} (h : Own w g n X) (e : w'.heap[g]? = w.heap[g]?) (hs : w.heap.size ≤ w'.heap.size) : Own w' g n X :=
  ⟨h.L.ofBlock (fun _ => e), fun o => (World.frozen?_of_block (w := w) (a := ⟨g, o, none⟩) e).trans (h.F o), Nat.lt_of_lt_of_le h.lt hs⟩

theorem raw_own {w : World} {g h n m : Nat} {X Y : Nat → Nat} (x : Own w g n X) (y : Own w h m Y) (lX : ∀ j, j < n → X j < 4294967296) (lY : ∀ j, j < m → Y j < 4294967296) : RRaw w (some ⟨g, 0, none⟩) (some ⟨h, 0, none⟩) g 0 n n h 0 m m X Y :=
  ⟨Nat.le_refl _, Nat.le_refl _, fun h => (by cases h), fun h => (by cases h), x.L, y.L, lX, lY⟩

theorem nat_lim {w : World} {a : Option Addr} {n c g N M : Nat} (h : NatAt w (.slice a n c) g N M) : ∃ Y, n ≤ c ∧ n ≤ M ∧ Limbs w a g 0 n Y ∧ (0 < n → ∀ o, w.frozen? ⟨g, o, none⟩ = false) ∧ (∀ j, j < n → Y j < 4294967296) ∧ (0 < n → Y (n - 1) ≠ 0) ∧ lv Y n = N := by
  obtain ⟨a', n', c', Y, e, h1, h2, -, h4, h5, h6, h7, h8⟩ := h
  simp at e
  obtain ⟨rfl, rfl, rfl⟩ := e
  exact ⟨Y, h1, h2, h4, h5, h6, h7, h8⟩

end Go.Proofs.YtklkohdcilnchabDoor
