import Derived.Test.YtickondjmilehabDoorH5
import Derived.Test.YtickondjmilehabDoorM1
namespace Go.Proofs.YtickondjmilehabDoor
open Go.RowKit

/-- What marks in the two lists of a Rat leave. -/
structure Mk2 (w w' : World) (n m g h : Nat) : Prop where
  os : w'.os = w.os
  tape : w'.tape = w.tape
  output : w'.output = w.output
  size : w.heap.size ≤ w'.heap.size
  block : ∀ k, k < w.heap.size → (0 < n → k ≠ g) → (0 < m → k ≠ h) → w'.heap[k]? = w.heap[k]?

theorem Mk2.since {w w' : World} {n m g h B : Nat} (s : Mk2 w w' n m g h) (hB : B ≤ w.heap.size) (hg : 0 < n → B ≤ g) (hh : 0 < m → B ≤ h) : w.Since B w' :=
  ⟨s.os, s.tape, s.output, s.size, fun k hk => s.block k (by omega) (fun h0 => by have := hg h0; omega) (fun h0 => by have := hh h0; omega)⟩

set_option maxHeartbeats 800000 in
set_option maxRecDepth 100000 in
/-- markRat writes into the two lists alone. -/
theorem markRat_any (f : Bool) (a b : Option Addr) (g h n ca m cb : Nat) (X Y : Nat → Nat) (k0 : Nat) (w : World) (hn : n ≤ 4194304) (hm : m ≤ 4194304) (hk0 : k0 ≤ 8388608) (hX : Limbs w a g 0 n X) (hY : Limbs w b h 0 m Y) (hgh : g ≠ h)
    (hf : 0 < n → ∀ o, w.frozen? ⟨g, o, none⟩ = false) (hf' : 0 < m → ∀ o, w.frozen? ⟨h, o, none⟩ = false) :
    Calls Tryd.prog 24 #[.agg #[.bool f, .slice a n ca, .slice b m cb], .int .i64 k0] w fun e w' => e = .returned (.int .i64 ((k0 + n + m : Nat) : Int)) ∧
      Mk2 w w' n m g h ∧ Limbs w' a g 0 n (fun j => k0 + j) ∧ Limbs w' b h 0 m (fun j => k0 + n + j) := by
  have sA : w.Since w.heap.size (w.alloc (.cells #[.bool f, .slice a n ca, .slice b m cb] 31)) := (World.Since.refl _ _).alloc (Nat.le_refl _) _
  have oA := Box3.new w (.bool f) (.slice a n ca) (.slice b m cb) 31
  have lX : 0 < n → g < w.heap.size := hX.lt
  have lY : 0 < m → h < w.heap.size := hY.lt
  go_enter Tryd.func24, Tryd.ntmps24
  go_wp2_with fail
  generalize w.alloc (.cells #[.bool f, .slice a n ca, .slice b m cb] 31) = w1 at *
  have z1 := oA.lt
  obtain ⟨g', hg1, hg2⟩ : ∃ g', (0 < n → g' = g) ∧ (n = 0 → w1.heap.size + h + 1 ≤ g') := by
    by_cases e : n = 0
    · exact ⟨w1.heap.size + h + 1, fun h0 => by omega, fun _ => Nat.le_refl _⟩
    · exact ⟨g, fun _ => rfl, fun h0 => by omega⟩
  obtain ⟨h', hh1, hh2⟩ : ∃ h', (0 < m → h' = h) ∧ (m = 0 → w1.heap.size + g + g' + 1 ≤ h') := by
    by_cases e : m = 0
    · exact ⟨w1.heap.size + g + g' + 1, fun h0 => by omega, fun _ => Nat.le_refl _⟩
    · exact ⟨h, fun _ => rfl, fun h0 => by omega⟩
  have X1 : Limbs w1 a g' 0 n X := fun j hj => by rw [hg1 (by omega)]; exact (hX.keep sA) j hj
  have f1 : 0 < n → ∀ o, w1.frozen? ⟨g', o, none⟩ = false := fun h0 o => by rw [hg1 h0, sA.frozen (a := ⟨g, o, none⟩) (lX h0)]; exact hf h0 o
  have ne1 : w.heap.size ≠ g' := by
    rcases Nat.eq_zero_or_pos n with e | e
    · have := hg2 e; omega
    · have := hg1 e; have := lX e; omega
  have ne2 : h' ≠ g' := by
    rcases Nat.eq_zero_or_pos m with e | e
    · have := hh2 e; omega
    · rcases Nat.eq_zero_or_pos n with e' | e'
      · have := hg2 e'; have := hh1 e; omega
      · have := hg1 e'; have := hh1 e; omega
  refine (mark_any a g' n ca X k0 w1 hn (by omega) X1 f1).mono ?_
  rintro e w2 ⟨rfl, M2, L2⟩
  have o2 := oA.marked M2 ne1
  have k2 := o2.c2
  have Y2 : Limbs w2 b h' 0 m Y := fun j hj => by rw [hh1 (by omega)]; exact ((hY.keep sA).marked M2 (fun h0 => by have := hh1 h0; omega)) j hj
  have f2 : 0 < m → ∀ o, w2.frozen? ⟨h', o, none⟩ = false := fun h0 o => by rw [M2.frozenO (a := ⟨h', o, none⟩) ne2, hh1 h0, sA.frozen (a := ⟨h, o, none⟩) (lY h0)]; exact hf' h0 o
  go_wp2_with fail
  refine (mark_any b h' m cb Y (k0 + n) w2 hm (by omega) Y2 f2).mono ?_
  rintro e w3 ⟨rfl, M3, L3⟩
  go_wp2
  go_ret
  refine ⟨rfl, ⟨by rw [M3.os, M2.os, sA.os], by rw [M3.tape, M2.tape, sA.tape], by rw [M3.output, M2.output, sA.output], by rw [M3.size, M2.size]; exact sA.size, fun k hk c1 c2 => ?_⟩, fun j hj => ?_, fun j hj => ?_⟩
  · rw [M3.other k (by
      rcases Nat.eq_zero_or_pos m with e | e
      · have := hh2 e; omega
      · rw [hh1 e]; exact c2 e), M2.other k (by
      rcases Nat.eq_zero_or_pos n with e | e
      · have := hg2 e; omega
      · rw [hg1 e]; exact c1 e)]
    exact sA.block k hk
  · rw [← hg1 (by omega)]; exact (L2.marked M3 (fun _ => by omega)) j hj
  · rw [← hh1 (by omega)]; exact L3 j hj

set_option maxHeartbeats 800000 in
set_option maxRecDepth 100000 in
theorem heldRat_any (f : Bool) (a b : Option Addr) (g h n ca m cb : Nat) (k0 : Nat) (w : World) (hn : n ≤ 4194304) (hm : m ≤ 4194304) (hk0 : k0 ≤ 8388608) (hX : Limbs w a g 0 n (fun j => k0 + j)) (hY : Limbs w b h 0 m (fun j => k0 + n + j)) :
    Calls Tryd.prog 25 #[.agg #[.bool f, .slice a n ca, .slice b m cb], .int .i64 k0] w fun e w' => e = .returned (.int .i64 ((k0 + n + m : Nat) : Int)) ∧ w.Since w.heap.size w' := by
  have sA : w.Since w.heap.size (w.alloc (.cells #[.bool f, .slice a n ca, .slice b m cb] 31)) := (World.Since.refl _ _).alloc (Nat.le_refl _) _
  have oA := Box3.new w (.bool f) (.slice a n ca) (.slice b m cb) 31
  go_enter Tryd.func25, Tryd.ntmps25
  go_wp2_with fail
  generalize w.alloc (.cells #[.bool f, .slice a n ca, .slice b m cb] 31) = w1 at *
  refine (held_any a g 0 n ca k0 w1 hn (by omega) (hX.keep sA)).mono ?_
  rintro e w2 ⟨rfl, rfl⟩
  have k2 := oA.c2
  go_wp2_with fail
  refine (held_any b h 0 m cb (k0 + n) w2 hm (by omega) (hY.keep sA)).mono ?_
  rintro e w3 ⟨rfl, rfl⟩
  go_wp2
  go_ret
  exact ⟨rfl, sA⟩

end Go.Proofs.YtickondjmilehabDoor
