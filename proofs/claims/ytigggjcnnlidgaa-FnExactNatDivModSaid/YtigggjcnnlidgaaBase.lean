/-
  The words for memory that the walks use.
-/
import Derived.Test.YtigggjcnnlidgaaChecked
import Derived.Test.YtigggjcnnlidgaaMath
import Derived.WalkKit
import Derived.Deep.OwnRows
import Derived.Deep.LoopGhost
import Derived.Deep.Light
import Derived.Deep.QuietTactic
import Derived.BigQuiet
namespace Go.Proofs.Ytigggjcnnlidgaa
open Go.RowKit

theorem Try.info33 : (Try.prog.info? 33).map (fun i => (i.zero, i.size, i.bytes)) = some (some (.int .u32 0), 1, 4) := by kernel_rfl
theorem Try.info4 : (Try.prog.info? 4).map (fun i => (i.zero, i.size, i.bytes)) = some (some (.bool false), 1, 1) := by kernel_rfl

theorem hide {p : Prop} (h : p) : Hid p := h

theorem ret_int {k : IntKind} {a b : Int} (h : a = b) : Ending.returned (.int k a) = .returned (.int k b) := by rw [h]

/-- A slice of limbs: its cells, read at whatever place. -/
def Limbs (w : World) (a : Option Addr) (b off n : Nat) (X : Nat → Nat) : Prop :=
  ∀ j, j < n → a = some ⟨b, off, none⟩ ∧ w.cell? ⟨b, off + j, none⟩ = some (.int .u32 (X j))

/-- A slice of bits. -/
def Bits (w : World) (a : Option Addr) (b off n : Nat) (B : Nat → Bool) : Prop :=
  ∀ j, j < n → a = some ⟨b, off, none⟩ ∧ w.cell? ⟨b, off + j, none⟩ = some (.bool (B j))

theorem sinceMono {B B' : Nat} {w w' : World} (h : w.Since B w') (hB : B' ≤ B) : w.Since B' w' := ⟨h.os, h.tape, h.output, h.size, fun k hk => h.block k (Nat.lt_of_lt_of_le hk hB)⟩

/-- Nothing but draws. -/
structure Same (w w' : World) : Prop where
  os : w'.os = w.os
  tape : w'.tape = w.tape
  output : w'.output = w.output
  heap : w'.heap = w.heap

theorem Same.refl (w : World) : Same w w := ⟨rfl, rfl, rfl, rfl⟩
theorem Same.drewN {w w' : World} (h : Same w w') (n : Nat) : Same w (w'.drewN n) := ⟨h.os, h.tape, h.output, h.heap⟩
theorem Same.cell {w w' : World} (h : Same w w') (a : Addr) : w'.cell? a = w.cell? a := by simp [World.cell?, h.heap]
theorem Same.frozen {w w' : World} (h : Same w w') (a : Addr) : w'.frozen? a = w.frozen? a := by simp [World.frozen?, h.heap]
theorem Same.size {w w' : World} (h : Same w w') : w'.heap.size = w.heap.size := by rw [h.heap]
theorem Same.since {w w' : World} (h : Same w w') (B : Nat) : w.Since B w' := ⟨h.os, h.tape, h.output, by rw [h.heap]; exact Nat.le_refl _, fun k _ => by rw [h.heap]⟩

/-- What a mark leaves: the cells of the one slice are turned, every other block is as it was. -/
structure Marked (w w' : World) (b : Nat) : Prop where
  os : w'.os = w.os
  tape : w'.tape = w.tape
  output : w'.output = w.output
  size : w'.heap.size = w.heap.size
  other : ∀ k, k ≠ b → w'.heap[k]? = w.heap[k]?
  frozen : ∀ o, w'.frozen? ⟨b, o, none⟩ = w.frozen? ⟨b, o, none⟩

theorem Marked.refl (w : World) (b : Nat) : Marked w w b := ⟨rfl, rfl, rfl, rfl, fun _ _ => rfl, fun _ => rfl⟩
theorem Marked.setCell {w w' : World} {b : Nat} (h : Marked w w' b) (o : Nat) (v : Value) : Marked w (w'.setCell ⟨b, o, none⟩ v) b :=
  ⟨h.os, h.tape, h.output, by rw [← h.size]; simp [World.setCell], fun k hk => by rw [← h.other k hk]; exact Below.heap_setCell _ _ _ _ hk, fun o' => by rw [← h.frozen o']; simp⟩
theorem Marked.since {w w' : World} {b B : Nat} (h : Marked w w' b) (hB : B ≤ b) : w.Since B w' :=
  ⟨h.os, h.tape, h.output, by rw [h.size]; exact Nat.le_refl _, fun k hk => h.other k (by omega)⟩
theorem Marked.cell {w w' : World} {b : Nat} (h : Marked w w' b) {a : Addr} (hne : a.block ≠ b) : w'.cell? a = w.cell? a := World.cell?_of_block (w := w) (h.other _ hne)
theorem Marked.frozenO {w w' : World} {b : Nat} (h : Marked w w' b) {a : Addr} (hne : a.block ≠ b) : w'.frozen? a = w.frozen? a := World.frozen?_of_block (w := w) (h.other _ hne)

section
variable {w w' : World} {a : Option Addr} {b off n m B : Nat} {X Y : Nat → Nat} {T : Nat → Bool}

theorem Limbs.lt (h : Limbs w a b off n X) (hn : 0 < n) : b < w.heap.size := World.block_lt_of_cell? _ _ (h 0 hn).2
theorem Bits.lt (h : Bits w a b off n T) (hn : 0 < n) : b < w.heap.size := World.block_lt_of_cell? _ _ (h 0 hn).2

theorem Limbs.since (h : Limbs w a b off n X) (hs : w.Since B w') (hb : 0 < n → b < B) : Limbs w' a b off n X :=
  fun j hj => ⟨(h j hj).1, by rw [hs.cell (a := ⟨b, off + j, none⟩) (hb (by omega))]; exact (h j hj).2⟩
theorem Limbs.keep (h : Limbs w a b off n X) (hs : w.Since w.heap.size w') : Limbs w' a b off n X := h.since hs h.lt
theorem Bits.since (h : Bits w a b off n T) (hs : w.Since B w') (hb : 0 < n → b < B) : Bits w' a b off n T :=
  fun j hj => ⟨(h j hj).1, by rw [hs.cell (a := ⟨b, off + j, none⟩) (hb (by omega))]; exact (h j hj).2⟩
theorem Bits.keep (h : Bits w a b off n T) (hs : w.Since w.heap.size w') : Bits w' a b off n T := h.since hs h.lt

theorem Limbs.same (h : Limbs w a b off n X) (hs : Same w w') : Limbs w' a b off n X :=
  fun j hj => ⟨(h j hj).1, by rw [hs.cell]; exact (h j hj).2⟩
theorem Bits.same (h : Bits w a b off n T) (hs : Same w w') : Bits w' a b off n T :=
  fun j hj => ⟨(h j hj).1, by rw [hs.cell]; exact (h j hj).2⟩
theorem Limbs.marked {c : Nat} (h : Limbs w a b off n X) (hs : Marked w w' c) (hne : 0 < n → b ≠ c) : Limbs w' a b off n X :=
  fun j hj => ⟨(h j hj).1, by rw [hs.cell (a := ⟨b, off + j, none⟩) (hne (by omega))]; exact (h j hj).2⟩

theorem Limbs.take (h : Limbs w a b off n X) (hm : m ≤ n) : Limbs w a b off m X := fun j hj => h j (by omega)
theorem Bits.take (h : Bits w a b off n T) (hm : m ≤ n) : Bits w a b off m T := fun j hj => h j (by omega)

theorem Limbs.congr (h : Limbs w a b off n X) (e : ∀ j, j < n → X j = Y j) : Limbs w a b off n Y := fun j hj => by rw [← e j hj]; exact h j hj

theorem limbs_row (h : w.rowIs b 33 n (fun j => .int .u32 (X j))) : Limbs w (some ⟨b, 0, none⟩) b 0 n X :=
  fun j hj => ⟨rfl, by rw [Nat.zero_add]; exact h.cell hj⟩
theorem bits_row (h : w.rowIs b 4 n (fun j => .bool (T j))) : Bits w (some ⟨b, 0, none⟩) b 0 n T :=
  fun j hj => ⟨rfl, by rw [Nat.zero_add]; exact h.cell hj⟩
end

end Go.Proofs.Ytigggjcnnlidgaa
