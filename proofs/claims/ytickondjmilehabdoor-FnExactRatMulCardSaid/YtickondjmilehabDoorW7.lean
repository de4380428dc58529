import Derived.Test.YtickondjmilehabDoorW5
import Derived.Test.YtickondjmilehabDoorW6
namespace Go.Proofs.YtickondjmilehabDoor
open Go.RowKit

/-- What a function that hands back a new natural leaves: a plain list of limbs of the value N, on memory that is new since w. -/
def NatOut (w w' : World) (v : Value) (N M : Nat) : Prop :=
  ∃ a g m cap Y, v = .slice a m cap ∧ m ≤ cap ∧ m ≤ M ∧ Limbs w' a g 0 m Y ∧ w.heap.size ≤ g ∧ (0 < m → ∀ o, w'.frozen? ⟨g, o, none⟩ = false) ∧
      (∀ j, j < m → Y j < 4294967296) ∧ (0 < m → Y (m - 1) ≠ 0) ∧ lv Y m = N

theorem natOut_mk {w w' : World} {a : Option Addr} {g m cap N M : Nat} {Y : Nat → Nat} (hs : w.heap.size ≤ w'.heap.size) (h1 : m ≤ cap) (h2 : m ≤ M) (h3 : Limbs w' a g 0 m Y) (h4 : 0 < m → w.heap.size ≤ g)
    (h5 : 0 < m → ∀ o, w'.frozen? ⟨g, o, none⟩ = false) (h6 : ∀ j, j < m → Y j < 4294967296) (h7 : 0 < m → Y (m - 1) ≠ 0) (h8 : lv Y m = N) : NatOut w w' (.slice a m cap) N M := by
  by_cases h0 : 0 < m
  · exact ⟨a, g, m, cap, Y, rfl, h1, h2, h3, h4 h0, h5, h6, h7, h8⟩
  · exact ⟨a, w'.heap.size, m, cap, Y, rfl, h1, h2, fun j hj => absurd hj (by omega), hs, fun h => absurd h h0, h6, h7, h8⟩

end Go.Proofs.YtickondjmilehabDoor
