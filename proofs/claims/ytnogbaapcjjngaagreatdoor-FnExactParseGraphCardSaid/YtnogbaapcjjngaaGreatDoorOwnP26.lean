import Derived.Test.YtnogbaapcjjngaaGreatDoorOwnP25
import Derived.Deep.RegionHeldLaw
import Derived.Deep.RegionLaw
namespace Go.Proofs.YtnogbaapcjjngaaGreatDoor
open Go.RowKit

theorem Box1.but {w w' : World} {c d : Nat} {x : Value} (h : Box1 w d x) (s : But c w w') (hn : d ≠ c) : Box1 w' d x := by
  have k : w'.heap[d]? = w.heap[d]? := s.block d h.lt (by simpa using hn)
  refine ⟨(World.cell?_of_block (a := ⟨d, 0, none⟩) k).trans h.c0, fun j => ?_⟩
  have := h.f j
  unfold World.frozen? at this ⊢
  rw [k]; exact this
end Go.Proofs.YtnogbaapcjjngaaGreatDoor
