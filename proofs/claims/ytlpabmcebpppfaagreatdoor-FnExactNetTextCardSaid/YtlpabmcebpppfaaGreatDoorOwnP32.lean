import Derived.Test.YtlpabmcebpppfaaGreatDoorOwnP29
import Derived.Test.YtlpabmcebpppfaaGreatDoorOwnP31
import Derived.Test.YtlpabmcebpppfaaGreatDoorOwnP28
import Derived.Test.YtlpabmcebpppfaaGreatDoorOwnP22
namespace Go.Proofs.YtlpabmcebpppfaaGreatDoor
open Go.RowKit

theorem line_cells {w : World} {ws : List (List UInt8)} (cs : Array Value) (h : cs = (strV ws).toArray) : ∀ j x, ws[j]? = some x → (w.alloc (.cells cs 9)).cell? ⟨w.heap.size, 0 + j, none⟩ = some (.string ⟨x.toArray⟩) := fun j x hx => by
  subst h
  rw [Nat.zero_add, Lib.cell_of_heap (Go.heap_alloc_new w _) j]
  simpa using strV_get hx

end Go.Proofs.YtlpabmcebpppfaaGreatDoor
