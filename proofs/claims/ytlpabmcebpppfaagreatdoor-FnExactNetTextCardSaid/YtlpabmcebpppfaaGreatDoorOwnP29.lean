import Derived.Test.YtlpabmcebpppfaaGreatDoorOwnP11
import Derived.Test.YtlpabmcebpppfaaGreatDoorOwnP24
import Derived.Test.YtlpabmcebpppfaaGreatDoorOwnP19
namespace Go.Proofs.YtlpabmcebpppfaaGreatDoor
open Go.RowKit

theorem bld_keep {T e : TypeId} {B b : Nat} {bs : List Value} {w w' : World} (h : Lib.IsBuilder T e B b bs w) (s : w.Since w.heap.size w') : Lib.IsBuilder T e B b bs w' := by
  have one : ∀ p, Lib.BuilderAt T e B b p bs w → Lib.BuilderAt T e B b p bs w' := fun p h => by
    have hl := h.lt
    obtain ⟨hB, v, hb, hown, hne⟩ := h
    exact ⟨hB, v, (s.block b hl).trans hb, own_keep hown s, hne⟩
  exact h.imp (one _) (one _)

theorem blk_oth {w w' : World} {e T : TypeId} {b n : Nat} {cs : Array Value} {fz : Nat × Nat} (h : w.heap[n]? = some (.cells cs T fz)) (k : Lib.OthersKept e (some b) w w') (hb : n ≠ b) (hT : T ≠ e) : w'.heap[n]? = some (.cells cs T fz) :=
  k n _ h (by simpa using hb) (fun c fz' he => by
    simp only [Obj.cells.injEq] at he
    exact hT he.2.1)

end Go.Proofs.YtlpabmcebpppfaaGreatDoor
