import Derived.Test.YtlpabmcebpppfaaGreatDoorOwnP7
import Derived.Maps.AppendAt
import Derived.OneCell
namespace Go.Proofs.YtlpabmcebpppfaaGreatDoor
open Go.RowKit

theorem own_slice {w : World} {base : Nat} {v : Value} {k : Nat} {xs : List Value} (h : w.ownsRow base 108 1 v k xs) : ∃ a cap, v = .slice a k cap ∧ k ≤ cap ∧ (a = none → cap = 0) ∧ ∀ j, j < k → ∃ g, a = some ⟨g, 0, none⟩ := by
  obtain ⟨_, ⟨rfl, rfl⟩ | ⟨g, cap, cur, rfl, _, _, hn, _⟩⟩ := h
  · exact ⟨none, 0, rfl, Nat.le_refl _, fun _ => rfl, fun j hj => absurd hj (by omega)⟩
  · exact ⟨_, cap, rfl, hn, fun h => (by cases h), fun _ _ => ⟨g, rfl⟩⟩

theorem ll_snoc (X : Nat → Nat) (n k : Nat) (h : n ≤ k) : ll (extL X n) k ++ [.int .u32 0] = ll (extL X n) (k + 1) := by
  simp only [ll, List.range_succ, List.map_append, List.map_cons, List.map_nil]
  have : extL X n k = 0 := by simp [extL]; omega
  rw [this]; rfl

end Go.Proofs.YtlpabmcebpppfaaGreatDoor
