import Derived.Test.YthaomfabdghfjaaGreatG1P3
namespace Go.Proofs.YthaomfabdghfjaaGreat
open Go.RowKit

theorem Box3.cells {w : World} {c : Nat} {x y z : Value} (h : Box3 w c x y z) : w.cell? ⟨c, 0, none⟩ = some x ∧ w.cell? ⟨c, 1, none⟩ = some y ∧ w.cell? ⟨c, 2, none⟩ = some z := ⟨h.c0, h.c1, h.c2⟩

end Go.Proofs.YthaomfabdghfjaaGreat
