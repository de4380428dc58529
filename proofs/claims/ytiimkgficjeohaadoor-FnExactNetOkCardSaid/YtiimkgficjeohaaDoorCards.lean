/-
  DERIVED. GIVEN WITH THE SEED: THE CARDS: each row of YtiimkgficjeohaaDoorRows.lean that lists a variable, with what it lists TIED to the program's text (the seventh form; the later family's looks); each row that meets fmt, with fmt's text TOLD by the authors' own Lean function (tested against real Go, not proved from fmt's source: count such statements apart). THE CARD IS WHAT COUNTS. Prove the row's statement (the work); the ties are given (YtiimkgficjeohaaDoorTie.lean); close each card by the builder's one call (the guide's Derived/Test/ToyasCard.lean, 'card_holds'). Laid BY PROGRAM, IN A SANDBOX (cutbox-door.mjs). By AI agents, Wed Nov 11 2026. No macro, syntax, notation, axiom, sorry.
-/
import Derived.Test.YtiimkgficjeohaaDoorRows
import GoSem.ClaimSeven
namespace Go.Proofs.YtiimkgficjeohaaDoor
namespace Rows

/-- THE TIED CARD OF 'laws.FnExactNetOk'. -/
def fnExactNetOkCard : Claim7 := { stood := { row := fnExactNetOkRow, standIns := [], harness := (true, "b977db3d4283b4f662f706d8a8307296e985d5b5538391ad1acd11a7df560e55"), looks := false }, kinds := [], alts := [], laidByText := true, laidKinds := [.data], laidTests := true, laidLooks := .later }
def FnExactNetOkCardSaid : Prop := Claim7.holds Tryd.pinned (.plain (OpenSpec.ofChange fnExactNetOkSpec)) fnExactNetOkCard

/-- THE SECOND FORM's CARD OF 'laws.FnExactNetOk'. -/
def fnExactNetOkUptoCard : Claim7 := { stood := { row := fnExactNetOkUptoRow, standIns := [], harness := (true, "b977db3d4283b4f662f706d8a8307296e985d5b5538391ad1acd11a7df560e55"), looks := false }, kinds := [], alts := [], laidByText := true, laidKinds := [.data], laidTests := true, laidLooks := .later }
def FnExactNetOkUptoCardSaid : Prop := Claim7.holds Tryd.pinned (.plain (OpenSpec.upto fnExactNetOkSpec)) fnExactNetOkUptoCard
end Rows
end Go.Proofs.YtiimkgficjeohaaDoor
