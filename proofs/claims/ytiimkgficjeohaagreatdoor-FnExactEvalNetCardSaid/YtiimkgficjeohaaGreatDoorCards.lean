/-
  DERIVED. GIVEN WITH THE SEED: THE CARDS: each row of YtiimkgficjeohaaGreatDoorRows.lean that lists a variable, with what it lists TIED to the program's text (the seventh form; the later family's looks); each row that meets fmt, with fmt's text TOLD by the authors' own Lean function (tested against real Go, not proved from fmt's source: count such statements apart). THE CARD IS WHAT COUNTS. Prove the row's statement (the work); the ties are given (YtiimkgficjeohaaGreatDoorTie.lean); close each card by the builder's one call (the guide's Derived/Test/ToyasCard.lean, 'card_holds'). Laid BY PROGRAM, IN A SANDBOX (cutbox-door.mjs). By AI agents, Wed Nov 11 2026. No macro, syntax, notation, axiom, sorry.
-/
import Derived.Test.YtiimkgficjeohaaGreatDoorRows
import GoSem.ClaimSeven
namespace Go.Proofs.YtiimkgficjeohaaGreatDoor
namespace Rows

/-- THE TIED CARD OF 'laws.FnExactEvalNet'. -/
def fnExactEvalNetCard : Claim7 := { stood := { row := fnExactEvalNetRow, standIns := [], harness := (true, "577df47862c309c1d632a6746e281c738abc89e3f9bfb05f0583eddb9a9c69f1"), looks := false }, kinds := [], alts := [], laidByText := true, laidKinds := [.data], laidTests := true, laidLooks := .later }
def FnExactEvalNetCardSaid : Prop := Claim7.holds Tryz.pinned (.plain (OpenSpec.ofChange fnExactEvalNetSpec)) fnExactEvalNetCard

/-- THE SECOND FORM's CARD OF 'laws.FnExactEvalNet'. -/
def fnExactEvalNetUptoCard : Claim7 := { stood := { row := fnExactEvalNetUptoRow, standIns := [], harness := (true, "577df47862c309c1d632a6746e281c738abc89e3f9bfb05f0583eddb9a9c69f1"), looks := false }, kinds := [], alts := [], laidByText := true, laidKinds := [.data], laidTests := true, laidLooks := .later }
def FnExactEvalNetUptoCardSaid : Prop := Claim7.holds Tryz.pinned (.plain (OpenSpec.upto fnExactEvalNetSpec)) fnExactEvalNetUptoCard
end Rows
end Go.Proofs.YtiimkgficjeohaaGreatDoor
