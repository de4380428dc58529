/-
  DERIVED. GIVEN WITH THE SEED: THE CARDS: each row of YtkhpggnnpfckdaaGreatDoorRows.lean that lists a variable, with what it lists TIED to the program's text (the seventh form; the later family's looks); each row that meets fmt, with fmt's text TOLD by the authors' own Lean function (tested against real Go, not proved from fmt's source: count such statements apart). THE CARD IS WHAT COUNTS. Prove the row's statement (the work); the ties are given (YtkhpggnnpfckdaaGreatDoorTie.lean); close each card by the builder's one call (the guide's Derived/Test/ToyasCard.lean, 'card_holds'). Laid BY PROGRAM, IN A SANDBOX (cutbox-door.mjs). By AI agents, Wed Nov 11 2026. No macro, syntax, notation, axiom, sorry.
-/
import Derived.Test.YtkhpggnnpfckdaaGreatDoorRows
import GoSem.ClaimSeven
namespace Go.Proofs.YtkhpggnnpfckdaaGreatDoor
namespace Rows

/-- THE TIED CARD OF 'laws.FnExactEvalNet'. -/
def fnExactEvalNetCard : Claim7 := { stood := { row := fnExactEvalNetRow, standIns := [], harness := (true, "b04ee5255d8b2ddce8a5e3819e7ffa7110c2a1d822861dd7a280a36a626331b9"), looks := false }, kinds := [], alts := [], laidByText := true, laidKinds := [.data], laidTests := true, laidLooks := .later }
def FnExactEvalNetCardSaid : Prop := Claim7.holds Tryz.pinned (.plain (OpenSpec.ofChange fnExactEvalNetSpec)) fnExactEvalNetCard

/-- THE TIED CARD OF 'laws.FnExactCheckGraph'. -/
def fnExactCheckGraphCard : Claim7 := { stood := { row := fnExactCheckGraphRow, standIns := [], harness := (true, "b04ee5255d8b2ddce8a5e3819e7ffa7110c2a1d822861dd7a280a36a626331b9"), looks := false }, kinds := [], alts := [], laidByText := true, laidKinds := [.data], laidTests := true, laidLooks := .later }
def FnExactCheckGraphCardSaid : Prop := Claim7.holds Tryz.pinned (.plain (OpenSpec.ofChange fnExactCheckGraphSpec)) fnExactCheckGraphCard

/-- THE TIED CARD OF 'laws.FnExactEvalGraph'. -/
def fnExactEvalGraphCard : Claim7 := { stood := { row := fnExactEvalGraphRow, standIns := [], harness := (true, "b04ee5255d8b2ddce8a5e3819e7ffa7110c2a1d822861dd7a280a36a626331b9"), looks := false }, kinds := [], alts := [], laidByText := true, laidKinds := [.data], laidTests := true, laidLooks := .later }
def FnExactEvalGraphCardSaid : Prop := Claim7.holds Tryz.pinned (.plain (OpenSpec.ofChange fnExactEvalGraphSpec)) fnExactEvalGraphCard

/-- THE SECOND FORM's CARD OF 'laws.FnExactEvalNet'. -/
def fnExactEvalNetUptoCard : Claim7 := { stood := { row := fnExactEvalNetUptoRow, standIns := [], harness := (true, "b04ee5255d8b2ddce8a5e3819e7ffa7110c2a1d822861dd7a280a36a626331b9"), looks := false }, kinds := [], alts := [], laidByText := true, laidKinds := [.data], laidTests := true, laidLooks := .later }
def FnExactEvalNetUptoCardSaid : Prop := Claim7.holds Tryz.pinned (.plain (OpenSpec.upto fnExactEvalNetSpec)) fnExactEvalNetUptoCard

/-- THE SECOND FORM's CARD OF 'laws.FnExactCheckGraph'. -/
def fnExactCheckGraphUptoCard : Claim7 := { stood := { row := fnExactCheckGraphUptoRow, standIns := [], harness := (true, "b04ee5255d8b2ddce8a5e3819e7ffa7110c2a1d822861dd7a280a36a626331b9"), looks := false }, kinds := [], alts := [], laidByText := true, laidKinds := [.data], laidTests := true, laidLooks := .later }
def FnExactCheckGraphUptoCardSaid : Prop := Claim7.holds Tryz.pinned (.plain (OpenSpec.upto fnExactCheckGraphSpec)) fnExactCheckGraphUptoCard

/-- THE SECOND FORM's CARD OF 'laws.FnExactEvalGraph'. -/
def fnExactEvalGraphUptoCard : Claim7 := { stood := { row := fnExactEvalGraphUptoRow, standIns := [], harness := (true, "b04ee5255d8b2ddce8a5e3819e7ffa7110c2a1d822861dd7a280a36a626331b9"), looks := false }, kinds := [], alts := [], laidByText := true, laidKinds := [.data], laidTests := true, laidLooks := .later }
def FnExactEvalGraphUptoCardSaid : Prop := Claim7.holds Tryz.pinned (.plain (OpenSpec.upto fnExactEvalGraphSpec)) fnExactEvalGraphUptoCard
end Rows
end Go.Proofs.YtkhpggnnpfckdaaGreatDoor
