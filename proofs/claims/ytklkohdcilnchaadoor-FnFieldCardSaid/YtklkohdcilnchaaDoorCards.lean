/-
  DERIVED. GIVEN WITH THE SEED: THE CARDS: each row of YtklkohdcilnchaaDoorRows.lean that lists a variable, with what it lists TIED to the program's text (the seventh form; the later family's looks); each row that meets fmt, with fmt's text TOLD by the authors' own Lean function (tested against real Go, not proved from fmt's source: count such statements apart). THE CARD IS WHAT COUNTS. Prove the row's statement (the work); the ties are given (YtklkohdcilnchaaDoorTie.lean); close each card by the builder's one call (the guide's Derived/Test/ToyasCard.lean, 'card_holds'). Laid BY PROGRAM, IN A SANDBOX (cutbox-door.mjs). By AI agents, Wed Nov 11 2026. No macro, syntax, notation, axiom, sorry.
-/
import Derived.Test.YtklkohdcilnchaaDoorRows
import GoSem.ClaimSeven
namespace Go.Proofs.YtklkohdcilnchaaDoor
namespace Rows

/-- THE TIED CARD OF 'laws.FnField'. -/
def fnFieldCard : Claim7 := { stood := { row := fnFieldRow, standIns := [], harness := (true, "9dcbe886722814a995306e22a9d3c661c970c870e62f26d025cedb20365b87c3"), looks := false }, kinds := [], alts := [], laidByText := true, laidKinds := [.data], laidTests := true, laidLooks := .later }
def FnFieldCardSaid : Prop := Claim7.holds Tryd.pinned (.plain (OpenSpec.ofChange fnFieldSpec)) fnFieldCard

/-- THE TIED CARD OF 'laws.FnDivides'. -/
def fnDividesCard : Claim7 := { stood := { row := fnDividesRow, standIns := [], harness := (true, "9dcbe886722814a995306e22a9d3c661c970c870e62f26d025cedb20365b87c3"), looks := false }, kinds := [], alts := [], laidByText := true, laidKinds := [.data], laidTests := true, laidLooks := .later }
def FnDividesCardSaid : Prop := Claim7.holds Tryd.pinned (.plain (OpenSpec.ofChange fnDividesSpec)) fnDividesCard

/-- THE SECOND FORM's CARD OF 'laws.FnField'. -/
def fnFieldUptoCard : Claim7 := { stood := { row := fnFieldUptoRow, standIns := [], harness := (true, "9dcbe886722814a995306e22a9d3c661c970c870e62f26d025cedb20365b87c3"), looks := false }, kinds := [], alts := [], laidByText := true, laidKinds := [.data], laidTests := true, laidLooks := .later }
def FnFieldUptoCardSaid : Prop := Claim7.holds Tryd.pinned (.plain (OpenSpec.upto fnFieldSpec)) fnFieldUptoCard

/-- THE SECOND FORM's CARD OF 'laws.FnDivides'. -/
def fnDividesUptoCard : Claim7 := { stood := { row := fnDividesUptoRow, standIns := [], harness := (true, "9dcbe886722814a995306e22a9d3c661c970c870e62f26d025cedb20365b87c3"), looks := false }, kinds := [], alts := [], laidByText := true, laidKinds := [.data], laidTests := true, laidLooks := .later }
def FnDividesUptoCardSaid : Prop := Claim7.holds Tryd.pinned (.plain (OpenSpec.upto fnDividesSpec)) fnDividesUptoCard
end Rows
end Go.Proofs.YtklkohdcilnchaaDoor
