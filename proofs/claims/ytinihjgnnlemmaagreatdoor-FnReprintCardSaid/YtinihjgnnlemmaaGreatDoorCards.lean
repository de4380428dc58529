/-
  DERIVED. GIVEN WITH THE SEED: THE CARDS: each row of YtinihjgnnlemmaaGreatDoorRows.lean that lists a variable, with what it lists TIED to the program's text (the seventh form; the later family's looks); each row that meets fmt, with fmt's text TOLD by the authors' own Lean function (tested against real Go, not proved from fmt's source: count such statements apart). THE CARD IS WHAT COUNTS. Prove the row's statement (the work); the ties are given (YtinihjgnnlemmaaGreatDoorTie.lean); close each card by the builder's one call (the guide's Derived/Test/ToyasCard.lean, 'card_holds'). Laid BY PROGRAM, IN A SANDBOX (cutbox-door.mjs). By AI agents, Wed Nov 11 2026. No macro, syntax, notation, axiom, sorry.
-/
import Derived.Test.YtinihjgnnlemmaaGreatDoorRows
import GoSem.ClaimSeven
namespace Go.Proofs.YtinihjgnnlemmaaGreatDoor
namespace Rows

/-- THE TIED CARD OF 'laws.FnReprint'. -/
def fnReprintCard : Claim7 := { stood := { row := fnReprintRow, standIns := [], harness := (true, "2584fbb785d9195145b1f1b8190617f5de5d4ad3eeb06acae1bac91c2dfb1b78"), looks := true }, kinds := [], alts := [], laidByText := true, laidKinds := [.data, .data, .data, .data, .pinned], laidTests := true, laidLooks := .later }
def FnReprintCardSaid : Prop := Claim7.holds Tryz.pinned (.plain (OpenSpec.ofChange fnReprintSpec)) fnReprintCard

/-- THE SECOND FORM's CARD OF 'laws.FnReprint'. -/
def fnReprintUptoCard : Claim7 := { stood := { row := fnReprintUptoRow, standIns := [], harness := (true, "2584fbb785d9195145b1f1b8190617f5de5d4ad3eeb06acae1bac91c2dfb1b78"), looks := true }, kinds := [], alts := [], laidByText := true, laidKinds := [.data, .data, .data, .data, .pinned], laidTests := true, laidLooks := .later }
def FnReprintUptoCardSaid : Prop := Claim7.holds Tryz.pinned (.plain (OpenSpec.upto fnReprintSpec)) fnReprintUptoCard
end Rows
end Go.Proofs.YtinihjgnnlemmaaGreatDoor
