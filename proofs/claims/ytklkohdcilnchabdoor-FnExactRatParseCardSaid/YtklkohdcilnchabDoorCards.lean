/-
  DERIVED. GIVEN WITH THE SEED: THE CARDS: each row of YtklkohdcilnchabDoorRows.lean that lists a variable, with what it lists TIED to the program's text (the seventh form; the later family's looks); each row that meets fmt, with fmt's text TOLD by the authors' own Lean function (tested against real Go, not proved from fmt's source: count such statements apart). THE CARD IS WHAT COUNTS. Prove the row's statement (the work); the ties are given (YtklkohdcilnchabDoorTie.lean); close each card by the builder's one call (the guide's Derived/Test/ToyasCard.lean, 'card_holds'). Laid BY PROGRAM, IN A SANDBOX (cutbox-door.mjs). By AI agents, Wed Nov 11 2026. No macro, syntax, notation, axiom, sorry.
-/
import Derived.Test.YtklkohdcilnchabDoorRows
import GoSem.ClaimSeven
namespace Go.Proofs.YtklkohdcilnchabDoor
namespace Rows

/-- THE TIED CARD OF 'laws.FnExactNatGcd'. -/
def fnExactNatGcdCard : Claim7 := { stood := { row := fnExactNatGcdRow, standIns := [], harness := (true, "ffa1e840d584cfd6e2a9f27cb6759b02e94e4139f9ad266f66c33b9532834ebc"), looks := false }, kinds := [], alts := [], laidByText := true, laidKinds := [.data], laidTests := true, laidLooks := .later }
def FnExactNatGcdCardSaid : Prop := Claim7.holds Tryd.pinned (.plain (OpenSpec.ofChange fnExactNatGcdSpec)) fnExactNatGcdCard

/-- THE TIED CARD OF 'laws.FnExactRatOk'. -/
def fnExactRatOkCard : Claim7 := { stood := { row := fnExactRatOkRow, standIns := [], harness := (true, "ffa1e840d584cfd6e2a9f27cb6759b02e94e4139f9ad266f66c33b9532834ebc"), looks := false }, kinds := [], alts := [], laidByText := true, laidKinds := [.data], laidTests := true, laidLooks := .later }
def FnExactRatOkCardSaid : Prop := Claim7.holds Tryd.pinned (.plain (OpenSpec.ofChange fnExactRatOkSpec)) fnExactRatOkCard

/-- THE TIED CARD OF 'laws.FnExactRatAdd'. -/
def fnExactRatAddCard : Claim7 := { stood := { row := fnExactRatAddRow, standIns := [], harness := (true, "ffa1e840d584cfd6e2a9f27cb6759b02e94e4139f9ad266f66c33b9532834ebc"), looks := false }, kinds := [], alts := [], laidByText := true, laidKinds := [.data], laidTests := true, laidLooks := .later }
def FnExactRatAddCardSaid : Prop := Claim7.holds Tryd.pinned (.plain (OpenSpec.ofChange fnExactRatAddSpec)) fnExactRatAddCard

/-- THE TIED CARD OF 'laws.FnExactRatMul'. -/
def fnExactRatMulCard : Claim7 := { stood := { row := fnExactRatMulRow, standIns := [], harness := (true, "ffa1e840d584cfd6e2a9f27cb6759b02e94e4139f9ad266f66c33b9532834ebc"), looks := false }, kinds := [], alts := [], laidByText := true, laidKinds := [.data], laidTests := true, laidLooks := .later }
def FnExactRatMulCardSaid : Prop := Claim7.holds Tryd.pinned (.plain (OpenSpec.ofChange fnExactRatMulSpec)) fnExactRatMulCard

/-- THE TIED CARD OF 'laws.FnExactRatDiv'. -/
def fnExactRatDivCard : Claim7 := { stood := { row := fnExactRatDivRow, standIns := [], harness := (true, "ffa1e840d584cfd6e2a9f27cb6759b02e94e4139f9ad266f66c33b9532834ebc"), looks := false }, kinds := [], alts := [], laidByText := true, laidKinds := [.data], laidTests := true, laidLooks := .later }
def FnExactRatDivCardSaid : Prop := Claim7.holds Tryd.pinned (.plain (OpenSpec.ofChange fnExactRatDivSpec)) fnExactRatDivCard

/-- THE TIED CARD OF 'laws.FnExactRatCmp'. -/
def fnExactRatCmpCard : Claim7 := { stood := { row := fnExactRatCmpRow, standIns := [], harness := (true, "ffa1e840d584cfd6e2a9f27cb6759b02e94e4139f9ad266f66c33b9532834ebc"), looks := false }, kinds := [], alts := [], laidByText := true, laidKinds := [.data], laidTests := true, laidLooks := .later }
def FnExactRatCmpCardSaid : Prop := Claim7.holds Tryd.pinned (.plain (OpenSpec.ofChange fnExactRatCmpSpec)) fnExactRatCmpCard

/-- THE TIED CARD OF 'laws.FnExactRatParse'. -/
def fnExactRatParseCard : Claim7 := { stood := { row := fnExactRatParseRow, standIns := [], harness := (true, "ffa1e840d584cfd6e2a9f27cb6759b02e94e4139f9ad266f66c33b9532834ebc"), looks := false }, kinds := [], alts := [], laidByText := true, laidKinds := [.data], laidTests := true, laidLooks := .later }
def FnExactRatParseCardSaid : Prop := Claim7.holds Tryd.pinned (.plain (OpenSpec.ofChange fnExactRatParseSpec)) fnExactRatParseCard

/-- THE TIED CARD OF 'laws.FnExactRatText'. -/
def fnExactRatTextCard : Claim7 := { stood := { row := fnExactRatTextRow, standIns := [], harness := (true, "ffa1e840d584cfd6e2a9f27cb6759b02e94e4139f9ad266f66c33b9532834ebc"), looks := false }, kinds := [], alts := [], laidByText := true, laidKinds := [.data, .data, .data], laidTests := true, laidLooks := .later }
def FnExactRatTextCardSaid : Prop := Claim7.holds Tryd.pinned (.plain (OpenSpec.ofChange fnExactRatTextSpec)) fnExactRatTextCard

/-- THE SECOND FORM's CARD OF 'laws.FnExactNatGcd'. -/
def fnExactNatGcdUptoCard : Claim7 := { stood := { row := fnExactNatGcdUptoRow, standIns := [], harness := (true, "ffa1e840d584cfd6e2a9f27cb6759b02e94e4139f9ad266f66c33b9532834ebc"), looks := false }, kinds := [], alts := [], laidByText := true, laidKinds := [.data], laidTests := true, laidLooks := .later }
def FnExactNatGcdUptoCardSaid : Prop := Claim7.holds Tryd.pinned (.plain (OpenSpec.upto fnExactNatGcdSpec)) fnExactNatGcdUptoCard

/-- THE SECOND FORM's CARD OF 'laws.FnExactRatOk'. -/
def fnExactRatOkUptoCard : Claim7 := { stood := { row := fnExactRatOkUptoRow, standIns := [], harness := (true, "ffa1e840d584cfd6e2a9f27cb6759b02e94e4139f9ad266f66c33b9532834ebc"), looks := false }, kinds := [], alts := [], laidByText := true, laidKinds := [.data], laidTests := true, laidLooks := .later }
def FnExactRatOkUptoCardSaid : Prop := Claim7.holds Tryd.pinned (.plain (OpenSpec.upto fnExactRatOkSpec)) fnExactRatOkUptoCard

/-- THE SECOND FORM's CARD OF 'laws.FnExactRatAdd'. -/
def fnExactRatAddUptoCard : Claim7 := { stood := { row := fnExactRatAddUptoRow, standIns := [], harness := (true, "ffa1e840d584cfd6e2a9f27cb6759b02e94e4139f9ad266f66c33b9532834ebc"), looks := false }, kinds := [], alts := [], laidByText := true, laidKinds := [.data], laidTests := true, laidLooks := .later }
def FnExactRatAddUptoCardSaid : Prop := Claim7.holds Tryd.pinned (.plain (OpenSpec.upto fnExactRatAddSpec)) fnExactRatAddUptoCard

/-- THE SECOND FORM's CARD OF 'laws.FnExactRatMul'. -/
def fnExactRatMulUptoCard : Claim7 := { stood := { row := fnExactRatMulUptoRow, standIns := [], harness := (true, "ffa1e840d584cfd6e2a9f27cb6759b02e94e4139f9ad266f66c33b9532834ebc"), looks := false }, kinds := [], alts := [], laidByText := true, laidKinds := [.data], laidTests := true, laidLooks := .later }
def FnExactRatMulUptoCardSaid : Prop := Claim7.holds Tryd.pinned (.plain (OpenSpec.upto fnExactRatMulSpec)) fnExactRatMulUptoCard

/-- THE SECOND FORM's CARD OF 'laws.FnExactRatDiv'. -/
def fnExactRatDivUptoCard : Claim7 := { stood := { row := fnExactRatDivUptoRow, standIns := [], harness := (true, "ffa1e840d584cfd6e2a9f27cb6759b02e94e4139f9ad266f66c33b9532834ebc"), looks := false }, kinds := [], alts := [], laidByText := true, laidKinds := [.data], laidTests := true, laidLooks := .later }
def FnExactRatDivUptoCardSaid : Prop := Claim7.holds Tryd.pinned (.plain (OpenSpec.upto fnExactRatDivSpec)) fnExactRatDivUptoCard

/-- THE SECOND FORM's CARD OF 'laws.FnExactRatCmp'. -/
def fnExactRatCmpUptoCard : Claim7 := { stood := { row := fnExactRatCmpUptoRow, standIns := [], harness := (true, "ffa1e840d584cfd6e2a9f27cb6759b02e94e4139f9ad266f66c33b9532834ebc"), looks := false }, kinds := [], alts := [], laidByText := true, laidKinds := [.data], laidTests := true, laidLooks := .later }
def FnExactRatCmpUptoCardSaid : Prop := Claim7.holds Tryd.pinned (.plain (OpenSpec.upto fnExactRatCmpSpec)) fnExactRatCmpUptoCard

/-- THE SECOND FORM's CARD OF 'laws.FnExactRatParse'. -/
def fnExactRatParseUptoCard : Claim7 := { stood := { row := fnExactRatParseUptoRow, standIns := [], harness := (true, "ffa1e840d584cfd6e2a9f27cb6759b02e94e4139f9ad266f66c33b9532834ebc"), looks := false }, kinds := [], alts := [], laidByText := true, laidKinds := [.data], laidTests := true, laidLooks := .later }
def FnExactRatParseUptoCardSaid : Prop := Claim7.holds Tryd.pinned (.plain (OpenSpec.upto fnExactRatParseSpec)) fnExactRatParseUptoCard

/-- THE SECOND FORM's CARD OF 'laws.FnExactRatText'. -/
def fnExactRatTextUptoCard : Claim7 := { stood := { row := fnExactRatTextUptoRow, standIns := [], harness := (true, "ffa1e840d584cfd6e2a9f27cb6759b02e94e4139f9ad266f66c33b9532834ebc"), looks := false }, kinds := [], alts := [], laidByText := true, laidKinds := [.data, .data, .data], laidTests := true, laidLooks := .later }
def FnExactRatTextUptoCardSaid : Prop := Claim7.holds Tryd.pinned (.plain (OpenSpec.upto fnExactRatTextSpec)) fnExactRatTextUptoCard
end Rows
end Go.Proofs.YtklkohdcilnchabDoor
