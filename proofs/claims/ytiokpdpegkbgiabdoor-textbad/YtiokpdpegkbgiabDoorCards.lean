/-
  DERIVED. GIVEN WITH THE SEED: THE CARDS: each row of YtiokpdpegkbgiabDoorRows.lean that lists a variable, with what it lists TIED to the program's text (the seventh form; the later family's looks); each row that meets fmt, with fmt's text TOLD by the authors' own Lean function (tested against real Go, not proved from fmt's source: count such statements apart). THE CARD IS WHAT COUNTS. Prove the row's statement (the work); the ties are given (YtiokpdpegkbgiabDoorTie.lean); close each card by the builder's one call (the guide's Derived/Test/ToyasCard.lean, 'card_holds'). Laid BY PROGRAM, IN A SANDBOX (cutbox-door.mjs). By AI agents, Wed Nov 11 2026. No macro, syntax, notation, axiom, sorry.
-/
import Derived.Test.YtiokpdpegkbgiabDoorRows
import GoSem.ClaimSeven
namespace Go.Proofs.YtiokpdpegkbgiabDoor
namespace Rows

/-- THE TIED CARD OF 'chancellaw1.TextJoins'. -/
def textJoinsCard : Claim7 := { stood := { row := textJoinsRow, standIns := [], harness := (true, "a2a294e46161760f66a6b3129193e6534dbdf3b167433f0cb5910ec17b168016"), looks := false }, kinds := [], alts := [], laidByText := true, laidKinds := [.data, .data, .data], laidTests := true, laidLooks := .later }
def TextJoinsCardSaid : Prop := Claim7.holds Tryd.pinned (.plain (OpenSpec.ofChange textJoinsSpec)) textJoinsCard

/-- THE TIED CARD OF 'chancellaw1.TextBad'. -/
def textBadCard : Claim7 := { stood := { row := textBadRow, standIns := [], harness := (true, "a2a294e46161760f66a6b3129193e6534dbdf3b167433f0cb5910ec17b168016"), looks := false }, kinds := [], alts := [], laidByText := true, laidKinds := [.data, .data, .data], laidTests := true, laidLooks := .later }
def TextBadCardSaid : Prop := Claim7.holds Tryd.pinned (.plain (OpenSpec.ofChange textBadSpec)) textBadCard

/-- THE TIED CARD OF 'chancellaw1.TextLonely'. -/
def textLonelyCard : Claim7 := { stood := { row := textLonelyRow, standIns := [], harness := (true, "a2a294e46161760f66a6b3129193e6534dbdf3b167433f0cb5910ec17b168016"), looks := false }, kinds := [], alts := [], laidByText := true, laidKinds := [.data, .data, .data], laidTests := true, laidLooks := .later }
def TextLonelyCardSaid : Prop := Claim7.holds Tryd.pinned (.plain (OpenSpec.ofChange textLonelySpec)) textLonelyCard

/-- THE SECOND FORM's CARD OF 'chancellaw1.TextJoins'. -/
def textJoinsUptoCard : Claim7 := { stood := { row := textJoinsUptoRow, standIns := [], harness := (true, "a2a294e46161760f66a6b3129193e6534dbdf3b167433f0cb5910ec17b168016"), looks := false }, kinds := [], alts := [], laidByText := true, laidKinds := [.data, .data, .data], laidTests := true, laidLooks := .later }
def TextJoinsUptoCardSaid : Prop := Claim7.holds Tryd.pinned (.plain (OpenSpec.upto textJoinsSpec)) textJoinsUptoCard

/-- THE SECOND FORM's CARD OF 'chancellaw1.TextBad'. -/
def textBadUptoCard : Claim7 := { stood := { row := textBadUptoRow, standIns := [], harness := (true, "a2a294e46161760f66a6b3129193e6534dbdf3b167433f0cb5910ec17b168016"), looks := false }, kinds := [], alts := [], laidByText := true, laidKinds := [.data, .data, .data], laidTests := true, laidLooks := .later }
def TextBadUptoCardSaid : Prop := Claim7.holds Tryd.pinned (.plain (OpenSpec.upto textBadSpec)) textBadUptoCard

/-- THE SECOND FORM's CARD OF 'chancellaw1.TextLonely'. -/
def textLonelyUptoCard : Claim7 := { stood := { row := textLonelyUptoRow, standIns := [], harness := (true, "a2a294e46161760f66a6b3129193e6534dbdf3b167433f0cb5910ec17b168016"), looks := false }, kinds := [], alts := [], laidByText := true, laidKinds := [.data, .data, .data], laidTests := true, laidLooks := .later }
def TextLonelyUptoCardSaid : Prop := Claim7.holds Tryd.pinned (.plain (OpenSpec.upto textLonelySpec)) textLonelyUptoCard
end Rows
end Go.Proofs.YtiokpdpegkbgiabDoor
