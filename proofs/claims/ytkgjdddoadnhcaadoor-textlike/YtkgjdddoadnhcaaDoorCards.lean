/-
  DERIVED. GIVEN WITH THE SEED: THE CARDS: each row of YtkgjdddoadnhcaaDoorRows.lean that lists a variable, with what it lists TIED to the program's text (the seventh form; the later family's looks); each row that meets fmt, with fmt's text TOLD by the authors' own Lean function (tested against real Go, not proved from fmt's source: count such statements apart). THE CARD IS WHAT COUNTS. Prove the row's statement (the work); the ties are given (YtkgjdddoadnhcaaDoorTie.lean); close each card by the builder's one call (the guide's Derived/Test/ToyasCard.lean, 'card_holds'). Laid BY PROGRAM, IN A SANDBOX (cutbox-door.mjs). By AI agents, Wed Nov 11 2026. No macro, syntax, notation, axiom, sorry.
-/
import Derived.Test.YtkgjdddoadnhcaaDoorRows
import GoSem.ClaimSeven
namespace Go.Proofs.YtkgjdddoadnhcaaDoor
namespace Rows

/-- THE TIED CARD OF 'chancellaw1.TextRunes'. -/
def textRunesCard : Claim7 := { stood := { row := textRunesRow, standIns := [], harness := (true, "d9abb9fe689c5f78bc71557b5d441d8ea56cf3b820776710bc2173d7fd566c0a"), looks := false }, kinds := [], alts := [], laidByText := true, laidKinds := [.data, .data, .data], laidTests := true, laidLooks := .later }
def TextRunesCardSaid : Prop := Claim7.holds Tryd.pinned (.plain (OpenSpec.ofChange textRunesSpec)) textRunesCard

/-- THE TIED CARD OF 'chancellaw1.TextLike'. -/
def textLikeCard : Claim7 := { stood := { row := textLikeRow, standIns := [], harness := (true, "d9abb9fe689c5f78bc71557b5d441d8ea56cf3b820776710bc2173d7fd566c0a"), looks := false }, kinds := [], alts := [], laidByText := true, laidKinds := [.data, .data, .data], laidTests := true, laidLooks := .later }
def TextLikeCardSaid : Prop := Claim7.holds Tryd.pinned (.plain (OpenSpec.ofChange textLikeSpec)) textLikeCard

/-- THE SECOND FORM's CARD OF 'chancellaw1.TextRunes'. -/
def textRunesUptoCard : Claim7 := { stood := { row := textRunesUptoRow, standIns := [], harness := (true, "d9abb9fe689c5f78bc71557b5d441d8ea56cf3b820776710bc2173d7fd566c0a"), looks := false }, kinds := [], alts := [], laidByText := true, laidKinds := [.data, .data, .data], laidTests := true, laidLooks := .later }
def TextRunesUptoCardSaid : Prop := Claim7.holds Tryd.pinned (.plain (OpenSpec.upto textRunesSpec)) textRunesUptoCard

/-- THE SECOND FORM's CARD OF 'chancellaw1.TextLike'. -/
def textLikeUptoCard : Claim7 := { stood := { row := textLikeUptoRow, standIns := [], harness := (true, "d9abb9fe689c5f78bc71557b5d441d8ea56cf3b820776710bc2173d7fd566c0a"), looks := false }, kinds := [], alts := [], laidByText := true, laidKinds := [.data, .data, .data], laidTests := true, laidLooks := .later }
def TextLikeUptoCardSaid : Prop := Claim7.holds Tryd.pinned (.plain (OpenSpec.upto textLikeSpec)) textLikeUptoCard
end Rows
end Go.Proofs.YtkgjdddoadnhcaaDoor
