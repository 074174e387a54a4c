/-
  DERIVED. GIVEN WITH THE SEED: THE CARDS: each row of YtiokpdpegkbgiaaDoorRows.lean that lists a variable, with what it lists TIED to the program's text (the seventh form; the later family's looks); each row that meets fmt, with fmt's text TOLD by the authors' own Lean function (tested against real Go, not proved from fmt's source: count such statements apart). THE CARD IS WHAT COUNTS. Prove the row's statement (the work); the ties are given (YtiokpdpegkbgiaaDoorTie.lean); close each card by the builder's one call (the guide's Derived/Test/ToyasCard.lean, 'card_holds'). Laid BY PROGRAM, IN A SANDBOX (cutbox-door.mjs). By AI agents, Wed Nov 11 2026. No macro, syntax, notation, axiom, sorry.
-/
import Derived.Test.YtiokpdpegkbgiaaDoorRows
import GoSem.ClaimSeven
namespace Go.Proofs.YtiokpdpegkbgiaaDoor
namespace Rows

/-- THE TIED CARD OF 'chancellaw1.TextRunes'. -/
def textRunesCard : Claim7 := { stood := { row := textRunesRow, standIns := [], harness := (true, "da7bced2c40764b49d0c4fd1b27a7f67897b586e662b8505663f9a3eb265e610"), looks := false }, kinds := [], alts := [], laidByText := true, laidKinds := [.data, .data, .data], laidTests := true, laidLooks := .later }
def TextRunesCardSaid : Prop := Claim7.holds Tryd.pinned (.plain (OpenSpec.ofChange textRunesSpec)) textRunesCard

/-- THE TIED CARD OF 'chancellaw1.TextQuotes'. -/
def textQuotesCard : Claim7 := { stood := { row := textQuotesRow, standIns := [], harness := (true, "da7bced2c40764b49d0c4fd1b27a7f67897b586e662b8505663f9a3eb265e610"), looks := false }, kinds := [], alts := [], laidByText := true, laidKinds := [.data, .data, .data], laidTests := true, laidLooks := .later }
def TextQuotesCardSaid : Prop := Claim7.holds Tryd.pinned (.plain (OpenSpec.ofChange textQuotesSpec)) textQuotesCard

/-- THE TIED CARD OF 'chancellaw1.TextReads'. -/
def textReadsCard : Claim7 := { stood := { row := textReadsRow, standIns := [], harness := (true, "da7bced2c40764b49d0c4fd1b27a7f67897b586e662b8505663f9a3eb265e610"), looks := false }, kinds := [], alts := [], laidByText := true, laidKinds := [.data, .data, .data], laidTests := true, laidLooks := .later }
def TextReadsCardSaid : Prop := Claim7.holds Tryd.pinned (.plain (OpenSpec.ofChange textReadsSpec)) textReadsCard

/-- THE TIED CARD OF 'chancellaw1.TextLike'. -/
def textLikeCard : Claim7 := { stood := { row := textLikeRow, standIns := [], harness := (true, "da7bced2c40764b49d0c4fd1b27a7f67897b586e662b8505663f9a3eb265e610"), looks := false }, kinds := [], alts := [], laidByText := true, laidKinds := [.data, .data, .data], laidTests := true, laidLooks := .later }
def TextLikeCardSaid : Prop := Claim7.holds Tryd.pinned (.plain (OpenSpec.ofChange textLikeSpec)) textLikeCard

/-- THE TIED CARD OF 'chancellaw1.TextStars'. -/
def textStarsCard : Claim7 := { stood := { row := textStarsRow, standIns := [], harness := (true, "da7bced2c40764b49d0c4fd1b27a7f67897b586e662b8505663f9a3eb265e610"), looks := false }, kinds := [], alts := [], laidByText := true, laidKinds := [.data, .data, .data], laidTests := true, laidLooks := .later }
def TextStarsCardSaid : Prop := Claim7.holds Tryd.pinned (.plain (OpenSpec.ofChange textStarsSpec)) textStarsCard

/-- THE TIED CARD OF 'chancellaw1.TextSize'. -/
def textSizeCard : Claim7 := { stood := { row := textSizeRow, standIns := [], harness := (true, "da7bced2c40764b49d0c4fd1b27a7f67897b586e662b8505663f9a3eb265e610"), looks := false }, kinds := [], alts := [], laidByText := true, laidKinds := [.data, .data, .data], laidTests := true, laidLooks := .later }
def TextSizeCardSaid : Prop := Claim7.holds Tryd.pinned (.plain (OpenSpec.ofChange textSizeSpec)) textSizeCard

/-- THE SECOND FORM's CARD OF 'chancellaw1.TextRunes'. -/
def textRunesUptoCard : Claim7 := { stood := { row := textRunesUptoRow, standIns := [], harness := (true, "da7bced2c40764b49d0c4fd1b27a7f67897b586e662b8505663f9a3eb265e610"), looks := false }, kinds := [], alts := [], laidByText := true, laidKinds := [.data, .data, .data], laidTests := true, laidLooks := .later }
def TextRunesUptoCardSaid : Prop := Claim7.holds Tryd.pinned (.plain (OpenSpec.upto textRunesSpec)) textRunesUptoCard

/-- THE SECOND FORM's CARD OF 'chancellaw1.TextQuotes'. -/
def textQuotesUptoCard : Claim7 := { stood := { row := textQuotesUptoRow, standIns := [], harness := (true, "da7bced2c40764b49d0c4fd1b27a7f67897b586e662b8505663f9a3eb265e610"), looks := false }, kinds := [], alts := [], laidByText := true, laidKinds := [.data, .data, .data], laidTests := true, laidLooks := .later }
def TextQuotesUptoCardSaid : Prop := Claim7.holds Tryd.pinned (.plain (OpenSpec.upto textQuotesSpec)) textQuotesUptoCard

/-- THE SECOND FORM's CARD OF 'chancellaw1.TextReads'. -/
def textReadsUptoCard : Claim7 := { stood := { row := textReadsUptoRow, standIns := [], harness := (true, "da7bced2c40764b49d0c4fd1b27a7f67897b586e662b8505663f9a3eb265e610"), looks := false }, kinds := [], alts := [], laidByText := true, laidKinds := [.data, .data, .data], laidTests := true, laidLooks := .later }
def TextReadsUptoCardSaid : Prop := Claim7.holds Tryd.pinned (.plain (OpenSpec.upto textReadsSpec)) textReadsUptoCard

/-- THE SECOND FORM's CARD OF 'chancellaw1.TextLike'. -/
def textLikeUptoCard : Claim7 := { stood := { row := textLikeUptoRow, standIns := [], harness := (true, "da7bced2c40764b49d0c4fd1b27a7f67897b586e662b8505663f9a3eb265e610"), looks := false }, kinds := [], alts := [], laidByText := true, laidKinds := [.data, .data, .data], laidTests := true, laidLooks := .later }
def TextLikeUptoCardSaid : Prop := Claim7.holds Tryd.pinned (.plain (OpenSpec.upto textLikeSpec)) textLikeUptoCard

/-- THE SECOND FORM's CARD OF 'chancellaw1.TextStars'. -/
def textStarsUptoCard : Claim7 := { stood := { row := textStarsUptoRow, standIns := [], harness := (true, "da7bced2c40764b49d0c4fd1b27a7f67897b586e662b8505663f9a3eb265e610"), looks := false }, kinds := [], alts := [], laidByText := true, laidKinds := [.data, .data, .data], laidTests := true, laidLooks := .later }
def TextStarsUptoCardSaid : Prop := Claim7.holds Tryd.pinned (.plain (OpenSpec.upto textStarsSpec)) textStarsUptoCard

/-- THE SECOND FORM's CARD OF 'chancellaw1.TextSize'. -/
def textSizeUptoCard : Claim7 := { stood := { row := textSizeUptoRow, standIns := [], harness := (true, "da7bced2c40764b49d0c4fd1b27a7f67897b586e662b8505663f9a3eb265e610"), looks := false }, kinds := [], alts := [], laidByText := true, laidKinds := [.data, .data, .data], laidTests := true, laidLooks := .later }
def TextSizeUptoCardSaid : Prop := Claim7.holds Tryd.pinned (.plain (OpenSpec.upto textSizeSpec)) textSizeUptoCard
end Rows
end Go.Proofs.YtiokpdpegkbgiaaDoor
