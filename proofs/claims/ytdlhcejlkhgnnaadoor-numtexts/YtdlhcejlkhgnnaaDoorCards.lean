/-
  DERIVED. GIVEN WITH THE SEED: THE CARDS: each row of YtdlhcejlkhgnnaaDoorRows.lean that lists a variable, with what it lists TIED to the program's text (the seventh form; the later family's looks); each row that meets fmt, with fmt's text TOLD by the authors' own Lean function (tested against real Go, not proved from fmt's source: count such statements apart). THE CARD IS WHAT COUNTS. Prove the row's statement (the work); the ties are given (YtdlhcejlkhgnnaaDoorTie.lean); close each card by the builder's one call (the guide's Derived/Test/ToyasCard.lean, 'card_holds'). Laid BY PROGRAM, IN A SANDBOX (cutbox-door.mjs). By AI agents, Wed Nov 11 2026. No macro, syntax, notation, axiom, sorry.
-/
import Derived.Test.YtdlhcejlkhgnnaaDoorRows
import GoSem.ClaimSeven
namespace Go.Proofs.YtdlhcejlkhgnnaaDoor
namespace Rows

/-- THE TIED CARD OF 'chancellaw1.TextLike'. -/
def textLikeCard : Claim7 := { stood := { row := textLikeRow, standIns := [], harness := (true, "d630978c490c8258f1ca6975eeeebf964f5ac32cf9c7a2f4052d69c4137b3bb0"), looks := false }, kinds := [], alts := [], laidByText := true, laidKinds := [.data, .data, .data], laidTests := true, laidLooks := .later }
def TextLikeCardSaid : Prop := Claim7.holds Tryd.pinned (.plain (OpenSpec.ofChange textLikeSpec)) textLikeCard

/-- THE TIED CARD OF 'chancellaw2.NumAsks'. -/
def numAsksCard : Claim7 := { stood := { row := numAsksRow, standIns := [], harness := (true, "d630978c490c8258f1ca6975eeeebf964f5ac32cf9c7a2f4052d69c4137b3bb0"), looks := false }, kinds := [], alts := [], laidByText := true, laidKinds := [.data, .data, .data], laidTests := true, laidLooks := .later }
def NumAsksCardSaid : Prop := Claim7.holds Tryd.pinned (.plain (OpenSpec.ofChange numAsksSpec)) numAsksCard

/-- THE TIED CARD OF 'chancellaw2.NumBack'. -/
def numBackCard : Claim7 := { stood := { row := numBackRow, standIns := [], harness := (true, "d630978c490c8258f1ca6975eeeebf964f5ac32cf9c7a2f4052d69c4137b3bb0"), looks := false }, kinds := [], alts := [], laidByText := true, laidKinds := [.data, .data, .data], laidTests := true, laidLooks := .later }
def NumBackCardSaid : Prop := Claim7.holds Tryd.pinned (.plain (OpenSpec.ofChange numBackSpec)) numBackCard

/-- THE TIED CARD OF 'chancellaw2.NumTexts'. -/
def numTextsCard : Claim7 := { stood := { row := numTextsRow, standIns := [], harness := (true, "d630978c490c8258f1ca6975eeeebf964f5ac32cf9c7a2f4052d69c4137b3bb0"), looks := false }, kinds := [], alts := [], laidByText := true, laidKinds := [.data, .data, .data], laidTests := true, laidLooks := .later }
def NumTextsCardSaid : Prop := Claim7.holds Tryd.pinned (.plain (OpenSpec.ofChange numTextsSpec)) numTextsCard

/-- THE TIED CARD OF 'chancellaw2.NumEdges'. -/
def numEdgesCard : Claim7 := { stood := { row := numEdgesRow, standIns := [], harness := (true, "d630978c490c8258f1ca6975eeeebf964f5ac32cf9c7a2f4052d69c4137b3bb0"), looks := false }, kinds := [], alts := [], laidByText := true, laidKinds := [.data, .data, .data], laidTests := true, laidLooks := .later }
def NumEdgesCardSaid : Prop := Claim7.holds Tryd.pinned (.plain (OpenSpec.ofChange numEdgesSpec)) numEdgesCard

/-- THE TIED CARD OF 'chancellaw2.NumSigns'. -/
def numSignsCard : Claim7 := { stood := { row := numSignsRow, standIns := [], harness := (true, "d630978c490c8258f1ca6975eeeebf964f5ac32cf9c7a2f4052d69c4137b3bb0"), looks := false }, kinds := [], alts := [], laidByText := true, laidKinds := [.data, .data, .data], laidTests := true, laidLooks := .later }
def NumSignsCardSaid : Prop := Claim7.holds Tryd.pinned (.plain (OpenSpec.ofChange numSignsSpec)) numSignsCard

/-- THE SECOND FORM's CARD OF 'chancellaw1.TextLike'. -/
def textLikeUptoCard : Claim7 := { stood := { row := textLikeUptoRow, standIns := [], harness := (true, "d630978c490c8258f1ca6975eeeebf964f5ac32cf9c7a2f4052d69c4137b3bb0"), looks := false }, kinds := [], alts := [], laidByText := true, laidKinds := [.data, .data, .data], laidTests := true, laidLooks := .later }
def TextLikeUptoCardSaid : Prop := Claim7.holds Tryd.pinned (.plain (OpenSpec.upto textLikeSpec)) textLikeUptoCard

/-- THE SECOND FORM's CARD OF 'chancellaw2.NumAsks'. -/
def numAsksUptoCard : Claim7 := { stood := { row := numAsksUptoRow, standIns := [], harness := (true, "d630978c490c8258f1ca6975eeeebf964f5ac32cf9c7a2f4052d69c4137b3bb0"), looks := false }, kinds := [], alts := [], laidByText := true, laidKinds := [.data, .data, .data], laidTests := true, laidLooks := .later }
def NumAsksUptoCardSaid : Prop := Claim7.holds Tryd.pinned (.plain (OpenSpec.upto numAsksSpec)) numAsksUptoCard

/-- THE SECOND FORM's CARD OF 'chancellaw2.NumBack'. -/
def numBackUptoCard : Claim7 := { stood := { row := numBackUptoRow, standIns := [], harness := (true, "d630978c490c8258f1ca6975eeeebf964f5ac32cf9c7a2f4052d69c4137b3bb0"), looks := false }, kinds := [], alts := [], laidByText := true, laidKinds := [.data, .data, .data], laidTests := true, laidLooks := .later }
def NumBackUptoCardSaid : Prop := Claim7.holds Tryd.pinned (.plain (OpenSpec.upto numBackSpec)) numBackUptoCard

/-- THE SECOND FORM's CARD OF 'chancellaw2.NumTexts'. -/
def numTextsUptoCard : Claim7 := { stood := { row := numTextsUptoRow, standIns := [], harness := (true, "d630978c490c8258f1ca6975eeeebf964f5ac32cf9c7a2f4052d69c4137b3bb0"), looks := false }, kinds := [], alts := [], laidByText := true, laidKinds := [.data, .data, .data], laidTests := true, laidLooks := .later }
def NumTextsUptoCardSaid : Prop := Claim7.holds Tryd.pinned (.plain (OpenSpec.upto numTextsSpec)) numTextsUptoCard

/-- THE SECOND FORM's CARD OF 'chancellaw2.NumEdges'. -/
def numEdgesUptoCard : Claim7 := { stood := { row := numEdgesUptoRow, standIns := [], harness := (true, "d630978c490c8258f1ca6975eeeebf964f5ac32cf9c7a2f4052d69c4137b3bb0"), looks := false }, kinds := [], alts := [], laidByText := true, laidKinds := [.data, .data, .data], laidTests := true, laidLooks := .later }
def NumEdgesUptoCardSaid : Prop := Claim7.holds Tryd.pinned (.plain (OpenSpec.upto numEdgesSpec)) numEdgesUptoCard

/-- THE SECOND FORM's CARD OF 'chancellaw2.NumSigns'. -/
def numSignsUptoCard : Claim7 := { stood := { row := numSignsUptoRow, standIns := [], harness := (true, "d630978c490c8258f1ca6975eeeebf964f5ac32cf9c7a2f4052d69c4137b3bb0"), looks := false }, kinds := [], alts := [], laidByText := true, laidKinds := [.data, .data, .data], laidTests := true, laidLooks := .later }
def NumSignsUptoCardSaid : Prop := Claim7.holds Tryd.pinned (.plain (OpenSpec.upto numSignsSpec)) numSignsUptoCard
end Rows
end Go.Proofs.YtdlhcejlkhgnnaaDoor
