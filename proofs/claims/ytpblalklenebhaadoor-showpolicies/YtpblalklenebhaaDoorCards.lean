/-
  DERIVED. GIVEN WITH THE SEED: THE CARDS: each row of YtpblalklenebhaaDoorRows.lean that lists a variable, with what it lists TIED to the program's text (the seventh form; the later family's looks); each row that meets fmt, with fmt's text TOLD by the authors' own Lean function (tested against real Go, not proved from fmt's source: count such statements apart). THE CARD IS WHAT COUNTS. Prove the row's statement (the work); the ties are given (YtpblalklenebhaaDoorTie.lean); close each card by the builder's one call (the guide's Derived/Test/ToyasCard.lean, 'card_holds'). Laid BY PROGRAM, IN A SANDBOX (cutbox-door.mjs). By AI agents, Wed Nov 11 2026. No macro, syntax, notation, axiom, sorry.
-/
import Derived.Test.YtpblalklenebhaaDoorRows
import GoSem.ClaimSeven
namespace Go.Proofs.YtpblalklenebhaaDoor
namespace Rows

/-- THE TIED CARD OF 'chancellaw6.ShowExprs'. -/
def showExprsCard : Claim7 := { stood := { row := showExprsRow, standIns := [], harness := (true, "f1c23ef947e63f6ad0829568702827ffc40a7d437d342aacf161d5566a91b243"), looks := false }, kinds := [], alts := [], laidByText := true, laidKinds := [.data, .data, .data], laidTests := true, laidLooks := .later }
def ShowExprsCardSaid : Prop := Claim7.holds Tryd.pinned (.plain (OpenSpec.ofChange showExprsSpec)) showExprsCard

/-- THE TIED CARD OF 'chancellaw6.ShowPolicies'. -/
def showPoliciesCard : Claim7 := { stood := { row := showPoliciesRow, standIns := [], harness := (true, "f1c23ef947e63f6ad0829568702827ffc40a7d437d342aacf161d5566a91b243"), looks := false }, kinds := [], alts := [], laidByText := true, laidKinds := [.data, .data, .data], laidTests := true, laidLooks := .later }
def ShowPoliciesCardSaid : Prop := Claim7.holds Tryd.pinned (.plain (OpenSpec.ofChange showPoliciesSpec)) showPoliciesCard

/-- THE TIED CARD OF 'chancellaw6.ShowParts'. -/
def showPartsCard : Claim7 := { stood := { row := showPartsRow, standIns := [], harness := (true, "f1c23ef947e63f6ad0829568702827ffc40a7d437d342aacf161d5566a91b243"), looks := false }, kinds := [], alts := [], laidByText := true, laidKinds := [.data, .data, .data], laidTests := true, laidLooks := .later }
def ShowPartsCardSaid : Prop := Claim7.holds Tryd.pinned (.plain (OpenSpec.ofChange showPartsSpec)) showPartsCard

/-- THE TIED CARD OF 'chancellaw6.ShowBrackets'. -/
def showBracketsCard : Claim7 := { stood := { row := showBracketsRow, standIns := [], harness := (true, "f1c23ef947e63f6ad0829568702827ffc40a7d437d342aacf161d5566a91b243"), looks := false }, kinds := [], alts := [], laidByText := true, laidKinds := [.data, .data, .data], laidTests := true, laidLooks := .later }
def ShowBracketsCardSaid : Prop := Claim7.holds Tryd.pinned (.plain (OpenSpec.ofChange showBracketsSpec)) showBracketsCard

/-- THE TIED CARD OF 'chancellaw6.ShowChains'. -/
def showChainsCard : Claim7 := { stood := { row := showChainsRow, standIns := [], harness := (true, "f1c23ef947e63f6ad0829568702827ffc40a7d437d342aacf161d5566a91b243"), looks := false }, kinds := [], alts := [], laidByText := true, laidKinds := [.data, .data, .data], laidTests := true, laidLooks := .later }
def ShowChainsCardSaid : Prop := Claim7.holds Tryd.pinned (.plain (OpenSpec.ofChange showChainsSpec)) showChainsCard

/-- THE SECOND FORM's CARD OF 'chancellaw6.ShowExprs'. -/
def showExprsUptoCard : Claim7 := { stood := { row := showExprsUptoRow, standIns := [], harness := (true, "f1c23ef947e63f6ad0829568702827ffc40a7d437d342aacf161d5566a91b243"), looks := false }, kinds := [], alts := [], laidByText := true, laidKinds := [.data, .data, .data], laidTests := true, laidLooks := .later }
def ShowExprsUptoCardSaid : Prop := Claim7.holds Tryd.pinned (.plain (OpenSpec.upto showExprsSpec)) showExprsUptoCard

/-- THE SECOND FORM's CARD OF 'chancellaw6.ShowPolicies'. -/
def showPoliciesUptoCard : Claim7 := { stood := { row := showPoliciesUptoRow, standIns := [], harness := (true, "f1c23ef947e63f6ad0829568702827ffc40a7d437d342aacf161d5566a91b243"), looks := false }, kinds := [], alts := [], laidByText := true, laidKinds := [.data, .data, .data], laidTests := true, laidLooks := .later }
def ShowPoliciesUptoCardSaid : Prop := Claim7.holds Tryd.pinned (.plain (OpenSpec.upto showPoliciesSpec)) showPoliciesUptoCard

/-- THE SECOND FORM's CARD OF 'chancellaw6.ShowParts'. -/
def showPartsUptoCard : Claim7 := { stood := { row := showPartsUptoRow, standIns := [], harness := (true, "f1c23ef947e63f6ad0829568702827ffc40a7d437d342aacf161d5566a91b243"), looks := false }, kinds := [], alts := [], laidByText := true, laidKinds := [.data, .data, .data], laidTests := true, laidLooks := .later }
def ShowPartsUptoCardSaid : Prop := Claim7.holds Tryd.pinned (.plain (OpenSpec.upto showPartsSpec)) showPartsUptoCard

/-- THE SECOND FORM's CARD OF 'chancellaw6.ShowBrackets'. -/
def showBracketsUptoCard : Claim7 := { stood := { row := showBracketsUptoRow, standIns := [], harness := (true, "f1c23ef947e63f6ad0829568702827ffc40a7d437d342aacf161d5566a91b243"), looks := false }, kinds := [], alts := [], laidByText := true, laidKinds := [.data, .data, .data], laidTests := true, laidLooks := .later }
def ShowBracketsUptoCardSaid : Prop := Claim7.holds Tryd.pinned (.plain (OpenSpec.upto showBracketsSpec)) showBracketsUptoCard

/-- THE SECOND FORM's CARD OF 'chancellaw6.ShowChains'. -/
def showChainsUptoCard : Claim7 := { stood := { row := showChainsUptoRow, standIns := [], harness := (true, "f1c23ef947e63f6ad0829568702827ffc40a7d437d342aacf161d5566a91b243"), looks := false }, kinds := [], alts := [], laidByText := true, laidKinds := [.data, .data, .data], laidTests := true, laidLooks := .later }
def ShowChainsUptoCardSaid : Prop := Claim7.holds Tryd.pinned (.plain (OpenSpec.upto showChainsSpec)) showChainsUptoCard
end Rows
end Go.Proofs.YtpblalklenebhaaDoor
