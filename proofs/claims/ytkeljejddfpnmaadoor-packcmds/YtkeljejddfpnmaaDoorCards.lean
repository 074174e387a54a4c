/-
  DERIVED. GIVEN WITH THE SEED: THE CARDS: each row of YtkeljejddfpnmaaDoorRows.lean that lists a variable, with what it lists TIED to the program's text (the seventh form; the later family's looks); each row that meets fmt, with fmt's text TOLD by the authors' own Lean function (tested against real Go, not proved from fmt's source: count such statements apart). THE CARD IS WHAT COUNTS. Prove the row's statement (the work); the ties are given (YtkeljejddfpnmaaDoorTie.lean); close each card by the builder's one call (the guide's Derived/Test/ToyasCard.lean, 'card_holds'). Laid BY PROGRAM, IN A SANDBOX (cutbox-door.mjs). By AI agents, Wed Nov 11 2026. No macro, syntax, notation, axiom, sorry.
-/
import Derived.Test.YtkeljejddfpnmaaDoorRows
import GoSem.ClaimSeven
namespace Go.Proofs.YtkeljejddfpnmaaDoor
namespace Rows

/-- THE TIED CARD OF 'chancellaw7.PackCmds'. -/
def packCmdsCard : Claim7 := { stood := { row := packCmdsRow, standIns := [], harness := (true, "7a449533b2cdce3cc3b76fa6c63548e1fdf593926ec62306a7fc68a81006124f"), looks := false }, kinds := [], alts := [], laidByText := true, laidKinds := [.data], laidTests := true, laidLooks := .later }
def PackCmdsCardSaid : Prop := Claim7.holds Tryd.pinned (.plain (OpenSpec.ofChange packCmdsSpec)) packCmdsCard

/-- THE TIED CARD OF 'chancellaw7.PackFrames'. -/
def packFramesCard : Claim7 := { stood := { row := packFramesRow, standIns := [], harness := (true, "7a449533b2cdce3cc3b76fa6c63548e1fdf593926ec62306a7fc68a81006124f"), looks := false }, kinds := [], alts := [], laidByText := true, laidKinds := [.data], laidTests := true, laidLooks := .later }
def PackFramesCardSaid : Prop := Claim7.holds Tryd.pinned (.plain (OpenSpec.ofChange packFramesSpec)) packFramesCard

/-- THE TIED CARD OF 'chancellaw7.PackBounds'. -/
def packBoundsCard : Claim7 := { stood := { row := packBoundsRow, standIns := [], harness := (true, "7a449533b2cdce3cc3b76fa6c63548e1fdf593926ec62306a7fc68a81006124f"), looks := false }, kinds := [], alts := [], laidByText := true, laidKinds := [.data], laidTests := true, laidLooks := .later }
def PackBoundsCardSaid : Prop := Claim7.holds Tryd.pinned (.plain (OpenSpec.ofChange packBoundsSpec)) packBoundsCard

/-- THE SECOND FORM's CARD OF 'chancellaw7.PackCmds'. -/
def packCmdsUptoCard : Claim7 := { stood := { row := packCmdsUptoRow, standIns := [], harness := (true, "7a449533b2cdce3cc3b76fa6c63548e1fdf593926ec62306a7fc68a81006124f"), looks := false }, kinds := [], alts := [], laidByText := true, laidKinds := [.data], laidTests := true, laidLooks := .later }
def PackCmdsUptoCardSaid : Prop := Claim7.holds Tryd.pinned (.plain (OpenSpec.upto packCmdsSpec)) packCmdsUptoCard

/-- THE SECOND FORM's CARD OF 'chancellaw7.PackFrames'. -/
def packFramesUptoCard : Claim7 := { stood := { row := packFramesUptoRow, standIns := [], harness := (true, "7a449533b2cdce3cc3b76fa6c63548e1fdf593926ec62306a7fc68a81006124f"), looks := false }, kinds := [], alts := [], laidByText := true, laidKinds := [.data], laidTests := true, laidLooks := .later }
def PackFramesUptoCardSaid : Prop := Claim7.holds Tryd.pinned (.plain (OpenSpec.upto packFramesSpec)) packFramesUptoCard

/-- THE SECOND FORM's CARD OF 'chancellaw7.PackBounds'. -/
def packBoundsUptoCard : Claim7 := { stood := { row := packBoundsUptoRow, standIns := [], harness := (true, "7a449533b2cdce3cc3b76fa6c63548e1fdf593926ec62306a7fc68a81006124f"), looks := false }, kinds := [], alts := [], laidByText := true, laidKinds := [.data], laidTests := true, laidLooks := .later }
def PackBoundsUptoCardSaid : Prop := Claim7.holds Tryd.pinned (.plain (OpenSpec.upto packBoundsSpec)) packBoundsUptoCard
end Rows
end Go.Proofs.YtkeljejddfpnmaaDoor
