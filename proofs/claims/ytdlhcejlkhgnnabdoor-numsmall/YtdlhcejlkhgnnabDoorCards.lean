/-
  DERIVED. GIVEN WITH THE SEED: THE CARDS: each row of YtdlhcejlkhgnnabDoorRows.lean that lists a variable, with what it lists TIED to the program's text (the seventh form; the later family's looks); each row that meets fmt, with fmt's text TOLD by the authors' own Lean function (tested against real Go, not proved from fmt's source: count such statements apart). THE CARD IS WHAT COUNTS. Prove the row's statement (the work); the ties are given (YtdlhcejlkhgnnabDoorTie.lean); close each card by the builder's one call (the guide's Derived/Test/ToyasCard.lean, 'card_holds'). Laid BY PROGRAM, IN A SANDBOX (cutbox-door.mjs). By AI agents, Wed Nov 11 2026. No macro, syntax, notation, axiom, sorry.
-/
import Derived.Test.YtdlhcejlkhgnnabDoorRows
import GoSem.ClaimSeven
namespace Go.Proofs.YtdlhcejlkhgnnabDoor
namespace Rows

/-- THE TIED CARD OF 'chancellaw2.NumSmall'. -/
def numSmallCard : Claim7 := { stood := { row := numSmallRow, standIns := [], harness := (true, "c992ce94dd56a790bb0d3d1a1f32bd1ce3c35d097db7471ad3fbf37e1da8c884"), looks := false }, kinds := [], alts := [], laidByText := true, laidKinds := [.data, .data, .data], laidTests := true, laidLooks := .later }
def NumSmallCardSaid : Prop := Claim7.holds Tryd.pinned (.plain (OpenSpec.ofChange numSmallSpec)) numSmallCard

/-- THE SECOND FORM's CARD OF 'chancellaw2.NumSmall'. -/
def numSmallUptoCard : Claim7 := { stood := { row := numSmallUptoRow, standIns := [], harness := (true, "c992ce94dd56a790bb0d3d1a1f32bd1ce3c35d097db7471ad3fbf37e1da8c884"), looks := false }, kinds := [], alts := [], laidByText := true, laidKinds := [.data, .data, .data], laidTests := true, laidLooks := .later }
def NumSmallUptoCardSaid : Prop := Claim7.holds Tryd.pinned (.plain (OpenSpec.upto numSmallSpec)) numSmallUptoCard
end Rows
end Go.Proofs.YtdlhcejlkhgnnabDoor
