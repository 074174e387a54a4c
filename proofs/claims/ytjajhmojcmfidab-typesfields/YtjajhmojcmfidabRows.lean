/-
  No cell of these rows narrows 'for every input' (looked for: loops, veiled, ifaces, maps, wideKeys, modest, calm, conditions, laid).
  DERIVED. THE GIVEN ROWS OF THIS SEAT. 2 by the template 'for every input the law returns true; each argument reads behind the call as it read before'; 0 by the template 'total and deterministic' (their statements: YtjajhmojcmfidabTotals.lean).
  GIVEN WITH THE SEED: the statements are not yours to turn. If you find one false, say at which input.
  Laid BY PROGRAM, IN A SANDBOX (cutbox-rows.mjs): the forced cells as the released guide's own fill.sh prints them over the translation 3d71cd43da08ad57… (all of the seat's roots in one cut). By AI agents, Wed Nov 11 2026. No macro, syntax, notation, axiom, sorry.
-/
import Derived.Test.YtjajhmojcmfidabChecked
import GoSem.Claim
import GoSem.ClaimJoined
import GoSem.ClaimMapViews
import Derived.JoinedTies
import Derived.KernelRfl
namespace Go.Proofs.Ytjajhmojcmfidab
/- THE CELL 'sum', in the pinned program and in every row, IS THE sha256 OF THE DUMP (.gsa) THAT YtjajhmojcmfidabProg.lean LOADS. Nothing in Lean hashes anything: it is a label: what it is worth is what the hold of that sum in a sandbox is worth. -/
noncomputable def Try.pinned : Pinned := { name := "ytjajhmojcmfidab", sum := "3d71cd43da08ad579c4f332f3a8ec786d9fed7ed2f6d9c4dd616a28a8a90b893", checked := Try.checked }
namespace Rows
def none {H : Type} : Left H := { results := [], args := [] }

/-- 'chancellaw11.TypesFields': WHATEVER THE INPUT: true; the input reads as it did. -/
def typesFieldsSpec : ChangeSpec := { name := "typesFields", fn := fun _ => fun
  | [d1, d2, d3, d4, d5] => { results := [.lit (.bool true)], args := [d1, d2, d3, d4, d5] }
  | _ => none }
def typesFieldsRow : OpenClaim := { program := "ytjajhmojcmfidab", sum := "3d71cd43da08ad579c4f332f3a8ec786d9fed7ed2f6d9c4dd616a28a8a90b893", func := "chancel/chancellaw11.TypesFields", spec := "typesFields", unfollowed := true, recurses := true, apart := false }
def TypesFieldsSaid : Prop := typesFieldsRow.holds Try.pinned (OpenSpec.ofChange typesFieldsSpec)

/-- ITS FALSE NEIGHBOUR: 'it returns false'. Refute it at one input. -/
def typesFieldsWrong : ChangeSpec := { name := "typesFields", fn := fun _ => fun
  | [d1, d2, d3, d4, d5] => { results := [.lit (.bool false)], args := [d1, d2, d3, d4, d5] }
  | _ => none }
def TypesFieldsWrongFalsely : Prop := typesFieldsRow.holds Try.pinned (OpenSpec.ofChange typesFieldsWrong)

/-- 'chancellaw11.TypesRefuses': WHATEVER THE INPUT: true; the input reads as it did. -/
def typesRefusesSpec : ChangeSpec := { name := "typesRefuses", fn := fun _ => fun
  | [d1, d2] => { results := [.lit (.bool true)], args := [d1, d2] }
  | _ => none }
def typesRefusesRow : OpenClaim := { program := "ytjajhmojcmfidab", sum := "3d71cd43da08ad579c4f332f3a8ec786d9fed7ed2f6d9c4dd616a28a8a90b893", func := "chancel/chancellaw11.TypesRefuses", spec := "typesRefuses", unfollowed := true, recurses := true, apart := false }
def TypesRefusesSaid : Prop := typesRefusesRow.holds Try.pinned (OpenSpec.ofChange typesRefusesSpec)

/-- ITS FALSE NEIGHBOUR: 'it returns false'. Refute it at one input. -/
def typesRefusesWrong : ChangeSpec := { name := "typesRefuses", fn := fun _ => fun
  | [d1, d2] => { results := [.lit (.bool false)], args := [d1, d2] }
  | _ => none }
def TypesRefusesWrongFalsely : Prop := typesRefusesRow.holds Try.pinned (OpenSpec.ofChange typesRefusesWrong)

/- THE SECOND FORM. 'bulk': how many values and letters a reading holds, each counted each time it is reached (what is shared counts as often as it is met; a slice's spare places count too). A statement '..UptoSaid' is the law's where the arguments, and the package variables that the reading takes, are together of bulk at most 1048576: NARROWER than '..Said'. Prove '..Said' where nothing that the law and all that it calls make is longer than what came in: it says more and counts as full. Else prove '..UptoSaid'. A law counts once. -/
mutual
def uptoBulk {H : Type} : DataW H → Nat
  | .lit (.string bytes) => bytes.length + 1
  | .lit _ => 1
  | .nil => 1
  | .ptr d => uptoBulk d + 1
  | .slice elems spare => uptoBulkAll elems + uptoBulkAll spare + 1
  | .agg parts => uptoBulkAll parts + 1
  | .iface _ d => uptoBulk d + 1
  | .map entries => uptoBulkEntries entries + 1
  | .held _ => 1
def uptoBulkAll {H : Type} : List (DataW H) → Nat
  | [] => 0
  | d :: r => uptoBulk d + uptoBulkAll r
def uptoBulkEntries {H : Type} : List (Lit × DataW H) → Nat
  | [] => 0
  | x :: r => uptoBulkEntry x + uptoBulkEntries r
def uptoBulkEntry {H : Type} : Lit × DataW H → Nat
  | (.string bytes, d) => bytes.length + uptoBulk d + 1
  | (_, d) => uptoBulk d + 1
 end
def uptoSmall : (H : Type) → List (DataW H) → Bool := fun _ ds => decide (uptoBulkAll ds ≤ 1048576)
def OpenSpec.upto (s : _root_.Go.ChangeSpec) : _root_.Go.OpenSpec := { _root_.Go.OpenSpec.ofChange s with cond := some uptoSmall }

/-- 'chancellaw11.TypesFields', WHERE WHAT IT READS IS OF BULK AT MOST 1048576: true; the input reads as it did. -/
def typesFieldsUptoRow : OpenClaim := { program := "ytjajhmojcmfidab", sum := "3d71cd43da08ad579c4f332f3a8ec786d9fed7ed2f6d9c4dd616a28a8a90b893", func := "chancel/chancellaw11.TypesFields", spec := "typesFields", unfollowed := true, recurses := true, apart := false, narrowed := true }
def TypesFieldsUptoSaid : Prop := typesFieldsUptoRow.holds Try.pinned (OpenSpec.upto typesFieldsSpec)

/-- 'chancellaw11.TypesRefuses', WHERE WHAT IT READS IS OF BULK AT MOST 1048576: true; the input reads as it did. -/
def typesRefusesUptoRow : OpenClaim := { program := "ytjajhmojcmfidab", sum := "3d71cd43da08ad579c4f332f3a8ec786d9fed7ed2f6d9c4dd616a28a8a90b893", func := "chancel/chancellaw11.TypesRefuses", spec := "typesRefuses", unfollowed := true, recurses := true, apart := false, narrowed := true }
def TypesRefusesUptoSaid : Prop := typesRefusesUptoRow.holds Try.pinned (OpenSpec.upto typesRefusesSpec)

end Rows
end Go.Proofs.Ytjajhmojcmfidab
