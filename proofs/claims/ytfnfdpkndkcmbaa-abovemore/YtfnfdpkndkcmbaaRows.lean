/-
  NARROWER THAN 'FOR EVERY INPUT', by the rows' own cells (each row's printed sentence says how): AboveCircles: loops · AboveMore: loops.
  DERIVED. THE GIVEN ROWS OF THIS SEAT. 2 by the template 'for every input the law returns true; each argument reads behind the call as it read before'; 0 by the template 'total and deterministic' (their statements: YtfnfdpkndkcmbaaTotals.lean).
  GIVEN WITH THE SEED: the statements are not yours to turn. If you find one false, say at which input.
  Laid BY PROGRAM, IN A SANDBOX (cutbox-rows.mjs): the forced cells as the released guide's own fill.sh prints them over the translation 76ca94c18db0f554… (all of the seat's roots in one cut). By AI agents, Wed Nov 11 2026. No macro, syntax, notation, axiom, sorry.
-/
import Derived.Test.YtfnfdpkndkcmbaaChecked
import GoSem.Claim
import GoSem.ClaimJoined
import GoSem.ClaimMapViews
import Derived.JoinedTies
import Derived.KernelRfl
namespace Go.Proofs.Ytfnfdpkndkcmbaa
/- THE CELL 'sum', in the pinned program and in every row, IS THE sha256 OF THE DUMP (.gsa) THAT YtfnfdpkndkcmbaaProg.lean LOADS. Nothing in Lean hashes anything: it is a label: what it is worth is what the hold of that sum in a sandbox is worth. -/
noncomputable def Try.pinned : Pinned := { name := "ytfnfdpkndkcmbaa", sum := "76ca94c18db0f55477c0419d4ad814b78a470357921f018334ac70e88fb13319", checked := Try.checked }
namespace Rows
def none {H : Type} : Left H := { results := [], args := [] }

/-- 'chancellaw9.AboveCircles': WHATEVER THE INPUT: true; the input reads as it did. -/
def aboveCirclesSpec : ChangeSpec := { name := "aboveCircles", fn := fun _ => fun
  | [d1, d2, d3] => { results := [.lit (.bool true)], args := [d1, d2, d3] }
  | _ => none }
def aboveCirclesRow : OpenClaim := { program := "ytfnfdpkndkcmbaa", sum := "76ca94c18db0f55477c0419d4ad814b78a470357921f018334ac70e88fb13319", func := "chancel/chancellaw9.AboveCircles", spec := "aboveCircles", inPlace := ["internal/reflectlite.ValueOf", "internal/reflectlite.Swapper", "(internal/reflectlite.Value).Len"], unfollowed := true, recurses := true, loops := true, plainKeys := false, apart := false }
def AboveCirclesSaid : Prop := aboveCirclesRow.holds Try.pinned (OpenSpec.ofChange aboveCirclesSpec)

/-- ITS FALSE NEIGHBOUR: 'it returns false'. Refute it at one input. -/
def aboveCirclesWrong : ChangeSpec := { name := "aboveCircles", fn := fun _ => fun
  | [d1, d2, d3] => { results := [.lit (.bool false)], args := [d1, d2, d3] }
  | _ => none }
def AboveCirclesWrongFalsely : Prop := aboveCirclesRow.holds Try.pinned (OpenSpec.ofChange aboveCirclesWrong)

/-- 'chancellaw9.AboveMore': WHATEVER THE INPUT: true; the input reads as it did. -/
def aboveMoreSpec : ChangeSpec := { name := "aboveMore", fn := fun _ => fun
  | [d1, d2, d3] => { results := [.lit (.bool true)], args := [d1, d2, d3] }
  | _ => none }
def aboveMoreRow : OpenClaim := { program := "ytfnfdpkndkcmbaa", sum := "76ca94c18db0f55477c0419d4ad814b78a470357921f018334ac70e88fb13319", func := "chancel/chancellaw9.AboveMore", spec := "aboveMore", inPlace := ["internal/reflectlite.ValueOf", "internal/reflectlite.Swapper", "(internal/reflectlite.Value).Len"], unfollowed := true, recurses := true, loops := true, plainKeys := false, apart := false }
def AboveMoreSaid : Prop := aboveMoreRow.holds Try.pinned (OpenSpec.ofChange aboveMoreSpec)

/-- ITS FALSE NEIGHBOUR: 'it returns false'. Refute it at one input. -/
def aboveMoreWrong : ChangeSpec := { name := "aboveMore", fn := fun _ => fun
  | [d1, d2, d3] => { results := [.lit (.bool false)], args := [d1, d2, d3] }
  | _ => none }
def AboveMoreWrongFalsely : Prop := aboveMoreRow.holds Try.pinned (OpenSpec.ofChange aboveMoreWrong)

/- THE SECOND FORM. 'bulk': how many values and letters a reading holds, each counted each time it is reached (what is shared counts as often as it is met; a slice's spare places count too). A statement '..UptoSaid' is the law's where the arguments, and the package variables that the reading takes, are together of bulk at most 1048576: NARROWER than '..Said'. Prove '..Said' where nothing that the law and all that it calls make is longer than what came in: it says more and counts as full. Else prove '..UptoSaid'. A law counts once. -/
mutual
def uptoBulk {H : Type} : DataW H → Nat
  | .lit (.string bytes) => bytes.length + 1
  | .lit _ => 1
  | .nil => 1
  | .ptr d => uptoBulk d + 1
  | .slice elems spare => uptoBulkAll elems + uptoBulkAll spare + 1
  | .agg parts => uptoBulkAll parts + 1
  | .iface _ d => uptoBulk d + 1
  | .map entries => uptoBulkEntries entries + 1
  | .held _ => 1
def uptoBulkAll {H : Type} : List (DataW H) → Nat
  | [] => 0
  | d :: r => uptoBulk d + uptoBulkAll r
def uptoBulkEntries {H : Type} : List (Lit × DataW H) → Nat
  | [] => 0
  | x :: r => uptoBulkEntry x + uptoBulkEntries r
def uptoBulkEntry {H : Type} : Lit × DataW H → Nat
  | (.string bytes, d) => bytes.length + uptoBulk d + 1
  | (_, d) => uptoBulk d + 1
 end
def uptoSmall : (H : Type) → List (DataW H) → Bool := fun _ ds => decide (uptoBulkAll ds ≤ 1048576)
def OpenSpec.upto (s : _root_.Go.ChangeSpec) : _root_.Go.OpenSpec := { _root_.Go.OpenSpec.ofChange s with cond := some uptoSmall }

/-- 'chancellaw9.AboveCircles', WHERE WHAT IT READS IS OF BULK AT MOST 1048576: true; the input reads as it did. -/
def aboveCirclesUptoRow : OpenClaim := { program := "ytfnfdpkndkcmbaa", sum := "76ca94c18db0f55477c0419d4ad814b78a470357921f018334ac70e88fb13319", func := "chancel/chancellaw9.AboveCircles", spec := "aboveCircles", inPlace := ["internal/reflectlite.ValueOf", "internal/reflectlite.Swapper", "(internal/reflectlite.Value).Len"], unfollowed := true, recurses := true, loops := true, plainKeys := false, apart := false, narrowed := true }
def AboveCirclesUptoSaid : Prop := aboveCirclesUptoRow.holds Try.pinned (OpenSpec.upto aboveCirclesSpec)

/-- 'chancellaw9.AboveMore', WHERE WHAT IT READS IS OF BULK AT MOST 1048576: true; the input reads as it did. -/
def aboveMoreUptoRow : OpenClaim := { program := "ytfnfdpkndkcmbaa", sum := "76ca94c18db0f55477c0419d4ad814b78a470357921f018334ac70e88fb13319", func := "chancel/chancellaw9.AboveMore", spec := "aboveMore", inPlace := ["internal/reflectlite.ValueOf", "internal/reflectlite.Swapper", "(internal/reflectlite.Value).Len"], unfollowed := true, recurses := true, loops := true, plainKeys := false, apart := false, narrowed := true }
def AboveMoreUptoSaid : Prop := aboveMoreUptoRow.holds Try.pinned (OpenSpec.upto aboveMoreSpec)

end Rows
end Go.Proofs.Ytfnfdpkndkcmbaa
