/-
  NARROWER THAN 'FOR EVERY INPUT', by the rows' own cells (each row's printed sentence says how): EntsGets: loops · EntsOrder: loops.
  DERIVED. THE GIVEN ROWS OF THIS SEAT. 3 by the template 'for every input the law returns true; each argument reads behind the call as it read before'; 0 by the template 'total and deterministic' (their statements: YtifkkhngibjalaaTotals.lean).
  GIVEN WITH THE SEED: the statements are not yours to turn. If you find one false, say at which input.
  Laid BY PROGRAM, IN A SANDBOX (cutbox-rows.mjs): the forced cells as the released guide's own fill.sh prints them over the translation 5871ad51731fb1f2… (all of the seat's roots in one cut). By AI agents, Wed Nov 11 2026. No macro, syntax, notation, axiom, sorry.
-/
import Derived.Test.YtifkkhngibjalaaChecked
import GoSem.Claim
import GoSem.ClaimJoined
import GoSem.ClaimMapViews
import Derived.JoinedTies
import Derived.KernelRfl
namespace Go.Proofs.Ytifkkhngibjalaa
/- THE CELL 'sum', in the pinned program and in every row, IS THE sha256 OF THE DUMP (.gsa) THAT YtifkkhngibjalaaProg.lean LOADS. Nothing in Lean hashes anything: it is a label: what it is worth is what the hold of that sum in a sandbox is worth. -/
noncomputable def Try.pinned : Pinned := { name := "ytifkkhngibjalaa", sum := "5871ad51731fb1f26c68cebf7339090593049168c793cac25090c28b07a8317d", checked := Try.checked }
namespace Rows
def none {H : Type} : Left H := { results := [], args := [] }

/-- 'chancellaw8.EntsGets': WHATEVER THE INPUT: true; the input reads as it did. -/
def entsGetsSpec : ChangeSpec := { name := "entsGets", fn := fun _ => fun
  | [d1, d2, d3] => { results := [.lit (.bool true)], args := [d1, d2, d3] }
  | _ => none }
def entsGetsRow : OpenClaim := { program := "ytifkkhngibjalaa", sum := "5871ad51731fb1f26c68cebf7339090593049168c793cac25090c28b07a8317d", func := "chancel/chancellaw8.EntsGets", spec := "entsGets", unfollowed := true, recurses := true, loops := true, apart := false }
def EntsGetsSaid : Prop := entsGetsRow.holds Try.pinned (OpenSpec.ofChange entsGetsSpec)

/-- ITS FALSE NEIGHBOUR: 'it returns false'. Refute it at one input. -/
def entsGetsWrong : ChangeSpec := { name := "entsGets", fn := fun _ => fun
  | [d1, d2, d3] => { results := [.lit (.bool false)], args := [d1, d2, d3] }
  | _ => none }
def EntsGetsWrongFalsely : Prop := entsGetsRow.holds Try.pinned (OpenSpec.ofChange entsGetsWrong)

/-- 'chancellaw8.EntsOrder': WHATEVER THE INPUT: true; the input reads as it did. -/
def entsOrderSpec : ChangeSpec := { name := "entsOrder", fn := fun _ => fun
  | [d] => { results := [.lit (.bool true)], args := [d] }
  | _ => none }
def entsOrderRow : OpenClaim := { program := "ytifkkhngibjalaa", sum := "5871ad51731fb1f26c68cebf7339090593049168c793cac25090c28b07a8317d", func := "chancel/chancellaw8.EntsOrder", spec := "entsOrder", unfollowed := true, recurses := true, loops := true, apart := false }
def EntsOrderSaid : Prop := entsOrderRow.holds Try.pinned (OpenSpec.ofChange entsOrderSpec)

/-- ITS FALSE NEIGHBOUR: 'it returns false'. Refute it at one input. -/
def entsOrderWrong : ChangeSpec := { name := "entsOrder", fn := fun _ => fun
  | [d] => { results := [.lit (.bool false)], args := [d] }
  | _ => none }
def EntsOrderWrongFalsely : Prop := entsOrderRow.holds Try.pinned (OpenSpec.ofChange entsOrderWrong)

/-- 'chancellaw8.EntsBounds': WHATEVER THE INPUT: true; the input reads as it did. -/
def entsBoundsSpec : ChangeSpec := { name := "entsBounds", fn := fun _ => fun
  | [d1, d2] => { results := [.lit (.bool true)], args := [d1, d2] }
  | _ => none }
def entsBoundsRow : OpenClaim := { program := "ytifkkhngibjalaa", sum := "5871ad51731fb1f26c68cebf7339090593049168c793cac25090c28b07a8317d", func := "chancel/chancellaw8.EntsBounds", spec := "entsBounds", unfollowed := true, recurses := true, apart := false }
def EntsBoundsSaid : Prop := entsBoundsRow.holds Try.pinned (OpenSpec.ofChange entsBoundsSpec)

/-- ITS FALSE NEIGHBOUR: 'it returns false'. Refute it at one input. -/
def entsBoundsWrong : ChangeSpec := { name := "entsBounds", fn := fun _ => fun
  | [d1, d2] => { results := [.lit (.bool false)], args := [d1, d2] }
  | _ => none }
def EntsBoundsWrongFalsely : Prop := entsBoundsRow.holds Try.pinned (OpenSpec.ofChange entsBoundsWrong)

/- THE SECOND FORM. 'bulk': how many values and letters a reading holds, each counted each time it is reached (what is shared counts as often as it is met; a slice's spare places count too). A statement '..UptoSaid' is the law's where the arguments, and the package variables that the reading takes, are together of bulk at most 1048576: NARROWER than '..Said'. Prove '..Said' where nothing that the law and all that it calls make is longer than what came in: it says more and counts as full. Else prove '..UptoSaid'. A law counts once. -/
mutual
def uptoBulk {H : Type} : DataW H → Nat
  | .lit (.string bytes) => bytes.length + 1
  | .lit _ => 1
  | .nil => 1
  | .ptr d => uptoBulk d + 1
  | .slice elems spare => uptoBulkAll elems + uptoBulkAll spare + 1
  | .agg parts => uptoBulkAll parts + 1
  | .iface _ d => uptoBulk d + 1
  | .map entries => uptoBulkEntries entries + 1
  | .held _ => 1
def uptoBulkAll {H : Type} : List (DataW H) → Nat
  | [] => 0
  | d :: r => uptoBulk d + uptoBulkAll r
def uptoBulkEntries {H : Type} : List (Lit × DataW H) → Nat
  | [] => 0
  | x :: r => uptoBulkEntry x + uptoBulkEntries r
def uptoBulkEntry {H : Type} : Lit × DataW H → Nat
  | (.string bytes, d) => bytes.length + uptoBulk d + 1
  | (_, d) => uptoBulk d + 1
 end
def uptoSmall : (H : Type) → List (DataW H) → Bool := fun _ ds => decide (uptoBulkAll ds ≤ 1048576)
def OpenSpec.upto (s : _root_.Go.ChangeSpec) : _root_.Go.OpenSpec := { _root_.Go.OpenSpec.ofChange s with cond := some uptoSmall }

/-- 'chancellaw8.EntsGets', WHERE WHAT IT READS IS OF BULK AT MOST 1048576: true; the input reads as it did. -/
def entsGetsUptoRow : OpenClaim := { program := "ytifkkhngibjalaa", sum := "5871ad51731fb1f26c68cebf7339090593049168c793cac25090c28b07a8317d", func := "chancel/chancellaw8.EntsGets", spec := "entsGets", unfollowed := true, recurses := true, loops := true, apart := false, narrowed := true }
def EntsGetsUptoSaid : Prop := entsGetsUptoRow.holds Try.pinned (OpenSpec.upto entsGetsSpec)

/-- 'chancellaw8.EntsOrder', WHERE WHAT IT READS IS OF BULK AT MOST 1048576: true; the input reads as it did. -/
def entsOrderUptoRow : OpenClaim := { program := "ytifkkhngibjalaa", sum := "5871ad51731fb1f26c68cebf7339090593049168c793cac25090c28b07a8317d", func := "chancel/chancellaw8.EntsOrder", spec := "entsOrder", unfollowed := true, recurses := true, loops := true, apart := false, narrowed := true }
def EntsOrderUptoSaid : Prop := entsOrderUptoRow.holds Try.pinned (OpenSpec.upto entsOrderSpec)

/-- 'chancellaw8.EntsBounds', WHERE WHAT IT READS IS OF BULK AT MOST 1048576: true; the input reads as it did. -/
def entsBoundsUptoRow : OpenClaim := { program := "ytifkkhngibjalaa", sum := "5871ad51731fb1f26c68cebf7339090593049168c793cac25090c28b07a8317d", func := "chancel/chancellaw8.EntsBounds", spec := "entsBounds", unfollowed := true, recurses := true, apart := false, narrowed := true }
def EntsBoundsUptoSaid : Prop := entsBoundsUptoRow.holds Try.pinned (OpenSpec.upto entsBoundsSpec)

end Rows
end Go.Proofs.Ytifkkhngibjalaa
