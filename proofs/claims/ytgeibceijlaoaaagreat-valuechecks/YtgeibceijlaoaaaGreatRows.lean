/-
  NARROWER THAN 'FOR EVERY INPUT', by the rows' own cells (each row's printed sentence says how): ValueChecks: loops · ValueAsks: loops · ValueSets: loops.
  DERIVED. THE GIVEN ROWS OF THIS SEAT. 4 by the template 'for every input the law returns true; each argument reads behind the call as it read before'; 0 by the template 'total and deterministic' (their statements: YtgeibceijlaoaaaGreatTotals.lean).
  GIVEN WITH THE SEED: the statements are not yours to turn. If you find one false, say at which input.
  Laid BY PROGRAM, IN A SANDBOX (cutbox-rows.mjs): the forced cells as the released guide's own fill.sh prints them over the translation 5a7c9a2a6dc750c3… (all of the seat's roots in one cut). By AI agents, Wed Nov 11 2026. No macro, syntax, notation, axiom, sorry.
-/
import Derived.Test.YtgeibceijlaoaaaGreatChecked
import GoSem.Claim
import GoSem.ClaimJoined
import GoSem.ClaimMapViews
import Derived.JoinedTies
import Derived.KernelRfl
namespace Go.Proofs.YtgeibceijlaoaaaGreat
/- THE CELL 'sum', in the pinned program and in every row, IS THE sha256 OF THE DUMP (.gsa) THAT YtgeibceijlaoaaaGreatProg.lean LOADS. Nothing in Lean hashes anything: it is a label: what it is worth is what the hold of that sum in a sandbox is worth. -/
noncomputable def Tryz.pinned : Pinned := { name := "ytgeibceijlaoaaagreat", sum := "5a7c9a2a6dc750c316d802526c9693547031646b9bffbcf5186e65cc493b3322", checked := Tryz.checked }
namespace Rows
def none {H : Type} : Left H := { results := [], args := [] }

/-- 'chancellaw3.ValueChecks': WHATEVER THE INPUT: true; the input reads as it did. -/
def valueChecksSpec : ChangeSpec := { name := "valueChecks", fn := fun _ => fun
  | [d1, d2, d3] => { results := [.lit (.bool true)], args := [d1, d2, d3] }
  | _ => none }
def valueChecksRow : OpenClaim := { program := "ytgeibceijlaoaaagreat", sum := "5a7c9a2a6dc750c316d802526c9693547031646b9bffbcf5186e65cc493b3322", func := "chancel/chancellaw3.ValueChecks", spec := "valueChecks", inPlace := ["slices.overlaps[chancel/api.Value]"], unfollowed := true, recurses := true, loops := true, apart := false }
def ValueChecksSaid : Prop := valueChecksRow.holds Tryz.pinned (OpenSpec.ofChange valueChecksSpec)

/-- ITS FALSE NEIGHBOUR: 'it returns false'. Refute it at one input. -/
def valueChecksWrong : ChangeSpec := { name := "valueChecks", fn := fun _ => fun
  | [d1, d2, d3] => { results := [.lit (.bool false)], args := [d1, d2, d3] }
  | _ => none }
def ValueChecksWrongFalsely : Prop := valueChecksRow.holds Tryz.pinned (OpenSpec.ofChange valueChecksWrong)

/-- 'chancellaw3.ValueAsks': WHATEVER THE INPUT: true; the input reads as it did. -/
def valueAsksSpec : ChangeSpec := { name := "valueAsks", fn := fun _ => fun
  | [d1, d2] => { results := [.lit (.bool true)], args := [d1, d2] }
  | _ => none }
def valueAsksRow : OpenClaim := { program := "ytgeibceijlaoaaagreat", sum := "5a7c9a2a6dc750c316d802526c9693547031646b9bffbcf5186e65cc493b3322", func := "chancel/chancellaw3.ValueAsks", spec := "valueAsks", inPlace := ["slices.overlaps[chancel/api.Value]"], unfollowed := true, recurses := true, loops := true, apart := false }
def ValueAsksSaid : Prop := valueAsksRow.holds Tryz.pinned (OpenSpec.ofChange valueAsksSpec)

/-- ITS FALSE NEIGHBOUR: 'it returns false'. Refute it at one input. -/
def valueAsksWrong : ChangeSpec := { name := "valueAsks", fn := fun _ => fun
  | [d1, d2] => { results := [.lit (.bool false)], args := [d1, d2] }
  | _ => none }
def ValueAsksWrongFalsely : Prop := valueAsksRow.holds Tryz.pinned (OpenSpec.ofChange valueAsksWrong)

/-- 'chancellaw3.ValueSets': WHATEVER THE INPUT: true; the input reads as it did. -/
def valueSetsSpec : ChangeSpec := { name := "valueSets", fn := fun _ => fun
  | [d1, d2, d3] => { results := [.lit (.bool true)], args := [d1, d2, d3] }
  | _ => none }
def valueSetsRow : OpenClaim := { program := "ytgeibceijlaoaaagreat", sum := "5a7c9a2a6dc750c316d802526c9693547031646b9bffbcf5186e65cc493b3322", func := "chancel/chancellaw3.ValueSets", spec := "valueSets", inPlace := ["slices.overlaps[chancel/api.Value]"], unfollowed := true, recurses := true, loops := true, apart := false }
def ValueSetsSaid : Prop := valueSetsRow.holds Tryz.pinned (OpenSpec.ofChange valueSetsSpec)

/-- ITS FALSE NEIGHBOUR: 'it returns false'. Refute it at one input. -/
def valueSetsWrong : ChangeSpec := { name := "valueSets", fn := fun _ => fun
  | [d1, d2, d3] => { results := [.lit (.bool false)], args := [d1, d2, d3] }
  | _ => none }
def ValueSetsWrongFalsely : Prop := valueSetsRow.holds Tryz.pinned (OpenSpec.ofChange valueSetsWrong)

/-- 'chancellaw3.ValueLong': WHATEVER THE INPUT: true; the input reads as it did. -/
def valueLongSpec : ChangeSpec := { name := "valueLong", fn := fun _ => fun
  | [d1, d2, d3] => { results := [.lit (.bool true)], args := [d1, d2, d3] }
  | _ => none }
def valueLongRow : OpenClaim := { program := "ytgeibceijlaoaaagreat", sum := "5a7c9a2a6dc750c316d802526c9693547031646b9bffbcf5186e65cc493b3322", func := "chancel/chancellaw3.ValueLong", spec := "valueLong", inPlace := ["slices.overlaps[chancel/api.Value]"], unfollowed := true, recurses := true, apart := false }
def ValueLongSaid : Prop := valueLongRow.holds Tryz.pinned (OpenSpec.ofChange valueLongSpec)

/-- ITS FALSE NEIGHBOUR: 'it returns false'. Refute it at one input. -/
def valueLongWrong : ChangeSpec := { name := "valueLong", fn := fun _ => fun
  | [d1, d2, d3] => { results := [.lit (.bool false)], args := [d1, d2, d3] }
  | _ => none }
def ValueLongWrongFalsely : Prop := valueLongRow.holds Tryz.pinned (OpenSpec.ofChange valueLongWrong)

/- THE SECOND FORM. 'bulk': how many values and letters a reading holds, each counted each time it is reached (what is shared counts as often as it is met; a slice's spare places count too). A statement '..UptoSaid' is the law's where the arguments, and the package variables that the reading takes, are together of bulk at most 1048576: NARROWER than '..Said'. Prove '..Said' where nothing that the law and all that it calls make is longer than what came in: it says more and counts as full. Else prove '..UptoSaid'. A law counts once. -/
mutual
def uptoBulk {H : Type} : DataW H → Nat
  | .lit (.string bytes) => bytes.length + 1
  | .lit _ => 1
  | .nil => 1
  | .ptr d => uptoBulk d + 1
  | .slice elems spare => uptoBulkAll elems + uptoBulkAll spare + 1
  | .agg parts => uptoBulkAll parts + 1
  | .iface _ d => uptoBulk d + 1
  | .map entries => uptoBulkEntries entries + 1
  | .held _ => 1
def uptoBulkAll {H : Type} : List (DataW H) → Nat
  | [] => 0
  | d :: r => uptoBulk d + uptoBulkAll r
def uptoBulkEntries {H : Type} : List (Lit × DataW H) → Nat
  | [] => 0
  | x :: r => uptoBulkEntry x + uptoBulkEntries r
def uptoBulkEntry {H : Type} : Lit × DataW H → Nat
  | (.string bytes, d) => bytes.length + uptoBulk d + 1
  | (_, d) => uptoBulk d + 1
 end
def uptoSmall : (H : Type) → List (DataW H) → Bool := fun _ ds => decide (uptoBulkAll ds ≤ 1048576)
def OpenSpec.upto (s : _root_.Go.ChangeSpec) : _root_.Go.OpenSpec := { _root_.Go.OpenSpec.ofChange s with cond := some uptoSmall }

/-- 'chancellaw3.ValueChecks', WHERE WHAT IT READS IS OF BULK AT MOST 1048576: true; the input reads as it did. -/
def valueChecksUptoRow : OpenClaim := { program := "ytgeibceijlaoaaagreat", sum := "5a7c9a2a6dc750c316d802526c9693547031646b9bffbcf5186e65cc493b3322", func := "chancel/chancellaw3.ValueChecks", spec := "valueChecks", inPlace := ["slices.overlaps[chancel/api.Value]"], unfollowed := true, recurses := true, loops := true, apart := false, narrowed := true }
def ValueChecksUptoSaid : Prop := valueChecksUptoRow.holds Tryz.pinned (OpenSpec.upto valueChecksSpec)

/-- 'chancellaw3.ValueAsks', WHERE WHAT IT READS IS OF BULK AT MOST 1048576: true; the input reads as it did. -/
def valueAsksUptoRow : OpenClaim := { program := "ytgeibceijlaoaaagreat", sum := "5a7c9a2a6dc750c316d802526c9693547031646b9bffbcf5186e65cc493b3322", func := "chancel/chancellaw3.ValueAsks", spec := "valueAsks", inPlace := ["slices.overlaps[chancel/api.Value]"], unfollowed := true, recurses := true, loops := true, apart := false, narrowed := true }
def ValueAsksUptoSaid : Prop := valueAsksUptoRow.holds Tryz.pinned (OpenSpec.upto valueAsksSpec)

/-- 'chancellaw3.ValueSets', WHERE WHAT IT READS IS OF BULK AT MOST 1048576: true; the input reads as it did. -/
def valueSetsUptoRow : OpenClaim := { program := "ytgeibceijlaoaaagreat", sum := "5a7c9a2a6dc750c316d802526c9693547031646b9bffbcf5186e65cc493b3322", func := "chancel/chancellaw3.ValueSets", spec := "valueSets", inPlace := ["slices.overlaps[chancel/api.Value]"], unfollowed := true, recurses := true, loops := true, apart := false, narrowed := true }
def ValueSetsUptoSaid : Prop := valueSetsUptoRow.holds Tryz.pinned (OpenSpec.upto valueSetsSpec)

/-- 'chancellaw3.ValueLong', WHERE WHAT IT READS IS OF BULK AT MOST 1048576: true; the input reads as it did. -/
def valueLongUptoRow : OpenClaim := { program := "ytgeibceijlaoaaagreat", sum := "5a7c9a2a6dc750c316d802526c9693547031646b9bffbcf5186e65cc493b3322", func := "chancel/chancellaw3.ValueLong", spec := "valueLong", inPlace := ["slices.overlaps[chancel/api.Value]"], unfollowed := true, recurses := true, apart := false, narrowed := true }
def ValueLongUptoSaid : Prop := valueLongUptoRow.holds Tryz.pinned (OpenSpec.upto valueLongSpec)

end Rows
end Go.Proofs.YtgeibceijlaoaaaGreat
