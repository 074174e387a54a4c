/-
  NARROWER THAN 'FOR EVERY INPUT', by the rows' own cells (each row's printed sentence says how): ParseDeep: laid · ParseBrackets: laid · ParseWords: laid.
  DERIVED. THE GIVEN ROWS OF THIS SEAT. 3 by the template 'for every input the law returns true; each argument reads behind the call as it read before'; 0 by the template 'total and deterministic' (their statements: YtlakgnnjokienaaGreatDoorTotals.lean).
  GIVEN WITH THE SEED: the statements are not yours to turn. If you find one false, say at which input.
  Laid BY PROGRAM, IN A SANDBOX (cutbox-rows.mjs): the forced cells as the released guide's own fill.sh prints them over the translation 256e8f38156ce63a… (all of the seat's roots in one cut). By AI agents, Wed Nov 11 2026. No macro, syntax, notation, axiom, sorry.
-/
import Derived.Test.YtlakgnnjokienaaGreatDoorChecked
import GoSem.Claim
import GoSem.ClaimJoined
import GoSem.ClaimMapViews
import Derived.JoinedTies
import Derived.KernelRfl
namespace Go.Proofs.YtlakgnnjokienaaGreatDoor
/- THE CELL 'sum', in the pinned program and in every row, IS THE sha256 OF THE DUMP (.gsa) THAT YtlakgnnjokienaaGreatDoorProg.lean LOADS. Nothing in Lean hashes anything: it is a label: what it is worth is what the hold of that sum in a sandbox is worth. -/
noncomputable def Tryz.pinned : Pinned := { name := "ytlakgnnjokienaagreatdoor", sum := "256e8f38156ce63adda80f32b63cd0f100402b97fbd9f4766d01b1eaa6dcf675", checked := Tryz.checked }
namespace Rows
def none {H : Type} : Left H := { results := [], args := [] }

/- WHAT THE LISTED PACKAGE-LEVEL VARIABLES READ AS WHEN THE CALL BEGINS. Each datum BY PROGRAM (the guide's laid-datum.mjs) off the statement by which the dump's own 'gosem.cut.vars' lays the variable. In a bare row this is a premise. The card (YtlakgnnjokienaaGreatDoorCards.lean) ties it to the program's text. -/
def laid_chancel_lex_signs {H : Type} : DataW H := .agg [.lit (.string [58, 58]), .lit (.string [61, 61]), .lit (.string [33, 61]), .lit (.string [60, 61]), .lit (.string [62, 61]), .lit (.string [38, 38]), .lit (.string [124, 124]), .lit (.string [45, 62]), .lit (.string [40]), .lit (.string [41]), .lit (.string [123]), .lit (.string [125]), .lit (.string [91]), .lit (.string [93]), .lit (.string [44]), .lit (.string [59]), .lit (.string [58]), .lit (.string [46]), .lit (.string [60]), .lit (.string [62]), .lit (.string [33]), .lit (.string [43]), .lit (.string [45]), .lit (.string [42])]
def laid_chancel_parse_comparisons {H : Type} : DataW H := .agg [.agg [.lit (.int .i64 4), .lit (.string [61, 61]), .lit (.int .i64 20)], .agg [.lit (.int .i64 4), .lit (.string [33, 61]), .lit (.int .i64 21)], .agg [.lit (.int .i64 4), .lit (.string [60]), .lit (.int .i64 16)], .agg [.lit (.int .i64 4), .lit (.string [60, 61]), .lit (.int .i64 17)], .agg [.lit (.int .i64 4), .lit (.string [62]), .lit (.int .i64 18)], .agg [.lit (.int .i64 4), .lit (.string [62, 61]), .lit (.int .i64 19)], .agg [.lit (.int .i64 1), .lit (.string [105, 110]), .lit (.int .i64 22)]]

/-- 'chancellaw5.ParseDeep': WHATEVER THE INPUT: true; the input reads as it did. -/
def parseDeepSpec : ChangeSpec := { name := "parseDeep", fn := fun _ => fun
  | [d1, d2, d3] => { results := [.lit (.bool true)], args := [d1, d2, d3] }
  | _ => none }
def parseDeepRow : OpenClaim := { program := "ytlakgnnjokienaagreatdoor", sum := "256e8f38156ce63adda80f32b63cd0f100402b97fbd9f4766d01b1eaa6dcf675", func := "chancel/chancellaw5.ParseDeep", spec := "parseDeep", inPlace := ["internal/abi.NoEscape"], unfollowed := true, recurses := true, named := ["chancel/lex.signs", "chancel/parse.comparisons"], apart := false, laid := [("chancel/lex.signs", laid_chancel_lex_signs), ("chancel/parse.comparisons", laid_chancel_parse_comparisons)] }
def ParseDeepSaid : Prop := parseDeepRow.holds Tryz.pinned (OpenSpec.ofChange parseDeepSpec)

/-- ITS FALSE NEIGHBOUR: 'it returns false'. Refute it at one input. -/
def parseDeepWrong : ChangeSpec := { name := "parseDeep", fn := fun _ => fun
  | [d1, d2, d3] => { results := [.lit (.bool false)], args := [d1, d2, d3] }
  | _ => none }
def ParseDeepWrongFalsely : Prop := parseDeepRow.holds Tryz.pinned (OpenSpec.ofChange parseDeepWrong)

/-- 'chancellaw5.ParseBrackets': WHATEVER THE INPUT: true; the input reads as it did. -/
def parseBracketsSpec : ChangeSpec := { name := "parseBrackets", fn := fun _ => fun
  | [d1, d2] => { results := [.lit (.bool true)], args := [d1, d2] }
  | _ => none }
def parseBracketsRow : OpenClaim := { program := "ytlakgnnjokienaagreatdoor", sum := "256e8f38156ce63adda80f32b63cd0f100402b97fbd9f4766d01b1eaa6dcf675", func := "chancel/chancellaw5.ParseBrackets", spec := "parseBrackets", inPlace := ["internal/abi.NoEscape"], unfollowed := true, recurses := true, named := ["chancel/lex.signs", "chancel/parse.comparisons"], apart := false, laid := [("chancel/lex.signs", laid_chancel_lex_signs), ("chancel/parse.comparisons", laid_chancel_parse_comparisons)] }
def ParseBracketsSaid : Prop := parseBracketsRow.holds Tryz.pinned (OpenSpec.ofChange parseBracketsSpec)

/-- ITS FALSE NEIGHBOUR: 'it returns false'. Refute it at one input. -/
def parseBracketsWrong : ChangeSpec := { name := "parseBrackets", fn := fun _ => fun
  | [d1, d2] => { results := [.lit (.bool false)], args := [d1, d2] }
  | _ => none }
def ParseBracketsWrongFalsely : Prop := parseBracketsRow.holds Tryz.pinned (OpenSpec.ofChange parseBracketsWrong)

/-- 'chancellaw5.ParseWords': WHATEVER THE INPUT: true; the input reads as it did. -/
def parseWordsSpec : ChangeSpec := { name := "parseWords", fn := fun _ => fun
  | [d] => { results := [.lit (.bool true)], args := [d] }
  | _ => none }
def parseWordsRow : OpenClaim := { program := "ytlakgnnjokienaagreatdoor", sum := "256e8f38156ce63adda80f32b63cd0f100402b97fbd9f4766d01b1eaa6dcf675", func := "chancel/chancellaw5.ParseWords", spec := "parseWords", inPlace := ["internal/abi.NoEscape"], unfollowed := true, recurses := true, named := ["chancel/lex.signs", "chancel/parse.comparisons"], apart := false, laid := [("chancel/lex.signs", laid_chancel_lex_signs), ("chancel/parse.comparisons", laid_chancel_parse_comparisons)] }
def ParseWordsSaid : Prop := parseWordsRow.holds Tryz.pinned (OpenSpec.ofChange parseWordsSpec)

/-- ITS FALSE NEIGHBOUR: 'it returns false'. Refute it at one input. -/
def parseWordsWrong : ChangeSpec := { name := "parseWords", fn := fun _ => fun
  | [d] => { results := [.lit (.bool false)], args := [d] }
  | _ => none }
def ParseWordsWrongFalsely : Prop := parseWordsRow.holds Tryz.pinned (OpenSpec.ofChange parseWordsWrong)

/- THE SECOND FORM. 'bulk': how many values and letters a reading holds, each counted each time it is reached (what is shared counts as often as it is met; a slice's spare places count too). A statement '..UptoSaid' is the law's where the arguments, and the package variables that the reading takes, are together of bulk at most 1048576: NARROWER than '..Said'. Prove '..Said' where nothing that the law and all that it calls make is longer than what came in: it says more and counts as full. Else prove '..UptoSaid'. A law counts once. -/
mutual
def uptoBulk {H : Type} : DataW H → Nat
  | .lit (.string bytes) => bytes.length + 1
  | .lit _ => 1
  | .nil => 1
  | .ptr d => uptoBulk d + 1
  | .slice elems spare => uptoBulkAll elems + uptoBulkAll spare + 1
  | .agg parts => uptoBulkAll parts + 1
  | .iface _ d => uptoBulk d + 1
  | .map entries => uptoBulkEntries entries + 1
  | .held _ => 1
def uptoBulkAll {H : Type} : List (DataW H) → Nat
  | [] => 0
  | d :: r => uptoBulk d + uptoBulkAll r
def uptoBulkEntries {H : Type} : List (Lit × DataW H) → Nat
  | [] => 0
  | x :: r => uptoBulkEntry x + uptoBulkEntries r
def uptoBulkEntry {H : Type} : Lit × DataW H → Nat
  | (.string bytes, d) => bytes.length + uptoBulk d + 1
  | (_, d) => uptoBulk d + 1
 end
def uptoSmall : (H : Type) → List (DataW H) → Bool := fun _ ds => decide (uptoBulkAll ds ≤ 1048576)
def OpenSpec.upto (s : _root_.Go.ChangeSpec) : _root_.Go.OpenSpec := { _root_.Go.OpenSpec.ofChange s with cond := some uptoSmall }

/-- 'chancellaw5.ParseDeep', WHERE WHAT IT READS IS OF BULK AT MOST 1048576: true; the input reads as it did. -/
def parseDeepUptoRow : OpenClaim := { program := "ytlakgnnjokienaagreatdoor", sum := "256e8f38156ce63adda80f32b63cd0f100402b97fbd9f4766d01b1eaa6dcf675", func := "chancel/chancellaw5.ParseDeep", spec := "parseDeep", inPlace := ["internal/abi.NoEscape"], unfollowed := true, recurses := true, named := ["chancel/lex.signs", "chancel/parse.comparisons"], apart := false, laid := [("chancel/lex.signs", laid_chancel_lex_signs), ("chancel/parse.comparisons", laid_chancel_parse_comparisons)], narrowed := true }
def ParseDeepUptoSaid : Prop := parseDeepUptoRow.holds Tryz.pinned (OpenSpec.upto parseDeepSpec)

/-- 'chancellaw5.ParseBrackets', WHERE WHAT IT READS IS OF BULK AT MOST 1048576: true; the input reads as it did. -/
def parseBracketsUptoRow : OpenClaim := { program := "ytlakgnnjokienaagreatdoor", sum := "256e8f38156ce63adda80f32b63cd0f100402b97fbd9f4766d01b1eaa6dcf675", func := "chancel/chancellaw5.ParseBrackets", spec := "parseBrackets", inPlace := ["internal/abi.NoEscape"], unfollowed := true, recurses := true, named := ["chancel/lex.signs", "chancel/parse.comparisons"], apart := false, laid := [("chancel/lex.signs", laid_chancel_lex_signs), ("chancel/parse.comparisons", laid_chancel_parse_comparisons)], narrowed := true }
def ParseBracketsUptoSaid : Prop := parseBracketsUptoRow.holds Tryz.pinned (OpenSpec.upto parseBracketsSpec)

/-- 'chancellaw5.ParseWords', WHERE WHAT IT READS IS OF BULK AT MOST 1048576: true; the input reads as it did. -/
def parseWordsUptoRow : OpenClaim := { program := "ytlakgnnjokienaagreatdoor", sum := "256e8f38156ce63adda80f32b63cd0f100402b97fbd9f4766d01b1eaa6dcf675", func := "chancel/chancellaw5.ParseWords", spec := "parseWords", inPlace := ["internal/abi.NoEscape"], unfollowed := true, recurses := true, named := ["chancel/lex.signs", "chancel/parse.comparisons"], apart := false, laid := [("chancel/lex.signs", laid_chancel_lex_signs), ("chancel/parse.comparisons", laid_chancel_parse_comparisons)], narrowed := true }
def ParseWordsUptoSaid : Prop := parseWordsUptoRow.holds Tryz.pinned (OpenSpec.upto parseWordsSpec)

end Rows
end Go.Proofs.YtlakgnnjokienaaGreatDoor
