/-
  NARROWER THAN 'FOR EVERY INPUT', by the rows' own cells (each row's printed sentence says how): LexTokens: laid · LexBlanks: laid · LexBounds: laid · LexNumbers: laid · LexNames: laid · LexStrings: laid.
  DERIVED. THE GIVEN ROWS OF THIS SEAT. 6 by the template 'for every input the law returns true; each argument reads behind the call as it read before'; 0 by the template 'total and deterministic' (their statements: YtfkbbenjmhngcaaDoorTotals.lean).
  GIVEN WITH THE SEED: the statements are not yours to turn. If you find one false, say at which input.
  Laid BY PROGRAM, IN A SANDBOX (cutbox-rows.mjs): the forced cells as the released guide's own fill.sh prints them over the translation e8a76a72c73ef2e9… (all of the seat's roots in one cut). By AI agents, Wed Nov 11 2026. No macro, syntax, notation, axiom, sorry.
-/
import Derived.Test.YtfkbbenjmhngcaaDoorChecked
import GoSem.Claim
import GoSem.ClaimJoined
import GoSem.ClaimMapViews
import Derived.JoinedTies
import Derived.KernelRfl
namespace Go.Proofs.YtfkbbenjmhngcaaDoor
/- THE CELL 'sum', in the pinned program and in every row, IS THE sha256 OF THE DUMP (.gsa) THAT YtfkbbenjmhngcaaDoorProg.lean LOADS. Nothing in Lean hashes anything: it is a label: what it is worth is what the hold of that sum in a sandbox is worth. -/
noncomputable def Tryd.pinned : Pinned := { name := "ytfkbbenjmhngcaadoor", sum := "e8a76a72c73ef2e9c2946cf1419b8409bc98253acc4db90dd1e3abc093b6b28e", checked := Tryd.checked }
namespace Rows
def none {H : Type} : Left H := { results := [], args := [] }

/- WHAT THE LISTED PACKAGE-LEVEL VARIABLES READ AS WHEN THE CALL BEGINS. Each datum BY PROGRAM (the guide's laid-datum.mjs) off the statement by which the dump's own 'gosem.cut.vars' lays the variable. In a bare row this is a premise. The card (YtfkbbenjmhngcaaDoorCards.lean) ties it to the program's text. -/
def laid_chancel_lex_signs {H : Type} : DataW H := .agg [.lit (.string [58, 58]), .lit (.string [61, 61]), .lit (.string [33, 61]), .lit (.string [60, 61]), .lit (.string [62, 61]), .lit (.string [38, 38]), .lit (.string [124, 124]), .lit (.string [45, 62]), .lit (.string [40]), .lit (.string [41]), .lit (.string [123]), .lit (.string [125]), .lit (.string [91]), .lit (.string [93]), .lit (.string [44]), .lit (.string [59]), .lit (.string [58]), .lit (.string [46]), .lit (.string [60]), .lit (.string [62]), .lit (.string [33]), .lit (.string [43]), .lit (.string [45]), .lit (.string [42])]

/-- 'chancellaw4.LexTokens': WHATEVER THE INPUT: true; the input reads as it did. -/
def lexTokensSpec : ChangeSpec := { name := "lexTokens", fn := fun _ => fun
  | [d1, d2, d3, d4] => { results := [.lit (.bool true)], args := [d1, d2, d3, d4] }
  | _ => none }
def lexTokensRow : OpenClaim := { program := "ytfkbbenjmhngcaadoor", sum := "e8a76a72c73ef2e9c2946cf1419b8409bc98253acc4db90dd1e3abc093b6b28e", func := "chancel/chancellaw4.LexTokens", spec := "lexTokens", inPlace := ["internal/abi.NoEscape"], unfollowed := true, recurses := true, named := ["chancel/lex.signs"], apart := false, laid := [("chancel/lex.signs", laid_chancel_lex_signs)] }
def LexTokensSaid : Prop := lexTokensRow.holds Tryd.pinned (OpenSpec.ofChange lexTokensSpec)

/-- ITS FALSE NEIGHBOUR: 'it returns false'. Refute it at one input. -/
def lexTokensWrong : ChangeSpec := { name := "lexTokens", fn := fun _ => fun
  | [d1, d2, d3, d4] => { results := [.lit (.bool false)], args := [d1, d2, d3, d4] }
  | _ => none }
def LexTokensWrongFalsely : Prop := lexTokensRow.holds Tryd.pinned (OpenSpec.ofChange lexTokensWrong)

/-- 'chancellaw4.LexBlanks': WHATEVER THE INPUT: true; the input reads as it did. -/
def lexBlanksSpec : ChangeSpec := { name := "lexBlanks", fn := fun _ => fun
  | [d1, d2, d3] => { results := [.lit (.bool true)], args := [d1, d2, d3] }
  | _ => none }
def lexBlanksRow : OpenClaim := { program := "ytfkbbenjmhngcaadoor", sum := "e8a76a72c73ef2e9c2946cf1419b8409bc98253acc4db90dd1e3abc093b6b28e", func := "chancel/chancellaw4.LexBlanks", spec := "lexBlanks", inPlace := ["internal/abi.NoEscape"], unfollowed := true, recurses := true, named := ["chancel/lex.signs"], apart := false, laid := [("chancel/lex.signs", laid_chancel_lex_signs)] }
def LexBlanksSaid : Prop := lexBlanksRow.holds Tryd.pinned (OpenSpec.ofChange lexBlanksSpec)

/-- ITS FALSE NEIGHBOUR: 'it returns false'. Refute it at one input. -/
def lexBlanksWrong : ChangeSpec := { name := "lexBlanks", fn := fun _ => fun
  | [d1, d2, d3] => { results := [.lit (.bool false)], args := [d1, d2, d3] }
  | _ => none }
def LexBlanksWrongFalsely : Prop := lexBlanksRow.holds Tryd.pinned (OpenSpec.ofChange lexBlanksWrong)

/-- 'chancellaw4.LexBounds': WHATEVER THE INPUT: true; the input reads as it did. -/
def lexBoundsSpec : ChangeSpec := { name := "lexBounds", fn := fun _ => fun
  | [d1, d2] => { results := [.lit (.bool true)], args := [d1, d2] }
  | _ => none }
def lexBoundsRow : OpenClaim := { program := "ytfkbbenjmhngcaadoor", sum := "e8a76a72c73ef2e9c2946cf1419b8409bc98253acc4db90dd1e3abc093b6b28e", func := "chancel/chancellaw4.LexBounds", spec := "lexBounds", inPlace := ["internal/abi.NoEscape"], unfollowed := true, recurses := true, named := ["chancel/lex.signs"], apart := false, laid := [("chancel/lex.signs", laid_chancel_lex_signs)] }
def LexBoundsSaid : Prop := lexBoundsRow.holds Tryd.pinned (OpenSpec.ofChange lexBoundsSpec)

/-- ITS FALSE NEIGHBOUR: 'it returns false'. Refute it at one input. -/
def lexBoundsWrong : ChangeSpec := { name := "lexBounds", fn := fun _ => fun
  | [d1, d2] => { results := [.lit (.bool false)], args := [d1, d2] }
  | _ => none }
def LexBoundsWrongFalsely : Prop := lexBoundsRow.holds Tryd.pinned (OpenSpec.ofChange lexBoundsWrong)

/-- 'chancellaw4.LexNumbers': WHATEVER THE INPUT: true; the input reads as it did. -/
def lexNumbersSpec : ChangeSpec := { name := "lexNumbers", fn := fun _ => fun
  | [d1, d2] => { results := [.lit (.bool true)], args := [d1, d2] }
  | _ => none }
def lexNumbersRow : OpenClaim := { program := "ytfkbbenjmhngcaadoor", sum := "e8a76a72c73ef2e9c2946cf1419b8409bc98253acc4db90dd1e3abc093b6b28e", func := "chancel/chancellaw4.LexNumbers", spec := "lexNumbers", inPlace := ["internal/abi.NoEscape"], unfollowed := true, recurses := true, named := ["chancel/lex.signs"], apart := false, laid := [("chancel/lex.signs", laid_chancel_lex_signs)] }
def LexNumbersSaid : Prop := lexNumbersRow.holds Tryd.pinned (OpenSpec.ofChange lexNumbersSpec)

/-- ITS FALSE NEIGHBOUR: 'it returns false'. Refute it at one input. -/
def lexNumbersWrong : ChangeSpec := { name := "lexNumbers", fn := fun _ => fun
  | [d1, d2] => { results := [.lit (.bool false)], args := [d1, d2] }
  | _ => none }
def LexNumbersWrongFalsely : Prop := lexNumbersRow.holds Tryd.pinned (OpenSpec.ofChange lexNumbersWrong)

/-- 'chancellaw4.LexNames': WHATEVER THE INPUT: true; the input reads as it did. -/
def lexNamesSpec : ChangeSpec := { name := "lexNames", fn := fun _ => fun
  | [d1, d2] => { results := [.lit (.bool true)], args := [d1, d2] }
  | _ => none }
def lexNamesRow : OpenClaim := { program := "ytfkbbenjmhngcaadoor", sum := "e8a76a72c73ef2e9c2946cf1419b8409bc98253acc4db90dd1e3abc093b6b28e", func := "chancel/chancellaw4.LexNames", spec := "lexNames", inPlace := ["internal/abi.NoEscape"], unfollowed := true, recurses := true, named := ["chancel/lex.signs"], apart := false, laid := [("chancel/lex.signs", laid_chancel_lex_signs)] }
def LexNamesSaid : Prop := lexNamesRow.holds Tryd.pinned (OpenSpec.ofChange lexNamesSpec)

/-- ITS FALSE NEIGHBOUR: 'it returns false'. Refute it at one input. -/
def lexNamesWrong : ChangeSpec := { name := "lexNames", fn := fun _ => fun
  | [d1, d2] => { results := [.lit (.bool false)], args := [d1, d2] }
  | _ => none }
def LexNamesWrongFalsely : Prop := lexNamesRow.holds Tryd.pinned (OpenSpec.ofChange lexNamesWrong)

/-- 'chancellaw4.LexStrings': WHATEVER THE INPUT: true; the input reads as it did. -/
def lexStringsSpec : ChangeSpec := { name := "lexStrings", fn := fun _ => fun
  | [d1, d2] => { results := [.lit (.bool true)], args := [d1, d2] }
  | _ => none }
def lexStringsRow : OpenClaim := { program := "ytfkbbenjmhngcaadoor", sum := "e8a76a72c73ef2e9c2946cf1419b8409bc98253acc4db90dd1e3abc093b6b28e", func := "chancel/chancellaw4.LexStrings", spec := "lexStrings", inPlace := ["internal/abi.NoEscape"], unfollowed := true, recurses := true, named := ["chancel/lex.signs"], apart := false, laid := [("chancel/lex.signs", laid_chancel_lex_signs)] }
def LexStringsSaid : Prop := lexStringsRow.holds Tryd.pinned (OpenSpec.ofChange lexStringsSpec)

/-- ITS FALSE NEIGHBOUR: 'it returns false'. Refute it at one input. -/
def lexStringsWrong : ChangeSpec := { name := "lexStrings", fn := fun _ => fun
  | [d1, d2] => { results := [.lit (.bool false)], args := [d1, d2] }
  | _ => none }
def LexStringsWrongFalsely : Prop := lexStringsRow.holds Tryd.pinned (OpenSpec.ofChange lexStringsWrong)

/- THE SECOND FORM. 'bulk': how many values and letters a reading holds, each counted each time it is reached (what is shared counts as often as it is met; a slice's spare places count too). A statement '..UptoSaid' is the law's where the arguments, and the package variables that the reading takes, are together of bulk at most 1048576: NARROWER than '..Said'. Prove '..Said' where nothing that the law and all that it calls make is longer than what came in: it says more and counts as full. Else prove '..UptoSaid'. A law counts once. -/
mutual
def uptoBulk {H : Type} : DataW H → Nat
  | .lit (.string bytes) => bytes.length + 1
  | .lit _ => 1
  | .nil => 1
  | .ptr d => uptoBulk d + 1
  | .slice elems spare => uptoBulkAll elems + uptoBulkAll spare + 1
  | .agg parts => uptoBulkAll parts + 1
  | .iface _ d => uptoBulk d + 1
  | .map entries => uptoBulkEntries entries + 1
  | .held _ => 1
def uptoBulkAll {H : Type} : List (DataW H) → Nat
  | [] => 0
  | d :: r => uptoBulk d + uptoBulkAll r
def uptoBulkEntries {H : Type} : List (Lit × DataW H) → Nat
  | [] => 0
  | x :: r => uptoBulkEntry x + uptoBulkEntries r
def uptoBulkEntry {H : Type} : Lit × DataW H → Nat
  | (.string bytes, d) => bytes.length + uptoBulk d + 1
  | (_, d) => uptoBulk d + 1
 end
def uptoSmall : (H : Type) → List (DataW H) → Bool := fun _ ds => decide (uptoBulkAll ds ≤ 1048576)
def OpenSpec.upto (s : _root_.Go.ChangeSpec) : _root_.Go.OpenSpec := { _root_.Go.OpenSpec.ofChange s with cond := some uptoSmall }

/-- 'chancellaw4.LexTokens', WHERE WHAT IT READS IS OF BULK AT MOST 1048576: true; the input reads as it did. -/
def lexTokensUptoRow : OpenClaim := { program := "ytfkbbenjmhngcaadoor", sum := "e8a76a72c73ef2e9c2946cf1419b8409bc98253acc4db90dd1e3abc093b6b28e", func := "chancel/chancellaw4.LexTokens", spec := "lexTokens", inPlace := ["internal/abi.NoEscape"], unfollowed := true, recurses := true, named := ["chancel/lex.signs"], apart := false, laid := [("chancel/lex.signs", laid_chancel_lex_signs)], narrowed := true }
def LexTokensUptoSaid : Prop := lexTokensUptoRow.holds Tryd.pinned (OpenSpec.upto lexTokensSpec)

/-- 'chancellaw4.LexBlanks', WHERE WHAT IT READS IS OF BULK AT MOST 1048576: true; the input reads as it did. -/
def lexBlanksUptoRow : OpenClaim := { program := "ytfkbbenjmhngcaadoor", sum := "e8a76a72c73ef2e9c2946cf1419b8409bc98253acc4db90dd1e3abc093b6b28e", func := "chancel/chancellaw4.LexBlanks", spec := "lexBlanks", inPlace := ["internal/abi.NoEscape"], unfollowed := true, recurses := true, named := ["chancel/lex.signs"], apart := false, laid := [("chancel/lex.signs", laid_chancel_lex_signs)], narrowed := true }
def LexBlanksUptoSaid : Prop := lexBlanksUptoRow.holds Tryd.pinned (OpenSpec.upto lexBlanksSpec)

/-- 'chancellaw4.LexBounds', WHERE WHAT IT READS IS OF BULK AT MOST 1048576: true; the input reads as it did. -/
def lexBoundsUptoRow : OpenClaim := { program := "ytfkbbenjmhngcaadoor", sum := "e8a76a72c73ef2e9c2946cf1419b8409bc98253acc4db90dd1e3abc093b6b28e", func := "chancel/chancellaw4.LexBounds", spec := "lexBounds", inPlace := ["internal/abi.NoEscape"], unfollowed := true, recurses := true, named := ["chancel/lex.signs"], apart := false, laid := [("chancel/lex.signs", laid_chancel_lex_signs)], narrowed := true }
def LexBoundsUptoSaid : Prop := lexBoundsUptoRow.holds Tryd.pinned (OpenSpec.upto lexBoundsSpec)

/-- 'chancellaw4.LexNumbers', WHERE WHAT IT READS IS OF BULK AT MOST 1048576: true; the input reads as it did. -/
def lexNumbersUptoRow : OpenClaim := { program := "ytfkbbenjmhngcaadoor", sum := "e8a76a72c73ef2e9c2946cf1419b8409bc98253acc4db90dd1e3abc093b6b28e", func := "chancel/chancellaw4.LexNumbers", spec := "lexNumbers", inPlace := ["internal/abi.NoEscape"], unfollowed := true, recurses := true, named := ["chancel/lex.signs"], apart := false, laid := [("chancel/lex.signs", laid_chancel_lex_signs)], narrowed := true }
def LexNumbersUptoSaid : Prop := lexNumbersUptoRow.holds Tryd.pinned (OpenSpec.upto lexNumbersSpec)

/-- 'chancellaw4.LexNames', WHERE WHAT IT READS IS OF BULK AT MOST 1048576: true; the input reads as it did. -/
def lexNamesUptoRow : OpenClaim := { program := "ytfkbbenjmhngcaadoor", sum := "e8a76a72c73ef2e9c2946cf1419b8409bc98253acc4db90dd1e3abc093b6b28e", func := "chancel/chancellaw4.LexNames", spec := "lexNames", inPlace := ["internal/abi.NoEscape"], unfollowed := true, recurses := true, named := ["chancel/lex.signs"], apart := false, laid := [("chancel/lex.signs", laid_chancel_lex_signs)], narrowed := true }
def LexNamesUptoSaid : Prop := lexNamesUptoRow.holds Tryd.pinned (OpenSpec.upto lexNamesSpec)

/-- 'chancellaw4.LexStrings', WHERE WHAT IT READS IS OF BULK AT MOST 1048576: true; the input reads as it did. -/
def lexStringsUptoRow : OpenClaim := { program := "ytfkbbenjmhngcaadoor", sum := "e8a76a72c73ef2e9c2946cf1419b8409bc98253acc4db90dd1e3abc093b6b28e", func := "chancel/chancellaw4.LexStrings", spec := "lexStrings", inPlace := ["internal/abi.NoEscape"], unfollowed := true, recurses := true, named := ["chancel/lex.signs"], apart := false, laid := [("chancel/lex.signs", laid_chancel_lex_signs)], narrowed := true }
def LexStringsUptoSaid : Prop := lexStringsUptoRow.holds Tryd.pinned (OpenSpec.upto lexStringsSpec)

end Rows
end Go.Proofs.YtfkbbenjmhngcaaDoor
