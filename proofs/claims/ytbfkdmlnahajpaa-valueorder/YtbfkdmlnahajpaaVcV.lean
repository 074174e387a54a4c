/-
  utf8.RuneCountInString, value.isLetter, isDigit, isName, checkText, checkUid: what they return.
-/
import Derived.Test.YtbfkdmlnahajpaaRunesW
import Derived.Test.YtbfkdmlnahajpaaVcI
namespace Go.Proofs.Ytbfkdmlnahajpaa
open Go.RowKit

/-- What a text is told by Check: none, too long, or good. -/
def chkT (l : List UInt8) : Int := if okL l then (if 30 < (runes l).length then 5 else 0) else 11

def letR (r : Int) : Bool := decide (65 ≤ r ∧ r ≤ 90) || decide (97 ≤ r ∧ r ≤ 122) || decide (r = 95)
def digR (r : Int) : Bool := decide (48 ≤ r ∧ r ≤ 57)

end Go.Proofs.Ytbfkdmlnahajpaa
