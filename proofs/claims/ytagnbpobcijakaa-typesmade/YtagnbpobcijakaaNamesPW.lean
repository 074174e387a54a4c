/-
 Plain facts: what a name is (no program in it).
 utf8.RuneCountInString, names.IsDigit, Begins, GoesOn, Is: what they return.
-/
import Derived.Test.YtagnbpobcijakaaRunesPW
namespace Go.Proofs.Ytagnbpobcijakaa
open Go

def letR (r : Int) : Bool := decide (65 ≤ r ∧ r ≤ 90) || decide (97 ≤ r ∧ r ≤ 122) || decide (r = 95)
def digR (r : Int) : Bool := decide (48 ≤ r ∧ r ≤ 57)

/-- May a byte stand there? -/
def goodB (first : Bool) (b : UInt8) : Bool := letR b.toNat || (!first && digR b.toNat)
def goods : Bool → List UInt8 → Bool
 | _, [] => true
 | f, b :: t => goodB f b && goods false t
/-- A name. -/
def nameB (l : List UInt8) : Bool := goods true l && (decide (1 ≤ l.length) && decide (l.length ≤ 12))

end Go.Proofs.Ytagnbpobcijakaa

namespace Go.Proofs.Ytagnbpobcijakaa
open Go.RowKit

end Go.Proofs.Ytagnbpobcijakaa
