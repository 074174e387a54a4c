/-
  value.Check of any value that is no set.
-/
import Derived.Test.YtbfkdmlnahajpaaVdC
namespace Go.Proofs.Ytbfkdmlnahajpaa
open Go.RowKit Go.Sort

instance (r r' : R7) : Decidable (SameF r r') := by unfold SameF; infer_instance

/-- The value with nothing in the fields of other kinds. -/
def bareR (r : R7) : R7 := ⟨r.k, if r.k = 1 then r.b else false, if r.k = 2 then r.n else 0, if r.k = 3 then r.s else ba [], if r.k = 4 then r.t else ba [], if r.k = 4 then r.i else ba [], if r.k = 5 then r.lo else none, if r.k = 5 then r.ll else 0, if r.k = 5 then r.lc else 0⟩
def moreB (r : R7) : Bool := decide (¬ SameF r (bareR r))
def chkFlat (r : R7) : Int :=
  if r.k < 1 ∨ 5 < r.k then 3 else if moreB r then 1 else if r.k = 3 then chkT r.s.data.toList else if r.k = 4 then chkU r.t.data.toList r.i.data.toList else 0

theorem ba_of (s : ByteArray) : ba s.data.toList = s := rfl

end Go.Proofs.Ytbfkdmlnahajpaa
