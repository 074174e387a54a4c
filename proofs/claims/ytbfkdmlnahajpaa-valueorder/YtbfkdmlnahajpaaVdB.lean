/-
  value.hasMore.
-/
import Derived.Test.YtbfkdmlnahajpaaVcI
namespace Go.Proofs.Ytbfkdmlnahajpaa
open Go.RowKit Go.Sort

/-- Have two values, kinds aside, the same in all fields (the list's length for the list)? -/
def SameF (r r' : R7) : Prop := r.b = r'.b ∧ r.n = r'.n ∧ r.s = r'.s ∧ r.t = r'.t ∧ r.i = r'.i ∧ r.ll = r'.ll

end Go.Proofs.Ytbfkdmlnahajpaa
