/-
  chancelref9.has: what it returns.
  chancellaw9.same: what it returns.
-/
import Derived.Test.YtfnfdpkndkcmbaaMpHL
namespace Go.Proofs.Ytfnfdpkndkcmbaa
open Go.RowKit Go.Sort

end Go.Proofs.Ytfnfdpkndkcmbaa

namespace Go.Proofs.Ytfnfdpkndkcmbaa
open Go.RowKit Go.Sort

end Go.Proofs.Ytfnfdpkndkcmbaa
