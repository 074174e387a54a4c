/-
 The writing methods of strings.Builder at this program (its copyCheck ends in a refused branch, so the ready contracts can't be laid): copyCheck, WriteByte, WriteString, WriteRune over a builder that the call owns; each keeps every block that is no row of bytes and is not the builder's.
-/
import Derived.Test.YtagnbpobcijakaaShelf
import Derived.Shelf.Strings.BuilderK
import Derived.Lib.RuneBytes
import Derived.WalkKit
import Derived.BigCall
namespace Go.Proofs.Ytagnbpobcijakaa
open Go.RowKit

theorem infoByte : (Try.prog.info? 5).map (fun i => (i.zero, i.size, i.bytes)) = some (some (.int .u8 0), 1, 1) := by kernel_rfl

end Go.Proofs.Ytagnbpobcijakaa
