/-
  strconv.FormatInt(n, 16) for 0 <= n < 256: one or two digits; nothing that was there turns.
-/
import Derived.Test.YtckjafmnaffggaaRows
import Derived.Test.YtckjafmnaffggaaPlain
import Derived.WalkKit
import Derived.BigCall
import Derived.Handy
import Derived.Laws.IdiomStrings
import Derived.Laws.BitsAllLaws
namespace Go.Proofs.Ytckjafmnaffggaa
open Go.RowKit

theorem tzIx : IntKind.u64.wrap (bits BinOp.and IntKind.u64 16 (IntKind.u64.wrap (-16)) * 285870213051353865) / 288230376151711744 = 15 := by decide +kernel

theorem byte_at (s : ByteArray) (i : Nat) (hi : i < s.size) : s[i] = s.data.toList.getD i 0 := by
  have hi' : i < s.data.size := hi
  show s.data[i]'hi' = _
  rw [List.getD, Array.getElem?_toList, Array.getElem?_eq_getElem hi']
  rfl

theorem dig_at (k : Nat) (h : k < (⟨#[48, 49, 50, 51, 52, 53, 54, 55, 56, 57, 97, 98, 99, 100, 101, 102, 103, 104, 105, 106, 107, 108, 109, 110, 111, 112, 113, 114, 115, 116, 117, 118, 119, 120, 121, 122]⟩ : ByteArray).size) :
    (⟨#[48, 49, 50, 51, 52, 53, 54, 55, 56, 57, 97, 98, 99, 100, 101, 102, 103, 104, 105, 106, 107, 108, 109, 110, 111, 112, 113, 114, 115, 116, 117, 118, 119, 120, 121, 122]⟩ : ByteArray)[k] = dig k := by
  rw [byte_at]
  rfl

theorem conv_back (w : World) (a : Addr) (n cap : Nat) (l : List UInt8) (hn : n = l.length)
    (hc : ∀ j (hj : j < l.length), w.cell? (a.add j) = some (.int .u8 (l[j].toNat : Int))) :
    (convert 63 9 (.slice (some a) n cap)).run Try.prog w = .ok (.string ⟨l.toArray⟩) w := by
  subst hn
  exact run_convert_bytes_back w 63 9 5 a cap l Try.underlying63 Try.underlying5 Try.underlying9 hc

theorem low4 (k : Nat) (h : k < 256) : bits BinOp.and IntKind.u64 (k : Int) 15 = ((k % 16 : Nat) : Int) := by
  have := u64_and_nat k 15 (by omega) (by omega)
  rw [show ((15 : Nat) : Int) = 15 from rfl] at this
  rw [this]
  have : k &&& 15 = k % 16 := Nat.and_two_pow_sub_one_eq_mod k 4
  rw [this]

end Go.Proofs.Ytckjafmnaffggaa
