/-
 Plain facts on lists of bytes: what text.Like computes (no program in it).
-/
import Derived.Lib.MapLaws
import Derived.Lib.IndexMore
import Derived.Lib.Strings
import Derived.Lib.RuneBytes
import Derived.Below
namespace Go.Proofs.Ytagnbpobcijakaa
open Go

theorem hide {p : Prop} (h : p) : RowKit.Hid p := h
theorem unhide {p : Prop} (h : RowKit.Hid p) : p := h

theorem ret_bool {a b : Bool} (h : a = b) : Ending.returned (.bool a) = .returned (.bool b) := by rw [h]
theorem ret_int {k : IntKind} {a b : Int} (h : a = b) : Ending.returned (.int k a) = .returned (.int k b) := by rw [h]
def behL (s piece : List UInt8) (st : Bool) : List UInt8 × Bool :=
 if st then ((Lib.cut s piece).2.1, (Lib.cut s piece).2.2) else (Lib.trimPrefix s piece, Lib.hasPrefix s piece)

def likeL : List UInt8 → List UInt8 → Bool → List UInt8 → Bool
 | [], s, st, piece => if st then Lib.hasSuffix s piece else s == piece
 | c :: t, s, st, piece => if c = 42 then (if (behL s piece st).2 then likeL t (behL s piece st).1 true [] else false) else likeL t s st (piece ++ [c])

def digs : List UInt8 := [48, 49, 50, 51, 52, 53, 54, 55, 56, 57, 97, 98, 99, 100, 101, 102, 103, 104, 105, 106, 107, 108, 109, 110, 111, 112, 113, 114, 115, 116, 117, 118, 119, 120, 121, 122]
def dig (k : Nat) : UInt8 := digs.getD k 0
def hexL (k : Nat) : List UInt8 := if k < 16 then [dig k] else [dig (k / 16), dig (k % 16)]

/-- What text.quoted writes for a rune. -/
def quoL (r : Int) : List UInt8 :=
 if r = 92 ∨ r = 34 then 92 :: Lib.encodeRune r
 else if r = 10 then [92, 110]
 else if r = 9 then [92, 116]
 else if r < 32 ∨ r = 127 then [92, 117, 123] ++ hexL r.toNat ++ [125]
 else Lib.encodeRune r

theorem encodeRune_len (r : Int) : 1 ≤ (Lib.encodeRune r).length ∧ (Lib.encodeRune r).length ≤ 4 := by
 have := Lib.runeCells_le r
 rw [Lib.runeCells_length] at this
 exact this
end Go.Proofs.Ytagnbpobcijakaa
