/-
  text.digit, readDigits, readEscape, readOne, Read: what they return, for all bytes.
-/
import Derived.Test.YtpblalklenebhaaDoorReadP
import Derived.Test.YtpblalklenebhaaDoorRunesW
import Derived.Test.YtpblalklenebhaaDoorHex
namespace Go.Proofs.YtpblalklenebhaaDoor
open Go.RowKit

theorem ret_two {a a' : Int} {b b' : Bool} (ha : a = a') (hb : b = b') : Ending.returned (.tuple #[.int .i32 a, .bool b]) = .returned (.tuple #[.int .i32 a', .bool b']) := by rw [ha, hb]
theorem ret_three {a a' b b' c c' : Int} (ha : a = a') (hb : b = b') (hc : c = c') : Ending.returned (.tuple #[.int .i32 a, .int .i64 b, .int .i64 c]) = .returned (.tuple #[.int .i32 a', .int .i64 b', .int .i64 c']) := by rw [ha, hb, hc]

theorem drop_at (s : ByteArray) (k : Nat) (h : k < s.size) : s.data.toList.drop k = s[k] :: s.data.toList.drop (k + 1) := by
  rw [List.drop_eq_getElem_cons (by rw [← Lib.size_eq]; exact h)]
  rfl

def p16 : Nat → Int
  | 0 => 1
  | k + 1 => 16 * p16 k
theorem p16_le : ∀ k, k ≤ 6 → 1 ≤ p16 k ∧ p16 k ≤ 16777216
  | 0, _ => by decide
  | 1, _ => by decide
  | 2, _ => by decide
  | 3, _ => by decide
  | 4, _ => by decide
  | 5, _ => by decide
  | 6, _ => by decide
  | k + 7, h => by omega

end Go.Proofs.YtpblalklenebhaaDoor
