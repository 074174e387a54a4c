/-
  chancellaw6.ShowBrackets: the walk.
-/
import Derived.Test.YtpblalklenebhaaDoorShK
namespace Go.Proofs.YtpblalklenebhaaDoor
open Go.RowKit Go.Sort

/-- The text of two numbers and a sign. -/
def brI (b : Nat) : List UInt8 := [49, 32] ++ sgnO (13 + b) ++ [32, 50]
def brIn (b : Nat) : Ex := eOp (13 + b) [eLong 1, eLong 2]
def brL (a b : Nat) : Ex := eOp (13 + a) [brIn b, eLong 3]
def brR (a b : Nat) : Ex := eOp (13 + a) [eLong 3, brIn b]
def lvN (a : Nat) : Int := lev (13 + a)
def brPlain (a b : Nat) : Bool := (decide (lvN a ≤ lvN b) && decide (lvN a ≠ 3)) || (decide (lvN a = 3) && decide (3 < lvN b))
theorem brL_text : ∀ a b : Fin 12, showE (brL a b) = (if brPlain a b then brI b else [40] ++ brI b ++ [41]) ++ ([32] ++ sgnO (13 + a.val) ++ [32]) ++ [51] := by decide +kernel
theorem brR_text : ∀ a b : Fin 12, showE (brR a b) = [51] ++ ([32] ++ sgnO (13 + a.val) ++ [32]) ++ (if lvN b ≤ lvN a then [40] ++ brI b ++ [41] else brI b) := by decide +kernel
theorem br_ok : ∀ a b : Fin 12, depE (brL a b) ≤ 5 ∧ depE (brR a b) ≤ 5 ∧ okS (brL a b) = true ∧ okS (brR a b) = true := by decide +kernel
theorem br_len : ∀ a b : Fin 12, (showE (brL a b)).length ≤ 100 ∧ (showE (brR a b)).length ≤ 100 := by decide +kernel
def sgs : List Value := (List.range 12).map fun i : Nat => Value.string (ba (sgnO (13 + (i : Int))))
def lvs : List Value := (List.range 12).map fun i : Nat => Value.int .i64 (lvN i)
end Go.Proofs.YtpblalklenebhaaDoor
