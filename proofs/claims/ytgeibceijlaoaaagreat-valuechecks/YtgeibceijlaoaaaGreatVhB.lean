/-
  chancelref3.clean: what it returns.
-/
import Derived.Test.YtgeibceijlaoaaaGreatVhA
import Derived.Test.YtgeibceijlaoaaaGreatVdD
namespace Go.Proofs.YtgeibceijlaoaaaGreat
open Go.RowKit

/-- Is what is not a value's kind's nought? -/
def clB (k : Int) (b : Bool) (n : Int) (s t i : ByteArray) (ll : Nat) : Bool := (k == 1 || !b) && ((k == 2 || n == 0) && ((k == 3 || s.toList.isEmpty) && ((k == 4 || (t.toList.isEmpty && i.toList.isEmpty)) && (k == 5 || (ll : Int) == 0))))

set_option maxHeartbeats 2000000 in
set_option maxRecDepth 1000000 in
theorem r3clean_1 (b : Bool) (n : Int) (s t i : ByteArray) (lo : Option Addr) (ll lc : Nat) (w : World) :
    Calls Tryz.prog 32 #[.agg #[.int .i64 1, .bool b, .int .i64 n, .string s, .string t, .string i, .slice lo ll lc]] w fun e w' => e = .returned (.bool (clB 1 b n s t i ll)) ∧ Below w.heap.size w w' := by
  go_enter Tryz.func32, Tryz.ntmps32
  go_wp2
  all_goals (
    go_ret
    refine ⟨ret_bool ?_, below1 _ _⟩
    simp [clB, *])

set_option maxHeartbeats 2000000 in
set_option maxRecDepth 1000000 in
theorem r3clean_2 (b : Bool) (n : Int) (s t i : ByteArray) (lo : Option Addr) (ll lc : Nat) (w : World) :
    Calls Tryz.prog 32 #[.agg #[.int .i64 2, .bool b, .int .i64 n, .string s, .string t, .string i, .slice lo ll lc]] w fun e w' => e = .returned (.bool (clB 2 b n s t i ll)) ∧ Below w.heap.size w w' := by
  go_enter Tryz.func32, Tryz.ntmps32
  go_wp2
  all_goals (
    go_ret
    refine ⟨ret_bool ?_, below1 _ _⟩
    simp [clB, *])

set_option maxHeartbeats 2000000 in
set_option maxRecDepth 1000000 in
theorem r3clean_3 (b : Bool) (n : Int) (s t i : ByteArray) (lo : Option Addr) (ll lc : Nat) (w : World) :
    Calls Tryz.prog 32 #[.agg #[.int .i64 3, .bool b, .int .i64 n, .string s, .string t, .string i, .slice lo ll lc]] w fun e w' => e = .returned (.bool (clB 3 b n s t i ll)) ∧ Below w.heap.size w w' := by
  go_enter Tryz.func32, Tryz.ntmps32
  go_wp2
  all_goals (
    go_ret
    refine ⟨ret_bool ?_, below1 _ _⟩
    simp [clB, *])

set_option maxHeartbeats 2000000 in
set_option maxRecDepth 1000000 in
theorem r3clean_4 (b : Bool) (n : Int) (s t i : ByteArray) (lo : Option Addr) (ll lc : Nat) (w : World) :
    Calls Tryz.prog 32 #[.agg #[.int .i64 4, .bool b, .int .i64 n, .string s, .string t, .string i, .slice lo ll lc]] w fun e w' => e = .returned (.bool (clB 4 b n s t i ll)) ∧ Below w.heap.size w w' := by
  go_enter Tryz.func32, Tryz.ntmps32
  go_wp2
  all_goals (
    go_ret
    refine ⟨ret_bool ?_, below1 _ _⟩
    simp [clB, *])

set_option maxHeartbeats 2000000 in
set_option maxRecDepth 1000000 in
theorem r3clean_5 (b : Bool) (n : Int) (s t i : ByteArray) (lo : Option Addr) (ll lc : Nat) (w : World) :
    Calls Tryz.prog 32 #[.agg #[.int .i64 5, .bool b, .int .i64 n, .string s, .string t, .string i, .slice lo ll lc]] w fun e w' => e = .returned (.bool (clB 5 b n s t i ll)) ∧ Below w.heap.size w w' := by
  go_enter Tryz.func32, Tryz.ntmps32
  go_wp2
  all_goals (
    go_ret
    refine ⟨ret_bool ?_, below1 _ _⟩
    simp [clB, *])

set_option maxHeartbeats 2000000 in
set_option maxRecDepth 1000000 in
theorem r3clean_o (k : Int) (b : Bool) (n : Int) (s t i : ByteArray) (lo : Option Addr) (ll lc : Nat) (h1 : (k == 1) = false) (h2 : (k == 2) = false) (h3 : (k == 3) = false) (h4 : (k == 4) = false) (h5 : (k == 5) = false) (w : World) :
    Calls Tryz.prog 32 #[.agg #[.int .i64 k, .bool b, .int .i64 n, .string s, .string t, .string i, .slice lo ll lc]] w fun e w' => e = .returned (.bool (clB k b n s t i ll)) ∧ Below w.heap.size w w' := by
  go_enter Tryz.func32, Tryz.ntmps32
  go_wp2
  all_goals (
    go_ret
    refine ⟨ret_bool ?_, below1 _ _⟩
    simp [clB, *])

end Go.Proofs.YtgeibceijlaoaaaGreat
