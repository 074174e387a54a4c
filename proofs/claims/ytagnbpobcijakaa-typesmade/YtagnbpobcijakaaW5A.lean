/-
 chancellaw5.within.
-/
import Derived.Test.YtagnbpobcijakaaRunesPW
import Derived.WalkKit
import Derived.WalkSpells
namespace Go.Proofs.Ytagnbpobcijakaa
open Go.RowKit

theorem ret_int5 {a b : Int} (h : a = b) : Ending.returned (.int .i64 a) = .returned (.int .i64 b) := by rw [h]
set_option maxRecDepth 1000000 in
theorem within5_any (a n : Int) (hn : 0 < n) (hn1 : n ≤ 4294967296) (w : World) :
  Calls Try.prog 27 #[.int .i64 a, .int .i64 n] w fun e w' => e = .returned (.int .i64 (a % n)) ∧ w' = w := by
 go_enter Try.func27, Try.ntmps27
 go_wp2
 ·go_ret
  exact ⟨ret_int5 (tmod_neg a n hn hn1 (by assumption)), rfl⟩
 ·go_ret
  exact ⟨ret_int5 (tmod_pos a n hn (by assumption)), rfl⟩
end Go.Proofs.Ytagnbpobcijakaa
