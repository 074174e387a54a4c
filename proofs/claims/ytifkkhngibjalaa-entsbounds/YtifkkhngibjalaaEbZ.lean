/-
  chancellaw8.EntsBounds: the walk.
-/
import Derived.Test.YtifkkhngibjalaaEbY
namespace Go.Proofs.Ytifkkhngibjalaa
open Go.RowKit Go.Sort

set_option maxHeartbeats 1000000 in
set_option maxRecDepth 1000000 in
theorem ebounds_neg (which n : Int) (w : World) (hn : n < 0) :
    Calls Try.prog 5 #[.int .i64 which, .int .i64 n] w fun e w' => e = .returned (.bool true) ∧ Below w.heap.size w w' := by
  have K := known8_any w
  go_enter Try.func5, Try.ntmps5
  go_wp2_with fail
  refine K.mono ?_
  clear K
  rintro x w1 ⟨rfl, b1⟩
  go_wp2
  go_ret
  exact ⟨rfl, b1⟩
theorem ebounds_walk (which n : Int) (w : World) :
    Calls Try.prog 5 #[.int .i64 which, .int .i64 n] w fun e w' => e = .returned (.bool true) ∧ Below w.heap.size w w' := by
  by_cases hn : n < 0
  · exact ebounds_neg which n w hn
  · have h0 := Int.emod_nonneg n (show (4 : Int) ≠ 0 by decide)
    have h1 := Int.emod_lt_of_pos n (show (0 : Int) < 4 by decide)
    have hm : n.tmod 4 = ((n % 4).toNat : Int) := by rw [Int.tmod_eq_emod_of_nonneg (by omega)]; omega
    cases e0 : (which.tmod 3 == 0)
    · cases e1 : (which.tmod 3 == 1)
      · exact ebounds_y which n _ w e0 e1 hn hm (by omega)
      · exact ebounds_x which n _ w e0 e1 hn hm (by omega)
    · exact ebounds_0 which n _ w e0 hn hm (by omega)
end Go.Proofs.Ytifkkhngibjalaa
