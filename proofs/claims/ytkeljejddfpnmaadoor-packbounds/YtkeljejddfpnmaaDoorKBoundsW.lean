/-
  chancellaw7.PackBounds: the walk.
-/
import Derived.Test.YtkeljejddfpnmaaDoorKBndB
import Derived.Test.YtkeljejddfpnmaaDoorKBndC
import Derived.Test.YtkeljejddfpnmaaDoorKBndE
import Derived.Test.YtkeljejddfpnmaaDoorKBndG
namespace Go.Proofs.YtkeljejddfpnmaaDoor
open Go.RowKit Go.Sort

theorem bounds_walk (which n : Int) (w : World) (hT : Half w) :
    Calls Tryd.prog 5 #[.int .i64 which, .int .i64 n] w fun e w' => e = .returned (.bool true) ∧ Below w.heap.size w w' := by
  have h0 := Int.emod_nonneg which (show (7 : Int) ≠ 0 by decide)
  have h1 := Int.emod_lt_of_pos which (show (0 : Int) < 7 by decide)
  have hc : which % 7 = 0 ∨ which % 7 = 1 ∨ which % 7 = 2 ∨ which % 7 = 3 ∨ which % 7 = 4 ∨ which % 7 = 5 ∨ which % 7 = 6 := by omega
  rcases hc with h | h | h | h | h | h | h
  · exact bounds_0 which n w hT h
  · exact bounds_1 which n w hT h
  · exact bounds_2 which n w hT h
  · exact bounds_3 which n w hT h
  · exact bounds_4 which n w hT h
  · exact bounds_5 which n w hT h
  · exact bounds_6 which n w hT h
end Go.Proofs.YtkeljejddfpnmaaDoor
