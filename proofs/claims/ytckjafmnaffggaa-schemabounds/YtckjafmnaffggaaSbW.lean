/-
  chancellaw10.SchemaBounds: all its cases.
-/
import Derived.Test.YtckjafmnaffggaaSb2
import Derived.Test.YtckjafmnaffggaaSb3
namespace Go.Proofs.Ytckjafmnaffggaa
open Go.RowKit Go.Sort

theorem sbounds_walk (which n : Int) (w : World) :
    Calls Try.prog 6 #[.int .i64 which, .int .i64 n] w fun e w' => e = .returned (.bool true) ∧ Below w.heap.size w w' := by
  obtain ⟨m, hm⟩ : ∃ m : Nat, n % 4 = (m : Int) := ⟨(n % 4).toNat, by omega⟩
  have hm3 : m < 4 := by omega
  have h5 : which % 5 = 0 ∨ which % 5 = 1 ∨ which % 5 = 2 ∨ which % 5 = 3 ∨ which % 5 = 4 := by omega
  rcases h5 with h | h | h | h | h
  · exact sbounds_0 which n m w h hm hm3
  · exact sbounds_1 which n m w h hm hm3
  · exact sbounds_2 which n m w h hm hm3
  · exact sbounds_3 which n m w h hm hm3
  · exact sbounds_4 which n m w h hm hm3
end Go.Proofs.Ytckjafmnaffggaa
