/-
  chancellaw5.within.
-/
import Derived.Test.YtbbongdnnmanlaaGreatRunAll
import Derived.WalkKit
import Derived.WalkSpells
namespace Go.Proofs.YtbbongdnnmanlaaGreat
open Go.RowKit

theorem ret_int5 {a b : Int} (h : a = b) : Ending.returned (.int .i64 a) = .returned (.int .i64 b) := by rw [h]
theorem tmod_neg62 (a n : Int) (hn : 0 < n) (hn1 : n ≤ 4611686018427387904) (h : a.tmod n < 0) : wrap64 (a.tmod n + n) = a % n := by
  have h0 := Int.emod_nonneg a (show n ≠ 0 by omega)
  have h1 := Int.emod_lt_of_pos a hn
  rcases tmod_cases a n hn with e | e
  · omega
  · rw [e]
    simp only [wrap64]
    omega
end Go.Proofs.YtbbongdnnmanlaaGreat
