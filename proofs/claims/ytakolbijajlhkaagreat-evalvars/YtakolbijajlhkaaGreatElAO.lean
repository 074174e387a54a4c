/-
  chancellaw5.within.
-/
import Derived.Test.YtakolbijajlhkaaGreatRunAll
import Derived.WalkKit
import Derived.WalkSpells
namespace Go.Proofs.YtakolbijajlhkaaGreat
open Go.RowKit

theorem ret_int5 {a b : Int} (h : a = b) : Ending.returned (.int .i64 a) = .returned (.int .i64 b) := by rw [h]
set_option maxRecDepth 1000000 in
theorem within5_any (a n : Int) (hn : 0 < n) (hn1 : n ≤ 4294967296) (w : World) :
    Calls Tryz.prog 12 #[.int .i64 a, .int .i64 n] w fun e w' => e = .returned (.int .i64 (a % n)) ∧ w' = w := by
  go_enter Tryz.func12, Tryz.ntmps12
  go_wp2
  · go_ret
    exact ⟨ret_int5 (tmod_neg a n hn hn1 (by assumption)), rfl⟩
  · go_ret
    exact ⟨ret_int5 (tmod_pos a n hn (by assumption)), rfl⟩
theorem tmod_neg62 (a n : Int) (hn : 0 < n) (hn1 : n ≤ 4611686018427387904) (h : a.tmod n < 0) : wrap64 (a.tmod n + n) = a % n := by
  have h0 := Int.emod_nonneg a (show n ≠ 0 by omega)
  have h1 := Int.emod_lt_of_pos a hn
  rcases tmod_cases a n hn with e | e
  · omega
  · rw [e]
    simp only [wrap64]
    omega
set_option maxRecDepth 1000000 in
theorem within62_any (a n : Int) (hn : 0 < n) (hn1 : n ≤ 4611686018427387904) (w : World) :
    Calls Tryz.prog 12 #[.int .i64 a, .int .i64 n] w fun e w' => e = .returned (.int .i64 (a % n)) ∧ w' = w := by
  go_enter Tryz.func12, Tryz.ntmps12
  go_wp2
  · go_ret
    exact ⟨ret_int5 (tmod_neg62 a n hn hn1 (by assumption)), rfl⟩
  · go_ret
    exact ⟨ret_int5 (tmod_pos a n hn (by assumption)), rfl⟩
end Go.Proofs.YtakolbijajlhkaaGreat
