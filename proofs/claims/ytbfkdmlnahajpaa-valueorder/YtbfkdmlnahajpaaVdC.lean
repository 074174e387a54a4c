/-
  value.contentOf of any value; value.Check, out of its parts.
-/
import Derived.Test.YtbfkdmlnahajpaaVdA
import Derived.Test.YtbfkdmlnahajpaaVdB
import Derived.Test.YtbfkdmlnahajpaaVcJ
namespace Go.Proofs.Ytbfkdmlnahajpaa
open Go.RowKit Go.Sort

set_option maxHeartbeats 2000000 in
set_option maxRecDepth 1000000 in
theorem contentOf_none (r : R7) (w : World) (h : r.k < 1 ∨ 5 < r.k) :
    Calls Try.prog 16 #[r.val] w fun e w' => e = .returned (.iface 65 (.agg #[])) ∧ Below w.heap.size w w' := by
  have h1 : (r.k == 1) = false := by simpa using (show ¬ r.k = 1 by omega)
  have h2 : (r.k == 2) = false := by simpa using (show ¬ r.k = 2 by omega)
  have h3 : (r.k == 3) = false := by simpa using (show ¬ r.k = 3 by omega)
  have h4 : (r.k == 4) = false := by simpa using (show ¬ r.k = 4 by omega)
  have h5 : (r.k == 5) = false := by simpa using (show ¬ r.k = 5 by omega)
  clear h
  unfold R7.val
  go_enter Try.func16, Try.ntmps16
  go_wp2
  go_ret
  exact ⟨rfl, below1 _ _⟩

set_option maxHeartbeats 2000000 in
set_option maxRecDepth 1000000 in
theorem contentOf_kind (r : R7) (T : TypeId) (x : Value) (w : World) (h : (r.k = 1 ∧ T = 60 ∧ x = .bool r.b) ∨ (r.k = 2 ∧ T = 61 ∧ x = .int .i64 r.n) ∨ (r.k = 3 ∧ T = 62 ∧ x = .string r.s) ∨ (r.k = 4 ∧ T = 63 ∧ x = .agg #[.string r.t, .string r.i]) ∨ (r.k = 5 ∧ T = 53 ∧ x = .slice r.lo r.ll r.lc)) :
    Calls Try.prog 16 #[r.val] w fun e w' => e = .returned (.iface T x) ∧ Below w.heap.size w w' := by
  obtain ⟨k, b, n, s, t, i, lo, ll, lc⟩ := r
  unfold R7.val
  simp only at h ⊢
  rcases h with ⟨rfl, rfl, rfl⟩ | ⟨rfl, rfl, rfl⟩ | ⟨rfl, rfl, rfl⟩ | ⟨rfl, rfl, rfl⟩ | ⟨rfl, rfl, rfl⟩
  all_goals
    go_enter Try.func16, Try.ntmps16
    go_wp2
    go_ret
    exact ⟨rfl, below1 _ _⟩

theorem ta_no (T : TypeId) (x : Value) (w : World) (h : T = 60 ∨ T = 61 ∨ T = 62 ∨ T = 63 ∨ T = 53) : (Instr.typeAssert (.iface T x) 46 65 true).run Try.prog w = .ok (.tuple #[.agg #[], .bool false]) w := by
  rcases h with rfl | rfl | rfl | rfl | rfl <;> kernel_rfl
theorem ta_none (w : World) : (Instr.typeAssert (.iface 65 (.agg #[])) 46 65 true).run Try.prog w = .ok (.tuple #[.agg #[], .bool true]) w := by kernel_rfl

end Go.Proofs.Ytbfkdmlnahajpaa
