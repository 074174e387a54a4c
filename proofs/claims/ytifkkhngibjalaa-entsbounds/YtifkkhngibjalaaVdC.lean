/-
  value.contentOf of any value; value.Check, out of its parts.
-/
import Derived.Test.YtifkkhngibjalaaVdA
import Derived.Test.YtifkkhngibjalaaVdB
import Derived.Test.YtifkkhngibjalaaVcJ
namespace Go.Proofs.Ytifkkhngibjalaa
open Go.RowKit Go.Sort

set_option maxHeartbeats 2000000 in
set_option maxRecDepth 1000000 in
theorem contentOf_none (r : R7) (w : World) (h : r.k < 1 ∨ 5 < r.k) :
    Calls Try.prog 59 #[r.val] w fun e w' => e = .returned (.iface 102 (.agg #[])) ∧ Below w.heap.size w w' := by
  have h1 : (r.k == 1) = false := by simpa using (show ¬ r.k = 1 by omega)
  have h2 : (r.k == 2) = false := by simpa using (show ¬ r.k = 2 by omega)
  have h3 : (r.k == 3) = false := by simpa using (show ¬ r.k = 3 by omega)
  have h4 : (r.k == 4) = false := by simpa using (show ¬ r.k = 4 by omega)
  have h5 : (r.k == 5) = false := by simpa using (show ¬ r.k = 5 by omega)
  clear h
  unfold R7.val
  go_enter Try.func59, Try.ntmps59
  go_wp2
  go_ret
  exact ⟨rfl, below1 _ _⟩

set_option maxHeartbeats 2000000 in
set_option maxRecDepth 1000000 in
theorem contentOf_kind (r : R7) (T : TypeId) (x : Value) (w : World) (h : (r.k = 1 ∧ T = 108 ∧ x = .bool r.b) ∨ (r.k = 2 ∧ T = 109 ∧ x = .int .i64 r.n) ∨ (r.k = 3 ∧ T = 110 ∧ x = .string r.s) ∨ (r.k = 4 ∧ T = 111 ∧ x = .agg #[.string r.t, .string r.i]) ∨ (r.k = 5 ∧ T = 112 ∧ x = .slice r.lo r.ll r.lc)) :
    Calls Try.prog 59 #[r.val] w fun e w' => e = .returned (.iface T x) ∧ Below w.heap.size w w' := by
  obtain ⟨k, b, n, s, t, i, lo, ll, lc⟩ := r
  unfold R7.val
  simp only at h ⊢
  rcases h with ⟨rfl, rfl, rfl⟩ | ⟨rfl, rfl, rfl⟩ | ⟨rfl, rfl, rfl⟩ | ⟨rfl, rfl, rfl⟩ | ⟨rfl, rfl, rfl⟩
  all_goals
    go_enter Try.func59, Try.ntmps59
    go_wp2
    go_ret
    exact ⟨rfl, below1 _ _⟩

theorem ta_no (T : TypeId) (x : Value) (w : World) (h : T = 108 ∨ T = 109 ∨ T = 110 ∨ T = 111 ∨ T = 112) : (Instr.typeAssert (.iface T x) 99 102 true).run Try.prog w = .ok (.tuple #[.agg #[], .bool false]) w := by
  rcases h with rfl | rfl | rfl | rfl | rfl <;> kernel_rfl
theorem ta_none (w : World) : (Instr.typeAssert (.iface 102 (.agg #[])) 99 102 true).run Try.prog w = .ok (.tuple #[.agg #[], .bool true]) w := by kernel_rfl

set_option maxHeartbeats 2000000 in
set_option maxRecDepth 1000000 in
theorem vcheck_none (r : R7) (w : World) (h : r.k < 1 ∨ 5 < r.k) :
    Calls Try.prog 53 #[r.val] w fun e w' => e = .returned (.int .i64 3) ∧ Below w.heap.size w w' := by
  have C := fun w => contentOf_none r w h
  have T := ta_none
  clear h
  unfold R7.val at *
  have b1 := below1 w (.cells #[.int .i64 r.k, .bool r.b, .int .i64 r.n, .string r.s, .string r.t, .string r.i, .slice r.lo r.ll r.lc] 38)
  go_enter Try.func53, Try.ntmps53
  go_wp2_with fail
  generalize w.alloc _ = w1 at *
  refine (C _).mono ?_
  rintro e w2 ⟨rfl, b2⟩
  go_wp2
  go_ret
  exact ⟨rfl, (b1.trans (b2.mono b1.size)).alloc (Nat.le_trans b1.size b2.size) _⟩

set_option maxHeartbeats 2000000 in
set_option maxRecDepth 1000000 in
theorem vcheck_of (r bare : R7) (T : TypeId) (f : FuncId) (x : Value) (y z : Int) (m : Bool) (w : World)
    (C1 : ∀ w, Calls Try.prog 59 #[r.val] w fun e w' => e = .returned (.iface T x) ∧ Below w.heap.size w w')
    (hA : ∀ w, (Instr.typeAssert (.iface T x) 99 102 true).run Try.prog w = .ok (.tuple #[.agg #[], .bool false]) w)
    (hM : ∀ w, (method 242 T x "chancel/value.value").run Try.prog w = .ok (f, x) w) (hE : ∀ w, (callFunc f #[x]).run Try.prog w = .ok (.enter f #[x]) w)
    (C2 : ∀ w, Calls Try.prog f #[x] w fun e w' => e = .returned bare.val ∧ Below w.heap.size w w')
    (C3 : ∀ w, Calls Try.prog 60 #[r.val, bare.val] w fun e w' => e = .returned (.bool m) ∧ Below w.heap.size w w')
    (C4 : m = false → ∀ w', Below w.heap.size w w' → Calls Try.prog 61 #[.iface T x] w' fun e w'' => e = .returned (.int .i64 y) ∧ Below w'.heap.size w' w'') (hz : z = if m then 1 else y) :
    Calls Try.prog 53 #[r.val] w fun e w' => e = .returned (.int .i64 z) ∧ Below w.heap.size w w' := by
  unfold R7.val at *
  have b1 := below1 w (.cells #[.int .i64 r.k, .bool r.b, .int .i64 r.n, .string r.s, .string r.t, .string r.i, .slice r.lo r.ll r.lc] 38)
  have A1 := at7_new w r
  have z1 := size1 w (.cells #[.int .i64 r.k, .bool r.b, .int .i64 r.n, .string r.s, .string r.t, .string r.i, .slice r.lo r.ll r.lc] 38)
  have Hz := hide hz
  clear hz
  go_enter Try.func53, Try.ntmps53
  go_wp2_with fail
  generalize w.alloc _ = w1 at *
  refine (C1 _).mono ?_
  rintro e w2 ⟨rfl, b2⟩
  have b02 := b1.trans (b2.mono b1.size)
  have A2 := A1.below b2 (by omega)
  go_wp2_with fail
  have b3 : Below w.heap.size w (w2.alloc (.cells #[] 102)) := b02.alloc b02.size _
  have A3 := (A2.below (below1 w2 (.cells #[] 102)) (by have := b2.size; omega)).up
  generalize w2.alloc _ = w3 at *
  clear A1 A2 C1
  have cS2 := fun d os => Calls.regrown_of (w := w3) (d := d) (os := os) (C2 (grow (redrawn w3 d) os))
  have cS3 := fun d os => Calls.regrown_of (w := w3) (d := d) (os := os) (C3 (grow (redrawn w3 d) os))
  clear C2 C3
  obtain ⟨a0, a1, a2, a3, a4, a5, a6⟩ := A3
  simp only [Nat.zero_add] at a1 a2 a3 a4 a5 a6
  refine wp_region_quiet_below (by kernel_rfl) (by kernel_rfl) ?_
  quiet_step (fail)
  quiet_step (fail)
  quiet_step (exact cS2 _ _)
  quiet_step (exact cS3 _ _)
  refine wpQuiet_nil ?_
  intro _ hw'
  obtain ⟨⟨dq, osq⟩, hw''⟩ := hw'
  subst hw''
  have b4 := b3.trans ((below_regrown w3 dq osq).mono b3.size)
  generalize grow (redrawn w3 dq) osq = w4 at *
  clear a0 a1 a2 a3 a4 a5 a6 cS2 cS3
  cases m
  · have C4' := C4 rfl w4 b4
    clear C4
    go_wp2_with fail
    refine C4'.mono ?_
    rintro e w5 ⟨rfl, b5⟩
    go_wp2
    go_ret
    exact ⟨ret_int (unhide Hz).symm, b4.trans (b5.mono b4.size)⟩
  · go_wp2
    go_ret
    exact ⟨ret_int (unhide Hz).symm, b4⟩
end Go.Proofs.Ytifkkhngibjalaa
