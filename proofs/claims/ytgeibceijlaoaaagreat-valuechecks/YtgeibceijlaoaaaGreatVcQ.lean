/-
  value.Text of the set of 1 and 2.
-/
import Derived.Test.YtgeibceijlaoaaaGreatVcO
import Derived.Test.YtgeibceijlaoaaaGreatVcM
namespace Go.Proofs.YtgeibceijlaoaaaGreat
open Go.RowKit Go.Sort

def dig1 (n : Nat) : ByteArray := ⟨#[UInt8.ofNat (48 + n)]⟩

set_option maxHeartbeats 1000000 in
set_option maxRecDepth 1000000 in
theorem numText_small (n : Nat) (hn : n = 1 ∨ n = 2) (w : World) :
    Calls Tryz.prog 119 #[.int .i64 n] w fun e w' => e = .returned (.string (dig1 n)) ∧ w' = w := by
  rcases hn with rfl | rfl
  · go_enter Tryz.func119, Tryz.ntmps119
    go_wp2
    go_ret
    exact ⟨rfl, rfl⟩
  · go_enter Tryz.func119, Tryz.ntmps119
    go_wp2
    go_ret
    exact ⟨rfl, rfl⟩

set_option maxHeartbeats 1000000 in
set_option maxRecDepth 1000000 in
theorem longWr_small (n : Nat) (hn : n = 1 ∨ n = 2) (w : World) :
    Calls Tryz.prog 117 #[.int .i64 n] w fun e w' => e = .returned (.string (dig1 n)) ∧ w' = w := by
  have N := numText_small n hn
  generalize dig1 n = s at *
  go_enter Tryz.func117, Tryz.ntmps117
  go_wp2_with (go_at_call 119; refine (N _).mono ?_; rintro e w' ⟨rfl, rfl⟩)
  go_ret
  exact ⟨rfl, rfl⟩

theorem mw_long (v : Value) (w : World) : (method 256 82 v "chancel/value.written").run Tryz.prog w = .ok (117, v) w := by kernel_rfl
theorem ew_long (v : Array Value) (w : World) : (callFunc 117 v).run Tryz.prog w = .ok (.enter 117 v) w := by kernel_rfl
theorem mw_elements (v : Value) (w : World) : (method 256 65 v "chancel/value.written").run Tryz.prog w = .ok (98, v) w := by kernel_rfl
theorem ew_elements (v : Array Value) (w : World) : (callFunc 98 v).run Tryz.prog w = .ok (.enter 98 v) w := by kernel_rfl

set_option maxHeartbeats 1000000 in
set_option maxRecDepth 1000000 in
/-- Text, out of what the content writes. -/
theorem text_of (r : R7) (T : TypeId) (f : FuncId) (x : Value) (s : ByteArray) (w : World) (C1 : ∀ w, Calls Tryz.prog 29 #[r.val] w fun e w' => e = .returned (.iface T x) ∧ Below w.heap.size w w')
    (hM : ∀ w, (method 256 T x "chancel/value.written").run Tryz.prog w = .ok (f, x) w) (hE : ∀ w, (callFunc f #[x]).run Tryz.prog w = .ok (.enter f #[x]) w)
    (C2 : ∀ w', Below w.heap.size w w' → Calls Tryz.prog f #[x] w' fun e w'' => e = .returned (.string s) ∧ Below w'.heap.size w' w'') :
    Calls Tryz.prog 19 #[r.val] w fun e w' => e = .returned (.string s) ∧ Below w.heap.size w w' := by
  unfold R7.val at *
  go_enter Tryz.func19, Tryz.ntmps19
  go_wp2_with fail
  have b1 : Below w.heap.size w (w.alloc (.cells #[.int .i64 r.k, .bool r.b, .int .i64 r.n, .string r.s, .string r.t, .string r.i, .slice r.lo r.ll r.lc] 26)) := below1 _ _
  generalize w.alloc _ = w1 at *
  refine (C1 w1).mono ?_
  rintro e w2 ⟨rfl, b12⟩
  have b2 := b1.trans (b12.mono b1.size)
  go_wp2_with fail
  refine (C2 w2 b2).mono ?_
  rintro e w3 ⟨rfl, b23⟩
  go_wp2
  go_ret
  exact ⟨rfl, b2.trans (b23.mono b2.size)⟩

theorem text_long (n : Nat) (hn : n = 1 ∨ n = 2) (w : World) :
    Calls Tryz.prog 19 #[(ofP (.long n)).val] w fun e w' => e = .returned (.string (dig1 n)) ∧ Below w.heap.size w w' :=
  text_of (ofP (.long n)) 82 117 (.int .i64 n) (dig1 n) w (fun w => contentOf_plain (.long n) _ w) (mw_long _) (ew_long _) (fun w' _ => (longWr_small n hn w').mono fun e w'' h => ⟨h.1, by rw [h.2]; exact Below.refl _ _⟩)

set_option maxHeartbeats 1000000 in
set_option maxRecDepth 1000000 in
theorem flat_plain (p : PV) (w : World) :
    Calls Tryz.prog 101 #[(ofP p).val] w fun e w' => e = .returned (ofP p).val ∧ Below w.heap.size w w' := by
  have hk : ((ofP p).k == 5) = false := by cases p <;> rfl
  generalize ofP p = r at *
  unfold R7.val
  go_enter Tryz.func101, Tryz.ntmps101
  go_wp2
  exact bodyPost_ret (v := .agg #[.int .i64 r.k, .bool r.b, .int .i64 r.n, .string r.s, .string r.t, .string r.i, .slice r.lo r.ll r.lc]) (by simp [results, Tryz.results101, go_sem]) rfl ⟨rfl, below2 _ _ _⟩
end Go.Proofs.YtgeibceijlaoaaaGreat
