/-
  value.mayStandBy; the contents' value: what they return.
-/
import Derived.Test.YtifkkhngibjalaaVcH
import Derived.Test.YtifkkhngibjalaaR7A
namespace Go.Proofs.Ytifkkhngibjalaa
open Go.RowKit Go.Sort

def mayB (k k' : Int) : Bool := decide (k ≠ 5) && decide (k = k')

set_option maxHeartbeats 400000 in
set_option maxRecDepth 100000 in
theorem mayStandBy_any (r r' : R7) (w : World) :
    Calls Try.prog 73 #[r.val, r'.val] w fun e w' => e = .returned (.bool (mayB r.k r'.k)) ∧ Below w.heap.size w w' := by
  obtain ⟨k, b, n, s, t, i, lo, ll, lc⟩ := r
  obtain ⟨k', b', n', s', t', i', lo', ll', lc'⟩ := r'
  unfold R7.val
  simp only
  by_cases h1 : k = 5
  · have e1 : mayB k k' = false := by simp [mayB, h1]
    rw [e1]
    have hb : (k == 5) = true := by simpa using h1
    subst h1
    go_enter Try.func73, Try.ntmps73
    go_wp2
    go_ret
    exact ⟨rfl, below2 _ _ _⟩
  · have hb : (k == 5) = false := by simpa using h1
    by_cases h2 : k = k'
    · have e1 : mayB k k' = true := by simp [mayB, ← h2, h1]
      rw [e1]
      have hb3 : (k != 5) = true := by simpa using h1
      subst h2
      go_enter Try.func73, Try.ntmps73
      go_wp2
      go_ret
      exact ⟨rfl, below2 _ _ _⟩
    · have e1 : mayB k k' = false := by simp [mayB, h2]
      rw [e1]
      have hb2 : (k == k') = false := by simpa using h2
      go_enter Try.func73, Try.ntmps73
      go_wp2
      go_ret
      exact ⟨rfl, below2 _ _ _⟩

theorem size1 (w : World) (o : Obj) : (w.alloc o).heap.size = w.heap.size + 1 := by simp

set_option maxHeartbeats 400000 in
set_option maxRecDepth 100000 in
theorem truthVal_any (x : Bool) (w : World) :
    Calls Try.prog 102 #[.bool x] w fun e w' => e = .returned (ofP (.bool x)).val ∧ Below w.heap.size w w' := by
  go_enter Try.func102, Try.ntmps102
  go_wp2
  exact bodyPost_ret (v := .agg #[.int .i64 1, .bool x, .int .i64 0, .string ⟨#[]⟩, .string ⟨#[]⟩, .string ⟨#[]⟩, .slice none 0 0]) (by simp [results, Try.results102, go_sem]) rfl ⟨rfl, below1 _ _⟩

theorem mv_truth (v : Value) (w : World) : (method 242 108 v "chancel/value.value").run Try.prog w = .ok (102, v) w := by kernel_rfl
theorem ev_truth (v : Array Value) (w : World) : (callFunc 102 v).run Try.prog w = .ok (.enter 102 v) w := by kernel_rfl

set_option maxHeartbeats 400000 in
set_option maxRecDepth 100000 in
theorem longVal_any (x : Int) (w : World) :
    Calls Try.prog 105 #[.int .i64 x] w fun e w' => e = .returned (ofP (.long x)).val ∧ Below w.heap.size w w' := by
  go_enter Try.func105, Try.ntmps105
  go_wp2
  exact bodyPost_ret (v := .agg #[.int .i64 2, .bool false, .int .i64 x, .string ⟨#[]⟩, .string ⟨#[]⟩, .string ⟨#[]⟩, .slice none 0 0]) (by simp [results, Try.results105, go_sem]) rfl ⟨rfl, below1 _ _⟩

theorem mv_long (v : Value) (w : World) : (method 242 109 v "chancel/value.value").run Try.prog w = .ok (105, v) w := by kernel_rfl
theorem ev_long (v : Array Value) (w : World) : (callFunc 105 v).run Try.prog w = .ok (.enter 105 v) w := by kernel_rfl

set_option maxHeartbeats 400000 in
set_option maxRecDepth 100000 in
theorem strVal_any (x : List UInt8) (w : World) :
    Calls Try.prog 110 #[.string (ba x)] w fun e w' => e = .returned (ofP (.str x)).val ∧ Below w.heap.size w w' := by
  go_enter Try.func110, Try.ntmps110
  go_wp2
  exact bodyPost_ret (v := .agg #[.int .i64 3, .bool false, .int .i64 0, .string (ba x), .string ⟨#[]⟩, .string ⟨#[]⟩, .slice none 0 0]) (by simp [results, Try.results110, go_sem]) rfl ⟨rfl, below1 _ _⟩

theorem mv_str (v : Value) (w : World) : (method 242 110 v "chancel/value.value").run Try.prog w = .ok (110, v) w := by kernel_rfl
theorem ev_str (v : Array Value) (w : World) : (callFunc 110 v).run Try.prog w = .ok (.enter 110 v) w := by kernel_rfl

set_option maxHeartbeats 400000 in
set_option maxRecDepth 100000 in
theorem uidVal_any (x y : List UInt8) (w : World) :
    Calls Try.prog 115 #[.agg #[.string (ba x), .string (ba y)]] w fun e w' => e = .returned (ofP (.uid x y)).val ∧ Below w.heap.size w w' := by
  go_enter Try.func115, Try.ntmps115
  go_wp2
  exact bodyPost_ret (v := .agg #[.int .i64 4, .bool false, .int .i64 0, .string ⟨#[]⟩, .string (ba x), .string (ba y), .slice none 0 0]) (by simp [results, Try.results115, go_sem]) rfl ⟨rfl, below2 _ _ _⟩

theorem mv_uid (v : Value) (w : World) : (method 242 111 v "chancel/value.value").run Try.prog w = .ok (115, v) w := by kernel_rfl
theorem ev_uid (v : Array Value) (w : World) : (callFunc 115 v).run Try.prog w = .ok (.enter 115 v) w := by kernel_rfl

end Go.Proofs.Ytifkkhngibjalaa
