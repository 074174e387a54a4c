/-
  value.mayStandBy; the contents' value: what they return.
-/
import Derived.Test.YtgeibceijlaoaaaGreatVcH
namespace Go.Proofs.YtgeibceijlaoaaaGreat
open Go.RowKit Go.Sort

/-- A value's seven fields. -/
structure R7 where
  k : Int
  b : Bool
  n : Int
  s : ByteArray
  t : ByteArray
  i : ByteArray
  lo : Option Addr
  ll : Nat
  lc : Nat

def R7.lv (r : R7) : Value := .slice r.lo r.ll r.lc

def R7.cells (r : R7) : List Value := [.int .i64 r.k, .bool r.b, .int .i64 r.n, .string r.s, .string r.t, .string r.i, .slice r.lo r.ll r.lc]
def R7.val (r : R7) : Value := .agg #[.int .i64 r.k, .bool r.b, .int .i64 r.n, .string r.s, .string r.t, .string r.i, .slice r.lo r.ll r.lc]
/-- A plain value, its list nil. -/
def ofP (p : PV) : R7 :=
  match p with
  | .bool b => ⟨1, b, 0, ba [], ba [], ba [], none, 0, 0⟩
  | .long n => ⟨2, false, n, ba [], ba [], ba [], none, 0, 0⟩
  | .str s => ⟨3, false, 0, ba s, ba [], ba [], none, 0, 0⟩
  | .uid t i => ⟨4, false, 0, ba [], ba t, ba i, none, 0, 0⟩
theorem ofP_val (p : PV) : (ofP p).val = valP p (.slice none 0 0) := by cases p <;> rfl
theorem ofP_k (p : PV) : (ofP p).k = p.kind := by cases p <;> rfl

def mayB (k k' : Int) : Bool := decide (k ≠ 5) && decide (k = k')

set_option maxHeartbeats 400000 in
set_option maxRecDepth 100000 in
theorem mayStandBy_any (r r' : R7) (w : World) :
    Calls Tryz.prog 43 #[r.val, r'.val] w fun e w' => e = .returned (.bool (mayB r.k r'.k)) ∧ Below w.heap.size w w' := by
  obtain ⟨k, b, n, s, t, i, lo, ll, lc⟩ := r
  obtain ⟨k', b', n', s', t', i', lo', ll', lc'⟩ := r'
  unfold R7.val
  simp only
  by_cases h1 : k = 5
  · have e1 : mayB k k' = false := by simp [mayB, h1]
    rw [e1]
    have hb : (k == 5) = true := by simpa using h1
    subst h1
    go_enter Tryz.func43, Tryz.ntmps43
    go_wp2
    go_ret
    exact ⟨rfl, below2 _ _ _⟩
  · have hb : (k == 5) = false := by simpa using h1
    by_cases h2 : k = k'
    · have e1 : mayB k k' = true := by simp [mayB, ← h2, h1]
      rw [e1]
      have hb3 : (k != 5) = true := by simpa using h1
      subst h2
      go_enter Tryz.func43, Tryz.ntmps43
      go_wp2
      go_ret
      exact ⟨rfl, below2 _ _ _⟩
    · have e1 : mayB k k' = false := by simp [mayB, h2]
      rw [e1]
      have hb2 : (k == k') = false := by simpa using h2
      go_enter Tryz.func43, Tryz.ntmps43
      go_wp2
      go_ret
      exact ⟨rfl, below2 _ _ _⟩

theorem size1 (w : World) (o : Obj) : (w.alloc o).heap.size = w.heap.size + 1 := by simp

set_option maxHeartbeats 400000 in
set_option maxRecDepth 100000 in
theorem truthVal_any (x : Bool) (w : World) :
    Calls Tryz.prog 111 #[.bool x] w fun e w' => e = .returned (ofP (.bool x)).val ∧ Below w.heap.size w w' := by
  go_enter Tryz.func111, Tryz.ntmps111
  go_wp2
  exact bodyPost_ret (v := .agg #[.int .i64 1, .bool x, .int .i64 0, .string ⟨#[]⟩, .string ⟨#[]⟩, .string ⟨#[]⟩, .slice none 0 0]) (by simp [results, Tryz.results111, go_sem]) rfl ⟨rfl, below1 _ _⟩

theorem mv_truth (v : Value) (w : World) : (method 256 81 v "chancel/value.value").run Tryz.prog w = .ok (111, v) w := by kernel_rfl
theorem ev_truth (v : Array Value) (w : World) : (callFunc 111 v).run Tryz.prog w = .ok (.enter 111 v) w := by kernel_rfl

set_option maxHeartbeats 400000 in
set_option maxRecDepth 100000 in
theorem longVal_any (x : Int) (w : World) :
    Calls Tryz.prog 116 #[.int .i64 x] w fun e w' => e = .returned (ofP (.long x)).val ∧ Below w.heap.size w w' := by
  go_enter Tryz.func116, Tryz.ntmps116
  go_wp2
  exact bodyPost_ret (v := .agg #[.int .i64 2, .bool false, .int .i64 x, .string ⟨#[]⟩, .string ⟨#[]⟩, .string ⟨#[]⟩, .slice none 0 0]) (by simp [results, Tryz.results116, go_sem]) rfl ⟨rfl, below1 _ _⟩

theorem mv_long (v : Value) (w : World) : (method 256 82 v "chancel/value.value").run Tryz.prog w = .ok (116, v) w := by kernel_rfl
theorem ev_long (v : Array Value) (w : World) : (callFunc 116 v).run Tryz.prog w = .ok (.enter 116 v) w := by kernel_rfl

set_option maxHeartbeats 400000 in
set_option maxRecDepth 100000 in
theorem strVal_any (x : List UInt8) (w : World) :
    Calls Tryz.prog 135 #[.string (ba x)] w fun e w' => e = .returned (ofP (.str x)).val ∧ Below w.heap.size w w' := by
  go_enter Tryz.func135, Tryz.ntmps135
  go_wp2
  exact bodyPost_ret (v := .agg #[.int .i64 3, .bool false, .int .i64 0, .string (ba x), .string ⟨#[]⟩, .string ⟨#[]⟩, .slice none 0 0]) (by simp [results, Tryz.results135, go_sem]) rfl ⟨rfl, below1 _ _⟩

theorem mv_str (v : Value) (w : World) : (method 256 83 v "chancel/value.value").run Tryz.prog w = .ok (135, v) w := by kernel_rfl
theorem ev_str (v : Array Value) (w : World) : (callFunc 135 v).run Tryz.prog w = .ok (.enter 135 v) w := by kernel_rfl

set_option maxHeartbeats 400000 in
set_option maxRecDepth 100000 in
theorem uidVal_any (x y : List UInt8) (w : World) :
    Calls Tryz.prog 143 #[.agg #[.string (ba x), .string (ba y)]] w fun e w' => e = .returned (ofP (.uid x y)).val ∧ Below w.heap.size w w' := by
  go_enter Tryz.func143, Tryz.ntmps143
  go_wp2
  exact bodyPost_ret (v := .agg #[.int .i64 4, .bool false, .int .i64 0, .string ⟨#[]⟩, .string (ba x), .string (ba y), .slice none 0 0]) (by simp [results, Tryz.results143, go_sem]) rfl ⟨rfl, below2 _ _ _⟩

theorem mv_uid (v : Value) (w : World) : (method 256 84 v "chancel/value.value").run Tryz.prog w = .ok (143, v) w := by kernel_rfl
theorem ev_uid (v : Array Value) (w : World) : (callFunc 143 v).run Tryz.prog w = .ok (.enter 143 v) w := by kernel_rfl

end Go.Proofs.YtgeibceijlaoaaaGreat
