/-
  value.compare of plain values.
-/
import Derived.Test.YtnbbimcooilmdaaGreatVcC
namespace Go.Proofs.YtnbbimcooilmdaaGreat
open Go.RowKit Go.Sort

theorem cmp_kinds (p q : PV) (h : p.kind ≠ q.kind) : cmpP p q = cmpI p.kind q.kind := by
  cases p <;> cases q <;> first | rfl | exact absurd rfl h

theorem valP_form (p : PV) (lv : Value) : ∃ b n s t i, valP p lv = val7 (p.kind : Int) b n s t i lv := by
  cases p <;> exact ⟨_, _, _, _, _, rfl⟩

set_option maxHeartbeats 400000 in
set_option maxRecDepth 100000 in
theorem compare_kinds (k : Int) (b : Bool) (n : Int) (s t i : ByteArray) (lv : Value) (k' : Int) (b' : Bool) (n' : Int) (s' t' i' : ByteArray) (lv' : Value) (hk : k ≠ k') (w : World) :
    Calls Tryz.prog 92 #[val7 k b n s t i lv, val7 k' b' n' s' t' i' lv'] w fun e w' => e = .returned (.int .i64 (cmpI k k')) ∧ Below w.heap.size w w' := by
  have hb : (k == k') = false := by simpa using hk
  unfold val7
  go_enter Tryz.func92, Tryz.ntmps92
  go_wp2_with (go_at_call 94; refine (cmpInt_any _ _ _).mono ?_; rintro e w' ⟨rfl, rfl⟩)
  go_ret
  exact ⟨rfl, below2 _ _ _⟩

set_option maxHeartbeats 1000000 in
set_option maxRecDepth 100000 in
theorem compare_same (k : Int) (b : Bool) (n : Int) (s t i : ByteArray) (ao : Option Addr) (la ca : Nat) (b' : Bool) (n' : Int) (s' t' i' : ByteArray) (bo : Option Addr) (lb cb : Nat) (T : TypeId) (f : FuncId) (x y : Value) (r : Int) (w : World)
    (hN : ∀ w, (nilAhead 253 T x "chancel/value.compare").run Tryz.prog w = .ok (some false) w) (hM : ∀ w, (method 253 T x "chancel/value.compare").run Tryz.prog w = .ok (f, x) w) (hE : ∀ w, (callFunc f #[x, .iface T y]).run Tryz.prog w = .ok (.enter f #[x, .iface T y]) w)
    (C1 : ∀ w, Calls Tryz.prog 66 #[.agg #[.int .i64 k, .bool b, .int .i64 n, .string s, .string t, .string i, .slice ao la ca]] w fun e w' => e = .returned (.iface T x) ∧ Below w.heap.size w w')
    (C2 : ∀ w, Calls Tryz.prog 66 #[.agg #[.int .i64 k, .bool b', .int .i64 n', .string s', .string t', .string i', .slice bo lb cb]] w fun e w' => e = .returned (.iface T y) ∧ Below w.heap.size w w')
    (C3 : ∀ w2, Below w.heap.size w w2 → Calls Tryz.prog f #[x, .iface T y] w2 fun e w' => e = .returned (.int .i64 r) ∧ Below w2.heap.size w2 w') :
    Calls Tryz.prog 92 #[val7 k b n s t i (.slice ao la ca), val7 k b' n' s' t' i' (.slice bo lb cb)] w fun e w' => e = .returned (.int .i64 r) ∧ Below w.heap.size w w' := by
  unfold val7
  go_enter Tryz.func92, Tryz.ntmps92
  go_wp2_with fail
  generalize hw2 : (w.alloc (.cells #[.int .i64 k, .bool b, .int .i64 n, .string s, .string t, .string i, .slice ao la ca] 52)).alloc (.cells #[.int .i64 k, .bool b', .int .i64 n', .string s', .string t', .string i', .slice bo lb cb] 52) = w2
  have b02 : Below w.heap.size w w2 := by rw [← hw2]; exact below2 _ _ _
  have up : ∀ {a : Addr} {v : Value}, w2.cell? a = some v → ∀ d os, (grow (redrawn w2 d) os).cell? a = some v := fun h2 d os => cell_regrown h2 d os
  have A0 := up (a := ⟨w.heap.size, 0, none⟩) (v := .int .i64 k) (by rw [← hw2]; simp)
  have A1 := up (a := ⟨w.heap.size, 1, none⟩) (v := .bool b) (by rw [← hw2]; simp)
  have A2 := up (a := ⟨w.heap.size, 2, none⟩) (v := .int .i64 n) (by rw [← hw2]; simp)
  have A3 := up (a := ⟨w.heap.size, 3, none⟩) (v := .string s) (by rw [← hw2]; simp)
  have A4 := up (a := ⟨w.heap.size, 4, none⟩) (v := .string t) (by rw [← hw2]; simp)
  have A5 := up (a := ⟨w.heap.size, 5, none⟩) (v := .string i) (by rw [← hw2]; simp)
  have A6 := up (a := ⟨w.heap.size, 6, none⟩) (v := .slice ao la ca) (by rw [← hw2]; simp)
  have B0 := up (a := ⟨w.heap.size + 1, 0, none⟩) (v := .int .i64 k) (by rw [← hw2]; simp)
  have B1 := up (a := ⟨w.heap.size + 1, 1, none⟩) (v := .bool b') (by rw [← hw2]; simp)
  have B2 := up (a := ⟨w.heap.size + 1, 2, none⟩) (v := .int .i64 n') (by rw [← hw2]; simp)
  have B3 := up (a := ⟨w.heap.size + 1, 3, none⟩) (v := .string s') (by rw [← hw2]; simp)
  have B4 := up (a := ⟨w.heap.size + 1, 4, none⟩) (v := .string t') (by rw [← hw2]; simp)
  have B5 := up (a := ⟨w.heap.size + 1, 5, none⟩) (v := .string i') (by rw [← hw2]; simp)
  have B6 := up (a := ⟨w.heap.size + 1, 6, none⟩) (v := .slice bo lb cb) (by rw [← hw2]; simp)
  have cS1 := fun d os => Calls.regrown_of (w := w2) (d := d) (os := os) (C1 (grow (redrawn w2 d) os))
  have cS2 := fun d os => Calls.regrown_of (w := w2) (d := d) (os := os) (C2 (grow (redrawn w2 d) os))
  have cS3 := fun d os => Calls.regrown_of (w := w2) (d := d) (os := os) (C3 (grow (redrawn w2 d) os) (b02.trans ((below_regrown w2 d os).mono b02.size)))
  clear hw2 up C1 C2 C3
  refine wp_region_quiet_below (by kernel_rfl) (by kernel_rfl) ?_
  quiet_step (fail)
  quiet_step (exact cS1 _ _)
  quiet_step (fail)
  quiet_step (exact cS2 _ _)
  quiet_step (fail)
  quiet_step (fail)
  quiet_step (fail)
  quiet_step (exact cS3 _ _)
  quiet_step (fail)
  refine wpQuiet_nil ?_
  intro _ hw'
  obtain ⟨⟨dq, osq⟩, hw''⟩ := hw'
  subst hw''
  go_wp2
  go_ret
  exact ⟨rfl, b02.trans ((below_regrown w2 dq osq).mono b02.size)⟩

theorem na_truth (v : Value) (w : World) : (nilAhead 253 114 v "chancel/value.compare").run Tryz.prog w = .ok (some false) w := by kernel_rfl
theorem me_truth (v : Value) (w : World) : (method 253 114 v "chancel/value.compare").run Tryz.prog w = .ok (116, v) w := by kernel_rfl
theorem en_truth (v : Array Value) (w : World) : (callFunc 116 v).run Tryz.prog w = .ok (.enter 116 v) w := by kernel_rfl
set_option maxRecDepth 100000 in
theorem compare_truth (x y : Bool) (ao bo : Option Addr) (la ca lb cb : Nat) (w : World) :
    Calls Tryz.prog 92 #[valP (.bool x) (.slice ao la ca), valP (.bool y) (.slice bo lb cb)] w fun e w' => e = .returned (.int .i64 (cmpP (.bool x) (.bool y))) ∧ Below w.heap.size w w' :=
  compare_same _ _ _ _ _ _ _ _ _ _ _ _ _ _ _ _ _ 114 116 _ _ _ w (na_truth _) (me_truth _) (en_truth _) (fun w => contentOf_plain (.bool x) _ w) (fun w => contentOf_plain (.bool y) _ w) (fun w _ => (truthCmp_any _ _ w).mono fun e w' h => ⟨h.1, by rw [h.2]; exact Below.refl _ _⟩)

theorem na_long (v : Value) (w : World) : (nilAhead 253 115 v "chancel/value.compare").run Tryz.prog w = .ok (some false) w := by kernel_rfl
theorem me_long (v : Value) (w : World) : (method 253 115 v "chancel/value.compare").run Tryz.prog w = .ok (119, v) w := by kernel_rfl
theorem en_long (v : Array Value) (w : World) : (callFunc 119 v).run Tryz.prog w = .ok (.enter 119 v) w := by kernel_rfl
set_option maxRecDepth 100000 in
theorem compare_long (x y : Int) (ao bo : Option Addr) (la ca lb cb : Nat) (w : World) :
    Calls Tryz.prog 92 #[valP (.long x) (.slice ao la ca), valP (.long y) (.slice bo lb cb)] w fun e w' => e = .returned (.int .i64 (cmpP (.long x) (.long y))) ∧ Below w.heap.size w w' :=
  compare_same _ _ _ _ _ _ _ _ _ _ _ _ _ _ _ _ _ 115 119 _ _ _ w (na_long _) (me_long _) (en_long _) (fun w => contentOf_plain (.long x) _ w) (fun w => contentOf_plain (.long y) _ w) (fun w _ => (longCmp_any _ _ w).mono fun e w' h => ⟨h.1, by rw [h.2]; exact Below.refl _ _⟩)

theorem na_str (v : Value) (w : World) : (nilAhead 253 116 v "chancel/value.compare").run Tryz.prog w = .ok (some false) w := by kernel_rfl
theorem me_str (v : Value) (w : World) : (method 253 116 v "chancel/value.compare").run Tryz.prog w = .ok (124, v) w := by kernel_rfl
theorem en_str (v : Array Value) (w : World) : (callFunc 124 v).run Tryz.prog w = .ok (.enter 124 v) w := by kernel_rfl
set_option maxRecDepth 100000 in
theorem compare_str (x y : List UInt8) (ao bo : Option Addr) (la ca lb cb : Nat) (w : World) :
    Calls Tryz.prog 92 #[valP (.str x) (.slice ao la ca), valP (.str y) (.slice bo lb cb)] w fun e w' => e = .returned (.int .i64 (cmpP (.str x) (.str y))) ∧ Below w.heap.size w w' :=
  compare_same _ _ _ _ _ _ _ _ _ _ _ _ _ _ _ _ _ 116 124 _ _ _ w (na_str _) (me_str _) (en_str _) (fun w => contentOf_plain (.str x) _ w) (fun w => contentOf_plain (.str y) _ w) (fun w _ => (strCmp_any _ _ w).mono fun e w' h => ⟨h.1, by rw [h.2]; exact Below.refl _ _⟩)

theorem na_uid (v : Value) (w : World) : (nilAhead 253 117 v "chancel/value.compare").run Tryz.prog w = .ok (some false) w := by kernel_rfl
theorem me_uid (v : Value) (w : World) : (method 253 117 v "chancel/value.compare").run Tryz.prog w = .ok (129, v) w := by kernel_rfl
theorem en_uid (v : Array Value) (w : World) : (callFunc 129 v).run Tryz.prog w = .ok (.enter 129 v) w := by kernel_rfl
set_option maxRecDepth 100000 in
theorem compare_uid (x x2 y y2 : List UInt8) (ao bo : Option Addr) (la ca lb cb : Nat) (w : World) :
    Calls Tryz.prog 92 #[valP (.uid x x2) (.slice ao la ca), valP (.uid y y2) (.slice bo lb cb)] w fun e w' => e = .returned (.int .i64 (cmpP (.uid x x2) (.uid y y2))) ∧ Below w.heap.size w w' :=
  compare_same _ _ _ _ _ _ _ _ _ _ _ _ _ _ _ _ _ 117 129 _ _ _ w (na_uid _) (me_uid _) (en_uid _) (fun w => contentOf_plain (.uid x x2) _ w) (fun w => contentOf_plain (.uid y y2) _ w) (fun w _ => uidCmp_any _ _ _ _ w)

theorem compare_plain (p q : PV) (ao bo : Option Addr) (la ca lb cb : Nat) (w : World) :
    Calls Tryz.prog 92 #[valP p (.slice ao la ca), valP q (.slice bo lb cb)] w fun e w' => e = .returned (.int .i64 (cmpP p q)) ∧ Below w.heap.size w w' := by
  have K : p.kind ≠ q.kind → Calls Tryz.prog 92 #[valP p (.slice ao la ca), valP q (.slice bo lb cb)] w fun e w' => e = .returned (.int .i64 (cmpP p q)) ∧ Below w.heap.size w w' := fun h => by
    obtain ⟨b, n, s, t, i, e⟩ := valP_form p (.slice ao la ca)
    obtain ⟨b', n', s', t', i', e'⟩ := valP_form q (.slice bo lb cb)
    rw [e, e', cmp_kinds p q h]
    exact compare_kinds _ _ _ _ _ _ _ _ _ _ _ _ _ _ (by omega) w
  cases p <;> cases q
  case bool.bool => exact compare_truth _ _ _ _ _ _ _ _ w
  case long.long => exact compare_long _ _ _ _ _ _ _ _ w
  case str.str => exact compare_str _ _ _ _ _ _ _ _ w
  case uid.uid => exact compare_uid _ _ _ _ _ _ _ _ _ _ w
  all_goals exact K (fun h => by cases h)

theorem less_cmp (p q : PV) : decide (cmpP p q < 0) = lessP p q := by
  unfold cmpP
  cases lessP p q <;> cases lessP q p <;> rfl
theorem same_cmp (p q : PV) : (cmpP p q == 0) = decide (p = q) := by
  unfold cmpP
  rcases sto_lessP.tri p q with h | h | h
  · rw [h, decide_eq_false (by rintro rfl; rw [sto_lessP.irr] at h; cases h)]
    rfl
  · subst h
    rw [sto_lessP.irr, decide_eq_true rfl]
    rfl
  · rw [h, sto_lessP.asym h, decide_eq_false (by rintro rfl; rw [sto_lessP.irr] at h; cases h)]
    rfl
end Go.Proofs.YtnbbimcooilmdaaGreat
