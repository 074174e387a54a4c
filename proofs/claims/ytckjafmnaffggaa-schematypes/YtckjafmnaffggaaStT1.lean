/-
  chancellaw10.SchemaTypes: the walk.
-/
import Derived.Test.YtckjafmnaffggaaStA
namespace Go.Proofs.Ytckjafmnaffggaa
open Go.RowKit Go.Sort

set_option maxHeartbeats 4000000 in
set_option maxRecDepth 1000000 in
theorem types_bxxt (k0 o0 n0 k o : Int) (m : Nat) (tn : ByteArray) (w : World) (hk : wrap64 (k0 % 8 - 1) = k) (ho : wrap64 (o0 % 7 - 1) = o) (hm : (m : Int) = n0 % 4) (htn : tn4.getD m ⟨#[]⟩ = tn) (_h0 : ¬ k < 1) (_h1 : 5 < k) :
    Calls Try.prog 5 #[.int .i64 k0, .int .i64 o0, .int .i64 n0, .bool true] w fun e w' => e = .returned (.bool true) ∧ Below w.heap.size w w' := by
  have KN := known10_any w
  have W1 := fun w' => within10_any k0 8 (by decide) (by decide) w'
  have W2 := fun w' => within10_any o0 7 (by decide) (by decide) w'
  have W3 := fun w' => within10_any n0 4 (by decide) (by decide) w'
  have hm4 : m < 4 := by omega
  have i1 : (m : Int) < 4 := by omega
  rw [← hm] at W3
  have hx : ∀ w' : World, (w'.alloc (.cells tn4C 9)).cell? ⟨w'.heap.size, m, none⟩ = some (.string tn) := fun w' => by
    rw [Lib.cell_of_heap (alloc_heap w' (.cells tn4C 9)), ← htn]
    exact tn4_cell m hm4
  clear htn hm hm4
  have e4 : (k == 4) = false := by rw [beq_eq_false_iff_ne]; omega
  have e5 : (k == 5) = false := by rw [beq_eq_false_iff_ne]; omega
  have d1 : decide (k < 1) = false := decide_eq_false _h0
  have d5 : decide (5 < k) = true := decide_eq_true _h1
  have HT : typeC [⟨#[65]⟩, ⟨#[66]⟩] ⟨⟨#[102]⟩, k, 0, tn⟩ = 3 := ty_no (by omega)
  unfold tn4C at *
  generalize k0 % 8 = k8 at *
  generalize o0 % 7 = o7 at *
  go_enter Try.func5, Try.ntmps5
  go_wp2_with fail
  refine KN.mono ?_
  clear KN
  rintro x w1 ⟨rfl, b1⟩
  go_wp2_with fail
  refine (W1 _).mono ?_
  clear W1
  rintro x w1 ⟨rfl, rfl⟩
  go_wp2_with fail
  refine (W2 _).mono ?_
  clear W2
  rintro x w1 ⟨rfl, rfl⟩
  have hx := hx w1
  go_wp2_with fail
  refine (W3 _).mono ?_
  clear W3
  rintro x w1 ⟨rfl, rfl⟩
  go_wp2_with fail
  refine (two_call _ _ _ _ _ _).mono ?_
  rintro x w9 ⟨rfl, b9⟩
  rw [HT]
  go_wp2
  go_ret
  exact ⟨rfl, b1.trans (b9.mono b1.size)⟩

set_option maxHeartbeats 4000000 in
set_option maxRecDepth 1000000 in
theorem types_dxBt (k0 o0 n0 k o : Int) (m : Nat) (tn : ByteArray) (w : World) (hk : wrap64 (k0 % 8 - 1) = k) (ho : wrap64 (o0 % 7 - 1) = o) (hm : (m : Int) = n0 % 4) (htn : tn4.getD m ⟨#[]⟩ = tn) (_h0 : k = 4) (_t0 : tn = ⟨#[66]⟩) :
    Calls Try.prog 5 #[.int .i64 k0, .int .i64 o0, .int .i64 n0, .bool true] w fun e w' => e = .returned (.bool true) ∧ Below w.heap.size w w' := by
  have KN := known10_any w
  have W1 := fun w' => within10_any k0 8 (by decide) (by decide) w'
  have W2 := fun w' => within10_any o0 7 (by decide) (by decide) w'
  have W3 := fun w' => within10_any n0 4 (by decide) (by decide) w'
  have hm4 : m < 4 := by omega
  have i1 : (m : Int) < 4 := by omega
  rw [← hm] at W3
  have hx : ∀ w' : World, (w'.alloc (.cells tn4C 9)).cell? ⟨w'.heap.size, m, none⟩ = some (.string tn) := fun w' => by
    rw [Lib.cell_of_heap (alloc_heap w' (.cells tn4C 9)), ← htn]
    exact tn4_cell m hm4
  clear htn hm hm4
  subst _h0
  subst _t0
  have HT : typeC [⟨#[65]⟩, ⟨#[66]⟩] ⟨⟨#[102]⟩, 4, 0, ⟨#[66]⟩⟩ = 0 := (ty_fl (by omega)).trans (tyN_B)
  unfold tn4C at *
  generalize k0 % 8 = k8 at *
  generalize o0 % 7 = o7 at *
  go_enter Try.func5, Try.ntmps5
  go_wp2_with fail
  refine KN.mono ?_
  clear KN
  rintro x w1 ⟨rfl, b1⟩
  go_wp2_with fail
  refine (W1 _).mono ?_
  clear W1
  rintro x w1 ⟨rfl, rfl⟩
  go_wp2_with fail
  refine (W2 _).mono ?_
  clear W2
  rintro x w1 ⟨rfl, rfl⟩
  have hx := hx w1
  go_wp2_with fail
  refine (W3 _).mono ?_
  clear W3
  rintro x w1 ⟨rfl, rfl⟩
  go_wp2_with fail
  refine (two_call _ _ _ _ _ _).mono ?_
  rintro x w9 ⟨rfl, b9⟩
  rw [HT]
  go_wp2
  go_ret
  exact ⟨rfl, b1.trans (b9.mono b1.size)⟩

set_option maxHeartbeats 4000000 in
set_option maxRecDepth 1000000 in
theorem types_d0Of (k0 o0 n0 k o : Int) (m : Nat) (tn : ByteArray) (w : World) (hk : wrap64 (k0 % 8 - 1) = k) (ho : wrap64 (o0 % 7 - 1) = o) (hm : (m : Int) = n0 % 4) (htn : tn4.getD m ⟨#[]⟩ = tn) (_h0 : k = 4) (_q0 : o = 0) (_t0 : ¬ tn = ⟨#[65]⟩) (_t2 : ¬ tn = ⟨#[66]⟩) :
    Calls Try.prog 5 #[.int .i64 k0, .int .i64 o0, .int .i64 n0, .bool false] w fun e w' => e = .returned (.bool true) ∧ Below w.heap.size w w' := by
  have KN := known10_any w
  have W1 := fun w' => within10_any k0 8 (by decide) (by decide) w'
  have W2 := fun w' => within10_any o0 7 (by decide) (by decide) w'
  have W3 := fun w' => within10_any n0 4 (by decide) (by decide) w'
  have hm4 : m < 4 := by omega
  have i1 : (m : Int) < 4 := by omega
  rw [← hm] at W3
  have hx : ∀ w' : World, (w'.alloc (.cells tn4C 9)).cell? ⟨w'.heap.size, m, none⟩ = some (.string tn) := fun w' => by
    rw [Lib.cell_of_heap (alloc_heap w' (.cells tn4C 9)), ← htn]
    exact tn4_cell m hm4
  clear htn hm hm4
  subst _h0
  subst _q0
  have t1 : (tn.toList == [65]) = false := lit_ne (by decide) _t0
  have t3 : (tn.toList == [66]) = false := lit_ne (by decide) _t2
  have HT : typeC [⟨#[65]⟩, ⟨#[66]⟩] ⟨⟨#[102]⟩, 4, 0, tn⟩ = 2 := (ty_fl (by omega)).trans (tyN_O _t0 _t2)
  clear _t0 _t2
  unfold tn4C at *
  generalize k0 % 8 = k8 at *
  generalize o0 % 7 = o7 at *
  go_enter Try.func5, Try.ntmps5
  go_wp2_with fail
  refine KN.mono ?_
  clear KN
  rintro x w1 ⟨rfl, b1⟩
  go_wp2_with fail
  refine (W1 _).mono ?_
  clear W1
  rintro x w1 ⟨rfl, rfl⟩
  go_wp2_with fail
  refine (W2 _).mono ?_
  clear W2
  rintro x w1 ⟨rfl, rfl⟩
  have hx := hx w1
  go_wp2_with fail
  refine (W3 _).mono ?_
  clear W3
  rintro x w1 ⟨rfl, rfl⟩
  go_wp2_with fail
  refine (two_call _ _ _ _ _ _).mono ?_
  rintro x w9 ⟨rfl, b9⟩
  rw [HT]
  go_wp2
  go_ret
  exact ⟨rfl, b1.trans (b9.mono b1.size)⟩

set_option maxHeartbeats 4000000 in
set_option maxRecDepth 1000000 in
theorem types_emNt (k0 o0 n0 k o : Int) (m : Nat) (tn : ByteArray) (w : World) (hk : wrap64 (k0 % 8 - 1) = k) (ho : wrap64 (o0 % 7 - 1) = o) (hm : (m : Int) = n0 % 4) (htn : tn4.getD m ⟨#[]⟩ = tn) (_h0 : k = 5) (_q0 : ¬ o < 1) (_q3 : ¬ 4 < o) (_q4 : o ≤ 3) (_t0 : ¬ tn = ⟨#[]⟩) :
    Calls Try.prog 5 #[.int .i64 k0, .int .i64 o0, .int .i64 n0, .bool true] w fun e w' => e = .returned (.bool true) ∧ Below w.heap.size w w' := by
  have KN := known10_any w
  have W1 := fun w' => within10_any k0 8 (by decide) (by decide) w'
  have W2 := fun w' => within10_any o0 7 (by decide) (by decide) w'
  have W3 := fun w' => within10_any n0 4 (by decide) (by decide) w'
  have hm4 : m < 4 := by omega
  have i1 : (m : Int) < 4 := by omega
  rw [← hm] at W3
  have hx : ∀ w' : World, (w'.alloc (.cells tn4C 9)).cell? ⟨w'.heap.size, m, none⟩ = some (.string tn) := fun w' => by
    rw [Lib.cell_of_heap (alloc_heap w' (.cells tn4C 9)), ← htn]
    exact tn4_cell m hm4
  clear htn hm hm4
  subst _h0
  have q1 : (o == 4) = false := by rw [beq_eq_false_iff_ne]; omega
  have d2 : decide (o < 1) = false := decide_eq_false _q0
  have d3 : decide (4 < o) = false := decide_eq_false _q3
  have t1 : tn.toList.isEmpty = false := empty_no _t0
  have HT : typeC [⟨#[65]⟩, ⟨#[66]⟩] ⟨⟨#[102]⟩, 5, o, tn⟩ = 1 := (ty_5 (by omega)).trans (tyN_N (by omega) _t0)
  clear _q4 _t0
  unfold tn4C at *
  generalize k0 % 8 = k8 at *
  generalize o0 % 7 = o7 at *
  go_enter Try.func5, Try.ntmps5
  go_wp2_with fail
  refine KN.mono ?_
  clear KN
  rintro x w1 ⟨rfl, b1⟩
  go_wp2_with fail
  refine (W1 _).mono ?_
  clear W1
  rintro x w1 ⟨rfl, rfl⟩
  go_wp2_with fail
  refine (W2 _).mono ?_
  clear W2
  rintro x w1 ⟨rfl, rfl⟩
  have hx := hx w1
  go_wp2_with fail
  refine (W3 _).mono ?_
  clear W3
  rintro x w1 ⟨rfl, rfl⟩
  go_wp2_with fail
  refine (two_call _ _ _ _ _ _).mono ?_
  rintro x w9 ⟨rfl, b9⟩
  rw [HT]
  go_wp2
  go_ret
  exact ⟨rfl, b1.trans (b9.mono b1.size)⟩

set_option maxHeartbeats 4000000 in
set_option maxRecDepth 1000000 in
theorem types_emEf (k0 o0 n0 k o : Int) (m : Nat) (tn : ByteArray) (w : World) (hk : wrap64 (k0 % 8 - 1) = k) (ho : wrap64 (o0 % 7 - 1) = o) (hm : (m : Int) = n0 % 4) (htn : tn4.getD m ⟨#[]⟩ = tn) (_h0 : k = 5) (_q0 : ¬ o < 1) (_q3 : ¬ 4 < o) (_q4 : o ≤ 3) (_t0 : tn = ⟨#[]⟩) :
    Calls Try.prog 5 #[.int .i64 k0, .int .i64 o0, .int .i64 n0, .bool false] w fun e w' => e = .returned (.bool true) ∧ Below w.heap.size w w' := by
  have KN := known10_any w
  have W1 := fun w' => within10_any k0 8 (by decide) (by decide) w'
  have W2 := fun w' => within10_any o0 7 (by decide) (by decide) w'
  have W3 := fun w' => within10_any n0 4 (by decide) (by decide) w'
  have hm4 : m < 4 := by omega
  have i1 : (m : Int) < 4 := by omega
  rw [← hm] at W3
  have hx : ∀ w' : World, (w'.alloc (.cells tn4C 9)).cell? ⟨w'.heap.size, m, none⟩ = some (.string tn) := fun w' => by
    rw [Lib.cell_of_heap (alloc_heap w' (.cells tn4C 9)), ← htn]
    exact tn4_cell m hm4
  clear htn hm hm4
  subst _h0
  have q1 : (o == 4) = false := by rw [beq_eq_false_iff_ne]; omega
  have d2 : decide (o < 1) = false := decide_eq_false _q0
  have d3 : decide (4 < o) = false := decide_eq_false _q3
  subst _t0
  have HT : typeC [⟨#[65]⟩, ⟨#[66]⟩] ⟨⟨#[102]⟩, 5, o, ⟨#[]⟩⟩ = 0 := (ty_5 (by omega)).trans (tyN_E (by omega))
  clear _q4
  unfold tn4C at *
  generalize k0 % 8 = k8 at *
  generalize o0 % 7 = o7 at *
  go_enter Try.func5, Try.ntmps5
  go_wp2_with fail
  refine KN.mono ?_
  clear KN
  rintro x w1 ⟨rfl, b1⟩
  go_wp2_with fail
  refine (W1 _).mono ?_
  clear W1
  rintro x w1 ⟨rfl, rfl⟩
  go_wp2_with fail
  refine (W2 _).mono ?_
  clear W2
  rintro x w1 ⟨rfl, rfl⟩
  have hx := hx w1
  go_wp2_with fail
  refine (W3 _).mono ?_
  clear W3
  rintro x w1 ⟨rfl, rfl⟩
  go_wp2_with fail
  refine (two_call _ _ _ _ _ _).mono ?_
  rintro x w9 ⟨rfl, b9⟩
  rw [HT]
  go_wp2
  go_ret
  exact ⟨rfl, b1.trans (b9.mono b1.size)⟩
end Go.Proofs.Ytckjafmnaffggaa
