/-
  value.Check of any value that is no set.
-/
import Derived.Test.YtifkkhngibjalaaVdC
namespace Go.Proofs.Ytifkkhngibjalaa
open Go.RowKit Go.Sort

instance (r r' : R7) : Decidable (SameF r r') := by unfold SameF; infer_instance

/-- The value with nothing in the fields of other kinds. -/
def bareR (r : R7) : R7 := ⟨r.k, if r.k = 1 then r.b else false, if r.k = 2 then r.n else 0, if r.k = 3 then r.s else ba [], if r.k = 4 then r.t else ba [], if r.k = 4 then r.i else ba [], if r.k = 5 then r.lo else none, if r.k = 5 then r.ll else 0, if r.k = 5 then r.lc else 0⟩
def moreB (r : R7) : Bool := decide (¬ SameF r (bareR r))
def chkFlat (r : R7) : Int :=
  if r.k < 1 ∨ 5 < r.k then 3 else if moreB r then 1 else if r.k = 3 then chkT r.s.data.toList else if r.k = 4 then chkU r.t.data.toList r.i.data.toList else 0

theorem ba_of (s : ByteArray) : ba s.data.toList = s := rfl

theorem hasMore_any (r : R7) (w : World) : Calls Try.prog 60 #[r.val, (bareR r).val] w fun e w' => e = .returned (.bool (moreB r)) ∧ Below w.heap.size w w' := by
  unfold moreB
  by_cases h : SameF r (bareR r)
  · rw [decide_eq_false (fun hn => hn h)]
    exact hasMore_no r _ w h
  · rw [decide_eq_true h]
    exact hasMore_yes r _ w h

set_option maxHeartbeats 2000000 in
set_option maxRecDepth 1000000 in
theorem cc_truth (x : Value) (w : World) : Calls Try.prog 61 #[.iface 108 x] w fun e w' => e = .returned (.int .i64 0) ∧ Below w.heap.size w w' := by
  have h1 : ∀ w, (Instr.typeAssert (.iface 108 x) 99 110 true).run Try.prog w = .ok (.tuple #[.string ⟨#[]⟩, .bool false]) w := fun w => by kernel_rfl
  have h2 : ∀ w, (Instr.typeAssert (.iface 108 x) 99 111 true).run Try.prog w = .ok (.tuple #[.agg #[.string ⟨#[]⟩, .string ⟨#[]⟩], .bool false]) w := fun w => by kernel_rfl
  have h3 : ∀ w, (Instr.typeAssert (.iface 108 x) 99 112 true).run Try.prog w = .ok (.tuple #[.slice none 0 0, .bool false]) w := fun w => by kernel_rfl
  go_enter Try.func61, Try.ntmps61
  go_wp2
  go_ret
  exact ⟨rfl, Below.refl _ _⟩

set_option maxHeartbeats 2000000 in
set_option maxRecDepth 1000000 in
theorem cc_long (x : Value) (w : World) : Calls Try.prog 61 #[.iface 109 x] w fun e w' => e = .returned (.int .i64 0) ∧ Below w.heap.size w w' := by
  have h1 : ∀ w, (Instr.typeAssert (.iface 109 x) 99 110 true).run Try.prog w = .ok (.tuple #[.string ⟨#[]⟩, .bool false]) w := fun w => by kernel_rfl
  have h2 : ∀ w, (Instr.typeAssert (.iface 109 x) 99 111 true).run Try.prog w = .ok (.tuple #[.agg #[.string ⟨#[]⟩, .string ⟨#[]⟩], .bool false]) w := fun w => by kernel_rfl
  have h3 : ∀ w, (Instr.typeAssert (.iface 109 x) 99 112 true).run Try.prog w = .ok (.tuple #[.slice none 0 0, .bool false]) w := fun w => by kernel_rfl
  go_enter Try.func61, Try.ntmps61
  go_wp2
  go_ret
  exact ⟨rfl, Below.refl _ _⟩

set_option maxHeartbeats 2000000 in
set_option maxRecDepth 1000000 in
theorem cc_str (s : ByteArray) (w : World) (hs : s.size ≤ 1099511627776) : Calls Try.prog 61 #[.iface 110 (.string s)] w fun e w' => e = .returned (.int .i64 (chkT s.data.toList)) ∧ Below w.heap.size w w' := by
  have h1 : ∀ w, (Instr.typeAssert (.iface 110 (.string s)) 99 110 true).run Try.prog w = .ok (.tuple #[.string s, .bool true]) w := fun w => by kernel_rfl
  have C := fun w => checkText_any s w hs
  go_enter Try.func61, Try.ntmps61
  go_wp2_with fail
  refine (C _).mono ?_
  rintro e w2 ⟨rfl, b2⟩
  go_wp2
  go_ret
  exact ⟨rfl, b2⟩

set_option maxHeartbeats 2000000 in
set_option maxRecDepth 1000000 in
theorem cc_uid (t i : ByteArray) (w : World) (ht : t.size ≤ 1099511627776) (hi : i.size ≤ 1099511627776) : Calls Try.prog 61 #[.iface 111 (.agg #[.string t, .string i])] w fun e w' => e = .returned (.int .i64 (chkU t.data.toList i.data.toList)) ∧ Below w.heap.size w w' := by
  have h1 : ∀ w, (Instr.typeAssert (.iface 111 (.agg #[.string t, .string i])) 99 110 true).run Try.prog w = .ok (.tuple #[.string ⟨#[]⟩, .bool false]) w := fun w => by kernel_rfl
  have h2 : ∀ w, (Instr.typeAssert (.iface 111 (.agg #[.string t, .string i])) 99 111 true).run Try.prog w = .ok (.tuple #[.agg #[.string t, .string i], .bool true]) w := fun w => by kernel_rfl
  have C := fun w => checkUid_any t i w ht hi
  go_enter Try.func61, Try.ntmps61
  go_wp2_with fail
  have b1 := below1 w (.cells #[.string t, .string i] 111)
  refine (C _).mono ?_
  rintro e w2 ⟨rfl, b2⟩
  go_wp2
  go_ret
  exact ⟨rfl, b1.trans (b2.mono b1.size)⟩

theorem vcheck_flat (r : R7) (w : World) (h5 : r.k ≠ 5) (hs : r.s.size ≤ 1099511627776) (ht : r.t.size ≤ 1099511627776) (hi : r.i.size ≤ 1099511627776) :
    Calls Try.prog 53 #[r.val] w fun e w' => e = .returned (.int .i64 (chkFlat r)) ∧ Below w.heap.size w w' := by
  by_cases hk : r.k < 1 ∨ 5 < r.k
  · have e : chkFlat r = 3 := if_pos hk
    rw [e]
    exact vcheck_none r w hk
  · have hK : r.k = 1 ∨ r.k = 2 ∨ r.k = 3 ∨ r.k = 4 := by omega
    have hH := fun w => hasMore_any r w
    rcases hK with h | h | h | h
    · have eb : (bareR r).val = (ofP (.bool r.b)).val := by simp [bareR, h, R7.val, ofP]
      rw [eb] at hH
      exact vcheck_of r (ofP (.bool r.b)) 108 102 (.bool r.b) 0 _ (moreB r) w (fun w => contentOf_kind r _ _ w (.inl ⟨h, rfl, rfl⟩)) (fun w => ta_no _ _ w (by simp)) (mv_truth _) (ev_truth _) (fun w => truthVal_any r.b w) hH (fun _ w' _ => cc_truth _ w') (by rw [chkFlat, if_neg hk, if_neg (by omega : ¬ r.k = 3), if_neg (by omega : ¬ r.k = 4)])
    · have eb : (bareR r).val = (ofP (.long r.n)).val := by simp [bareR, h, R7.val, ofP]
      rw [eb] at hH
      exact vcheck_of r (ofP (.long r.n)) 109 105 (.int .i64 r.n) 0 _ (moreB r) w (fun w => contentOf_kind r _ _ w (.inr (.inl ⟨h, rfl, rfl⟩))) (fun w => ta_no _ _ w (by simp)) (mv_long _) (ev_long _) (fun w => longVal_any r.n w) hH (fun _ w' _ => cc_long _ w') (by rw [chkFlat, if_neg hk, if_neg (by omega : ¬ r.k = 3), if_neg (by omega : ¬ r.k = 4)])
    · have eb : (bareR r).val = (ofP (.str r.s.data.toList)).val := by simp [bareR, h, R7.val, ofP, ba_of]
      rw [eb] at hH
      exact vcheck_of r (ofP (.str r.s.data.toList)) 110 110 (.string r.s) (chkT r.s.data.toList) _ (moreB r) w (fun w => contentOf_kind r _ _ w (.inr (.inr (.inl ⟨h, rfl, rfl⟩)))) (fun w => ta_no _ _ w (by simp)) (mv_str _) (ev_str _) (fun w => strVal_any r.s.data.toList w) hH (fun _ w' _ => cc_str _ w' hs) (by rw [chkFlat, if_neg hk, if_pos h])
    · have eb : (bareR r).val = (ofP (.uid r.t.data.toList r.i.data.toList)).val := by simp [bareR, h, R7.val, ofP, ba_of]
      rw [eb] at hH
      exact vcheck_of r (ofP (.uid r.t.data.toList r.i.data.toList)) 111 115 (.agg #[.string r.t, .string r.i]) (chkU r.t.data.toList r.i.data.toList) _ (moreB r) w (fun w => contentOf_kind r _ _ w (.inr (.inr (.inr (.inl ⟨h, rfl, rfl⟩))))) (fun w => ta_no _ _ w (by simp)) (mv_uid _) (ev_uid _) (fun w => uidVal_any r.t.data.toList r.i.data.toList w) hH (fun _ w' _ => cc_uid _ _ w' ht hi) (by rw [chkFlat, if_neg hk, if_neg (by omega : ¬ r.k = 3), if_pos h])
end Go.Proofs.Ytifkkhngibjalaa
