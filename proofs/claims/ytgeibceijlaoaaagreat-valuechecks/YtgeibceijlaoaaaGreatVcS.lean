/-
  value.Same and Less of plain values; value.Holds.
-/
import Derived.Test.YtgeibceijlaoaaaGreatVcM
namespace Go.Proofs.YtgeibceijlaoaaaGreat
open Go.RowKit Go.Sort

theorem compare_ofP (p q : PV) (w : World) :
    Calls Tryz.prog 35 #[(ofP p).val, (ofP q).val] w fun e w' => e = .returned (.int .i64 (cmpP p q)) ∧ Below w.heap.size w w' := by
  rw [ofP_val, ofP_val]
  exact compare_plain p q none none 0 0 0 0 w

set_option maxHeartbeats 1000000 in
set_option maxRecDepth 1000000 in
/-- Same, out of what compare tells. -/
theorem same_of (r r' : R7) (x : Int) (w : World) (C : ∀ w', Below w.heap.size w w' → Calls Tryz.prog 35 #[r.val, r'.val] w' fun e w'' => e = .returned (.int .i64 x) ∧ Below w'.heap.size w' w'') :
    Calls Tryz.prog 13 #[r.val, r'.val] w fun e w' => e = .returned (.bool (x == 0)) ∧ Below w.heap.size w w' := by
  unfold R7.val at *
  go_enter Tryz.func13, Tryz.ntmps13
  go_wp2_with fail
  have b1 := below2 w (.cells #[.int .i64 r.k, .bool r.b, .int .i64 r.n, .string r.s, .string r.t, .string r.i, .slice r.lo r.ll r.lc] 26) (.cells #[.int .i64 r'.k, .bool r'.b, .int .i64 r'.n, .string r'.s, .string r'.t, .string r'.i, .slice r'.lo r'.ll r'.lc] 26)
  refine (C _ b1).mono ?_
  rintro e w2 ⟨rfl, b2⟩
  go_wp2
  go_ret
  exact ⟨rfl, b1.trans (b2.mono b1.size)⟩

set_option maxHeartbeats 1000000 in
set_option maxRecDepth 1000000 in
theorem less_of (r r' : R7) (x : Int) (w : World) (C : ∀ w', Below w.heap.size w w' → Calls Tryz.prog 35 #[r.val, r'.val] w' fun e w'' => e = .returned (.int .i64 x) ∧ Below w'.heap.size w' w'') :
    Calls Tryz.prog 15 #[r.val, r'.val] w fun e w' => e = .returned (.bool (decide (x < 0))) ∧ Below w.heap.size w w' := by
  unfold R7.val at *
  go_enter Tryz.func15, Tryz.ntmps15
  go_wp2_with fail
  have b1 := below2 w (.cells #[.int .i64 r.k, .bool r.b, .int .i64 r.n, .string r.s, .string r.t, .string r.i, .slice r.lo r.ll r.lc] 26) (.cells #[.int .i64 r'.k, .bool r'.b, .int .i64 r'.n, .string r'.s, .string r'.t, .string r'.i, .slice r'.lo r'.ll r'.lc] 26)
  refine (C _ b1).mono ?_
  rintro e w2 ⟨rfl, b2⟩
  go_wp2
  go_ret
  exact ⟨rfl, b1.trans (b2.mono b1.size)⟩

theorem same_plain (p q : PV) (w : World) :
    Calls Tryz.prog 13 #[(ofP p).val, (ofP q).val] w fun e w' => e = .returned (.bool (decide (p = q))) ∧ Below w.heap.size w w' := by
  rw [← same_cmp]
  exact same_of _ _ _ w fun w' _ => compare_ofP p q w'

theorem less_plain (p q : PV) (w : World) :
    Calls Tryz.prog 15 #[(ofP p).val, (ofP q).val] w fun e w' => e = .returned (.bool (lessP p q)) ∧ Below w.heap.size w w' := by
  rw [← less_cmp]
  exact less_of _ _ _ w fun w' _ => compare_ofP p q w'

set_option maxHeartbeats 1000000 in
set_option maxRecDepth 1000000 in
theorem holdsFn_plain (p q : PV) (vb : Nat) (w : World) (hvb : vb < w.heap.size) (A : At7 w vb 0 (ofP q)) :
    Calls Tryz.prog 37 #[(ofP p).val, .pointer (some ⟨vb, 0, none⟩)] w fun e w' => e = .returned (.bool (decide (p = q))) ∧ Below w.heap.size w w' := by
  have S := same_plain p q
  generalize decide (p = q) = x at *
  generalize ofP p = r at *
  generalize ofP q = r' at *
  unfold R7.val at *
  have b1 := below1 w (.cells #[.int .i64 r.k, .bool r.b, .int .i64 r.n, .string r.s, .string r.t, .string r.i, .slice r.lo r.ll r.lc] 26)
  obtain ⟨a0, a1, a2, a3, a4, a5, a6⟩ := A
  simp only [Nat.zero_add] at a1 a2 a3 a4 a5 a6
  go_enter Tryz.func37, Tryz.ntmps37
  go_wp2_with fail
  refine (S _).mono ?_
  rintro e w2 ⟨rfl, b2⟩
  go_wp2
  go_ret
  exact ⟨rfl, b1.trans (b2.mono b1.size)⟩
end Go.Proofs.YtgeibceijlaoaaaGreat
