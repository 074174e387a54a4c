/-
  chancelref3.clean of any value; Check of any value but a set: what they return.
-/
import Derived.Test.YtgeibceijlaoaaaGreatVhB
namespace Go.Proofs.YtgeibceijlaoaaaGreat
open Go.RowKit

theorem empty_iff (s : ByteArray) : s.toList.isEmpty = true ↔ s = ba [] := by
  rw [ByteArray.toList_eq]
  constructor
  · intro h
    apply ByteArray.ext
    apply Array.toList_inj.1
    simpa [ba] using h
  · rintro rfl
    rfl
theorem clB_more (r : R7) : clB r.k r.b r.n r.s r.t r.i r.ll = !moreB r := by
  obtain ⟨k, b, n, s, t, i, lo, ll, lc⟩ := r
  rw [Bool.eq_iff_iff]
  simp only [clB, moreB, SameF, bareR, Bool.and_eq_true, Bool.or_eq_true, beq_iff_eq, empty_iff, Bool.not_eq_true', decide_eq_false_iff_not, Classical.not_not]
  constructor
  · rintro ⟨h1, h2, h3, h4, h5⟩
    refine ⟨?_, ?_, ?_, ?_, ?_, ?_⟩
    · split
      · rfl
      · exact h1.resolve_left (by assumption)
    · split
      · rfl
      · exact h2.resolve_left (by assumption)
    · split
      · rfl
      · exact h3.resolve_left (by assumption)
    · split
      · rfl
      · exact (h4.resolve_left (by assumption)).1
    · split
      · rfl
      · exact (h4.resolve_left (by assumption)).2
    · split
      · rfl
      · have := h5.resolve_left (by assumption)
        omega
  · rintro ⟨h1, h2, h3, h4, h5, h6⟩
    refine ⟨?_, ?_, ?_, ?_, ?_⟩
    · by_cases hk : k = 1
      · exact .inl hk
      · rw [if_neg hk] at h1
        exact .inr h1
    · by_cases hk : k = 2
      · exact .inl hk
      · rw [if_neg hk] at h2
        exact .inr h2
    · by_cases hk : k = 3
      · exact .inl hk
      · rw [if_neg hk] at h3
        exact .inr h3
    · by_cases hk : k = 4
      · exact .inl hk
      · rw [if_neg hk] at h4 h5
        exact .inr ⟨h4, h5⟩
    · by_cases hk : k = 5
      · exact .inl hk
      · rw [if_neg hk] at h6
        exact .inr (by omega)

theorem r3clean_any (r : R7) (w : World) : Calls Tryz.prog 32 #[r.val] w fun e w' => e = .returned (.bool (!moreB r)) ∧ Below w.heap.size w w' := by
  rw [← clB_more]
  obtain ⟨k, b, n, s, t, i, lo, ll, lc⟩ := r
  show Calls Tryz.prog 32 #[.agg #[.int .i64 k, .bool b, .int .i64 n, .string s, .string t, .string i, .slice lo ll lc]] w fun e w' => e = .returned (.bool (clB k b n s t i ll)) ∧ Below w.heap.size w w'
  by_cases h1 : k = 1
  · subst h1
    exact r3clean_1 b n s t i lo ll lc w
  by_cases h2 : k = 2
  · subst h2
    exact r3clean_2 b n s t i lo ll lc w
  by_cases h3 : k = 3
  · subst h3
    exact r3clean_3 b n s t i lo ll lc w
  by_cases h4 : k = 4
  · subst h4
    exact r3clean_4 b n s t i lo ll lc w
  by_cases h5 : k = 5
  · subst h5
    exact r3clean_5 b n s t i lo ll lc w
  exact r3clean_o k b n s t i lo ll lc (by simpa using h1) (by simpa using h2) (by simpa using h3) (by simpa using h4) (by simpa using h5) w

set_option maxHeartbeats 2000000 in
set_option maxRecDepth 1000000 in
theorem r3check_flat (r : R7) (w : World) (h5 : r.k ≠ 5) (hs : r.s.size ≤ 1048576) (ht : r.t.size ≤ 1048576) (hi : r.i.size ≤ 1048576) :
    Calls Tryz.prog 11 #[r.val] w fun e w' => e = .returned (.int .i64 (chkFlat r)) ∧ Below w.heap.size w w' := by
  have CL := fun w => r3clean_any r w
  have A := at7_new w r
  have b1 := below1 w (.cells #[.int .i64 r.k, .bool r.b, .int .i64 r.n, .string r.s, .string r.t, .string r.i, .slice r.lo r.ll r.lc] 26)
  have z1 := size1 w (.cells #[.int .i64 r.k, .bool r.b, .int .i64 r.n, .string r.s, .string r.t, .string r.i, .slice r.lo r.ll r.lc] 26)
  have ST := fun w => r3str_any r.s w hs
  have UI := fun w => r3uid_any r.t r.i w ht hi
  by_cases hk : r.k < 1 ∨ 5 < r.k
  · have e : chkFlat r = 3 := if_pos hk
    rw [e]
    have hk2 : r.k < 1 ∨ (¬ r.k < 1 ∧ 5 < r.k) := by omega
    clear e CL ST UI A
    unfold R7.val
    generalize r.k = k at *
    rcases hk2 with i1 | ⟨i1, i2⟩
    all_goals (
      clear hk h5
      go_enter Tryz.func11, Tryz.ntmps11
      go_wp2
      go_ret
      exact ⟨rfl, b1⟩)
  have i1 : ¬ r.k < 1 := by omega
  have i2 : ¬ 5 < r.k := by omega
  cases hm : moreB r with
  | true =>
    have e : chkFlat r = 1 := by rw [chkFlat, if_neg hk, hm]; rfl
    rw [e]
    rw [hm] at CL
    clear e hm hk ST UI
    unfold R7.val at *
    go_enter Tryz.func11, Tryz.ntmps11
    go_wp2_with fail
    generalize w.alloc _ = w1 at *
    refine (CL _).mono ?_
    rintro e w2 ⟨rfl, b2⟩
    go_wp2
    go_ret
    exact ⟨rfl, b1.trans (b2.mono b1.size)⟩
  | false =>
    rw [hm] at CL
    have e0 : chkFlat r = if r.k = 3 then chkT r.s.data.toList else if r.k = 4 then chkU r.t.data.toList r.i.data.toList else 0 := by rw [chkFlat, if_neg hk, hm]; rfl
    rw [e0]
    clear e0 hm hk
    have f5 : (r.k == 5) = false := by simpa using h5
    unfold R7.val at *
    by_cases h3 : r.k = 3
    · rw [if_pos h3]
      have f3 : (r.k == 3) = true := by simpa using h3
      generalize chkT r.s.data.toList = c at *
      clear h3 h5 UI
      go_enter Tryz.func11, Tryz.ntmps11
      go_wp2_with fail
      generalize w.alloc _ = w1 at *
      refine (CL _).mono ?_
      rintro e w2 ⟨rfl, b2⟩
      have A2 := A.below b2 (by omega)
      have b12 := b1.trans (b2.mono b1.size)
      clear A
      obtain ⟨x0, x1, x2, x3, x4, x5, x6⟩ := A2
      simp only [Nat.zero_add] at x1 x2 x3 x4 x5 x6
      go_wp2_with fail
      refine (ST _).mono ?_
      rintro e w3 ⟨rfl, b3⟩
      go_wp2
      go_ret
      exact ⟨rfl, b12.trans (b3.mono b12.size)⟩
    · rw [if_neg h3]
      have f3 : (r.k == 3) = false := by simpa using h3
      by_cases h4 : r.k = 4
      · rw [if_pos h4]
        have f4 : (r.k == 4) = true := by simpa using h4
        generalize chkU r.t.data.toList r.i.data.toList = c at *
        clear h3 h4 h5 ST
        go_enter Tryz.func11, Tryz.ntmps11
        go_wp2_with fail
        generalize w.alloc _ = w1 at *
        refine (CL _).mono ?_
        rintro e w2 ⟨rfl, b2⟩
        have A2 := A.below b2 (by omega)
        have b12 := b1.trans (b2.mono b1.size)
        clear A
        obtain ⟨x0, x1, x2, x3, x4, x5, x6⟩ := A2
        simp only [Nat.zero_add] at x1 x2 x3 x4 x5 x6
        go_wp2_with fail
        refine (UI _).mono ?_
        rintro e w3 ⟨rfl, b3⟩
        go_wp2
        go_ret
        exact ⟨rfl, b12.trans (b3.mono b12.size)⟩
      · rw [if_neg h4]
        have f4 : (r.k == 4) = false := by simpa using h4
        clear h3 h4 h5 ST UI
        go_enter Tryz.func11, Tryz.ntmps11
        go_wp2_with fail
        generalize w.alloc _ = w1 at *
        refine (CL _).mono ?_
        rintro e w2 ⟨rfl, b2⟩
        have A2 := A.below b2 (by omega)
        have b12 := b1.trans (b2.mono b1.size)
        clear A
        obtain ⟨x0, x1, x2, x3, x4, x5, x6⟩ := A2
        simp only [Nat.zero_add] at x1 x2 x3 x4 x5 x6
        go_wp2
        go_ret
        exact ⟨rfl, b12⟩
end Go.Proofs.YtgeibceijlaoaaaGreat
