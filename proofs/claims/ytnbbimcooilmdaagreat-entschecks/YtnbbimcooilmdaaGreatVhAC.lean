/-
  chancelref3.Str, Uid: what they return.
  chancelref3.clean: what it returns.
  chancelref3.clean of any value; Check of any value but a set: what they return.
-/
import Derived.Test.YtnbbimcooilmdaaGreatRIdent
import Derived.Test.YtnbbimcooilmdaaGreatOneRR
import Derived.Test.YtnbbimcooilmdaaGreatVdAD
namespace Go.Proofs.YtnbbimcooilmdaaGreat
open Go.RowKit

set_option maxHeartbeats 1000000 in
set_option maxRecDepth 1000000 in
theorem r3str_any (s : ByteArray) (w : World) (hs : s.size ≤ 1048576) :
    Calls Tryz.prog 60 #[.string s] w fun e w' => e = .returned (.int .i64 (chkT s.data.toList)) ∧ Below w.heap.size w w' := by
  have C := fun w => rcheck_any s w (by omega)
  by_cases hok : okL s.data.toList = true
  · have R := fun w => rrunes_row s w (by omega) hok
    rw [chk_ok hok] at C
    by_cases h30 : 30 < (runes s.data.toList).length
    · have e : chkT s.data.toList = 5 := by rw [chkT, hok, if_pos rfl, if_pos h30]
      rw [e]
      generalize (runes s.data.toList).length = n at *
      have i1 : (30 : Int) < (n : Int) := by omega
      clear hok e
      go_enter Tryz.func60, Tryz.ntmps60
      go_wp2_with fail
      refine (C _).mono ?_
      rintro e w2 ⟨rfl, rfl⟩
      go_wp2_with fail
      refine (R _).mono ?_
      rintro e w3 ⟨ao, cap, rfl, _, _, _, b3⟩
      go_wp2
      go_ret
      exact ⟨rfl, b3⟩
    · have e : chkT s.data.toList = 0 := by rw [chkT, hok, if_pos rfl, if_neg h30]
      rw [e]
      generalize (runes s.data.toList).length = n at *
      have i1 : ¬ (30 : Int) < (n : Int) := by omega
      clear hok e
      go_enter Tryz.func60, Tryz.ntmps60
      go_wp2_with fail
      refine (C _).mono ?_
      rintro e w2 ⟨rfl, rfl⟩
      go_wp2_with fail
      refine (R _).mono ?_
      rintro e w3 ⟨ao, cap, rfl, _, _, _, b3⟩
      go_wp2
      go_ret
      exact ⟨rfl, b3⟩
  · have hbad : okL s.data.toList = false := by simpa using hok
    rw [chk_bad hbad] at C
    have e : chkT s.data.toList = 11 := by rw [chkT, hbad]; rfl
    rw [e]
    clear hok hbad e
    go_enter Tryz.func60, Tryz.ntmps60
    go_wp2_with fail
    refine (C _).mono ?_
    rintro e w2 ⟨rfl, rfl⟩
    go_wp2
    go_ret
    exact ⟨rfl, Below.refl _ _⟩

set_option maxHeartbeats 1000000 in
set_option maxRecDepth 1000000 in
theorem r3uid_any (t i : ByteArray) (w : World) (ht : t.size ≤ 1048576) (hi : i.size ≤ 1048576) :
    Calls Tryz.prog 45 #[.agg #[.string t, .string i]] w fun e w' => e = .returned (.int .i64 (chkU t.data.toList i.data.toList)) ∧ Below w.heap.size w w' := by
  have N := fun w => rident_any t w ht
  have C := fun w => r3str_any i w hi
  have b1 := below1 w (.cells #[.string t, .string i] 25)
  have c1 : (w.alloc (.cells #[.string t, .string i] 25)).cell? ⟨w.heap.size, 1, none⟩ = some (.string i) := by simp
  cases hn : nameB t.data.toList with
  | true =>
    have e : chkU t.data.toList i.data.toList = chkT i.data.toList := by rw [chkU, hn]; rfl
    rw [e]
    rw [hn] at N
    clear hn e
    go_enter Tryz.func45, Tryz.ntmps45
    go_wp2_with fail
    generalize w.alloc _ = w1 at *
    refine (N _).mono ?_
    rintro e w2 ⟨rfl, rfl⟩
    go_wp2_with fail
    refine (C _).mono ?_
    rintro e w3 ⟨rfl, b3⟩
    go_wp2
    go_ret
    exact ⟨rfl, b1.trans (b3.mono b1.size)⟩
  | false =>
    have e : chkU t.data.toList i.data.toList = 15 := by rw [chkU, hn]; rfl
    rw [e]
    rw [hn] at N
    clear hn e
    go_enter Tryz.func45, Tryz.ntmps45
    go_wp2_with fail
    generalize w.alloc _ = w1 at *
    refine (N _).mono ?_
    rintro e w2 ⟨rfl, rfl⟩
    go_wp2
    go_ret
    exact ⟨rfl, b1⟩
end Go.Proofs.YtnbbimcooilmdaaGreat

namespace Go.Proofs.YtnbbimcooilmdaaGreat
open Go.RowKit

/-- Is what is not a value's kind's nought? -/
def clB (k : Int) (b : Bool) (n : Int) (s t i : ByteArray) (ll : Nat) : Bool := (k == 1 || !b) && ((k == 2 || n == 0) && ((k == 3 || s.toList.isEmpty) && ((k == 4 || (t.toList.isEmpty && i.toList.isEmpty)) && (k == 5 || (ll : Int) == 0))))

set_option maxHeartbeats 2000000 in
set_option maxRecDepth 1000000 in
theorem r3clean_1 (b : Bool) (n : Int) (s t i : ByteArray) (lo : Option Addr) (ll lc : Nat) (w : World) :
    Calls Tryz.prog 61 #[.agg #[.int .i64 1, .bool b, .int .i64 n, .string s, .string t, .string i, .slice lo ll lc]] w fun e w' => e = .returned (.bool (clB 1 b n s t i ll)) ∧ Below w.heap.size w w' := by
  go_enter Tryz.func61, Tryz.ntmps61
  go_wp2
  all_goals (
    go_ret
    refine ⟨ret_bool ?_, below1 _ _⟩
    simp [clB, *])

set_option maxHeartbeats 2000000 in
set_option maxRecDepth 1000000 in
theorem r3clean_2 (b : Bool) (n : Int) (s t i : ByteArray) (lo : Option Addr) (ll lc : Nat) (w : World) :
    Calls Tryz.prog 61 #[.agg #[.int .i64 2, .bool b, .int .i64 n, .string s, .string t, .string i, .slice lo ll lc]] w fun e w' => e = .returned (.bool (clB 2 b n s t i ll)) ∧ Below w.heap.size w w' := by
  go_enter Tryz.func61, Tryz.ntmps61
  go_wp2
  all_goals (
    go_ret
    refine ⟨ret_bool ?_, below1 _ _⟩
    simp [clB, *])

set_option maxHeartbeats 2000000 in
set_option maxRecDepth 1000000 in
theorem r3clean_3 (b : Bool) (n : Int) (s t i : ByteArray) (lo : Option Addr) (ll lc : Nat) (w : World) :
    Calls Tryz.prog 61 #[.agg #[.int .i64 3, .bool b, .int .i64 n, .string s, .string t, .string i, .slice lo ll lc]] w fun e w' => e = .returned (.bool (clB 3 b n s t i ll)) ∧ Below w.heap.size w w' := by
  go_enter Tryz.func61, Tryz.ntmps61
  go_wp2
  all_goals (
    go_ret
    refine ⟨ret_bool ?_, below1 _ _⟩
    simp [clB, *])

set_option maxHeartbeats 2000000 in
set_option maxRecDepth 1000000 in
theorem r3clean_4 (b : Bool) (n : Int) (s t i : ByteArray) (lo : Option Addr) (ll lc : Nat) (w : World) :
    Calls Tryz.prog 61 #[.agg #[.int .i64 4, .bool b, .int .i64 n, .string s, .string t, .string i, .slice lo ll lc]] w fun e w' => e = .returned (.bool (clB 4 b n s t i ll)) ∧ Below w.heap.size w w' := by
  go_enter Tryz.func61, Tryz.ntmps61
  go_wp2
  all_goals (
    go_ret
    refine ⟨ret_bool ?_, below1 _ _⟩
    simp [clB, *])

set_option maxHeartbeats 2000000 in
set_option maxRecDepth 1000000 in
theorem r3clean_5 (b : Bool) (n : Int) (s t i : ByteArray) (lo : Option Addr) (ll lc : Nat) (w : World) :
    Calls Tryz.prog 61 #[.agg #[.int .i64 5, .bool b, .int .i64 n, .string s, .string t, .string i, .slice lo ll lc]] w fun e w' => e = .returned (.bool (clB 5 b n s t i ll)) ∧ Below w.heap.size w w' := by
  go_enter Tryz.func61, Tryz.ntmps61
  go_wp2
  all_goals (
    go_ret
    refine ⟨ret_bool ?_, below1 _ _⟩
    simp [clB, *])

set_option maxHeartbeats 2000000 in
set_option maxRecDepth 1000000 in
theorem r3clean_o (k : Int) (b : Bool) (n : Int) (s t i : ByteArray) (lo : Option Addr) (ll lc : Nat) (h1 : (k == 1) = false) (h2 : (k == 2) = false) (h3 : (k == 3) = false) (h4 : (k == 4) = false) (h5 : (k == 5) = false) (w : World) :
    Calls Tryz.prog 61 #[.agg #[.int .i64 k, .bool b, .int .i64 n, .string s, .string t, .string i, .slice lo ll lc]] w fun e w' => e = .returned (.bool (clB k b n s t i ll)) ∧ Below w.heap.size w w' := by
  go_enter Tryz.func61, Tryz.ntmps61
  go_wp2
  all_goals (
    go_ret
    refine ⟨ret_bool ?_, below1 _ _⟩
    simp [clB, *])

end Go.Proofs.YtnbbimcooilmdaaGreat

namespace Go.Proofs.YtnbbimcooilmdaaGreat
open Go.RowKit

theorem empty_iff (s : ByteArray) : s.toList.isEmpty = true ↔ s = ba [] := by
  rw [ByteArray.toList_eq]
  constructor
  · intro h
    apply ByteArray.ext
    apply Array.toList_inj.1
    simpa [ba] using h
  · rintro rfl
    rfl
theorem clB_more (r : R7) : clB r.k r.b r.n r.s r.t r.i r.ll = !moreB r := by
  obtain ⟨k, b, n, s, t, i, lo, ll, lc⟩ := r
  rw [Bool.eq_iff_iff]
  simp only [clB, moreB, SameF, bareR, Bool.and_eq_true, Bool.or_eq_true, beq_iff_eq, empty_iff, Bool.not_eq_true', decide_eq_false_iff_not, Classical.not_not]
  constructor
  · rintro ⟨h1, h2, h3, h4, h5⟩
    refine ⟨?_, ?_, ?_, ?_, ?_, ?_⟩
    · split
      · rfl
      · exact h1.resolve_left (by assumption)
    · split
      · rfl
      · exact h2.resolve_left (by assumption)
    · split
      · rfl
      · exact h3.resolve_left (by assumption)
    · split
      · rfl
      · exact (h4.resolve_left (by assumption)).1
    · split
      · rfl
      · exact (h4.resolve_left (by assumption)).2
    · split
      · rfl
      · have := h5.resolve_left (by assumption)
        omega
  · rintro ⟨h1, h2, h3, h4, h5, h6⟩
    refine ⟨?_, ?_, ?_, ?_, ?_⟩
    · by_cases hk : k = 1
      · exact .inl hk
      · rw [if_neg hk] at h1
        exact .inr h1
    · by_cases hk : k = 2
      · exact .inl hk
      · rw [if_neg hk] at h2
        exact .inr h2
    · by_cases hk : k = 3
      · exact .inl hk
      · rw [if_neg hk] at h3
        exact .inr h3
    · by_cases hk : k = 4
      · exact .inl hk
      · rw [if_neg hk] at h4 h5
        exact .inr ⟨h4, h5⟩
    · by_cases hk : k = 5
      · exact .inl hk
      · rw [if_neg hk] at h6
        exact .inr (by omega)

theorem r3clean_any (r : R7) (w : World) : Calls Tryz.prog 61 #[r.val] w fun e w' => e = .returned (.bool (!moreB r)) ∧ Below w.heap.size w w' := by
  rw [← clB_more]
  obtain ⟨k, b, n, s, t, i, lo, ll, lc⟩ := r
  show Calls Tryz.prog 61 #[.agg #[.int .i64 k, .bool b, .int .i64 n, .string s, .string t, .string i, .slice lo ll lc]] w fun e w' => e = .returned (.bool (clB k b n s t i ll)) ∧ Below w.heap.size w w'
  by_cases h1 : k = 1
  · subst h1
    exact r3clean_1 b n s t i lo ll lc w
  by_cases h2 : k = 2
  · subst h2
    exact r3clean_2 b n s t i lo ll lc w
  by_cases h3 : k = 3
  · subst h3
    exact r3clean_3 b n s t i lo ll lc w
  by_cases h4 : k = 4
  · subst h4
    exact r3clean_4 b n s t i lo ll lc w
  by_cases h5 : k = 5
  · subst h5
    exact r3clean_5 b n s t i lo ll lc w
  exact r3clean_o k b n s t i lo ll lc (by simpa using h1) (by simpa using h2) (by simpa using h3) (by simpa using h4) (by simpa using h5) w

set_option maxHeartbeats 2000000 in
set_option maxRecDepth 1000000 in
theorem r3check_flat (r : R7) (w : World) (h5 : r.k ≠ 5) (hs : r.s.size ≤ 1048576) (ht : r.t.size ≤ 1048576) (hi : r.i.size ≤ 1048576) :
    Calls Tryz.prog 47 #[r.val] w fun e w' => e = .returned (.int .i64 (chkFlat r)) ∧ Below w.heap.size w w' := by
  have CL := fun w => r3clean_any r w
  have A := at7_new w r
  have b1 := below1 w (.cells #[.int .i64 r.k, .bool r.b, .int .i64 r.n, .string r.s, .string r.t, .string r.i, .slice r.lo r.ll r.lc] 52)
  have z1 := size1 w (.cells #[.int .i64 r.k, .bool r.b, .int .i64 r.n, .string r.s, .string r.t, .string r.i, .slice r.lo r.ll r.lc] 52)
  have ST := fun w => r3str_any r.s w hs
  have UI := fun w => r3uid_any r.t r.i w ht hi
  by_cases hk : r.k < 1 ∨ 5 < r.k
  · have e : chkFlat r = 3 := if_pos hk
    rw [e]
    have hk2 : r.k < 1 ∨ (¬ r.k < 1 ∧ 5 < r.k) := by omega
    clear e CL ST UI A
    unfold R7.val
    generalize r.k = k at *
    rcases hk2 with i1 | ⟨i1, i2⟩
    all_goals (
      clear hk h5
      go_enter Tryz.func47, Tryz.ntmps47
      go_wp2
      go_ret
      exact ⟨rfl, b1⟩)
  have i1 : ¬ r.k < 1 := by omega
  have i2 : ¬ 5 < r.k := by omega
  cases hm : moreB r with
  | true =>
    have e : chkFlat r = 1 := by rw [chkFlat, if_neg hk, hm]; rfl
    rw [e]
    rw [hm] at CL
    clear e hm hk ST UI
    unfold R7.val at *
    go_enter Tryz.func47, Tryz.ntmps47
    go_wp2_with fail
    generalize w.alloc _ = w1 at *
    refine (CL _).mono ?_
    rintro e w2 ⟨rfl, b2⟩
    go_wp2
    go_ret
    exact ⟨rfl, b1.trans (b2.mono b1.size)⟩
  | false =>
    rw [hm] at CL
    have e0 : chkFlat r = if r.k = 3 then chkT r.s.data.toList else if r.k = 4 then chkU r.t.data.toList r.i.data.toList else 0 := by rw [chkFlat, if_neg hk, hm]; rfl
    rw [e0]
    clear e0 hm hk
    have f5 : (r.k == 5) = false := by simpa using h5
    unfold R7.val at *
    by_cases h3 : r.k = 3
    · rw [if_pos h3]
      have f3 : (r.k == 3) = true := by simpa using h3
      generalize chkT r.s.data.toList = c at *
      clear h3 h5 UI
      go_enter Tryz.func47, Tryz.ntmps47
      go_wp2_with fail
      generalize w.alloc _ = w1 at *
      refine (CL _).mono ?_
      rintro e w2 ⟨rfl, b2⟩
      have A2 := A.below b2 (by omega)
      have b12 := b1.trans (b2.mono b1.size)
      clear A
      obtain ⟨x0, x1, x2, x3, x4, x5, x6⟩ := A2
      simp only [Nat.zero_add] at x1 x2 x3 x4 x5 x6
      go_wp2_with fail
      refine (ST _).mono ?_
      rintro e w3 ⟨rfl, b3⟩
      go_wp2
      go_ret
      exact ⟨rfl, b12.trans (b3.mono b12.size)⟩
    · rw [if_neg h3]
      have f3 : (r.k == 3) = false := by simpa using h3
      by_cases h4 : r.k = 4
      · rw [if_pos h4]
        have f4 : (r.k == 4) = true := by simpa using h4
        generalize chkU r.t.data.toList r.i.data.toList = c at *
        clear h3 h4 h5 ST
        go_enter Tryz.func47, Tryz.ntmps47
        go_wp2_with fail
        generalize w.alloc _ = w1 at *
        refine (CL _).mono ?_
        rintro e w2 ⟨rfl, b2⟩
        have A2 := A.below b2 (by omega)
        have b12 := b1.trans (b2.mono b1.size)
        clear A
        obtain ⟨x0, x1, x2, x3, x4, x5, x6⟩ := A2
        simp only [Nat.zero_add] at x1 x2 x3 x4 x5 x6
        go_wp2_with fail
        refine (UI _).mono ?_
        rintro e w3 ⟨rfl, b3⟩
        go_wp2
        go_ret
        exact ⟨rfl, b12.trans (b3.mono b12.size)⟩
      · rw [if_neg h4]
        have f4 : (r.k == 4) = false := by simpa using h4
        clear h3 h4 h5 ST UI
        go_enter Tryz.func47, Tryz.ntmps47
        go_wp2_with fail
        generalize w.alloc _ = w1 at *
        refine (CL _).mono ?_
        rintro e w2 ⟨rfl, b2⟩
        have A2 := A.below b2 (by omega)
        have b12 := b1.trans (b2.mono b1.size)
        clear A
        obtain ⟨x0, x1, x2, x3, x4, x5, x6⟩ := A2
        simp only [Nat.zero_add] at x1 x2 x3 x4 x5 x6
        go_wp2
        go_ret
        exact ⟨rfl, b12⟩
end Go.Proofs.YtnbbimcooilmdaaGreat
