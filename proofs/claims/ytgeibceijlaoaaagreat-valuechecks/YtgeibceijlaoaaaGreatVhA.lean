/-
  chancelref3.Str, Uid: what they return.
-/
import Derived.Test.YtgeibceijlaoaaaGreatRIdent
import Derived.Test.YtgeibceijlaoaaaGreatRRunes
import Derived.Test.YtgeibceijlaoaaaGreatVdA
namespace Go.Proofs.YtgeibceijlaoaaaGreat
open Go.RowKit

set_option maxHeartbeats 1000000 in
set_option maxRecDepth 1000000 in
theorem r3str_any (s : ByteArray) (w : World) (hs : s.size ≤ 1048576) :
    Calls Tryz.prog 33 #[.string s] w fun e w' => e = .returned (.int .i64 (chkT s.data.toList)) ∧ Below w.heap.size w w' := by
  have C := fun w => rcheck_any s w (by omega)
  by_cases hok : okL s.data.toList = true
  · have R := fun w => rrunes_row s w (by omega) hok
    rw [chk_ok hok] at C
    by_cases h30 : 30 < (runes s.data.toList).length
    · have e : chkT s.data.toList = 5 := by rw [chkT, hok, if_pos rfl, if_pos h30]
      rw [e]
      generalize (runes s.data.toList).length = n at *
      have i1 : (30 : Int) < (n : Int) := by omega
      clear hok e
      go_enter Tryz.func33, Tryz.ntmps33
      go_wp2_with fail
      refine (C _).mono ?_
      rintro e w2 ⟨rfl, rfl⟩
      go_wp2_with fail
      refine (R _).mono ?_
      rintro e w3 ⟨ao, cap, rfl, _, _, _, b3⟩
      go_wp2
      go_ret
      exact ⟨rfl, b3⟩
    · have e : chkT s.data.toList = 0 := by rw [chkT, hok, if_pos rfl, if_neg h30]
      rw [e]
      generalize (runes s.data.toList).length = n at *
      have i1 : ¬ (30 : Int) < (n : Int) := by omega
      clear hok e
      go_enter Tryz.func33, Tryz.ntmps33
      go_wp2_with fail
      refine (C _).mono ?_
      rintro e w2 ⟨rfl, rfl⟩
      go_wp2_with fail
      refine (R _).mono ?_
      rintro e w3 ⟨ao, cap, rfl, _, _, _, b3⟩
      go_wp2
      go_ret
      exact ⟨rfl, b3⟩
  · have hbad : okL s.data.toList = false := by simpa using hok
    rw [chk_bad hbad] at C
    have e : chkT s.data.toList = 11 := by rw [chkT, hbad]; rfl
    rw [e]
    clear hok hbad e
    go_enter Tryz.func33, Tryz.ntmps33
    go_wp2_with fail
    refine (C _).mono ?_
    rintro e w2 ⟨rfl, rfl⟩
    go_wp2
    go_ret
    exact ⟨rfl, Below.refl _ _⟩

set_option maxHeartbeats 1000000 in
set_option maxRecDepth 1000000 in
theorem r3uid_any (t i : ByteArray) (w : World) (ht : t.size ≤ 1048576) (hi : i.size ≤ 1048576) :
    Calls Tryz.prog 34 #[.agg #[.string t, .string i]] w fun e w' => e = .returned (.int .i64 (chkU t.data.toList i.data.toList)) ∧ Below w.heap.size w w' := by
  have N := fun w => rident_any t w ht
  have C := fun w => r3str_any i w hi
  have b1 := below1 w (.cells #[.string t, .string i] 23)
  have c1 : (w.alloc (.cells #[.string t, .string i] 23)).cell? ⟨w.heap.size, 1, none⟩ = some (.string i) := by simp
  cases hn : nameB t.data.toList with
  | true =>
    have e : chkU t.data.toList i.data.toList = chkT i.data.toList := by rw [chkU, hn]; rfl
    rw [e]
    rw [hn] at N
    clear hn e
    go_enter Tryz.func34, Tryz.ntmps34
    go_wp2_with fail
    generalize w.alloc _ = w1 at *
    refine (N _).mono ?_
    rintro e w2 ⟨rfl, rfl⟩
    go_wp2_with fail
    refine (C _).mono ?_
    rintro e w3 ⟨rfl, b3⟩
    go_wp2
    go_ret
    exact ⟨rfl, b1.trans (b3.mono b1.size)⟩
  | false =>
    have e : chkU t.data.toList i.data.toList = 15 := by rw [chkU, hn]; rfl
    rw [e]
    rw [hn] at N
    clear hn e
    go_enter Tryz.func34, Tryz.ntmps34
    go_wp2_with fail
    generalize w.alloc _ = w1 at *
    refine (N _).mono ?_
    rintro e w2 ⟨rfl, rfl⟩
    go_wp2
    go_ret
    exact ⟨rfl, b1⟩
end Go.Proofs.YtgeibceijlaoaaaGreat
