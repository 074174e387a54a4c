/-
  chancellaw1.TextSize returns true, for every int.
-/
import Derived.Test.YtiokpdpegkbgiaaDoorKnown
import Derived.Test.YtiokpdpegkbgiaaDoorRunesW
import Derived.Test.YtiokpdpegkbgiaaDoorEncP
namespace Go.Proofs.YtiokpdpegkbgiaaDoor
open Go.RowKit

set_option maxHeartbeats 1000000 in
set_option maxRecDepth 100000 in
theorem size_walk (a : Int) (w : World) (hf : Fit w) :
    Calls Tryd.prog 8 #[.int .i64 a] w fun e w' => e = .returned (.bool true) ∧ Below w.heap.size w w' := by
  have q0 := Int.emod_nonneg a (show (1117112 : Int) ≠ 0 by decide)
  have q1 := Int.emod_lt_of_pos a (show (0 : Int) < 1117112 by decide)
  go_enter Tryd.func8, Tryd.ntmps8
  go_wp2_with fail
  refine (known_any _ hf).mono ?_
  rintro e w1 ⟨rfl, b1⟩
  go_wp2_with fail
  refine (within_any a 1117112 (by decide) (by decide) _).mono ?_
  rintro e w2 ⟨rfl, rfl⟩
  generalize a % 1117112 = q at *
  obtain ⟨n, rfl⟩ : ∃ n, q = n + 1000 := ⟨q - 1000, by omega⟩
  have n0 : -1000 ≤ n := by omega
  have n1 : n < 1116112 := by omega
  clear q0 q1
  go_wp2_with fail
  refine (of_any [n] (some ⟨w2.heap.size, 0, none⟩) 1 _ (by simp) (by simp; omega) ?_).mono ?_
  · intro j hj
    have hj0 : j = 0 := by simpa using hj
    subst hj0
    exact ⟨w2.heap.size, 0, rfl, by simp, by simp⟩
  rintro e w3 ⟨rfl, b3⟩
  have s1 := b1.size
  have b13 : Below w.heap.size w w3 := (b1.alloc s1 _).trans (b3.mono (by simp; omega))
  clear b3
  cases hv : Lib.validRune n
  · have hbad : (n < 0 ∨ 1114111 < n) ∨ (55296 ≤ n ∧ n ≤ 57343) := by
      have := of_decide_eq_false hv
      omega
    have e1 : ofS [n] = [] := ofS_bad (by simp [ofOk, hv])
    have e2 : ofE [n] = 11 := ofE_bad (by simp [ofOk, hv])
    rw [e1, e2]
    clear hv e1 e2
    rcases hbad with (h | h) | ⟨h, h'⟩
    · go_wp2
      go_ret
      exact ⟨rfl, b13⟩
    · go_wp2
      go_ret
      exact ⟨rfl, b13⟩
    · go_wp2
      go_ret
      exact ⟨rfl, b13⟩
  · have hok : ofOk [n] = true := by simp [ofOk, hv]
    have e1 : ofS [n] = Lib.encodeRune n := by rw [ofS_ok hok]; simp [ofL]
    have e2 : ofE [n] = 0 := ofE_ok hok
    rw [e1, e2]
    have hru : runes (Lib.encodeRune n) = [n] := by
      have := runes_enc hv []
      rwa [List.append_nil, runes_nil] at this
    have hra : (0 ≤ n ∧ n < 55296) ∨ (57343 < n ∧ n ≤ 1114111) := of_decide_eq_true hv
    clear hok e1 e2
    obtain ⟨bs, hbs⟩ : ∃ bs : ByteArray, bs = ⟨(Lib.encodeRune n).toArray⟩ := ⟨_, rfl⟩
    have hbl : bs.data.toList = Lib.encodeRune n := by rw [hbs]
    rw [← hbs]
    have hbz : bs.size = (Lib.encodeRune n).length := by rw [Lib.size_eq, hbl]
    have hcut1 : 128 ≤ n → chk (bs.extract 1 bs.size).data.toList = 11 := fun h => by
      apply chk_bad
      rw [extract_list, hbl, List.take_of_length_le (by rw [List.length_drop, hbz]; exact Nat.le_refl _)]
      exact okL_tail hv h
    have hcut2 : 128 ≤ n → chk (bs.extract 0 (bs.size - 1)).data.toList = 11 := fun h => by
      apply chk_bad
      rw [extract_list, hbl, List.drop_zero, hbz]
      exact okL_front hv h
    have HC1 := hide hcut1
    have HC2 := hide hcut2
    have HRU := hide hru
    have HBL := hide hbl
    clear hcut1 hcut2 hru hv hbl hbs
    have hcase : (0 ≤ n ∧ n < 128) ∨ (128 ≤ n ∧ n < 2048) ∨ (2048 ≤ n ∧ n < 55296) ∨ (57343 < n ∧ n < 65536) ∨ (65536 ≤ n ∧ n ≤ 1114111) := by omega
    clear hra
    rcases hcase with ⟨c0, c1⟩ | ⟨c0, c1⟩ | ⟨c0, c1⟩ | ⟨c0, c1⟩ | ⟨c0, c1⟩
    · have hz : bs.size = 1 := by rw [hbz, enc_len1 c0 c1]
      clear hbz
      go_wp2_with fail
      refine (runes_any bs _ (by omega)).mono ?_
      rintro e w4 ⟨v, rfl, hown, b4⟩
      rw [unhide HBL, unhide HRU] at hown
      obtain ⟨g, cap, rfl, hg0, hg1, hcap, hcell⟩ := owns_open hown (by simp)
      have hc0 := hcell 0 _ rfl
      simp only [List.length_cons, List.length_nil, Nat.zero_add] at *
      clear hcell hown
      have b14 := b13.trans (b4.mono b13.size)
      go_wp2
      go_ret
      exact ⟨rfl, b14⟩
    · have hz : bs.size = 2 := by rw [hbz, enc_len2 c0 c1]
      have hc1 : chk (bs.extract 1 2).data.toList = 11 := by rw [← hz]; exact unhide HC1 (by omega)
      have hc2 : chk (bs.extract 0 1).data.toList = 11 := by
        have := unhide HC2 (by omega)
        rw [hz] at this
        exact this
      have HD1 := hide hc1
      have HD2 := hide hc2
      clear hbz hc1 hc2
      go_wp2_with fail
      refine (runes_any bs _ (by omega)).mono ?_
      rintro e w4 ⟨v, rfl, hown, b4⟩
      rw [unhide HBL, unhide HRU] at hown
      obtain ⟨g, cap, rfl, hg0, hg1, hcap, hcell⟩ := owns_open hown (by simp)
      have hc0 := hcell 0 _ rfl
      simp only [List.length_cons, List.length_nil, Nat.zero_add] at *
      clear hcell hown
      have b14 := b13.trans (b4.mono b13.size)
      go_wp2_with fail
      refine (check_any _ _).mono ?_
      rintro e w5 ⟨rfl, b5⟩
      rw [unhide HD1]
      have b15 := b14.trans (b5.mono b14.size)
      go_wp2_with fail
      refine (check_any _ _).mono ?_
      rintro e w6 ⟨rfl, b6⟩
      rw [unhide HD2]
      go_wp2
      go_ret
      exact ⟨rfl, b15.trans (b6.mono b15.size)⟩
    · have hz : bs.size = 3 := by rw [hbz, enc_len3 (.inl ⟨c0, c1⟩)]
      have hc1 : chk (bs.extract 1 3).data.toList = 11 := by rw [← hz]; exact unhide HC1 (by omega)
      have hc2 : chk (bs.extract 0 2).data.toList = 11 := by
        have := unhide HC2 (by omega)
        rw [hz] at this
        exact this
      have HD1 := hide hc1
      have HD2 := hide hc2
      clear hbz hc1 hc2
      go_wp2_with fail
      refine (runes_any bs _ (by omega)).mono ?_
      rintro e w4 ⟨v, rfl, hown, b4⟩
      rw [unhide HBL, unhide HRU] at hown
      obtain ⟨g, cap, rfl, hg0, hg1, hcap, hcell⟩ := owns_open hown (by simp)
      have hc0 := hcell 0 _ rfl
      simp only [List.length_cons, List.length_nil, Nat.zero_add] at *
      clear hcell hown
      have b14 := b13.trans (b4.mono b13.size)
      go_wp2_with fail
      refine (check_any _ _).mono ?_
      rintro e w5 ⟨rfl, b5⟩
      rw [unhide HD1]
      have b15 := b14.trans (b5.mono b14.size)
      go_wp2_with fail
      refine (check_any _ _).mono ?_
      rintro e w6 ⟨rfl, b6⟩
      rw [unhide HD2]
      go_wp2
      go_ret
      exact ⟨rfl, b15.trans (b6.mono b15.size)⟩
    · have hz : bs.size = 3 := by rw [hbz, enc_len3 (.inr ⟨c0, c1⟩)]
      have hc1 : chk (bs.extract 1 3).data.toList = 11 := by rw [← hz]; exact unhide HC1 (by omega)
      have hc2 : chk (bs.extract 0 2).data.toList = 11 := by
        have := unhide HC2 (by omega)
        rw [hz] at this
        exact this
      have HD1 := hide hc1
      have HD2 := hide hc2
      clear hbz hc1 hc2
      go_wp2_with fail
      refine (runes_any bs _ (by omega)).mono ?_
      rintro e w4 ⟨v, rfl, hown, b4⟩
      rw [unhide HBL, unhide HRU] at hown
      obtain ⟨g, cap, rfl, hg0, hg1, hcap, hcell⟩ := owns_open hown (by simp)
      have hc0 := hcell 0 _ rfl
      simp only [List.length_cons, List.length_nil, Nat.zero_add] at *
      clear hcell hown
      have b14 := b13.trans (b4.mono b13.size)
      go_wp2_with fail
      refine (check_any _ _).mono ?_
      rintro e w5 ⟨rfl, b5⟩
      rw [unhide HD1]
      have b15 := b14.trans (b5.mono b14.size)
      go_wp2_with fail
      refine (check_any _ _).mono ?_
      rintro e w6 ⟨rfl, b6⟩
      rw [unhide HD2]
      go_wp2
      go_ret
      exact ⟨rfl, b15.trans (b6.mono b15.size)⟩
    · have hz : bs.size = 4 := by rw [hbz, enc_len4 c0 c1]
      have hc1 : chk (bs.extract 1 4).data.toList = 11 := by rw [← hz]; exact unhide HC1 (by omega)
      have hc2 : chk (bs.extract 0 3).data.toList = 11 := by
        have := unhide HC2 (by omega)
        rw [hz] at this
        exact this
      have HD1 := hide hc1
      have HD2 := hide hc2
      clear hbz hc1 hc2
      go_wp2_with fail
      refine (runes_any bs _ (by omega)).mono ?_
      rintro e w4 ⟨v, rfl, hown, b4⟩
      rw [unhide HBL, unhide HRU] at hown
      obtain ⟨g, cap, rfl, hg0, hg1, hcap, hcell⟩ := owns_open hown (by simp)
      have hc0 := hcell 0 _ rfl
      simp only [List.length_cons, List.length_nil, Nat.zero_add] at *
      clear hcell hown
      have b14 := b13.trans (b4.mono b13.size)
      go_wp2_with fail
      refine (check_any _ _).mono ?_
      rintro e w5 ⟨rfl, b5⟩
      rw [unhide HD1]
      have b15 := b14.trans (b5.mono b14.size)
      go_wp2_with fail
      refine (check_any _ _).mono ?_
      rintro e w6 ⟨rfl, b6⟩
      rw [unhide HD2]
      go_wp2
      go_ret
      exact ⟨rfl, b15.trans (b6.mono b15.size)⟩
end Go.Proofs.YtiokpdpegkbgiaaDoor
