/-
  chancellaw1.TextRunes returns true, for every string and every slice of runes.
-/
import Derived.Test.YtiokpdpegkbgiaaDoorKnown
import Derived.Test.YtiokpdpegkbgiaaDoorOfW
import Derived.Test.YtiokpdpegkbgiaaDoorRRunes
namespace Go.Proofs.YtiokpdpegkbgiaaDoor
open Go.RowKit

set_option maxHeartbeats 4000000 in
set_option maxRecDepth 1000000 in
theorem runesLaw_long (s : ByteArray) (xs : List Int) (ao : Option Addr) (cap : Nat) (w : World) (hf : Fit w) (h : 1000 < s.size ∨ 500 < xs.length) :
    Calls Tryd.prog 3 #[.string s, .slice ao xs.length cap] w fun e w' => e = .returned (.bool true) ∧ Below w.heap.size w w' := by
  by_cases h1 : 1000 < s.size
  · go_enter Tryd.func3, Tryd.ntmps3
    go_wp2_with fail
    refine (known_any _ hf).mono ?_
    rintro e w1 ⟨rfl, b1⟩
    go_wp2
    go_ret
    exact ⟨rfl, b1⟩
  · have h2 : 500 < xs.length := by omega
    have h3 : s.size ≤ 1000 := by omega
    clear h h1
    go_enter Tryd.func3, Tryd.ntmps3
    go_wp2_with fail
    refine (known_any _ hf).mono ?_
    rintro e w1 ⟨rfl, b1⟩
    go_wp2
    go_ret
    exact ⟨rfl, b1⟩

set_option maxHeartbeats 4000000 in
set_option maxRecDepth 1000000 in
theorem runesLaw_short (s : ByteArray) (xs : List Int) (ao : Option Addr) (cap : Nat) (w : World) (hf : Fit w) (h1 : s.size ≤ 1000) (h2 : xs.length ≤ 500) (hx : ∀ x ∈ xs, -2147483648 ≤ x ∧ x ≤ 2147483647) (hrow : RowAt w ao xs) :
    Calls Tryd.prog 3 #[.string s, .slice ao xs.length cap] w fun e w' => e = .returned (.bool true) ∧ Below w.heap.size w w' := by
  go_enter Tryd.func3, Tryd.ntmps3
  go_wp2_with fail
  refine (known_any _ hf).mono ?_
  rintro e w1 ⟨rfl, b1⟩
  have r1 := hrow.below b1
  clear hf hrow
  go_wp2_with fail
  refine (check_any s _).mono ?_
  rintro e w2 ⟨rfl, b2⟩
  have bw2 := b1.trans (b2.mono b1.size)
  have r2 := r1.below b2
  clear r1
  go_wp2_with fail
  refine (rcheck_any s _ (by omega)).mono ?_
  rintro e w3 ⟨rfl, rfl⟩
  cases hok : okL s.data.toList
  · rw [chk_bad hok]
    go_wp2_with fail
    refine (rcheck_any s _ (by omega)).mono ?_
    rintro e w4 ⟨rfl, rfl⟩
    rw [chk_bad hok]
    clear hok
    go_wp2_with fail
    refine (of_any xs ao cap _ (by omega) hx r2).mono ?_
    rintro e w5 ⟨rfl, b5⟩
    have bw5 := bw2.trans (b5.mono bw2.size)
    have r5 := r2.below b5
    clear r2
    go_wp2_with fail
    refine (rof_any xs ao cap _ (by omega) r5).mono ?_
    rintro e w6 ⟨rfl, b6⟩
    have bw6 := bw5.trans (b6.mono bw5.size)
    have r6 := r5.below b6
    clear r5
    obtain ⟨t, ht⟩ : ∃ t : ByteArray, t = ⟨(ofS xs).toArray⟩ := ⟨_, rfl⟩
    rw [← ht]
    have htl : t.data.toList = ofS xs := by rw [ht]
    have HTL := hide htl
    clear ht htl
    cases hxs : ofOk xs
    · rw [ofE_bad hxs]
      clear hxs
      go_wp2
      go_ret
      exact ⟨rfl, bw6⟩
    · rw [ofE_ok hxs]
      have htz : t.size ≤ 2000 := by
        have := ofL_len xs
        rw [Lib.size_eq, unhide HTL, ofS_ok hxs]
        omega
      have hch : chk t.data.toList = 0 := by rw [unhide HTL, ofS_ok hxs]; exact chk_ok (okL_ofL xs hxs)
      have hru : runes t.data.toList = xs := by rw [unhide HTL, ofS_ok hxs]; exact runes_ofL xs hxs
      have HCH := hide hch
      have HRU := hide hru
      clear hxs hch hru
      go_wp2_with fail
      refine (check_any t _).mono ?_
      rintro e w7 ⟨rfl, b7⟩
      rw [unhide HCH]
      have bw7 := bw6.trans (b7.mono bw6.size)
      have r7 := r6.below b7
      clear r6
      go_wp2_with fail
      refine (runes_row t _ (by omega)).mono ?_
      rintro e w8 ⟨zo, cz, rfl, rz, lz, mz, b8⟩
      have bw8 := bw7.trans (b8.mono bw7.size)
      have r8 := r7.below b8
      rw [unhide HRU] at rz lz ⊢
      clear r7
      go_wp2_with fail
      refine (same_any xs xs zo ao cz cap _ rz r8 (by omega)).mono ?_
      rintro e w9 ⟨rfl, b9⟩
      rw [show (xs == xs) = true from beq_self_eq_true xs]
      go_wp2
      go_ret
      exact ⟨rfl, bw8.trans (b9.mono bw8.size)⟩
  · rw [chk_ok hok]
    have hback : ofS (runes s.data.toList) = s.data.toList := by rw [ofS_ok (ok_runes hok), ok_back hok]
    have hbe : ofE (runes s.data.toList) = 0 := ofE_ok (ok_runes hok)
    have hrl := runes_len _ s.data.toList (Nat.le_refl _)
    rw [← Lib.size_eq] at hrl
    have HBK := hide hback
    have HBE := hide hbe
    clear hback hbe
    go_wp2_with fail
    refine (rcheck_any s _ (by omega)).mono ?_
    rintro e w4 ⟨rfl, rfl⟩
    rw [chk_ok hok]
    have HOK := hide hok
    clear hok
    go_wp2_with fail
    refine (runes_row s _ (by omega)).mono ?_
    rintro e w4 ⟨yo, cy, rfl, ry, ly, my, b4⟩
    have bw4 := bw2.trans (b4.mono bw2.size)
    have r4 := r2.below b4
    clear r2
    go_wp2_with fail
    refine (of_any (runes s.data.toList) yo cy _ (by omega) (runes_range _ (unhide HOK)) ry).mono ?_
    rintro e w4b ⟨rfl, b4b⟩
    have bw4b := bw4.trans (b4b.mono bw4.size)
    have r4b := r4.below b4b
    have ry4b := ry.below b4b
    clear r4 ry
    rw [unhide HBK, unhide HBE]
    go_wp2_with fail
    refine (rrunes_row s _ (by omega) (unhide HOK)).mono ?_
    rintro e w4c ⟨uo, cu, rfl, ru, lu, mu, b4c⟩
    have bw4c := bw4b.trans (b4c.mono bw4b.size)
    have r4c := r4b.below b4c
    have ry4c := ry4b.below b4c
    clear r4b ry4b
    go_wp2_with fail
    refine (same_any _ _ yo uo cy cu _ ry4c ru (by omega)).mono ?_
    rintro e w4d ⟨rfl, b4d⟩
    have bw4d := bw4c.trans (b4d.mono bw4c.size)
    have r2 := r4c.below b4d
    clear r4c ry4c ru
    rw [show (runes s.data.toList == runes s.data.toList) = true from beq_self_eq_true _]
    have bw2 := bw4d
    have hse : (⟨s.data.toList.toArray⟩ : ByteArray) = s := by cases s; simp
    rw [hse]
    clear hse
    go_wp2_with fail
    refine (of_any xs ao cap _ (by omega) hx r2).mono ?_
    rintro e w5 ⟨rfl, b5⟩
    have bw5 := bw2.trans (b5.mono bw2.size)
    have r5 := r2.below b5
    clear r2
    go_wp2_with fail
    refine (rof_any xs ao cap _ (by omega) r5).mono ?_
    rintro e w6 ⟨rfl, b6⟩
    have bw6 := bw5.trans (b6.mono bw5.size)
    have r6 := r5.below b6
    clear r5
    obtain ⟨t, ht⟩ : ∃ t : ByteArray, t = ⟨(ofS xs).toArray⟩ := ⟨_, rfl⟩
    rw [← ht]
    have htl : t.data.toList = ofS xs := by rw [ht]
    have HTL := hide htl
    clear ht htl
    cases hxs : ofOk xs
    · rw [ofE_bad hxs]
      clear hxs
      go_wp2
      go_ret
      exact ⟨rfl, bw6⟩
    · rw [ofE_ok hxs]
      have htz : t.size ≤ 2000 := by
        have := ofL_len xs
        rw [Lib.size_eq, unhide HTL, ofS_ok hxs]
        omega
      have hch : chk t.data.toList = 0 := by rw [unhide HTL, ofS_ok hxs]; exact chk_ok (okL_ofL xs hxs)
      have hru : runes t.data.toList = xs := by rw [unhide HTL, ofS_ok hxs]; exact runes_ofL xs hxs
      have HCH := hide hch
      have HRU := hide hru
      clear hxs hch hru
      go_wp2_with fail
      refine (check_any t _).mono ?_
      rintro e w7 ⟨rfl, b7⟩
      rw [unhide HCH]
      have bw7 := bw6.trans (b7.mono bw6.size)
      have r7 := r6.below b7
      clear r6
      go_wp2_with fail
      refine (runes_row t _ (by omega)).mono ?_
      rintro e w8 ⟨zo, cz, rfl, rz, lz, mz, b8⟩
      have bw8 := bw7.trans (b8.mono bw7.size)
      have r8 := r7.below b8
      rw [unhide HRU] at rz lz ⊢
      clear r7
      go_wp2_with fail
      refine (same_any xs xs zo ao cz cap _ rz r8 (by omega)).mono ?_
      rintro e w9 ⟨rfl, b9⟩
      rw [show (xs == xs) = true from beq_self_eq_true xs]
      go_wp2
      go_ret
      exact ⟨rfl, bw8.trans (b9.mono bw8.size)⟩

theorem runesLaw_walk (s : ByteArray) (xs : List Int) (ao : Option Addr) (cap : Nat) (w : World) (hf : Fit w) (hx : ∀ x ∈ xs, -2147483648 ≤ x ∧ x ≤ 2147483647) (hrow : RowAt w ao xs) :
    Calls Tryd.prog 3 #[.string s, .slice ao xs.length cap] w fun e w' => e = .returned (.bool true) ∧ Below w.heap.size w w' := by
  by_cases h : 1000 < s.size ∨ 500 < xs.length
  · exact runesLaw_long s xs ao cap w hf h
  · exact runesLaw_short s xs ao cap w hf (by omega) (by omega) hx hrow
end Go.Proofs.YtiokpdpegkbgiaaDoor
