/-
  value.checkText: what it returns.
-/
import Derived.Test.YtifkkhngibjalaaNames
import Derived.Test.YtifkkhngibjalaaVcI
namespace Go.Proofs.Ytifkkhngibjalaa
open Go.RowKit

/-- What a text is told by Check: none, too long, or good. -/
def chkT (l : List UInt8) : Int := if okL l then (if 30 < (runes l).length then 5 else 0) else 11

set_option maxHeartbeats 1000000 in
set_option maxRecDepth 1000000 in
theorem checkText_any (s : ByteArray) (w : World) (hs : s.size ≤ 1099511627776) :
    Calls Try.prog 66 #[.string s] w fun e w' => e = .returned (.int .i64 (chkT s.data.toList)) ∧ Below w.heap.size w w' := by
  have C := check_any s
  have R := fun w => runeCount_any s w hs
  by_cases hok : okL s.data.toList = true
  · rw [chk_ok hok] at C
    by_cases h30 : 30 < (runes s.data.toList).length
    · have e : chkT s.data.toList = 5 := by rw [chkT, hok, if_pos rfl, if_pos h30]
      rw [e]
      generalize (runes s.data.toList).length = n at *
      have i1 : (30 : Int) < (n : Int) := by omega
      clear hok e
      go_enter Try.func66, Try.ntmps66
      go_wp2_with fail
      refine (C _).mono ?_
      rintro e w2 ⟨rfl, b2⟩
      go_wp2_with fail
      refine (R _).mono ?_
      rintro e w3 ⟨rfl, b3⟩
      go_wp2
      go_ret
      exact ⟨rfl, b2.trans (b3.mono b2.size)⟩
    · have e : chkT s.data.toList = 0 := by rw [chkT, hok, if_pos rfl, if_neg h30]
      rw [e]
      generalize (runes s.data.toList).length = n at *
      have i1 : ¬ (30 : Int) < (n : Int) := by omega
      clear hok e
      go_enter Try.func66, Try.ntmps66
      go_wp2_with fail
      refine (C _).mono ?_
      rintro e w2 ⟨rfl, b2⟩
      go_wp2_with fail
      refine (R _).mono ?_
      rintro e w3 ⟨rfl, b3⟩
      go_wp2
      go_ret
      exact ⟨rfl, b2.trans (b3.mono b2.size)⟩
  · have hbad : okL s.data.toList = false := by simpa using hok
    rw [chk_bad hbad] at C
    have e : chkT s.data.toList = 11 := by rw [chkT, hbad]; rfl
    rw [e]
    clear hok hbad e
    go_enter Try.func66, Try.ntmps66
    go_wp2_with fail
    refine (C _).mono ?_
    rintro e w2 ⟨rfl, b2⟩
    go_wp2
    go_ret
    exact ⟨rfl, b2⟩

end Go.Proofs.Ytifkkhngibjalaa
