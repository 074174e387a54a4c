/-
  utf8.RuneCountInString, value.isLetter, isDigit, isName, checkText, checkUid: what they return.
-/
import Derived.Test.YtbfkdmlnahajpabRunesW
import Derived.Test.YtbfkdmlnahajpabVcI
namespace Go.Proofs.Ytbfkdmlnahajpab
open Go.RowKit

set_option maxHeartbeats 4000000 in
set_option maxRecDepth 1000000 in
theorem runeCount_any (s : ByteArray) (w : World) (hs : s.size ≤ 1099511627776) :
    Calls Try.prog 35 #[.string s] w fun e w' => e = .returned (.int .i64 (runes s.data.toList).length) ∧ Below w.heap.size w w' := by
  go_enter Try.func35, Try.ntmps35
  go_wp2
  go_loopw [2] (fun nv wr => ∃ (pos n : Nat), pos ≤ s.size ∧ n ≤ pos ∧ nv = .int .i64 n ∧ wr.heap[w.heap.size]? = some (.stringIter s pos) ∧ Below w.heap.size w wr ∧ n + (runes (s.data.toList.drop pos)).length = (runes s.data.toList).length) (fun _ wr => s.size - wr.iterPos w.heap.size)
  case atStart =>
    refine ⟨0, 0, Nat.zero_le _, Nat.le_refl _, rfl, ?_, (Below.refl _ w).alloc (Nat.le_refl _) _, by simp⟩
    have := World.iter_heap w s 0
    simpa using this
  case round =>
    obtain ⟨pos, n, hpp, hnp, rfl, hit, hbw, hacc⟩ := hrel
    have Hacc := hide hacc
    clear hacc
    by_cases hlt : pos < s.size
    · have hnx : ∀ ty, (Instr.next (.pointer (some ⟨w.heap.size, 0, none⟩)) true ty).run Try.prog wr = _ := fun ty => Lib.run_next_any_at wr w.heap.size s pos ty hit hlt
      have hwd := Lib.decode_width_pos s pos hlt
      have hle := dec_in hlt
      have hit2 := Lib.iterAt_heap wr w.heap.size s pos (pos + (Utf8.decode s pos).2) hit
      have hbw2 := Lib.below_iterAt hbw (k := w.heap.size) (Nat.le_refl _) s (pos + (Utf8.decode s pos).2)
      have HR := hide (runes_at hlt)
      go_wp2
      go_roundw
      case rel =>
        refine ⟨pos + (Utf8.decode s pos).2, n + 1, hle, by omega, by go_num, hit2, hbw2, ?_⟩
        rw [← unhide Hacc, unhide HR, List.length_cons]
        omega
      case measure =>
        simp only [World.iterPos, hit2, hit]
        omega
    · have hnx : ∀ ty, (Instr.next (.pointer (some ⟨w.heap.size, 0, none⟩)) true ty).run Try.prog wr = _ := fun ty => Lib.run_next_end_at wr w.heap.size s pos ty hit hlt
      go_wp2
      go_ret
      refine ⟨ret_int ?_, hbw⟩
      have := unhide Hacc
      rw [drop_end hlt, runes_nil, List.length_nil] at this
      omega

/-- What a text is told by Check: none, too long, or good. -/
def chkT (l : List UInt8) : Int := if okL l then (if 30 < (runes l).length then 5 else 0) else 11

set_option maxHeartbeats 1000000 in
set_option maxRecDepth 1000000 in
theorem checkText_any (s : ByteArray) (w : World) (hs : s.size ≤ 1099511627776) :
    Calls Try.prog 27 #[.string s] w fun e w' => e = .returned (.int .i64 (chkT s.data.toList)) ∧ Below w.heap.size w w' := by
  have C := check_any s
  have R := fun w => runeCount_any s w hs
  by_cases hok : okL s.data.toList = true
  · rw [chk_ok hok] at C
    by_cases h30 : 30 < (runes s.data.toList).length
    · have e : chkT s.data.toList = 5 := by rw [chkT, hok, if_pos rfl, if_pos h30]
      rw [e]
      generalize (runes s.data.toList).length = n at *
      have i1 : (30 : Int) < (n : Int) := by omega
      clear hok e
      go_enter Try.func27, Try.ntmps27
      go_wp2_with fail
      refine (C _).mono ?_
      rintro e w2 ⟨rfl, b2⟩
      go_wp2_with fail
      refine (R _).mono ?_
      rintro e w3 ⟨rfl, b3⟩
      go_wp2
      go_ret
      exact ⟨rfl, b2.trans (b3.mono b2.size)⟩
    · have e : chkT s.data.toList = 0 := by rw [chkT, hok, if_pos rfl, if_neg h30]
      rw [e]
      generalize (runes s.data.toList).length = n at *
      have i1 : ¬ (30 : Int) < (n : Int) := by omega
      clear hok e
      go_enter Try.func27, Try.ntmps27
      go_wp2_with fail
      refine (C _).mono ?_
      rintro e w2 ⟨rfl, b2⟩
      go_wp2_with fail
      refine (R _).mono ?_
      rintro e w3 ⟨rfl, b3⟩
      go_wp2
      go_ret
      exact ⟨rfl, b2.trans (b3.mono b2.size)⟩
  · have hbad : okL s.data.toList = false := by simpa using hok
    rw [chk_bad hbad] at C
    have e : chkT s.data.toList = 11 := by rw [chkT, hbad]; rfl
    rw [e]
    clear hok hbad e
    go_enter Try.func27, Try.ntmps27
    go_wp2_with fail
    refine (C _).mono ?_
    rintro e w2 ⟨rfl, b2⟩
    go_wp2
    go_ret
    exact ⟨rfl, b2⟩

def letR (r : Int) : Bool := decide (65 ≤ r ∧ r ≤ 90) || decide (97 ≤ r ∧ r ≤ 122) || decide (r = 95)
def digR (r : Int) : Bool := decide (48 ≤ r ∧ r ≤ 57)

set_option maxHeartbeats 1000000 in
set_option maxRecDepth 1000000 in
theorem isDigit_any (r : Int) (w : World) : Calls Try.prog 43 #[.int .i32 r] w fun e w' => e = .returned (.bool (digR r)) ∧ w' = w := by
  by_cases h1 : 48 ≤ r
  · by_cases h2 : r ≤ 57
    · have e : digR r = true := decide_eq_true ⟨h1, h2⟩
      rw [e]
      go_enter Try.func43, Try.ntmps43
      go_wp2
      go_ret
      exact ⟨rfl, rfl⟩
    · have e : digR r = false := decide_eq_false (fun h => h2 h.2)
      rw [e]
      go_enter Try.func43, Try.ntmps43
      go_wp2
      go_ret
      exact ⟨rfl, rfl⟩
  · have e : digR r = false := decide_eq_false (fun h => h1 h.1)
    rw [e]
    go_enter Try.func43, Try.ntmps43
    go_wp2
    go_ret
    exact ⟨rfl, rfl⟩
end Go.Proofs.Ytbfkdmlnahajpab
