/-
  within, text.broken, text.Check, text.Runes, text.Of: what they return.
-/
import Derived.Test.YtifkkhngibjalaaBuild
import Derived.Test.YtifkkhngibjalaaWorlds
import Derived.Test.YtifkkhngibjalaaRunesP
import Derived.Lib.RuneCount
import Derived.WalkSmall
namespace Go.Proofs.Ytifkkhngibjalaa
open Go.RowKit

theorem infoRune : (Try.prog.info? 21).map (fun i => (i.zero, i.size, i.bytes)) = some (some (.int .i32 0), 1, 4) := by kernel_rfl

theorem tmod_cases (a n : Int) (hn : 0 < n) : a.tmod n = a % n ∨ a.tmod n + n = a % n := by
  rw [Int.tmod_eq_emod]
  have : ((n.natAbs : Nat) : Int) = n := by omega
  split
  · left; omega
  · right; omega
theorem tmod_pos (a n : Int) (hn : 0 < n) (h : 0 ≤ a.tmod n) : a.tmod n = a % n := by
  have h1 := Int.emod_lt_of_pos a hn
  rcases tmod_cases a n hn with e | e
  · exact e
  · omega
theorem tmod_neg (a n : Int) (hn : 0 < n) (hn1 : n ≤ 4294967296) (h : a.tmod n < 0) : wrap64 (a.tmod n + n) = a % n := by
  have h0 := Int.emod_nonneg a (show n ≠ 0 by omega)
  have h1 := Int.emod_lt_of_pos a hn
  rcases tmod_cases a n hn with e | e
  · omega
  · rw [e]
    simp only [wrap64]
    omega

set_option maxHeartbeats 1000000 in
theorem within_any (a n : Int) (hn : 0 < n) (hn1 : n ≤ 4294967296) (w : World) :
    Calls Try.prog 55 #[.int .i64 a, .int .i64 n] w fun e w' => e = .returned (.int .i64 (a % n)) ∧ w' = w := by
  go_enter Try.func55, Try.ntmps55
  go_wp2
  · go_ret
    exact ⟨ret_int (tmod_neg a n hn hn1 (by assumption)), rfl⟩
  · go_ret
    exact ⟨ret_int (tmod_pos a n hn (by assumption)), rfl⟩

set_option maxHeartbeats 1000000 in
theorem broken_any (s : ByteArray) (at_ : Nat) (r : Int) (ha : at_ ≤ s.size) (w : World) :
    Calls Try.prog 76 #[.string s, .int .i64 at_, .int .i32 r] w fun e w' => e = .returned (.bool ((r == 65533) && !Lib.hasPrefix (s.data.toList.drop at_) [239, 191, 189])) ∧ w' = w := by
  by_cases hr : r = 65533
  · subst hr
    go_enter Try.func76, Try.ntmps76
    go_wp2_with (first | (go_at_call 78; refine (Try.strings_HasPrefix _ _ _).mono ?_; rintro e w' ⟨rfl, rfl⟩))
    go_ret
    refine ⟨ret_bool ?_, rfl⟩
    rw [List.take_of_length_le (by rw [List.length_drop, ← Lib.size_eq]; exact Nat.le_refl _)]
    rfl
  · have hb : (r == 65533) = false := by simp [hr]
    go_enter Try.func76, Try.ntmps76
    go_wp2
    go_ret
    refine ⟨ret_bool ?_, rfl⟩
    rw [hb]
    rfl

set_option maxHeartbeats 4000000 in
set_option maxRecDepth 1000000 in
theorem check_any (s : ByteArray) (w : World) :
    Calls Try.prog 71 #[.string s] w fun e w' => e = .returned (.int .i64 (chk s.data.toList)) ∧ Below w.heap.size w w' := by
  go_enter Try.func71, Try.ntmps71
  go_wp2
  go_loopw [] (fun wr => ∃ (pos : Nat), pos ≤ s.size ∧ wr.heap[w.heap.size]? = some (.stringIter s pos) ∧ Below w.heap.size w wr ∧ okL (s.data.toList.drop pos) = okL s.data.toList) (fun wr => s.size - wr.iterPos w.heap.size)
  case atStart =>
    refine ⟨0, Nat.zero_le _, ?_, (Below.refl _ w).alloc (Nat.le_refl _) _, by simp⟩
    have := World.iter_heap w s 0
    simpa using this
  case round =>
    obtain ⟨pos, hpp, hit, hbw, hacc⟩ := hrel
    have Hacc := hide hacc
    clear hacc
    by_cases hlt : pos < s.size
    · have hnx : ∀ ty, (Instr.next (.pointer (some ⟨w.heap.size, 0, none⟩)) true ty).run Try.prog wr = _ := fun ty => Lib.run_next_any_at wr w.heap.size s pos ty hit hlt
      have hwd := Lib.decode_width_pos s pos hlt
      have hle := dec_in hlt
      have hit2 := Lib.iterAt_heap wr w.heap.size s pos (pos + (Utf8.decode s pos).2) hit
      have hbw2 := Lib.below_iterAt hbw (k := w.heap.size) (Nat.le_refl _) s (pos + (Utf8.decode s pos).2)
      have HO := hide (okL_at hlt)
      go_wp2_with fail
      refine (broken_any s pos (Utf8.decode s pos).1 hpp _).mono ?_
      rintro e w1 ⟨rfl, rfl⟩
      generalize hbb : ((((Utf8.decode s pos).1 : Int) == 65533) && !Lib.hasPrefix (s.data.toList.drop pos) [239, 191, 189]) = bb
      have HB := hide hbb
      clear hbb
      cases bb
      · go_wp2
        go_roundw
        case rel =>
          refine ⟨pos + (Utf8.decode s pos).2, hle, hit2, hbw2, ?_⟩
          rw [← unhide Hacc, unhide HO, unhide HB]
          rfl
        case measure =>
          simp only [World.iterPos, hit2, hit]
          omega
      · go_wp2
        go_ret
        refine ⟨ret_int (chk_bad ?_).symm, hbw2⟩
        rw [← unhide Hacc, unhide HO, unhide HB]
        rfl
    · have hnx : ∀ ty, (Instr.next (.pointer (some ⟨w.heap.size, 0, none⟩)) true ty).run Try.prog wr = _ := fun ty => Lib.run_next_end_at wr w.heap.size s pos ty hit hlt
      go_wp2
      go_ret
      refine ⟨ret_int (chk_ok ?_).symm, hbw⟩
      rw [← unhide Hacc, drop_end hlt, okL_nil]

/-- The cells of a slice of runes. -/
def RowAt (w : World) (ao : Option Addr) (xs : List Int) : Prop :=
  ∀ j (hj : j < xs.length), ∃ b off, ao = some ⟨b, off, none⟩ ∧ b < w.heap.size ∧ w.cell? ⟨b, off + j, none⟩ = some (.int .i32 xs[j])

theorem RowAt.below {w w' : World} {ao : Option Addr} {xs : List Int} (h : RowAt w ao xs) (hb : Below w.heap.size w w') : RowAt w' ao xs := by
  intro j hj
  obtain ⟨b, off, e, hlt, hc⟩ := h j hj
  have := hb.size
  exact ⟨b, off, e, by omega, (hb.cell (p := ⟨b, off + j, none⟩) hlt).trans hc⟩
end Go.Proofs.Ytifkkhngibjalaa
