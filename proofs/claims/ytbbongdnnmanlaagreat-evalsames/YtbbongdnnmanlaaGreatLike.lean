/-
  text.Like and text.behind: what they return, for all bytes (of a text of fewer than 2^32 - 15 bytes).
-/
import Derived.Test.YtbbongdnnmanlaaGreatRunAll
import Derived.Test.YtbbongdnnmanlaaGreatPlain
import Derived.WalkKit
import Derived.BigCall
import Derived.Lib.OthersKept
import Derived.Lib.RuneCount
import Derived.WalkSmall
namespace Go.Proofs.YtbbongdnnmanlaaGreat
open Go.RowKit

set_option maxHeartbeats 1000000 in
theorem behind_any (s p : ByteArray) (st : Bool) (m : Int) (w : World) (hs : s.size < 4294967281) (hm : w.cell? ⟨0, 0, none⟩ = some (.int .i64 m)) :
    Calls Tryz.prog 53 #[.string s, .string p, .bool st] w fun e w' => e = .returned (.tuple #[.string ⟨(behL s.data.toList p.data.toList st).1.toArray⟩, .bool (behL s.data.toList p.data.toList st).2]) ∧ ∃ n, w' = w.drewN n := by
  cases st
  · go_enter Tryz.func53, Tryz.ntmps53
    go_wp2_with (first | (go_at_call 68; refine (Tryz.strings_CutPrefix _ _ _).mono ?_; rintro e w' ⟨rfl, rfl⟩))
    go_ret2
    exact ⟨rfl, 0, rfl⟩
  · go_enter Tryz.func53, Tryz.ntmps53
    go_wp2_with (first | (go_at_call 69; refine (Tryz.strings_Cut _ _ m _ hs hm).mono ?_; rintro e w' ⟨rfl, n, rfl⟩))
    go_ret2
    exact ⟨rfl, n, rfl⟩

set_option maxHeartbeats 4000000 in
set_option maxRecDepth 1000000 in
theorem like_any (s p : ByteArray) (m : Int) (w : World) (hs : s.size < 4294967281) (hp : p.size < 4294967281) (h1 : 0 < w.heap.size) (hm : w.cell? ⟨0, 0, none⟩ = some (.int .i64 m)) :
    Calls Tryz.prog 33 #[.string s, .string p] w fun e w' => e = .returned (.bool (likeL p.data.toList s.data.toList false [])) ∧ Below w.heap.size w w' := by
  go_enter Tryz.func33, Tryz.ntmps33
  go_wp2
  go_loopw [0, 5, 6] (fun s0 fr sd wr => ∃ (pos from_ : Nat) (sv : ByteArray) (st : Bool), s0 = .string sv ∧ fr = .int .i64 from_ ∧ sd = .bool st ∧ from_ ≤ pos ∧ pos ≤ p.size ∧ sv.size ≤ s.size ∧ wr.heap[w.heap.size]? = some (.stringIter p pos) ∧ Below w.heap.size w wr ∧
      likeL (p.data.toList.drop pos) sv.data.toList st ((p.data.toList.drop from_).take (pos - from_)) = likeL p.data.toList s.data.toList false []) (fun _ _ _ wr => p.size - wr.iterPos w.heap.size)
  case atStart =>
    refine ⟨0, 0, s, false, rfl, rfl, rfl, Nat.le_refl _, Nat.zero_le _, Nat.le_refl _, ?_, (Below.refl _ w).alloc (Nat.le_refl _) _, by simp⟩
    have := World.iter_heap w p 0
    simpa using this
  case round =>
    obtain ⟨pos, fr, sv, st, rfl, rfl, rfl, hfp, hpp, hsv, hit, hbw, hacc⟩ := hrel
    have hsz : w.heap.size < wr.heap.size := (Array.getElem?_eq_some_iff.1 hit).1
    by_cases hlt : pos < p.size
    · have hnx : ∀ ty, (Instr.next (.pointer (some ⟨w.heap.size, 0, none⟩)) true ty).run Tryz.prog wr = _ := fun ty => Lib.run_next_any_at wr w.heap.size p pos ty hit hlt
      have hwd := Lib.decode_width_pos p pos hlt
      have hit2 := Lib.iterAt_heap wr w.heap.size p pos (pos + (Utf8.decode p pos).2) hit
      have hbw2 := Lib.below_iterAt hbw (k := w.heap.size) (Nat.le_refl _) p (pos + (Utf8.decode p pos).2)
      have hm2 : (wr.iterAt w.heap.size p (pos + (Utf8.decode p pos).2)).cell? ⟨0, 0, none⟩ = some (.int .i64 m) := (hbw2.cell (p := ⟨0, 0, none⟩) h1).trans hm
      have hne : p.data.toList.drop pos ≠ [] := by
        intro h0
        have := congrArg List.length h0
        rw [List.length_drop, ← Lib.size_eq] at this
        simp at this
        omega
      have hle : pos + (Utf8.decode p pos).2 ≤ p.size := by
        have := Lib.decodeL_le (p.data.toList.drop pos) hne
        rw [Lib.decodeL_drop, List.length_drop, ← Lib.size_eq] at this
        omega
      have Hacc := hide hacc
      clear hacc
      by_cases h42 : (Utf8.decode p pos).1 = 42
      · obtain ⟨t, ht, hw1⟩ := star_of _ hne (by rw [Lib.decodeL_drop]; exact h42)
        rw [Lib.decodeL_drop] at hw1
        have ht2 : t = p.data.toList.drop (pos + 1) := by
          rw [← List.drop_drop, ht]
          rfl
        rw [hw1] at hit2 hbw2 hm2 hle
        have HT := hide ht
        have HT2 := hide ht2
        clear ht ht2
        go_wp2_with fail
        refine (behind_any sv (p.extract fr pos) st m _ (by omega) hm2).mono ?_
        rintro e w1 ⟨rfl, n, rfl⟩
        have hlen := behL_len sv.data.toList (p.extract fr pos).data.toList st
        generalize hbe : behL sv.data.toList (p.extract fr pos).data.toList st = be at *
        obtain ⟨bl, bb⟩ := be
        have HBE := hide hbe
        clear hbe
        cases bb
        · go_wp2
          go_ret
          refine ⟨ret_bool ?_, below_drewN hbw2 n⟩
          have e1 := unhide Hacc
          rw [unhide HT, likeL, if_pos rfl, ← extract_list, unhide HBE] at e1
          exact e1
        · go_wp2
          go_roundw
          case rel =>
            refine ⟨pos + 1, pos + 1, ⟨bl.toArray⟩, true, rfl, by go_num, rfl, Nat.le_refl _, by omega, ?_, ?_, below_drewN hbw2 n, ?_⟩
            · have h2 : bl.length ≤ sv.size := by rw [Lib.size_eq]; exact hlen
              show bl.toArray.size ≤ s.size
              simp
              omega
            · exact hit2
            · have e1 := unhide Hacc
              rw [unhide HT, likeL, if_pos rfl, ← extract_list, unhide HBE, unhide HT2] at e1
              rw [← e1]
              simp
          case measure =>
            have hit3 : ((wr.iterAt w.heap.size p (pos + 1)).drewN n).heap[w.heap.size]? = some (.stringIter p (pos + 1)) := hit2
            simp only [World.iterPos, hit3, hit]
            omega
      · have hskip := likeL_skip sv.data.toList st (Utf8.decode p pos).2 (p.data.toList.drop pos) ((p.data.toList.drop fr).take (pos - fr)) (by
          have := wide_nostar _ hne (by rw [Lib.decodeL_drop]; exact h42)
          rw [Lib.decodeL_drop] at this
          exact this)
        have HS := hide hskip
        clear hskip
        go_wp2
        go_roundw
        case rel =>
          refine ⟨pos + (Utf8.decode p pos).2, fr, sv, st, rfl, rfl, rfl, by omega, hle, hsv, hit2, hbw2, ?_⟩
          rw [← unhide Hacc, unhide HS, drop_step _ _ _ _ hfp, List.drop_drop]
        case measure =>
          simp only [World.iterPos, hit2, hit]
          omega
    · have hpe : pos = p.size := by omega
      subst hpe
      have hnx : ∀ ty, (Instr.next (.pointer (some ⟨w.heap.size, 0, none⟩)) true ty).run Tryz.prog wr = _ := fun ty => Lib.run_next_end_at wr w.heap.size p p.size ty hit hlt
      have hend : p.data.toList.drop p.size = [] := List.drop_eq_nil_of_le (by rw [← Lib.size_eq]; exact Nat.le_refl _)
      have Hacc := hide hacc
      have Hend := hide hend
      clear hacc hend
      cases st
      · go_wp2
        go_ret
        refine ⟨ret_bool ?_, hbw⟩
        have e1 := unhide Hacc
        rw [unhide Hend, likeL, if_neg (by decide), ← extract_list] at e1
        rw [← e1, ByteArray.toList_eq, ByteArray.toList_eq]
      · go_wp2_with (first | (go_at_call 54; refine (Tryz.strings_HasSuffix _ _ _ (by omega)).mono ?_; rintro e w' ⟨rfl, rfl⟩))
        go_ret
        refine ⟨ret_bool ?_, hbw⟩
        have e1 := unhide Hacc
        rw [unhide Hend, likeL, if_pos rfl] at e1
        exact e1
end Go.Proofs.YtbbongdnnmanlaaGreat
