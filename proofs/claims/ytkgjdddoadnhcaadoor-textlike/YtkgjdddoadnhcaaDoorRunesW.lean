/-
  within, text.broken, text.Check, text.Runes, text.Of: what they return.
-/
import Derived.Test.YtkgjdddoadnhcaaDoorBuild
import Derived.Test.YtkgjdddoadnhcaaDoorWorlds
import Derived.Test.YtkgjdddoadnhcaaDoorRunesP
import Derived.Lib.RuneCount
import Derived.WalkSmall
namespace Go.Proofs.YtkgjdddoadnhcaaDoor
open Go.RowKit

theorem infoRune : (Tryd.prog.info? 21).map (fun i => (i.zero, i.size, i.bytes)) = some (some (.int .i32 0), 1, 4) := by kernel_rfl

theorem tmod_cases (a n : Int) (hn : 0 < n) : a.tmod n = a % n ∨ a.tmod n + n = a % n := by
  rw [Int.tmod_eq_emod]
  have : ((n.natAbs : Nat) : Int) = n := by omega
  split
  · left; omega
  · right; omega
theorem tmod_pos (a n : Int) (hn : 0 < n) (h : 0 ≤ a.tmod n) : a.tmod n = a % n := by
  have h1 := Int.emod_lt_of_pos a hn
  rcases tmod_cases a n hn with e | e
  · exact e
  · omega
theorem tmod_neg (a n : Int) (hn : 0 < n) (hn1 : n ≤ 4294967296) (h : a.tmod n < 0) : wrap64 (a.tmod n + n) = a % n := by
  have h0 := Int.emod_nonneg a (show n ≠ 0 by omega)
  have h1 := Int.emod_lt_of_pos a hn
  rcases tmod_cases a n hn with e | e
  · omega
  · rw [e]
    simp only [wrap64]
    omega

set_option maxHeartbeats 1000000 in
theorem within_any (a n : Int) (hn : 0 < n) (hn1 : n ≤ 4294967296) (w : World) :
    Calls Tryd.prog 24 #[.int .i64 a, .int .i64 n] w fun e w' => e = .returned (.int .i64 (a % n)) ∧ w' = w := by
  go_enter Tryd.func24, Tryd.ntmps24
  go_wp2
  · go_ret
    exact ⟨ret_int (tmod_neg a n hn hn1 (by assumption)), rfl⟩
  · go_ret
    exact ⟨ret_int (tmod_pos a n hn (by assumption)), rfl⟩

set_option maxHeartbeats 1000000 in
theorem broken_any (s : ByteArray) (at_ : Nat) (r : Int) (ha : at_ ≤ s.size) (w : World) :
    Calls Tryd.prog 17 #[.string s, .int .i64 at_, .int .i32 r] w fun e w' => e = .returned (.bool ((r == 65533) && !Lib.hasPrefix (s.data.toList.drop at_) [239, 191, 189])) ∧ w' = w := by
  by_cases hr : r = 65533
  · subst hr
    go_enter Tryd.func17, Tryd.ntmps17
    go_wp2_with (first | (go_at_call 30; refine (Tryd.strings_HasPrefix _ _ _).mono ?_; rintro e w' ⟨rfl, rfl⟩))
    go_ret
    refine ⟨ret_bool ?_, rfl⟩
    rw [List.take_of_length_le (by rw [List.length_drop, ← Lib.size_eq]; exact Nat.le_refl _)]
    rfl
  · have hb : (r == 65533) = false := by simp [hr]
    go_enter Tryd.func17, Tryd.ntmps17
    go_wp2
    go_ret
    refine ⟨ret_bool ?_, rfl⟩
    rw [hb]
    rfl

set_option maxHeartbeats 4000000 in
set_option maxRecDepth 1000000 in
theorem check_any (s : ByteArray) (w : World) :
    Calls Tryd.prog 6 #[.string s] w fun e w' => e = .returned (.int .i64 (chk s.data.toList)) ∧ Below w.heap.size w w' := by
  go_enter Tryd.func6, Tryd.ntmps6
  go_wp2
  go_loopw [] (fun wr => ∃ (pos : Nat), pos ≤ s.size ∧ wr.heap[w.heap.size]? = some (.stringIter s pos) ∧ Below w.heap.size w wr ∧ okL (s.data.toList.drop pos) = okL s.data.toList) (fun wr => s.size - wr.iterPos w.heap.size)
  case atStart =>
    refine ⟨0, Nat.zero_le _, ?_, (Below.refl _ w).alloc (Nat.le_refl _) _, by simp⟩
    have := World.iter_heap w s 0
    simpa using this
  case round =>
    obtain ⟨pos, hpp, hit, hbw, hacc⟩ := hrel
    have Hacc := hide hacc
    clear hacc
    by_cases hlt : pos < s.size
    · have hnx : ∀ ty, (Instr.next (.pointer (some ⟨w.heap.size, 0, none⟩)) true ty).run Tryd.prog wr = _ := fun ty => Lib.run_next_any_at wr w.heap.size s pos ty hit hlt
      have hwd := Lib.decode_width_pos s pos hlt
      have hle := dec_in hlt
      have hit2 := Lib.iterAt_heap wr w.heap.size s pos (pos + (Utf8.decode s pos).2) hit
      have hbw2 := Lib.below_iterAt hbw (k := w.heap.size) (Nat.le_refl _) s (pos + (Utf8.decode s pos).2)
      have HO := hide (okL_at hlt)
      go_wp2_with fail
      refine (broken_any s pos (Utf8.decode s pos).1 hpp _).mono ?_
      rintro e w1 ⟨rfl, rfl⟩
      generalize hbb : ((((Utf8.decode s pos).1 : Int) == 65533) && !Lib.hasPrefix (s.data.toList.drop pos) [239, 191, 189]) = bb
      have HB := hide hbb
      clear hbb
      cases bb
      · go_wp2
        go_roundw
        case rel =>
          refine ⟨pos + (Utf8.decode s pos).2, hle, hit2, hbw2, ?_⟩
          rw [← unhide Hacc, unhide HO, unhide HB]
          rfl
        case measure =>
          simp only [World.iterPos, hit2, hit]
          omega
      · go_wp2
        go_ret
        refine ⟨ret_int (chk_bad ?_).symm, hbw2⟩
        rw [← unhide Hacc, unhide HO, unhide HB]
        rfl
    · have hnx : ∀ ty, (Instr.next (.pointer (some ⟨w.heap.size, 0, none⟩)) true ty).run Tryd.prog wr = _ := fun ty => Lib.run_next_end_at wr w.heap.size s pos ty hit hlt
      go_wp2
      go_ret
      refine ⟨ret_int (chk_ok ?_).symm, hbw⟩
      rw [← unhide Hacc, drop_end hlt, okL_nil]

set_option maxHeartbeats 4000000 in
set_option maxRecDepth 1000000 in
theorem runes_any (s : ByteArray) (w : World) (hs : s.size ≤ 1099511627776) :
    Calls Tryd.prog 8 #[.string s] w fun e w' => ∃ v, e = .returned v ∧ w'.ownsRow w.heap.size 21 1 v (runes s.data.toList).length ((runes s.data.toList).map (Value.int .i32)) ∧ Below w.heap.size w w' := by
  obtain ⟨i0, hi, hz0, hz1, hz2⟩ := info_parts infoRune
  go_enter Tryd.func8, Tryd.ntmps8
  go_wp2
  go_loopw [3] (fun v wr => ∃ (pos : Nat) (xs : List Int), pos ≤ s.size ∧ wr.heap[w.heap.size]? = some (.stringIter s pos) ∧ wr.ownsRow (w.heap.size + 1) 21 1 v xs.length (xs.map (Value.int .i32)) ∧ Below w.heap.size w wr ∧
      xs ++ runes (s.data.toList.drop pos) = runes s.data.toList ∧ xs.length ≤ pos) (fun _ wr => s.size - wr.iterPos w.heap.size)
  case atStart =>
    refine ⟨0, [], Nat.zero_le _, ?_, ⟨by simp, .inl ⟨rfl, rfl⟩⟩, (Below.refl _ w).alloc (Nat.le_refl _) _, by simp, by simp⟩
    have := World.iter_heap w s 0
    simpa using this
  case round =>
    obtain ⟨pos, xs, hpp, hit, hown, hbw, hacc, hxl⟩ := hrel
    have hsz : w.heap.size < wr.heap.size := (Array.getElem?_eq_some_iff.1 hit).1
    have Hacc := hide hacc
    clear hacc
    by_cases hlt : pos < s.size
    · have hnx : ∀ ty, (Instr.next (.pointer (some ⟨w.heap.size, 0, none⟩)) true ty).run Tryd.prog wr = _ := fun ty => Lib.run_next_any_at wr w.heap.size s pos ty hit hlt
      have hwd := Lib.decode_width_pos s pos hlt
      have hle := dec_in hlt
      have hmx := dec_max_at s pos
      have hit2 := Lib.iterAt_heap wr w.heap.size s pos (pos + (Utf8.decode s pos).2) hit
      have hbw2 := Lib.below_iterAt hbw (k := w.heap.size) (Nat.le_refl _) s (pos + (Utf8.decode s pos).2)
      have hown2 := ownsRow_iterAt hown (k := w.heap.size) (by omega) s (pos + (Utf8.decode s pos).2)
      have HR := hide (runes_at hlt)
      have hsz2 : w.heap.size < (wr.iterAt w.heap.size s (pos + (Utf8.decode s pos).2)).heap.size := by rw [Lib.iterAt_size]; exact hsz
      generalize hwi : wr.iterAt w.heap.size s (pos + (Utf8.decode s pos).2) = wi at *
      have HWI := hide hwi
      clear hwi
      go_wp2_with (at_builtin; refine wpList_append_own _ rfl _ _ 22 rfl (w.heap.size + 1) 21 i0 (.int .i32 0) 1 4 Tryd.underlying22 hi hz0 hz1 hz2 rfl (by decide) _ _ _ rfl (hown2.alloc _) ⟨wi.heap.size, 0, none⟩ 1 1 [.int .i32 (Utf8.decode s pos).1] rfl rfl ?c1 ?c2 ?c3 ?c4 ?c5 ?_)
      case c1 =>
        intro j u hj
        match j, hj with
        | 0, hj => simp at hj; subst hj; simp [Addr.add]
      case c2 => intro u hu; simp at hu; subst hu; rfl
      case c3 => unfold maxLen; omega
      case c4 => omega
      case c5 => simp; omega
      intro v' w2 hown' hgrow _
      have hb3 := (hbw2.alloc (by omega) (.cells #[.int .i32 (Utf8.decode s pos).1] 21)).grown hgrow (by simp; omega) (fun k hk => by have := (hown2.alloc (.cells #[.int .i32 (Utf8.decode s pos).1] 21)).lt k hk; omega)
      have hit3 : w2.heap[w.heap.size]? = some (.stringIter s (pos + (Utf8.decode s pos).2)) := by
        rw [hgrow.block w.heap.size (by simp; omega) (fun e => by have := (hown2.lt w.heap.size e.symm).1; omega), Lib.alloc_old wi _ _ hsz2]
        exact hit2
      go_wp2
      go_roundw
      case rel =>
        refine ⟨pos + (Utf8.decode s pos).2, xs ++ [((Utf8.decode s pos).1 : Int)], hle, hit3, ?_, hb3, ?_, by simp; omega⟩
        · simpa using hown'
        · rw [← unhide Hacc, unhide HR]
          simp
      case measure =>
        simp only [World.iterPos, hit3, hit]
        omega
    · have hnx : ∀ ty, (Instr.next (.pointer (some ⟨w.heap.size, 0, none⟩)) true ty).run Tryd.prog wr = _ := fun ty => Lib.run_next_end_at wr w.heap.size s pos ty hit hlt
      go_wp2
      go_ret
      have e1 := unhide Hacc
      rw [drop_end hlt, runes_nil, List.append_nil] at e1
      rw [← e1]
      exact ⟨_, rfl, owns_base hown (by omega), hbw⟩

/-- The cells of a slice of runes. -/
def RowAt (w : World) (ao : Option Addr) (xs : List Int) : Prop :=
  ∀ j (hj : j < xs.length), ∃ b off, ao = some ⟨b, off, none⟩ ∧ b < w.heap.size ∧ w.cell? ⟨b, off + j, none⟩ = some (.int .i32 xs[j])

theorem RowAt.below {w w' : World} {ao : Option Addr} {xs : List Int} (h : RowAt w ao xs) (hb : Below w.heap.size w w') : RowAt w' ao xs := by
  intro j hj
  obtain ⟨b, off, e, hlt, hc⟩ := h j hj
  have := hb.size
  exact ⟨b, off, e, by omega, (hb.cell (p := ⟨b, off + j, none⟩) hlt).trans hc⟩
end Go.Proofs.YtkgjdddoadnhcaaDoor
