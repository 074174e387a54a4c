/-
  lex.isInLine, rowOf, gapOf: what they return.
-/
import Derived.Test.YtlakgnnjokienaaGreatDoorNames
import Derived.Test.YtlakgnnjokienaaGreatDoorPlainAll
import Derived.Laws.IdiomStrings
import Derived.Handy
namespace Go.Proofs.YtlakgnnjokienaaGreatDoor
open Go.RowKit

def lnR (r : Int) : Bool := !decide (r = 10)
def nmR (r : Int) : Bool := letR r || digR r
theorem nmR_hi (r : Int) (h : 128 ≤ r) : nmR r = nmR 128 := by
  rw [nmR, letR_high r h, digR_high r h]
  rfl
theorem digR_hi (r : Int) (h : 128 ≤ r) : digR r = digR 128 := by
  rw [digR_high r h]
  rfl
theorem letR_hi (r : Int) (h : 128 ≤ r) : letR r = letR 128 := by
  rw [letR_high r h]
  rfl
theorem lnR_hi (r : Int) (h : 128 ≤ r) : lnR r = lnR 128 := by
  have : ¬ r = 10 := by omega
  simp [lnR, this]

set_option maxHeartbeats 1000000 in
set_option maxRecDepth 1000000 in
theorem isInLine_any (r : Int) (w : World) : Calls Tryz.prog 42 #[.int .i32 r] w fun e w' => e = .returned (.bool (lnR r)) ∧ w' = w := by
  by_cases h : r = 10
  · subst h
    go_enter Tryz.func42, Tryz.ntmps42
    go_wp2
    go_ret
    exact ⟨rfl, rfl⟩
  · have hb : (r != 10) = true := by simpa using h
    have e : lnR r = true := by simp [lnR, h]
    rw [e]
    go_enter Tryz.func42, Tryz.ntmps42
    go_wp2
    go_ret
    exact ⟨rfl, rfl⟩

theorem ba_ofL (s : ByteArray) : (⟨s.data.toList.toArray⟩ : ByteArray) = s := by simp
theorem take_toArray (s : ByteArray) (n : Nat) : s.extract 0 n = ⟨(s.data.toList.take n).toArray⟩ := by
  apply ByteArray.ext
  apply Array.toList_inj.1
  simp

/-- How far a row of runes goes at a place. -/
def rowAtL (p : Int → Bool) (l : List UInt8) (pos : Nat) : Prop := (l.takeWhile fun b => p b.toNat).length = pos + ((l.drop pos).takeWhile fun b => p b.toNat).length
theorem rowAt_next {p : Int → Bool} (hp : ∀ r : Int, 128 ≤ r → p r = p 128) {s : ByteArray} {pos : Nat} (h : pos < s.size) (hr : p ((Utf8.decode s pos).1 : Int) = true) (ha : rowAtL p s.data.toList pos) : rowAtL p s.data.toList (pos + (Utf8.decode s pos).2) := by
  unfold rowAtL at ha ⊢
  rw [← Lib.decodeL_drop] at hr ⊢
  rw [ha, takeWhile_step hp _ (drop_ne h) hr, List.drop_drop]
  omega
theorem rowAt_stop {p : Int → Bool} (hp : ∀ r : Int, 128 ≤ r → p r = p 128) {s : ByteArray} {pos : Nat} (hr : p ((Utf8.decode s pos).1 : Int) = false) (ha : rowAtL p s.data.toList pos) : s.data.toList.take pos = s.data.toList.takeWhile fun b => p b.toNat := by
  unfold rowAtL at ha
  rw [← Lib.decodeL_drop] at hr
  rw [takeWhile_stop hp _ hr, List.length_nil, Nat.add_zero] at ha
  rw [← ha, takeWhile_take]
theorem rowAt_end {p : Int → Bool} {s : ByteArray} {pos : Nat} (h : ¬ pos < s.size) (h2 : pos ≤ s.size) (ha : rowAtL p s.data.toList pos) : (s.data.toList.takeWhile fun b => p b.toNat) = s.data.toList := by
  unfold rowAtL at ha
  rw [drop_end h] at ha
  have : (s.data.toList.takeWhile fun b => p b.toNat).length = s.data.toList.length := by rw [ha, ← Lib.size_eq]; simp; omega
  rw [← takeWhile_take, this, List.take_length]
theorem rowAt_zero (p : Int → Bool) (l : List UInt8) : rowAtL p l 0 := by simp [rowAtL]

set_option maxHeartbeats 4000000 in
set_option maxRecDepth 1000000 in
theorem rowOf_name (s : ByteArray) (w : World) :
    Calls Tryz.prog 41 #[.string s, .func (.func 45) #[] #[]] w fun e w' => e = .returned (.string ⟨(s.data.toList.takeWhile nmB).toArray⟩) ∧ Below w.heap.size w w' := by
  go_enter Tryz.func41, Tryz.ntmps41
  go_wp2
  go_loopw [] (fun wr => ∃ (pos : Nat), pos ≤ s.size ∧ wr.heap[w.heap.size]? = some (.stringIter s pos) ∧ Below w.heap.size w wr ∧ rowAtL nmR s.data.toList pos) (fun wr => s.size - wr.iterPos w.heap.size)
  case atStart =>
    refine ⟨0, Nat.zero_le _, ?_, (Below.refl _ w).alloc (Nat.le_refl _) _, rowAt_zero _ _⟩
    have := World.iter_heap w s 0
    simpa using this
  case round =>
    obtain ⟨pos, hpp, hit, hbw, hacc⟩ := hrel
    have Hacc := hide hacc
    clear hacc
    by_cases hlt : pos < s.size
    · have hnx : ∀ ty, (Instr.next (.pointer (some ⟨w.heap.size, 0, none⟩)) true ty).run Tryz.prog wr = _ := fun ty => Lib.run_next_any_at wr w.heap.size s pos ty hit hlt
      have hwd := Lib.decode_width_pos s pos hlt
      have hle := dec_in hlt
      have hit2 := Lib.iterAt_heap wr w.heap.size s pos (pos + (Utf8.decode s pos).2) hit
      have hbw2 := Lib.below_iterAt hbw (k := w.heap.size) (Nat.le_refl _) s (pos + (Utf8.decode s pos).2)
      obtain ⟨r, er⟩ : ∃ r : Int, r = (Utf8.decode s pos).1 := ⟨_, rfl⟩
      have hnx2 : ∀ ty, (Instr.next (.pointer (some ⟨w.heap.size, 0, none⟩)) true ty).run Tryz.prog wr = .ok (.tuple #[.bool true, .int .i64 pos, .int .i32 r]) (wr.iterAt w.heap.size s (pos + (Utf8.decode s pos).2)) := fun ty => by rw [hnx ty, er]
      clear hnx
      have HE := hide er
      clear er
      have L := goesOn_any r
      generalize hw2 : wr.iterAt w.heap.size s (pos + (Utf8.decode s pos).2) = w2 at *
      have Hw2 := hide hw2
      clear hw2
      cases hl : nmR r with
      | true =>
        have L2 : ∀ w, Calls Tryz.prog 45 #[.int .i32 r] w fun e w' => e = .returned (.bool true) ∧ w' = w := fun w => by have := L w; rwa [show (letR r || digR r) = _ from hl] at this
        have Hl := hide hl
        clear hl L
        go_wp2_with (go_at_call 45; refine (L2 _).mono ?_; rintro e w' ⟨rfl, rfl⟩)
        go_roundw
        case rel =>
          refine ⟨pos + (Utf8.decode s pos).2, hle, hit2, hbw2, ?_⟩
          refine rowAt_next nmR_hi hlt ?_ (unhide Hacc)
          rw [← unhide HE]
          exact unhide Hl
        case measure =>
          simp only [World.iterPos, hit2, hit]
          omega
      | false =>
        have L2 : ∀ w, Calls Tryz.prog 45 #[.int .i32 r] w fun e w' => e = .returned (.bool false) ∧ w' = w := fun w => by have := L w; rwa [show (letR r || digR r) = _ from hl] at this
        have Hl := hide hl
        clear hl L
        have hsl : ∀ W, (Instr.slice 9 (.string s) none (some (.int .i64 pos)) none).run Tryz.prog W = .ok (.string (s.extract 0 pos)) W := fun W => by have := run_slice_string_h W 9 s Tryz.underlying9 .i64 (pos : Int) (by omega) (by omega); rwa [Int.toNat_natCast] at this
        go_wp2_with (go_at_call 45; refine (L2 _).mono ?_; rintro e w' ⟨rfl, rfl⟩)
        go_ret
        refine ⟨?_, hbw2⟩
        have e2 := rowAt_stop nmR_hi (s := s) (pos := pos) (by rw [← unhide HE]; exact unhide Hl) (unhide Hacc)
        rw [take_toArray s pos, e2]
        rfl
    · have hnx : ∀ ty, (Instr.next (.pointer (some ⟨w.heap.size, 0, none⟩)) true ty).run Tryz.prog wr = _ := fun ty => Lib.run_next_end_at wr w.heap.size s pos ty hit hlt
      go_wp2
      go_ret
      refine ⟨?_, hbw⟩
      have e2 := rowAt_end hlt hpp (unhide Hacc)
      have e3 : (s.data.toList.takeWhile nmB) = s.data.toList := e2
      rw [e3, ba_ofL]
      rfl

set_option maxHeartbeats 4000000 in
set_option maxRecDepth 1000000 in
theorem rowOf_dig (s : ByteArray) (w : World) :
    Calls Tryz.prog 41 #[.string s, .func (.func 46) #[] #[]] w fun e w' => e = .returned (.string ⟨(s.data.toList.takeWhile dgB).toArray⟩) ∧ Below w.heap.size w w' := by
  go_enter Tryz.func41, Tryz.ntmps41
  go_wp2
  go_loopw [] (fun wr => ∃ (pos : Nat), pos ≤ s.size ∧ wr.heap[w.heap.size]? = some (.stringIter s pos) ∧ Below w.heap.size w wr ∧ rowAtL digR s.data.toList pos) (fun wr => s.size - wr.iterPos w.heap.size)
  case atStart =>
    refine ⟨0, Nat.zero_le _, ?_, (Below.refl _ w).alloc (Nat.le_refl _) _, rowAt_zero _ _⟩
    have := World.iter_heap w s 0
    simpa using this
  case round =>
    obtain ⟨pos, hpp, hit, hbw, hacc⟩ := hrel
    have Hacc := hide hacc
    clear hacc
    by_cases hlt : pos < s.size
    · have hnx : ∀ ty, (Instr.next (.pointer (some ⟨w.heap.size, 0, none⟩)) true ty).run Tryz.prog wr = _ := fun ty => Lib.run_next_any_at wr w.heap.size s pos ty hit hlt
      have hwd := Lib.decode_width_pos s pos hlt
      have hle := dec_in hlt
      have hit2 := Lib.iterAt_heap wr w.heap.size s pos (pos + (Utf8.decode s pos).2) hit
      have hbw2 := Lib.below_iterAt hbw (k := w.heap.size) (Nat.le_refl _) s (pos + (Utf8.decode s pos).2)
      obtain ⟨r, er⟩ : ∃ r : Int, r = (Utf8.decode s pos).1 := ⟨_, rfl⟩
      have hnx2 : ∀ ty, (Instr.next (.pointer (some ⟨w.heap.size, 0, none⟩)) true ty).run Tryz.prog wr = .ok (.tuple #[.bool true, .int .i64 pos, .int .i32 r]) (wr.iterAt w.heap.size s (pos + (Utf8.decode s pos).2)) := fun ty => by rw [hnx ty, er]
      clear hnx
      have HE := hide er
      clear er
      have L := isDigit_any r
      generalize hw2 : wr.iterAt w.heap.size s (pos + (Utf8.decode s pos).2) = w2 at *
      have Hw2 := hide hw2
      clear hw2
      cases hl : digR r with
      | true =>
        have L2 : ∀ w, Calls Tryz.prog 46 #[.int .i32 r] w fun e w' => e = .returned (.bool true) ∧ w' = w := fun w => by have := L w; rwa [hl] at this
        have Hl := hide hl
        clear hl L
        go_wp2_with (go_at_call 46; refine (L2 _).mono ?_; rintro e w' ⟨rfl, rfl⟩)
        go_roundw
        case rel =>
          refine ⟨pos + (Utf8.decode s pos).2, hle, hit2, hbw2, ?_⟩
          refine rowAt_next digR_hi hlt ?_ (unhide Hacc)
          rw [← unhide HE]
          exact unhide Hl
        case measure =>
          simp only [World.iterPos, hit2, hit]
          omega
      | false =>
        have L2 : ∀ w, Calls Tryz.prog 46 #[.int .i32 r] w fun e w' => e = .returned (.bool false) ∧ w' = w := fun w => by have := L w; rwa [hl] at this
        have Hl := hide hl
        clear hl L
        have hsl : ∀ W, (Instr.slice 9 (.string s) none (some (.int .i64 pos)) none).run Tryz.prog W = .ok (.string (s.extract 0 pos)) W := fun W => by have := run_slice_string_h W 9 s Tryz.underlying9 .i64 (pos : Int) (by omega) (by omega); rwa [Int.toNat_natCast] at this
        go_wp2_with (go_at_call 46; refine (L2 _).mono ?_; rintro e w' ⟨rfl, rfl⟩)
        go_ret
        refine ⟨?_, hbw2⟩
        have e2 := rowAt_stop digR_hi (s := s) (pos := pos) (by rw [← unhide HE]; exact unhide Hl) (unhide Hacc)
        rw [take_toArray s pos, e2]
        rfl
    · have hnx : ∀ ty, (Instr.next (.pointer (some ⟨w.heap.size, 0, none⟩)) true ty).run Tryz.prog wr = _ := fun ty => Lib.run_next_end_at wr w.heap.size s pos ty hit hlt
      go_wp2
      go_ret
      refine ⟨?_, hbw⟩
      have e2 := rowAt_end hlt hpp (unhide Hacc)
      have e3 : (s.data.toList.takeWhile dgB) = s.data.toList := e2
      rw [e3, ba_ofL]
      rfl

set_option maxHeartbeats 4000000 in
set_option maxRecDepth 1000000 in
theorem rowOf_line (s : ByteArray) (w : World) :
    Calls Tryz.prog 41 #[.string s, .func (.func 42) #[] #[]] w fun e w' => e = .returned (.string ⟨(s.data.toList.takeWhile lnB).toArray⟩) ∧ Below w.heap.size w w' := by
  go_enter Tryz.func41, Tryz.ntmps41
  go_wp2
  go_loopw [] (fun wr => ∃ (pos : Nat), pos ≤ s.size ∧ wr.heap[w.heap.size]? = some (.stringIter s pos) ∧ Below w.heap.size w wr ∧ rowAtL lnR s.data.toList pos) (fun wr => s.size - wr.iterPos w.heap.size)
  case atStart =>
    refine ⟨0, Nat.zero_le _, ?_, (Below.refl _ w).alloc (Nat.le_refl _) _, rowAt_zero _ _⟩
    have := World.iter_heap w s 0
    simpa using this
  case round =>
    obtain ⟨pos, hpp, hit, hbw, hacc⟩ := hrel
    have Hacc := hide hacc
    clear hacc
    by_cases hlt : pos < s.size
    · have hnx : ∀ ty, (Instr.next (.pointer (some ⟨w.heap.size, 0, none⟩)) true ty).run Tryz.prog wr = _ := fun ty => Lib.run_next_any_at wr w.heap.size s pos ty hit hlt
      have hwd := Lib.decode_width_pos s pos hlt
      have hle := dec_in hlt
      have hit2 := Lib.iterAt_heap wr w.heap.size s pos (pos + (Utf8.decode s pos).2) hit
      have hbw2 := Lib.below_iterAt hbw (k := w.heap.size) (Nat.le_refl _) s (pos + (Utf8.decode s pos).2)
      obtain ⟨r, er⟩ : ∃ r : Int, r = (Utf8.decode s pos).1 := ⟨_, rfl⟩
      have hnx2 : ∀ ty, (Instr.next (.pointer (some ⟨w.heap.size, 0, none⟩)) true ty).run Tryz.prog wr = .ok (.tuple #[.bool true, .int .i64 pos, .int .i32 r]) (wr.iterAt w.heap.size s (pos + (Utf8.decode s pos).2)) := fun ty => by rw [hnx ty, er]
      clear hnx
      have HE := hide er
      clear er
      have L := isInLine_any r
      generalize hw2 : wr.iterAt w.heap.size s (pos + (Utf8.decode s pos).2) = w2 at *
      have Hw2 := hide hw2
      clear hw2
      cases hl : lnR r with
      | true =>
        have L2 : ∀ w, Calls Tryz.prog 42 #[.int .i32 r] w fun e w' => e = .returned (.bool true) ∧ w' = w := fun w => by have := L w; rwa [hl] at this
        have Hl := hide hl
        clear hl L
        go_wp2_with (go_at_call 42; refine (L2 _).mono ?_; rintro e w' ⟨rfl, rfl⟩)
        go_roundw
        case rel =>
          refine ⟨pos + (Utf8.decode s pos).2, hle, hit2, hbw2, ?_⟩
          refine rowAt_next lnR_hi hlt ?_ (unhide Hacc)
          rw [← unhide HE]
          exact unhide Hl
        case measure =>
          simp only [World.iterPos, hit2, hit]
          omega
      | false =>
        have L2 : ∀ w, Calls Tryz.prog 42 #[.int .i32 r] w fun e w' => e = .returned (.bool false) ∧ w' = w := fun w => by have := L w; rwa [hl] at this
        have Hl := hide hl
        clear hl L
        have hsl : ∀ W, (Instr.slice 9 (.string s) none (some (.int .i64 pos)) none).run Tryz.prog W = .ok (.string (s.extract 0 pos)) W := fun W => by have := run_slice_string_h W 9 s Tryz.underlying9 .i64 (pos : Int) (by omega) (by omega); rwa [Int.toNat_natCast] at this
        go_wp2_with (go_at_call 42; refine (L2 _).mono ?_; rintro e w' ⟨rfl, rfl⟩)
        go_ret
        refine ⟨?_, hbw2⟩
        have e2 := rowAt_stop lnR_hi (s := s) (pos := pos) (by rw [← unhide HE]; exact unhide Hl) (unhide Hacc)
        rw [take_toArray s pos, e2]
        rfl
    · have hnx : ∀ ty, (Instr.next (.pointer (some ⟨w.heap.size, 0, none⟩)) true ty).run Tryz.prog wr = _ := fun ty => Lib.run_next_end_at wr w.heap.size s pos ty hit hlt
      go_wp2
      go_ret
      refine ⟨?_, hbw⟩
      have e2 := rowAt_end hlt hpp (unhide Hacc)
      have e3 : (s.data.toList.takeWhile lnB) = s.data.toList := e2
      rw [e3, ba_ofL]
      rfl


set_option maxHeartbeats 1000000 in
set_option maxRecDepth 1000000 in
theorem gapOf_any (s : ByteArray) (w : World) (r : Int) (hr : r = ((Lib.decodeL s.data.toList).1 : Int)) :
    Calls Tryz.prog 30 #[.string s, .int .i32 r] w fun e w' => e = .returned (.int .i64 (gapL s.data.toList)) ∧ Below w.heap.size w w' := by
  have hb : blkR r = blkR ((s.data.toList.getD 0 0).toNat : Int) := by
    rw [hr]
    refine head_of (p := blkR) (fun r h => ?_) _
    have h1 : ¬ r = 32 := by omega
    have h2 : ¬ r = 9 := by omega
    have h3 : ¬ r = 10 := by omega
    have h4 : ¬ r = 13 := by omega
    simp [blkR, h1, h2, h3, h4]
  have e : gapL s.data.toList = if blkR r then 1 else if Lib.hasPrefix s.data.toList [47, 47] then (s.data.toList.takeWhile lnB).length else 0 := by rw [gapL, hb]
  clear hr hb
  have go : ∀ (b1 : r = 32 ∨ r = 9 ∨ r = 10 ∨ r = 13), Calls Tryz.prog 30 #[.string s, .int .i32 r] w fun e w' => e = .returned (.int .i64 1) ∧ Below w.heap.size w w' := by
    rintro (h | h | h | h)
    all_goals (
      subst h
      clear e
      go_enter Tryz.func30, Tryz.ntmps30
      go_wp2
      go_ret
      exact ⟨rfl, Below.refl _ w⟩)
  by_cases h1 : r = 32
  · rw [e, if_pos (by simp [blkR, h1])]
    exact go (.inl h1)
  by_cases h2 : r = 9
  · rw [e, if_pos (by simp [blkR, h2])]
    exact go (.inr (.inl h2))
  by_cases h3 : r = 10
  · rw [e, if_pos (by simp [blkR, h3])]
    exact go (.inr (.inr (.inl h3)))
  by_cases h4 : r = 13
  · rw [e, if_pos (by simp [blkR, h4])]
    exact go (.inr (.inr (.inr h4)))
  clear go
  rw [if_neg (by simp [blkR, h1, h2, h3, h4])] at e
  have b1 : (r == 32) = false := by simpa using h1
  have b2 : (r == 9) = false := by simpa using h2
  have b3 : (r == 10) = false := by simpa using h3
  have b4 : (r == 13) = false := by simpa using h4
  have H := Tryz.strings_HasPrefix s ⟨#[47, 47]⟩
  have R := rowOf_line s
  rw [show (ByteArray.mk #[47, 47]).data.toList = [47, 47] from rfl] at H
  cases hp : Lib.hasPrefix s.data.toList [47, 47] with
  | true =>
    rw [hp, if_pos rfl] at e
    rw [hp] at H
    obtain ⟨t, ht⟩ : ∃ t : ByteArray, t = ⟨(s.data.toList.takeWhile lnB).toArray⟩ := ⟨_, rfl⟩
    have hn : (t.size : Int) = ((s.data.toList.takeWhile lnB).length : Int) := by rw [ht, Lib.size_eq]
    rw [e, ← hn]
    rw [← ht] at R
    clear ht hp e h1 h2 h3 h4 hn
    go_enter Tryz.func30, Tryz.ntmps30
    go_wp2_with fail
    refine (H _).mono ?_
    rintro e w1 ⟨rfl, rfl⟩
    go_wp2_with fail
    refine (R _).mono ?_
    rintro e w2 ⟨rfl, hb2⟩
    go_wp2
    go_ret
    exact ⟨rfl, hb2⟩
  | false =>
    rw [hp, if_neg (by simp)] at e
    rw [e]
    rw [hp] at H
    clear hp e h1 h2 h3 h4
    go_enter Tryz.func30, Tryz.ntmps30
    go_wp2_with fail
    refine (H _).mono ?_
    rintro e w1 ⟨rfl, rfl⟩
    go_wp2
    go_ret
    exact ⟨rfl, Below.refl _ _⟩
end Go.Proofs.YtlakgnnjokienaaGreatDoor
