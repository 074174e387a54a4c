/-
  utf8.RuneCountInString, names.IsDigit, Begins, GoesOn, Is: what they return.
-/
import Derived.Test.YtbcddjaecdoliaaRunesW
import Derived.Test.YtbcddjaecdoliaaNamesP
namespace Go.Proofs.Ytbcddjaecdoliaa
open Go.RowKit

set_option maxHeartbeats 1000000 in
set_option maxRecDepth 1000000 in
theorem isDigit_any (r : Int) (w : World) : Calls Try.prog 72 #[.int .i32 r] w fun e w' => e = .returned (.bool (digR r)) ∧ w' = w := by
  by_cases h1 : 48 ≤ r
  · by_cases h2 : r ≤ 57
    · have e : digR r = true := decide_eq_true ⟨h1, h2⟩
      rw [e]
      go_enter Try.func72, Try.ntmps72
      go_wp2
      go_ret
      exact ⟨rfl, rfl⟩
    · have e : digR r = false := decide_eq_false (fun h => h2 h.2)
      rw [e]
      go_enter Try.func72, Try.ntmps72
      go_wp2
      go_ret
      exact ⟨rfl, rfl⟩
  · have e : digR r = false := decide_eq_false (fun h => h1 h.1)
    rw [e]
    go_enter Try.func72, Try.ntmps72
    go_wp2
    go_ret
    exact ⟨rfl, rfl⟩
set_option maxHeartbeats 1000000 in
set_option maxRecDepth 1000000 in
theorem isLetter_any (r : Int) (w : World) : Calls Try.prog 70 #[.int .i32 r] w fun e w' => e = .returned (.bool (letR r)) ∧ w' = w := by
  by_cases h1 : 65 ≤ r
  · by_cases h2 : r ≤ 90
    · have e : letR r = true := by simp [letR, h1, h2]
      rw [e]
      go_enter Try.func70, Try.ntmps70
      go_wp2
      go_ret
      exact ⟨rfl, rfl⟩
    · by_cases h3 : 97 ≤ r
      · by_cases h4 : r ≤ 122
        · have e : letR r = true := by simp [letR, h3, h4]
          rw [e]
          go_enter Try.func70, Try.ntmps70
          go_wp2
          go_ret
          exact ⟨rfl, rfl⟩
        · have h5 : ¬ r = 95 := by omega
          have hb : (r == 95) = false := by simpa using h5
          have e : letR r = false := by simp [letR, h2, h4, h5]
          rw [e]
          go_enter Try.func70, Try.ntmps70
          go_wp2
          go_ret
          exact ⟨rfl, rfl⟩
      · by_cases h5 : r = 95
        · subst h5
          go_enter Try.func70, Try.ntmps70
          go_wp2
          go_ret
          exact ⟨rfl, rfl⟩
        · have hb : (r == 95) = false := by simpa using h5
          have e : letR r = false := by simp [letR, h2, h3, h5]
          rw [e]
          go_enter Try.func70, Try.ntmps70
          go_wp2
          go_ret
          exact ⟨rfl, rfl⟩
  · have h3 : ¬ 97 ≤ r := by omega
    have h5 : ¬ r = 95 := by omega
    have hb : (r == 95) = false := by simpa using h5
    have e : letR r = false := by simp [letR, h1, h3, h5]
    rw [e]
    go_enter Try.func70, Try.ntmps70
    go_wp2
    go_ret
    exact ⟨rfl, rfl⟩

set_option maxHeartbeats 1000000 in
set_option maxRecDepth 1000000 in
theorem goesOn_any (r : Int) (w : World) : Calls Try.prog 71 #[.int .i32 r] w fun e w' => e = .returned (.bool (letR r || digR r)) ∧ w' = w := by
  have L := isLetter_any r
  have D := isDigit_any r
  cases hl : letR r with
  | true =>
    rw [hl] at L
    go_enter Try.func71, Try.ntmps71
    go_wp2_with (go_at_call 70; refine (L _).mono ?_; rintro e w' ⟨rfl, rfl⟩)
    go_ret
    exact ⟨rfl, rfl⟩
  | false =>
    rw [hl] at L
    go_enter Try.func71, Try.ntmps71
    go_wp2_with (first | (go_at_call 70; refine (L _).mono ?_; rintro e w' ⟨rfl, rfl⟩) | (go_at_call 72; refine (D _).mono ?_; rintro e w' ⟨rfl, rfl⟩))
    go_ret
    exact ⟨rfl, rfl⟩

set_option maxHeartbeats 4000000 in
set_option maxRecDepth 1000000 in
theorem isName_big (s : ByteArray) (w : World) (hs : s.size ≤ 281474976710656) :
    Calls Try.prog 66 #[.string s] w fun e w' => e = .returned (.bool (nameB s.data.toList)) ∧ Below w.heap.size w w' := by
  go_enter Try.func66, Try.ntmps66
  go_wp2
  go_loopw [] (fun wr => ∃ (pos : Nat), pos ≤ s.size ∧ wr.heap[w.heap.size]? = some (.stringIter s pos) ∧ Below w.heap.size w wr ∧ goods (pos == 0) (s.data.toList.drop pos) = goods true s.data.toList) (fun wr => s.size - wr.iterPos w.heap.size)
  case atStart =>
    refine ⟨0, Nat.zero_le _, ?_, (Below.refl _ w).alloc (Nat.le_refl _) _, by simp⟩
    have := World.iter_heap w s 0
    simpa using this
  case round =>
    obtain ⟨pos, hpp, hit, hbw, hacc⟩ := hrel
    have Hacc := hide hacc
    clear hacc
    by_cases hlt : pos < s.size
    · have hnx : ∀ ty, (Instr.next (.pointer (some ⟨w.heap.size, 0, none⟩)) true ty).run Try.prog wr = _ := fun ty => Lib.run_next_any_at wr w.heap.size s pos ty hit hlt
      have hwd := Lib.decode_width_pos s pos hlt
      have hle := dec_in hlt
      have hit2 := Lib.iterAt_heap wr w.heap.size s pos (pos + (Utf8.decode s pos).2) hit
      have hbw2 := Lib.below_iterAt hbw (k := w.heap.size) (Nat.le_refl _) s (pos + (Utf8.decode s pos).2)
      have HG := hide (goods_at hlt (pos == 0))
      have Hnx := hide (show ∀ q, q = pos + (Utf8.decode s pos).2 → (q == 0) = false from fun q hq => by rw [beq_eq_false_iff_ne]; omega)
      obtain ⟨r, er⟩ : ∃ r : Int, r = (Utf8.decode s pos).1 := ⟨_, rfl⟩
      have hnx2 : ∀ ty, (Instr.next (.pointer (some ⟨w.heap.size, 0, none⟩)) true ty).run Try.prog wr = .ok (.tuple #[.bool true, .int .i64 pos, .int .i32 r]) (wr.iterAt w.heap.size s (pos + (Utf8.decode s pos).2)) := fun ty => by rw [hnx ty, er]
      clear hnx
      have HE := hide er
      rw [← er] at HG
      clear er
      have L := isLetter_any r
      have G := goesOn_any r
      generalize hw2 : wr.iterAt w.heap.size s (pos + (Utf8.decode s pos).2) = w2 at *
      have Hw2 := hide hw2
      clear hw2
      cases hl : letR r with
      | true =>
        rw [hl] at L
        have G' : ∀ w, Calls Try.prog 71 #[.int .i32 r] w fun e w' => e = .returned (.bool true) ∧ w' = w := fun w => by have := G w; rwa [hl, Bool.true_or] at this
        clear G
        have hpb : ((pos : Int) == 0) = true ∨ ((pos : Int) == 0) = false := by cases ((pos : Int) == 0) <;> simp
        rcases hpb with hpb | hpb
        all_goals (
          go_wp2_with (first | (go_at_call 70; refine (L _).mono ?_; rintro e w' ⟨rfl, rfl⟩) | (go_at_call 71; refine (G' _).mono ?_; rintro e w' ⟨rfl, rfl⟩))
          go_roundw
          case rel =>
            refine ⟨pos + (Utf8.decode s pos).2, hle, hit2, hbw2, ?_⟩
            rw [unhide Hnx _ rfl, ← unhide Hacc]
            rcases unhide HG with ⟨h1, h2⟩ | ⟨h1, _⟩
            · rw [h2, h1, hl]
              simp
            · rw [hl] at h1
              cases h1
          case measure =>
            simp only [World.iterPos, hit2, hit]
            omega)
      | false =>
        rw [hl] at L
        by_cases hp0 : pos = 0
        · have hpb : ((pos : Int) == 0) = true := by simpa using (show (pos : Int) = 0 by omega)
          go_wp2_with (go_at_call 70; refine (L _).mono ?_; rintro e w' ⟨rfl, rfl⟩)
          go_ret
          refine ⟨ret_bool ?_, hbw2⟩
          have : goods true s.data.toList = false := by
            rw [← unhide Hacc]
            rcases unhide HG with ⟨h1, h2⟩ | ⟨_, _, h3⟩
            · rw [h2, hl, show (pos == 0) = true by simpa using hp0]
              rfl
            · exact h3
          rw [nameB, this]
          rfl
        · have hpb : ((pos : Int) == 0) = false := by simpa using (show ¬ (pos : Int) = 0 by omega)
          cases hd : digR r with
          | true =>
            rw [hl, hd] at G
            go_wp2_with (first | (go_at_call 70; refine (L _).mono ?_; rintro e w' ⟨rfl, rfl⟩) | (go_at_call 71; refine (G _).mono ?_; rintro e w' ⟨rfl, rfl⟩))
            go_roundw
            case rel =>
              refine ⟨pos + (Utf8.decode s pos).2, hle, hit2, hbw2, ?_⟩
              rw [unhide Hnx _ rfl, ← unhide Hacc]
              rcases unhide HG with ⟨h1, h2⟩ | ⟨_, h1, _⟩
              · rw [h2, h1, hl, hd, show (pos == 0) = false by simpa using hp0]
                simp
              · rw [hd] at h1
                cases h1
            case measure =>
              simp only [World.iterPos, hit2, hit]
              omega
          | false =>
            rw [hl, hd] at G
            go_wp2_with (first | (go_at_call 70; refine (L _).mono ?_; rintro e w' ⟨rfl, rfl⟩) | (go_at_call 71; refine (G _).mono ?_; rintro e w' ⟨rfl, rfl⟩))
            go_ret
            refine ⟨ret_bool ?_, hbw2⟩
            have : goods true s.data.toList = false := by
              rw [← unhide Hacc]
              rcases unhide HG with ⟨h1, h2⟩ | ⟨_, _, h3⟩
              · rw [h2, hl, hd]
                simp
              · exact h3
            rw [nameB, this]
            rfl
    · have hnx : ∀ ty, (Instr.next (.pointer (some ⟨w.heap.size, 0, none⟩)) true ty).run Try.prog wr = _ := fun ty => Lib.run_next_end_at wr w.heap.size s pos ty hit hlt
      have hg : goods true s.data.toList = true := by rw [← unhide Hacc, drop_end hlt]; rfl
      have e : nameB s.data.toList = (decide (1 ≤ s.size) && decide (s.size ≤ 12)) := by rw [nameB, hg, ← Lib.size_eq]; rfl
      have He := hide e
      clear e hg
      by_cases h1 : 1 ≤ s.size
      · have i1 : (0 : Int) < (s.size : Int) := by omega
        by_cases h2 : s.size ≤ 12
        · have i2 : (s.size : Int) ≤ 12 := by omega
          go_wp2
          go_ret
          exact ⟨ret_bool (by rw [unhide He]; simp [h1, h2]), hbw⟩
        · have i2 : ¬ (s.size : Int) ≤ 12 := by omega
          go_wp2
          go_ret
          exact ⟨ret_bool (by rw [unhide He]; simp [h2]), hbw⟩
      · have i1 : ¬ (0 : Int) < (s.size : Int) := by omega
        go_wp2
        go_ret
        exact ⟨ret_bool (by rw [unhide He]; simp [h1]), hbw⟩

theorem isName_any (s : ByteArray) (w : World) (hs : s.size ≤ 1099511627776) :
    Calls Try.prog 66 #[.string s] w fun e w' => e = .returned (.bool (nameB s.data.toList)) ∧ Below w.heap.size w w' := isName_big s w (by omega)

end Go.Proofs.Ytbcddjaecdoliaa
