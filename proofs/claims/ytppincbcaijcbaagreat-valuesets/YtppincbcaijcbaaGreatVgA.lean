/-
  chancelref3.Set: where a kind is not the first one's, or a set's.
-/
import Derived.Test.YtppincbcaijcbaaGreatVfA
import Derived.Test.YtppincbcaijcbaaGreatValY
import Derived.BigQuiet
namespace Go.Proofs.YtppincbcaijcbaaGreat
open Go.RowKit Go.Sort

set_option maxHeartbeats 4000000 in
set_option maxRecDepth 100000 in
theorem r3set_bad (l : List R7) (ao : Option Addr) (ca : Nat) (w : World) (hl : l.length ≤ 1048576) (hr : RowV w ao l) (h0 : 0 < l.length) (hbad : ∃ (j : Nat) (hj : j < l.length), mayB l[j].k l[0].k = false) :
    Calls Tryz.prog 26 #[.slice ao l.length ca] w fun e w' => e = .returned (.tuple #[zero7.val, .int .i64 16]) ∧ Below w.heap.size w w' := by
  go_enter Tryz.func26, Tryz.ntmps26
  go_wp2
  generalize hw2 : w.alloc _ = w2
  have b02 : Below w.heap.size w w2 := by rw [← hw2]; exact below1 _ _
  have z2 : w2.heap.size = w.heap.size + 1 := by rw [← hw2]; simp
  have Hw2 := hide hw2
  clear hw2
  have hr2 := hr.below b02
  clear hr
  go_loopw [4] (fun iv wr => ∃ i : Nat, iv = .int .i64 i ∧ i ≤ l.length ∧ Below w2.heap.size w2 wr ∧ (∀ k (hk : k < l.length), k < i → mayB l[k].k l[0].k = true)) (fun iv _ => l.length - (intOf iv).toNat)
  case atStart => exact ⟨0, by go_num, Nat.zero_le _, Below.refl _ _, fun k _ h => absurd h (Nat.not_lt_zero _)⟩
  case round =>
    obtain ⟨j, rfl, hj, hbw, hacc⟩ := hrel
    have Hacc := hide hacc
    clear hacc
    have hlt : j < l.length := by
      rcases Nat.lt_or_ge j l.length with h | h
      · exact h
      · obtain ⟨k, hk, hb⟩ := hbad
        rw [unhide Hacc k hk (by omega)] at hb
        cases hb
    have i1 : (j : Int) < (l.length : Int) := by omega
    have i0 : (0 : Int) < (l.length : Int) := by omega
    obtain ⟨b, off, rfl, A, hb⟩ := rowV_at hr2 hbw hlt
    obtain ⟨b', off', e', A0, _⟩ := rowV_at hr2 hbw h0
    cases e'
    rw [Nat.zero_mul, Nat.add_zero] at A0
    obtain ⟨r, er⟩ : ∃ r, r = l[j].k := ⟨_, rfl⟩
    obtain ⟨r0, er0⟩ : ∃ r0, r0 = l[0].k := ⟨_, rfl⟩
    have HN := hide (show mayB r r0 = true → ∀ k (hk : k < l.length), k < j + 1 → mayB l[k].k l[0].k = true from fun h k hk hk' => by
      by_cases e : k = j
      · subst e
        rw [← er, ← er0]
        exact h
      · exact unhide Hacc k hk (by omega))
    have a0 := A.up.c0
    have e0 := A0.up.c0
    rw [← er] at a0
    rw [← er0] at e0
    clear er er0 A A0 Hacc
    have stop : ∀ w4 : World, Below w2.heap.size w2 w4 → (∀ o, (w4.cell? ⟨w.heap.size, o, none⟩) = (w.alloc (.cells #[.int .i64 0, .bool false, .int .i64 0, .string ⟨#[]⟩, .string ⟨#[]⟩, .string ⟨#[]⟩, .slice none 0 0] 26)).cell? ⟨w.heap.size, o, none⟩) ∧ (∀ o, (w4.frozen? ⟨w.heap.size, o, none⟩) = (w.alloc (.cells #[.int .i64 0, .bool false, .int .i64 0, .string ⟨#[]⟩, .string ⟨#[]⟩, .string ⟨#[]⟩, .slice none 0 0] 26)).frozen? ⟨w.heap.size, o, none⟩) := by
      intro w4 b4
      rw [unhide Hw2]
      exact ⟨fun o => b4.cell (p := ⟨w.heap.size, o, none⟩) (by show w.heap.size < _; omega), fun o => b4.frozen (p := ⟨w.heap.size, o, none⟩) (by show w.heap.size < _; omega)⟩
    have Hstop := hide stop
    clear stop
    by_cases h5 : r = 5
    · have e5 : (r == 5) = true := by simpa using h5
      clear h5 HN
      go_wp2_with fail
      refine wp_region_quiet_below (by kernel_rfl) (by kernel_rfl) ?_
      repeat (go_big_quiet_step (fail))
      refine wpQuiet_nil ?_
      intro _ hw'
      obtain ⟨⟨dq, osq⟩, hw''⟩ := hw'
      subst hw''
      have b4 : Below w2.heap.size w2 (grow (redrawn wr dq) osq) := hbw.trans ((below_regrown wr dq osq).mono hbw.size)
      generalize grow (redrawn wr dq) osq = w4 at *
      obtain ⟨hc, hf⟩ := unhide Hstop w4 b4
      clear a0 e0
      go_wp2
      exact bodyPost_ret (v := .tuple #[.agg #[.int .i64 0, .bool false, .int .i64 0, .string ⟨#[]⟩, .string ⟨#[]⟩, .string ⟨#[]⟩, .slice none 0 0], .int .i64 16]) (by simp [results, Tryz.results26, go_sem, hc]) rfl ⟨rfl, set7_below (b02.trans (b4.mono b02.size)) (Nat.le_refl _) _ _ _ _ _ _ _⟩
    · have e5 : (r == 5) = false := by simpa using h5
      by_cases h6 : r = r0
      · have e6 : (r != r0) = false := by simp [h6]
        have Hn := hide (unhide HN (by simp [mayB, h5, h6.symm]))
        have h6' := hide h6
        clear h5 h6 HN
        go_wp2_with fail
        refine wp_region_quiet_below (by kernel_rfl) (by kernel_rfl) ?_
        repeat (quiet_step (fail))
        refine wpQuiet_nil ?_
        intro _ hw'
        obtain ⟨⟨dq, osq⟩, hw''⟩ := hw'
        subst hw''
        have b4 : Below w2.heap.size w2 (grow (redrawn wr dq) osq) := hbw.trans ((below_regrown wr dq osq).mono hbw.size)
        generalize grow (redrawn wr dq) osq = w4 at *
        clear a0 e0
        go_wp2
        go_roundw
        case rel => exact ⟨j + 1, by go_num, by omega, b4, unhide Hn⟩
        case measure =>
          simp only [intOf]
          omega
      · have e6 : (r != r0) = true := by simpa using h6
        clear h5 h6 HN
        go_wp2_with fail
        refine wp_region_quiet_below (by kernel_rfl) (by kernel_rfl) ?_
        repeat (quiet_step (fail))
        refine wpQuiet_nil ?_
        intro _ hw'
        obtain ⟨⟨dq, osq⟩, hw''⟩ := hw'
        subst hw''
        have b4 : Below w2.heap.size w2 (grow (redrawn wr dq) osq) := hbw.trans ((below_regrown wr dq osq).mono hbw.size)
        generalize grow (redrawn wr dq) osq = w4 at *
        obtain ⟨hc, hf⟩ := unhide Hstop w4 b4
        clear a0 e0
        go_wp2
        exact bodyPost_ret (v := .tuple #[.agg #[.int .i64 0, .bool false, .int .i64 0, .string ⟨#[]⟩, .string ⟨#[]⟩, .string ⟨#[]⟩, .slice none 0 0], .int .i64 16]) (by simp [results, Tryz.results26, go_sem, hc]) rfl ⟨rfl, set7_below (b02.trans (b4.mono b02.size)) (Nat.le_refl _) _ _ _ _ _ _ _⟩
end Go.Proofs.YtppincbcaijcbaaGreat
