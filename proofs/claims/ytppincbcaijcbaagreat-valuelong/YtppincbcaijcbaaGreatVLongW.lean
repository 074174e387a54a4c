/-
  chancellaw3.ValueLong: the walk.
-/
import Derived.Test.YtppincbcaijcbaaGreatVcU
import Derived.Test.YtppincbcaijcbaaGreatVdE
import Derived.Test.YtppincbcaijcbaaGreatRRunes
namespace Go.Proofs.YtppincbcaijcbaaGreat
open Go.RowKit Go.Sort

theorem picks_rep (r : Int) (n : Nat) (h : n < 40) : (picks (List.replicate n r)).length = n := by simp [picks]; omega

theorem name_A : nameB [65] = true := by decide

theorem chk_long (n : Nat) (r : Int) (h : n < 40) (s : ByteArray) (hs : s.data.toList = txt (List.replicate n r)) : chkT s.data.toList = if 30 < n then 5 else 0 := by
  rw [hs, chkT, okL_txt, if_pos rfl, runes_txt, picks_rep r n h]

set_option maxHeartbeats 4000000 in
set_option maxRecDepth 1000000 in
theorem long_walk (n0 r : Int) (u : Bool) (w : World) :
    Calls Tryz.prog 6 #[.int .i64 n0, .int .i64 r, .bool u] w fun e w' => e = .returned (.bool true) ∧ Below w.heap.size w w' := by
  obtain ⟨i0, hi, hz0, hz1, hz2⟩ := info_parts infoInt
  have K := known3_any
  have W := within3_any n0 40 (by decide) (by decide)
  obtain ⟨n, hn⟩ : ∃ n : Nat, (n : Int) = n0 % 40 := ⟨(n0 % 40).toNat, by omega⟩
  have hn40 : n < 40 := by omega
  rw [← hn] at W
  clear hn
  go_enter Tryz.func6, Tryz.ntmps6
  go_wp2_with fail
  refine (K _).mono ?_
  rintro e w1 ⟨rfl, b1⟩
  go_wp2_with fail
  refine (W _).mono ?_
  rintro e w1' ⟨rfl, rfl⟩
  go_wp2_with fail
  go_loopw [7, 8] (fun lv iv wr => ∃ j : Nat, j ≤ n ∧ iv = .int .i64 j ∧ Below w.heap.size w wr ∧ wr.ownsRow w.heap.size 3 1 lv j (List.replicate j (Value.int .i64 r))) (fun _ iv _ => n - (intOf iv).toNat)
  case atStart => exact ⟨0, Nat.zero_le _, rfl, b1, World.ownsRow_nil _ _ _ _⟩
  case round =>
    obtain ⟨j, hj, rfl, hbw, hown⟩ := hrel
    by_cases hlt : j < n
    · have i1 : (j : Int) < (n : Int) := by omega
      have Hs := hide (show List.replicate (j + 1) (Value.int .i64 r) = List.replicate j (Value.int .i64 r) ++ [.int .i64 r] by rw [List.replicate_succ'])
      go_wp2_with (at_builtin; refine wpList_append_own _ rfl _ _ 27 rfl w.heap.size 3 i0 (.int .i64 0) 1 8 Tryz.underlying27 hi hz0 hz1 hz2 rfl (by decide) _ _ _ rfl (hown.alloc _) ⟨wr.heap.size, 0, none⟩ 1 1 [.int .i64 r] rfl rfl ?c1 ?c2 ?c3 ?c4 ?c5 ?_)
      case c1 =>
        intro k u hk
        match k, hk with
        | 0, hk => simp at hk; subst hk; simp [Addr.add]
      case c2 => intro u hu; simp at hu; subst hu; rfl
      case c3 => unfold maxLen; omega
      case c4 => omega
      case c5 => have := hbw.size; simp; omega
      intro v' w6 hown' hgrow _
      have b6 : Below w.heap.size w w6 := (hbw.alloc hbw.size _).grown hgrow (by have := hbw.size; simp; omega) (fun k hk => (hown.lt k hk).1)
      have Hown := hide hown'
      have HG := hide hgrow
      clear hown' hgrow hown
      go_wp2
      go_roundw
      case rel =>
        refine ⟨j + 1, by omega, by go_num, b6, ?_⟩
        rw [unhide Hs]
        exact unhide Hown
      case measure =>
        simp only [intOf]
        omega
    · have i1 : ¬ (j : Int) < (n : Int) := by omega
      obtain rfl : j = n := by omega
      obtain ⟨ao, cap, rfl, hz⟩ := intsAt_own (zs := List.replicate j r) (by simpa using hown)
      have O := lawOf_txt (List.replicate j r) ao cap wr (by rw [List.length_replicate]; omega) hz
      rw [List.length_replicate] at O ⊢
      clear hown hz
      go_wp2_with fail
      refine O.mono ?_
      rintro e w2 ⟨s, rfl, hs, hs160, b2⟩
      have b02 := hbw.trans (b2.mono hbw.size)
      have HT := hide (chk_long j r hn40 s hs)
      have R := rrunes_row s
      have hok : okL s.data.toList = true := by rw [hs]; exact okL_txt _
      have hlen : (runes s.data.toList).length = j := by rw [hs, runes_txt, picks_rep r j hn40]
      rw [hlen] at R
      clear O hs hlen W K
      cases u
      · have C := fun w => vcheck_ofP (.str s.data.toList) w (show s.data.toList.length ≤ 1099511627776 by rw [← Lib.size_eq]; omega)
        have e1 : chkP (.str s.data.toList) = chkT s.data.toList := rfl
        rw [e1, unhide HT] at C
        go_wp2_with fail
        have A3 := at7_new w2 (ofP (.str s.data.toList))
        have b3 := below1 w2 (.cells #[.int .i64 (ofP (.str s.data.toList)).k, .bool (ofP (.str s.data.toList)).b, .int .i64 (ofP (.str s.data.toList)).n, .string (ofP (.str s.data.toList)).s, .string (ofP (.str s.data.toList)).t, .string (ofP (.str s.data.toList)).i, .slice (ofP (.str s.data.toList)).lo (ofP (.str s.data.toList)).ll (ofP (.str s.data.toList)).lc] 26)
        have z3 := size1 w2 (.cells #[.int .i64 (ofP (.str s.data.toList)).k, .bool (ofP (.str s.data.toList)).b, .int .i64 (ofP (.str s.data.toList)).n, .string (ofP (.str s.data.toList)).s, .string (ofP (.str s.data.toList)).t, .string (ofP (.str s.data.toList)).i, .slice (ofP (.str s.data.toList)).lo (ofP (.str s.data.toList)).ll (ofP (.str s.data.toList)).lc] 26)
        have R' := R (w2.alloc (.cells #[.int .i64 (ofP (.str s.data.toList)).k, .bool (ofP (.str s.data.toList)).b, .int .i64 (ofP (.str s.data.toList)).n, .string (ofP (.str s.data.toList)).s, .string (ofP (.str s.data.toList)).t, .string (ofP (.str s.data.toList)).i, .slice (ofP (.str s.data.toList)).lo (ofP (.str s.data.toList)).ll (ofP (.str s.data.toList)).lc] 26)) (by omega) hok
        refine R'.mono ?_
        clear R'
        generalize w2.alloc _ = w3 at *
        rintro e w4 ⟨ao', cap', rfl, _, _, _, b4⟩
        have A4 := A3.below b4 (by omega)
        have b03 := b02.trans (b3.mono b02.size)
        have b04 := b03.trans (b4.mono b03.size)
        clear A3 R e1
        unfold R7.val ofP at C
        obtain ⟨a0, a1, a2, a3, a4, a5, a6⟩ := A4
        unfold ofP at a0 a1 a2 a3 a4 a5 a6
        simp only [Nat.zero_add] at a0 a1 a2 a3 a4 a5 a6 C
        by_cases h30 : 30 < j
        · have i3 : (30 : Int) < (j : Int) := by omega
          rw [if_pos h30] at C
          go_wp2_with fail
          refine (C _).mono ?_
          rintro e w5 ⟨rfl, b5⟩
          go_wp2
          go_ret
          exact ⟨rfl, b04.trans (b5.mono b04.size)⟩
        · have i3 : ¬ (30 : Int) < (j : Int) := by omega
          rw [if_neg h30] at C
          go_wp2_with fail
          refine (C _).mono ?_
          rintro e w5 ⟨rfl, b5⟩
          go_wp2
          go_ret
          exact ⟨rfl, b04.trans (b5.mono b04.size)⟩
      · have C := fun w => vcheck_ofP (.uid [65] s.data.toList) w ⟨by decide, by rw [← Lib.size_eq]; omega⟩
        have e1 : chkP (.uid [65] s.data.toList) = chkT s.data.toList := by show chkU [65] _ = _; rw [chkU, name_A]; rfl
        rw [e1, unhide HT] at C
        go_wp2_with fail
        have A3 := at7_new w2 (ofP (.uid [65] s.data.toList))
        have b3 := below1 w2 (.cells #[.int .i64 (ofP (.uid [65] s.data.toList)).k, .bool (ofP (.uid [65] s.data.toList)).b, .int .i64 (ofP (.uid [65] s.data.toList)).n, .string (ofP (.uid [65] s.data.toList)).s, .string (ofP (.uid [65] s.data.toList)).t, .string (ofP (.uid [65] s.data.toList)).i, .slice (ofP (.uid [65] s.data.toList)).lo (ofP (.uid [65] s.data.toList)).ll (ofP (.uid [65] s.data.toList)).lc] 26)
        have z3 := size1 w2 (.cells #[.int .i64 (ofP (.uid [65] s.data.toList)).k, .bool (ofP (.uid [65] s.data.toList)).b, .int .i64 (ofP (.uid [65] s.data.toList)).n, .string (ofP (.uid [65] s.data.toList)).s, .string (ofP (.uid [65] s.data.toList)).t, .string (ofP (.uid [65] s.data.toList)).i, .slice (ofP (.uid [65] s.data.toList)).lo (ofP (.uid [65] s.data.toList)).ll (ofP (.uid [65] s.data.toList)).lc] 26)
        have R' := R (w2.alloc (.cells #[.int .i64 (ofP (.uid [65] s.data.toList)).k, .bool (ofP (.uid [65] s.data.toList)).b, .int .i64 (ofP (.uid [65] s.data.toList)).n, .string (ofP (.uid [65] s.data.toList)).s, .string (ofP (.uid [65] s.data.toList)).t, .string (ofP (.uid [65] s.data.toList)).i, .slice (ofP (.uid [65] s.data.toList)).lo (ofP (.uid [65] s.data.toList)).ll (ofP (.uid [65] s.data.toList)).lc] 26)) (by omega) hok
        refine R'.mono ?_
        clear R'
        generalize w2.alloc _ = w3 at *
        rintro e w4 ⟨ao', cap', rfl, _, _, _, b4⟩
        have A4 := A3.below b4 (by omega)
        have b03 := b02.trans (b3.mono b02.size)
        have b04 := b03.trans (b4.mono b03.size)
        clear A3 R e1
        unfold R7.val ofP at C
        obtain ⟨a0, a1, a2, a3, a4, a5, a6⟩ := A4
        unfold ofP at a0 a1 a2 a3 a4 a5 a6
        simp only [Nat.zero_add] at a0 a1 a2 a3 a4 a5 a6 C
        by_cases h30 : 30 < j
        · have i3 : (30 : Int) < (j : Int) := by omega
          rw [if_pos h30] at C
          go_wp2_with fail
          refine (C _).mono ?_
          rintro e w5 ⟨rfl, b5⟩
          go_wp2
          go_ret
          exact ⟨rfl, b04.trans (b5.mono b04.size)⟩
        · have i3 : ¬ (30 : Int) < (j : Int) := by omega
          rw [if_neg h30] at C
          go_wp2_with fail
          refine (C _).mono ?_
          rintro e w5 ⟨rfl, b5⟩
          go_wp2
          go_ret
          exact ⟨rfl, b04.trans (b5.mono b04.size)⟩
end Go.Proofs.YtppincbcaijcbaaGreat
