/-
  chancelref1.Runes of a text: its runes.
-/
import Derived.Test.YtgeibceijlaoaaaGreatOneAny
import Derived.Test.YtgeibceijlaoaaaGreatLawOf
namespace Go.Proofs.YtgeibceijlaoaaaGreat
open Go.RowKit

set_option maxHeartbeats 4000000 in
set_option maxRecDepth 1000000 in
theorem rrunes_any (s : ByteArray) (w : World) (hs : s.size ≤ 1099511627776) (hok : okL s.data.toList = true) :
    Calls Tryz.prog 28 #[.string s] w fun e w' => ∃ v, e = .returned v ∧ w'.ownsRow w.heap.size 21 1 v (runes s.data.toList).length ((runes s.data.toList).map (Value.int .i32)) ∧ Below w.heap.size w w' := by
  obtain ⟨i0, hi, hz0, hz1, hz2⟩ := info_parts infoRune
  have HOK := hide hok
  clear hok
  go_enter Tryz.func28, Tryz.ntmps28
  go_wp2
  go_loopw [3, 4] (fun v i wr => ∃ (pos : Nat) (xs : List Int), pos ≤ s.size ∧ i = .int .i64 pos ∧ wr.ownsRow w.heap.size 21 1 v xs.length (xs.map (Value.int .i32)) ∧ Below w.heap.size w wr ∧
      xs ++ runes (s.data.toList.drop pos) = runes s.data.toList ∧ okL (s.data.toList.drop pos) = true ∧ xs.length ≤ pos) (fun _ i _ => s.size - (intOf i).toNat)
  case atStart =>
    exact ⟨0, [], Nat.zero_le _, rfl, ⟨by simp, .inl ⟨rfl, rfl⟩⟩, Below.refl _ w, by simp, by simpa using unhide HOK, by simp⟩
  case round =>
    obtain ⟨pos, xs, hpp, rfl, hown, hbw, hacc, hokp, hxl⟩ := hrel
    have Hacc := hide hacc
    have HOKP := hide hokp
    clear hacc hokp
    have hsz := hbw.size
    by_cases hlt : pos < s.size
    · have hwd := Lib.decode_width_pos s pos hlt
      have hle := dec_in hlt
      have hmx := dec_max_at s pos
      have HR := hide (runes_at hlt)
      have hok2 := okL_cons _ (drop_ne hlt)
      rw [unhide HOKP, Lib.decodeL_drop, List.drop_drop] at hok2
      have hb : badHead (s.data.toList.drop pos) = false := by
        cases h : badHead (s.data.toList.drop pos) with
        | false => rfl
        | true => rw [h] at hok2; cases hok2
      rw [hb] at hok2
      have HO2 := hide hok2
      clear hok2
      have e1 : oneR (s.data.toList.drop pos) = ((Utf8.decode s pos).1 : Int) := by unfold oneR; rw [hb, Lib.decodeL_drop]; rfl
      have e2 : oneN (s.data.toList.drop pos) = ((Utf8.decode s pos).2 : Int) := by unfold oneN; rw [hb, Lib.decodeL_drop]; rfl
      have hne : (((Utf8.decode s pos).2 : Int) == 0) = false := by simp; omega
      have E1 := hide e1
      have E2 := hide e2
      clear hb e1 e2
      go_wp2_with fail
      refine (one_any s pos hlt hs _).mono ?_
      rintro e w1 ⟨rfl, rfl⟩
      rw [unhide E1, unhide E2]
      go_wp2_with (at_builtin; refine wpList_append_own _ rfl _ _ 51 rfl w.heap.size 21 i0 (.int .i32 0) 1 4 Tryz.underlying51 hi hz0 hz1 hz2 rfl (by decide) _ _ _ rfl (hown.alloc _) ⟨w1.heap.size, 0, none⟩ 1 1 [.int .i32 (Utf8.decode s pos).1] rfl rfl ?c1 ?c2 ?c3 ?c4 ?c5 ?_)
      case c1 =>
        intro j u hj
        match j, hj with
        | 0, hj => simp at hj; subst hj; simp [Addr.add]
      case c2 => intro u hu; simp at hu; subst hu; rfl
      case c3 => unfold maxLen; omega
      case c4 => omega
      case c5 => simp; omega
      intro v' w2 hown' hgrow _
      have hb3 := (hbw.alloc (by omega) (.cells #[.int .i32 (Utf8.decode s pos).1] 21)).grown hgrow (by simp; omega) (fun g hg => (hown.lt g hg).1)
      go_wp2
      go_roundw
      case rel =>
        refine ⟨pos + (Utf8.decode s pos).2, xs ++ [((Utf8.decode s pos).1 : Int)], hle, by go_num, ?_, hb3, ?_, ?_, by simp; omega⟩
        · rw [List.map_append, List.length_append]
          exact hown'
        · rw [← unhide Hacc, unhide HR]
          simp
        · have := unhide HO2
          simpa using this.symm
      case measure =>
        simp [intOf]
        omega
    · go_wp2
      go_ret
      have e1 := unhide Hacc
      rw [drop_end hlt, runes_nil, List.append_nil] at e1
      rw [← e1]
      exact ⟨_, rfl, hown, hbw⟩

/-- The same, as a slice with its cells. -/
theorem rrunes_row (s : ByteArray) (w : World) (hs : s.size ≤ 1099511627776) (hok : okL s.data.toList = true) :
    Calls Tryz.prog 28 #[.string s] w fun e w' => ∃ ao cap, e = .returned (.slice ao (runes s.data.toList).length cap) ∧ RowAt w' ao (runes s.data.toList) ∧ (runes s.data.toList).length ≤ cap ∧ cap ≤ maxLen ∧ Below w.heap.size w w' := by
  refine (rrunes_any s w hs hok).mono ?_
  rintro e w' ⟨v, rfl, hown, hb⟩
  obtain ⟨ao, cap, rfl, h1, h2, h3⟩ := rowAt_owns hown
  exact ⟨ao, cap, rfl, h1, h2, h3, hb⟩
end Go.Proofs.YtgeibceijlaoaaaGreat
