/-
  value.Text of the set of 1 and 2; value.Holds.
-/
import Derived.Test.YtgeibceijlaoaaaGreatVcQ
namespace Go.Proofs.YtgeibceijlaoaaaGreat
open Go.RowKit Go.Sort

theorem infoString : (Tryz.prog.info? 9).map (fun i => (i.zero, i.size, i.bytes)) = some (some (.string ⟨#[]⟩), 1, 16) := by kernel_rfl

theorem strCells_two {w : World} {B : Nat} {v : Value} {s t : ByteArray} (h : w.ownsRow B 9 1 v 2 [.string s, .string t]) : ∃ bk c, v = .slice (some ⟨bk, 0, none⟩) 2 c ∧ bk < w.heap.size ∧ w.cell? ⟨bk, 0, none⟩ = some (.string s) ∧ w.cell? ⟨bk, 1, none⟩ = some (.string t) ∧ 2 ≤ c := by
  rcases h.2 with ⟨_, h0⟩ | ⟨g, cap, cur, hv, _, hg, hnc, _, _, hxs⟩
  · cases h0
  · have e0 : cur.toList[0]? = some (.string s) := by
      have := congrArg (fun l : List Value => l[0]?) hxs
      simpa [List.getElem?_take] using this
    have e1 : cur.toList[1]? = some (.string t) := by
      have := congrArg (fun l : List Value => l[1]?) hxs
      simpa [List.getElem?_take] using this
    exact ⟨g, cap, hv, (Array.getElem?_eq_some_iff.1 hg).1, by rw [cell_of_block hg]; simpa using e0, by rw [cell_of_block hg]; simpa using e1, hnc⟩

def strs12 (j : Nat) : List Value := ([.string (dig1 1), .string (dig1 2)] : List Value).take j

set_option maxHeartbeats 4000000 in
set_option maxRecDepth 1000000 in
theorem elementsWr_12 (ao : Option Addr) (c : Nat) (w : World) (hr : RowV w ao ([.long 1, .long 2].map ofP)) :
    Calls Tryz.prog 98 #[.slice ao 2 c] w fun e w' => e = .returned (.string ⟨#[91, 49, 44, 32, 50, 93]⟩) ∧ Below w.heap.size w w' := by
  obtain ⟨i0, hi, hz0, hz1, hz2⟩ := info_parts infoString
  go_enter Tryz.func98, Tryz.ntmps98
  go_wp2
  go_loopw [3, 8] (fun tv iv wr => ∃ j : Nat, j ≤ 2 ∧ iv = .int .i64 j ∧ Below w.heap.size w wr ∧ wr.ownsRow w.heap.size 9 1 tv j (strs12 j)) (fun _ iv _ => 2 - (intOf iv).toNat)
  case atStart => exact ⟨0, by omega, rfl, Below.refl _ _, World.ownsRow_nil _ _ _ _⟩
  case round =>
    obtain ⟨j, hj, rfl, hbw, hown⟩ := hrel
    by_cases hlt : j < 2
    · have i1 : (j : Int) < 2 := by omega
      obtain ⟨b, off, rfl, A, hb⟩ := rowV_at hr hbw (j := j) (by simpa using hlt)
      rw [List.getElem_map] at A
      have hje : ([PV.long 1, PV.long 2] : List PV)[j] = .long ((j + 1 : Nat) : Int) := by
        match j, hlt with
        | 0, _ => rfl
        | 1, _ => rfl
      rw [hje] at A
      have TX := text_long (j + 1) (by omega)
      have FL := flat_plain (.long ((j + 1 : Nat) : Int))
      have Hs := hide (show strs12 (j + 1) = strs12 j ++ [.string (dig1 (j + 1))] by
        match j, hlt with
        | 0, _ => rfl
        | 1, _ => rfl)
      generalize hs : dig1 (j + 1) = s at *
      have Hd := hide hs
      clear hs hje
      generalize ofP (.long ((j + 1 : Nat) : Int)) = r at *
      obtain ⟨a0, a1, a2, a3, a4, a5, a6⟩ := A
      unfold R7.val at TX FL
      go_wp2_with fail
      have b3 : Below w.heap.size w (wr.alloc (.cells #[.int .i64 r.k, .bool r.b, .int .i64 r.n, .string r.s, .string r.t, .string r.i, .slice r.lo r.ll r.lc] 26)) := hbw.alloc hbw.size _
      have hown3 := hown.alloc (.cells #[.int .i64 r.k, .bool r.b, .int .i64 r.n, .string r.s, .string r.t, .string r.i, .slice r.lo r.ll r.lc] 26)
      clear a0 a1 a2 a3 a4 a5 a6 hown
      generalize wr.alloc _ = w3 at *
      refine (FL w3).mono ?_
      rintro e w4 ⟨rfl, b34⟩
      have b4 := b3.trans (b34.mono b3.size)
      have hown4 := own_below hown3 b34
      clear hown3
      go_wp2_with fail
      refine (TX w4).mono ?_
      rintro e w5 ⟨rfl, b45⟩
      have b5 := b4.trans (b45.mono b4.size)
      have hown5 := own_below hown4 b45
      clear hown4 TX FL
      go_wp2_with (at_builtin; refine wpList_append_own _ rfl _ _ 73 rfl w.heap.size 9 i0 (.string ⟨#[]⟩) 1 16 Tryz.underlying73 hi hz0 hz1 hz2 rfl (by decide) _ _ _ rfl (hown5.alloc _) ⟨w5.heap.size, 0, none⟩ 1 1 [.string s] rfl rfl ?c1 ?c2 ?c3 ?c4 ?c5 ?_)
      case c1 =>
        intro k u hk
        match k, hk with
        | 0, hk => simp at hk; subst hk; simp [Addr.add]
      case c2 => intro u hu; simp at hu; subst hu; rfl
      case c3 => unfold maxLen; omega
      case c4 => omega
      case c5 => have := b5.size; simp; omega
      intro v' w6 hown' hgrow _
      have b6 : Below w.heap.size w w6 := (b5.alloc b5.size _).grown hgrow (by have := b5.size; simp; omega) (fun k hk => (hown5.lt k hk).1)
      have Hown := hide hown'
      have HG := hide hgrow
      clear hown' hgrow
      go_wp2
      go_roundw
      case rel =>
        refine ⟨j + 1, by omega, by go_num, b6, ?_⟩
        rw [unhide Hs]
        exact unhide Hown
      case measure =>
        simp only [intOf]
        omega
    · obtain rfl : j = 2 := by omega
      obtain ⟨bk, c', rfl, hbk, e0, e1, hc2⟩ := strCells_two hown
      have J := join_two 49 50 bk c' wr hbk e0 e1 hc2
      clear hown
      go_wp2_with fail
      refine J.mono ?_
      rintro e w6 ⟨rfl, b6⟩
      go_wp2
      go_ret
      exact ⟨rfl, hbw.trans (b6.mono hbw.size)⟩

theorem text_12 (ao : Option Addr) (c : Nat) (w : World) (hr : RowV w ao ([.long 1, .long 2].map ofP)) :
    Calls Tryz.prog 19 #[(setR ao 2 c).val] w fun e w' => e = .returned (.string ⟨#[91, 49, 44, 32, 50, 93]⟩) ∧ Below w.heap.size w w' :=
  text_of (setR ao 2 c) 65 98 (.slice ao 2 c) _ w (fun w => contentOf_set ao 2 c w) (mw_elements _) (ew_elements _) (fun w' hb => elementsWr_12 ao c w' (hr.below hb))
end Go.Proofs.YtgeibceijlaoaaaGreat
