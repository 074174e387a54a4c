/-
  chancellaw8.EntsBounds: the walk, entities.
-/
import Derived.Test.YtifkkhngibjalaaEbA
namespace Go.Proofs.Ytifkkhngibjalaa
open Go.RowKit Go.Sort

theorem infoEnt : (Try.prog.info? 34).map (fun i => (i.zero, i.size, i.bytes)) = some (some (.agg #[.string ⟨#[]⟩, .string ⟨#[]⟩, .slice none 0 0, .slice none 0 0]), 4, 80) := by kernel_rfl
set_option maxHeartbeats 4000000 in
set_option maxRecDepth 1000000 in
theorem ebounds_0 (which n : Int) (m : Nat) (w : World) (h0 : (which.tmod 3 == 0) = true) (hn : ¬ n < 0) (hm : n.tmod 4 = (m : Int)) (hm3 : m ≤ 3) :
    Calls Try.prog 5 #[.int .i64 which, .int .i64 n] w fun e w' => e = .returned (.bool true) ∧ Below w.heap.size w w' := by
  obtain ⟨i0, hi, hz0, hz1, hz2⟩ := info_parts infoEnt
  have K := known8_any w
  go_enter Try.func5, Try.ntmps5
  go_wp2_with fail
  refine K.mono ?_
  clear K
  rintro x w1 ⟨rfl, b1⟩
  go_wp2
  have b2 := b1.alloc b1.size (.cells #[.string ⟨#[84]⟩, .string ⟨#[97]⟩, .slice none 0 0, .slice none 0 0] 34)
  generalize w1.alloc _ = w2 at *
  go_loopw [5, 7] (fun lv kv wr => ∃ k : Nat, k ≤ 15 + m ∧ kv = .int .i64 k ∧ Below w.heap.size w wr ∧ wr.ownsRow w.heap.size 34 4 lv k ((eLs k).map E4.cells).flatten) (fun _ kv _ => 15 + m - (intOf kv).toNat)
  case atStart => exact ⟨0, by omega, rfl, b2, World.ownsRow_nil _ _ _ _⟩
  case round =>
    obtain ⟨k, hk, rfl, hbw, hown⟩ := hrel
    by_cases hlt : k < 15 + m
    · have i1 : (k : Int) < 15 + (m : Int) := by omega
      have L := letter8_any k (by omega) wr
      have Hs := hide (show ((eLs (k + 1)).map E4.cells).flatten = ((eLs k).map E4.cells).flatten ++ (eL k).cells by rw [eLs_succ]; simp)
      have hec : (eL k).cells = [.string ⟨#[84]⟩, .string (letS k), .slice none 0 0, .slice none 0 0] := rfl
      rw [hec] at Hs
      clear hec
      generalize letS k = s at *
      go_wp2_with fail
      refine L.mono ?_
      clear L
      rintro x w3 ⟨rfl, b3⟩
      have b03 := hbw.trans (b3.mono hbw.size)
      have hown3 := own_below hown b3
      clear hown
      go_wp2_with (at_builtin; refine wpList_append_own _ rfl _ _ 47 rfl w.heap.size 34 i0 _ 4 80 Try.underlying47 hi hz0 hz1 hz2 rfl (by decide) _ _ _ rfl (hown3.alloc _) ⟨w3.heap.size, 0, none⟩ 1 1 [.string ⟨#[84]⟩, .string s, .slice none 0 0, .slice none 0 0] rfl rfl ?c1 ?c2 ?c3 ?c4 ?c5 ?_)
      case c1 =>
        intro j u hj
        match j, hj with
        | 0, hj => cases hj; simp [Addr.add]
        | 1, hj => cases hj; simp [Addr.add]
        | 2, hj => cases hj; simp [Addr.add]
        | 3, hj => cases hj; simp [Addr.add]
        | _ + 4, hj => simp at hj
      case c2 => intro u hu; simp at hu; rcases hu with rfl | rfl | rfl | rfl <;> rfl
      case c3 => unfold maxLen; omega
      case c4 => omega
      case c5 => have := b03.size; simp; omega
      intro v6 w6 hown6 hgrow _
      have b6 : Below w.heap.size w w6 := (b03.alloc b03.size _).grown hgrow (by have := b03.size; simp; omega) (fun j hj => (hown3.lt j hj).1)
      have Hown6 := hide hown6
      clear hown6 hgrow
      go_wp2
      go_roundw
      case rel =>
        refine ⟨k + 1, by omega, by go_num, b6, ?_⟩
        rw [unhide Hs]
        exact unhide Hown6
      case measure =>
        simp only [intOf]
        omega
    · obtain rfl : k = 15 + m := by omega
      have i1 : ¬ ((15 + m : Nat) : Int) < 15 + (m : Int) := by omega
      have hown' : wr.ownsRow w.heap.size 34 4 u5 ((eLs (15 + m)).map E4.cells).length ((eLs (15 + m)).map E4.cells).flatten := by rw [List.length_map, eLs_len]; exact hown
      obtain ⟨ao, cap, rfl, hrow, hcap, _⟩ := rowG_own (lenE _) hown'
      have CK := echeck_any (eLs (15 + m)) ao cap (fun _ => 0) wr (by rw [eLs_len]; omega) hrow (fun e he => by
        obtain ⟨k, hk, rfl⟩ := List.mem_map.1 he
        have := eL_ok wr k (by have := List.mem_range.1 hk; omega)
        exact ⟨[], [], _, this.1, this.2.symm⟩)
      rw [eLs_told _ (by omega), eLs_len] at CK
      rw [List.length_map, eLs_len]
      clear hrow hcap hown hown'
      have hw : (16 < 15 + m) ↔ 1 < m := by omega
      by_cases h1 : 1 < m
      · have i2 : (1 : Int) < (m : Int) := by omega
        rw [if_pos (hw.2 h1)] at CK
        clear hw h1
        generalize 15 + m = mm at *
        go_wp2_with fail
        refine CK.mono ?_
        rintro x w4 ⟨rfl, b4⟩
        go_wp2
        go_ret
        exact ⟨rfl, hbw.trans (b4.mono hbw.size)⟩
      · have i2 : ¬ (1 : Int) < (m : Int) := by omega
        rw [if_neg (fun h => h1 (hw.1 h))] at CK
        clear hw h1
        generalize 15 + m = mm at *
        go_wp2_with fail
        refine CK.mono ?_
        rintro x w4 ⟨rfl, b4⟩
        go_wp2
        go_ret
        exact ⟨rfl, hbw.trans (b4.mono hbw.size)⟩
end Go.Proofs.Ytifkkhngibjalaa
