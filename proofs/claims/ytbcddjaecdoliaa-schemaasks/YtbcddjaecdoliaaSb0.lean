/-
  chancellaw10.SchemaBounds: the walk, case 0.
-/
import Derived.Test.YtbcddjaecdoliaaSbA
import Derived.Deep.Cut
namespace Go.Proofs.Ytbcddjaecdoliaa
open Go.RowKit Go.Sort
theorem small_s0 (m : Nat) (hm : m < 4) : SmallAll (s0 m) := small_of (by show ((List.range (5 + m)).map _).length ≤ _; simp; omega) (Nat.zero_le _) (fun k h => by
    obtain ⟨j, _, rfl⟩ := List.mem_map.1 h
    exact smallK_bare _ (by show 1 ≤ _; omega)) (fun _ h => by cases h)
theorem len3 (l : List N3) : ∀ c ∈ l.map N3.cells, c.length = 3 := fun c h => by
  obtain ⟨x, _, rfl⟩ := List.mem_map.1 h
  rfl
theorem is_s0 {w : World} {ao : Option Addr} {cap m : Nat} (h : RowG w ao 3 ((kLs (5 + m)).map N3.cells)) : IsS w (.agg #[.slice ao (5 + m) cap, .slice none 0 0]) (s0 m) :=
  ⟨⟨ao, cap, none, 0, by simp [s0], ⟨⟨kLs (5 + m), by simp [s0, kLs], h, fun j h1 h2 => by
    simp only [kLs, s0, List.getElem_map, List.getElem_range]
    exact isK_bare _ _⟩⟩, isAs_nil _ _⟩⟩
set_option maxHeartbeats 8000000 in
set_option maxRecDepth 1000000 in
theorem sbounds_0 (which n : Int) (m : Nat) (w : World) (h0 : which % 5 = 0) (hm : n % 4 = (m : Int)) (hm3 : m < 4) :
    Calls Try.prog 6 #[.int .i64 which, .int .i64 n] w fun e w' => e = .returned (.bool true) ∧ Below w.heap.size w w' := by
  obtain ⟨i0, hi, hz0, hz1, hz2⟩ := info_parts infoKind
  have K := known10_any w
  have W1 := fun w' => within10_any n 4 (by decide) (by decide) w'
  have W2 := fun w' => within10_any which 5 (by decide) (by decide) w'
  rw [hm] at W1
  rw [h0] at W2
  clear hm h0
  go_enter Try.func6, Try.ntmps6
  go_wp2_with fail
  refine K.mono ?_
  clear K
  rintro x w1 ⟨rfl, b1⟩
  go_wp2_with fail
  refine (W1 _).mono ?_
  clear W1
  rintro x w1 ⟨rfl, rfl⟩
  go_wp2_with fail
  refine (W2 _).mono ?_
  clear W2
  rintro x w1 ⟨rfl, rfl⟩
  go_wp2
  have b2 := (b1.alloc b1.size (.cells #[.slice none 0 0, .slice none 0 0] 25)).alloc (by have := b1.size; simp; omega) (.cells #[.string ⟨#[65]⟩, .slice none 0 0, .slice none 0 0] 42)
  have H2 : ((w1.alloc (.cells #[.slice none 0 0, .slice none 0 0] 25)).alloc (.cells #[.string ⟨#[65]⟩, .slice none 0 0, .slice none 0 0] 42)).heap[w1.heap.size]? = some (.cells #[.slice none 0 0, .slice none 0 0] 25 (0, 0)) := by
    rw [Below.heap_alloc _ _ _ (by simp)]
    exact alloc_heap _ _
  have z1 := b1.size
  have zl : w1.heap.size < ((w1.alloc (.cells #[.slice none 0 0, .slice none 0 0] 25)).alloc (.cells #[.string ⟨#[65]⟩, .slice none 0 0, .slice none 0 0] 42)).heap.size := by simp; omega
  generalize (w1.alloc _).alloc _ = w2 at *
  go_loopw [6] (fun kv wr => ∃ (k : Nat) (lv : Value), k ≤ 5 + m ∧ kv = .int .i64 k ∧ Below w.heap.size w wr ∧ w2.heap.size ≤ wr.heap.size ∧ wr.heap[w1.heap.size]? = some (.cells #[lv, .slice none 0 0] 25 (0, 0)) ∧ wr.ownsRow w2.heap.size 42 3 lv k ((kLs k).map N3.cells).flatten) (fun kv _ => 5 + m - (intOf kv).toNat)
  case atStart => exact ⟨0, _, by omega, by go_num, b2, Nat.le_refl _, H2, World.ownsRow_nil _ _ _ _⟩
  case round =>
    obtain ⟨k, lv, hk, rfl, hbw, hsz, hB, hown⟩ := hrel
    by_cases hlt : k < 5 + m
    · have i1 : (k : Int) < 5 + (m : Int) := by omega
      have Hs := hide (show ((kLs (k + 1)).map N3.cells).flatten = ((kLs k).map N3.cells).flatten ++ [.string (letQ k), .slice none 0 0, .slice none 0 0] by rw [kLs_succ]; simp [kL, N3.cells])
      have cv := conv_let k (by omega) wr
      have k97 : (97 : Int) + (k : Int) < 256 := by omega
      generalize letQ k = s at *
      have c0 : wr.cell? ⟨w1.heap.size, 0, none⟩ = some lv := by rw [Lib.cell_of_heap hB]; rfl
      have b4 := (hbw.alloc hbw.size (.cells #[.int .u8 (97 + (k : Int))] 5)).alloc (by have := hbw.size; simp; omega) (.cells #[.string s, .slice none 0 0, .slice none 0 0] 42)
      have bl := blw2 wr (.cells #[.int .u8 (97 + (k : Int))] 5) (.cells #[.string s, .slice none 0 0, .slice none 0 0] 42)
      have hown4 := own_belowS hown bl
      have hB4 := kept_of_below bl hB
      have z4 : ((wr.alloc (.cells #[.int .u8 (97 + (k : Int))] 5)).alloc (.cells #[.string s, .slice none 0 0, .slice none 0 0] 42)).heap.size = wr.heap.size + 2 := by simp
      have hnb := hown4.lt
      have Hown4 := hide hown4
      have HB4 := hide hB4
      clear hown hB hown4 hB4
      go_wp2_with (at_builtin; refine wpList_append_own _ rfl _ _ 22 rfl w2.heap.size 42 i0 _ 3 64 Try.underlying22 hi hz0 hz1 hz2 rfl (by decide) _ _ _ rfl (unhide Hown4) ⟨wr.heap.size + 1, 0, none⟩ 1 1 [.string s, .slice none 0 0, .slice none 0 0] rfl rfl ?c1 ?c2 ?c3 ?c4 ?c5 ?_)
      case c1 =>
        intro j u hj
        match j, hj with
        | 0, hj => cases hj; simp [Addr.add]
        | 1, hj => cases hj; simp [Addr.add]
        | 2, hj => cases hj; simp [Addr.add]
        | _ + 3, hj => simp at hj
      case c2 => intro u hu; simp at hu; rcases hu with rfl | rfl <;> rfl
      case c3 => unfold maxLen; omega
      case c4 => omega
      case c5 => have := hbw.size; simp; omega
      intro v6 w6 hown6 hgrow _
      obtain ⟨ao6, n6, c6, rfl⟩ : ∃ a n c, v6 = .slice a n c := by
        rcases hown6.2 with ⟨h, _⟩ | ⟨g, cap, cur, h, _⟩
        · exact ⟨_, _, _, h⟩
        · exact ⟨_, _, _, h⟩
      have b6 : Below w.heap.size w w6 := b4.grown hgrow b4.size (fun j hj => by have := (hnb j hj).1; omega)
      have hB6 : w6.heap[w1.heap.size]? = some (.cells #[lv, .slice none 0 0] 25 (0, 0)) := by
        rw [hgrow.block w1.heap.size (by omega) (fun h => by have := (hnb _ h.symm).1; omega)]
        exact unhide HB4
      have x6 : w6.cell? ⟨w1.heap.size, 0, none⟩ = some lv := by rw [Lib.cell_of_heap hB6]; rfl
      have f6 : w6.frozen? ⟨w1.heap.size, 0, none⟩ = false := Lib.frozen_of_heap hB6 0
      have b7 := b6.setCell (p := ⟨w1.heap.size, 0, none⟩) z1 (.slice ao6 n6 c6)
      have hB7 := heap_setCell_same w6 w1.heap.size 0 _ _ (.slice ao6 n6 c6) hB6
      have hown7 : (w6.setCell ⟨w1.heap.size, 0, none⟩ (.slice ao6 n6 c6)).ownsRow w2.heap.size 42 3 (.slice ao6 n6 c6) (k + 1) (((kLs k).map N3.cells).flatten ++ [.string s, .slice none 0 0, .slice none 0 0]) := by
        refine ⟨hown6.1, hown6.2.imp id fun ⟨g, cap, cur, h1, h2, h3, h4⟩ => ⟨g, cap, cur, h1, h2, ?_, h4⟩⟩
        rw [Below.heap_setCell w6 ⟨w1.heap.size, 0, none⟩ (.slice ao6 n6 c6) g (by show g ≠ w1.heap.size; omega)]
        exact h3
      have z7 : w2.heap.size ≤ (w6.setCell ⟨w1.heap.size, 0, none⟩ (.slice ao6 n6 c6)).heap.size := by
        have := hgrow.size
        simp
        omega
      have Hown7 := hide hown7
      have HB7 := hide hB7
      clear hown6 hgrow hB6 hown7 hB7 Hown4 HB4
      go_wp2
      go_roundw
      case rel =>
        refine ⟨k + 1, .slice ao6 n6 c6, by omega, by go_num, b7, z7, unhide HB7, ?_⟩
        rw [unhide Hs]
        exact unhide Hown7
      case measure =>
        simp only [intOf]
        omega
    · obtain rfl : k = 5 + m := by omega
      have i1 : ¬ ((5 + m : Nat) : Int) < 5 + (m : Int) := by omega
      have hown' : wr.ownsRow w2.heap.size 42 3 lv ((kLs (5 + m)).map N3.cells).length ((kLs (5 + m)).map N3.cells).flatten := by rw [List.length_map, kLs_len]; exact hown
      obtain ⟨ao, cap, rfl, hrow, hcap⟩ := rowG_ownS (len3 _) hown'
      rw [List.length_map, kLs_len] at hB hcap
      have c0 : wr.cell? ⟨w1.heap.size, 0, none⟩ = some (.slice ao (5 + m) cap) := by rw [Lib.cell_of_heap hB]; rfl
      have c1 : wr.cell? ⟨w1.heap.size, 1, none⟩ = some (.slice none 0 0) := by rw [Lib.cell_of_heap hB]; rfl
      have CK := scheck_any (s0 m) _ wr (small_s0 m hm3) (is_s0 (cap := cap) hrow)
      rw [s0_told m hm3] at CK
      clear hrow hcap hown hown' hB
      by_cases h1 : 1 < m
      · have i2 : (1 : Int) < (m : Int) := by omega
        rw [if_pos h1] at CK
        clear h1
        generalize 5 + m = mm at *
        go_wp2_with fail
        refine CK.mono ?_
        rintro x w4 ⟨rfl, b4⟩
        go_wp2
        go_ret
        exact ⟨rfl, hbw.trans (b4.mono hbw.size)⟩
      · have i2 : ¬ (1 : Int) < (m : Int) := by omega
        rw [if_neg h1] at CK
        clear h1
        generalize 5 + m = mm at *
        go_wp2_with fail
        refine CK.mono ?_
        rintro x w4 ⟨rfl, b4⟩
        go_wp2
        go_ret
        exact ⟨rfl, hbw.trans (b4.mono hbw.size)⟩
end Go.Proofs.Ytbcddjaecdoliaa
