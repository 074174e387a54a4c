/-
  chancellaw10.SchemaBounds: the walk, case 4.
-/
import Derived.Test.YtbcddjaecdoliaaSb1
import Derived.Deep.Cut
namespace Go.Proofs.Ytbcddjaecdoliaa
open Go.RowKit Go.Sort
theorem small_s4 (m : Nat) (hm : m < 4) : SmallAll (s4 m) := small_of (by show 1 ≤ _; omega) (by show 1 ≤ _; omega) (fun k h => by
    rw [List.mem_singleton.1 h]
    exact smallK_bare _ (by decide)) (fun a h => by
    rw [List.mem_singleton.1 h]
    exact ⟨by show 1 ≤ _; omega, by show (pLs (5 + m)).length ≤ _; rw [pLs_len]; omega, by show 1 ≤ _; omega⟩)
theorem len1 (l : List ByteArray) : ∀ c ∈ l.map strC, c.length = 1 := fun c h => by
  obtain ⟨x, _, rfl⟩ := List.mem_map.1 h
  rfl
theorem is_s4 {w : World} {ao : Option Addr} {cap m K R A : Nat} (hA : w.heap[A]? = some (.cells #[.string ⟨#[120]⟩, .slice ao (5 + m) cap, .slice (some ⟨R, 0, none⟩) 1 1] 44 (0, 0))) (h : RowG w ao 1 ((pLs (5 + m)).map strC)) (hR : ABlk w R) (hK : KBlk w K) : IsS w (.agg #[.slice (some ⟨K, 0, none⟩) 1 1, .slice (some ⟨A, 0, none⟩) 1 1]) (s4 m) :=
  ⟨⟨_, 1, _, 1, by simp [s4], isKs_A hK, ⟨⟨[⟨⟨#[120]⟩, ao, 5 + m, cap, some ⟨R, 0, none⟩, 1, 1⟩], rfl, rowG_block _ hA rfl (fun x hx => by rw [List.mem_singleton.1 hx]; rfl), fun j h1 h2 => by
    obtain rfl : j = 0 := by simpa using h1
    exact ⟨rfl, by show 5 + m = (pLs (5 + m)).length; rw [pLs_len], h, rfl, rowS_A hR⟩⟩⟩⟩⟩
set_option maxHeartbeats 8000000 in
set_option maxRecDepth 1000000 in
theorem sbounds_4 (which n : Int) (m : Nat) (w : World) (h0 : which % 5 = 4) (hm : n % 4 = (m : Int)) (hm3 : m < 4) :
    Calls Try.prog 6 #[.int .i64 which, .int .i64 n] w fun e w' => e = .returned (.bool true) ∧ Below w.heap.size w w' := by
  obtain ⟨i0, hi, hz0, hz1, hz2⟩ := info_parts infoStr
  have K := known10_any w
  have W1 := fun w' => within10_any n 4 (by decide) (by decide) w'
  have W2 := fun w' => within10_any which 5 (by decide) (by decide) w'
  rw [hm] at W1
  rw [h0] at W2
  clear hm h0
  go_enter Try.func6, Try.ntmps6
  go_wp2_with fail
  refine K.mono ?_
  clear K
  rintro x w1 ⟨rfl, b1⟩
  go_wp2_with fail
  refine (W1 _).mono ?_
  clear W1
  rintro x w1 ⟨rfl, rfl⟩
  go_wp2_with fail
  refine (W2 _).mono ?_
  clear W2
  rintro x w1 ⟨rfl, rfl⟩
  go_wp2
  have bl0 : Below w1.heap.size w1 ((((w1.alloc (.cells #[.slice (some ⟨w1.heap.size + 1, 0, none⟩) 1 1, .slice none 0 0] 25)).alloc (.cells #[.string ⟨#[65]⟩, .slice none 0 0, .slice none 0 0] 42)).alloc (.cells #[.string ⟨#[65]⟩] 9)).alloc (.cells #[.string ⟨#[120]⟩, .slice none 0 0, .slice (some ⟨w1.heap.size + 1 + 1, 0, none⟩) 1 1] 44)) := (((blw1 w1 (.cells #[.slice (some ⟨w1.heap.size + 1, 0, none⟩) 1 1, .slice none 0 0] 25)).alloc (by simp) (.cells #[.string ⟨#[65]⟩, .slice none 0 0, .slice none 0 0] 42)).alloc (by simp; omega) (.cells #[.string ⟨#[65]⟩] 9)).alloc (by simp; omega) (.cells #[.string ⟨#[120]⟩, .slice none 0 0, .slice (some ⟨w1.heap.size + 1 + 1, 0, none⟩) 1 1] 44)
  have b2 := b1.trans (bl0.mono b1.size)
  have H2 : ((((w1.alloc (.cells #[.slice (some ⟨w1.heap.size + 1, 0, none⟩) 1 1, .slice none 0 0] 25)).alloc (.cells #[.string ⟨#[65]⟩, .slice none 0 0, .slice none 0 0] 42)).alloc (.cells #[.string ⟨#[65]⟩] 9)).alloc (.cells #[.string ⟨#[120]⟩, .slice none 0 0, .slice (some ⟨w1.heap.size + 1 + 1, 0, none⟩) 1 1] 44)).heap[w1.heap.size]? = some (.cells #[.slice (some ⟨w1.heap.size + 1, 0, none⟩) 1 1, .slice none 0 0] 25 (0, 0)) := by
    have h1 := alloc_heap w1 (.cells #[.slice (some ⟨w1.heap.size + 1, 0, none⟩) 1 1, .slice none 0 0] 25)
    have h2 := kept_of_below (blw1 _ (.cells #[.string ⟨#[65]⟩, .slice none 0 0, .slice none 0 0] 42)) h1
    have h3 := kept_of_below (blw2 _ (.cells #[.string ⟨#[65]⟩] 9) (.cells #[.string ⟨#[120]⟩, .slice none 0 0, .slice (some ⟨w1.heap.size + 1 + 1, 0, none⟩) 1 1] 44)) h2
    simpa using h3
  have HK2 : KBlk ((((w1.alloc (.cells #[.slice (some ⟨w1.heap.size + 1, 0, none⟩) 1 1, .slice none 0 0] 25)).alloc (.cells #[.string ⟨#[65]⟩, .slice none 0 0, .slice none 0 0] 42)).alloc (.cells #[.string ⟨#[65]⟩] 9)).alloc (.cells #[.string ⟨#[120]⟩, .slice none 0 0, .slice (some ⟨w1.heap.size + 1 + 1, 0, none⟩) 1 1] 44)) (w1.heap.size + 1) := by
    have h1 := alloc_heap (w1.alloc (.cells #[.slice (some ⟨w1.heap.size + 1, 0, none⟩) 1 1, .slice none 0 0] 25)) (.cells #[.string ⟨#[65]⟩, .slice none 0 0, .slice none 0 0] 42)
    have h3 := kept_of_below (blw2 _ (.cells #[.string ⟨#[65]⟩] 9) (.cells #[.string ⟨#[120]⟩, .slice none 0 0, .slice (some ⟨w1.heap.size + 1 + 1, 0, none⟩) 1 1] 44)) h1
    simpa [KBlk] using h3
  have HR2 : ABlk ((((w1.alloc (.cells #[.slice (some ⟨w1.heap.size + 1, 0, none⟩) 1 1, .slice none 0 0] 25)).alloc (.cells #[.string ⟨#[65]⟩, .slice none 0 0, .slice none 0 0] 42)).alloc (.cells #[.string ⟨#[65]⟩] 9)).alloc (.cells #[.string ⟨#[120]⟩, .slice none 0 0, .slice (some ⟨w1.heap.size + 1 + 1, 0, none⟩) 1 1] 44)) (w1.heap.size + 1 + 1) := by
    have h1 := alloc_heap ((w1.alloc (.cells #[.slice (some ⟨w1.heap.size + 1, 0, none⟩) 1 1, .slice none 0 0] 25)).alloc (.cells #[.string ⟨#[65]⟩, .slice none 0 0, .slice none 0 0] 42)) (.cells #[.string ⟨#[65]⟩] 9)
    have h3 := kept_of_below (blw1 _ (.cells #[.string ⟨#[120]⟩, .slice none 0 0, .slice (some ⟨w1.heap.size + 1 + 1, 0, none⟩) 1 1] 44)) h1
    simpa [ABlk] using h3
  have HA2 : ((((w1.alloc (.cells #[.slice (some ⟨w1.heap.size + 1, 0, none⟩) 1 1, .slice none 0 0] 25)).alloc (.cells #[.string ⟨#[65]⟩, .slice none 0 0, .slice none 0 0] 42)).alloc (.cells #[.string ⟨#[65]⟩] 9)).alloc (.cells #[.string ⟨#[120]⟩, .slice none 0 0, .slice (some ⟨w1.heap.size + 1 + 1, 0, none⟩) 1 1] 44)).heap[w1.heap.size + 1 + 1 + 1]? = some (.cells #[.string ⟨#[120]⟩, .slice none 0 0, .slice (some ⟨w1.heap.size + 1 + 1, 0, none⟩) 1 1] 44 (0, 0)) := by
    have h1 := alloc_heap (((w1.alloc (.cells #[.slice (some ⟨w1.heap.size + 1, 0, none⟩) 1 1, .slice none 0 0] 25)).alloc (.cells #[.string ⟨#[65]⟩, .slice none 0 0, .slice none 0 0] 42)).alloc (.cells #[.string ⟨#[65]⟩] 9)) (.cells #[.string ⟨#[120]⟩, .slice none 0 0, .slice (some ⟨w1.heap.size + 1 + 1, 0, none⟩) 1 1] 44)
    simpa using h1
  have z1 := b1.size
  have zl : w1.heap.size + 4 = ((((w1.alloc (.cells #[.slice (some ⟨w1.heap.size + 1, 0, none⟩) 1 1, .slice none 0 0] 25)).alloc (.cells #[.string ⟨#[65]⟩, .slice none 0 0, .slice none 0 0] 42)).alloc (.cells #[.string ⟨#[65]⟩] 9)).alloc (.cells #[.string ⟨#[120]⟩, .slice none 0 0, .slice (some ⟨w1.heap.size + 1 + 1, 0, none⟩) 1 1] 44)).heap.size := by simp
  clear bl0
  generalize (((w1.alloc _).alloc _).alloc _).alloc _ = w2 at *
  go_loopw [11] (fun kv wr => ∃ (k : Nat) (lv : Value), k ≤ 5 + m ∧ kv = .int .i64 k ∧ Below w.heap.size w wr ∧ w2.heap.size ≤ wr.heap.size ∧ wr.heap[w1.heap.size + 1 + 1 + 1]? = some (.cells #[.string ⟨#[120]⟩, lv, .slice (some ⟨w1.heap.size + 1 + 1, 0, none⟩) 1 1] 44 (0, 0)) ∧ wr.ownsRow w2.heap.size 9 1 lv k ((pLs k).map strC).flatten ∧ wr.heap[w1.heap.size]? = some (.cells #[.slice (some ⟨w1.heap.size + 1, 0, none⟩) 1 1, .slice none 0 0] 25 (0, 0)) ∧ KBlk wr (w1.heap.size + 1) ∧ ABlk wr (w1.heap.size + 1 + 1)) (fun kv _ => 5 + m - (intOf kv).toNat)
  case atStart => exact ⟨0, _, by omega, by go_num, b2, Nat.le_refl _, HA2, World.ownsRow_nil _ _ _ _, H2, HK2, HR2⟩
  case round =>
    clear H2 HK2 HR2 HA2
    obtain ⟨k, lv, hk, rfl, hbw, hsz, hB, hown, hS, hKB, hRB⟩ := hrel
    by_cases hlt : k < 5 + m
    · have i1 : (k : Int) < 5 + (m : Int) := by omega
      have Hs := hide (show ((pLs (k + 1)).map strC).flatten = ((pLs k).map strC).flatten ++ [.string ⟨#[65]⟩] by rw [pLs_succ]; simp [strC])
      have c0 : wr.cell? ⟨w1.heap.size + 1 + 1 + 1, 1, none⟩ = some lv := by rw [Lib.cell_of_heap hB]; rfl
      have bl : Below wr.heap.size wr (wr.alloc (.cells #[.string ⟨#[65]⟩] 9)) := blw1 wr (.cells #[.string ⟨#[65]⟩] 9)
      have b4 := hbw.trans (bl.mono hbw.size)
      have hown4 := own_belowS hown bl
      have hB4 := kept_of_below bl hB
      have z4 : (wr.alloc (.cells #[.string ⟨#[65]⟩] 9)).heap.size = wr.heap.size + 1 := by simp
      have hNw := alloc_heap wr (.cells #[.string ⟨#[65]⟩] 9)
      have hnb := hown4.lt
      have HNw := hide hNw
      have Hown4 := hide hown4
      have HB4 := hide hB4
      have HO4 := hide (And.intro (kept_of_below bl hS) (And.intro (kept_of_below bl hKB) (kept_of_below bl hRB)))
      clear hNw hown hB hown4 hB4 hS hKB hRB
      go_wp2_with (at_builtin; refine wpList_append_own _ rfl _ _ 39 rfl w2.heap.size 9 i0 _ 1 16 Try.underlying39 hi hz0 hz1 hz2 rfl (by decide) _ _ _ rfl (unhide Hown4) ⟨wr.heap.size, 0, none⟩ 1 1 [.string ⟨#[65]⟩] rfl rfl ?c1 ?c2 ?c3 ?c4 ?c5 ?_)
      case c1 =>
        intro j u hj
        rw [Addr.add_lit, Nat.zero_add, Lib.cell_of_heap (unhide HNw)]
        simpa using hj
      case c2 => intro u hu; simp at hu; subst hu; rfl
      case c3 => unfold maxLen; omega
      case c4 => omega
      case c5 => have := hbw.size; simp; omega
      intro v6 w6 hown6 hgrow _
      obtain ⟨ao6, n6, c6, rfl⟩ : ∃ a n c, v6 = .slice a n c := by
        rcases hown6.2 with ⟨h, _⟩ | ⟨g, cap, cur, h, _⟩
        · exact ⟨_, _, _, h⟩
        · exact ⟨_, _, _, h⟩
      have b6 : Below w.heap.size w w6 := b4.grown hgrow b4.size (fun j hj => by have := (hnb j hj).1; omega)
      have old6 : ∀ q o, q < w2.heap.size → (wr.alloc (.cells #[.string ⟨#[65]⟩] 9)).heap[q]? = some o → w6.heap[q]? = some o := fun q o hq ho => by
        rw [hgrow.block q (by omega) (fun h => by have := (hnb _ h.symm).1; omega)]
        exact ho
      have hB6 := old6 _ _ (by omega) (unhide HB4)
      have set6 : ∀ q o, q < w1.heap.size + 3 → (wr.alloc (.cells #[.string ⟨#[65]⟩] 9)).heap[q]? = some o → (w6.setCell ⟨w1.heap.size + 1 + 1 + 1, 1, none⟩ (.slice ao6 n6 c6)).heap[q]? = some o := fun q o hq ho => by
        rw [Below.heap_setCell w6 ⟨w1.heap.size + 1 + 1 + 1, 1, none⟩ (.slice ao6 n6 c6) q (by show q ≠ w1.heap.size + 1 + 1 + 1; omega)]
        exact old6 q o (by omega) ho
      have x6 : w6.cell? ⟨w1.heap.size + 1 + 1 + 1, 1, none⟩ = some lv := by rw [Lib.cell_of_heap hB6]; rfl
      have f6 : w6.frozen? ⟨w1.heap.size + 1 + 1 + 1, 1, none⟩ = false := Lib.frozen_of_heap hB6 1
      have b7 := b6.setCell (p := ⟨w1.heap.size + 1 + 1 + 1, 1, none⟩) (by show w.heap.size ≤ w1.heap.size + 1 + 1 + 1; omega) (.slice ao6 n6 c6)
      have hB7 := heap_setCell_same w6 (w1.heap.size + 1 + 1 + 1) 1 _ _ (.slice ao6 n6 c6) hB6
      have hown7 : (w6.setCell ⟨w1.heap.size + 1 + 1 + 1, 1, none⟩ (.slice ao6 n6 c6)).ownsRow w2.heap.size 9 1 (.slice ao6 n6 c6) (k + 1) (((pLs k).map strC).flatten ++ [.string ⟨#[65]⟩]) := by
        refine ⟨hown6.1, hown6.2.imp id fun ⟨g, cap, cur, h1, h2, h3, h4⟩ => ⟨g, cap, cur, h1, h2, ?_, h4⟩⟩
        rw [Below.heap_setCell w6 ⟨w1.heap.size + 1 + 1 + 1, 1, none⟩ (.slice ao6 n6 c6) g (by show g ≠ w1.heap.size + 1 + 1 + 1; omega)]
        exact h3
      have z7 : w2.heap.size ≤ (w6.setCell ⟨w1.heap.size + 1 + 1 + 1, 1, none⟩ (.slice ao6 n6 c6)).heap.size := by
        have := hgrow.size
        simp
        omega
      have Hown7 := hide hown7
      have HB7 := hide hB7
      have HO7 := hide (And.intro (set6 _ _ (by omega) (unhide HO4).1) (And.intro (set6 _ _ (by omega) (unhide HO4).2.1) (set6 _ _ (by omega) (unhide HO4).2.2)))
      clear hown6 hgrow hB6 hown7 hB7 Hown4 HB4 HO4 hnb old6 set6
      go_wp2
      go_roundw
      case rel =>
        refine ⟨k + 1, .slice ao6 n6 c6, by omega, by go_num, b7, z7, unhide HB7, ?_, unhide HO7⟩
        rw [unhide Hs]
        exact unhide Hown7
      case measure =>
        simp only [intOf]
        omega
    · obtain rfl : k = 5 + m := by omega
      have i1 : ¬ ((5 + m : Nat) : Int) < 5 + (m : Int) := by omega
      have hsl : ∃ a n c, lv = .slice a n c := by
        rcases hown.2 with ⟨h, _⟩ | ⟨g, cap, cur, h, _⟩
        · exact ⟨_, _, _, h⟩
        · exact ⟨_, _, _, h⟩
      obtain ⟨a7, n7, c7, rfl⟩ := hsl
      have a0 : wr.cell? ⟨w1.heap.size + 1 + 1 + 1, 0, none⟩ = some (.string ⟨#[120]⟩) := by rw [Lib.cell_of_heap hB]; rfl
      have a1 : wr.cell? ⟨w1.heap.size + 1 + 1 + 1, 1, none⟩ = some (.slice a7 n7 c7) := by rw [Lib.cell_of_heap hB]; rfl
      have a2 : wr.cell? ⟨w1.heap.size + 1 + 1 + 1, 2, none⟩ = some (.slice (some ⟨w1.heap.size + 1 + 1, 0, none⟩) 1 1) := by rw [Lib.cell_of_heap hB]; rfl
      have s1' : wr.cell? ⟨w1.heap.size, 1, none⟩ = some (.slice none 0 0) := by rw [Lib.cell_of_heap hS]; rfl
      have bl : Below wr.heap.size wr (wr.alloc (.cells #[.string ⟨#[120]⟩, .slice a7 n7 c7, .slice (some ⟨w1.heap.size + 1 + 1, 0, none⟩) 1 1] 44)) := blw1 wr (.cells #[.string ⟨#[120]⟩, .slice a7 n7 c7, .slice (some ⟨w1.heap.size + 1 + 1, 0, none⟩) 1 1] 44)
      have hS8 := kept_of_below bl hS
      have f8 : (wr.alloc (.cells #[.string ⟨#[120]⟩, .slice a7 n7 c7, .slice (some ⟨w1.heap.size + 1 + 1, 0, none⟩) 1 1] 44)).frozen? ⟨w1.heap.size, 1, none⟩ = false := Lib.frozen_of_heap hS8 1
      have s8 : (wr.alloc (.cells #[.string ⟨#[120]⟩, .slice a7 n7 c7, .slice (some ⟨w1.heap.size + 1 + 1, 0, none⟩) 1 1] 44)).cell? ⟨w1.heap.size, 1, none⟩ = some (.slice none 0 0) := by rw [Lib.cell_of_heap hS8]; rfl
      have hS9 := heap_setCell_same (wr.alloc (.cells #[.string ⟨#[120]⟩, .slice a7 n7 c7, .slice (some ⟨w1.heap.size + 1 + 1, 0, none⟩) 1 1] 44)) w1.heap.size 1 _ _ (.slice (some ⟨wr.heap.size, 0, none⟩) 1 1) hS8
      have oth9 : ∀ q o, q ≠ w1.heap.size → (wr.alloc (.cells #[.string ⟨#[120]⟩, .slice a7 n7 c7, .slice (some ⟨w1.heap.size + 1 + 1, 0, none⟩) 1 1] 44)).heap[q]? = some o → ((wr.alloc (.cells #[.string ⟨#[120]⟩, .slice a7 n7 c7, .slice (some ⟨w1.heap.size + 1 + 1, 0, none⟩) 1 1] 44)).setCell ⟨w1.heap.size, 1, none⟩ (.slice (some ⟨wr.heap.size, 0, none⟩) 1 1)).heap[q]? = some o := fun q o hq ho => by
        rw [Below.heap_setCell _ ⟨w1.heap.size, 1, none⟩ _ q hq]
        exact ho
      have b9 := (hbw.trans (bl.mono hbw.size)).setCell (p := ⟨w1.heap.size, 1, none⟩) z1 (.slice (some ⟨wr.heap.size, 0, none⟩) 1 1)
      have hA9 := oth9 _ _ (by omega) (alloc_heap wr (.cells #[.string ⟨#[120]⟩, .slice a7 n7 c7, .slice (some ⟨w1.heap.size + 1 + 1, 0, none⟩) 1 1] 44))
      have hK9 := oth9 _ _ (by omega) (kept_of_below bl hKB)
      have hR9 := oth9 _ _ (by omega) (kept_of_below bl hRB)
      have hown9 : ((wr.alloc (.cells #[.string ⟨#[120]⟩, .slice a7 n7 c7, .slice (some ⟨w1.heap.size + 1 + 1, 0, none⟩) 1 1] 44)).setCell ⟨w1.heap.size, 1, none⟩ (.slice (some ⟨wr.heap.size, 0, none⟩) 1 1)).ownsRow w2.heap.size 9 1 (.slice a7 n7 c7) ((pLs (5 + m)).map strC).length ((pLs (5 + m)).map strC).flatten := by
        rw [List.length_map, pLs_len]
        have h := own_belowS hown bl
        refine ⟨h.1, h.2.imp id fun ⟨g, cap, cur, h1, h2, h3, h4⟩ => ⟨g, cap, cur, h1, h2, ?_, h4⟩⟩
        exact oth9 g _ (by omega) h3
      have c0 : ((wr.alloc (.cells #[.string ⟨#[120]⟩, .slice a7 n7 c7, .slice (some ⟨w1.heap.size + 1 + 1, 0, none⟩) 1 1] 44)).setCell ⟨w1.heap.size, 1, none⟩ (.slice (some ⟨wr.heap.size, 0, none⟩) 1 1)).cell? ⟨w1.heap.size, 0, none⟩ = some (.slice (some ⟨w1.heap.size + 1, 0, none⟩) 1 1) := by rw [Lib.cell_of_heap hS9]; rfl
      have c1 : ((wr.alloc (.cells #[.string ⟨#[120]⟩, .slice a7 n7 c7, .slice (some ⟨w1.heap.size + 1 + 1, 0, none⟩) 1 1] 44)).setCell ⟨w1.heap.size, 1, none⟩ (.slice (some ⟨wr.heap.size, 0, none⟩) 1 1)).cell? ⟨w1.heap.size, 1, none⟩ = some (.slice (some ⟨wr.heap.size, 0, none⟩) 1 1) := by rw [Lib.cell_of_heap hS9]; rfl
      obtain ⟨ao, cap, e7, hrow, hcap⟩ := rowG_ownS (len1 _) hown9
      rw [List.length_map, pLs_len] at e7
      injection e7 with e71 e72 e73
      subst e71 e72 e73
      have CK := scheck_any (s4 m) _ _ (small_s4 m hm3) (is_s4 hA9 hrow hR9 hK9)
      rw [s4_told m hm3] at CK
      clear hrow hcap hown hB hS hKB hRB hS8 hS9 oth9 hA9 hK9 hR9 hown9 bl
      by_cases h1 : 1 < m
      · have i2 : (1 : Int) < (m : Int) := by omega
        rw [if_pos h1] at CK
        clear h1
        generalize 5 + m = mm at *
        go_wp2_with fail
        refine CK.mono ?_
        rintro x w4 ⟨rfl, b4⟩
        go_wp2
        go_ret
        exact ⟨rfl, b9.trans (b4.mono b9.size)⟩
      · have i2 : ¬ (1 : Int) < (m : Int) := by omega
        rw [if_neg h1] at CK
        clear h1
        generalize 5 + m = mm at *
        go_wp2_with fail
        refine CK.mono ?_
        rintro x w4 ⟨rfl, b4⟩
        go_wp2
        go_ret
        exact ⟨rfl, b9.trans (b4.mono b9.size)⟩
end Go.Proofs.Ytbcddjaecdoliaa
