/-
  chancellaw10.SchemaBounds: the walk, case 1.
-/
import Derived.Test.YtbcddjaecdoliaaSb0
import Derived.Deep.Cut
namespace Go.Proofs.Ytbcddjaecdoliaa
open Go.RowKit Go.Sort
theorem small_s1 (m : Nat) (hm : m < 4) : SmallAll (s1 m) := small_of (by show 1 ≤ _; omega) (by show ((List.range (5 + m)).map _).length ≤ _; simp; omega) (fun k h => by
    rw [List.mem_singleton.1 h]
    exact smallK_bare _ (by decide)) (fun a h => by
    obtain ⟨j, _, rfl⟩ := List.mem_map.1 h
    exact ⟨by show 1 ≤ _; omega, by show 1 ≤ _; omega, by show 1 ≤ _; omega⟩)
/-- A block that holds the text A. -/
def ABlk (w : World) (p : Nat) : Prop := w.heap[p]? = some (.cells #[.string ⟨#[65]⟩] 9 (0, 0))
/-- An action by its letter, in memory. -/
def ActAt (w : World) (x : N3) (j : Nat) : Prop := x.nm = letQ j ∧ ∃ p q, x.ao = some ⟨p, 0, none⟩ ∧ x.al = 1 ∧ x.bo = some ⟨q, 0, none⟩ ∧ x.bl = 1 ∧ ABlk w p ∧ ABlk w q
theorem ActAt.up {w w' : World} {x : N3} {j : Nat} (h : ActAt w x j) (hu : ∀ p, ABlk w p → ABlk w' p) : ActAt w' x j := by
  obtain ⟨h0, p, q, h1, h2, h3, h4, h5, h6⟩ := h
  exact ⟨h0, p, q, h1, h2, h3, h4, hu p h5, hu q h6⟩
theorem own_ty {w : World} {B n k : Nat} {T : TypeId} {v : Value} {xs : List Value} {g : Nat} (h : w.ownsRow B T n v k xs) (hg : v.ownBlock = some g) : ∃ cur fz, w.heap[g]? = some (.cells cur T fz) := by
  rcases h.2 with ⟨hv, _⟩ | ⟨g', cap, cur, hv, _, h3, _⟩
  · rw [hv] at hg
    cases hg
  · rw [hv] at hg
    cases hg
    exact ⟨_, _, h3⟩
theorem rowS_A {w : World} {p : Nat} (h : ABlk w p) : RowS w (some ⟨p, 0, none⟩) [⟨#[65]⟩] := rowG_block _ h rfl (fun x hx => by rw [List.mem_singleton.1 hx]; rfl)
theorem ActAt.is {w : World} {x : N3} {j : Nat} (h : ActAt w x j) : IsA w x ⟨letQ j, [⟨#[65]⟩], [⟨#[65]⟩]⟩ := by
  obtain ⟨h0, p, q, h1, h2, h3, h4, h5, h6⟩ := h
  exact ⟨h0, h2, by rw [h1]; exact rowS_A h5, h4, by rw [h3]; exact rowS_A h6⟩
def KBlk (w : World) (K : Nat) : Prop := w.heap[K]? = some (.cells #[.string ⟨#[65]⟩, .slice none 0 0, .slice none 0 0] 42 (0, 0))
theorem isKs_A {w : World} {K : Nat} (h : KBlk w K) : IsKs w (some ⟨K, 0, none⟩) [kA] := ⟨⟨[⟨⟨#[65]⟩, none, 0, 0, none, 0, 0⟩], rfl, rowG_block _ h rfl (fun x hx => by rw [List.mem_singleton.1 hx]; rfl), fun j h h' => by
  obtain rfl : j = 0 := by simpa using h
  exact isK_bare _ _⟩⟩
theorem is_s1 {w : World} {ao : Option Addr} {cap m K : Nat} {xs : List N3} (hl : xs.length = 5 + m) (h : RowG w ao 3 (xs.map N3.cells)) (hx : ∀ j (hj : j < xs.length), ActAt w xs[j] j) (hK : KBlk w K) : IsS w (.agg #[.slice (some ⟨K, 0, none⟩) 1 1, .slice ao (5 + m) cap]) (s1 m) :=
  ⟨⟨_, 1, ao, cap, by simp [s1], isKs_A hK, ⟨⟨xs, by simp [s1, hl], h, fun j h1 h2 => by
    simp only [s1, List.getElem_map, List.getElem_range]
    exact (hx j h1).is⟩⟩⟩⟩
set_option maxHeartbeats 8000000 in
set_option maxRecDepth 1000000 in
theorem sbounds_1 (which n : Int) (m : Nat) (w : World) (h0 : which % 5 = 1) (hm : n % 4 = (m : Int)) (hm3 : m < 4) :
    Calls Try.prog 6 #[.int .i64 which, .int .i64 n] w fun e w' => e = .returned (.bool true) ∧ Below w.heap.size w w' := by
  obtain ⟨i0, hi, hz0, hz1, hz2⟩ := info_parts infoAction
  have K := known10_any w
  have W1 := fun w' => within10_any n 4 (by decide) (by decide) w'
  have W2 := fun w' => within10_any which 5 (by decide) (by decide) w'
  rw [hm] at W1
  rw [h0] at W2
  clear hm h0
  go_enter Try.func6, Try.ntmps6
  go_wp2_with fail
  refine K.mono ?_
  clear K
  rintro x w1 ⟨rfl, b1⟩
  go_wp2_with fail
  refine (W1 _).mono ?_
  clear W1
  rintro x w1 ⟨rfl, rfl⟩
  go_wp2_with fail
  refine (W2 _).mono ?_
  clear W2
  rintro x w1 ⟨rfl, rfl⟩
  go_wp2
  have b2 := (b1.alloc b1.size (.cells #[.slice (some ⟨w1.heap.size + 1, 0, none⟩) 1 1, .slice none 0 0] 25)).alloc (by have := b1.size; simp; omega) (.cells #[.string ⟨#[65]⟩, .slice none 0 0, .slice none 0 0] 42)
  have H2 : ((w1.alloc (.cells #[.slice (some ⟨w1.heap.size + 1, 0, none⟩) 1 1, .slice none 0 0] 25)).alloc (.cells #[.string ⟨#[65]⟩, .slice none 0 0, .slice none 0 0] 42)).heap[w1.heap.size]? = some (.cells #[.slice (some ⟨w1.heap.size + 1, 0, none⟩) 1 1, .slice none 0 0] 25 (0, 0)) := by
    rw [Below.heap_alloc _ _ _ (by simp)]
    exact alloc_heap _ _
  have HK2 : KBlk ((w1.alloc (.cells #[.slice (some ⟨w1.heap.size + 1, 0, none⟩) 1 1, .slice none 0 0] 25)).alloc (.cells #[.string ⟨#[65]⟩, .slice none 0 0, .slice none 0 0] 42)) (w1.heap.size + 1) := by
    have := alloc_heap (w1.alloc (.cells #[.slice (some ⟨w1.heap.size + 1, 0, none⟩) 1 1, .slice none 0 0] 25)) (.cells #[.string ⟨#[65]⟩, .slice none 0 0, .slice none 0 0] 42)
    simpa [KBlk] using this
  have z1 := b1.size
  have zl : w1.heap.size + 2 = ((w1.alloc (.cells #[.slice (some ⟨w1.heap.size + 1, 0, none⟩) 1 1, .slice none 0 0] 25)).alloc (.cells #[.string ⟨#[65]⟩, .slice none 0 0, .slice none 0 0] 42)).heap.size := by simp
  generalize (w1.alloc _).alloc _ = w2 at *
  go_loopw [7] (fun kv wr => ∃ (k : Nat) (lv : Value) (xs : List N3), k ≤ 5 + m ∧ kv = .int .i64 k ∧ Below w.heap.size w wr ∧ w2.heap.size ≤ wr.heap.size ∧ wr.heap[w1.heap.size]? = some (.cells #[.slice (some ⟨w1.heap.size + 1, 0, none⟩) 1 1, lv] 25 (0, 0)) ∧ wr.ownsRow w2.heap.size 44 3 lv k (xs.map N3.cells).flatten ∧ xs.length = k ∧ KBlk wr (w1.heap.size + 1) ∧ ∀ j (hj : j < xs.length), ActAt wr xs[j] j) (fun kv _ => 5 + m - (intOf kv).toNat)
  case atStart => exact ⟨0, _, [], by omega, by go_num, b2, Nat.le_refl _, H2, World.ownsRow_nil _ _ _ _, rfl, HK2, fun j hj => absurd hj (Nat.not_lt_zero _)⟩
  case round =>
    clear H2 HK2
    obtain ⟨k, lv, xs, hk, rfl, hbw, hsz, hB, hown, hxl, hKB, hxs⟩ := hrel
    by_cases hlt : k < 5 + m
    · have i1 : (k : Int) < 5 + (m : Int) := by omega
      have cv := conv_let k (by omega) wr
      have k97 : (97 : Int) + (k : Int) < 256 := by omega
      have HLs := hide (rfl : letQ k = letQ k)
      obtain ⟨s, hs⟩ : ∃ s, s = letQ k := ⟨_, rfl⟩
      rw [← hs] at cv
      have HLt := hide hs
      clear HLs hs
      have c0 : wr.cell? ⟨w1.heap.size, 1, none⟩ = some lv := by rw [Lib.cell_of_heap hB]; rfl
      have bl : Below wr.heap.size wr ((((wr.alloc (.cells #[.int .u8 (97 + (k : Int))] 5)).alloc (.cells #[.string ⟨#[65]⟩] 9)).alloc (.cells #[.string ⟨#[65]⟩] 9)).alloc (.cells #[.string s, .slice (some ⟨wr.heap.size + 1, 0, none⟩) 1 1, .slice (some ⟨wr.heap.size + 1 + 1, 0, none⟩) 1 1] 44)) := (((blw1 wr (.cells #[.int .u8 (97 + (k : Int))] 5)).alloc (by simp) (.cells #[.string ⟨#[65]⟩] 9)).alloc (by simp; omega) (.cells #[.string ⟨#[65]⟩] 9)).alloc (by simp; omega) (.cells #[.string s, .slice (some ⟨wr.heap.size + 1, 0, none⟩) 1 1, .slice (some ⟨wr.heap.size + 1 + 1, 0, none⟩) 1 1] 44)
      have b4 := hbw.trans (bl.mono hbw.size)
      have hown4 := own_belowS hown bl
      have hB4 := kept_of_below bl hB
      have hKB4 : KBlk ((((wr.alloc (.cells #[.int .u8 (97 + (k : Int))] 5)).alloc (.cells #[.string ⟨#[65]⟩] 9)).alloc (.cells #[.string ⟨#[65]⟩] 9)).alloc (.cells #[.string s, .slice (some ⟨wr.heap.size + 1, 0, none⟩) 1 1, .slice (some ⟨wr.heap.size + 1 + 1, 0, none⟩) 1 1] 44)) (w1.heap.size + 1) := kept_of_below bl hKB
      have hA1 : ABlk ((((wr.alloc (.cells #[.int .u8 (97 + (k : Int))] 5)).alloc (.cells #[.string ⟨#[65]⟩] 9)).alloc (.cells #[.string ⟨#[65]⟩] 9)).alloc (.cells #[.string s, .slice (some ⟨wr.heap.size + 1, 0, none⟩) 1 1, .slice (some ⟨wr.heap.size + 1 + 1, 0, none⟩) 1 1] 44)) (wr.heap.size + 1) := by
        have h1 := alloc_heap (wr.alloc (.cells #[.int .u8 (97 + (k : Int))] 5)) (.cells #[.string ⟨#[65]⟩] 9)
        have h2 := kept_of_below (blw2 _ (.cells #[.string ⟨#[65]⟩] 9) (.cells #[.string s, .slice (some ⟨wr.heap.size + 1, 0, none⟩) 1 1, .slice (some ⟨wr.heap.size + 1 + 1, 0, none⟩) 1 1] 44)) h1
        simpa [ABlk] using h2
      have hA2 : ABlk ((((wr.alloc (.cells #[.int .u8 (97 + (k : Int))] 5)).alloc (.cells #[.string ⟨#[65]⟩] 9)).alloc (.cells #[.string ⟨#[65]⟩] 9)).alloc (.cells #[.string s, .slice (some ⟨wr.heap.size + 1, 0, none⟩) 1 1, .slice (some ⟨wr.heap.size + 1 + 1, 0, none⟩) 1 1] 44)) (wr.heap.size + 1 + 1) := by
        have h1 := alloc_heap ((wr.alloc (.cells #[.int .u8 (97 + (k : Int))] 5)).alloc (.cells #[.string ⟨#[65]⟩] 9)) (.cells #[.string ⟨#[65]⟩] 9)
        have h2 := kept_of_below (blw1 _ (.cells #[.string s, .slice (some ⟨wr.heap.size + 1, 0, none⟩) 1 1, .slice (some ⟨wr.heap.size + 1 + 1, 0, none⟩) 1 1] 44)) h1
        simpa [ABlk] using h2
      have hxs4 : ∀ j (hj : j < xs.length), ActAt ((((wr.alloc (.cells #[.int .u8 (97 + (k : Int))] 5)).alloc (.cells #[.string ⟨#[65]⟩] 9)).alloc (.cells #[.string ⟨#[65]⟩] 9)).alloc (.cells #[.string s, .slice (some ⟨wr.heap.size + 1, 0, none⟩) 1 1, .slice (some ⟨wr.heap.size + 1 + 1, 0, none⟩) 1 1] 44)) xs[j] j := fun j hj => (hxs j hj).up fun p hp => kept_of_below bl hp
      have z4 : ((((wr.alloc (.cells #[.int .u8 (97 + (k : Int))] 5)).alloc (.cells #[.string ⟨#[65]⟩] 9)).alloc (.cells #[.string ⟨#[65]⟩] 9)).alloc (.cells #[.string s, .slice (some ⟨wr.heap.size + 1, 0, none⟩) 1 1, .slice (some ⟨wr.heap.size + 1 + 1, 0, none⟩) 1 1] 44)).heap.size = wr.heap.size + 4 := by simp
      have hnb := hown4.lt
      have hNw : ((((wr.alloc (.cells #[.int .u8 (97 + (k : Int))] 5)).alloc (.cells #[.string ⟨#[65]⟩] 9)).alloc (.cells #[.string ⟨#[65]⟩] 9)).alloc (.cells #[.string s, .slice (some ⟨wr.heap.size + 1, 0, none⟩) 1 1, .slice (some ⟨wr.heap.size + 1 + 1, 0, none⟩) 1 1] 44)).heap[wr.heap.size + 1 + 1 + 1]? = some (.cells #[.string s, .slice (some ⟨wr.heap.size + 1, 0, none⟩) 1 1, .slice (some ⟨wr.heap.size + 1 + 1, 0, none⟩) 1 1] 44 (0, 0)) := by
        have h1 := alloc_heap (((wr.alloc (.cells #[.int .u8 (97 + (k : Int))] 5)).alloc (.cells #[.string ⟨#[65]⟩] 9)).alloc (.cells #[.string ⟨#[65]⟩] 9)) (.cells #[.string s, .slice (some ⟨wr.heap.size + 1, 0, none⟩) 1 1, .slice (some ⟨wr.heap.size + 1 + 1, 0, none⟩) 1 1] 44)
        simpa using h1
      have HNw := hide hNw
      have Hty := hide (fun g => own_ty hown4 (g := g))
      have Hown4 := hide hown4
      have HB4 := hide hB4
      have HR4 := hide (And.intro hKB4 (And.intro hA1 (And.intro hA2 hxs4)))
      have Hxl := hide hxl
      clear hNw hown hB hown4 hB4 hKB4 hA1 hA2 hxs4 hxs hKB hxl
      go_wp2_with (at_builtin; refine wpList_append_own _ rfl _ _ 23 rfl w2.heap.size 44 i0 _ 3 64 Try.underlying23 hi hz0 hz1 hz2 rfl (by decide) _ _ _ rfl (unhide Hown4) ⟨wr.heap.size + 1 + 1 + 1, 0, none⟩ 1 1 [.string s, .slice (some ⟨wr.heap.size + 1, 0, none⟩) 1 1, .slice (some ⟨wr.heap.size + 1 + 1, 0, none⟩) 1 1] rfl rfl ?c1 ?c2 ?c3 ?c4 ?c5 ?_)
      case c1 =>
        intro j u hj
        rw [Addr.add_lit, Nat.zero_add, Lib.cell_of_heap (unhide HNw)]
        simpa using hj
      case c2 => intro u hu; simp at hu; rcases hu with rfl | rfl | rfl <;> rfl
      case c3 => unfold maxLen; omega
      case c4 => omega
      case c5 => have := hbw.size; simp; omega
      intro v6 w6 hown6 hgrow _
      obtain ⟨ao6, n6, c6, rfl⟩ : ∃ a n c, v6 = .slice a n c := by
        rcases hown6.2 with ⟨h, _⟩ | ⟨g, cap, cur, h, _⟩
        · exact ⟨_, _, _, h⟩
        · exact ⟨_, _, _, h⟩
      have b6 : Below w.heap.size w w6 := b4.grown hgrow b4.size (fun j hj => by have := (hnb j hj).1; omega)
      have hB6 : w6.heap[w1.heap.size]? = some (.cells #[.slice (some ⟨w1.heap.size + 1, 0, none⟩) 1 1, lv] 25 (0, 0)) := by
        rw [hgrow.block w1.heap.size (by omega) (fun h => by have := (hnb _ h.symm).1; omega)]
        exact unhide HB4
      have hK6 : KBlk (w6.setCell ⟨w1.heap.size, 1, none⟩ (.slice ao6 n6 c6)) (w1.heap.size + 1) := by
        unfold KBlk
        rw [Below.heap_setCell w6 ⟨w1.heap.size, 1, none⟩ (.slice ao6 n6 c6) _ (by show w1.heap.size + 1 ≠ w1.heap.size; omega), hgrow.block (w1.heap.size + 1) (by omega) (fun h => by have := (hnb _ h.symm).1; omega)]
        exact (unhide HR4).1
      have up6 : ∀ p, ABlk ((((wr.alloc (.cells #[.int .u8 (97 + (k : Int))] 5)).alloc (.cells #[.string ⟨#[65]⟩] 9)).alloc (.cells #[.string ⟨#[65]⟩] 9)).alloc (.cells #[.string s, .slice (some ⟨wr.heap.size + 1, 0, none⟩) 1 1, .slice (some ⟨wr.heap.size + 1 + 1, 0, none⟩) 1 1] 44)) p → ABlk (w6.setCell ⟨w1.heap.size, 1, none⟩ (.slice ao6 n6 c6)) p := fun p hp => by
        have hp4 := (Array.getElem?_eq_some_iff.1 hp).1
        have hpS : p ≠ w1.heap.size := fun e => by
          have h1 := unhide HB4
          rw [← e] at h1
          have h2 := hp.symm.trans h1
          cases h2
        have hpg : ∀ g, lv.ownBlock = some g → g ≠ p := fun g hg e => by
          obtain ⟨cur, fz, h1⟩ := unhide Hty g hg
          rw [e] at h1
          have h2 := hp.symm.trans h1
          cases h2
        unfold ABlk
        rw [Below.heap_setCell w6 ⟨w1.heap.size, 1, none⟩ (.slice ao6 n6 c6) p hpS, hgrow.block p hp4 (fun h => hpg p h.symm rfl)]
        exact hp
      have x6 : w6.cell? ⟨w1.heap.size, 1, none⟩ = some lv := by rw [Lib.cell_of_heap hB6]; rfl
      have f6 : w6.frozen? ⟨w1.heap.size, 1, none⟩ = false := Lib.frozen_of_heap hB6 1
      have b7 := b6.setCell (p := ⟨w1.heap.size, 1, none⟩) z1 (.slice ao6 n6 c6)
      have hB7 := heap_setCell_same w6 w1.heap.size 1 _ _ (.slice ao6 n6 c6) hB6
      have hown7 : (w6.setCell ⟨w1.heap.size, 1, none⟩ (.slice ao6 n6 c6)).ownsRow w2.heap.size 44 3 (.slice ao6 n6 c6) (k + 1) ((xs.map N3.cells).flatten ++ [.string s, .slice (some ⟨wr.heap.size + 1, 0, none⟩) 1 1, .slice (some ⟨wr.heap.size + 1 + 1, 0, none⟩) 1 1]) := by
        refine ⟨hown6.1, hown6.2.imp id fun ⟨g, cap, cur, h1, h2, h3, h4⟩ => ⟨g, cap, cur, h1, h2, ?_, h4⟩⟩
        rw [Below.heap_setCell w6 ⟨w1.heap.size, 1, none⟩ (.slice ao6 n6 c6) g (by show g ≠ w1.heap.size; omega)]
        exact h3
      have z7 : w2.heap.size ≤ (w6.setCell ⟨w1.heap.size, 1, none⟩ (.slice ao6 n6 c6)).heap.size := by
        have := hgrow.size
        simp
        omega
      have Hown7 := hide hown7
      have HB7 := hide hB7
      have HX7 : Hid (∀ j (hj : j < (xs ++ [(⟨s, some ⟨wr.heap.size + 1, 0, none⟩, 1, 1, some ⟨wr.heap.size + 1 + 1, 0, none⟩, 1, 1⟩ : N3)]).length), ActAt (w6.setCell ⟨w1.heap.size, 1, none⟩ (.slice ao6 n6 c6)) (xs ++ [(⟨s, some ⟨wr.heap.size + 1, 0, none⟩, 1, 1, some ⟨wr.heap.size + 1 + 1, 0, none⟩, 1, 1⟩ : N3)])[j] j) := hide (fun j hj => by
        by_cases hjl : j < xs.length
        · rw [List.getElem_append_left hjl]
          exact ((unhide HR4).2.2.2 j hjl).up up6
        · have hjk : j = xs.length := by
            have : j < xs.length + 1 := by simpa using hj
            omega
          subst hjk
          rw [List.getElem_append_right (Nat.le_refl _)]
          simp only [Nat.sub_self, List.getElem_cons_zero]
          exact ⟨by rw [unhide HLt, unhide Hxl], _, _, rfl, rfl, rfl, rfl, up6 _ (unhide HR4).2.1, up6 _ (unhide HR4).2.2.1⟩)
      have HK7 := hide hK6
      clear hown6 hgrow hB6 hown7 hB7 Hown4 HB4 HR4 Hty up6 hK6 hnb
      go_wp2
      go_roundw
      case rel =>
        refine ⟨k + 1, .slice ao6 n6 c6, _, by omega, by go_num, b7, z7, unhide HB7, ?_, ?_, unhide HK7, unhide HX7⟩
        · have h7 := unhide Hown7
          simpa [N3.cells] using h7
        · simp [unhide Hxl]
      case measure =>
        simp only [intOf]
        omega
    · obtain rfl : k = 5 + m := by omega
      have i1 : ¬ ((5 + m : Nat) : Int) < 5 + (m : Int) := by omega
      have hown' : wr.ownsRow w2.heap.size 44 3 lv (xs.map N3.cells).length (xs.map N3.cells).flatten := by rw [List.length_map, hxl]; exact hown
      obtain ⟨ao, cap, rfl, hrow, hcap⟩ := rowG_ownS (len3 _) hown'
      rw [List.length_map, hxl] at hB hcap
      have c0 : wr.cell? ⟨w1.heap.size, 0, none⟩ = some (.slice (some ⟨w1.heap.size + 1, 0, none⟩) 1 1) := by rw [Lib.cell_of_heap hB]; rfl
      have c1 : wr.cell? ⟨w1.heap.size, 1, none⟩ = some (.slice ao (5 + m) cap) := by rw [Lib.cell_of_heap hB]; rfl
      have CK := scheck_any (s1 m) _ wr (small_s1 m hm3) (is_s1 (cap := cap) hxl hrow hxs hKB)
      rw [s1_told m hm3] at CK
      clear hrow hcap hown hown' hB hxs hxl hKB
      by_cases h1 : 1 < m
      · have i2 : (1 : Int) < (m : Int) := by omega
        rw [if_pos h1] at CK
        clear h1
        generalize 5 + m = mm at *
        go_wp2_with fail
        refine CK.mono ?_
        rintro x w4 ⟨rfl, b4⟩
        go_wp2
        go_ret
        exact ⟨rfl, hbw.trans (b4.mono hbw.size)⟩
      · have i2 : ¬ (1 : Int) < (m : Int) := by omega
        rw [if_neg h1] at CK
        clear h1
        generalize 5 + m = mm at *
        go_wp2_with fail
        refine CK.mono ?_
        rintro x w4 ⟨rfl, b4⟩
        go_wp2
        go_ret
        exact ⟨rfl, hbw.trans (b4.mono hbw.size)⟩
end Go.Proofs.Ytbcddjaecdoliaa
