/-
  chancellaw7.PackBounds: members and data.
-/
import Derived.Test.YtkeljejddfpnmaaDoorKBndD
namespace Go.Proofs.YtkeljejddfpnmaaDoor
open Go.RowKit Go.Sort

theorem IRow.same {w : World} {g n : Nat} {p : Addr} {u : Value} (h : IRow w (some ⟨g, 0, none⟩) n) (hg : g ≠ p.block) : IRow (w.setCell p u) (some ⟨g, 0, none⟩) n := by
  intro j hj
  obtain ⟨g', o, x, e, hl, hc⟩ := h j hj
  cases e
  exact ⟨g, 0, x, rfl, by simp only [World.setCell, Array.size_modify]; exact hl, (World.cell?_of_block (w := w) (Below.heap_setCell _ _ _ _ hg)).trans hc⟩
theorem BRow.same {w : World} {g : Nat} {l : List UInt8} {p : Addr} {u : Value} (h : BRow w (some ⟨g, 0, none⟩) l) (hg : g ≠ p.block) : BRow (w.setCell p u) (some ⟨g, 0, none⟩) l := by
  rcases h with h | ⟨g', o, e, hl, hc⟩
  · exact .inl h
  · cases e
    exact .inr ⟨g, 0, rfl, by simp only [World.setCell, Array.size_modify]; exact hl, fun j hj => (World.cell?_of_block (w := w) (Below.heap_setCell _ _ _ _ hg)).trans (hc j hj)⟩

set_option maxHeartbeats 8000000 in
set_option maxRecDepth 1000000 in
theorem bounds_2 (which n : Int) (w : World) (hT : Half w) (hq : which % 7 = 2) :
    Calls Tryd.prog 5 #[.int .i64 which, .int .i64 n] w fun e w' => e = .returned (.bool true) ∧ Below w.heap.size w w' := by
  have h0 := Int.emod_nonneg n (show (4 : Int) ≠ 0 by decide)
  have h1 := Int.emod_lt_of_pos n (show (0 : Int) < 4 by decide)
  obtain ⟨j, hj⟩ : ∃ j : Nat, n % 4 = (j : Int) := ⟨(n % 4).toNat, by omega⟩
  have hj3 : j ≤ 3 := by omega
  have K0 := known7_any w hT
  have W4 := fun w' => within7_any n 4 (by decide) (by decide) w'
  have W7 := fun w' => within7_any which 7 (by decide) (by decide) w'
  rw [hj] at W4
  rw [hq] at W7
  clear h0 h1 hj hq
  obtain ⟨N, hN⟩ : ∃ N : Nat, N = 6 + j := ⟨_, rfl⟩
  have hNw : IntKind.i64.wrap (6 + (j : Int)) = (N : Int) := by rw [IntKind.wrap_i64]; omega
  have MK := fun W => make_run 43 3 (.int .i64 0) 8 Tryd.underlying43 infoIz rfl N (N : Int) rfl (by omega) (by decide) W
  have CE := fun x w' h' => msg_err (msg0 none none none (some ⟨x, 0, none⟩) none 0 0 N 0) [] [] w' h' (by simp)
  have hE : ∀ x, errM (msg0 none none none (some ⟨x, 0, none⟩) none 0 0 N 0) [] = if 7 < N then (4 : Int) else 0 := fun x => by
    rw [errM0, hasLong_nil]
    by_cases h : 7 < N
    · rw [if_pos (.inr h), if_pos h]
    · rw [if_neg (by omega), if_neg (by simp), if_neg h]
  have hEE : EndsAs j (if 7 < N then (4 : Int) else 0) 4 := by
    unfold EndsAs
    rcases Nat.lt_or_ge 1 j with h | h
    · right
      exact ⟨h, if_pos (by omega)⟩
    · left
      exact ⟨h, if_neg (by omega)⟩
  simp only [hE] at CE
  clear hE
  have hE := hEE
  clear hEE
  generalize (if 7 < N then (4 : Int) else 0) = E at *
  unfold M14.val M14.cells msg0 at CE
  simp only [] at CE
  clear hN
  go_enter Tryd.func5, Tryd.ntmps5
  go_wp2_with fail
  refine K0.mono ?_
  rintro e w1 ⟨rfl, b1⟩
  go_wp2_with fail
  refine (W4 _).mono ?_
  rintro e w1' ⟨rfl, rfl⟩
  clear K0 W4
  have n2 := below2 w1' (.cells #[.int .i64 1, .int .i64 1, .int .i64 2, .string ⟨#[]⟩, .string ⟨#[]⟩] 23) (.cells #[.int .i64 0, .int .i64 0, .int .i64 1, .int .i64 0, .int .i64 0, .int .i64 0, .int .i64 0, .int .i64 0, .bool false, .slice none 0 0, .slice none 0 0, .slice none 0 0, .slice none 0 0, .slice none 0 0] 45)
  have zc := kept_of_below (new1 _ (.cells #[.int .i64 0, .int .i64 0, .int .i64 1, .int .i64 0, .int .i64 0, .int .i64 0, .int .i64 0, .int .i64 0, .bool false, .slice none 0 0, .slice none 0 0, .slice none 0 0, .slice none 0 0, .slice none 0 0] 45)) (alloc_heap w1' (.cells #[.int .i64 1, .int .i64 1, .int .i64 2, .string ⟨#[]⟩, .string ⟨#[]⟩] 23))
  have zm := alloc_heap (w1'.alloc (.cells #[.int .i64 1, .int .i64 1, .int .i64 2, .string ⟨#[]⟩, .string ⟨#[]⟩] 23)) (.cells #[.int .i64 0, .int .i64 0, .int .i64 1, .int .i64 0, .int .i64 0, .int .i64 0, .int .i64 0, .int .i64 0, .bool false, .slice none 0 0, .slice none 0 0, .slice none 0 0, .slice none 0 0, .slice none 0 0] 45)
  rw [show (w1'.alloc (.cells #[.int .i64 1, .int .i64 1, .int .i64 2, .string ⟨#[]⟩, .string ⟨#[]⟩] 23)).heap.size = w1'.heap.size + 1 by simp] at zm
  go_upto_region 8 with fail
  generalize (w1'.alloc _).alloc _ = w2 at *
  have b2 := b1.trans (n2.mono b1.size)
  have lc : w1'.heap.size < w2.heap.size := (Array.getElem?_eq_some_iff.1 zc).1
  have lm : w1'.heap.size + 1 < w2.heap.size := (Array.getElem?_eq_some_iff.1 zm).1
  have hs1 := b1.size
  go_wp2_with fail
  refine (W7 _).mono ?_
  rintro e w2' ⟨rfl, rfl⟩
  clear W7 b1 n2
  have b3 := new1 w2' (.cells (List.replicate N (.int .i64 0)).toArray 3)
  have r3 := made_ints (n := N) (alloc_heap w2' (.cells (List.replicate N (.int .i64 0)).toArray 3))
  have zm3 := kept_of_below b3 zm
  specialize MK w2'
  clear zc
  generalize w2'.alloc (.cells (List.replicate N (.int .i64 0)).toArray 3) = w3 at *
  generalize hg : w2'.heap.size = g at *
  have zm3' : w3.heap[w1'.heap.size + 1]? = some (M14.obj (msg0 none none none none none 0 0 0 0)) := zm3
  obtain ⟨-, -, -, -, -, -, -, -, -, c9, c10, c11, c12, c13, cf⟩ := blk14 zm3'
  unfold msg0 at c9 c10 c11 c12 c13
  simp only [] at c9 c10 c11 c12 c13
  have zm4 : (w3.setCell ⟨w1'.heap.size + 1, 12, none⟩ (.slice (some ⟨g, 0, none⟩) N N)).heap[w1'.heap.size + 1]? = some (M14.obj (msg0 none none none (some ⟨g, 0, none⟩) none 0 0 N 0)) := by simp [World.setCell, Array.getElem?_modify, zm3, M14.obj, M14.cells, msg0]
  have b4 := (b2.trans (b3.mono (by omega))).setCell (p := ⟨w1'.heap.size + 1, 12, none⟩) (by show w.heap.size ≤ w1'.heap.size + 1; omega) (.slice (some ⟨g, 0, none⟩) N N)
  have R4 : MRows (w3.setCell ⟨w1'.heap.size + 1, 12, none⟩ (.slice (some ⟨g, 0, none⟩) N N)) (msg0 none none none (some ⟨g, 0, none⟩) none 0 0 N 0) [] [] := ⟨IRow.nil _ _, IRow.nil _ _, ERow.nil _ _, rfl, r3.same (by show g ≠ w1'.heap.size + 1; omega), .inl rfl, rfl⟩
  go_upto_region 19 with fail
  clear c9 c10 c11 c12 c13 cf zm3 zm3'
  generalize World.setCell _ _ _ = w4 at *
  obtain ⟨c0, c1, c2, c3, c4, c5, c6, c7, c8, c9, c10, c11, c12, c13, _⟩ := blk14 zm4
  unfold msg0 at c0 c1 c2 c3 c4 c5 c6 c7 c8 c9 c10 c11 c12 c13
  simp only [] at c0 c1 c2 c3 c4 c5 c6 c7 c8 c9 c10 c11 c12 c13
  specialize CE g w4 R4
  go_wp2_with fail
  refine CE.mono ?_
  rintro e w5 ⟨v5, rfl, b5⟩
  have b5 := b4.trans (b5.mono b4.size)
  clear c0 c1 c2 c3 c4 c5 c6 c7 c8 c9 c10 c11 c12 c13 zm4 CE R4
  rcases hE with ⟨hj, rfl⟩ | ⟨hj, rfl⟩
  · have i1 : (j : Int) ≤ 1 := by omega
    clear hj
    go_wp2
    go_ret
    exact ⟨rfl, b5⟩
  · have i1 : ¬ (j : Int) ≤ 1 := by omega
    have i2 : (1 : Int) < (j : Int) := by omega
    clear hj
    go_wp2
    go_ret
    exact ⟨rfl, b5⟩

set_option maxHeartbeats 8000000 in
set_option maxRecDepth 1000000 in
theorem bounds_5 (which n : Int) (w : World) (hT : Half w) (hq : which % 7 = 5) :
    Calls Tryd.prog 5 #[.int .i64 which, .int .i64 n] w fun e w' => e = .returned (.bool true) ∧ Below w.heap.size w w' := by
  have h0 := Int.emod_nonneg n (show (4 : Int) ≠ 0 by decide)
  have h1 := Int.emod_lt_of_pos n (show (0 : Int) < 4 by decide)
  obtain ⟨j, hj⟩ : ∃ j : Nat, n % 4 = (j : Int) := ⟨(n % 4).toNat, by omega⟩
  have hj3 : j ≤ 3 := by omega
  have K0 := known7_any w hT
  have W4 := fun w' => within7_any n 4 (by decide) (by decide) w'
  have W7 := fun w' => within7_any which 7 (by decide) (by decide) w'
  rw [hj] at W4
  rw [hq] at W7
  clear h0 h1 hj hq
  obtain ⟨N, hN⟩ : ∃ N : Nat, N = 59999 + j := ⟨_, rfl⟩
  have hNw : IntKind.i64.wrap (59999 + (j : Int)) = (N : Int) := by rw [IntKind.wrap_i64]; omega
  have MK := fun W => make_run 24 5 (.int .u8 0) 1 Tryd.underlying24 infoBz rfl N (N : Int) rfl (by omega) (by decide) W
  have CE := fun x w' h' => msg_err (msg0 none none none none (some ⟨x, 0, none⟩) 0 0 0 N) [] (List.replicate N 0) w' h' (by simp)
  have hE : ∀ x, errM (msg0 none none none none (some ⟨x, 0, none⟩) 0 0 0 N) [] = if 60000 < N then (5 : Int) else 0 := fun x => by
    rw [errM0, hasLong_nil]
    rw [if_neg (by omega)]
    by_cases h : 60000 < N
    · rw [if_pos (.inr h), if_pos h]
    · rw [if_neg (by simp; omega), if_neg h]
  have hEE : EndsAs j (if 60000 < N then (5 : Int) else 0) 5 := by
    unfold EndsAs
    rcases Nat.lt_or_ge 1 j with h | h
    · right
      exact ⟨h, if_pos (by omega)⟩
    · left
      exact ⟨h, if_neg (by omega)⟩
  simp only [hE] at CE
  clear hE
  have hE := hEE
  clear hEE
  generalize (if 60000 < N then (5 : Int) else 0) = E at *
  unfold M14.val M14.cells msg0 at CE
  simp only [] at CE
  clear hN
  go_enter Tryd.func5, Tryd.ntmps5
  go_wp2_with fail
  refine K0.mono ?_
  rintro e w1 ⟨rfl, b1⟩
  go_wp2_with fail
  refine (W4 _).mono ?_
  rintro e w1' ⟨rfl, rfl⟩
  clear K0 W4
  have n2 := below2 w1' (.cells #[.int .i64 1, .int .i64 1, .int .i64 2, .string ⟨#[]⟩, .string ⟨#[]⟩] 23) (.cells #[.int .i64 0, .int .i64 0, .int .i64 1, .int .i64 0, .int .i64 0, .int .i64 0, .int .i64 0, .int .i64 0, .bool false, .slice none 0 0, .slice none 0 0, .slice none 0 0, .slice none 0 0, .slice none 0 0] 45)
  have zc := kept_of_below (new1 _ (.cells #[.int .i64 0, .int .i64 0, .int .i64 1, .int .i64 0, .int .i64 0, .int .i64 0, .int .i64 0, .int .i64 0, .bool false, .slice none 0 0, .slice none 0 0, .slice none 0 0, .slice none 0 0, .slice none 0 0] 45)) (alloc_heap w1' (.cells #[.int .i64 1, .int .i64 1, .int .i64 2, .string ⟨#[]⟩, .string ⟨#[]⟩] 23))
  have zm := alloc_heap (w1'.alloc (.cells #[.int .i64 1, .int .i64 1, .int .i64 2, .string ⟨#[]⟩, .string ⟨#[]⟩] 23)) (.cells #[.int .i64 0, .int .i64 0, .int .i64 1, .int .i64 0, .int .i64 0, .int .i64 0, .int .i64 0, .int .i64 0, .bool false, .slice none 0 0, .slice none 0 0, .slice none 0 0, .slice none 0 0, .slice none 0 0] 45)
  rw [show (w1'.alloc (.cells #[.int .i64 1, .int .i64 1, .int .i64 2, .string ⟨#[]⟩, .string ⟨#[]⟩] 23)).heap.size = w1'.heap.size + 1 by simp] at zm
  go_upto_region 8 with fail
  generalize (w1'.alloc _).alloc _ = w2 at *
  have b2 := b1.trans (n2.mono b1.size)
  have lc : w1'.heap.size < w2.heap.size := (Array.getElem?_eq_some_iff.1 zc).1
  have lm : w1'.heap.size + 1 < w2.heap.size := (Array.getElem?_eq_some_iff.1 zm).1
  have hs1 := b1.size
  go_wp2_with fail
  refine (W7 _).mono ?_
  rintro e w2' ⟨rfl, rfl⟩
  clear W7 b1 n2
  have b3 := new1 w2' (.cells (List.replicate N (.int .u8 0)).toArray 5)
  have r3 := made_bytes (n := N) (alloc_heap w2' (.cells (List.replicate N (.int .u8 0)).toArray 5))
  have zm3 := kept_of_below b3 zm
  specialize MK w2'
  clear zc
  generalize w2'.alloc (.cells (List.replicate N (.int .u8 0)).toArray 5) = w3 at *
  generalize hg : w2'.heap.size = g at *
  have zm3' : w3.heap[w1'.heap.size + 1]? = some (M14.obj (msg0 none none none none none 0 0 0 0)) := zm3
  obtain ⟨-, -, -, -, -, -, -, -, -, c9, c10, c11, c12, c13, cf⟩ := blk14 zm3'
  unfold msg0 at c9 c10 c11 c12 c13
  simp only [] at c9 c10 c11 c12 c13
  have zm4 : (w3.setCell ⟨w1'.heap.size + 1, 13, none⟩ (.slice (some ⟨g, 0, none⟩) N N)).heap[w1'.heap.size + 1]? = some (M14.obj (msg0 none none none none (some ⟨g, 0, none⟩) 0 0 0 N)) := by simp [World.setCell, Array.getElem?_modify, zm3, M14.obj, M14.cells, msg0]
  have b4 := (b2.trans (b3.mono (by omega))).setCell (p := ⟨w1'.heap.size + 1, 13, none⟩) (by show w.heap.size ≤ w1'.heap.size + 1; omega) (.slice (some ⟨g, 0, none⟩) N N)
  have R4 : MRows (w3.setCell ⟨w1'.heap.size + 1, 13, none⟩ (.slice (some ⟨g, 0, none⟩) N N)) (msg0 none none none none (some ⟨g, 0, none⟩) 0 0 0 N) [] (List.replicate N 0) := ⟨IRow.nil _ _, IRow.nil _ _, ERow.nil _ _, rfl, IRow.nil _ _, r3.same (by show g ≠ w1'.heap.size + 1; omega), (List.length_replicate).symm⟩
  go_upto_region 32 with fail
  clear c9 c10 c11 c12 c13 cf zm3 zm3'
  generalize World.setCell _ _ _ = w4 at *
  obtain ⟨c0, c1, c2, c3, c4, c5, c6, c7, c8, c9, c10, c11, c12, c13, _⟩ := blk14 zm4
  unfold msg0 at c0 c1 c2 c3 c4 c5 c6 c7 c8 c9 c10 c11 c12 c13
  simp only [] at c0 c1 c2 c3 c4 c5 c6 c7 c8 c9 c10 c11 c12 c13
  specialize CE g w4 R4
  go_wp2_with fail
  refine CE.mono ?_
  rintro e w5 ⟨v5, rfl, b5⟩
  have b5 := b4.trans (b5.mono b4.size)
  clear c0 c1 c2 c3 c4 c5 c6 c7 c8 c9 c10 c11 c12 c13 zm4 CE R4
  rcases hE with ⟨hj, rfl⟩ | ⟨hj, rfl⟩
  · have i1 : (j : Int) ≤ 1 := by omega
    clear hj
    go_wp2
    go_ret
    exact ⟨rfl, b5⟩
  · have i1 : ¬ (j : Int) ≤ 1 := by omega
    have i2 : (1 : Int) < (j : Int) := by omega
    clear hj
    go_wp2
    go_ret
    exact ⟨rfl, b5⟩
end Go.Proofs.YtkeljejddfpnmaaDoor
