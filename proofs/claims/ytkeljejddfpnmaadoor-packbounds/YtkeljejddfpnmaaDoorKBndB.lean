/-
  chancellaw7.PackBounds: names and texts.
-/
import Derived.Test.YtkeljejddfpnmaaDoorKBndA
namespace Go.Proofs.YtkeljejddfpnmaaDoor
open Go.RowKit Go.Sort

set_option maxHeartbeats 8000000 in
set_option maxRecDepth 1000000 in
theorem bounds_0 (which n : Int) (w : World) (hT : Half w) (hq : which % 7 = 0) :
    Calls Tryd.prog 5 #[.int .i64 which, .int .i64 n] w fun e w' => e = .returned (.bool true) ∧ Below w.heap.size w w' := by
  have h0 := Int.emod_nonneg n (show (4 : Int) ≠ 0 by decide)
  have h1 := Int.emod_lt_of_pos n (show (0 : Int) < 4 by decide)
  obtain ⟨j, hj⟩ : ∃ j : Nat, n % 4 = (j : Int) := ⟨(n % 4).toNat, by omega⟩
  have hj3 : j ≤ 3 := by omega
  have K0 := known7_any w hT
  have W4 := fun w' => within7_any n 4 (by decide) (by decide) w'
  have W7 := fun w' => within7_any which 7 (by decide) (by decide) w'
  rw [hj] at W4
  rw [hq] at W7
  clear h0 h1 hj hq
  obtain ⟨N, hN⟩ : ∃ N : Nat, N = 11 + j := ⟨_, rfl⟩
  have hNw : IntKind.i64.wrap (11 + (j : Int)) = (N : Int) := by rw [IntKind.wrap_i64]; omega
  have MK := fun W => make_run 24 5 (.int .u8 0) 1 Tryd.underlying24 infoBz rfl N (N : Int) rfl (by omega) (by decide) W
  obtain ⟨S, hS⟩ : ∃ S : ByteArray, S = ⟨(List.replicate N 0).toArray⟩ := ⟨_, rfl⟩
  have hSs : S.size = N := by rw [hS, Lib.size_eq]; simp
  have CE := fun w' => cmd_err ⟨1, 1, 2, S, ⟨#[]⟩⟩ w'
  have hE : EndsAs j (errC ⟨1, 1, 2, S, ⟨#[]⟩⟩) 5 := by
    unfold EndsAs errC
    simp only [hSs, show (ByteArray.mk #[]).size = 0 from rfl]
    rcases Nat.lt_or_ge 1 j with h | h
    · right
      refine ⟨h, ?_⟩
      rw [if_neg (by omega), if_neg (by omega), if_pos (by omega)]
    · left
      refine ⟨h, ?_⟩
      rw [if_neg (by omega), if_neg (by omega), if_neg (by omega)]
  generalize errC ⟨1, 1, 2, S, ⟨#[]⟩⟩ = E at *
  unfold C5.val at CE
  clear hN
  go_enter Tryd.func5, Tryd.ntmps5
  go_wp2_with fail
  refine K0.mono ?_
  rintro e w1 ⟨rfl, b1⟩
  go_wp2_with fail
  refine (W4 _).mono ?_
  rintro e w1' ⟨rfl, rfl⟩
  clear K0 W4
  have n2 := below2 w1' (.cells #[.int .i64 1, .int .i64 1, .int .i64 2, .string ⟨#[]⟩, .string ⟨#[]⟩] 23) (.cells #[.int .i64 0, .int .i64 0, .int .i64 1, .int .i64 0, .int .i64 0, .int .i64 0, .int .i64 0, .int .i64 0, .bool false, .slice none 0 0, .slice none 0 0, .slice none 0 0, .slice none 0 0, .slice none 0 0] 45)
  have zc := kept_of_below (new1 _ (.cells #[.int .i64 0, .int .i64 0, .int .i64 1, .int .i64 0, .int .i64 0, .int .i64 0, .int .i64 0, .int .i64 0, .bool false, .slice none 0 0, .slice none 0 0, .slice none 0 0, .slice none 0 0, .slice none 0 0] 45)) (alloc_heap w1' (.cells #[.int .i64 1, .int .i64 1, .int .i64 2, .string ⟨#[]⟩, .string ⟨#[]⟩] 23))
  have zm := alloc_heap (w1'.alloc (.cells #[.int .i64 1, .int .i64 1, .int .i64 2, .string ⟨#[]⟩, .string ⟨#[]⟩] 23)) (.cells #[.int .i64 0, .int .i64 0, .int .i64 1, .int .i64 0, .int .i64 0, .int .i64 0, .int .i64 0, .int .i64 0, .bool false, .slice none 0 0, .slice none 0 0, .slice none 0 0, .slice none 0 0, .slice none 0 0] 45)
  rw [show (w1'.alloc (.cells #[.int .i64 1, .int .i64 1, .int .i64 2, .string ⟨#[]⟩, .string ⟨#[]⟩] 23)).heap.size = w1'.heap.size + 1 by simp] at zm
  go_upto_region 8 with fail
  generalize (w1'.alloc _).alloc _ = w2 at *
  have b2 := b1.trans (n2.mono b1.size)
  have lc : w1'.heap.size < w2.heap.size := (Array.getElem?_eq_some_iff.1 zc).1
  have lm : w1'.heap.size + 1 < w2.heap.size := (Array.getElem?_eq_some_iff.1 zm).1
  have hs1 := b1.size
  go_wp2_with fail
  refine (W7 _).mono ?_
  rintro e w2' ⟨rfl, rfl⟩
  clear W7 b1 n2
  have b3 := new1 w2' (.cells (List.replicate N (.int .u8 0)).toArray 5)
  have CV := conv_run (l := List.replicate N 0) (n := N) N (by simp) (made_bytes (n := N) (alloc_heap w2' (.cells (List.replicate N (.int .u8 0)).toArray 5)))
  rw [← hS] at CV
  have zc3 := kept_of_below b3 zc
  specialize MK w2'
  clear hS hSs zm
  generalize w2'.alloc (.cells (List.replicate N (.int .u8 0)).toArray 5) = w3 at *
  obtain ⟨-, -, -, c3, c4, cf⟩ := blk5 zc3
  have zc4 : (w3.setCell ⟨w1'.heap.size, 3, none⟩ (.string S)).heap[w1'.heap.size]? = some (.cells #[.int .i64 1, .int .i64 1, .int .i64 2, .string S, .string ⟨#[]⟩] 23 (0, 0)) := by simp [World.setCell, Array.getElem?_modify, zc3]
  have b4 := (b2.trans (b3.mono b2.size)).setCell (p := ⟨w1'.heap.size, 3, none⟩) hs1 (.string S)
  go_upto_region 11 with fail
  clear c3 c4 cf
  generalize World.setCell _ _ _ = w4 at *
  obtain ⟨c0, c1, c2, c3, c4, _⟩ := blk5 zc4
  clear zc3
  go_wp2_with fail
  refine (CE w4).mono ?_
  rintro e w5 ⟨v5, rfl, b5⟩
  have b5 := b4.trans (b5.mono b4.size)
  clear c0 c1 c2 c3 c4 zc4 CE
  rcases hE with ⟨hj, rfl⟩ | ⟨hj, rfl⟩
  · have i1 : (j : Int) ≤ 1 := by omega
    clear hj
    go_wp2
    go_ret
    exact ⟨rfl, b5⟩
  · have i1 : ¬ (j : Int) ≤ 1 := by omega
    have i2 : (1 : Int) < (j : Int) := by omega
    clear hj
    go_wp2
    go_ret
    exact ⟨rfl, b5⟩

set_option maxHeartbeats 8000000 in
set_option maxRecDepth 1000000 in
theorem bounds_1 (which n : Int) (w : World) (hT : Half w) (hq : which % 7 = 1) :
    Calls Tryd.prog 5 #[.int .i64 which, .int .i64 n] w fun e w' => e = .returned (.bool true) ∧ Below w.heap.size w w' := by
  have h0 := Int.emod_nonneg n (show (4 : Int) ≠ 0 by decide)
  have h1 := Int.emod_lt_of_pos n (show (0 : Int) < 4 by decide)
  obtain ⟨j, hj⟩ : ∃ j : Nat, n % 4 = (j : Int) := ⟨(n % 4).toNat, by omega⟩
  have hj3 : j ≤ 3 := by omega
  have K0 := known7_any w hT
  have W4 := fun w' => within7_any n 4 (by decide) (by decide) w'
  have W7 := fun w' => within7_any which 7 (by decide) (by decide) w'
  rw [hj] at W4
  rw [hq] at W7
  clear h0 h1 hj hq
  obtain ⟨N, hN⟩ : ∃ N : Nat, N = 599 + j := ⟨_, rfl⟩
  have hNw : IntKind.i64.wrap (599 + (j : Int)) = (N : Int) := by rw [IntKind.wrap_i64]; omega
  have MK := fun W => make_run 24 5 (.int .u8 0) 1 Tryd.underlying24 infoBz rfl N (N : Int) rfl (by omega) (by decide) W
  obtain ⟨S, hS⟩ : ∃ S : ByteArray, S = ⟨(List.replicate N 0).toArray⟩ := ⟨_, rfl⟩
  have hSs : S.size = N := by rw [hS, Lib.size_eq]; simp
  have CE := fun w' => cmd_err ⟨1, 1, 2, ⟨#[]⟩, S⟩ w'
  have hE : EndsAs j (errC ⟨1, 1, 2, ⟨#[]⟩, S⟩) 5 := by
    unfold EndsAs errC
    simp only [hSs, show (ByteArray.mk #[]).size = 0 from rfl]
    rcases Nat.lt_or_ge 1 j with h | h
    · right
      refine ⟨h, ?_⟩
      rw [if_neg (by omega), if_neg (by omega), if_pos (by omega)]
    · left
      refine ⟨h, ?_⟩
      rw [if_neg (by omega), if_neg (by omega), if_neg (by omega)]
  generalize errC ⟨1, 1, 2, ⟨#[]⟩, S⟩ = E at *
  unfold C5.val at CE
  clear hN
  go_enter Tryd.func5, Tryd.ntmps5
  go_wp2_with fail
  refine K0.mono ?_
  rintro e w1 ⟨rfl, b1⟩
  go_wp2_with fail
  refine (W4 _).mono ?_
  rintro e w1' ⟨rfl, rfl⟩
  clear K0 W4
  have n2 := below2 w1' (.cells #[.int .i64 1, .int .i64 1, .int .i64 2, .string ⟨#[]⟩, .string ⟨#[]⟩] 23) (.cells #[.int .i64 0, .int .i64 0, .int .i64 1, .int .i64 0, .int .i64 0, .int .i64 0, .int .i64 0, .int .i64 0, .bool false, .slice none 0 0, .slice none 0 0, .slice none 0 0, .slice none 0 0, .slice none 0 0] 45)
  have zc := kept_of_below (new1 _ (.cells #[.int .i64 0, .int .i64 0, .int .i64 1, .int .i64 0, .int .i64 0, .int .i64 0, .int .i64 0, .int .i64 0, .bool false, .slice none 0 0, .slice none 0 0, .slice none 0 0, .slice none 0 0, .slice none 0 0] 45)) (alloc_heap w1' (.cells #[.int .i64 1, .int .i64 1, .int .i64 2, .string ⟨#[]⟩, .string ⟨#[]⟩] 23))
  have zm := alloc_heap (w1'.alloc (.cells #[.int .i64 1, .int .i64 1, .int .i64 2, .string ⟨#[]⟩, .string ⟨#[]⟩] 23)) (.cells #[.int .i64 0, .int .i64 0, .int .i64 1, .int .i64 0, .int .i64 0, .int .i64 0, .int .i64 0, .int .i64 0, .bool false, .slice none 0 0, .slice none 0 0, .slice none 0 0, .slice none 0 0, .slice none 0 0] 45)
  rw [show (w1'.alloc (.cells #[.int .i64 1, .int .i64 1, .int .i64 2, .string ⟨#[]⟩, .string ⟨#[]⟩] 23)).heap.size = w1'.heap.size + 1 by simp] at zm
  go_upto_region 8 with fail
  generalize (w1'.alloc _).alloc _ = w2 at *
  have b2 := b1.trans (n2.mono b1.size)
  have lc : w1'.heap.size < w2.heap.size := (Array.getElem?_eq_some_iff.1 zc).1
  have lm : w1'.heap.size + 1 < w2.heap.size := (Array.getElem?_eq_some_iff.1 zm).1
  have hs1 := b1.size
  go_wp2_with fail
  refine (W7 _).mono ?_
  rintro e w2' ⟨rfl, rfl⟩
  clear W7 b1 n2
  have b3 := new1 w2' (.cells (List.replicate N (.int .u8 0)).toArray 5)
  have CV := conv_run (l := List.replicate N 0) (n := N) N (by simp) (made_bytes (n := N) (alloc_heap w2' (.cells (List.replicate N (.int .u8 0)).toArray 5)))
  rw [← hS] at CV
  have zc3 := kept_of_below b3 zc
  specialize MK w2'
  clear hS hSs zm
  generalize w2'.alloc (.cells (List.replicate N (.int .u8 0)).toArray 5) = w3 at *
  obtain ⟨-, -, -, c3, c4, cf⟩ := blk5 zc3
  have zc4 : (w3.setCell ⟨w1'.heap.size, 4, none⟩ (.string S)).heap[w1'.heap.size]? = some (.cells #[.int .i64 1, .int .i64 1, .int .i64 2, .string ⟨#[]⟩, .string S] 23 (0, 0)) := by simp [World.setCell, Array.getElem?_modify, zc3]
  have b4 := (b2.trans (b3.mono b2.size)).setCell (p := ⟨w1'.heap.size, 4, none⟩) hs1 (.string S)
  go_upto_region 15 with fail
  clear c3 c4 cf
  generalize World.setCell _ _ _ = w4 at *
  obtain ⟨c0, c1, c2, c3, c4, _⟩ := blk5 zc4
  clear zc3
  go_wp2_with fail
  refine (CE w4).mono ?_
  rintro e w5 ⟨v5, rfl, b5⟩
  have b5 := b4.trans (b5.mono b4.size)
  clear c0 c1 c2 c3 c4 zc4 CE
  rcases hE with ⟨hj, rfl⟩ | ⟨hj, rfl⟩
  · have i1 : (j : Int) ≤ 1 := by omega
    clear hj
    go_wp2
    go_ret
    exact ⟨rfl, b5⟩
  · have i1 : ¬ (j : Int) ≤ 1 := by omega
    have i2 : (1 : Int) < (j : Int) := by omega
    clear hj
    go_wp2
    go_ret
    exact ⟨rfl, b5⟩
end Go.Proofs.YtkeljejddfpnmaaDoor
