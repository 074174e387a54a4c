/-
  chancellaw7.PackBounds: frames.
-/
import Derived.Test.YtkeljejddfpnmaaDoorKBndA
namespace Go.Proofs.YtkeljejddfpnmaaDoor
open Go.RowKit Go.Sort

set_option maxHeartbeats 8000000 in
set_option maxRecDepth 1000000 in
theorem bounds_6 (which n : Int) (w : World) (hT : Half w) (hq : which % 7 = 6) :
    Calls Tryd.prog 5 #[.int .i64 which, .int .i64 n] w fun e w' => e = .returned (.bool true) ∧ Below w.heap.size w w' := by
  have h0 := Int.emod_nonneg n (show (4 : Int) ≠ 0 by decide)
  have h1 := Int.emod_lt_of_pos n (show (0 : Int) < 4 by decide)
  obtain ⟨j, hj⟩ : ∃ j : Nat, n % 4 = (j : Int) := ⟨(n % 4).toNat, by omega⟩
  have hj3 : j ≤ 3 := by omega
  have K0 := known7_any w hT
  have W4 := fun w' => within7_any n 4 (by decide) (by decide) w'
  have W7 := fun w' => within7_any which 7 (by decide) (by decide) w'
  rw [hj] at W4
  rw [hq] at W7
  clear h0 h1 hj hq
  obtain ⟨N, hN⟩ : ∃ N : Nat, N = 64999 + j := ⟨_, rfl⟩
  have hNw : IntKind.i64.wrap (64999 + (j : Int)) = (N : Int) := by rw [IntKind.wrap_i64]; omega
  have MK := fun W => make_run 24 5 (.int .u8 0) 1 Tryd.underlying24 infoBz rfl N (N : Int) rfl (by omega) (by decide) W
  have CE := fun g w' h1 h2 => frame_err N g N w' (by omega) h1 h2
  have hE : EndsAs j (if 65000 < N then 5 else 0) 5 := by
    unfold EndsAs
    rcases Nat.lt_or_ge 1 j with h | h
    · right
      exact ⟨h, if_pos (by omega)⟩
    · left
      exact ⟨h, if_neg (by omega)⟩
  generalize (if 65000 < N then (5 : Int) else 0) = E at *
  clear hN
  go_enter Tryd.func5, Tryd.ntmps5
  go_wp2_with fail
  refine K0.mono ?_
  rintro e w1 ⟨rfl, b1⟩
  go_wp2_with fail
  refine (W4 _).mono ?_
  rintro e w1' ⟨rfl, rfl⟩
  clear K0 W4
  have n2 := below2 w1' (.cells #[.int .i64 1, .int .i64 1, .int .i64 2, .string ⟨#[]⟩, .string ⟨#[]⟩] 23) (.cells #[.int .i64 0, .int .i64 0, .int .i64 1, .int .i64 0, .int .i64 0, .int .i64 0, .int .i64 0, .int .i64 0, .bool false, .slice none 0 0, .slice none 0 0, .slice none 0 0, .slice none 0 0, .slice none 0 0] 45)
  have zc := kept_of_below (new1 _ (.cells #[.int .i64 0, .int .i64 0, .int .i64 1, .int .i64 0, .int .i64 0, .int .i64 0, .int .i64 0, .int .i64 0, .bool false, .slice none 0 0, .slice none 0 0, .slice none 0 0, .slice none 0 0, .slice none 0 0] 45)) (alloc_heap w1' (.cells #[.int .i64 1, .int .i64 1, .int .i64 2, .string ⟨#[]⟩, .string ⟨#[]⟩] 23))
  have zm := alloc_heap (w1'.alloc (.cells #[.int .i64 1, .int .i64 1, .int .i64 2, .string ⟨#[]⟩, .string ⟨#[]⟩] 23)) (.cells #[.int .i64 0, .int .i64 0, .int .i64 1, .int .i64 0, .int .i64 0, .int .i64 0, .int .i64 0, .int .i64 0, .bool false, .slice none 0 0, .slice none 0 0, .slice none 0 0, .slice none 0 0, .slice none 0 0] 45)
  rw [show (w1'.alloc (.cells #[.int .i64 1, .int .i64 1, .int .i64 2, .string ⟨#[]⟩, .string ⟨#[]⟩] 23)).heap.size = w1'.heap.size + 1 by simp] at zm
  go_upto_region 8 with fail
  generalize (w1'.alloc _).alloc _ = w2 at *
  have b2 := b1.trans (n2.mono b1.size)
  have lc : w1'.heap.size < w2.heap.size := (Array.getElem?_eq_some_iff.1 zc).1
  have lm : w1'.heap.size + 1 < w2.heap.size := (Array.getElem?_eq_some_iff.1 zm).1
  have hs1 := b1.size
  go_wp2_with fail
  refine (W7 _).mono ?_
  rintro e w2' ⟨rfl, rfl⟩
  clear W7 b1 n2
  have b3 := new1 w2' (.cells (List.replicate N (.int .u8 0)).toArray 5)
  have r3 := made_bytes (n := N) (alloc_heap w2' (.cells (List.replicate N (.int .u8 0)).toArray 5))
  specialize MK w2'
  have b4 := b2.trans (b3.mono b2.size)
  specialize CE w2'.heap.size _ r3 (hT.below b4)
  clear zm zc r3
  generalize w2'.alloc (.cells (List.replicate N (.int .u8 0)).toArray 5) = w3 at *
  go_wp2_with fail
  refine CE.mono ?_
  rintro e w5 ⟨v5, rfl, b5⟩
  have b5 := b4.trans (b5.mono b4.size)
  clear CE
  rcases hE with ⟨hj, rfl⟩ | ⟨hj, rfl⟩
  · have i1 : (j : Int) ≤ 1 := by omega
    clear hj
    go_wp2
    go_ret
    exact ⟨rfl, b5⟩
  · have i1 : ¬ (j : Int) ≤ 1 := by omega
    have i2 : (1 : Int) < (j : Int) := by omega
    clear hj
    go_wp2
    go_ret
    exact ⟨rfl, b5⟩
end Go.Proofs.YtkeljejddfpnmaaDoor
