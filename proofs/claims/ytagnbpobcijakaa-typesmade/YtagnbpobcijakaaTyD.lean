/-
 Package types: ofTwo: what it returns.
-/
import Derived.Test.YtagnbpobcijakaaTyAC
namespace Go.Proofs.Ytagnbpobcijakaa
open Go.RowKit Go.Sort

set_option maxHeartbeats 8000000 in
set_option maxRecDepth 1000000 in
theorem ofTwo_any (k ak ao : Int) (an : ByteArray) (bk bo : Int) (bn : ByteArray) (w : World) : Calls Try.prog 49 #[.int .i64 k, .agg #[.int .i64 ak, .int .i64 ao, .string an], .agg #[.int .i64 bk, .int .i64 bo, .string bn]] w fun e w' => e = .returned (twoT k ⟨ak, ao, an⟩ ⟨bk, bo, bn⟩).ret ∧ Below w.heap.size w w' := by
 obtain ⟨bX, zX, k1, k2, k3⟩ := alloc3 w (.cells #[.int .i64 ak, .int .i64 ao, .string an] 54) (.cells #[.int .i64 bk, .int .i64 bo, .string bn] 54) (.cells #[.int .i64 0, .int .i64 0, .string ⟨#[]⟩] 54)
 go_enter Try.func49, Try.ntmps49
 go_upto_region 1 with fail
 generalize ((w.alloc _).alloc _).alloc _ = w1 at *
 obtain ⟨ca0, ca1, ca2⟩ := bl3_ k1
 obtain ⟨cb0, cb1, cb2⟩ := bl3_ k2
 clear k1 k2 zX
 by_cases ho : k = 13
 ·subst ho
  by_cases h1 : ak = 2
  ·subst h1
   by_cases h2 : bk = 2
   ·subst h2
    have C := where_any true 2 w1
    have HE : twoT 13 ⟨2, ao, an⟩ ⟨2, bo, bn⟩ = whereT true 2 := by unfold twoT; rw [if_pos (by decide)]; simp
    obtain ⟨x, hx⟩ : ∃ x : TR, x = whereT true 2 := ⟨_, rfl⟩
    rw [← hx] at C HE
    obtain ⟨⟨xk, xo, xn⟩, xe⟩ := x
    have HE := hide HE
    clear hx
    unfold TR.ret at C
    simp only at C
    go_wp2_with fail
    refine C.mono ?_
    clear C
    rintro e9 w5 ⟨rfl, b5⟩
    have hV5 := kept_of_below b5 k3
    have bb5 := bX.trans (b5.mono bX.size)
    obtain ⟨z0, z1, z2⟩ := bl3_ hV5
    have zf : ∀ o, w5.frozen? ⟨w.heap.size + 2, o, none⟩ = false := fun o => Lib.frozen_of_heap hV5 o
    have HQ := hide (set3_all (.int .i64 xk) (.int .i64 xo) (.string xn) hV5 bb5 (Nat.le_add_right _ 2))
    go_wp2
    obtain ⟨q0, q1, q2, qb⟩ := unhide HQ
    exact bodyPost_ret (v := .tuple #[.agg #[.int .i64 xk, .int .i64 xo, .string xn], .int .i64 xe]) (by simp [results, Try.results49, go_sem, q0, q1, q2]) rfl ⟨by rw [unhide HE]; rfl, qb⟩
   ·have gh2 : (bk == 2) = false := by simpa using h2
    have C := where_any false 2 w1
    have HE : twoT 13 ⟨2, ao, an⟩ ⟨bk, bo, bn⟩ = whereT false 2 := by unfold twoT; rw [if_pos (by decide)]; simp [h2]
    obtain ⟨x, hx⟩ : ∃ x : TR, x = whereT false 2 := ⟨_, rfl⟩
    rw [← hx] at C HE
    obtain ⟨⟨xk, xo, xn⟩, xe⟩ := x
    have HE := hide HE
    clear hx
    unfold TR.ret at C
    simp only at C
    go_wp2_with fail
    refine C.mono ?_
    clear C
    rintro e9 w5 ⟨rfl, b5⟩
    have hV5 := kept_of_below b5 k3
    have bb5 := bX.trans (b5.mono bX.size)
    obtain ⟨z0, z1, z2⟩ := bl3_ hV5
    have zf : ∀ o, w5.frozen? ⟨w.heap.size + 2, o, none⟩ = false := fun o => Lib.frozen_of_heap hV5 o
    have HQ := hide (set3_all (.int .i64 xk) (.int .i64 xo) (.string xn) hV5 bb5 (Nat.le_add_right _ 2))
    go_wp2
    obtain ⟨q0, q1, q2, qb⟩ := unhide HQ
    exact bodyPost_ret (v := .tuple #[.agg #[.int .i64 xk, .int .i64 xo, .string xn], .int .i64 xe]) (by simp [results, Try.results49, go_sem, q0, q1, q2]) rfl ⟨by rw [unhide HE]; rfl, qb⟩
  ·have gh1 : (ak == 2) = false := by simpa using h1
   have C := where_any false 2 w1
   have HE : twoT 13 ⟨ak, ao, an⟩ ⟨bk, bo, bn⟩ = whereT false 2 := by unfold twoT; rw [if_pos (by decide)]; simp [h1]
   obtain ⟨x, hx⟩ : ∃ x : TR, x = whereT false 2 := ⟨_, rfl⟩
   rw [← hx] at C HE
   obtain ⟨⟨xk, xo, xn⟩, xe⟩ := x
   have HE := hide HE
   clear hx
   unfold TR.ret at C
   simp only at C
   go_wp2_with fail
   refine C.mono ?_
   clear C
   rintro e9 w5 ⟨rfl, b5⟩
   have hV5 := kept_of_below b5 k3
   have bb5 := bX.trans (b5.mono bX.size)
   obtain ⟨z0, z1, z2⟩ := bl3_ hV5
   have zf : ∀ o, w5.frozen? ⟨w.heap.size + 2, o, none⟩ = false := fun o => Lib.frozen_of_heap hV5 o
   have HQ := hide (set3_all (.int .i64 xk) (.int .i64 xo) (.string xn) hV5 bb5 (Nat.le_add_right _ 2))
   go_wp2
   obtain ⟨q0, q1, q2, qb⟩ := unhide HQ
   exact bodyPost_ret (v := .tuple #[.agg #[.int .i64 xk, .int .i64 xo, .string xn], .int .i64 xe]) (by simp [results, Try.results49, go_sem, q0, q1, q2]) rfl ⟨by rw [unhide HE]; rfl, qb⟩
 have g13 : (k == 13) = false := by simpa using ho
 have m13 := ho
 clear ho
 by_cases ho : k = 14
 ·subst ho
  clear g13 m13
  by_cases h1 : ak = 2
  ·subst h1
   by_cases h2 : bk = 2
   ·subst h2
    have C := where_any true 2 w1
    have HE : twoT 14 ⟨2, ao, an⟩ ⟨2, bo, bn⟩ = whereT true 2 := by unfold twoT; rw [if_pos (by decide)]; simp
    obtain ⟨x, hx⟩ : ∃ x : TR, x = whereT true 2 := ⟨_, rfl⟩
    rw [← hx] at C HE
    obtain ⟨⟨xk, xo, xn⟩, xe⟩ := x
    have HE := hide HE
    clear hx
    unfold TR.ret at C
    simp only at C
    go_wp2_with fail
    refine C.mono ?_
    clear C
    rintro e9 w5 ⟨rfl, b5⟩
    have hV5 := kept_of_below b5 k3
    have bb5 := bX.trans (b5.mono bX.size)
    obtain ⟨z0, z1, z2⟩ := bl3_ hV5
    have zf : ∀ o, w5.frozen? ⟨w.heap.size + 2, o, none⟩ = false := fun o => Lib.frozen_of_heap hV5 o
    have HQ := hide (set3_all (.int .i64 xk) (.int .i64 xo) (.string xn) hV5 bb5 (Nat.le_add_right _ 2))
    go_wp2
    obtain ⟨q0, q1, q2, qb⟩ := unhide HQ
    exact bodyPost_ret (v := .tuple #[.agg #[.int .i64 xk, .int .i64 xo, .string xn], .int .i64 xe]) (by simp [results, Try.results49, go_sem, q0, q1, q2]) rfl ⟨by rw [unhide HE]; rfl, qb⟩
   ·have gh2 : (bk == 2) = false := by simpa using h2
    have C := where_any false 2 w1
    have HE : twoT 14 ⟨2, ao, an⟩ ⟨bk, bo, bn⟩ = whereT false 2 := by unfold twoT; rw [if_pos (by decide)]; simp [h2]
    obtain ⟨x, hx⟩ : ∃ x : TR, x = whereT false 2 := ⟨_, rfl⟩
    rw [← hx] at C HE
    obtain ⟨⟨xk, xo, xn⟩, xe⟩ := x
    have HE := hide HE
    clear hx
    unfold TR.ret at C
    simp only at C
    go_wp2_with fail
    refine C.mono ?_
    clear C
    rintro e9 w5 ⟨rfl, b5⟩
    have hV5 := kept_of_below b5 k3
    have bb5 := bX.trans (b5.mono bX.size)
    obtain ⟨z0, z1, z2⟩ := bl3_ hV5
    have zf : ∀ o, w5.frozen? ⟨w.heap.size + 2, o, none⟩ = false := fun o => Lib.frozen_of_heap hV5 o
    have HQ := hide (set3_all (.int .i64 xk) (.int .i64 xo) (.string xn) hV5 bb5 (Nat.le_add_right _ 2))
    go_wp2
    obtain ⟨q0, q1, q2, qb⟩ := unhide HQ
    exact bodyPost_ret (v := .tuple #[.agg #[.int .i64 xk, .int .i64 xo, .string xn], .int .i64 xe]) (by simp [results, Try.results49, go_sem, q0, q1, q2]) rfl ⟨by rw [unhide HE]; rfl, qb⟩
  ·have gh1 : (ak == 2) = false := by simpa using h1
   have C := where_any false 2 w1
   have HE : twoT 14 ⟨ak, ao, an⟩ ⟨bk, bo, bn⟩ = whereT false 2 := by unfold twoT; rw [if_pos (by decide)]; simp [h1]
   obtain ⟨x, hx⟩ : ∃ x : TR, x = whereT false 2 := ⟨_, rfl⟩
   rw [← hx] at C HE
   obtain ⟨⟨xk, xo, xn⟩, xe⟩ := x
   have HE := hide HE
   clear hx
   unfold TR.ret at C
   simp only at C
   go_wp2_with fail
   refine C.mono ?_
   clear C
   rintro e9 w5 ⟨rfl, b5⟩
   have hV5 := kept_of_below b5 k3
   have bb5 := bX.trans (b5.mono bX.size)
   obtain ⟨z0, z1, z2⟩ := bl3_ hV5
   have zf : ∀ o, w5.frozen? ⟨w.heap.size + 2, o, none⟩ = false := fun o => Lib.frozen_of_heap hV5 o
   have HQ := hide (set3_all (.int .i64 xk) (.int .i64 xo) (.string xn) hV5 bb5 (Nat.le_add_right _ 2))
   go_wp2
   obtain ⟨q0, q1, q2, qb⟩ := unhide HQ
   exact bodyPost_ret (v := .tuple #[.agg #[.int .i64 xk, .int .i64 xo, .string xn], .int .i64 xe]) (by simp [results, Try.results49, go_sem, q0, q1, q2]) rfl ⟨by rw [unhide HE]; rfl, qb⟩
 have g14 : (k == 14) = false := by simpa using ho
 have m14 := ho
 clear ho
 by_cases ho : k = 15
 ·subst ho
  clear g13 m13 g14 m14
  by_cases h1 : ak = 2
  ·subst h1
   by_cases h2 : bk = 2
   ·subst h2
    have C := where_any true 2 w1
    have HE : twoT 15 ⟨2, ao, an⟩ ⟨2, bo, bn⟩ = whereT true 2 := by unfold twoT; rw [if_pos (by decide)]; simp
    obtain ⟨x, hx⟩ : ∃ x : TR, x = whereT true 2 := ⟨_, rfl⟩
    rw [← hx] at C HE
    obtain ⟨⟨xk, xo, xn⟩, xe⟩ := x
    have HE := hide HE
    clear hx
    unfold TR.ret at C
    simp only at C
    go_wp2_with fail
    refine C.mono ?_
    clear C
    rintro e9 w5 ⟨rfl, b5⟩
    have hV5 := kept_of_below b5 k3
    have bb5 := bX.trans (b5.mono bX.size)
    obtain ⟨z0, z1, z2⟩ := bl3_ hV5
    have zf : ∀ o, w5.frozen? ⟨w.heap.size + 2, o, none⟩ = false := fun o => Lib.frozen_of_heap hV5 o
    have HQ := hide (set3_all (.int .i64 xk) (.int .i64 xo) (.string xn) hV5 bb5 (Nat.le_add_right _ 2))
    go_wp2
    obtain ⟨q0, q1, q2, qb⟩ := unhide HQ
    exact bodyPost_ret (v := .tuple #[.agg #[.int .i64 xk, .int .i64 xo, .string xn], .int .i64 xe]) (by simp [results, Try.results49, go_sem, q0, q1, q2]) rfl ⟨by rw [unhide HE]; rfl, qb⟩
   ·have gh2 : (bk == 2) = false := by simpa using h2
    have C := where_any false 2 w1
    have HE : twoT 15 ⟨2, ao, an⟩ ⟨bk, bo, bn⟩ = whereT false 2 := by unfold twoT; rw [if_pos (by decide)]; simp [h2]
    obtain ⟨x, hx⟩ : ∃ x : TR, x = whereT false 2 := ⟨_, rfl⟩
    rw [← hx] at C HE
    obtain ⟨⟨xk, xo, xn⟩, xe⟩ := x
    have HE := hide HE
    clear hx
    unfold TR.ret at C
    simp only at C
    go_wp2_with fail
    refine C.mono ?_
    clear C
    rintro e9 w5 ⟨rfl, b5⟩
    have hV5 := kept_of_below b5 k3
    have bb5 := bX.trans (b5.mono bX.size)
    obtain ⟨z0, z1, z2⟩ := bl3_ hV5
    have zf : ∀ o, w5.frozen? ⟨w.heap.size + 2, o, none⟩ = false := fun o => Lib.frozen_of_heap hV5 o
    have HQ := hide (set3_all (.int .i64 xk) (.int .i64 xo) (.string xn) hV5 bb5 (Nat.le_add_right _ 2))
    go_wp2
    obtain ⟨q0, q1, q2, qb⟩ := unhide HQ
    exact bodyPost_ret (v := .tuple #[.agg #[.int .i64 xk, .int .i64 xo, .string xn], .int .i64 xe]) (by simp [results, Try.results49, go_sem, q0, q1, q2]) rfl ⟨by rw [unhide HE]; rfl, qb⟩
  ·have gh1 : (ak == 2) = false := by simpa using h1
   have C := where_any false 2 w1
   have HE : twoT 15 ⟨ak, ao, an⟩ ⟨bk, bo, bn⟩ = whereT false 2 := by unfold twoT; rw [if_pos (by decide)]; simp [h1]
   obtain ⟨x, hx⟩ : ∃ x : TR, x = whereT false 2 := ⟨_, rfl⟩
   rw [← hx] at C HE
   obtain ⟨⟨xk, xo, xn⟩, xe⟩ := x
   have HE := hide HE
   clear hx
   unfold TR.ret at C
   simp only at C
   go_wp2_with fail
   refine C.mono ?_
   clear C
   rintro e9 w5 ⟨rfl, b5⟩
   have hV5 := kept_of_below b5 k3
   have bb5 := bX.trans (b5.mono bX.size)
   obtain ⟨z0, z1, z2⟩ := bl3_ hV5
   have zf : ∀ o, w5.frozen? ⟨w.heap.size + 2, o, none⟩ = false := fun o => Lib.frozen_of_heap hV5 o
   have HQ := hide (set3_all (.int .i64 xk) (.int .i64 xo) (.string xn) hV5 bb5 (Nat.le_add_right _ 2))
   go_wp2
   obtain ⟨q0, q1, q2, qb⟩ := unhide HQ
   exact bodyPost_ret (v := .tuple #[.agg #[.int .i64 xk, .int .i64 xo, .string xn], .int .i64 xe]) (by simp [results, Try.results49, go_sem, q0, q1, q2]) rfl ⟨by rw [unhide HE]; rfl, qb⟩
 have g15 : (k == 15) = false := by simpa using ho
 have m15 := ho
 clear ho
 by_cases ho : k = 16
 ·subst ho
  clear g13 m13 g14 m14 g15 m15
  by_cases h1 : ak = 2
  ·subst h1
   by_cases h2 : bk = 2
   ·subst h2
    have C := where_any true 1 w1
    have HE : twoT 16 ⟨2, ao, an⟩ ⟨2, bo, bn⟩ = whereT true 1 := by unfold twoT; rw [if_neg (by decide), if_pos (by decide)]; simp
    obtain ⟨x, hx⟩ : ∃ x : TR, x = whereT true 1 := ⟨_, rfl⟩
    rw [← hx] at C HE
    obtain ⟨⟨xk, xo, xn⟩, xe⟩ := x
    have HE := hide HE
    clear hx
    unfold TR.ret at C
    simp only at C
    go_wp2_with fail
    refine C.mono ?_
    clear C
    rintro e9 w5 ⟨rfl, b5⟩
    have hV5 := kept_of_below b5 k3
    have bb5 := bX.trans (b5.mono bX.size)
    obtain ⟨z0, z1, z2⟩ := bl3_ hV5
    have zf : ∀ o, w5.frozen? ⟨w.heap.size + 2, o, none⟩ = false := fun o => Lib.frozen_of_heap hV5 o
    have HQ := hide (set3_all (.int .i64 xk) (.int .i64 xo) (.string xn) hV5 bb5 (Nat.le_add_right _ 2))
    go_wp2
    obtain ⟨q0, q1, q2, qb⟩ := unhide HQ
    exact bodyPost_ret (v := .tuple #[.agg #[.int .i64 xk, .int .i64 xo, .string xn], .int .i64 xe]) (by simp [results, Try.results49, go_sem, q0, q1, q2]) rfl ⟨by rw [unhide HE]; rfl, qb⟩
   ·have gh2 : (bk == 2) = false := by simpa using h2
    have C := where_any false 1 w1
    have HE : twoT 16 ⟨2, ao, an⟩ ⟨bk, bo, bn⟩ = whereT false 1 := by unfold twoT; rw [if_neg (by decide), if_pos (by decide)]; simp [h2]
    obtain ⟨x, hx⟩ : ∃ x : TR, x = whereT false 1 := ⟨_, rfl⟩
    rw [← hx] at C HE
    obtain ⟨⟨xk, xo, xn⟩, xe⟩ := x
    have HE := hide HE
    clear hx
    unfold TR.ret at C
    simp only at C
    go_wp2_with fail
    refine C.mono ?_
    clear C
    rintro e9 w5 ⟨rfl, b5⟩
    have hV5 := kept_of_below b5 k3
    have bb5 := bX.trans (b5.mono bX.size)
    obtain ⟨z0, z1, z2⟩ := bl3_ hV5
    have zf : ∀ o, w5.frozen? ⟨w.heap.size + 2, o, none⟩ = false := fun o => Lib.frozen_of_heap hV5 o
    have HQ := hide (set3_all (.int .i64 xk) (.int .i64 xo) (.string xn) hV5 bb5 (Nat.le_add_right _ 2))
    go_wp2
    obtain ⟨q0, q1, q2, qb⟩ := unhide HQ
    exact bodyPost_ret (v := .tuple #[.agg #[.int .i64 xk, .int .i64 xo, .string xn], .int .i64 xe]) (by simp [results, Try.results49, go_sem, q0, q1, q2]) rfl ⟨by rw [unhide HE]; rfl, qb⟩
  ·have gh1 : (ak == 2) = false := by simpa using h1
   have C := where_any false 1 w1
   have HE : twoT 16 ⟨ak, ao, an⟩ ⟨bk, bo, bn⟩ = whereT false 1 := by unfold twoT; rw [if_neg (by decide), if_pos (by decide)]; simp [h1]
   obtain ⟨x, hx⟩ : ∃ x : TR, x = whereT false 1 := ⟨_, rfl⟩
   rw [← hx] at C HE
   obtain ⟨⟨xk, xo, xn⟩, xe⟩ := x
   have HE := hide HE
   clear hx
   unfold TR.ret at C
   simp only at C
   go_wp2_with fail
   refine C.mono ?_
   clear C
   rintro e9 w5 ⟨rfl, b5⟩
   have hV5 := kept_of_below b5 k3
   have bb5 := bX.trans (b5.mono bX.size)
   obtain ⟨z0, z1, z2⟩ := bl3_ hV5
   have zf : ∀ o, w5.frozen? ⟨w.heap.size + 2, o, none⟩ = false := fun o => Lib.frozen_of_heap hV5 o
   have HQ := hide (set3_all (.int .i64 xk) (.int .i64 xo) (.string xn) hV5 bb5 (Nat.le_add_right _ 2))
   go_wp2
   obtain ⟨q0, q1, q2, qb⟩ := unhide HQ
   exact bodyPost_ret (v := .tuple #[.agg #[.int .i64 xk, .int .i64 xo, .string xn], .int .i64 xe]) (by simp [results, Try.results49, go_sem, q0, q1, q2]) rfl ⟨by rw [unhide HE]; rfl, qb⟩
 have g16 : (k == 16) = false := by simpa using ho
 have m16 := ho
 clear ho
 by_cases ho : k = 17
 ·subst ho
  clear g13 m13 g14 m14 g15 m15 g16 m16
  by_cases h1 : ak = 2
  ·subst h1
   by_cases h2 : bk = 2
   ·subst h2
    have C := where_any true 1 w1
    have HE : twoT 17 ⟨2, ao, an⟩ ⟨2, bo, bn⟩ = whereT true 1 := by unfold twoT; rw [if_neg (by decide), if_pos (by decide)]; simp
    obtain ⟨x, hx⟩ : ∃ x : TR, x = whereT true 1 := ⟨_, rfl⟩
    rw [← hx] at C HE
    obtain ⟨⟨xk, xo, xn⟩, xe⟩ := x
    have HE := hide HE
    clear hx
    unfold TR.ret at C
    simp only at C
    go_wp2_with fail
    refine C.mono ?_
    clear C
    rintro e9 w5 ⟨rfl, b5⟩
    have hV5 := kept_of_below b5 k3
    have bb5 := bX.trans (b5.mono bX.size)
    obtain ⟨z0, z1, z2⟩ := bl3_ hV5
    have zf : ∀ o, w5.frozen? ⟨w.heap.size + 2, o, none⟩ = false := fun o => Lib.frozen_of_heap hV5 o
    have HQ := hide (set3_all (.int .i64 xk) (.int .i64 xo) (.string xn) hV5 bb5 (Nat.le_add_right _ 2))
    go_wp2
    obtain ⟨q0, q1, q2, qb⟩ := unhide HQ
    exact bodyPost_ret (v := .tuple #[.agg #[.int .i64 xk, .int .i64 xo, .string xn], .int .i64 xe]) (by simp [results, Try.results49, go_sem, q0, q1, q2]) rfl ⟨by rw [unhide HE]; rfl, qb⟩
   ·have gh2 : (bk == 2) = false := by simpa using h2
    have C := where_any false 1 w1
    have HE : twoT 17 ⟨2, ao, an⟩ ⟨bk, bo, bn⟩ = whereT false 1 := by unfold twoT; rw [if_neg (by decide), if_pos (by decide)]; simp [h2]
    obtain ⟨x, hx⟩ : ∃ x : TR, x = whereT false 1 := ⟨_, rfl⟩
    rw [← hx] at C HE
    obtain ⟨⟨xk, xo, xn⟩, xe⟩ := x
    have HE := hide HE
    clear hx
    unfold TR.ret at C
    simp only at C
    go_wp2_with fail
    refine C.mono ?_
    clear C
    rintro e9 w5 ⟨rfl, b5⟩
    have hV5 := kept_of_below b5 k3
    have bb5 := bX.trans (b5.mono bX.size)
    obtain ⟨z0, z1, z2⟩ := bl3_ hV5
    have zf : ∀ o, w5.frozen? ⟨w.heap.size + 2, o, none⟩ = false := fun o => Lib.frozen_of_heap hV5 o
    have HQ := hide (set3_all (.int .i64 xk) (.int .i64 xo) (.string xn) hV5 bb5 (Nat.le_add_right _ 2))
    go_wp2
    obtain ⟨q0, q1, q2, qb⟩ := unhide HQ
    exact bodyPost_ret (v := .tuple #[.agg #[.int .i64 xk, .int .i64 xo, .string xn], .int .i64 xe]) (by simp [results, Try.results49, go_sem, q0, q1, q2]) rfl ⟨by rw [unhide HE]; rfl, qb⟩
  ·have gh1 : (ak == 2) = false := by simpa using h1
   have C := where_any false 1 w1
   have HE : twoT 17 ⟨ak, ao, an⟩ ⟨bk, bo, bn⟩ = whereT false 1 := by unfold twoT; rw [if_neg (by decide), if_pos (by decide)]; simp [h1]
   obtain ⟨x, hx⟩ : ∃ x : TR, x = whereT false 1 := ⟨_, rfl⟩
   rw [← hx] at C HE
   obtain ⟨⟨xk, xo, xn⟩, xe⟩ := x
   have HE := hide HE
   clear hx
   unfold TR.ret at C
   simp only at C
   go_wp2_with fail
   refine C.mono ?_
   clear C
   rintro e9 w5 ⟨rfl, b5⟩
   have hV5 := kept_of_below b5 k3
   have bb5 := bX.trans (b5.mono bX.size)
   obtain ⟨z0, z1, z2⟩ := bl3_ hV5
   have zf : ∀ o, w5.frozen? ⟨w.heap.size + 2, o, none⟩ = false := fun o => Lib.frozen_of_heap hV5 o
   have HQ := hide (set3_all (.int .i64 xk) (.int .i64 xo) (.string xn) hV5 bb5 (Nat.le_add_right _ 2))
   go_wp2
   obtain ⟨q0, q1, q2, qb⟩ := unhide HQ
   exact bodyPost_ret (v := .tuple #[.agg #[.int .i64 xk, .int .i64 xo, .string xn], .int .i64 xe]) (by simp [results, Try.results49, go_sem, q0, q1, q2]) rfl ⟨by rw [unhide HE]; rfl, qb⟩
 have g17 : (k == 17) = false := by simpa using ho
 have m17 := ho
 clear ho
 by_cases ho : k = 18
 ·subst ho
  clear g13 m13 g14 m14 g15 m15 g16 m16 g17 m17
  by_cases h1 : ak = 2
  ·subst h1
   by_cases h2 : bk = 2
   ·subst h2
    have C := where_any true 1 w1
    have HE : twoT 18 ⟨2, ao, an⟩ ⟨2, bo, bn⟩ = whereT true 1 := by unfold twoT; rw [if_neg (by decide), if_pos (by decide)]; simp
    obtain ⟨x, hx⟩ : ∃ x : TR, x = whereT true 1 := ⟨_, rfl⟩
    rw [← hx] at C HE
    obtain ⟨⟨xk, xo, xn⟩, xe⟩ := x
    have HE := hide HE
    clear hx
    unfold TR.ret at C
    simp only at C
    go_wp2_with fail
    refine C.mono ?_
    clear C
    rintro e9 w5 ⟨rfl, b5⟩
    have hV5 := kept_of_below b5 k3
    have bb5 := bX.trans (b5.mono bX.size)
    obtain ⟨z0, z1, z2⟩ := bl3_ hV5
    have zf : ∀ o, w5.frozen? ⟨w.heap.size + 2, o, none⟩ = false := fun o => Lib.frozen_of_heap hV5 o
    have HQ := hide (set3_all (.int .i64 xk) (.int .i64 xo) (.string xn) hV5 bb5 (Nat.le_add_right _ 2))
    go_wp2
    obtain ⟨q0, q1, q2, qb⟩ := unhide HQ
    exact bodyPost_ret (v := .tuple #[.agg #[.int .i64 xk, .int .i64 xo, .string xn], .int .i64 xe]) (by simp [results, Try.results49, go_sem, q0, q1, q2]) rfl ⟨by rw [unhide HE]; rfl, qb⟩
   ·have gh2 : (bk == 2) = false := by simpa using h2
    have C := where_any false 1 w1
    have HE : twoT 18 ⟨2, ao, an⟩ ⟨bk, bo, bn⟩ = whereT false 1 := by unfold twoT; rw [if_neg (by decide), if_pos (by decide)]; simp [h2]
    obtain ⟨x, hx⟩ : ∃ x : TR, x = whereT false 1 := ⟨_, rfl⟩
    rw [← hx] at C HE
    obtain ⟨⟨xk, xo, xn⟩, xe⟩ := x
    have HE := hide HE
    clear hx
    unfold TR.ret at C
    simp only at C
    go_wp2_with fail
    refine C.mono ?_
    clear C
    rintro e9 w5 ⟨rfl, b5⟩
    have hV5 := kept_of_below b5 k3
    have bb5 := bX.trans (b5.mono bX.size)
    obtain ⟨z0, z1, z2⟩ := bl3_ hV5
    have zf : ∀ o, w5.frozen? ⟨w.heap.size + 2, o, none⟩ = false := fun o => Lib.frozen_of_heap hV5 o
    have HQ := hide (set3_all (.int .i64 xk) (.int .i64 xo) (.string xn) hV5 bb5 (Nat.le_add_right _ 2))
    go_wp2
    obtain ⟨q0, q1, q2, qb⟩ := unhide HQ
    exact bodyPost_ret (v := .tuple #[.agg #[.int .i64 xk, .int .i64 xo, .string xn], .int .i64 xe]) (by simp [results, Try.results49, go_sem, q0, q1, q2]) rfl ⟨by rw [unhide HE]; rfl, qb⟩
  ·have gh1 : (ak == 2) = false := by simpa using h1
   have C := where_any false 1 w1
   have HE : twoT 18 ⟨ak, ao, an⟩ ⟨bk, bo, bn⟩ = whereT false 1 := by unfold twoT; rw [if_neg (by decide), if_pos (by decide)]; simp [h1]
   obtain ⟨x, hx⟩ : ∃ x : TR, x = whereT false 1 := ⟨_, rfl⟩
   rw [← hx] at C HE
   obtain ⟨⟨xk, xo, xn⟩, xe⟩ := x
   have HE := hide HE
   clear hx
   unfold TR.ret at C
   simp only at C
   go_wp2_with fail
   refine C.mono ?_
   clear C
   rintro e9 w5 ⟨rfl, b5⟩
   have hV5 := kept_of_below b5 k3
   have bb5 := bX.trans (b5.mono bX.size)
   obtain ⟨z0, z1, z2⟩ := bl3_ hV5
   have zf : ∀ o, w5.frozen? ⟨w.heap.size + 2, o, none⟩ = false := fun o => Lib.frozen_of_heap hV5 o
   have HQ := hide (set3_all (.int .i64 xk) (.int .i64 xo) (.string xn) hV5 bb5 (Nat.le_add_right _ 2))
   go_wp2
   obtain ⟨q0, q1, q2, qb⟩ := unhide HQ
   exact bodyPost_ret (v := .tuple #[.agg #[.int .i64 xk, .int .i64 xo, .string xn], .int .i64 xe]) (by simp [results, Try.results49, go_sem, q0, q1, q2]) rfl ⟨by rw [unhide HE]; rfl, qb⟩
 have g18 : (k == 18) = false := by simpa using ho
 have m18 := ho
 clear ho
 by_cases ho : k = 19
 ·subst ho
  clear g13 m13 g14 m14 g15 m15 g16 m16 g17 m17 g18 m18
  by_cases h1 : ak = 2
  ·subst h1
   by_cases h2 : bk = 2
   ·subst h2
    have C := where_any true 1 w1
    have HE : twoT 19 ⟨2, ao, an⟩ ⟨2, bo, bn⟩ = whereT true 1 := by unfold twoT; rw [if_neg (by decide), if_pos (by decide)]; simp
    obtain ⟨x, hx⟩ : ∃ x : TR, x = whereT true 1 := ⟨_, rfl⟩
    rw [← hx] at C HE
    obtain ⟨⟨xk, xo, xn⟩, xe⟩ := x
    have HE := hide HE
    clear hx
    unfold TR.ret at C
    simp only at C
    go_wp2_with fail
    refine C.mono ?_
    clear C
    rintro e9 w5 ⟨rfl, b5⟩
    have hV5 := kept_of_below b5 k3
    have bb5 := bX.trans (b5.mono bX.size)
    obtain ⟨z0, z1, z2⟩ := bl3_ hV5
    have zf : ∀ o, w5.frozen? ⟨w.heap.size + 2, o, none⟩ = false := fun o => Lib.frozen_of_heap hV5 o
    have HQ := hide (set3_all (.int .i64 xk) (.int .i64 xo) (.string xn) hV5 bb5 (Nat.le_add_right _ 2))
    go_wp2
    obtain ⟨q0, q1, q2, qb⟩ := unhide HQ
    exact bodyPost_ret (v := .tuple #[.agg #[.int .i64 xk, .int .i64 xo, .string xn], .int .i64 xe]) (by simp [results, Try.results49, go_sem, q0, q1, q2]) rfl ⟨by rw [unhide HE]; rfl, qb⟩
   ·have gh2 : (bk == 2) = false := by simpa using h2
    have C := where_any false 1 w1
    have HE : twoT 19 ⟨2, ao, an⟩ ⟨bk, bo, bn⟩ = whereT false 1 := by unfold twoT; rw [if_neg (by decide), if_pos (by decide)]; simp [h2]
    obtain ⟨x, hx⟩ : ∃ x : TR, x = whereT false 1 := ⟨_, rfl⟩
    rw [← hx] at C HE
    obtain ⟨⟨xk, xo, xn⟩, xe⟩ := x
    have HE := hide HE
    clear hx
    unfold TR.ret at C
    simp only at C
    go_wp2_with fail
    refine C.mono ?_
    clear C
    rintro e9 w5 ⟨rfl, b5⟩
    have hV5 := kept_of_below b5 k3
    have bb5 := bX.trans (b5.mono bX.size)
    obtain ⟨z0, z1, z2⟩ := bl3_ hV5
    have zf : ∀ o, w5.frozen? ⟨w.heap.size + 2, o, none⟩ = false := fun o => Lib.frozen_of_heap hV5 o
    have HQ := hide (set3_all (.int .i64 xk) (.int .i64 xo) (.string xn) hV5 bb5 (Nat.le_add_right _ 2))
    go_wp2
    obtain ⟨q0, q1, q2, qb⟩ := unhide HQ
    exact bodyPost_ret (v := .tuple #[.agg #[.int .i64 xk, .int .i64 xo, .string xn], .int .i64 xe]) (by simp [results, Try.results49, go_sem, q0, q1, q2]) rfl ⟨by rw [unhide HE]; rfl, qb⟩
  ·have gh1 : (ak == 2) = false := by simpa using h1
   have C := where_any false 1 w1
   have HE : twoT 19 ⟨ak, ao, an⟩ ⟨bk, bo, bn⟩ = whereT false 1 := by unfold twoT; rw [if_neg (by decide), if_pos (by decide)]; simp [h1]
   obtain ⟨x, hx⟩ : ∃ x : TR, x = whereT false 1 := ⟨_, rfl⟩
   rw [← hx] at C HE
   obtain ⟨⟨xk, xo, xn⟩, xe⟩ := x
   have HE := hide HE
   clear hx
   unfold TR.ret at C
   simp only at C
   go_wp2_with fail
   refine C.mono ?_
   clear C
   rintro e9 w5 ⟨rfl, b5⟩
   have hV5 := kept_of_below b5 k3
   have bb5 := bX.trans (b5.mono bX.size)
   obtain ⟨z0, z1, z2⟩ := bl3_ hV5
   have zf : ∀ o, w5.frozen? ⟨w.heap.size + 2, o, none⟩ = false := fun o => Lib.frozen_of_heap hV5 o
   have HQ := hide (set3_all (.int .i64 xk) (.int .i64 xo) (.string xn) hV5 bb5 (Nat.le_add_right _ 2))
   go_wp2
   obtain ⟨q0, q1, q2, qb⟩ := unhide HQ
   exact bodyPost_ret (v := .tuple #[.agg #[.int .i64 xk, .int .i64 xo, .string xn], .int .i64 xe]) (by simp [results, Try.results49, go_sem, q0, q1, q2]) rfl ⟨by rw [unhide HE]; rfl, qb⟩
 have g19 : (k == 19) = false := by simpa using ho
 have m19 := ho
 clear ho
 by_cases ho : k = 20
 ·subst ho
  clear g13 m13 g14 m14 g15 m15 g16 m16 g17 m17 g18 m18 g19 m19
  have BT := binEqlT3 ⟨ak, ao, an⟩ ⟨bk, bo, bn⟩
  simp only at BT
  by_cases h0 : (⟨ak, ao, an⟩ : T3) = ⟨bk, bo, bn⟩
  ·rw [decide_eq_true h0] at BT
   have C := where_any true 1 w1
   have HE : twoT 20 ⟨ak, ao, an⟩ ⟨bk, bo, bn⟩ = whereT true 1 := by unfold twoT; rw [if_neg (by decide), if_neg (by decide), if_pos (by decide)]; rw [decide_eq_true h0]; simp
   obtain ⟨x, hx⟩ : ∃ x : TR, x = whereT true 1 := ⟨_, rfl⟩
   rw [← hx] at C HE
   obtain ⟨⟨xk, xo, xn⟩, xe⟩ := x
   have HE := hide HE
   clear hx
   unfold TR.ret at C
   simp only at C
   go_wp2_with fail
   refine C.mono ?_
   clear C
   rintro e9 w5 ⟨rfl, b5⟩
   have hV5 := kept_of_below b5 k3
   have bb5 := bX.trans (b5.mono bX.size)
   obtain ⟨z0, z1, z2⟩ := bl3_ hV5
   have zf : ∀ o, w5.frozen? ⟨w.heap.size + 2, o, none⟩ = false := fun o => Lib.frozen_of_heap hV5 o
   have HQ := hide (set3_all (.int .i64 xk) (.int .i64 xo) (.string xn) hV5 bb5 (Nat.le_add_right _ 2))
   go_wp2
   obtain ⟨q0, q1, q2, qb⟩ := unhide HQ
   exact bodyPost_ret (v := .tuple #[.agg #[.int .i64 xk, .int .i64 xo, .string xn], .int .i64 xe]) (by simp [results, Try.results49, go_sem, q0, q1, q2]) rfl ⟨by rw [unhide HE]; rfl, qb⟩
  ·rw [decide_eq_false h0] at BT
   by_cases h1 : ak = 4
   ·subst h1
    by_cases h2 : bk = 4
    ·subst h2
     have C := where_any true 1 w1
     have HE : twoT 20 ⟨4, ao, an⟩ ⟨4, bo, bn⟩ = whereT true 1 := by unfold twoT; rw [if_neg (by decide), if_neg (by decide), if_pos (by decide)]; rw [decide_eq_false h0]; simp
     obtain ⟨x, hx⟩ : ∃ x : TR, x = whereT true 1 := ⟨_, rfl⟩
     rw [← hx] at C HE
     obtain ⟨⟨xk, xo, xn⟩, xe⟩ := x
     have HE := hide HE
     clear hx
     unfold TR.ret at C
     simp only at C
     go_wp2_with fail
     refine C.mono ?_
     clear C
     rintro e9 w5 ⟨rfl, b5⟩
     have hV5 := kept_of_below b5 k3
     have bb5 := bX.trans (b5.mono bX.size)
     obtain ⟨z0, z1, z2⟩ := bl3_ hV5
     have zf : ∀ o, w5.frozen? ⟨w.heap.size + 2, o, none⟩ = false := fun o => Lib.frozen_of_heap hV5 o
     have HQ := hide (set3_all (.int .i64 xk) (.int .i64 xo) (.string xn) hV5 bb5 (Nat.le_add_right _ 2))
     go_wp2
     obtain ⟨q0, q1, q2, qb⟩ := unhide HQ
     exact bodyPost_ret (v := .tuple #[.agg #[.int .i64 xk, .int .i64 xo, .string xn], .int .i64 xe]) (by simp [results, Try.results49, go_sem, q0, q1, q2]) rfl ⟨by rw [unhide HE]; rfl, qb⟩
    ·have gh2 : (bk == 4) = false := by simpa using h2
     have C := where_any false 1 w1
     have HE : twoT 20 ⟨4, ao, an⟩ ⟨bk, bo, bn⟩ = whereT false 1 := by unfold twoT; rw [if_neg (by decide), if_neg (by decide), if_pos (by decide)]; rw [decide_eq_false h0]; simp [h2]
     obtain ⟨x, hx⟩ : ∃ x : TR, x = whereT false 1 := ⟨_, rfl⟩
     rw [← hx] at C HE
     obtain ⟨⟨xk, xo, xn⟩, xe⟩ := x
     have HE := hide HE
     clear hx
     unfold TR.ret at C
     simp only at C
     go_wp2_with fail
     refine C.mono ?_
     clear C
     rintro e9 w5 ⟨rfl, b5⟩
     have hV5 := kept_of_below b5 k3
     have bb5 := bX.trans (b5.mono bX.size)
     obtain ⟨z0, z1, z2⟩ := bl3_ hV5
     have zf : ∀ o, w5.frozen? ⟨w.heap.size + 2, o, none⟩ = false := fun o => Lib.frozen_of_heap hV5 o
     have HQ := hide (set3_all (.int .i64 xk) (.int .i64 xo) (.string xn) hV5 bb5 (Nat.le_add_right _ 2))
     go_wp2
     obtain ⟨q0, q1, q2, qb⟩ := unhide HQ
     exact bodyPost_ret (v := .tuple #[.agg #[.int .i64 xk, .int .i64 xo, .string xn], .int .i64 xe]) (by simp [results, Try.results49, go_sem, q0, q1, q2]) rfl ⟨by rw [unhide HE]; rfl, qb⟩
   ·have gh1 : (ak == 4) = false := by simpa using h1
    have C := where_any false 1 w1
    have HE : twoT 20 ⟨ak, ao, an⟩ ⟨bk, bo, bn⟩ = whereT false 1 := by unfold twoT; rw [if_neg (by decide), if_neg (by decide), if_pos (by decide)]; rw [decide_eq_false h0]; simp [h1]
    obtain ⟨x, hx⟩ : ∃ x : TR, x = whereT false 1 := ⟨_, rfl⟩
    rw [← hx] at C HE
    obtain ⟨⟨xk, xo, xn⟩, xe⟩ := x
    have HE := hide HE
    clear hx
    unfold TR.ret at C
    simp only at C
    go_wp2_with fail
    refine C.mono ?_
    clear C
    rintro e9 w5 ⟨rfl, b5⟩
    have hV5 := kept_of_below b5 k3
    have bb5 := bX.trans (b5.mono bX.size)
    obtain ⟨z0, z1, z2⟩ := bl3_ hV5
    have zf : ∀ o, w5.frozen? ⟨w.heap.size + 2, o, none⟩ = false := fun o => Lib.frozen_of_heap hV5 o
    have HQ := hide (set3_all (.int .i64 xk) (.int .i64 xo) (.string xn) hV5 bb5 (Nat.le_add_right _ 2))
    go_wp2
    obtain ⟨q0, q1, q2, qb⟩ := unhide HQ
    exact bodyPost_ret (v := .tuple #[.agg #[.int .i64 xk, .int .i64 xo, .string xn], .int .i64 xe]) (by simp [results, Try.results49, go_sem, q0, q1, q2]) rfl ⟨by rw [unhide HE]; rfl, qb⟩
 have g20 : (k == 20) = false := by simpa using ho
 have m20 := ho
 clear ho
 by_cases ho : k = 21
 ·subst ho
  clear g13 m13 g14 m14 g15 m15 g16 m16 g17 m17 g18 m18 g19 m19 g20 m20
  have BT := binEqlT3 ⟨ak, ao, an⟩ ⟨bk, bo, bn⟩
  simp only at BT
  by_cases h0 : (⟨ak, ao, an⟩ : T3) = ⟨bk, bo, bn⟩
  ·rw [decide_eq_true h0] at BT
   have C := where_any true 1 w1
   have HE : twoT 21 ⟨ak, ao, an⟩ ⟨bk, bo, bn⟩ = whereT true 1 := by unfold twoT; rw [if_neg (by decide), if_neg (by decide), if_pos (by decide)]; rw [decide_eq_true h0]; simp
   obtain ⟨x, hx⟩ : ∃ x : TR, x = whereT true 1 := ⟨_, rfl⟩
   rw [← hx] at C HE
   obtain ⟨⟨xk, xo, xn⟩, xe⟩ := x
   have HE := hide HE
   clear hx
   unfold TR.ret at C
   simp only at C
   go_wp2_with fail
   refine C.mono ?_
   clear C
   rintro e9 w5 ⟨rfl, b5⟩
   have hV5 := kept_of_below b5 k3
   have bb5 := bX.trans (b5.mono bX.size)
   obtain ⟨z0, z1, z2⟩ := bl3_ hV5
   have zf : ∀ o, w5.frozen? ⟨w.heap.size + 2, o, none⟩ = false := fun o => Lib.frozen_of_heap hV5 o
   have HQ := hide (set3_all (.int .i64 xk) (.int .i64 xo) (.string xn) hV5 bb5 (Nat.le_add_right _ 2))
   go_wp2
   obtain ⟨q0, q1, q2, qb⟩ := unhide HQ
   exact bodyPost_ret (v := .tuple #[.agg #[.int .i64 xk, .int .i64 xo, .string xn], .int .i64 xe]) (by simp [results, Try.results49, go_sem, q0, q1, q2]) rfl ⟨by rw [unhide HE]; rfl, qb⟩
  ·rw [decide_eq_false h0] at BT
   by_cases h1 : ak = 4
   ·subst h1
    by_cases h2 : bk = 4
    ·subst h2
     have C := where_any true 1 w1
     have HE : twoT 21 ⟨4, ao, an⟩ ⟨4, bo, bn⟩ = whereT true 1 := by unfold twoT; rw [if_neg (by decide), if_neg (by decide), if_pos (by decide)]; rw [decide_eq_false h0]; simp
     obtain ⟨x, hx⟩ : ∃ x : TR, x = whereT true 1 := ⟨_, rfl⟩
     rw [← hx] at C HE
     obtain ⟨⟨xk, xo, xn⟩, xe⟩ := x
     have HE := hide HE
     clear hx
     unfold TR.ret at C
     simp only at C
     go_wp2_with fail
     refine C.mono ?_
     clear C
     rintro e9 w5 ⟨rfl, b5⟩
     have hV5 := kept_of_below b5 k3
     have bb5 := bX.trans (b5.mono bX.size)
     obtain ⟨z0, z1, z2⟩ := bl3_ hV5
     have zf : ∀ o, w5.frozen? ⟨w.heap.size + 2, o, none⟩ = false := fun o => Lib.frozen_of_heap hV5 o
     have HQ := hide (set3_all (.int .i64 xk) (.int .i64 xo) (.string xn) hV5 bb5 (Nat.le_add_right _ 2))
     go_wp2
     obtain ⟨q0, q1, q2, qb⟩ := unhide HQ
     exact bodyPost_ret (v := .tuple #[.agg #[.int .i64 xk, .int .i64 xo, .string xn], .int .i64 xe]) (by simp [results, Try.results49, go_sem, q0, q1, q2]) rfl ⟨by rw [unhide HE]; rfl, qb⟩
    ·have gh2 : (bk == 4) = false := by simpa using h2
     have C := where_any false 1 w1
     have HE : twoT 21 ⟨4, ao, an⟩ ⟨bk, bo, bn⟩ = whereT false 1 := by unfold twoT; rw [if_neg (by decide), if_neg (by decide), if_pos (by decide)]; rw [decide_eq_false h0]; simp [h2]
     obtain ⟨x, hx⟩ : ∃ x : TR, x = whereT false 1 := ⟨_, rfl⟩
     rw [← hx] at C HE
     obtain ⟨⟨xk, xo, xn⟩, xe⟩ := x
     have HE := hide HE
     clear hx
     unfold TR.ret at C
     simp only at C
     go_wp2_with fail
     refine C.mono ?_
     clear C
     rintro e9 w5 ⟨rfl, b5⟩
     have hV5 := kept_of_below b5 k3
     have bb5 := bX.trans (b5.mono bX.size)
     obtain ⟨z0, z1, z2⟩ := bl3_ hV5
     have zf : ∀ o, w5.frozen? ⟨w.heap.size + 2, o, none⟩ = false := fun o => Lib.frozen_of_heap hV5 o
     have HQ := hide (set3_all (.int .i64 xk) (.int .i64 xo) (.string xn) hV5 bb5 (Nat.le_add_right _ 2))
     go_wp2
     obtain ⟨q0, q1, q2, qb⟩ := unhide HQ
     exact bodyPost_ret (v := .tuple #[.agg #[.int .i64 xk, .int .i64 xo, .string xn], .int .i64 xe]) (by simp [results, Try.results49, go_sem, q0, q1, q2]) rfl ⟨by rw [unhide HE]; rfl, qb⟩
   ·have gh1 : (ak == 4) = false := by simpa using h1
    have C := where_any false 1 w1
    have HE : twoT 21 ⟨ak, ao, an⟩ ⟨bk, bo, bn⟩ = whereT false 1 := by unfold twoT; rw [if_neg (by decide), if_neg (by decide), if_pos (by decide)]; rw [decide_eq_false h0]; simp [h1]
    obtain ⟨x, hx⟩ : ∃ x : TR, x = whereT false 1 := ⟨_, rfl⟩
    rw [← hx] at C HE
    obtain ⟨⟨xk, xo, xn⟩, xe⟩ := x
    have HE := hide HE
    clear hx
    unfold TR.ret at C
    simp only at C
    go_wp2_with fail
    refine C.mono ?_
    clear C
    rintro e9 w5 ⟨rfl, b5⟩
    have hV5 := kept_of_below b5 k3
    have bb5 := bX.trans (b5.mono bX.size)
    obtain ⟨z0, z1, z2⟩ := bl3_ hV5
    have zf : ∀ o, w5.frozen? ⟨w.heap.size + 2, o, none⟩ = false := fun o => Lib.frozen_of_heap hV5 o
    have HQ := hide (set3_all (.int .i64 xk) (.int .i64 xo) (.string xn) hV5 bb5 (Nat.le_add_right _ 2))
    go_wp2
    obtain ⟨q0, q1, q2, qb⟩ := unhide HQ
    exact bodyPost_ret (v := .tuple #[.agg #[.int .i64 xk, .int .i64 xo, .string xn], .int .i64 xe]) (by simp [results, Try.results49, go_sem, q0, q1, q2]) rfl ⟨by rw [unhide HE]; rfl, qb⟩
 have g21 : (k == 21) = false := by simpa using ho
 have m21 := ho
 clear ho
 by_cases ho : k = 22
 ·subst ho
  clear g13 m13 g14 m14 g15 m15 g16 m16 g17 m17 g18 m18 g19 m19 g20 m20 g21 m21
  by_cases h1 : ak = 4
  ·subst h1
   by_cases h2 : bk = 4
   ·subst h2
    have C := where_any true 1 w1
    have HE : twoT 22 ⟨4, ao, an⟩ ⟨4, bo, bn⟩ = whereT true 1 := by unfold twoT; rw [if_neg (by decide), if_neg (by decide), if_neg (by decide), if_pos (by decide)]; simp
    obtain ⟨x, hx⟩ : ∃ x : TR, x = whereT true 1 := ⟨_, rfl⟩
    rw [← hx] at C HE
    obtain ⟨⟨xk, xo, xn⟩, xe⟩ := x
    have HE := hide HE
    clear hx
    unfold TR.ret at C
    simp only at C
    go_wp2_with fail
    refine C.mono ?_
    clear C
    rintro e9 w5 ⟨rfl, b5⟩
    have hV5 := kept_of_below b5 k3
    have bb5 := bX.trans (b5.mono bX.size)
    obtain ⟨z0, z1, z2⟩ := bl3_ hV5
    have zf : ∀ o, w5.frozen? ⟨w.heap.size + 2, o, none⟩ = false := fun o => Lib.frozen_of_heap hV5 o
    have HQ := hide (set3_all (.int .i64 xk) (.int .i64 xo) (.string xn) hV5 bb5 (Nat.le_add_right _ 2))
    go_wp2
    obtain ⟨q0, q1, q2, qb⟩ := unhide HQ
    exact bodyPost_ret (v := .tuple #[.agg #[.int .i64 xk, .int .i64 xo, .string xn], .int .i64 xe]) (by simp [results, Try.results49, go_sem, q0, q1, q2]) rfl ⟨by rw [unhide HE]; rfl, qb⟩
   ·have gh2 : (bk == 4) = false := by simpa using h2
    by_cases h3 : bk = 5
    ·subst h3
     clear h2 gh2
     by_cases h4 : bo = 4
     ·subst h4
      have C := where_any true 1 w1
      have HE : twoT 22 ⟨4, ao, an⟩ ⟨5, 4, bn⟩ = whereT true 1 := by unfold twoT; rw [if_neg (by decide), if_neg (by decide), if_neg (by decide), if_pos (by decide)]; simp
      obtain ⟨x, hx⟩ : ∃ x : TR, x = whereT true 1 := ⟨_, rfl⟩
      rw [← hx] at C HE
      obtain ⟨⟨xk, xo, xn⟩, xe⟩ := x
      have HE := hide HE
      clear hx
      unfold TR.ret at C
      simp only at C
      go_wp2_with fail
      refine C.mono ?_
      clear C
      rintro e9 w5 ⟨rfl, b5⟩
      have hV5 := kept_of_below b5 k3
      have bb5 := bX.trans (b5.mono bX.size)
      obtain ⟨z0, z1, z2⟩ := bl3_ hV5
      have zf : ∀ o, w5.frozen? ⟨w.heap.size + 2, o, none⟩ = false := fun o => Lib.frozen_of_heap hV5 o
      have HQ := hide (set3_all (.int .i64 xk) (.int .i64 xo) (.string xn) hV5 bb5 (Nat.le_add_right _ 2))
      go_wp2
      obtain ⟨q0, q1, q2, qb⟩ := unhide HQ
      exact bodyPost_ret (v := .tuple #[.agg #[.int .i64 xk, .int .i64 xo, .string xn], .int .i64 xe]) (by simp [results, Try.results49, go_sem, q0, q1, q2]) rfl ⟨by rw [unhide HE]; rfl, qb⟩
     ·have gh4 : (bo == 4) = false := by simpa using h4
      have C := where_any false 1 w1
      have HE : twoT 22 ⟨4, ao, an⟩ ⟨5, bo, bn⟩ = whereT false 1 := by unfold twoT; rw [if_neg (by decide), if_neg (by decide), if_neg (by decide), if_pos (by decide)]; simp [h4]
      obtain ⟨x, hx⟩ : ∃ x : TR, x = whereT false 1 := ⟨_, rfl⟩
      rw [← hx] at C HE
      obtain ⟨⟨xk, xo, xn⟩, xe⟩ := x
      have HE := hide HE
      clear hx
      unfold TR.ret at C
      simp only at C
      go_wp2_with fail
      refine C.mono ?_
      clear C
      rintro e9 w5 ⟨rfl, b5⟩
      have hV5 := kept_of_below b5 k3
      have bb5 := bX.trans (b5.mono bX.size)
      obtain ⟨z0, z1, z2⟩ := bl3_ hV5
      have zf : ∀ o, w5.frozen? ⟨w.heap.size + 2, o, none⟩ = false := fun o => Lib.frozen_of_heap hV5 o
      have HQ := hide (set3_all (.int .i64 xk) (.int .i64 xo) (.string xn) hV5 bb5 (Nat.le_add_right _ 2))
      go_wp2
      obtain ⟨q0, q1, q2, qb⟩ := unhide HQ
      exact bodyPost_ret (v := .tuple #[.agg #[.int .i64 xk, .int .i64 xo, .string xn], .int .i64 xe]) (by simp [results, Try.results49, go_sem, q0, q1, q2]) rfl ⟨by rw [unhide HE]; rfl, qb⟩
    ·have gh3 : (bk == 5) = false := by simpa using h3
     have C := where_any false 1 w1
     have HE : twoT 22 ⟨4, ao, an⟩ ⟨bk, bo, bn⟩ = whereT false 1 := by unfold twoT; rw [if_neg (by decide), if_neg (by decide), if_neg (by decide), if_pos (by decide)]; simp [h2, h3]
     obtain ⟨x, hx⟩ : ∃ x : TR, x = whereT false 1 := ⟨_, rfl⟩
     rw [← hx] at C HE
     obtain ⟨⟨xk, xo, xn⟩, xe⟩ := x
     have HE := hide HE
     clear hx
     unfold TR.ret at C
     simp only at C
     go_wp2_with fail
     refine C.mono ?_
     clear C
     rintro e9 w5 ⟨rfl, b5⟩
     have hV5 := kept_of_below b5 k3
     have bb5 := bX.trans (b5.mono bX.size)
     obtain ⟨z0, z1, z2⟩ := bl3_ hV5
     have zf : ∀ o, w5.frozen? ⟨w.heap.size + 2, o, none⟩ = false := fun o => Lib.frozen_of_heap hV5 o
     have HQ := hide (set3_all (.int .i64 xk) (.int .i64 xo) (.string xn) hV5 bb5 (Nat.le_add_right _ 2))
     go_wp2
     obtain ⟨q0, q1, q2, qb⟩ := unhide HQ
     exact bodyPost_ret (v := .tuple #[.agg #[.int .i64 xk, .int .i64 xo, .string xn], .int .i64 xe]) (by simp [results, Try.results49, go_sem, q0, q1, q2]) rfl ⟨by rw [unhide HE]; rfl, qb⟩
  ·have gh1 : (ak == 4) = false := by simpa using h1
   have C := where_any false 1 w1
   have HE : twoT 22 ⟨ak, ao, an⟩ ⟨bk, bo, bn⟩ = whereT false 1 := by unfold twoT; rw [if_neg (by decide), if_neg (by decide), if_neg (by decide), if_pos (by decide)]; simp [h1]
   obtain ⟨x, hx⟩ : ∃ x : TR, x = whereT false 1 := ⟨_, rfl⟩
   rw [← hx] at C HE
   obtain ⟨⟨xk, xo, xn⟩, xe⟩ := x
   have HE := hide HE
   clear hx
   unfold TR.ret at C
   simp only at C
   go_wp2_with fail
   refine C.mono ?_
   clear C
   rintro e9 w5 ⟨rfl, b5⟩
   have hV5 := kept_of_below b5 k3
   have bb5 := bX.trans (b5.mono bX.size)
   obtain ⟨z0, z1, z2⟩ := bl3_ hV5
   have zf : ∀ o, w5.frozen? ⟨w.heap.size + 2, o, none⟩ = false := fun o => Lib.frozen_of_heap hV5 o
   have HQ := hide (set3_all (.int .i64 xk) (.int .i64 xo) (.string xn) hV5 bb5 (Nat.le_add_right _ 2))
   go_wp2
   obtain ⟨q0, q1, q2, qb⟩ := unhide HQ
   exact bodyPost_ret (v := .tuple #[.agg #[.int .i64 xk, .int .i64 xo, .string xn], .int .i64 xe]) (by simp [results, Try.results49, go_sem, q0, q1, q2]) rfl ⟨by rw [unhide HE]; rfl, qb⟩
 have g22 : (k == 22) = false := by simpa using ho
 have m22 := ho
 clear ho
 by_cases ho : k = 9
 ·subst ho
  clear g13 m13 g14 m14 g15 m15 g16 m16 g17 m17 g18 m18 g19 m19 g20 m20 g21 m21 g22 m22
  by_cases h1 : ak = 5
  ·subst h1
   have BT := binEqlT3 ⟨bk, bo, bn⟩ ⟨ao, 0, an⟩
   simp only at BT
   by_cases h0 : (⟨bk, bo, bn⟩ : T3) = ⟨ao, 0, an⟩
   ·rw [decide_eq_true h0] at BT
    have C := where_any true 1 w1
    have HE : twoT 9 ⟨5, ao, an⟩ ⟨bk, bo, bn⟩ = whereT true 1 := by unfold twoT; rw [if_neg (by decide), if_neg (by decide), if_neg (by decide), if_neg (by decide), if_pos (by decide)]; rw [decide_eq_true h0]; simp
    obtain ⟨x, hx⟩ : ∃ x : TR, x = whereT true 1 := ⟨_, rfl⟩
    rw [← hx] at C HE
    obtain ⟨⟨xk, xo, xn⟩, xe⟩ := x
    have HE := hide HE
    clear hx
    unfold TR.ret at C
    simp only at C
    go_wp2_with fail
    refine C.mono ?_
    clear C
    rintro e9 w5 ⟨rfl, b5⟩
    have hV5 := kept_of_below b5 k3
    have bb5 := bX.trans (b5.mono bX.size)
    obtain ⟨z0, z1, z2⟩ := bl3_ hV5
    have zf : ∀ o, w5.frozen? ⟨w.heap.size + 2, o, none⟩ = false := fun o => Lib.frozen_of_heap hV5 o
    have HQ := hide (set3_all (.int .i64 xk) (.int .i64 xo) (.string xn) hV5 bb5 (Nat.le_add_right _ 2))
    go_wp2
    obtain ⟨q0, q1, q2, qb⟩ := unhide HQ
    exact bodyPost_ret (v := .tuple #[.agg #[.int .i64 xk, .int .i64 xo, .string xn], .int .i64 xe]) (by simp [results, Try.results49, go_sem, q0, q1, q2]) rfl ⟨by rw [unhide HE]; rfl, qb⟩
   ·rw [decide_eq_false h0] at BT
    have C := where_any false 1 w1
    have HE : twoT 9 ⟨5, ao, an⟩ ⟨bk, bo, bn⟩ = whereT false 1 := by unfold twoT; rw [if_neg (by decide), if_neg (by decide), if_neg (by decide), if_neg (by decide), if_pos (by decide)]; rw [decide_eq_false h0]; simp
    obtain ⟨x, hx⟩ : ∃ x : TR, x = whereT false 1 := ⟨_, rfl⟩
    rw [← hx] at C HE
    obtain ⟨⟨xk, xo, xn⟩, xe⟩ := x
    have HE := hide HE
    clear hx
    unfold TR.ret at C
    simp only at C
    go_wp2_with fail
    refine C.mono ?_
    clear C
    rintro e9 w5 ⟨rfl, b5⟩
    have hV5 := kept_of_below b5 k3
    have bb5 := bX.trans (b5.mono bX.size)
    obtain ⟨z0, z1, z2⟩ := bl3_ hV5
    have zf : ∀ o, w5.frozen? ⟨w.heap.size + 2, o, none⟩ = false := fun o => Lib.frozen_of_heap hV5 o
    have HQ := hide (set3_all (.int .i64 xk) (.int .i64 xo) (.string xn) hV5 bb5 (Nat.le_add_right _ 2))
    go_wp2
    obtain ⟨q0, q1, q2, qb⟩ := unhide HQ
    exact bodyPost_ret (v := .tuple #[.agg #[.int .i64 xk, .int .i64 xo, .string xn], .int .i64 xe]) (by simp [results, Try.results49, go_sem, q0, q1, q2]) rfl ⟨by rw [unhide HE]; rfl, qb⟩
  ·have gh1 : (ak == 5) = false := by simpa using h1
   have C := where_any false 1 w1
   have HE : twoT 9 ⟨ak, ao, an⟩ ⟨bk, bo, bn⟩ = whereT false 1 := by unfold twoT; rw [if_neg (by decide), if_neg (by decide), if_neg (by decide), if_neg (by decide), if_pos (by decide)]; simp [h1]
   obtain ⟨x, hx⟩ : ∃ x : TR, x = whereT false 1 := ⟨_, rfl⟩
   rw [← hx] at C HE
   obtain ⟨⟨xk, xo, xn⟩, xe⟩ := x
   have HE := hide HE
   clear hx
   unfold TR.ret at C
   simp only at C
   go_wp2_with fail
   refine C.mono ?_
   clear C
   rintro e9 w5 ⟨rfl, b5⟩
   have hV5 := kept_of_below b5 k3
   have bb5 := bX.trans (b5.mono bX.size)
   obtain ⟨z0, z1, z2⟩ := bl3_ hV5
   have zf : ∀ o, w5.frozen? ⟨w.heap.size + 2, o, none⟩ = false := fun o => Lib.frozen_of_heap hV5 o
   have HQ := hide (set3_all (.int .i64 xk) (.int .i64 xo) (.string xn) hV5 bb5 (Nat.le_add_right _ 2))
   go_wp2
   obtain ⟨q0, q1, q2, qb⟩ := unhide HQ
   exact bodyPost_ret (v := .tuple #[.agg #[.int .i64 xk, .int .i64 xo, .string xn], .int .i64 xe]) (by simp [results, Try.results49, go_sem, q0, q1, q2]) rfl ⟨by rw [unhide HE]; rfl, qb⟩
 have g9 : (k == 9) = false := by simpa using ho
 have m9 := ho
 clear ho
 by_cases ho : k = 23
 ·subst ho
  clear g13 m13 g14 m14 g15 m15 g16 m16 g17 m17 g18 m18 g19 m19 g20 m20 g21 m21 g22 m22 g9 m9
  by_cases h1 : ak = 1
  ·subst h1
   by_cases h2 : bk = 1
   ·subst h2
    have C := where_any true 1 w1
    have HE : twoT 23 ⟨1, ao, an⟩ ⟨1, bo, bn⟩ = whereT true 1 := by unfold twoT; rw [if_neg (by decide), if_neg (by decide), if_neg (by decide), if_neg (by decide), if_neg (by decide), if_pos (by decide)]; simp
    obtain ⟨x, hx⟩ : ∃ x : TR, x = whereT true 1 := ⟨_, rfl⟩
    rw [← hx] at C HE
    obtain ⟨⟨xk, xo, xn⟩, xe⟩ := x
    have HE := hide HE
    clear hx
    unfold TR.ret at C
    simp only at C
    go_wp2_with fail
    refine C.mono ?_
    clear C
    rintro e9 w5 ⟨rfl, b5⟩
    have hV5 := kept_of_below b5 k3
    have bb5 := bX.trans (b5.mono bX.size)
    obtain ⟨z0, z1, z2⟩ := bl3_ hV5
    have zf : ∀ o, w5.frozen? ⟨w.heap.size + 2, o, none⟩ = false := fun o => Lib.frozen_of_heap hV5 o
    have HQ := hide (set3_all (.int .i64 xk) (.int .i64 xo) (.string xn) hV5 bb5 (Nat.le_add_right _ 2))
    go_wp2
    obtain ⟨q0, q1, q2, qb⟩ := unhide HQ
    exact bodyPost_ret (v := .tuple #[.agg #[.int .i64 xk, .int .i64 xo, .string xn], .int .i64 xe]) (by simp [results, Try.results49, go_sem, q0, q1, q2]) rfl ⟨by rw [unhide HE]; rfl, qb⟩
   ·have gh2 : (bk == 1) = false := by simpa using h2
    have C := where_any false 1 w1
    have HE : twoT 23 ⟨1, ao, an⟩ ⟨bk, bo, bn⟩ = whereT false 1 := by unfold twoT; rw [if_neg (by decide), if_neg (by decide), if_neg (by decide), if_neg (by decide), if_neg (by decide), if_pos (by decide)]; simp [h2]
    obtain ⟨x, hx⟩ : ∃ x : TR, x = whereT false 1 := ⟨_, rfl⟩
    rw [← hx] at C HE
    obtain ⟨⟨xk, xo, xn⟩, xe⟩ := x
    have HE := hide HE
    clear hx
    unfold TR.ret at C
    simp only at C
    go_wp2_with fail
    refine C.mono ?_
    clear C
    rintro e9 w5 ⟨rfl, b5⟩
    have hV5 := kept_of_below b5 k3
    have bb5 := bX.trans (b5.mono bX.size)
    obtain ⟨z0, z1, z2⟩ := bl3_ hV5
    have zf : ∀ o, w5.frozen? ⟨w.heap.size + 2, o, none⟩ = false := fun o => Lib.frozen_of_heap hV5 o
    have HQ := hide (set3_all (.int .i64 xk) (.int .i64 xo) (.string xn) hV5 bb5 (Nat.le_add_right _ 2))
    go_wp2
    obtain ⟨q0, q1, q2, qb⟩ := unhide HQ
    exact bodyPost_ret (v := .tuple #[.agg #[.int .i64 xk, .int .i64 xo, .string xn], .int .i64 xe]) (by simp [results, Try.results49, go_sem, q0, q1, q2]) rfl ⟨by rw [unhide HE]; rfl, qb⟩
  ·have gh1 : (ak == 1) = false := by simpa using h1
   have C := where_any false 1 w1
   have HE : twoT 23 ⟨ak, ao, an⟩ ⟨bk, bo, bn⟩ = whereT false 1 := by unfold twoT; rw [if_neg (by decide), if_neg (by decide), if_neg (by decide), if_neg (by decide), if_neg (by decide), if_pos (by decide)]; simp [h1]
   obtain ⟨x, hx⟩ : ∃ x : TR, x = whereT false 1 := ⟨_, rfl⟩
   rw [← hx] at C HE
   obtain ⟨⟨xk, xo, xn⟩, xe⟩ := x
   have HE := hide HE
   clear hx
   unfold TR.ret at C
   simp only at C
   go_wp2_with fail
   refine C.mono ?_
   clear C
   rintro e9 w5 ⟨rfl, b5⟩
   have hV5 := kept_of_below b5 k3
   have bb5 := bX.trans (b5.mono bX.size)
   obtain ⟨z0, z1, z2⟩ := bl3_ hV5
   have zf : ∀ o, w5.frozen? ⟨w.heap.size + 2, o, none⟩ = false := fun o => Lib.frozen_of_heap hV5 o
   have HQ := hide (set3_all (.int .i64 xk) (.int .i64 xo) (.string xn) hV5 bb5 (Nat.le_add_right _ 2))
   go_wp2
   obtain ⟨q0, q1, q2, qb⟩ := unhide HQ
   exact bodyPost_ret (v := .tuple #[.agg #[.int .i64 xk, .int .i64 xo, .string xn], .int .i64 xe]) (by simp [results, Try.results49, go_sem, q0, q1, q2]) rfl ⟨by rw [unhide HE]; rfl, qb⟩
 have g23 : (k == 23) = false := by simpa using ho
 have m23 := ho
 clear ho
 by_cases ho : k = 24
 ·subst ho
  clear g13 m13 g14 m14 g15 m15 g16 m16 g17 m17 g18 m18 g19 m19 g20 m20 g21 m21 g22 m22 g9 m9 g23 m23
  by_cases h1 : ak = 1
  ·subst h1
   by_cases h2 : bk = 1
   ·subst h2
    have C := where_any true 1 w1
    have HE : twoT 24 ⟨1, ao, an⟩ ⟨1, bo, bn⟩ = whereT true 1 := by unfold twoT; rw [if_neg (by decide), if_neg (by decide), if_neg (by decide), if_neg (by decide), if_neg (by decide), if_pos (by decide)]; simp
    obtain ⟨x, hx⟩ : ∃ x : TR, x = whereT true 1 := ⟨_, rfl⟩
    rw [← hx] at C HE
    obtain ⟨⟨xk, xo, xn⟩, xe⟩ := x
    have HE := hide HE
    clear hx
    unfold TR.ret at C
    simp only at C
    go_wp2_with fail
    refine C.mono ?_
    clear C
    rintro e9 w5 ⟨rfl, b5⟩
    have hV5 := kept_of_below b5 k3
    have bb5 := bX.trans (b5.mono bX.size)
    obtain ⟨z0, z1, z2⟩ := bl3_ hV5
    have zf : ∀ o, w5.frozen? ⟨w.heap.size + 2, o, none⟩ = false := fun o => Lib.frozen_of_heap hV5 o
    have HQ := hide (set3_all (.int .i64 xk) (.int .i64 xo) (.string xn) hV5 bb5 (Nat.le_add_right _ 2))
    go_wp2
    obtain ⟨q0, q1, q2, qb⟩ := unhide HQ
    exact bodyPost_ret (v := .tuple #[.agg #[.int .i64 xk, .int .i64 xo, .string xn], .int .i64 xe]) (by simp [results, Try.results49, go_sem, q0, q1, q2]) rfl ⟨by rw [unhide HE]; rfl, qb⟩
   ·have gh2 : (bk == 1) = false := by simpa using h2
    have C := where_any false 1 w1
    have HE : twoT 24 ⟨1, ao, an⟩ ⟨bk, bo, bn⟩ = whereT false 1 := by unfold twoT; rw [if_neg (by decide), if_neg (by decide), if_neg (by decide), if_neg (by decide), if_neg (by decide), if_pos (by decide)]; simp [h2]
    obtain ⟨x, hx⟩ : ∃ x : TR, x = whereT false 1 := ⟨_, rfl⟩
    rw [← hx] at C HE
    obtain ⟨⟨xk, xo, xn⟩, xe⟩ := x
    have HE := hide HE
    clear hx
    unfold TR.ret at C
    simp only at C
    go_wp2_with fail
    refine C.mono ?_
    clear C
    rintro e9 w5 ⟨rfl, b5⟩
    have hV5 := kept_of_below b5 k3
    have bb5 := bX.trans (b5.mono bX.size)
    obtain ⟨z0, z1, z2⟩ := bl3_ hV5
    have zf : ∀ o, w5.frozen? ⟨w.heap.size + 2, o, none⟩ = false := fun o => Lib.frozen_of_heap hV5 o
    have HQ := hide (set3_all (.int .i64 xk) (.int .i64 xo) (.string xn) hV5 bb5 (Nat.le_add_right _ 2))
    go_wp2
    obtain ⟨q0, q1, q2, qb⟩ := unhide HQ
    exact bodyPost_ret (v := .tuple #[.agg #[.int .i64 xk, .int .i64 xo, .string xn], .int .i64 xe]) (by simp [results, Try.results49, go_sem, q0, q1, q2]) rfl ⟨by rw [unhide HE]; rfl, qb⟩
  ·have gh1 : (ak == 1) = false := by simpa using h1
   have C := where_any false 1 w1
   have HE : twoT 24 ⟨ak, ao, an⟩ ⟨bk, bo, bn⟩ = whereT false 1 := by unfold twoT; rw [if_neg (by decide), if_neg (by decide), if_neg (by decide), if_neg (by decide), if_neg (by decide), if_pos (by decide)]; simp [h1]
   obtain ⟨x, hx⟩ : ∃ x : TR, x = whereT false 1 := ⟨_, rfl⟩
   rw [← hx] at C HE
   obtain ⟨⟨xk, xo, xn⟩, xe⟩ := x
   have HE := hide HE
   clear hx
   unfold TR.ret at C
   simp only at C
   go_wp2_with fail
   refine C.mono ?_
   clear C
   rintro e9 w5 ⟨rfl, b5⟩
   have hV5 := kept_of_below b5 k3
   have bb5 := bX.trans (b5.mono bX.size)
   obtain ⟨z0, z1, z2⟩ := bl3_ hV5
   have zf : ∀ o, w5.frozen? ⟨w.heap.size + 2, o, none⟩ = false := fun o => Lib.frozen_of_heap hV5 o
   have HQ := hide (set3_all (.int .i64 xk) (.int .i64 xo) (.string xn) hV5 bb5 (Nat.le_add_right _ 2))
   go_wp2
   obtain ⟨q0, q1, q2, qb⟩ := unhide HQ
   exact bodyPost_ret (v := .tuple #[.agg #[.int .i64 xk, .int .i64 xo, .string xn], .int .i64 xe]) (by simp [results, Try.results49, go_sem, q0, q1, q2]) rfl ⟨by rw [unhide HE]; rfl, qb⟩
 have g24 : (k == 24) = false := by simpa using ho
 have m24 := ho
 clear ho
 have HE := hide (show twoT k ⟨ak, ao, an⟩ ⟨bk, bo, bn⟩ = (⟨0, 0, ⟨#[]⟩⟩, 13) from by unfold twoT; rw [if_neg (by simp [m13, m14, m15]), if_neg (by simp [m16, m17, m18, m19]), if_neg (by simp [m20, m21]), if_neg m22, if_neg m9, if_neg (by simp [m23, m24])]; rfl)
 obtain ⟨z0, z1, z2⟩ := bl3_ k3
 have zf : ∀ o, w1.frozen? ⟨w.heap.size + 2, o, none⟩ = false := fun o => Lib.frozen_of_heap k3 o
 have HQ := hide (set3_all (.int .i64 0) (.int .i64 0) (.string ⟨#[]⟩) k3 bX (Nat.le_add_right _ 2))
 go_wp2
 obtain ⟨q0, q1, q2, qb⟩ := unhide HQ
 exact bodyPost_ret (v := .tuple #[.agg #[.int .i64 0, .int .i64 0, .string ⟨#[]⟩], .int .i64 13]) (by simp [results, Try.results49, go_sem, q0, q1, q2]) rfl ⟨by rw [unhide HE]; rfl, qb⟩
end Go.Proofs.Ytagnbpobcijakaa
