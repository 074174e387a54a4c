/-
  chancellaw7.PackBounds: one entry.
-/
import Derived.Test.YtkeljejddfpnmaaDoorKBndF
namespace Go.Proofs.YtkeljejddfpnmaaDoor
open Go.RowKit Go.Sort

set_option maxHeartbeats 8000000 in
set_option maxRecDepth 1000000 in
theorem bounds_4 (which n : Int) (w : World) (hT : Half w) (hq : which % 7 = 4) :
    Calls Tryd.prog 5 #[.int .i64 which, .int .i64 n] w fun e w' => e = .returned (.bool true) ∧ Below w.heap.size w w' := by
  have h0 := Int.emod_nonneg n (show (4 : Int) ≠ 0 by decide)
  have h1 := Int.emod_lt_of_pos n (show (0 : Int) < 4 by decide)
  obtain ⟨j, hj⟩ : ∃ j : Nat, n % 4 = (j : Int) := ⟨(n % 4).toNat, by omega⟩
  have hj3 : j ≤ 3 := by omega
  have K0 := known7_any w hT
  have W4 := fun w' => within7_any n 4 (by decide) (by decide) w'
  have W7 := fun w' => within7_any which 7 (by decide) (by decide) w'
  rw [hj] at W4
  rw [hq] at W7
  clear h0 h1 hj hq
  obtain ⟨N, hN⟩ : ∃ N : Nat, N = 699 + j := ⟨_, rfl⟩
  have hNw : IntKind.i64.wrap (699 + (j : Int)) = (N : Int) := by rw [IntKind.wrap_i64]; omega
  obtain ⟨Zb, hZb⟩ : ∃ Z : Obj, Z = .cells (List.replicate N (.int .u8 0)).toArray 5 (0, 0) := ⟨_, rfl⟩
  have MKb := fun W => make_run 24 5 (.int .u8 0) 1 Tryd.underlying24 infoBz rfl N (N : Int) rfl (by omega) (by decide) W
  simp only [← hZb] at MKb
  have HZb := hide hZb
  clear hZb
  have CE := fun g1 g3 g5 w' h' => msg_err (msg0 (some ⟨g1, 0, none⟩) (some ⟨g3, 0, none⟩) (some ⟨g5, 0, none⟩) none none 1 1 0 0) [List.replicate N 0] [] w' h' (by simp)
  have hE : ∀ g1 g3 g5, errM (msg0 (some ⟨g1, 0, none⟩) (some ⟨g3, 0, none⟩) (some ⟨g5, 0, none⟩) none none 1 1 0 0) [List.replicate N 0] = if 700 < N then (5 : Int) else 0 := fun g1 g3 g5 => by
    rw [errM0, hasLong_one]
    rw [if_neg (by omega)]
    by_cases h : 700 < N
    · rw [if_pos (.inl (decide_eq_true h)), if_pos h]
    · rw [if_neg (by simp; omega), if_neg h]
  have hEE : EndsAs j (if 700 < N then (5 : Int) else 0) 5 := by
    unfold EndsAs
    rcases Nat.lt_or_ge 1 j with h | h
    · right
      exact ⟨h, if_pos (by omega)⟩
    · left
      exact ⟨h, if_neg (by omega)⟩
  simp only [hE] at CE
  clear hE
  have hE := hEE
  clear hEE
  generalize (if 700 < N then (5 : Int) else 0) = E at *
  unfold M14.val M14.cells msg0 at CE
  simp only [] at CE
  clear hN
  go_enter Tryd.func5, Tryd.ntmps5
  go_wp2_with fail
  refine K0.mono ?_
  rintro e w1 ⟨rfl, b1⟩
  go_wp2_with fail
  refine (W4 _).mono ?_
  rintro e w1' ⟨rfl, rfl⟩
  clear K0 W4
  have n2 := below2 w1' (.cells #[.int .i64 1, .int .i64 1, .int .i64 2, .string ⟨#[]⟩, .string ⟨#[]⟩] 23) (.cells #[.int .i64 0, .int .i64 0, .int .i64 1, .int .i64 0, .int .i64 0, .int .i64 0, .int .i64 0, .int .i64 0, .bool false, .slice none 0 0, .slice none 0 0, .slice none 0 0, .slice none 0 0, .slice none 0 0] 45)
  have zc := kept_of_below (new1 _ (.cells #[.int .i64 0, .int .i64 0, .int .i64 1, .int .i64 0, .int .i64 0, .int .i64 0, .int .i64 0, .int .i64 0, .bool false, .slice none 0 0, .slice none 0 0, .slice none 0 0, .slice none 0 0, .slice none 0 0] 45)) (alloc_heap w1' (.cells #[.int .i64 1, .int .i64 1, .int .i64 2, .string ⟨#[]⟩, .string ⟨#[]⟩] 23))
  have zm := alloc_heap (w1'.alloc (.cells #[.int .i64 1, .int .i64 1, .int .i64 2, .string ⟨#[]⟩, .string ⟨#[]⟩] 23)) (.cells #[.int .i64 0, .int .i64 0, .int .i64 1, .int .i64 0, .int .i64 0, .int .i64 0, .int .i64 0, .int .i64 0, .bool false, .slice none 0 0, .slice none 0 0, .slice none 0 0, .slice none 0 0, .slice none 0 0] 45)
  rw [show (w1'.alloc (.cells #[.int .i64 1, .int .i64 1, .int .i64 2, .string ⟨#[]⟩, .string ⟨#[]⟩] 23)).heap.size = w1'.heap.size + 1 by simp] at zm
  go_upto_region 8 with fail
  generalize (w1'.alloc _).alloc _ = w2 at *
  have b2 := b1.trans (n2.mono b1.size)
  have lc : w1'.heap.size < w2.heap.size := (Array.getElem?_eq_some_iff.1 zc).1
  have lm : w1'.heap.size + 1 < w2.heap.size := (Array.getElem?_eq_some_iff.1 zm).1
  have hs1 := b1.size
  go_wp2_with fail
  refine (W7 _).mono ?_
  rintro e w2' ⟨rfl, rfl⟩
  clear W7 b1 n2
  have hC : w1'.heap.size + 1 < w2'.heap.size := lm
  go_upto_region 27 with fail
  refine wp_specsD (b4Sp w2'.heap.size (w1'.heap.size + 1) j N (.cells #[.int .i64 1] 3 (0, 0)) Zb) (TR w2' (w1'.heap.size + 1) 0 73 1 74 5 78) (by kernel_rfl) (by kernel_rfl) (by kernel_rfl) ⟨(Keep2.refl _ _ _).drew, ⟨_, _, _, zm, fun h => (by cases h), fun h => (by cases h), fun h => (by cases h)⟩, fun h => (by cases h), fun h => (by cases h), fun h => (by cases h)⟩ ?_ ?_ ?_
  · intro i o d ho hd L a' w' hL hw hR hdep hslot hsz K hK
    have hl := dstOf_lt hd
    match i with
    | 0 =>
      cases ho
      cases hd
      unfold Oper.wp
      go_simp
      exact hK _ _ ⟨w'.heap.size, rfl, hR.keep.size, alloc_heap _ _⟩ (hR.put (new1 _ _) 0 73 _ (by decide) hL (by decide) (by decide) (by decide)) (b4Sp_up hC (.of_below (new1 _ _)))
    | 1 =>
      cases ho
      cases hd
      unfold Oper.wp
      go_simp
      exact hK _ _ ⟨w'.heap.size, rfl, hR.keep.size, alloc_heap _ _⟩ (hR.put (new1 _ _) 1 74 _ (by decide) hL (by decide) (by decide) (by decide)) (b4Sp_up hC (.of_below (new1 _ _)))
    | 2 =>
      cases ho
      cases hd
      have e : a'.tmps.getD 1 undef = .int .i64 j := hslot 1 (fun i h => by have hl := dstOf_lt h; match i, hl with | 0, _ => cases h | 1, _ => cases h | 2, _ => cases h | 3, _ => cases h | 4, _ => cases h | 5, _ => cases h | 6, _ => cases h | 7, _ => cases h | 8, _ => cases h | 9, _ => cases h | 10, _ => cases h | 11, _ => cases h)
      unfold Oper.wp
      go_simp
      exact hK _ _ rfl (hR.put (Below.refl _ w') 2 75 _ (by decide) hL (by decide) (by decide) (by decide)) (fun _ _ h => h)
    | 3 =>
      cases ho
      cases hd
      have e : a'.tmps.getD 75 undef = .int .i64 j := hdep 2 75 rfl (by kernel_rfl)
      unfold Oper.wp
      go_simp
      exact hK _ _ rfl (hR.put (Below.refl _ w') 3 76 _ (by decide) hL (by decide) (by decide) (by decide)) (fun _ _ h => h)
    | 4 =>
      cases ho
      cases hd
      have e : a'.tmps.getD 76 undef = .int .i64 N := hdep 3 76 rfl (by kernel_rfl)
      have M := MKb w'
      unfold Oper.wp
      go_simp
      exact hK _ _ ⟨w'.heap.size, rfl, hR.keep.size, alloc_heap _ _⟩ (hR.put (new1 _ _) 4 77 _ (by decide) hL (by decide) (by decide) (by decide)) (b4Sp_up hC (.of_below (new1 _ _)))
    | 5 =>
      cases ho
      cases hd
      obtain ⟨gb, e, lb, yb⟩ : SlB w2'.heap.size N Zb (a'.tmps.getD 77 undef) w' := hdep 4 77 rfl (by kernel_rfl)
      have h77 : 77 < a'.tmps.size := by rw [hsz]; exact Nat.le_of_ble_eq_true (by kernel_rfl)
      have e1 : a'.tmps[77] = .slice (some ⟨gb, 0, none⟩) N N := by simpa [h77] using e
      unfold Oper.wp
      go_simp
      exact hK _ _ ⟨_, ⟨w'.heap.size, rfl, hR.keep.size, alloc_heap _ _⟩, ⟨gb, rfl, lb, kept_of_below (new1 _ _) yb⟩⟩ (hR.put (new1 _ _) 5 78 _ (by decide) hL (by decide) (by decide) (by decide)) (b4Sp_up hC (.of_below (new1 _ _)))
    | 6 =>
      cases ho
      cases hd
      have e : a'.tmps.getD 6 undef = .pointer (some ⟨w1'.heap.size + 1, 0, none⟩) := hslot 6 (fun i h => by have hl := dstOf_lt h; match i, hl with | 0, _ => cases h | 1, _ => cases h | 2, _ => cases h | 3, _ => cases h | 4, _ => cases h | 5, _ => cases h | 6, _ => cases h | 7, _ => cases h | 8, _ => cases h | 9, _ => cases h | 10, _ => cases h | 11, _ => cases h)
      unfold Oper.wp
      go_simp
      exact hK _ _ rfl (hR.put (Below.refl _ w') 6 79 _ (by decide) hL (by decide) (by decide) (by decide)) (fun _ _ h => h)
    | 8 =>
      cases ho
      cases hd
      have e : a'.tmps.getD 6 undef = .pointer (some ⟨w1'.heap.size + 1, 0, none⟩) := hslot 6 (fun i h => by have hl := dstOf_lt h; match i, hl with | 0, _ => cases h | 1, _ => cases h | 2, _ => cases h | 3, _ => cases h | 4, _ => cases h | 5, _ => cases h | 6, _ => cases h | 7, _ => cases h | 8, _ => cases h | 9, _ => cases h | 10, _ => cases h | 11, _ => cases h)
      unfold Oper.wp
      go_simp
      exact hK _ _ rfl (hR.put (Below.refl _ w') 8 80 _ (by decide) hL (by decide) (by decide) (by decide)) (fun _ _ h => h)
    | 10 =>
      cases ho
      cases hd
      have e : a'.tmps.getD 6 undef = .pointer (some ⟨w1'.heap.size + 1, 0, none⟩) := hslot 6 (fun i h => by have hl := dstOf_lt h; match i, hl with | 0, _ => cases h | 1, _ => cases h | 2, _ => cases h | 3, _ => cases h | 4, _ => cases h | 5, _ => cases h | 6, _ => cases h | 7, _ => cases h | 8, _ => cases h | 9, _ => cases h | 10, _ => cases h | 11, _ => cases h)
      unfold Oper.wp
      go_simp
      exact hK _ _ rfl (hR.put (Below.refl _ w') 10 81 _ (by decide) hL (by decide) (by decide) (by decide)) (fun _ _ h => h)
    | 7 => cases hd
    | 9 => cases hd
    | 11 => cases hd
    | i + 12 => exact absurd hl (by show ¬ i + 12 < 12; omega)
  · intro i o ho hd L a' w' hL hw hR hdep K hK
    match i with
    | 0 => cases hd
    | 1 => cases hd
    | 2 => cases hd
    | 3 => cases hd
    | 4 => cases hd
    | 5 => cases hd
    | 6 => cases hd
    | 8 => cases hd
    | 10 => cases hd
    | 7 =>
      cases ho
      obtain ⟨_, _, _, q9, q10, q11, qf⟩ := hR.cells
      have e1 : a'.tmps.getD 79 undef = .pointer (some ⟨w1'.heap.size + 1, 9, none⟩) := hdep 6 79 rfl (by kernel_rfl)
      obtain ⟨gx, e2, _, _⟩ : SlB w2'.heap.size 1 (.cells #[.int .i64 1] 3 (0, 0)) (a'.tmps.getD 73 undef) w' := hdep 0 73 rfl (by kernel_rfl)
      have T := hR.store 7 9 (a'.tmps.getD 73 undef) (by simp [hw 0 (by kernel_rfl)])
      rw [e2] at T
      unfold Oper.wp
      go_simp
      exact hK _ T (b4Sp_up hC ((Keep2.refl _ _ _).setCell (p := ⟨w1'.heap.size + 1, 9, none⟩) (.inl rfl) _)) undef
    | 9 =>
      cases ho
      obtain ⟨_, _, _, q9, q10, q11, qf⟩ := hR.cells
      have e1 : a'.tmps.getD 80 undef = .pointer (some ⟨w1'.heap.size + 1, 10, none⟩) := hdep 8 80 rfl (by kernel_rfl)
      obtain ⟨gx, e2, _, _⟩ : SlB w2'.heap.size 1 (.cells #[.int .i64 1] 3 (0, 0)) (a'.tmps.getD 74 undef) w' := hdep 1 74 rfl (by kernel_rfl)
      have T := hR.store 9 10 (a'.tmps.getD 74 undef) (by simp [hw 1 (by kernel_rfl)])
      rw [e2] at T
      unfold Oper.wp
      go_simp
      exact hK _ T (b4Sp_up hC ((Keep2.refl _ _ _).setCell (p := ⟨w1'.heap.size + 1, 10, none⟩) (.inl rfl) _)) undef
    | 11 =>
      cases ho
      obtain ⟨_, _, _, q9, q10, q11, qf⟩ := hR.cells
      have e1 : a'.tmps.getD 81 undef = .pointer (some ⟨w1'.heap.size + 1, 11, none⟩) := hdep 10 81 rfl (by kernel_rfl)
      obtain ⟨gx, e2, _, _⟩ : ∃ gx, a'.tmps.getD 78 undef = .slice (some ⟨gx, 0, none⟩) 1 1 ∧ True ∧ True := (by obtain ⟨u, ⟨gx, h1, _⟩, _⟩ := (hdep 5 78 rfl (by kernel_rfl) : b4Sp _ _ _ _ _ _ 5 _ w'); exact ⟨gx, h1, trivial, trivial⟩)
      have T := hR.store 11 11 (a'.tmps.getD 78 undef) (by simp [hw 5 (by kernel_rfl)])
      rw [e2] at T
      unfold Oper.wp
      go_simp
      exact hK _ T (b4Sp_up hC ((Keep2.refl _ _ _).setCell (p := ⟨w1'.heap.size + 1, 11, none⟩) (.inl rfl) _)) undef
    | i + 12 => cases ho
  · intro v L w' hall hR hv
    obtain ⟨g1, f0, l1, z1⟩ : SlB w2'.heap.size 1 (.cells #[.int .i64 1] 3 (0, 0)) (v 0) w' := (hv 0 73 rfl).1
    obtain ⟨g3, f1, l3, z3⟩ : SlB w2'.heap.size 1 (.cells #[.int .i64 1] 3 (0, 0)) (v 1) w' := (hv 1 74 rfl).1
    have f2 : v 2 = _ := (hv 2 75 rfl).1
    have f3 : v 3 = _ := (hv 3 76 rfl).1
    obtain ⟨g4, f4, l4, z4⟩ : SlB w2'.heap.size N Zb (v 4) w' := (hv 4 77 rfl).1
    obtain ⟨u5, ⟨g5, f5, l5, z5⟩, ⟨gb, rfl, lb, zb⟩⟩ : ∃ u, SlB w2'.heap.size 1 (.cells #[u] 24 (0, 0)) (v 5) w' ∧ SlB w2'.heap.size N Zb u w' := (hv 5 78 rfl).1
    have f6 : v 6 = _ := (hv 6 79 rfl).1
    have f8 : v 8 = _ := (hv 8 80 rfl).1
    have f10 : v 10 = _ := (hv 10 81 rfl).1
    obtain ⟨x9, x10, x11, zm4, y9, y10, y11⟩ := hR.obj
    have y9 := (y9 (hall 7 (by decide))).trans ((hv 0 73 rfl).2.trans f0)
    have y10 := (y10 (hall 9 (by decide))).trans ((hv 1 74 rfl).2.trans f1)
    have y11 := (y11 (hall 11 (by decide))).trans ((hv 5 78 rfl).2.trans f5)
    rw [y9, y10, y11] at zm4
    have zm4 : w'.heap[w1'.heap.size + 1]? = some (M14.obj (msg0 (some ⟨g1, 0, none⟩) (some ⟨g3, 0, none⟩) (some ⟨g5, 0, none⟩) none none 1 1 0 0)) := zm4
    have b4 := hR.keep.below b2 (show w.heap.size ≤ w1'.heap.size + 1 by omega) (show w.heap.size ≤ w1'.heap.size + 1 by omega) b2.size
    have R4 : MRows w' (msg0 (some ⟨g1, 0, none⟩) (some ⟨g3, 0, none⟩) (some ⟨g5, 0, none⟩) none none 1 1 0 0) [List.replicate N 0] [] := by
      rw [unhide HZb] at zb
      have one : ∀ (W : World) (g : Nat), W.heap[g]? = some (.cells #[.int .i64 1] 3 (0, 0)) → IRow W (some ⟨g, 0, none⟩) 1 := fun W g h i hi => by
        obtain rfl : i = 0 := by omega
        exact ⟨g, 0, 1, rfl, (Array.getElem?_eq_some_iff.1 h).1, by rw [Lib.cell_of_heap h]; rfl⟩
      refine ⟨one _ _ z1, one _ _ z3, ?_, rfl, IRow.nil _ _, .inl rfl, rfl⟩
      intro i hi
      obtain rfl : i = 0 := by simpa using hi
      refine ⟨g5, 0, some ⟨gb, 0, none⟩, N, rfl, (Array.getElem?_eq_some_iff.1 z5).1, ?_, made_bytes zb⟩
      rw [Lib.cell_of_heap z5]
      simp
    clear y9 y10 y11 hR hall hv
    simp only [putAll, dstOf, List.getElem?_cons_zero, List.getElem?_cons_succ, Option.bind_some, List.length_cons, List.length_nil, f0, f1, f2, f3, f4, f5, f6, f8, f10]
    clear f0 f1 f2 f3 f4 f5 f6 f8 f10
    simp only [Act.put, List.setIfInBounds_toArray, List.set_cons_succ, List.set_cons_zero]
    obtain ⟨c0, c1, c2, c3, c4, c5, c6, c7, c8, c9, c10, c11, c12, c13, _⟩ := blk14 zm4
    unfold msg0 at c0 c1 c2 c3 c4 c5 c6 c7 c8 c9 c10 c11 c12 c13
    simp only [] at c0 c1 c2 c3 c4 c5 c6 c7 c8 c9 c10 c11 c12 c13
    specialize CE g1 g3 g5 w' R4
    go_wp2_with fail
    refine CE.mono ?_
    rintro e w5 ⟨v5, rfl, b5⟩
    have b5 := b4.trans (b5.mono b4.size)
    clear c0 c1 c2 c3 c4 c5 c6 c7 c8 c9 c10 c11 c12 c13 zm4 CE R4
    rcases hE with ⟨hj, rfl⟩ | ⟨hj, rfl⟩
    · have i1 : (j : Int) ≤ 1 := by omega
      clear hj
      go_wp2
      go_ret
      exact ⟨rfl, b5⟩
    · have i1 : ¬ (j : Int) ≤ 1 := by omega
      have i2 : (1 : Int) < (j : Int) := by omega
      clear hj
      go_wp2
      go_ret
      exact ⟨rfl, b5⟩
end Go.Proofs.YtkeljejddfpnmaaDoor
