/-
  chancellaw7.PackBounds: entries.
-/
import Derived.Test.YtkeljejddfpnmaaDoorKBndD
import Derived.Test.YtkeljejddfpnmaaDoorVeN
namespace Go.Proofs.YtkeljejddfpnmaaDoor
open Go.RowKit Go.Sort

/-- A slice over a new block of this content. -/
def SlB (B n : Nat) (Z : Obj) (v : Value) (w : World) : Prop := ∃ g, v = .slice (some ⟨g, 0, none⟩) n n ∧ B ≤ g ∧ w.heap[g]? = some Z
theorem SlB.up {B C n : Nat} {Z : Obj} {v : Value} {w w' : World} (h : SlB B n Z v w) (hC : C < B) (hb : Keep2 C C w w') : SlB B n Z v w' := by
  obtain ⟨g, e, hg, hz⟩ := h
  exact ⟨g, e, hg, (hb.block g (Array.getElem?_eq_some_iff.1 hz).1 (by omega) (by omega)).trans hz⟩
def b3Sp (B C N : Nat) (Z1 Z2 : Obj) : Nat → Value → World → Prop
  | 0, v, _ => v = .int .i64 N
  | 1, v, w => SlB B N Z1 v w
  | 2, v, _ => v = .int .i64 N
  | 3, v, w => SlB B N Z1 v w
  | 4, v, _ => v = .int .i64 N
  | 5, v, w => SlB B N Z2 v w
  | 6, v, _ => v = .pointer (some ⟨C, 9, none⟩)
  | 8, v, _ => v = .pointer (some ⟨C, 10, none⟩)
  | 10, v, _ => v = .pointer (some ⟨C, 11, none⟩)
  | _, _, _ => True
theorem b3Sp_up {B C N : Nat} {Z1 Z2 : Obj} {w w' : World} (hC : C < B) (hb : Keep2 C C w w') (j : Nat) (u : Value) (h : b3Sp B C N Z1 Z2 j u w) : b3Sp B C N Z1 Z2 j u w' := by
  unfold b3Sp at h ⊢
  split at h <;> first | exact h | exact SlB.up h hC hb
def b4Sp (B C j N : Nat) (Z1 Zb : Obj) : Nat → Value → World → Prop
  | 0, v, w => SlB B 1 Z1 v w
  | 1, v, w => SlB B 1 Z1 v w
  | 2, v, _ => v = .int .i64 j
  | 3, v, _ => v = .int .i64 N
  | 4, v, w => SlB B N Zb v w
  | 5, v, w => ∃ u, SlB B 1 (.cells #[u] 24 (0, 0)) v w ∧ SlB B N Zb u w
  | 6, v, _ => v = .pointer (some ⟨C, 9, none⟩)
  | 8, v, _ => v = .pointer (some ⟨C, 10, none⟩)
  | 10, v, _ => v = .pointer (some ⟨C, 11, none⟩)
  | _, _, _ => True
theorem b4Sp_up {B C j N : Nat} {Z1 Zb : Obj} {w w' : World} (hC : C < B) (hb : Keep2 C C w w') (i : Nat) (u : Value) (h : b4Sp B C j N Z1 Zb i u w) : b4Sp B C j N Z1 Zb i u w' := by
  unfold b4Sp at h ⊢
  split at h <;> first | exact h | exact SlB.up h hC hb | (obtain ⟨x, h1, h2⟩ := h; exact ⟨x, h1.up hC hb, h2.up hC hb⟩)

/-! ## The message while its three lists are laid. -/

def mobj (x9 x10 x11 : Value) : Obj := .cells #[.int .i64 0, .int .i64 0, .int .i64 1, .int .i64 0, .int .i64 0, .int .i64 0, .int .i64 0, .int .i64 0, .bool false, x9, x10, x11, .slice none 0 0, .slice none 0 0] 45 (0, 0)
structure TR (w2 : World) (C p1 s1 p3 s3 p5 s5 : Nat) (L : Nat → Bool) (a' : Act) (w' : World) : Prop where
  keep : Keep2 C C w2 w'
  obj : ∃ x9 x10 x11, w'.heap[C]? = some (mobj x9 x10 x11) ∧ (L 7 = true → x9 = a'.tmps.getD s1 undef) ∧ (L 9 = true → x10 = a'.tmps.getD s3 undef) ∧ (L 11 = true → x11 = a'.tmps.getD s5 undef)
  o7 : L 7 = true → L p1 = true
  o9 : L 9 = true → L p3 = true
  o11 : L 11 = true → L p5 = true
theorem TR.put {w2 : World} {C p1 s1 p3 s3 p5 s5 : Nat} {L : Nat → Bool} {a' : Act} {w' w'' : World} (h : TR w2 C p1 s1 p3 s3 p5 s5 L a' w') (hb : Below w'.heap.size w' w'') (i d : Nat) (v : Value) (hi : i ≠ 7 ∧ i ≠ 9 ∧ i ≠ 11) (hL : L i = false) (h1 : d = s1 → i = p1) (h3 : d = s3 → i = p3) (h5 : d = s5 → i = p5) :
    TR w2 C p1 s1 p3 s3 p5 s5 (fun j => decide (j = i) || L j) (a'.put (some d) v) w'' := by
  obtain ⟨x9, x10, x11, hz, y9, y10, y11⟩ := h.obj
  have e7 : (decide (7 = i) || L 7) = L 7 := by simp [Ne.symm hi.1]
  have e9 : (decide (9 = i) || L 9) = L 9 := by simp [Ne.symm hi.2.1]
  have e11 : (decide (11 = i) || L 11) = L 11 := by simp [Ne.symm hi.2.2]
  refine ⟨h.keep.trans (.of_below hb), ⟨x9, x10, x11, kept_of_below hb hz, ?_, ?_, ?_⟩, ?_, ?_, ?_⟩
  · rw [e7]
    intro hl
    rw [put_other _ _ _ _ (fun e => by have := h.o7 hl; rw [← h1 e, hL] at this; cases this)]
    exact y9 hl
  · rw [e9]
    intro hl
    rw [put_other _ _ _ _ (fun e => by have := h.o9 hl; rw [← h3 e, hL] at this; cases this)]
    exact y10 hl
  · rw [e11]
    intro hl
    rw [put_other _ _ _ _ (fun e => by have := h.o11 hl; rw [← h5 e, hL] at this; cases this)]
    exact y11 hl
  · rw [e7]
    intro hl
    simp [h.o7 hl]
  · rw [e9]
    intro hl
    simp [h.o9 hl]
  · rw [e11]
    intro hl
    simp [h.o11 hl]
theorem TR.cells {w2 : World} {C p1 s1 p3 s3 p5 s5 : Nat} {L : Nat → Bool} {a' : Act} {w' : World} (h : TR w2 C p1 s1 p3 s3 p5 s5 L a' w') : ∃ x9 x10 x11, w'.cell? ⟨C, 9, none⟩ = some x9 ∧ w'.cell? ⟨C, 10, none⟩ = some x10 ∧ w'.cell? ⟨C, 11, none⟩ = some x11 ∧ ∀ o, w'.frozen? ⟨C, o, none⟩ = false := by
  obtain ⟨x9, x10, x11, hz, _⟩ := h.obj
  exact ⟨x9, x10, x11, by rw [Lib.cell_of_heap hz]; rfl, by rw [Lib.cell_of_heap hz]; rfl, by rw [Lib.cell_of_heap hz]; rfl, fun o => Lib.frozen_of_heap hz o⟩
theorem TR.store {w2 : World} {C p1 s1 p3 s3 p5 s5 : Nat} {L : Nat → Bool} {a' : Act} {w' : World} (h : TR w2 C p1 s1 p3 s3 p5 s5 L a' w') (i o : Nat) (u : Value)
    (hio : (i = 7 ∧ o = 9 ∧ u = a'.tmps.getD s1 undef ∧ L p1 = true) ∨ (i = 9 ∧ o = 10 ∧ u = a'.tmps.getD s3 undef ∧ L p3 = true) ∨ (i = 11 ∧ o = 11 ∧ u = a'.tmps.getD s5 undef ∧ L p5 = true)) :
    TR w2 C p1 s1 p3 s3 p5 s5 (fun j => decide (j = i) || L j) a' (w'.setCell ⟨C, o, none⟩ u) := by
  obtain ⟨x9, x10, x11, hz, y9, y10, y11⟩ := h.obj
  have k1 := h.keep.setCell (p := ⟨C, o, none⟩) (.inl rfl) u
  rcases hio with ⟨rfl, rfl, rfl, hp⟩ | ⟨rfl, rfl, rfl, hp⟩ | ⟨rfl, rfl, rfl, hp⟩
  · refine ⟨k1, ⟨_, x10, x11, by simp [World.setCell, Array.getElem?_modify, hz, mobj], fun _ => rfl, fun hl => y10 (by simpa using hl), fun hl => y11 (by simpa using hl)⟩, fun _ => by simp [hp], fun hl => ?_, fun hl => ?_⟩
    · have := h.o9 (by simpa using hl); simp [this]
    · have := h.o11 (by simpa using hl); simp [this]
  · refine ⟨k1, ⟨x9, _, x11, by simp [World.setCell, Array.getElem?_modify, hz, mobj], fun hl => y9 (by simpa using hl), fun _ => rfl, fun hl => y11 (by simpa using hl)⟩, fun hl => ?_, fun _ => by simp [hp], fun hl => ?_⟩
    · have := h.o7 (by simpa using hl); simp [this]
    · have := h.o11 (by simpa using hl); simp [this]
  · refine ⟨k1, ⟨x9, x10, _, by simp [World.setCell, Array.getElem?_modify, hz, mobj], fun hl => y9 (by simpa using hl), fun hl => y10 (by simpa using hl), fun _ => rfl⟩, fun hl => ?_, fun hl => ?_, fun _ => by simp [hp]⟩
    · have := h.o7 (by simpa using hl); simp [this]
    · have := h.o9 (by simpa using hl); simp [this]

set_option maxHeartbeats 8000000 in
set_option maxRecDepth 1000000 in
theorem bounds_3 (which n : Int) (w : World) (hT : Half w) (hq : which % 7 = 3) :
    Calls Tryd.prog 5 #[.int .i64 which, .int .i64 n] w fun e w' => e = .returned (.bool true) ∧ Below w.heap.size w w' := by
  have h0 := Int.emod_nonneg n (show (4 : Int) ≠ 0 by decide)
  have h1 := Int.emod_lt_of_pos n (show (0 : Int) < 4 by decide)
  obtain ⟨j, hj⟩ : ∃ j : Nat, n % 4 = (j : Int) := ⟨(n % 4).toNat, by omega⟩
  have hj3 : j ≤ 3 := by omega
  have K0 := known7_any w hT
  have W4 := fun w' => within7_any n 4 (by decide) (by decide) w'
  have W7 := fun w' => within7_any which 7 (by decide) (by decide) w'
  rw [hj] at W4
  rw [hq] at W7
  clear h0 h1 hj hq
  obtain ⟨N, hN⟩ : ∃ N : Nat, N = 63 + j := ⟨_, rfl⟩
  have hNw : IntKind.i64.wrap (63 + (j : Int)) = (N : Int) := by rw [IntKind.wrap_i64]; omega
  obtain ⟨Z1, hZ1⟩ : ∃ Z : Obj, Z = .cells (List.replicate N (.int .i64 0)).toArray 3 (0, 0) := ⟨_, rfl⟩
  obtain ⟨Z2, hZ2⟩ : ∃ Z : Obj, Z = .cells (List.replicate N (.slice none 0 0)).toArray 24 (0, 0) := ⟨_, rfl⟩
  have MK1 := fun W => make_run 43 3 (.int .i64 0) 8 Tryd.underlying43 infoIz rfl N (N : Int) rfl (by omega) (by decide) W
  have MK2 := fun W => make_run 34 24 (.slice none 0 0) 24 Tryd.underlying34 infoSz rfl N (N : Int) rfl (by omega) (by decide) W
  simp only [← hZ1] at MK1
  simp only [← hZ2] at MK2
  have HZ1 := hide hZ1
  have HZ2 := hide hZ2
  clear hZ1 hZ2
  have CE := fun g1 g3 g5 w' h' => msg_err (msg0 (some ⟨g1, 0, none⟩) (some ⟨g3, 0, none⟩) (some ⟨g5, 0, none⟩) none none N N 0 0) (List.replicate N []) [] w' h' (by simp; omega)
  have hE : ∀ g1 g3 g5, errM (msg0 (some ⟨g1, 0, none⟩) (some ⟨g3, 0, none⟩) (some ⟨g5, 0, none⟩) none none N N 0 0) (List.replicate N []) = if 64 < N then (4 : Int) else 0 := fun g1 g3 g5 => by
    rw [errM0, hasLong_rep]
    by_cases h : 64 < N
    · rw [if_pos (.inl h), if_pos h]
    · rw [if_neg (by omega), if_neg (by simp), if_neg h]
  have hEE : EndsAs j (if 64 < N then (4 : Int) else 0) 4 := by
    unfold EndsAs
    rcases Nat.lt_or_ge 1 j with h | h
    · right
      exact ⟨h, if_pos (by omega)⟩
    · left
      exact ⟨h, if_neg (by omega)⟩
  simp only [hE] at CE
  clear hE
  have hE := hEE
  clear hEE
  generalize (if 64 < N then (4 : Int) else 0) = E at *
  unfold M14.val M14.cells msg0 at CE
  simp only [] at CE
  clear hN
  go_enter Tryd.func5, Tryd.ntmps5
  go_wp2_with fail
  refine K0.mono ?_
  rintro e w1 ⟨rfl, b1⟩
  go_wp2_with fail
  refine (W4 _).mono ?_
  rintro e w1' ⟨rfl, rfl⟩
  clear K0 W4
  have n2 := below2 w1' (.cells #[.int .i64 1, .int .i64 1, .int .i64 2, .string ⟨#[]⟩, .string ⟨#[]⟩] 23) (.cells #[.int .i64 0, .int .i64 0, .int .i64 1, .int .i64 0, .int .i64 0, .int .i64 0, .int .i64 0, .int .i64 0, .bool false, .slice none 0 0, .slice none 0 0, .slice none 0 0, .slice none 0 0, .slice none 0 0] 45)
  have zc := kept_of_below (new1 _ (.cells #[.int .i64 0, .int .i64 0, .int .i64 1, .int .i64 0, .int .i64 0, .int .i64 0, .int .i64 0, .int .i64 0, .bool false, .slice none 0 0, .slice none 0 0, .slice none 0 0, .slice none 0 0, .slice none 0 0] 45)) (alloc_heap w1' (.cells #[.int .i64 1, .int .i64 1, .int .i64 2, .string ⟨#[]⟩, .string ⟨#[]⟩] 23))
  have zm := alloc_heap (w1'.alloc (.cells #[.int .i64 1, .int .i64 1, .int .i64 2, .string ⟨#[]⟩, .string ⟨#[]⟩] 23)) (.cells #[.int .i64 0, .int .i64 0, .int .i64 1, .int .i64 0, .int .i64 0, .int .i64 0, .int .i64 0, .int .i64 0, .bool false, .slice none 0 0, .slice none 0 0, .slice none 0 0, .slice none 0 0, .slice none 0 0] 45)
  rw [show (w1'.alloc (.cells #[.int .i64 1, .int .i64 1, .int .i64 2, .string ⟨#[]⟩, .string ⟨#[]⟩] 23)).heap.size = w1'.heap.size + 1 by simp] at zm
  go_upto_region 8 with fail
  generalize (w1'.alloc _).alloc _ = w2 at *
  have b2 := b1.trans (n2.mono b1.size)
  have lc : w1'.heap.size < w2.heap.size := (Array.getElem?_eq_some_iff.1 zc).1
  have lm : w1'.heap.size + 1 < w2.heap.size := (Array.getElem?_eq_some_iff.1 zm).1
  have hs1 := b1.size
  go_wp2_with fail
  refine (W7 _).mono ?_
  rintro e w2' ⟨rfl, rfl⟩
  clear W7 b1 n2
  have hC : w1'.heap.size + 1 < w2'.heap.size := lm
  go_upto_region 23 with fail
  refine wp_specsD (b3Sp w2'.heap.size (w1'.heap.size + 1) N Z1 Z2) (TR w2' (w1'.heap.size + 1) 1 58 3 60 5 62) (by kernel_rfl) (by kernel_rfl) (by kernel_rfl) ⟨(Keep2.refl _ _ _).drew, ⟨_, _, _, zm, fun h => (by cases h), fun h => (by cases h), fun h => (by cases h)⟩, fun h => (by cases h), fun h => (by cases h), fun h => (by cases h)⟩ ?_ ?_ ?_
  · intro i o d ho hd L a' w' hL hw hR hdep hslot hsz K hK
    have hl := dstOf_lt hd
    match i with
    | 0 =>
      cases ho
      cases hd
      have e : a'.tmps.getD 9 undef = .int .i64 N := hslot 9 (fun i h => by have hl := dstOf_lt h; match i, hl with | 0, _ => cases h | 1, _ => cases h | 2, _ => cases h | 3, _ => cases h | 4, _ => cases h | 5, _ => cases h | 6, _ => cases h | 7, _ => cases h | 8, _ => cases h | 9, _ => cases h | 10, _ => cases h | 11, _ => cases h)
      unfold Oper.wp
      go_simp
      exact hK _ _ rfl (hR.put (Below.refl _ w') 0 57 _ (by decide) hL (by decide) (by decide) (by decide)) (fun _ _ h => h)
    | 1 =>
      cases ho
      cases hd
      have e : a'.tmps.getD 57 undef = .int .i64 N := hdep 0 57 rfl (by kernel_rfl)
      have M := MK1 w'
      unfold Oper.wp
      go_simp
      exact hK _ _ ⟨w'.heap.size, rfl, hR.keep.size, alloc_heap _ _⟩ (hR.put (new1 _ _) 1 58 _ (by decide) hL (by decide) (by decide) (by decide)) (b3Sp_up hC (.of_below (new1 _ _)))
    | 2 =>
      cases ho
      cases hd
      have e : a'.tmps.getD 9 undef = .int .i64 N := hslot 9 (fun i h => by have hl := dstOf_lt h; match i, hl with | 0, _ => cases h | 1, _ => cases h | 2, _ => cases h | 3, _ => cases h | 4, _ => cases h | 5, _ => cases h | 6, _ => cases h | 7, _ => cases h | 8, _ => cases h | 9, _ => cases h | 10, _ => cases h | 11, _ => cases h)
      unfold Oper.wp
      go_simp
      exact hK _ _ rfl (hR.put (Below.refl _ w') 2 59 _ (by decide) hL (by decide) (by decide) (by decide)) (fun _ _ h => h)
    | 3 =>
      cases ho
      cases hd
      have e : a'.tmps.getD 59 undef = .int .i64 N := hdep 2 59 rfl (by kernel_rfl)
      have M := MK1 w'
      unfold Oper.wp
      go_simp
      exact hK _ _ ⟨w'.heap.size, rfl, hR.keep.size, alloc_heap _ _⟩ (hR.put (new1 _ _) 3 60 _ (by decide) hL (by decide) (by decide) (by decide)) (b3Sp_up hC (.of_below (new1 _ _)))
    | 4 =>
      cases ho
      cases hd
      have e : a'.tmps.getD 9 undef = .int .i64 N := hslot 9 (fun i h => by have hl := dstOf_lt h; match i, hl with | 0, _ => cases h | 1, _ => cases h | 2, _ => cases h | 3, _ => cases h | 4, _ => cases h | 5, _ => cases h | 6, _ => cases h | 7, _ => cases h | 8, _ => cases h | 9, _ => cases h | 10, _ => cases h | 11, _ => cases h)
      unfold Oper.wp
      go_simp
      exact hK _ _ rfl (hR.put (Below.refl _ w') 4 61 _ (by decide) hL (by decide) (by decide) (by decide)) (fun _ _ h => h)
    | 5 =>
      cases ho
      cases hd
      have e : a'.tmps.getD 61 undef = .int .i64 N := hdep 4 61 rfl (by kernel_rfl)
      have M := MK2 w'
      unfold Oper.wp
      go_simp
      exact hK _ _ ⟨w'.heap.size, rfl, hR.keep.size, alloc_heap _ _⟩ (hR.put (new1 _ _) 5 62 _ (by decide) hL (by decide) (by decide) (by decide)) (b3Sp_up hC (.of_below (new1 _ _)))
    | 6 =>
      cases ho
      cases hd
      have e : a'.tmps.getD 6 undef = .pointer (some ⟨w1'.heap.size + 1, 0, none⟩) := hslot 6 (fun i h => by have hl := dstOf_lt h; match i, hl with | 0, _ => cases h | 1, _ => cases h | 2, _ => cases h | 3, _ => cases h | 4, _ => cases h | 5, _ => cases h | 6, _ => cases h | 7, _ => cases h | 8, _ => cases h | 9, _ => cases h | 10, _ => cases h | 11, _ => cases h)
      unfold Oper.wp
      go_simp
      exact hK _ _ rfl (hR.put (Below.refl _ w') 6 63 _ (by decide) hL (by decide) (by decide) (by decide)) (fun _ _ h => h)
    | 8 =>
      cases ho
      cases hd
      have e : a'.tmps.getD 6 undef = .pointer (some ⟨w1'.heap.size + 1, 0, none⟩) := hslot 6 (fun i h => by have hl := dstOf_lt h; match i, hl with | 0, _ => cases h | 1, _ => cases h | 2, _ => cases h | 3, _ => cases h | 4, _ => cases h | 5, _ => cases h | 6, _ => cases h | 7, _ => cases h | 8, _ => cases h | 9, _ => cases h | 10, _ => cases h | 11, _ => cases h)
      unfold Oper.wp
      go_simp
      exact hK _ _ rfl (hR.put (Below.refl _ w') 8 64 _ (by decide) hL (by decide) (by decide) (by decide)) (fun _ _ h => h)
    | 10 =>
      cases ho
      cases hd
      have e : a'.tmps.getD 6 undef = .pointer (some ⟨w1'.heap.size + 1, 0, none⟩) := hslot 6 (fun i h => by have hl := dstOf_lt h; match i, hl with | 0, _ => cases h | 1, _ => cases h | 2, _ => cases h | 3, _ => cases h | 4, _ => cases h | 5, _ => cases h | 6, _ => cases h | 7, _ => cases h | 8, _ => cases h | 9, _ => cases h | 10, _ => cases h | 11, _ => cases h)
      unfold Oper.wp
      go_simp
      exact hK _ _ rfl (hR.put (Below.refl _ w') 10 65 _ (by decide) hL (by decide) (by decide) (by decide)) (fun _ _ h => h)
    | 7 => cases hd
    | 9 => cases hd
    | 11 => cases hd
    | i + 12 => exact absurd hl (by show ¬ i + 12 < 12; omega)
  · intro i o ho hd L a' w' hL hw hR hdep K hK
    match i with
    | 0 => cases hd
    | 1 => cases hd
    | 2 => cases hd
    | 3 => cases hd
    | 4 => cases hd
    | 5 => cases hd
    | 6 => cases hd
    | 8 => cases hd
    | 10 => cases hd
    | 7 =>
      cases ho
      obtain ⟨_, _, _, q9, q10, q11, qf⟩ := hR.cells
      have e1 : a'.tmps.getD 63 undef = .pointer (some ⟨w1'.heap.size + 1, 9, none⟩) := hdep 6 63 rfl (by kernel_rfl)
      obtain ⟨gx, e2, _, _⟩ : SlB w2'.heap.size N Z1 (a'.tmps.getD 58 undef) w' := hdep 1 58 rfl (by kernel_rfl)
      have T := hR.store 7 9 (a'.tmps.getD 58 undef) (by simp [hw 1 (by kernel_rfl)])
      rw [e2] at T
      unfold Oper.wp
      go_simp
      exact hK _ T (b3Sp_up hC ((Keep2.refl _ _ _).setCell (p := ⟨w1'.heap.size + 1, 9, none⟩) (.inl rfl) _)) undef
    | 9 =>
      cases ho
      obtain ⟨_, _, _, q9, q10, q11, qf⟩ := hR.cells
      have e1 : a'.tmps.getD 64 undef = .pointer (some ⟨w1'.heap.size + 1, 10, none⟩) := hdep 8 64 rfl (by kernel_rfl)
      obtain ⟨gx, e2, _, _⟩ : SlB w2'.heap.size N Z1 (a'.tmps.getD 60 undef) w' := hdep 3 60 rfl (by kernel_rfl)
      have T := hR.store 9 10 (a'.tmps.getD 60 undef) (by simp [hw 3 (by kernel_rfl)])
      rw [e2] at T
      unfold Oper.wp
      go_simp
      exact hK _ T (b3Sp_up hC ((Keep2.refl _ _ _).setCell (p := ⟨w1'.heap.size + 1, 10, none⟩) (.inl rfl) _)) undef
    | 11 =>
      cases ho
      obtain ⟨_, _, _, q9, q10, q11, qf⟩ := hR.cells
      have e1 : a'.tmps.getD 65 undef = .pointer (some ⟨w1'.heap.size + 1, 11, none⟩) := hdep 10 65 rfl (by kernel_rfl)
      obtain ⟨gx, e2, _, _⟩ : SlB w2'.heap.size N Z2 (a'.tmps.getD 62 undef) w' := hdep 5 62 rfl (by kernel_rfl)
      have T := hR.store 11 11 (a'.tmps.getD 62 undef) (by simp [hw 5 (by kernel_rfl)])
      rw [e2] at T
      unfold Oper.wp
      go_simp
      exact hK _ T (b3Sp_up hC ((Keep2.refl _ _ _).setCell (p := ⟨w1'.heap.size + 1, 11, none⟩) (.inl rfl) _)) undef
    | i + 12 => cases ho
  · intro v L w' hall hR hv
    have f0 : v 0 = _ := (hv 0 57 rfl).1
    obtain ⟨g1, f1, l1, z1⟩ : SlB w2'.heap.size N Z1 (v 1) w' := (hv 1 58 rfl).1
    have f2 : v 2 = _ := (hv 2 59 rfl).1
    obtain ⟨g3, f3, l3, z3⟩ : SlB w2'.heap.size N Z1 (v 3) w' := (hv 3 60 rfl).1
    have f4 : v 4 = _ := (hv 4 61 rfl).1
    obtain ⟨g5, f5, l5, z5⟩ : SlB w2'.heap.size N Z2 (v 5) w' := (hv 5 62 rfl).1
    have f6 : v 6 = _ := (hv 6 63 rfl).1
    have f8 : v 8 = _ := (hv 8 64 rfl).1
    have f10 : v 10 = _ := (hv 10 65 rfl).1
    obtain ⟨x9, x10, x11, zm4, y9, y10, y11⟩ := hR.obj
    have y9 := (y9 (hall 7 (by decide))).trans ((hv 1 58 rfl).2.trans f1)
    have y10 := (y10 (hall 9 (by decide))).trans ((hv 3 60 rfl).2.trans f3)
    have y11 := (y11 (hall 11 (by decide))).trans ((hv 5 62 rfl).2.trans f5)
    rw [y9, y10, y11] at zm4
    have zm4 : w'.heap[w1'.heap.size + 1]? = some (M14.obj (msg0 (some ⟨g1, 0, none⟩) (some ⟨g3, 0, none⟩) (some ⟨g5, 0, none⟩) none none N N 0 0)) := zm4
    have b4 := hR.keep.below b2 (show w.heap.size ≤ w1'.heap.size + 1 by omega) (show w.heap.size ≤ w1'.heap.size + 1 by omega) b2.size
    have R4 : MRows w' (msg0 (some ⟨g1, 0, none⟩) (some ⟨g3, 0, none⟩) (some ⟨g5, 0, none⟩) none none N N 0 0) (List.replicate N []) [] := by
      rw [unhide HZ1] at z1 z3
      rw [unhide HZ2] at z5
      exact ⟨made_ints z1, made_ints z3, made_rows z5, (List.length_replicate).symm, IRow.nil _ _, .inl rfl, rfl⟩
    clear y9 y10 y11 hR hall hv
    simp only [putAll, dstOf, List.getElem?_cons_zero, List.getElem?_cons_succ, Option.bind_some, List.length_cons, List.length_nil, f0, f1, f2, f3, f4, f5, f6, f8, f10]
    clear f0 f1 f2 f3 f4 f5 f6 f8 f10
    simp only [Act.put, List.setIfInBounds_toArray, List.set_cons_succ, List.set_cons_zero]
    obtain ⟨c0, c1, c2, c3, c4, c5, c6, c7, c8, c9, c10, c11, c12, c13, _⟩ := blk14 zm4
    unfold msg0 at c0 c1 c2 c3 c4 c5 c6 c7 c8 c9 c10 c11 c12 c13
    simp only [] at c0 c1 c2 c3 c4 c5 c6 c7 c8 c9 c10 c11 c12 c13
    specialize CE g1 g3 g5 w' R4
    go_wp2_with fail
    refine CE.mono ?_
    rintro e w5 ⟨v5, rfl, b5⟩
    have b5 := b4.trans (b5.mono b4.size)
    clear c0 c1 c2 c3 c4 c5 c6 c7 c8 c9 c10 c11 c12 c13 zm4 CE R4
    rcases hE with ⟨hj, rfl⟩ | ⟨hj, rfl⟩
    · have i1 : (j : Int) ≤ 1 := by omega
      clear hj
      go_wp2
      go_ret
      exact ⟨rfl, b5⟩
    · have i1 : ¬ (j : Int) ≤ 1 := by omega
      have i2 : (1 : Int) < (j : Int) := by omega
      clear hj
      go_wp2
      go_ret
      exact ⟨rfl, b5⟩
end Go.Proofs.YtkeljejddfpnmaaDoor
