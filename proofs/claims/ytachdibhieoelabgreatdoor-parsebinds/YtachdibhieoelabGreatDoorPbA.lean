/-
  chancellaw5.ParseBinds: the list of signs, and the region that takes two of it.
-/
import Derived.Test.YtachdibhieoelabGreatDoorPlC
import Derived.Test.YtachdibhieoelabGreatDoorVeM
namespace Go.Proofs.YtachdibhieoelabGreatDoor
open Go.RowKit Go.Sort

def ops5O : Obj := .cells #[.string ⟨#[124, 124]⟩, .int .i64 24, .int .i64 1, .string ⟨#[38, 38]⟩, .int .i64 23, .int .i64 2, .string ⟨#[43]⟩, .int .i64 14, .int .i64 4, .string ⟨#[45]⟩, .int .i64 15, .int .i64 4, .string ⟨#[42]⟩, .int .i64 13, .int .i64 5] 37 (0, 0)
set_option maxRecDepth 1000000 in
theorem ops5_any (w : World) : Calls Tryz.prog 12 #[] w fun e w' => e = .returned (.slice (some ⟨w.heap.size, 0, none⟩) 5 5) ∧ Below w.heap.size w w' ∧ w'.heap[w.heap.size]? = some ops5O := by
  go_enter Tryz.func12, Tryz.ntmps12
  go_wp2
  go_ret
  exact ⟨rfl, new1 _ _, alloc_heap _ _⟩
theorem ops5_cells {w : World} {g : Nat} (h : w.heap[g]? = some ops5O) (i : Nat) (hi : i < 5) : w.cell? ⟨g, i * 3, none⟩ = some (.string ⟨(bs5 i).toArray⟩) ∧ w.cell? ⟨g, i * 3 + 1, none⟩ = some (.int .i64 (bo5 i)) ∧ w.cell? ⟨g, i * 3 + 2, none⟩ = some (.int .i64 (bb5 i)) := by
  refine ⟨?_, ?_, ?_⟩ <;> rw [Lib.cell_of_heap h] <;>
  match i, hi with
  | 0, _ | 1, _ | 2, _ | 3, _ | 4, _ => rfl

/-- A sign's three cells. -/
def cell3 (x : ByteArray) (k b : Int) : Obj := .cells #[.string x, .int .i64 k, .int .i64 b] 37 (0, 0)
def set3 (w : World) (b : Nat) (v0 v1 v2 : Value) : World := ((w.setCell ⟨b, 0, none⟩ v0).setCell ⟨b, 1, none⟩ v1).setCell ⟨b, 2, none⟩ v2
theorem set3_heap (w : World) (b k : Nat) (v0 v1 v2 : Value) (h : k ≠ b) : (set3 w b v0 v1 v2).heap[k]? = w.heap[k]? := by
  unfold set3
  rw [Below.heap_setCell _ _ _ _ h, Below.heap_setCell _ _ _ _ h, Below.heap_setCell _ _ _ _ h]
theorem set3_at {w : World} {b : Nat} {x0 : ByteArray} {k0 b0 : Int} (h : w.heap[b]? = some (cell3 x0 k0 b0)) (x : ByteArray) (k c : Int) : (set3 w b (.string x) (.int .i64 k) (.int .i64 c)).heap[b]? = some (cell3 x k c) := by
  unfold cell3 at h
  simp [set3, cell3, World.setCell, Array.getElem?_modify, h]
theorem set3_size (w : World) (b : Nat) (v0 v1 v2 : Value) : (set3 w b v0 v1 v2).heap.size = w.heap.size := by
  simp [set3, World.setCell]
theorem set3_below {B b : Nat} {a w : World} (h : Below B a w) (hb : B ≤ b) (v0 v1 v2 : Value) : Below B a (set3 w b v0 v1 v2) :=
  ((h.setCell (p := ⟨b, 0, none⟩) hb _).setCell (p := ⟨b, 1, none⟩) hb _).setCell (p := ⟨b, 2, none⟩) hb _

def bSp (w2 : World) (g : Nat) (a b : Int) (i j : Nat) (vp vq : Value) : Nat → Value → World → Prop
  | 0, v, _ => v = .slice (some ⟨g, 0, none⟩) 5 5
  | 1, v, _ => v = .int .i64 a
  | 2, v, _ => v = .int .i64 i
  | 3, v, _ => v = .pointer (some ⟨g, i * 3, none⟩)
  | 4, v, _ => v = vp
  | 5, v, _ => v = .slice (some ⟨g, 0, none⟩) 5 5
  | 6, v, _ => v = .int .i64 b
  | 7, v, _ => v = .int .i64 j
  | 8, v, _ => v = .pointer (some ⟨g, j * 3, none⟩)
  | 9, v, _ => v = vq
  | 10, v, w' => ∃ c, v = .pointer (some ⟨c, 0, none⟩) ∧ w2.heap.size ≤ c ∧ c < w'.heap.size
  | 11, v, w' => ∃ c, v = .pointer (some ⟨c, 0, none⟩) ∧ w2.heap.size ≤ c ∧ c < w'.heap.size
  | _, _, _ => True
theorem bSp_up {w2 : World} {g : Nat} {a b : Int} {i j : Nat} {vp vq : Value} {w' w'' : World} (h : w'.heap.size ≤ w''.heap.size) (k : Nat) (u : Value) (hs : bSp w2 g a b i j vp vq k u w') : bSp w2 g a b i j vp vq k u w'' := by
  unfold bSp at hs ⊢
  split at hs <;> first | exact hs | (obtain ⟨c, h1, h2, h3⟩ := hs; exact ⟨c, h1, h2, by omega⟩)

structure BR (w2 : World) (P3 Q3 : Obj) (L : Nat → Bool) (a' : Act) (w' : World) : Prop where
  below : Below w2.heap.size w2 w'
  p : L 10 = true → ∀ c, a'.tmps.getD 6 undef = .pointer (some ⟨c, 0, none⟩) → w2.heap.size ≤ c ∧ w'.heap[c]? = some (if L 12 = true then P3 else cell3 ⟨#[]⟩ 0 0)
  q : L 11 = true → ∀ c, a'.tmps.getD 7 undef = .pointer (some ⟨c, 0, none⟩) → w2.heap.size ≤ c ∧ w'.heap[c]? = some (if L 13 = true then Q3 else cell3 ⟨#[]⟩ 0 0)
  ne : L 10 = true → L 11 = true → ∀ c, a'.tmps.getD 6 undef = .pointer (some ⟨c, 0, none⟩) → ∀ d, a'.tmps.getD 7 undef = .pointer (some ⟨d, 0, none⟩) → c ≠ d
  o12 : L 12 = true → L 10 = true
  o13 : L 13 = true → L 11 = true
theorem BR.cast {w2 : World} {P3 Q3 : Obj} {L L' : Nat → Bool} {a' a'' : Act} {w' : World} (h : BR w2 P3 Q3 L a' w') (e : ∀ k, 10 ≤ k → L' k = L k) (h6 : a''.tmps.getD 6 undef = a'.tmps.getD 6 undef) (h7 : a''.tmps.getD 7 undef = a'.tmps.getD 7 undef) : BR w2 P3 Q3 L' a'' w' := by
  refine ⟨h.below, ?_, ?_, ?_, ?_, ?_⟩ <;> simp only [e 10 (by omega), e 11 (by omega), e 12 (by omega), e 13 (by omega), h6, h7]
  · exact h.p
  · exact h.q
  · exact h.ne
  · exact h.o12
  · exact h.o13
theorem BR.other {w2 : World} {P3 Q3 : Obj} {L : Nat → Bool} {a' : Act} {w' : World} (h : BR w2 P3 Q3 L a' w') (i d : Nat) (v : Value) (hi : i < 10) (h6 : d ≠ 6) (h7 : d ≠ 7) : BR w2 P3 Q3 (fun j => decide (j = i) || L j) (a'.put (some d) v) w' :=
  h.cast (fun k hk => by simp [show ¬ k = i by omega]) (put_other _ _ _ _ h6) (put_other _ _ _ _ h7)
theorem BR.first {w2 : World} {P3 Q3 : Obj} {L : Nat → Bool} {a' : Act} {w' : World} (h : BR w2 P3 Q3 L a' w') (hL : L 10 = false) (hs : 6 < a'.tmps.size) : BR w2 P3 Q3 (fun j => decide (j = 10) || L j) (a'.put (some 6) (.pointer (some ⟨w'.heap.size, 0, none⟩))) (w'.alloc (.cells #[.string ⟨#[]⟩, .int .i64 0, .int .i64 0] 37)) := by
  have n := new1 w' (.cells #[.string ⟨#[]⟩, .int .i64 0, .int .i64 0] 37)
  have h12 : L 12 = false := by
    cases e : L 12 with
    | false => rfl
    | true => rw [h.o12 e] at hL; cases hL
  have e7 : (a'.put (some 6) (.pointer (some ⟨w'.heap.size, 0, none⟩))).tmps.getD 7 undef = a'.tmps.getD 7 undef := put_other _ _ _ _ (by decide)
  refine ⟨h.below.trans (n.mono h.below.size), ?_, ?_, ?_, ?_, ?_⟩
  · intro _ c hc
    rw [put_same _ _ _ hs] at hc
    cases hc
    refine ⟨h.below.size, ?_⟩
    simp only [h12, Bool.or_false, show decide (12 = 10) = false from rfl]
    exact alloc_heap _ _
  · intro h1 c hc
    rw [e7] at hc
    obtain ⟨x1, x2⟩ := h.q (by simpa using h1) c hc
    exact ⟨x1, by simpa using kept_of_below n x2⟩
  · intro _ h1 c hc d hd
    rw [put_same _ _ _ hs] at hc
    cases hc
    rw [e7] at hd
    have := (Array.getElem?_eq_some_iff.1 (h.q (by simpa using h1) d hd).2).1
    omega
  · intro _; rfl
  · intro h1
    have := h.o13 (by simpa using h1)
    simpa using this
theorem BR.second {w2 : World} {P3 Q3 : Obj} {L : Nat → Bool} {a' : Act} {w' : World} (h : BR w2 P3 Q3 L a' w') (hL : L 11 = false) (hs : 7 < a'.tmps.size) : BR w2 P3 Q3 (fun j => decide (j = 11) || L j) (a'.put (some 7) (.pointer (some ⟨w'.heap.size, 0, none⟩))) (w'.alloc (.cells #[.string ⟨#[]⟩, .int .i64 0, .int .i64 0] 37)) := by
  have n := new1 w' (.cells #[.string ⟨#[]⟩, .int .i64 0, .int .i64 0] 37)
  have h13 : L 13 = false := by
    cases e : L 13 with
    | false => rfl
    | true => rw [h.o13 e] at hL; cases hL
  have e6 : (a'.put (some 7) (.pointer (some ⟨w'.heap.size, 0, none⟩))).tmps.getD 6 undef = a'.tmps.getD 6 undef := put_other _ _ _ _ (by decide)
  refine ⟨h.below.trans (n.mono h.below.size), ?_, ?_, ?_, ?_, ?_⟩
  · intro h1 c hc
    rw [e6] at hc
    obtain ⟨x1, x2⟩ := h.p (by simpa using h1) c hc
    exact ⟨x1, by simpa using kept_of_below n x2⟩
  · intro _ c hc
    rw [put_same _ _ _ hs] at hc
    cases hc
    refine ⟨h.below.size, ?_⟩
    simp only [h13, Bool.or_false, show decide (13 = 11) = false from rfl]
    exact alloc_heap _ _
  · intro h1 _ c hc d hd
    rw [put_same _ _ _ hs] at hd
    cases hd
    rw [e6] at hc
    have := (Array.getElem?_eq_some_iff.1 (h.p (by simpa using h1) c hc).2).1
    omega
  · intro h1
    have := h.o12 (by simpa using h1)
    simpa using this
  · intro _; rfl
theorem BR.put1 {w2 : World} {Q3 : Obj} {x : ByteArray} {k b : Int} {L : Nat → Bool} {a' : Act} {w' : World} (h : BR w2 (cell3 x k b) Q3 L a' w') (hL : L 12 = false) (h10 : L 10 = true) {c : Nat} (hc : a'.tmps.getD 6 undef = .pointer (some ⟨c, 0, none⟩)) : BR w2 (cell3 x k b) Q3 (fun j => decide (j = 12) || L j) a' (set3 w' c (.string x) (.int .i64 k) (.int .i64 b)) := by
  obtain ⟨c1, c2⟩ := h.p h10 c hc
  rw [hL] at c2
  refine ⟨set3_below h.below c1 _ _ _, ?_, ?_, ?_, ?_, ?_⟩
  · intro _ d hd
    rw [hc] at hd
    cases hd
    exact ⟨c1, by simpa using set3_at c2 x k b⟩
  · intro h1 d hd
    have h1 : L 11 = true := by simpa using h1
    obtain ⟨d1, d2⟩ := h.q h1 d hd
    refine ⟨d1, ?_⟩
    rw [set3_heap _ _ _ _ _ _ (Ne.symm (h.ne h10 h1 c hc d hd))]
    simpa using d2
  · intro h1 h2
    exact h.ne h10 (by simpa using h2)
  · intro _; simpa using h10
  · intro h1
    have := h.o13 (by simpa using h1)
    simpa using this
theorem BR.put2 {w2 : World} {P3 : Obj} {x : ByteArray} {k b : Int} {L : Nat → Bool} {a' : Act} {w' : World} (h : BR w2 P3 (cell3 x k b) L a' w') (hL : L 13 = false) (h11 : L 11 = true) {c : Nat} (hc : a'.tmps.getD 7 undef = .pointer (some ⟨c, 0, none⟩)) : BR w2 P3 (cell3 x k b) (fun j => decide (j = 13) || L j) a' (set3 w' c (.string x) (.int .i64 k) (.int .i64 b)) := by
  obtain ⟨c1, c2⟩ := h.q h11 c hc
  rw [hL] at c2
  refine ⟨set3_below h.below c1 _ _ _, ?_, ?_, ?_, ?_, ?_⟩
  · intro h1 d hd
    have h1 : L 10 = true := by simpa using h1
    obtain ⟨d1, d2⟩ := h.p h1 d hd
    refine ⟨d1, ?_⟩
    rw [set3_heap _ _ _ _ _ _ (h.ne h1 h11 d hd c hc)]
    simpa using d2
  · intro _ d hd
    rw [hc] at hd
    cases hd
    exact ⟨c1, by simpa using set3_at c2 x k b⟩
  · intro h1 h2
    exact h.ne (by simpa using h1) h11
  · intro h1
    have := h.o12 (by simpa using h1)
    simpa using this
  · intro _; simpa using h11
end Go.Proofs.YtachdibhieoelabGreatDoor
