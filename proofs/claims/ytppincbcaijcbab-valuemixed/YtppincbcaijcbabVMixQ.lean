/-
  value.Set of one and of two: what they return.
-/
import Derived.Test.YtppincbcaijcbabVMixP
namespace Go.Proofs.Ytppincbcaijcbab
open Go.RowKit Go.Sort

theorem len_ins_le (q : PV) : ∀ S : List PV, (ins lessP q S).length ≤ S.length + 1
  | [] => by simp [ins]
  | y :: S => by
    have := len_ins_le q S
    unfold ins
    split
    · simpa using this
    · split
      · simp
      · simp
theorem len_fold_le : ∀ (l S : List PV), (l.foldl (fun acc x => ins lessP x acc) S).length ≤ S.length + l.length
  | [], S => by simp
  | x :: l, S => by
    have h1 := len_fold_le l (ins lessP x S)
    have h2 := len_ins_le x S
    simp only [List.foldl_cons, List.length_cons]
    omega
theorem len_setOf_le (l : List PV) : (setOf lessP l).length ≤ l.length := by
  have := len_fold_le l []
  simpa [setOf] using this

theorem row1 (w : World) (r : R7) : RowV (w.alloc (.cells #[.int .i64 r.k, .bool r.b, .int .i64 r.n, .string r.s, .string r.t, .string r.i, .slice r.lo r.ll r.lc] 28)) (some ⟨w.heap.size, 0, none⟩) [r] := by
  intro j hj
  refine ⟨w.heap.size, 0, rfl, by simp, fun c v hv => ?_⟩
  have hc : c < 7 := by
    have := (List.getElem?_eq_some_iff.1 hv).1
    rwa [cells_len] at this
  rw [World.cell?_alloc_at _ _ _ _ rfl, ← hv]
  match j, hj, c, hc with
  | 0, _, 0, _ | 0, _, 1, _ | 0, _, 2, _ | 0, _, 3, _ | 0, _, 4, _ | 0, _, 5, _ | 0, _, 6, _ => rfl

theorem row2 (w : World) (r r' : R7) : RowV (w.alloc (.cells #[.int .i64 r.k, .bool r.b, .int .i64 r.n, .string r.s, .string r.t, .string r.i, .slice r.lo r.ll r.lc, .int .i64 r'.k, .bool r'.b, .int .i64 r'.n, .string r'.s, .string r'.t, .string r'.i, .slice r'.lo r'.ll r'.lc] 28)) (some ⟨w.heap.size, 0, none⟩) [r, r'] := by
  intro j hj
  refine ⟨w.heap.size, 0, rfl, by simp, fun c v hv => ?_⟩
  have hc : c < 7 := by
    have := (List.getElem?_eq_some_iff.1 hv).1
    rwa [cells_len] at this
  rw [World.cell?_alloc_at _ _ _ _ rfl, ← hv]
  match j, hj, c, hc with
  | 0, _, 0, _ | 0, _, 1, _ | 0, _, 2, _ | 0, _, 3, _ | 0, _, 4, _ | 0, _, 5, _ | 0, _, 6, _ => rfl
  | 1, _, 0, _ | 1, _, 1, _ | 1, _, 2, _ | 1, _, 3, _ | 1, _, 4, _ | 1, _, 5, _ | 1, _, 6, _ => rfl

/-- What Set made of plain values of one kind. -/
structure Made (l : List PV) (w : World) (R : R7) : Prop where
  k : R.k = 5
  ex : ∃ (S : List PV) (ao : Option Addr) (c : Nat), R = setR ao S.length c ∧ S = setOf lessP l ∧ RowV w ao (S.map ofP)

theorem Made.below {l : List PV} {w w' : World} {R : R7} (h : Made l w R) (hb : Below w.heap.size w w') : Made l w' R := by
  obtain ⟨hk, S, ao, c, e1, e2, hr⟩ := h
  exact ⟨hk, S, ao, c, e1, e2, hr.below hb⟩

theorem set_few (l : List PV) (ao : Option Addr) (c : Nat) (w : World) (h8 : l.length ≤ 8) (hr : RowV w ao (l.map ofP)) (hk : ∀ p ∈ l, ∀ q ∈ l, p.kind = q.kind) :
    Calls Try.prog 7 #[.slice ao l.length c] w fun e w' => Below w.heap.size w w' ∧ ∃ R, e = .returned (.tuple #[R.val, .int .i64 0]) ∧ Made l w' R := by
  refine (set_plain l ao c w (by omega) hr hk).mono ?_
  have h8' := len_setOf_le l
  rintro e w' ⟨hb, h⟩
  rcases h with ⟨_, ao', c', e1, hown⟩ | ⟨h, _⟩
  · obtain ⟨ao2, c2, e2, hrow⟩ := rowV_own hown
    cases e2
    exact ⟨hb, _, e1, rfl, _, _, _, rfl, rfl, hrow⟩
  · omega

/-- Set of two plain values, whatever their kinds. -/
theorem set_two (x y : PV) (ao : Option Addr) (c : Nat) (w : World) (hr : RowV w ao [ofP x, ofP y]) :
    Calls Try.prog 7 #[.slice ao 2 c] w fun e w' => Below w.heap.size w w' ∧ ∃ R, e = .returned (.tuple #[R.val, .int .i64 (if x.kind = y.kind then 0 else 16)]) ∧ (x.kind = y.kind → Made [x, y] w' R) ∧ (x.kind ≠ y.kind → R.ll = 0) := by
  by_cases h : x.kind = y.kind
  · rw [if_pos h]
    refine (set_few [x, y] ao c w (by simp) hr (by simp [h])).mono ?_
    rintro e w' ⟨hb, R, e1, hm⟩
    exact ⟨hb, R, e1, fun _ => hm, fun h' => absurd h h'⟩
  · rw [if_neg h]
    refine (set_bad [ofP x, ofP y] ao c w (by simp) hr (by simp) ⟨1, by simp, ?_⟩).mono ?_
    · show mayB (ofP y).k (ofP x).k = false
      rw [ofP_k, ofP_k]
      simp [mayB]
      intro _
      omega
    · rintro e w' ⟨e1, hb⟩
      exact ⟨hb, zero7, e1, fun h' => absurd h' h, fun _ => rfl⟩

/-- Set of two of which one is a set. -/
theorem set_nested (r r' : R7) (ao : Option Addr) (c : Nat) (w : World) (hr : RowV w ao [r, r']) (h : r'.k = 5) :
    Calls Try.prog 7 #[.slice ao 2 c] w fun e w' => e = .returned (.tuple #[zero7.val, .int .i64 16]) ∧ Below w.heap.size w w' :=
  set_bad [r, r'] ao c w (by simp) hr (by simp) ⟨1, by simp, by show mayB r'.k r.k = false; simp [mayB, h]⟩

theorem holds_made (l : List PV) (R : R7) (q : PV) (w : World) (h : Made l w R) (h8 : l.length ≤ 8) (hq : q ∈ l) :
    Calls Try.prog 10 #[R.val, (ofP q).val] w fun e w' => e = .returned (.bool true) ∧ Below w.heap.size w w' := by
  obtain ⟨_, S, ao, c, rfl, hS, hr⟩ := h
  have hm : q ∈ S := by rw [hS]; exact (mem_setOf sto_lessP l q).2 hq
  have hl := len_setOf_le l
  rw [← hS] at hl
  have := holds_plain S q ao c w (by omega) hr
  rwa [decide_eq_true hm] at this
end Go.Proofs.Ytppincbcaijcbab
