/-
  Plain facts: a set grows by one in its place; the cells of a row of plain values.
-/
import Derived.Test.YtifkkhngibjalaaVcJ
namespace Go.Proofs.Ytifkkhngibjalaa
open Go.RowKit Go.Sort

def cellsOf (l : List PV) : List Value := l.flatMap fun p => (ofP p).cells

theorem cells_len (r : R7) : r.cells.length = 7 := rfl
theorem cellsOf_len : ∀ l : List PV, (cellsOf l).length = l.length * 7
  | [] => rfl
  | p :: l => by
    rw [cellsOf, List.flatMap_cons, List.length_append, cells_len, List.length_cons]
    have := cellsOf_len l
    rw [cellsOf] at this
    omega
theorem cellsOf_append (a b : List PV) : cellsOf (a ++ b) = cellsOf a ++ cellsOf b := by rw [cellsOf, List.flatMap_append]; rfl
theorem cellsOf_cons (p : PV) (l : List PV) : cellsOf (p :: l) = (ofP p).cells ++ cellsOf l := by rw [cellsOf, List.flatMap_cons]; rfl
theorem cellsOf_take (l : List PV) (i : Nat) (h : i ≤ l.length) : (cellsOf l).take (i * 7) = cellsOf (l.take i) := by
  conv => lhs; rw [← List.take_append_drop i l, cellsOf_append]
  exact List.take_left' (by rw [cellsOf_len, List.length_take, Nat.min_eq_left h])
theorem cellsOf_drop (l : List PV) (i : Nat) (h : i ≤ l.length) : (cellsOf l).drop (i * 7) = cellsOf (l.drop i) := by
  conv => lhs; rw [← List.take_append_drop i l, cellsOf_append]
  exact List.drop_left' (by rw [cellsOf_len, List.length_take, Nat.min_eq_left h])
theorem cellsOf_one (l : List PV) : ∀ u ∈ cellsOf l, u.oneCell' = true := by
  intro u hu
  obtain ⟨p, _, hp⟩ := List.mem_flatMap.1 hu
  cases p <;> simp [ofP, R7.cells] at hp <;> rcases hp with rfl | rfl | rfl | rfl | rfl | rfl | rfl <;> rfl
theorem cells_one (r : R7) : ∀ u ∈ r.cells, u.oneCell' = true := by
  intro u hu
  simp [R7.cells] at hu
  rcases hu with rfl | rfl | rfl | rfl | rfl | rfl | rfl <;> rfl
theorem cellsOf_at (l : List PV) (j c : Nat) (hj : j < l.length) (hc : c < 7) : (cellsOf l)[j * 7 + c]? = (ofP l[j]).cells[c]? := by
  conv => lhs; rw [← List.take_append_drop j l, cellsOf_append]
  rw [List.getElem?_append_right (by rw [cellsOf_len, List.length_take]; omega), cellsOf_len, List.length_take, Nat.min_eq_left (by omega), Nat.add_sub_cancel_left, List.drop_eq_getElem_cons hj, cellsOf_cons, List.getElem?_append_left (by rw [cells_len]; exact hc)]

theorem cellsP_of (p : PV) : cellsP p (.slice none 0 0) = (ofP p).cells := by cases p <;> rfl

/-- A row of one's own can be read. -/
theorem rowP_own {w : World} {B : Nat} {v : Value} {l : List PV} (h : w.ownsRow B 38 7 v l.length (cellsOf l)) : ∃ ao cap, v = .slice ao l.length cap ∧ RowP w ao l := by
  rcases h.2 with ⟨hv, h0⟩ | ⟨g, cap, cur, hv, _, hg, _, _, hcs, hxs⟩
  · exact ⟨none, 0, by rw [hv, h0], fun j hj => by omega⟩
  · refine ⟨_, cap, hv, fun j hj => ⟨g, 0, none, 0, rfl, (Array.getElem?_eq_some_iff.1 hg).1, fun c u hu => ?_⟩⟩
    rw [cellsP_of] at hu
    have hc : c < 7 := by
      have := (List.getElem?_eq_some_iff.1 hu).1
      rwa [cells_len] at this
    rw [cell_of_block hg, Nat.zero_add]
    rw [← cellsOf_at l j c hj hc, ← hxs, List.getElem?_take] at hu
    split at hu
    · simpa using hu
    · cases hu

theorem rowV_own {w : World} {B : Nat} {v : Value} {l : List PV} (h : w.ownsRow B 38 7 v l.length (cellsOf l)) : ∃ ao cap, v = .slice ao l.length cap ∧ RowV w ao (l.map ofP) := by
  rcases h.2 with ⟨hv, h0⟩ | ⟨g, cap, cur, hv, _, hg, _, _, hcs, hxs⟩
  · exact ⟨none, 0, by rw [hv, h0], fun j hj => by rw [List.length_map] at hj; omega⟩
  · refine ⟨_, cap, hv, fun j hj => ⟨g, 0, rfl, (Array.getElem?_eq_some_iff.1 hg).1, fun c u hu => ?_⟩⟩
    rw [List.getElem_map] at hu
    rw [List.length_map] at hj
    have hc : c < 7 := by
      have := (List.getElem?_eq_some_iff.1 hu).1
      rwa [cells_len] at this
    rw [cell_of_block hg, Nat.zero_add]
    rw [← cellsOf_at l j c hj hc, ← hxs, List.getElem?_take] at hu
    split at hu
    · simpa using hu
    · cases hu

theorem ins_mem {q : PV} : ∀ (S : List PV), Rising lessP S → q ∈ S → ins lessP q S = S
  | y :: S, hr, hq => by
    have hr' := List.pairwise_cons.1 hr
    unfold ins
    rcases List.mem_cons.1 hq with e | e
    · subst e
      rw [sto_lessP.irr]
      rfl
    · rw [if_pos (hr'.1 q e), ins_mem S hr'.2 e]

theorem ins_cut {q : PV} : ∀ (S : List PV) (i : Nat), Cutp S q i → q ∉ S → ins lessP q S = S.take i ++ q :: S.drop i
  | [], i, c, _ => by
    have := c.le
    rw [List.take_nil, List.drop_nil]
    rfl
  | y :: S, 0, c, hq => by
    have h1 := c.hi 0 (by simp) (Nat.le_refl _)
    have h1' : lessP y q = false := h1
    have h2 : lessP q y = true := by
      rcases sto_lessP.tri q y with e | e | e
      · exact e
      · exact absurd (by rw [e]; simp) hq
      · rw [h1'] at e
        cases e
    unfold ins
    rw [h1', h2]
    rfl
  | y :: S, i + 1, c, hq => by
    have h1 : lessP y q = true := c.lo 0 (by simp) (by omega)
    have c' : Cutp S q i := ⟨by have := c.le; simpa using this, fun k h hk => by have := c.lo (k + 1) (by simpa using h) (by omega); simpa using this, fun k h hk => by have := c.hi (k + 1) (by simpa using h) (by omega); simpa using this⟩
    unfold ins
    rw [if_pos h1, ins_cut S i c' (fun h => hq (List.mem_cons_of_mem _ h))]
    rfl

theorem setOf_snoc (l : List PV) (j : Nat) (hj : j < l.length) : setOf lessP (l.take (j + 1)) = ins lessP l[j] (setOf lessP (l.take j)) := by
  rw [List.take_succ_eq_append_getElem hj, setOf, List.foldl_append]
  rfl

theorem len_ins (q : PV) : ∀ S : List PV, S.length ≤ (ins lessP q S).length
  | [] => Nat.zero_le _
  | y :: S => by
    unfold ins
    split
    · have := len_ins q S
      simp only [List.length_cons]
      omega
    · split
      · simp only [List.length_cons]
        omega
      · exact Nat.le_refl _

theorem len_fold : ∀ (l S : List PV), S.length ≤ (l.foldl (fun acc x => ins lessP x acc) S).length
  | [], _ => Nat.le_refl _
  | x :: l, S => Nat.le_trans (len_ins x S) (len_fold l (ins lessP x S))

theorem len_setOf (l : List PV) (j : Nat) : (setOf lessP (l.take j)).length ≤ (setOf lessP l).length := by
  conv => rhs; rw [← List.take_append_drop j l, setOf, List.foldl_append]
  exact len_fold _ _

theorem len_ins_new {q : PV} {S : List PV} {i : Nat} (c : Cutp S q i) (hq : q ∉ S) : (ins lessP q S).length = S.length + 1 := by
  rw [ins_cut S i c hq]
  have := c.le
  simp only [List.length_append, List.length_take, List.length_cons, List.length_drop]
  omega

/-- What stands in a plain value, and what is made of it again. -/
theorem content_value (p : PV) : ∃ (T : TypeId) (f : FuncId) (x : Value), (∀ w, Calls Try.prog 59 #[(ofP p).val] w fun e w' => e = .returned (.iface T x) ∧ Below w.heap.size w w') ∧
    (∀ w, (method 242 T x "chancel/value.value").run Try.prog w = .ok (f, x) w) ∧ (∀ w, (callFunc f #[x]).run Try.prog w = .ok (.enter f #[x]) w) ∧
    (∀ w, Calls Try.prog f #[x] w fun e w' => e = .returned (ofP p).val ∧ Below w.heap.size w w') := by
  cases p with
  | bool b => exact ⟨108, 102, _, fun w => contentOf_plain (.bool b) _ w, mv_truth _, ev_truth _, fun w => truthVal_any b w⟩
  | long n => exact ⟨109, 105, _, fun w => contentOf_plain (.long n) _ w, mv_long _, ev_long _, fun w => longVal_any n w⟩
  | str s => exact ⟨110, 110, _, fun w => contentOf_plain (.str s) _ w, mv_str _, ev_str _, fun w => strVal_any s w⟩
  | uid t i => exact ⟨111, 115, _, fun w => contentOf_plain (.uid t i) _ w, mv_uid _, ev_uid _, fun w => uidVal_any t i w⟩
end Go.Proofs.Ytifkkhngibjalaa
