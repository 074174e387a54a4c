/-
  Plain: steps up and down among entities; what upward tells of them.
  A range over a map to nothing, keyed by uids: its steps, in whatever order.
-/
import Derived.Test.YthmmplmppchfmaaMpHL
import Derived.Test.YthmmplmppchfmaaEfoP
import Derived.Maps.RangeRun
namespace Go.Proofs.Ythmmplmppchfmaa
open Go.RowKit Go.Sort

/-- From an entity to its parents. -/
def upS (ps : List EntP) (u : U2) : List U2 := match findP ps u with
  | some p => p.ps
  | none => []
theorem rising_nodup {ps : List EntP} (hr : RisingP ps) : (ps.map EntP.u).Nodup :=
  List.Pairwise.imp (fun {a b} h e => by rw [e, sto_lessU.irr] at h; cases h) hr
theorem find_mem : ∀ {ps : List EntP}, (ps.map EntP.u).Nodup → ∀ {p : EntP}, p ∈ ps → findP ps p.u = some p
  | q :: ps, hn, p, hp => by
    have hn' := List.nodup_cons.1 (show (q.u :: ps.map EntP.u).Nodup from hn)
    unfold findP
    rw [List.find?_cons]
    rcases List.mem_cons.1 hp with rfl | hp
    · simp
    · have hne : ¬ q.u = p.u := fun e => hn'.1 (by rw [e]; exact List.mem_map_of_mem hp)
      rw [decide_eq_false hne]
      exact find_mem hn'.2 hp
theorem find_is {ps : List EntP} {u : U2} {p : EntP} (h : findP ps u = some p) : p ∈ ps ∧ p.u = u :=
  ⟨List.mem_of_find?_eq_some h, by simpa using List.find?_some h⟩
theorem mem_upS {ps : List EntP} (hn : (ps.map EntP.u).Nodup) (u x : U2) : x ∈ upS ps u ↔ ∃ p ∈ ps, p.u = u ∧ x ∈ p.ps := by
  unfold upS
  constructor
  · intro h
    cases hf : findP ps u with
    | none => rw [hf] at h; cases h
    | some p =>
      rw [hf] at h
      obtain ⟨h1, h2⟩ := find_is hf
      exact ⟨p, h1, h2, h⟩
  · rintro ⟨p, h1, rfl, h2⟩
    rw [find_mem hn h1]
    exact h2
/-- The entities as uids with their parents. -/
def pairsP (ps : List EntP) : List (U2 × List U2) := ps.map fun p => (p.u, p.ps)
theorem mem_down {ps : List EntP} (hn : (ps.map EntP.u).Nodup) (y x : U2) : x ∈ downS (pairsP ps) y ↔ y ∈ upS ps x := by
  rw [mem_upS hn]
  unfold downS
  rw [mem_downS y x (pairsP ps)]
  unfold pairsP
  constructor
  · rintro (h | ⟨q, hq, e, h⟩)
    · cases h
    · obtain ⟨p, hp, rfl⟩ := List.mem_map.1 hq
      exact ⟨p, hp, e.symm, h⟩
  · rintro ⟨p, hp, e, h⟩
    exact .inr ⟨_, List.mem_map_of_mem hp, e.symm, h⟩
theorem Way.trans {S : U2 → List U2} {a b c : U2} (h : Way S a b) (h2 : Way S b c) : Way S a c := by
  induction h2 with
  | here => exact h
  | step _ hx ih => exact .step ih hx
theorem Way.flip {S T : U2 → List U2} (hst : ∀ a b, b ∈ S a → a ∈ T b) {a b : U2} (h : Way S a b) : Way T b a := by
  induction h with
  | here => exact .here _
  | step _ hx ih => exact (Way.step (.here _) (hst _ _ hx)).trans ih
theorem way_down {ps : List EntP} (hn : (ps.map EntP.u).Nodup) (a b : U2) : Way (downS (pairsP ps)) a b ↔ Way (upS ps) b a :=
  ⟨Way.flip fun x y h => (mem_down hn x y).1 h, Way.flip fun x y h => (mem_down hn y x).2 h⟩

theorem putM_end {M : List (U2 × Value)} {u : U2} (h : u ∉ M.map Prod.fst) (v : Value) : putM M u v = M ++ [(u, v)] := by
  unfold putM
  rw [List.findIdx?_eq_none_iff.2 (fun p hp => decide_eq_false fun e => h (by rw [e]; exact List.mem_map_of_mem hp))]
theorem upM_map : ∀ (es : List E4), (es.map e4uM).Nodup → upM es = es.map fun e => (e4uM e, Value.slice e.po e.pl e.pc) := by
  have H : ∀ (es : List E4) (M : List (U2 × Value)), (M.map Prod.fst ++ es.map e4uM).Nodup → es.foldl (fun M e => putM M (e4uM e) (.slice e.po e.pl e.pc)) M = M ++ es.map fun e => (e4uM e, Value.slice e.po e.pl e.pc) := fun es => by
    induction es with
    | nil => intro M _; simp
    | cons e es ih =>
      intro M hn
      rw [List.foldl_cons, putM_end (fun hm => (List.nodup_append.1 hn).2.2 _ hm _ List.mem_cons_self rfl), ih _ (by simpa using hn)]
      simp
  intro es hn
  have h := H es [] (by simpa using hn)
  rw [List.nil_append] at h
  exact h
theorem e4uM_all {w : World} {P : Nat → Prop} {es : List E4} {ps : List EntP} (h : AllEnt w P es ps) : es.map e4uM = ps.map EntP.u := by
  apply List.ext_getElem
  · simpa using h.1
  · intro i h1 h2
    simp only [List.getElem_map]
    exact (h.2 i (by simpa using h1) (by simpa using h2)).u
theorem rowG_blk {w : World} {ao : Option Addr} {k : Nat} {xs : List (List Value)} (h : RowG w ao k xs) (hne : xs ≠ []) : ∀ ad, ao = some ad → ad.block < w.heap.size := fun ad e => by
  have h0 : 0 < xs.length := List.length_pos_iff.2 hne
  obtain ⟨b, off, e2, hb, _⟩ := h 0 h0
  rw [e] at e2
  cases e2
  exact hb
/-- Steps up, in memory. -/
theorem steps_up {w : World} {P : Nat → Prop} {es : List E4} {ps : List EntP} (h : AllEnt w P es ps) (hr : (ps.map EntP.u).Nodup) (hl : ∀ p ∈ ps, p.ps.length ≤ 1000) : StepsR w w.heap.size (upM es) (upS ps) := fun u => by
  rw [upM_map es (by rw [e4uM_all h]; exact hr)]
  unfold upS
  cases hf : findP ps u with
  | none =>
    refine ⟨none, 0, ?_, fun j hj => absurd hj (Nat.not_lt_zero _), fun ad e _ => (by cases e), Nat.zero_le _⟩
    rw [lookM_none]
    · rfl
    · unfold hasM
      rw [List.any_eq_false]
      intro q hq hd
      obtain ⟨e, he, rfl⟩ := List.mem_map.1 hq
      have hu : u = e4uM e := by simpa using hd
      have : u ∈ ps.map EntP.u := by rw [← e4uM_all h, hu]; exact List.mem_map_of_mem he
      obtain ⟨p, hp, e2⟩ := List.mem_map.1 this
      have := find_mem hr hp
      rw [e2, hf] at this
      cases this
  | some p =>
    obtain ⟨hp, hu⟩ := find_is hf
    have hm : hasM (es.map fun e => (e4uM e, Value.slice e.po e.pl e.pc)) u = true := by
      unfold hasM
      rw [List.any_eq_true]
      have : u ∈ es.map e4uM := by rw [e4uM_all h, ← hu]; exact List.mem_map_of_mem hp
      obtain ⟨e, he, e2⟩ := List.mem_map.1 this
      exact ⟨_, List.mem_map_of_mem he, by simp [e2]⟩
    obtain ⟨i, hi, e1, e2⟩ := lookM_some hm
    have hi' : i < es.length := by simpa using hi
    have hip : i < ps.length := by rw [← h.1]; exact hi'
    have I := h.2 i hi' hip
    simp only [List.getElem_map] at e1 e2
    have hpi : ps[i] = p := by
      have := find_mem hr (List.getElem_mem hip)
      rw [← I.u] at this
      rw [show (⟨es[i].t, es[i].i⟩ : U2) = u from e1.symm, hf] at this
      cases this
      rfl
    rw [hpi] at I
    refine ⟨es[i].po, es[i].pc, ?_, I.rowU, fun ad e hne => ?_, hl p hp⟩
    · rw [e2]
      show Value.slice es[i].po es[i].pl es[i].pc = _
      rw [I.pl]
    · exact rowG_blk I.rowU (by simpa using hne) ad e
/-- Entities with their parents, for downward. -/
theorem down_all {w : World} {P : Nat → Prop} {es : List E4} {ps : List EntP} (h : AllEnt w P es ps) (hl : ∀ p ∈ ps, p.ps.length ≤ 1000) : DownE w es (pairsP ps) := by
  refine ⟨by unfold pairsP; rw [List.length_map]; exact h.1.symm, fun j hj hlj => ?_⟩
  have hjp : j < ps.length := by simpa [pairsP] using hlj
  have I := h.2 j hj hjp
  have e : (pairsP ps)[j] = (ps[j].u, ps[j].ps) := by simp [pairsP]
  rw [e]
  exact ⟨I.u.symm, I.pl, I.rowU, fun ad ea hne => rowG_blk I.rowU (by simpa using hne) ad ea, hl _ (List.getElem_mem hjp)⟩
end Go.Proofs.Ythmmplmppchfmaa

namespace Go.Proofs.Ythmmplmppchfmaa
open Go.RowKit Go.Sort
open Go.ChangeMaps (setBlock)

/-- The loop's block r goes over the map's block b: rest is what is yet to come. -/
def IterM (w : World) (r b : Nat) (m rest : List U2) : Prop :=
  ∃ es clock seen, AtMap w b (setM m) es clock ∧ w.heap[r]? = some (.mapIter (some b) clock seen clock) ∧ (leftOf es seen).toList.map (fun e => (e.key, e.val)) = rest.map fun u => (u.val, Value.agg #[])
theorem IterM.turn {w w' : World} {r b : Nat} {m rest : List U2} (h : IterM w r b m rest) (h1 : w'.heap[r]? = w.heap[r]?) (h2 : w'.heap[b]? = w.heap[b]?) : IterM w' r b m rest := by
  obtain ⟨es, clock, seen, A, hr, hl⟩ := h
  exact ⟨es, clock, seen, ⟨h2.trans A.heap, A.rep, A.rise, A.old⟩, h1.trans hr, hl⟩
theorem IterM.lt {w : World} {r b : Nat} {m rest : List U2} (h : IterM w r b m rest) : r < w.heap.size ∧ b < w.heap.size := by
  obtain ⟨es, clock, seen, A, hr, _⟩ := h
  exact ⟨(Array.getElem?_eq_some_iff.1 hr).1, (Array.getElem?_eq_some_iff.1 A.heap).1⟩
theorem IterM.below {w w' : World} {r b : Nat} {m rest : List U2} (h : IterM w r b m rest) (hb : Below w.heap.size w w') : IterM w' r b m rest := h.turn (hb.block _ h.lt.1) (hb.block _ h.lt.2)
theorem IterM.map {w : World} {r b : Nat} {m rest : List U2} (h : IterM w r b m rest) : IsMap w b (setM m) := by
  obtain ⟨es, clock, seen, A, _, _⟩ := h
  exact ⟨es, clock, A⟩
theorem run_rangeU {t e : TypeId} (ht : Try.prog.underlying t = some (.map 28 e)) {w : World} {b : Nat} {m : List U2} (h : IsMap w b (setM m)) :
    ∃ w', (Instr.range t (.map (some b))).run Try.prog w = .ok (.pointer (some ⟨w.heap.size, 0, none⟩)) w' ∧ IterM w' w.heap.size b m m ∧ Below w.heap.size w w' ∧ w'.heap.size = w.heap.size + 1 := by
  have hlt := h.lt
  obtain ⟨es, clock, A⟩ := h
  refine ⟨_, run_range_map w t 28 e b es clock ht A.heap, ⟨es, clock, #[], ⟨((heap_alloc_old w _ hlt)).trans A.heap, A.rep, A.rise, A.old⟩, heap_alloc_new w _, ?_⟩, belowA _ _, sizeA _ _⟩
  have : leftOf es #[] = es := by
    unfold leftOf
    exact Array.filter_eq_self.2 fun x _ => by simp
  rw [this, A.rep]
  unfold setM
  rw [List.map_map]
  rfl
theorem born_erase : ∀ (L : List MapEntry) (j : Nat) (hj : j < L.length), (L.map MapEntry.born).Pairwise (· < ·) → L.filter (fun x => !(x.born == L[j].born)) = L.eraseIdx j
  | a :: L, 0, _, hp => by
    have hp' := List.pairwise_cons.1 (show (a.born :: L.map MapEntry.born).Pairwise (· < ·) from hp)
    rw [List.filter_cons]
    simp only [List.getElem_cons_zero, beq_self_eq_true, Bool.not_true, Bool.false_eq_true, if_false, List.eraseIdx_cons_zero]
    refine List.filter_eq_self.2 fun x hx => ?_
    have := hp'.1 x.born (List.mem_map_of_mem hx)
    have hne : ¬ x.born = a.born := by omega
    simp [hne]
  | a :: L, j + 1, hj, hp => by
    have hp' := List.pairwise_cons.1 (show (a.born :: L.map MapEntry.born).Pairwise (· < ·) from hp)
    have hj' : j < L.length := by simpa using hj
    have := hp'.1 L[j].born (List.mem_map_of_mem (List.getElem_mem hj'))
    have hne : ¬ a.born = L[j].born := by omega
    rw [List.filter_cons]
    simp only [List.getElem_cons_succ, List.eraseIdx_cons_succ]
    rw [if_pos (by simp [hne]), born_erase L j hj' hp'.2]
theorem left_push (es : Array MapEntry) (seen : Array Nat) (b : Nat) : (leftOf es (seen.push b)).toList = (leftOf es seen).toList.filter fun x => !(x.born == b) := by
  unfold leftOf
  rw [Array.toList_filter, Array.toList_filter, List.filter_filter]
  congr 1
  funext x
  rw [contains_push]
  cases seen.contains x.born <;> cases (x.born == b) <;> rfl
theorem map_eraseIdx {α β : Type} (f : α → β) : ∀ (l : List α) (i : Nat), (l.eraseIdx i).map f = (l.map f).eraseIdx i
  | [], _ => rfl
  | _ :: _, 0 => rfl
  | a :: l, i + 1 => by
    simp only [List.eraseIdx_cons_succ, List.map_cons]
    rw [map_eraseIdx f l i]
/-- A step: nothing is left, or one of what is left comes. -/
theorem IterM.next {w : World} {r b : Nat} {m rest : List U2} (h : IterM w r b m rest) (hrb : r ≠ b) (ty : TypeId) :
    (rest = [] ∧ (Instr.next (.pointer (some ⟨r, 0, none⟩)) false ty).run Try.prog w = .ok (.tuple #[.bool false]) w) ∨
    ∃ i, ∃ hi : i < rest.length, ∃ w', (Instr.next (.pointer (some ⟨r, 0, none⟩)) false ty).run Try.prog w = .ok (.tuple #[.bool true, rest[i].val, .agg #[]]) w' ∧ IterM w' r b m (rest.eraseIdx i) ∧ (∀ k, k ≠ r → w'.heap[k]? = w.heap[k]?) ∧ w'.heap.size = w.heap.size ∧ (∀ B, B ≤ r → Below B w w') ∧
      (∀ w2 : World, w2.heap[r]? = w'.heap[r]? → w2.heap[b]? = w'.heap[b]? → (Instr.entry (.pointer (some ⟨r, 0, none⟩))).run Try.prog w2 = .ok (.tuple #[rest[i].val, .agg #[]]) w2) := by
  obtain ⟨es, clock, seen, A, hr, hl⟩ := h
  have hlen : (leftOf es seen).size = rest.length := by
    have := congrArg List.length hl
    simpa using this
  rcases run_next_at (P := Try.prog) w ty r b clock clock seen es clock hr A.heap A.old (Nat.le_refl _) with ⟨h0, hrun⟩ | ⟨e, he, w1, hw1, hrun⟩
  · exact .inl ⟨List.length_eq_zero_iff.1 (by omega), hrun⟩
  · obtain ⟨i, hi, rfl⟩ := List.getElem_of_mem he
    have hi' : i < rest.length := by
      rw [← hlen]
      simpa using hi
    have hkv := congrArg (fun l => l[i]?) hl
    simp only [List.getElem?_map, List.getElem?_eq_getElem hi, List.getElem?_eq_getElem hi', Option.map_some, Option.some.injEq, Prod.mk.injEq] at hkv
    obtain ⟨hk, hv⟩ := hkv
    have hborn : ((leftOf es seen).toList.map MapEntry.born).Pairwise (· < ·) := by
      unfold leftOf
      rw [Array.toList_filter]
      exact A.rise.sublist ((List.filter_sublist).map _)
    have hmem := (mem_left he).1
    have hrl : r < w.heap.size := (Array.getElem?_eq_some_iff.1 hr).1
    have h1 : w1.heap = w.heap ∧ (∀ B, Below B w w1) := by
      rcases hw1 with rfl | rfl
      · exact ⟨rfl, fun B => Below.refl _ _⟩
      · exact ⟨rfl, fun B => (Below.refl _ _).drew⟩
    have hoth : ∀ k, k ≠ r → (setBlock w1 r (.mapIter (some b) clock (seen.push (leftOf es seen).toList[i].born) clock)).heap[k]? = w.heap[k]? := fun k hk => by
      unfold setBlock
      show (w1.heap.setIfInBounds r _)[k]? = _
      rw [Array.getElem?_setIfInBounds, if_neg (fun e => hk e.symm), h1.1]
    have hown : (setBlock w1 r (.mapIter (some b) clock (seen.push (leftOf es seen).toList[i].born) clock)).heap[r]? = some (.mapIter (some b) clock (seen.push (leftOf es seen).toList[i].born) clock) := by
      unfold setBlock
      show (w1.heap.setIfInBounds r _)[r]? = _
      rw [Array.getElem?_setIfInBounds, if_pos rfl, if_pos (by rw [h1.1]; exact hrl)]
    have hsz : (setBlock w1 r (.mapIter (some b) clock (seen.push (leftOf es seen).toList[i].born) clock)).heap.size = w.heap.size := by
      unfold setBlock
      show (w1.heap.setIfInBounds r _).size = _
      rw [Array.size_setIfInBounds, h1.1]
    refine .inr ⟨i, hi', _, by rw [hrun, hk, hv], ⟨es, clock, seen.push (leftOf es seen).toList[i].born, ⟨(hoth b fun e => hrb e.symm).trans A.heap, A.rep, A.rise, A.old⟩, hown, ?_⟩, hoth, hsz, fun B hB => ?_, fun w2 e1 e2 => ?_⟩
    · rw [left_push, born_erase _ i hi hborn, map_eraseIdx, hl, map_eraseIdx]
    · have hb := h1.2 B
      exact ⟨hb.1, hb.2, hb.3, by rw [hsz]; exact Nat.le_refl _, fun k hk => hoth k (by omega)⟩
    · have hn : (es.toList.map (·.born)).Nodup := List.Pairwise.imp (fun {a b} h e => by omega) A.rise
      have := run_entry_at (P := Try.prog) w2 r b clock seen es clock (leftOf es seen).toList[i] (e1.trans hown) (e2.trans ((hoth b fun e => hrb e.symm).trans A.heap)) hmem hn
      rw [this, hk, hv]
end Go.Proofs.Ythmmplmppchfmaa
