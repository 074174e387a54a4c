/-
  Environments: those of no scopes, those of one (no walk in it).
-/
import Derived.Test.YtjajhmojcmfidabTyH
import Derived.Test.YtjajhmojcmfidabSgFew
namespace Go.Proofs.Ytjajhmojcmfidab
open Go.RowKit Go.Sort

def allR (a : AP) (p : ByteArray) (l : List ByteArray) : List V3 := l.map fun r => ⟨p, a.nm, r⟩
def allQ (a : AP) (l : List ByteArray) : List V3 := l.flatMap fun p => allR a p a.re
def allA (l : List AP) : List V3 := l.flatMap fun a => allQ a a.pr
def sumA (l : List AP) : Nat := (l.map fun a => a.pr.length * a.re.length).sum
theorem allQ_len (a : AP) (l : List ByteArray) : (allQ a l).length = l.length * a.re.length := by
  induction l with
  | nil => simp [allQ]
  | cons p t ih =>
    unfold allQ at ih ⊢
    rw [List.flatMap_cons, List.length_append, ih]
    simp [allR, Nat.succ_mul, Nat.add_comm]
theorem allA_len (l : List AP) : (allA l).length = sumA l := by
  induction l with
  | nil => rfl
  | cons a t ih =>
    unfold allA sumA at ih ⊢
    rw [List.flatMap_cons, List.length_append, ih, allQ_len, List.map_cons, List.sum_cons]
theorem envs_all {q : Q7} (h1 : q.pk ≠ 1) (h2 : q.rk ≠ 1) (h3 : q.ak = 0) (s : SP) : envsP q s = allA s.ac := by
  unfold envsP envA allA
  congr 1
  funext a
  have e1 : meetA q.ak q.at_ q.ai a.nm = true := by unfold meetA; simp [h3]
  rw [e1, if_pos rfl]
  unfold envQ allQ
  congr 1
  funext p
  unfold envR allR
  induction a.re with
  | nil => rfl
  | cons r t ih =>
    rw [List.flatMap_cons, ih]
    have e2 : (meetT q.pk q.pt p && meetT q.rk q.rt r) = true := by unfold meetT; simp [h1, h2]
    rw [e2, if_pos rfl]
    rfl
theorem envs_some {q : Q7} (h1 : q.pk = 1) (h2 : q.rk ≠ 1) (h3 : q.ak = 0) (s : SP) : envsP q s = (allA s.ac).filter fun v => decide (q.pt = v.p) := by
  unfold envsP envA allA
  induction s.ac with
  | nil => rfl
  | cons a t ih =>
    rw [List.flatMap_cons, List.flatMap_cons, List.filter_append, ih]
    congr 1
    have e1 : meetA q.ak q.at_ q.ai a.nm = true := by unfold meetA; simp [h3]
    rw [e1, if_pos rfl]
    unfold envQ allQ
    induction a.pr with
    | nil => rfl
    | cons p u ih2 =>
      rw [List.flatMap_cons, List.flatMap_cons, List.filter_append, ih2]
      congr 1
      unfold envR allR
      induction a.re with
      | nil => rfl
      | cons r x ih3 =>
        rw [List.flatMap_cons, ih3, List.map_cons, List.filter_cons]
        have e2 : (meetT q.pk q.pt p && meetT q.rk q.rt r) = decide (q.pt = p) := by unfold meetT; simp [h1, h2]
        rw [e2]
        cases decide (q.pt = p) <;> rfl
theorem sumA_next (l : List AP) (i : Nat) (h : i < l.length) : sumA (l.take (i + 1)) = sumA (l.take i) + l[i].pr.length * l[i].re.length := by
  unfold sumA
  rw [List.take_succ_eq_append_getElem h, List.map_append, List.sum_append]
  simp
theorem sumA_small {l : List AP} (h : l.length ≤ 15) (ha : ∀ a ∈ l, a.pr.length ≤ 4 ∧ a.re.length ≤ 4) : sumA l ≤ 240 := by
  have : ∀ l : List AP, (∀ a ∈ l, a.pr.length ≤ 4 ∧ a.re.length ≤ 4) → sumA l ≤ l.length * 16 := by
    intro l
    induction l with
    | nil => intro _; simp [sumA]
    | cons a t ih =>
      intro ha
      have h1 := ih (fun b hb => ha b (List.mem_cons_of_mem _ hb))
      have h2 := ha a List.mem_cons_self
      have h3 : a.pr.length * a.re.length ≤ 4 * 4 := Nat.mul_le_mul h2.1 h2.2
      unfold sumA at h1 ⊢
      rw [List.map_cons, List.sum_cons, List.length_cons]
      omega
  have := this l ha
  omega
theorem filter_next {α : Type} (f : α → Bool) (l : List α) (i : Nat) (h : i < l.length) : (l.take (i + 1)).filter f = (l.take i).filter f ++ (if f l[i] then [l[i]] else []) := by
  rw [List.take_succ_eq_append_getElem h, List.filter_append]
  cases e : f l[i] <;> simp [e]
/-- The one that is met next stands there among those that are left. -/
theorem filter_at {α : Type} (f : α → Bool) (l : List α) (i : Nat) (h : i < l.length) (hf : f l[i] = true) : ∃ hm : ((l.take i).filter f).length < (l.filter f).length, (l.filter f)[((l.take i).filter f).length] = l[i] := by
  have e : l.filter f = (l.take i).filter f ++ (l[i] :: (l.drop (i + 1)).filter f) := by
    conv => lhs; rw [← List.take_append_drop i l]
    rw [List.filter_append, List.drop_eq_getElem_cons h, List.filter_cons, hf]
    rfl
  have hl : ((l.take i).filter f).length < (l.filter f).length := by
    rw [e, List.length_append, List.length_cons]
    omega
  refine ⟨hl, ?_⟩
  have : (l.filter f)[((l.take i).filter f).length]? = some l[i] := by
    rw [e, List.getElem?_append_right (Nat.le_refl _)]
    simp
  rw [List.getElem?_eq_getElem hl] at this
  injection this
/-- An element's three cells. -/
theorem RowV3.get {w wr : World} {ao : Option Addr} {l : List V3} (h : RowV3 w ao l) (hbw : Below w.heap.size w wr) {j : Nat} (hj : j < l.length) : ∃ b off, ao = some ⟨b, off, none⟩ ∧ b < w.heap.size ∧ wr.cell? ⟨b, off + j * 3, none⟩ = some (.string l[j].p) ∧ wr.cell? ⟨b, off + j * 3 + 1, none⟩ = some (.string l[j].a) ∧ wr.cell? ⟨b, off + j * 3 + 2, none⟩ = some (.string l[j].r) := by
  obtain ⟨b, off, e, hb, hc⟩ := rowG_at h hbw hj
  exact ⟨b, off, e, hb, hc 0 _ rfl, hc 1 _ rfl, hc 2 _ rfl⟩
theorem RowV3.below {w w' : World} {ao : Option Addr} {l : List V3} (h : RowV3 w ao l) (hb : Below w.heap.size w w') : RowV3 w' ao l := RowG.below h hb
set_option maxRecDepth 100000 in
theorem equalV3 (a b : V3) (W : World) : (Op.equal 39 a.val b.val).run Try.prog W = .ok (decide (a = b)) W := by
  obtain ⟨a0, a1, a2⟩ := a
  obtain ⟨b0, b1, b2⟩ := b
  unfold Op.equal Op.maxDepth V3.val
  rw [Op.equalIn]
  simp [go_sem]
  by_cases h0 : a0 = b0 <;> by_cases h1 : a1 = b1 <;> by_cases h2 : a2 = b2 <;> simp [toList_ba, h0, h1, h2]
theorem binNeqV3 (a b : V3) (W : World) : (binOp .neq 39 (.agg #[.string a.p, .string a.a, .string a.r]) (.agg #[.string b.p, .string b.a, .string b.r])).run Try.prog W = .ok (.bool (!decide (a = b))) W := by
  have h := equalV3 a b W
  unfold V3.val at h
  simp only [binOp, Sem.run_bind, h, Result.andThen_ok, Sem.run_pure]
end Go.Proofs.Ytjajhmojcmfidab
