/-
  value.checkElements; value.Check of sets.
-/
import Derived.Test.YtppincbcaijcbabVdD
import Derived.Test.YtppincbcaijcbabVcS
namespace Go.Proofs.Ytppincbcaijcbab
open Go.RowKit Go.Sort

/-- The plain value that a value is, by its kind. -/
def toP (r : R7) : PV := if r.k = 1 then .bool r.b else if r.k = 2 then .long r.n else if r.k = 3 then .str r.s.data.toList else .uid r.t.data.toList r.i.data.toList

def lessR (a b : R7) : Bool := lessP (toP a) (toP b)

/-- Is it above the one ahead? -/
def prevOk : Option R7 → R7 → Bool
  | none, _ => true
  | some p, e => lessR p e

/-- What the elements of a set are told, one by one; k0: the first one's kind. -/
def chkFrom (k0 : Int) : Option R7 → List R7 → Int
  | _, [] => 0
  | prev, e :: t => if mayB e.k k0 = false then 16 else if chkFlat e ≠ 0 then chkFlat e else if prevOk prev e = false then 1 else chkFrom k0 (some e) t

theorem chkFrom_cons (k0 : Int) (prev : Option R7) (e : R7) (t : List R7) : chkFrom k0 prev (e :: t) = if mayB e.k k0 = false then 16 else if chkFlat e ≠ 0 then chkFlat e else if prevOk prev e = false then 1 else chkFrom k0 (some e) t := by
  cases prev <;> rfl

def chkEls (es : List R7) : Int := if 8 < es.length then 4 else match es with | [] => 0 | e :: _ => chkFrom e.k none es

theorem plain_of_chk (r : R7) (h5 : r.k ≠ 5) (h : chkFlat r = 0) : r.val = valP (toP r) (.slice r.lo 0 r.lc) := by
  unfold chkFlat at h
  split at h
  · cases h
  · split at h
    · cases h
    · rename_i hk hm
      have hs : SameF r (bareR r) := by
        have hm' : moreB r = false := by simpa using hm
        unfold moreB at hm'
        rw [decide_eq_false_iff_not] at hm'
        exact Classical.not_not.1 hm'
      obtain ⟨k, b, n, s, t, i, lo, ll, lc⟩ := r
      unfold SameF bareR at hs
      simp only at hs hk h5 ⊢
      obtain ⟨e1, e2, e3, e4, e5, e6⟩ := hs
      have hK : k = 1 ∨ k = 2 ∨ k = 3 ∨ k = 4 := by omega
      rcases hK with rfl | rfl | rfl | rfl
      · rw [if_neg (by decide)] at e2 e3 e4 e5 e6
        subst e2 e3 e4 e5 e6
        rfl
      · rw [if_neg (by decide)] at e1 e3 e4 e5 e6
        subst e1 e3 e4 e5 e6
        rfl
      · rw [if_neg (by decide)] at e1 e2 e4 e5 e6
        subst e1 e2 e4 e5 e6
        rfl
      · rw [if_neg (by decide)] at e1 e2 e3 e6
        subst e1 e2 e3 e6
        rfl

theorem compare_R (a b : R7) (ha : a.k ≠ 5) (hb : b.k ≠ 5) (h1 : chkFlat a = 0) (h2 : chkFlat b = 0) (w : World) :
    Calls Try.prog 14 #[a.val, b.val] w fun e w' => e = .returned (.int .i64 (cmpP (toP a) (toP b))) ∧ Below w.heap.size w w' := by
  rw [plain_of_chk a ha h1, plain_of_chk b hb h2]
  exact compare_plain _ _ _ _ _ _ _ _ w

theorem less_R (a b : R7) (ha : a.k ≠ 5) (hb : b.k ≠ 5) (h1 : chkFlat a = 0) (h2 : chkFlat b = 0) (w : World) :
    Calls Try.prog 37 #[a.val, b.val] w fun e w' => e = .returned (.bool (lessR a b)) ∧ Below w.heap.size w w' := by
  unfold lessR
  rw [← less_cmp]
  exact less_of _ _ _ w fun w' _ => compare_R a b ha hb h1 h2 w'

theorem mayB_five {k k0 : Int} (h : mayB k k0 = true) : k ≠ 5 := by
  unfold mayB at h
  simp at h
  exact h.1

/-- The loop's memory: what is left to be told is told of the rest. -/
structure ChkInv (es : List R7) (h0 : 0 < es.length) (j : Nat) : Prop where
  le : j ≤ es.length
  rest : chkFrom es[0].k none es = chkFrom es[0].k (if j = 0 then none else es[j - 1]?) (es.drop j)
  prev : ∀ (h : j - 1 < es.length), 0 < j → es[j - 1].k ≠ 5 ∧ chkFlat es[j - 1] = 0

theorem chk_start (es : List R7) (h0 : 0 < es.length) : ChkInv es h0 0 := ⟨Nat.zero_le _, rfl, fun _ h => absurd h (Nat.not_lt_zero _)⟩

/-- One round: what it tells, or how it goes on. -/
theorem chk_round {es : List R7} {h0 : 0 < es.length} {j : Nat} (inv : ChkInv es h0 j) (hj : j < es.length) :
    (mayB es[j].k es[0].k = false → chkFrom es[0].k none es = 16) ∧
    (mayB es[j].k es[0].k = true → chkFlat es[j] ≠ 0 → chkFrom es[0].k none es = chkFlat es[j]) ∧
    (mayB es[j].k es[0].k = true → chkFlat es[j] = 0 → (j = 0 ∨ ∃ h : j - 1 < es.length, lessR es[j - 1] es[j] = true) → ChkInv es h0 (j + 1)) ∧
    (mayB es[j].k es[0].k = true → chkFlat es[j] = 0 → 0 < j → (∀ h : j - 1 < es.length, lessR es[j - 1] es[j] = false) → chkFrom es[0].k none es = 1) := by
  have hd : es.drop j = es[j] :: es.drop (j + 1) := List.drop_eq_getElem_cons hj
  have hr := inv.rest
  rw [hd] at hr
  refine ⟨fun h => ?_, fun h hc => ?_, fun h hc ho => ⟨by omega, ?_, fun _ _ => ?_⟩, fun h hc hpos hl => ?_⟩
  · rw [hr, chkFrom_cons, if_pos h]
  · rw [hr, chkFrom_cons, if_neg (by rw [h]; decide), if_pos hc]
  · rw [hr, chkFrom_cons, if_neg (by rw [h]; decide), if_neg (fun hn => hn hc), if_neg]
    · rw [if_neg (by omega), Nat.add_sub_cancel, List.getElem?_eq_getElem hj]
    · rcases ho with rfl | ⟨h1, h2⟩
      · rw [if_pos rfl]
        exact fun h => by cases h
      · by_cases hz : j = 0
        · rw [if_pos hz]
          exact fun h => by cases h
        · rw [if_neg hz, List.getElem?_eq_getElem h1]
          simp [prevOk, h2]
  · simp only [Nat.add_sub_cancel]
    exact ⟨mayB_five h, hc⟩
  · rw [hr, chkFrom_cons, if_neg (by rw [h]; decide), if_neg (fun hn => hn hc), if_pos]
    rw [if_neg (by omega), List.getElem?_eq_getElem (show j - 1 < es.length by omega)]
    exact hl _

theorem chk_end {es : List R7} {h0 : 0 < es.length} {j : Nat} (inv : ChkInv es h0 j) (hj : ¬ j < es.length) : chkFrom es[0].k none es = 0 := by
  rw [inv.rest, List.drop_eq_nil_of_le (by omega)]
  split <;> rfl
end Go.Proofs.Ytppincbcaijcbab
