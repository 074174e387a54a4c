/-
  Trees in memory, and what is plain of them.
-/
import Derived.Test.YtlakgnnjokienaaGreatDoorPcB
namespace Go.Proofs.YtlakgnnjokienaaGreatDoor
open Go.RowKit Go.Sort

mutual
/-- Not too great. -/
def okB : Ex → Bool
  | .mk _ _ _ s t i l => decide (s.length ≤ 100000) && (decide (t.length ≤ 100000) && (decide (i.length ≤ 100000) && (decide (l.length ≤ 100000) && okBs l)))
def okBs : List Ex → Bool
  | [] => true
  | e :: l => okB e && okBs l
end
theorem okBs_get : ∀ (l : List Ex) (j : Nat) (h : j < l.length), okBs l = true → okB l[j] = true
  | [], j, h, _ => by simp at h
  | e :: l, 0, _, h => by
    unfold okBs at h
    simp only [Bool.and_eq_true] at h
    exact h.1
  | e :: l, j + 1, hj, h => by
    unfold okBs at h
    simp only [Bool.and_eq_true] at h
    exact okBs_get l j (by simpa using hj) h.2
theorem nodesL_drop (l : List Ex) (k : Nat) (h : k < l.length) : nodesL (l.drop k) = if nodesE l[k] = 0 then nodesL (l.drop (k + 1)) else nodesE l[k] := by
  rw [List.drop_eq_getElem_cons h, nodesL]
theorem depL_take : ∀ (l : List Ex) (k : Nat) (h : k < l.length), depL (l.take (k + 1)) = max (depL (l.take k)) (depE l[k])
  | [], k, h => by simp at h
  | e :: l, 0, _ => by
    simp [depL]
  | e :: l, k + 1, h => by
    have := depL_take l k (by simpa using h)
    rw [List.take_succ_cons, List.take_succ_cons, depL, depL, this]
    simp only [List.getElem_cons_succ]
    omega

theorem nodeX_is {w : World} {P : Nat → Prop} {r : R7} {k : Int} {b : Bool} {n : Int} {s t i : List UInt8} {l : List Ex} (h : IsE w P r (.mk k b n s t i l)) : nodeX r = nodeE k b n s t i l.length := by
  unfold IsE at h
  obtain ⟨rfl, rfl, rfl, hs, ht, hi, hl, _⟩ := h
  have es : r.s.data.toList = s := by rw [hs]; rfl
  have et : r.t.data.toList = t := by rw [ht]; rfl
  have ei : r.i.data.toList = i := by rw [hi]; rfl
  have zb : ∀ (y : ByteArray) (z : List UInt8), y = ba z → (y = (⟨#[]⟩ : ByteArray) ↔ z = []) := by
    intro y z e
    subst e
    constructor
    · intro e2
      have : (ba z).data.toList = [] := by rw [e2]
      exact this
    · intro e2
      subst e2
      rfl
  have z1 := zb r.s s hs
  have z2 := zb r.t t ht
  have z3 := zb r.i i hi
  have c1 : (r.b = if r.k = 1 then r.b else false) ↔ (decide (r.k = 1) || !r.b) = true := by by_cases h : r.k = 1 <;> simp [h]
  have c2 : (r.n = if r.k = 2 then r.n else 0) ↔ (decide (r.k = 2) || decide (r.n = 0)) = true := by by_cases h : r.k = 2 <;> simp [h]
  have c3 : (r.s = if txOp r.k then r.s else ⟨#[]⟩) ↔ (txOp r.k || decide (s = [])) = true := by cases txOp r.k <;> simp [z1]
  have c4 : (r.t = if r.k = 4 then r.t else ⟨#[]⟩) ↔ (decide (r.k = 4) || decide (t = [])) = true := by by_cases h : r.k = 4 <;> simp [h, z2]
  have c5 : (r.i = if r.k = 4 then r.i else ⟨#[]⟩) ↔ (decide (r.k = 4) || decide (i = [])) = true := by by_cases h : r.k = 4 <;> simp [h, z3]
  have hsx : decide (SameX r (bareX r)) = ((decide (r.k = 1) || !r.b) && ((decide (r.k = 2) || decide (r.n = 0)) && ((txOp r.k || decide (s = [])) && ((decide (r.k = 4) || decide (t = [])) && (decide (r.k = 4) || decide (i = [])))))) := by
    rw [Bool.eq_iff_iff, decide_eq_true_eq, Bool.and_eq_true, Bool.and_eq_true, Bool.and_eq_true, Bool.and_eq_true, ← c1, ← c2, ← c3, ← c4, ← c5]
    rfl
  have hbool : ∀ A1 b A2 N0 X S0 A4 T0 I0 neg : Bool, ((!((A1 || !b) && ((A2 || N0) && ((X || S0) && ((A4 || T0) && (A4 || I0)))))) || neg) = ((!A1 && b) || (!A2 && !N0) || (!X && !S0) || (!A4 && (!T0 || !I0)) || neg) := by decide
  have hm : (moreX r || decide (r.n < 0)) = moreE r.k r.b r.n s t i := by
    have e : moreX r = !decide (SameX r (bareX r)) := by unfold moreX; exact decide_not
    rw [e, hsx]
    exact hbool _ _ _ _ _ _ _ _ _ _
  unfold nodeX nodeE ownX
  rw [hm, hl, es, et, ei]

end Go.Proofs.YtlakgnnjokienaaGreatDoor
