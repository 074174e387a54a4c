/-
  Plain facts: the steps of a match by two places and the last star (no program in it).
-/
import Derived.Test.YtkgjdddoadnhcaaDoorLikeR
namespace Go.Proofs.YtkgjdddoadnhcaaDoor
open Go

theorem mr_lit (p : List Int) : ∀ (lit s : List Int), (∀ b ∈ lit, b ≠ 42) → (MR (lit ++ p) s ↔ ∃ t, s = lit ++ t ∧ MR p t)
  | [], s, _ => by simp
  | c :: l, s, h => by
    rw [List.cons_append, mr_cons (h c (by simp))]
    constructor
    · rintro ⟨t, rfl, ht⟩
      obtain ⟨t', rfl, h2⟩ := (mr_lit p l t (fun b hb => h b (by simp [hb]))).1 ht
      exact ⟨t', rfl, h2⟩
    · rintro ⟨t, rfl, ht⟩
      exact ⟨l ++ t, rfl, (mr_lit p l (l ++ t) (fun b hb => h b (by simp [hb]))).2 ⟨t, rfl, ht⟩⟩

theorem mr_more (p u v : List Int) (h : MR (42 :: p) v) : MR (42 :: p) (u ++ v) := by
  rw [mr_star] at h ⊢
  obtain ⟨a, b, rfl, hb⟩ := h
  exact ⟨u ++ a, b, by simp, hb⟩

/-- A second star. -/
theorem mr_second (lit q s : List Int) (hl : ∀ b ∈ lit, b ≠ 42) : MR (42 :: (lit ++ 42 :: q)) (lit ++ s) ↔ MR (42 :: q) s := by
  constructor
  · intro h
    rw [mr_star] at h
    obtain ⟨u, v, e, hv⟩ := h
    obtain ⟨t, rfl, ht⟩ := (mr_lit _ lit v hl).1 hv
    have e2 : s = (lit ++ s).drop lit.length := by rw [List.drop_left]
    have e3 : s = (u ++ (lit ++ t)).drop lit.length := by rw [← e]; exact e2
    have e4 : (u ++ (lit ++ t)).drop lit.length = ((u ++ lit).drop lit.length) ++ t := by
      rw [← List.append_assoc, List.drop_append_of_le_length (by rw [List.length_append]; omega)]
    rw [e3, e4]
    exact mr_more q _ t ht
  · intro h
    rw [mr_star]
    exact ⟨[], lit ++ s, rfl, (mr_lit _ lit _ hl).2 ⟨s, rfl, h⟩⟩

/-- The star takes one rune more. -/
theorem mr_next (lit rest s z : List Int) (y : Int) (hl : ∀ b ∈ lit, b ≠ 42) (e : y :: z = lit ++ s) (hno : ¬ MR rest s) : MR (42 :: (lit ++ rest)) (y :: z) ↔ MR (42 :: (lit ++ rest)) z := by
  constructor
  · intro h
    rw [mr_star] at h
    obtain ⟨u, v, e2, hv⟩ := h
    cases u with
    | nil =>
      exfalso
      rw [List.nil_append] at e2
      rw [← e2, e] at hv
      obtain ⟨t, e3, ht⟩ := (mr_lit _ lit _ hl).1 hv
      rw [List.append_cancel_left e3] at hno
      exact hno ht
    | cons a u =>
      rw [List.cons_append] at e2
      rw [mr_star]
      exact ⟨u, v, (List.cons.inj e2).2, hv⟩
  · intro h
    exact mr_more _ [y] z h

/-- The text is at its end. -/
theorem mr_last (lit rest : List Int) (hl : ∀ b ∈ lit, b ≠ 42) : MR (42 :: (lit ++ rest)) lit ↔ MR rest [] := by
  constructor
  · intro h
    rw [mr_star] at h
    obtain ⟨u, v, e, hv⟩ := h
    obtain ⟨t, rfl, ht⟩ := (mr_lit _ lit v hl).1 hv
    have := congrArg List.length e
    rw [List.length_append, List.length_append] at this
    have h0 : t.length = 0 := by omega
    rw [List.length_eq_zero_iff.1 h0] at ht
    exact ht
  · intro h
    rw [mr_star]
    exact ⟨[], lit, rfl, (mr_lit _ lit _ hl).2 ⟨[], by simp, h⟩⟩

theorem mr_none : ∀ (p : List Int), MR p [] ↔ p.all (fun c => c == 42) = true
  | [] => ⟨fun _ => rfl, fun _ => rfl⟩
  | c :: p => by
    by_cases hc : c = 42
    · subst hc
      rw [mr_star]
      have ih := mr_none p
      constructor
      · rintro ⟨u, v, e, hv⟩
        rw [(List.append_eq_nil_iff.1 e.symm).2] at hv
        simpa using ih.1 hv
      · intro h
        exact ⟨[], [], rfl, ih.2 (by simpa using h)⟩
    · rw [mr_cons hc]
      constructor
      · rintro ⟨t, e, _⟩
        cases e
      · intro h
        rw [List.all_cons] at h
        simp [hc] at h
end Go.Proofs.YtkgjdddoadnhcaaDoor
