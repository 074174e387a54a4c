/-
  Plain facts: the state of a match by two places and the last star, and its steps (no program in it).
-/
import Derived.Test.YtkgjdddoadnhcaaDoorLikeS
namespace Go.Proofs.YtkgjdddoadnhcaaDoor
open Go

/-- What the state (the places i and k, the last star, the place where its piece was last laid) says of the whole. -/
def LkInv (A P : List Int) (i k : Nat) (star : Int) (at_ : Nat) : Prop :=
  i ≤ A.length ∧ k ≤ P.length ∧
    ((star = -1 ∧ at_ = 0 ∧ (MR P A ↔ MR (P.drop k) (A.drop i))) ∨
      ∃ (g : Nat) (lit : List Int), star = g ∧ g + 1 + lit.length = k ∧ at_ + lit.length = i ∧ (∀ b ∈ lit, b ≠ 42) ∧ P.drop g = 42 :: (lit ++ P.drop k) ∧ A.drop at_ = lit ++ A.drop i ∧ (MR P A ↔ MR (P.drop g) (A.drop at_)))

theorem lk_start (A P : List Int) : LkInv A P 0 0 (-1) 0 := ⟨by omega, by omega, .inl ⟨rfl, rfl, by simp⟩⟩

theorem lk_bounds {A P : List Int} {i k : Nat} {star : Int} {at_ : Nat} (h : LkInv A P i k star at_) : i ≤ A.length ∧ k ≤ P.length ∧ -1 ≤ star ∧ star < k ∧ at_ ≤ i := by
  obtain ⟨h1, h2, ⟨h3, h4, _⟩ | ⟨g, lit, h3, h4, h5, _⟩⟩ := h
  · omega
  · omega

theorem lk_star {A P : List Int} {i k : Nat} {star : Int} {at_ : Nat} (h : LkInv A P i k star at_) (hk : k < P.length) (hc : P[k] = 42) : LkInv A P i (k + 1) k i := by
  have hd : P.drop k = 42 :: P.drop (k + 1) := by rw [List.drop_eq_getElem_cons hk, hc]
  obtain ⟨h1, h2, h3⟩ := h
  refine ⟨h1, by omega, .inr ⟨k, [], rfl, by simp, by simp, by simp, by simpa using hd, by simp, ?_⟩⟩
  rcases h3 with ⟨_, _, h⟩ | ⟨g, lit, _, _, _, hl, e1, e2, h⟩
  · exact h
  · rw [h, e1, e2, hd]
    exact mr_second lit _ _ hl

theorem lk_same {A P : List Int} {i k : Nat} {star : Int} {at_ : Nat} (h : LkInv A P i k star at_) (hk : k < P.length) (hi : i < A.length) (hc : P[k] ≠ 42) (he : P[k] = A[i]) : LkInv A P (i + 1) (k + 1) star at_ := by
  have hd : P.drop k = P[k] :: P.drop (k + 1) := List.drop_eq_getElem_cons hk
  have ha : A.drop i = P[k] :: A.drop (i + 1) := by rw [List.drop_eq_getElem_cons hi, he]
  obtain ⟨h1, h2, h3⟩ := h
  refine ⟨by omega, by omega, ?_⟩
  rcases h3 with ⟨e, e0, h⟩ | ⟨g, lit, h3, h4, h5, hl, e1, e2, h⟩
  · refine .inl ⟨e, e0, ?_⟩
    rw [h, hd, ha, mr_cons hc]
    constructor
    · rintro ⟨t, e, ht⟩
      rw [(List.cons.inj e).2]
      exact ht
    · intro ht
      exact ⟨_, rfl, ht⟩
  · refine .inr ⟨g, lit ++ [P[k]], h3, by simp; omega, by simp; omega, ?_, ?_, ?_, h⟩
    · intro b hb
      rw [List.mem_append] at hb
      rcases hb with hb | hb
      · exact hl b hb
      · rw [List.mem_singleton] at hb
        rw [hb]
        exact hc
    · rw [e1, hd]
      simp
    · rw [e2, ha]
      simp

theorem lk_no {A P : List Int} {i k : Nat} (hi : i < A.length) (hno : ∀ hk : k < P.length, P[k] ≠ 42 ∧ P[k] ≠ A[i]) : ¬ MR (P.drop k) (A.drop i) := by
  have ha : A.drop i = A[i] :: A.drop (i + 1) := List.drop_eq_getElem_cons hi
  intro h
  rw [ha] at h
  by_cases hk : k < P.length
  · obtain ⟨h1, h2⟩ := hno hk
    rw [List.drop_eq_getElem_cons hk, mr_cons h1] at h
    obtain ⟨t, e, _⟩ := h
    exact h2 (List.cons.inj e).1.symm
  · rw [List.drop_eq_nil_of_le (by omega)] at h
    have : A[i] :: A.drop (i + 1) = [] := h
    cases this

theorem lk_back {A P : List Int} {i k : Nat} {star : Int} {at_ : Nat} (h : LkInv A P i k star at_) (hi : i < A.length) (hno : ∀ hk : k < P.length, P[k] ≠ 42 ∧ P[k] ≠ A[i]) (hs : 0 ≤ star) :
    LkInv A P (at_ + 1) (star.toNat + 1) star (at_ + 1) := by
  have hf := lk_no hi hno
  obtain ⟨h1, h2, ⟨h3, _, _⟩ | ⟨g, lit, rfl, h4, h5, hl, e1, e2, h⟩⟩ := h
  · omega
  · rw [Int.toNat_natCast]
    have ht : at_ < A.length := by omega
    have ha : A.drop at_ = A[at_] :: A.drop (at_ + 1) := List.drop_eq_getElem_cons ht
    have hg : P.drop (g + 1) = lit ++ P.drop k := by
      rw [← List.drop_drop, e1]
      rfl
    refine ⟨by omega, by omega, .inr ⟨g, [], rfl, by simp, by simp, by simp, ?_, by simp, ?_⟩⟩
    · rw [e1, hg]
      rfl
    · rw [h, e1, ha]
      exact mr_next lit _ (A.drop i) _ _ hl (by rw [← ha, e2]) hf

theorem lk_false {A P : List Int} {i k : Nat} {star : Int} {at_ : Nat} (h : LkInv A P i k star at_) (hi : i < A.length) (hno : ∀ hk : k < P.length, P[k] ≠ 42 ∧ P[k] ≠ A[i]) (hs : star < 0) : ¬ MR P A := by
  obtain ⟨h1, h2, ⟨h3, _, h⟩ | ⟨g, lit, rfl, _⟩⟩ := h
  · rw [h]
    exact lk_no hi hno
  · omega

theorem lk_end {A P : List Int} {i k : Nat} {star : Int} {at_ : Nat} (h : LkInv A P i k star at_) (hi : ¬ i < A.length) : MR P A ↔ (P.drop k).all (fun c => c == 42) = true := by
  obtain ⟨h1, h2, h3⟩ := h
  have he : A.drop i = [] := List.drop_eq_nil_of_le (by omega)
  rw [← mr_none]
  rcases h3 with ⟨_, _, h⟩ | ⟨g, lit, _, _, _, hl, e1, e2, h⟩
  · rw [h, he]
  · rw [h, e1, e2, he, List.append_nil]
    exact mr_last lit _ hl

theorem all_step (P : List Int) (k : Nat) (hk : k < P.length) : (P.drop k).all (fun c => c == 42) = ((P[k] == 42) && (P.drop (k + 1)).all (fun c => c == 42)) := by
  rw [List.drop_eq_getElem_cons hk, List.all_cons]
end Go.Proofs.YtkgjdddoadnhcaaDoor
