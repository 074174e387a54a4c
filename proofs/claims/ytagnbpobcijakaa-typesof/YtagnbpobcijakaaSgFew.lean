/-
  How much there is of a good schema (no walk in it).
-/
import Derived.Test.YtagnbpobcijakaaSgE
namespace Go.Proofs.Ytagnbpobcijakaa
open Go.RowKit Go.Sort

theorem goodA_mem (l : List ByteArray) (as_ : List AP) (ns : List ByteArray) : ∀ a ∈ goodA l as_ ns, ∃ b ∈ as_, a = actG l b := by
  have h1 : ∀ (n : ByteArray) (t acc : List AP), (∀ k ∈ acc, ∃ b ∈ as_, k = actG l b) → (∀ k ∈ t, k ∈ as_) → ∀ k ∈ pickAs l n t acc, ∃ b ∈ as_, k = actG l b := by
    intro n t
    unfold pickAs
    induction t with
    | nil => intro acc h _; simpa using h
    | cons a t ih =>
      intro acc h ht
      simp only [List.foldl_cons]
      refine ih _ (fun k hk => ?_) (fun k hk => ht k (List.mem_cons_of_mem _ hk))
      unfold pickA at hk
      cases e : passA n acc a
      · rw [e] at hk
        cases e2 : fullA (actG l a)
        · rw [e2] at hk
          exact h k hk
        · rw [e2] at hk
          rcases List.mem_append.1 hk with hk | hk
          · exact h k hk
          · rw [List.mem_singleton.1 hk]
            exact ⟨a, ht a List.mem_cons_self, rfl⟩
      · rw [e] at hk
        exact h k hk
  have h2 : ∀ (ns : List ByteArray) (acc : List AP), (∀ k ∈ acc, ∃ b ∈ as_, k = actG l b) → ∀ k ∈ ns.foldl (fun acc n => pickAs l n as_ acc) acc, ∃ b ∈ as_, k = actG l b := by
    intro ns
    induction ns with
    | nil => intro acc h; simpa using h
    | cons a t ih =>
      intro acc h
      simp only [List.foldl_cons]
      exact ih _ (h1 a as_ acc h (fun k hk => hk))
  exact h2 ns [] (fun k hk => absurd hk List.not_mem_nil)
/-- How much there is of a good schema at most. -/
structure Few10 (s : SP) : Prop where
  ks : s.ks.length ≤ 20
  ac : s.ac.length ≤ 15
  k : ∀ k ∈ s.ks, k.ps.length ≤ 3 ∧ k.fs.length ≤ 4
  a : ∀ a ∈ s.ac, a.pr.length ≤ 4 ∧ a.re.length ≤ 4 ∧ a.nm.size ≤ 100
theorem few_good {X : SP} (h : Tiny X) : Few10 (goodS X) := by
  refine ⟨?_, ?_, fun k hk => ?_, fun a ha => ?_⟩
  · unfold goodS
    rw [List.length_map]
    exact good1_len X.ks h.ks names4 4 (by decide)
  · exact goodA_len _ X.ac h.ac acts3 3 (by decide)
  · obtain ⟨b, hb, rfl⟩ := List.mem_map.1 hk
    have h1 := h.k b (good1_mem X.ks names4 b hb)
    have h2 := thoseL_len (goodNs X.ks) b.ps
    have h3 := fieldsG_len (goodNs X.ks) b.nm b.fs
    show (thoseL (goodNs X.ks) b.ps).length ≤ 3 ∧ (fieldsG (goodNs X.ks) b.nm b.fs).length ≤ 4
    omega
  · obtain ⟨b, hb, rfl⟩ := goodA_mem _ _ _ a ha
    have h1 := h.a b hb
    have h2 := thoseL_len (goodNs X.ks) b.pr
    have h3 := thoseL_len (goodNs X.ks) b.re
    show (thoseL (goodNs X.ks) b.pr).length ≤ 4 ∧ (thoseL (goodNs X.ks) b.re).length ≤ 4 ∧ b.nm.size ≤ 100
    omega
end Go.Proofs.Ytagnbpobcijakaa
