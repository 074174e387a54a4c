/-
  ents.Find: what it returns.
  Plain: entities put in whatever order (no program in it).
-/
import Derived.Test.YthmmplmppchfmaaEcGB
namespace Go.Proofs.Ythmmplmppchfmaa
open Go.RowKit Go.Sort

def findP (ps : List EntP) (u : U2) : Option EntP := ps.find? fun p => decide (p.u = u)
def zeroE : E4 := ⟨⟨#[]⟩, ⟨#[]⟩, none, 0, 0, none, 0, 0⟩
def FindPost (o : Option EntP) (x : Ending) (w' : World) : Prop :=
  match o with
  | some p => ∃ e : E4, x = .returned (.tuple #[e.val, .bool true]) ∧ IsEnt w' (fun _ => True) e p
  | none => x = .returned (.tuple #[zeroE.val, .bool false])
theorem find_at {ps : List EntP} {u : U2} {i : Nat} (hi : i < ps.length) (hu : ps[i].u = u) (hlo : ∀ k (h : k < ps.length), k < i → lessU ps[k].u u = true) : findP ps u = some ps[i] := by
  unfold findP
  rw [List.find?_eq_some_iff_getElem]
  refine ⟨by rw [hu]; simp, i, hi, rfl, fun k hk => ?_⟩
  have := hlo k (by omega) hk
  have hne : ps[k].u ≠ u := fun h => by
    rw [h, sto_lessU.irr] at this
    cases this
  simp [hne]
theorem find_no {ps : List EntP} {u : U2} {i : Nat} (hr : RisingP ps) (hlo : ∀ k (h : k < ps.length), k < i → lessU ps[k].u u = true) (hhi : ∀ k (h : k < ps.length), i ≤ k → lessU ps[k].u u = false) (hn : ∀ h : i < ps.length, ps[i].u ≠ u) : findP ps u = none := by
  unfold findP
  rw [List.find?_eq_none]
  intro p hp
  obtain ⟨k, hk, rfl⟩ := List.getElem_of_mem hp
  simp only [decide_eq_true_eq]
  intro h
  rcases Nat.lt_trichotomy k i with h1 | h1 | h1
  · have := hlo k hk h1
    rw [h, sto_lessU.irr] at this
    cases this
  · subst h1
    exact hn hk h
  · have := List.pairwise_iff_getElem.1 hr i k (by simp; omega) (by simpa using hk) h1
    simp only [List.getElem_map] at this
    rw [h] at this
    have h2 := hhi i (by omega) (Nat.le_refl _)
    rw [this] at h2
    cases h2

end Go.Proofs.Ythmmplmppchfmaa

namespace Go.Proofs.Ythmmplmppchfmaa
open Go.RowKit Go.Sort

theorem rising_put {ps : List EntP} {p : EntP} (hr : RisingP ps) : RisingP (putP ps p) := by
  unfold RisingP putP
  rw [List.map_append, List.map_cons, List.pairwise_append, List.pairwise_cons]
  have hp := List.pairwise_map.1 hr
  refine ⟨List.pairwise_map.2 (hp.filter _), ⟨fun u hu => ?_, List.pairwise_map.2 (hp.filter _)⟩, fun u hu v hv => ?_⟩
  · obtain ⟨q, hq, rfl⟩ := List.mem_map.1 hu
    exact (List.mem_filter.1 hq).2
  · obtain ⟨q, hq, rfl⟩ := List.mem_map.1 hu
    have h1 : lessU q.u p.u = true := (List.mem_filter.1 hq).2
    rcases List.mem_cons.1 hv with rfl | hv
    · exact h1
    · obtain ⟨q', hq', rfl⟩ := List.mem_map.1 hv
      exact sto_lessU.trans _ _ _ h1 (List.mem_filter.1 hq').2
theorem mem_put {ps : List EntP} {p q : EntP} : q ∈ putP ps p ↔ q = p ∨ (q ∈ ps ∧ q.u ≠ p.u) := by
  unfold putP
  rw [List.mem_append, List.mem_cons, List.mem_filter, List.mem_filter]
  constructor
  · rintro (⟨h1, h2⟩ | rfl | ⟨h1, h2⟩)
    · exact .inr ⟨h1, fun e => by rw [e, sto_lessU.irr] at h2; cases h2⟩
    · exact .inl rfl
    · exact .inr ⟨h1, fun e => by rw [e, sto_lessU.irr] at h2; cases h2⟩
  · rintro (rfl | ⟨h1, h2⟩)
    · exact .inr (.inl rfl)
    · rcases sto_lessU.tri q.u p.u with h | h | h
      · exact .inl ⟨h1, h⟩
      · exact absurd h h2
      · exact .inr (.inr ⟨h1, h⟩)
theorem put_fits {ps : List EntP} {p : EntP} (hf : ∀ q ∈ ps, q.fits) (hp : p.fits) : ∀ q ∈ putP ps p, q.fits := fun q hq => by
  rcases mem_put.1 hq with rfl | ⟨h, _⟩
  · exact hp
  · exact hf q h
theorem put_len (ps : List EntP) (p : EntP) : (putP ps p).length ≤ ps.length + 1 := by
  unfold putP
  rw [List.length_append, List.length_cons]
  have : ∀ l : List EntP, (l.filter fun q => lessU q.u p.u).length + (l.filter fun q => lessU p.u q.u).length ≤ l.length := fun l => by
    induction l with
    | nil => simp
    | cons a l ih =>
      simp only [List.filter_cons, List.length_cons]
      cases h1 : lessU a.u p.u <;> cases h2 : lessU p.u a.u <;> simp <;> try omega
      have := sto_lessU.trans _ _ _ h1 h2
      rw [sto_lessU.irr] at this
      cases this
  have := this ps
  omega
theorem rising_ext : ∀ (a b : List EntP), RisingP a → RisingP b → (∀ p, p ∈ a ↔ p ∈ b) → a = b
  | [], [], _, _, _ => rfl
  | [], y :: b, _, _, h => absurd ((h y).2 List.mem_cons_self) (List.not_mem_nil)
  | x :: a, [], _, _, h => absurd ((h x).1 List.mem_cons_self) (List.not_mem_nil)
  | x :: a, y :: b, ha, hb, h => by
    have ha' := List.pairwise_cons.1 (show ((x :: a).map EntP.u).Pairwise _ from ha)
    have hb' := List.pairwise_cons.1 (show ((y :: b).map EntP.u).Pairwise _ from hb)
    have lx : ∀ q ∈ a, lessU x.u q.u = true := fun q hq => ha'.1 _ (List.mem_map_of_mem hq)
    have ly : ∀ q ∈ b, lessU y.u q.u = true := fun q hq => hb'.1 _ (List.mem_map_of_mem hq)
    have hxy : x = y := by
      rcases List.mem_cons.1 ((h x).1 List.mem_cons_self) with e | e
      · exact e
      · rcases List.mem_cons.1 ((h y).2 List.mem_cons_self) with e' | e'
        · exact e'.symm
        · have := sto_lessU.trans _ _ _ (lx y e') (ly x e)
          rw [sto_lessU.irr] at this
          cases this
    subst hxy
    congr 1
    refine rising_ext a b ha'.2 hb'.2 fun p => ⟨fun hp => ?_, fun hp => ?_⟩
    · rcases List.mem_cons.1 ((h p).1 (List.mem_cons_of_mem _ hp)) with e | e
      · subst e
        have := lx p hp
        rw [sto_lessU.irr] at this
        cases this
      · exact e
    · rcases List.mem_cons.1 ((h p).2 (List.mem_cons_of_mem _ hp)) with e | e
      · subst e
        have := ly p hp
        rw [sto_lessU.irr] at this
        cases this
      · exact e
/-- All put, one behind the other. -/
def aOf (L : List EntP) : List EntP := L.foldl putP []
theorem aOf_snoc (L : List EntP) (p : EntP) : aOf (L ++ [p]) = putP (aOf L) p := by simp [aOf]
/-- The last one of each put, the last first. -/
def bOf : List EntP → List EntP
  | [] => []
  | x :: t => if (findP (bOf t) x.u).isSome then bOf t else putP (bOf t) x
theorem rising_b : ∀ L, RisingP (bOf L)
  | [] => List.Pairwise.nil
  | x :: t => by
    unfold bOf
    split
    · exact rising_b t
    · exact rising_put (rising_b t)
theorem find_some {ps : List EntP} {u : U2} : (findP ps u).isSome = true ↔ ∃ q ∈ ps, q.u = u := by
  unfold findP
  rw [List.find?_isSome]
  simp
/-- Who is there: the last one of its uid. -/
theorem mem_b : ∀ (L : List EntP) (p : EntP), p ∈ bOf L ↔ ∃ l r, L = l ++ p :: r ∧ ∀ q ∈ r, q.u ≠ p.u
  | [], p => by
    constructor
    · intro h; cases h
    · rintro ⟨l, r, e, _⟩
      cases l <;> cases e
  | x :: t, p => by
    have key : (∃ q ∈ bOf t, q.u = x.u) ↔ ∃ q ∈ t, q.u = x.u := by
      constructor
      · rintro ⟨q, hq, hu⟩
        obtain ⟨l, r, e, _⟩ := (mem_b t q).1 hq
        exact ⟨q, by rw [e]; simp, hu⟩
      · rintro ⟨q, hq, hu⟩
        -- the last of that uid
        have last : ∀ (s : List EntP), (∃ q ∈ s, q.u = x.u) → ∃ l q r, s = l ++ q :: r ∧ q.u = x.u ∧ ∀ q' ∈ r, q'.u ≠ x.u := by
          intro s
          induction s with
          | nil => rintro ⟨_, h, _⟩; cases h
          | cons a s ih =>
            intro h
            by_cases hs : ∃ q ∈ s, q.u = x.u
            · obtain ⟨l, q, r, e, h1, h2⟩ := ih hs
              exact ⟨a :: l, q, r, by rw [e]; rfl, h1, h2⟩
            · obtain ⟨q, hq, hu⟩ := h
              rcases List.mem_cons.1 hq with rfl | hq
              · exact ⟨[], q, s, rfl, hu, fun q' h' e => hs ⟨q', h', e⟩⟩
              · exact absurd ⟨q, hq, hu⟩ hs
        obtain ⟨l, q', r, e, h1, h2⟩ := last t ⟨q, hq, hu⟩
        exact ⟨q', (mem_b t q').2 ⟨l, r, e, fun z hz => by rw [h1]; exact h2 z hz⟩, h1⟩
    unfold bOf
    split
    · rename_i hs
      obtain ⟨q0, hq0, hu0⟩ := key.1 (find_some.1 hs)
      rw [mem_b t p]
      constructor
      · rintro ⟨l, r, e, h⟩
        exact ⟨x :: l, r, by rw [e]; rfl, h⟩
      · rintro ⟨l, r, e, h⟩
        cases l with
        | nil =>
          cases e
          exact absurd hu0 (h q0 hq0)
        | cons a l =>
          cases e
          exact ⟨l, r, rfl, h⟩
    · rename_i hs
      have hno : ∀ q ∈ t, q.u ≠ x.u := fun q hq hu => hs (find_some.2 (key.2 ⟨q, hq, hu⟩))
      rw [mem_put, mem_b t p]
      constructor
      · rintro (rfl | ⟨⟨l, r, e, h⟩, _⟩)
        · exact ⟨[], t, rfl, hno⟩
        · exact ⟨x :: l, r, by rw [e]; rfl, h⟩
      · rintro ⟨l, r, e, h⟩
        cases l with
        | nil =>
          cases e
          exact .inl rfl
        | cons a l =>
          cases e
          exact .inr ⟨⟨l, r, rfl, h⟩, hno p (by simp)⟩
theorem rising_a (L : List EntP) : RisingP (aOf L) := by
  have : ∀ (L : List EntP) (z : List EntP), RisingP z → RisingP (L.foldl putP z) := fun L => by
    induction L with
    | nil => intro z hz; exact hz
    | cons a L ih => intro z hz; exact ih _ (rising_put hz)
  exact this L [] List.Pairwise.nil
theorem mem_fold : ∀ (L z : List EntP) (p : EntP), p ∈ L.foldl putP z ↔ (∃ l r, L = l ++ p :: r ∧ ∀ q ∈ r, q.u ≠ p.u) ∨ (p ∈ z ∧ ∀ q ∈ L, q.u ≠ p.u)
  | [], z, p => by
    constructor
    · intro h; exact .inr ⟨h, fun _ h => by cases h⟩
    · rintro (⟨l, r, e, _⟩ | ⟨h, _⟩)
      · cases l <;> cases e
      · exact h
  | x :: L, z, p => by
    show p ∈ L.foldl putP (putP z x) ↔ _
    rw [mem_fold L (putP z x) p, mem_put]
    constructor
    · rintro (⟨l, r, e, h⟩ | ⟨rfl | ⟨h1, h2⟩, h3⟩)
      · exact .inl ⟨x :: l, r, by rw [e]; rfl, h⟩
      · exact .inl ⟨[], L, rfl, h3⟩
      · refine .inr ⟨h1, fun q hq => ?_⟩
        rcases List.mem_cons.1 hq with rfl | hq
        · exact fun e => h2 e.symm
        · exact h3 q hq
    · rintro (⟨l, r, e, h⟩ | ⟨h1, h2⟩)
      · cases l with
        | nil =>
          cases e
          exact .inr ⟨.inl rfl, h⟩
        | cons a l =>
          cases e
          exact .inl ⟨l, r, rfl, h⟩
      · exact .inr ⟨.inr ⟨h1, fun e => h2 x List.mem_cons_self e.symm⟩, fun q hq => h2 q (List.mem_cons_of_mem _ hq)⟩
theorem a_eq_b (L : List EntP) : aOf L = bOf L := by
  refine rising_ext _ _ (rising_a L) (rising_b L) fun p => ?_
  rw [mem_b L p]
  unfold aOf
  rw [mem_fold L [] p]
  constructor
  · rintro (h | ⟨h, _⟩)
    · exact h
    · cases h
  · exact .inl
theorem aOf_len (L : List EntP) : (aOf L).length ≤ L.length := by
  have : ∀ (L z : List EntP), (L.foldl putP z).length ≤ z.length + L.length := fun L => by
    induction L with
    | nil => intro z; simp
    | cons a L ih =>
      intro z
      have h1 := ih (putP z a)
      have h2 := put_len z a
      simp only [List.foldl_cons, List.length_cons]
      omega
  have := this L []
  simpa [aOf] using this
theorem bOf_len : ∀ L : List EntP, (bOf L).length ≤ L.length
  | [] => Nat.le_refl _
  | x :: t => by
    have := bOf_len t
    unfold bOf
    split
    · simp; omega
    · have := put_len (bOf t) x
      simp
      omega
theorem aOf_fits (L : List EntP) (h : ∀ p ∈ L, p.fits) : ∀ q ∈ aOf L, q.fits := fun q hq => by
  unfold aOf at hq
  rcases (mem_fold L [] q).1 hq with ⟨l, r, e, _⟩ | ⟨h, _⟩
  · exact h q (by rw [e]; simp)
  · cases h
theorem bOf_fits (L : List EntP) (h : ∀ p ∈ L, p.fits) : ∀ q ∈ bOf L, q.fits := by
  rw [← a_eq_b]
  exact aOf_fits L h
end Go.Proofs.Ythmmplmppchfmaa
