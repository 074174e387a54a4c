/-
  ents.Find: what it returns.
  Plain: entities put in whatever order (no program in it).
  Plain: entities such xs may be, made of any (no program in it).
-/
import Derived.Test.YtnbbimcooilmdaaGreatEcGB
import Derived.Test.YtnbbimcooilmdaaGreatElOA
namespace Go.Proofs.YtnbbimcooilmdaaGreat
open Go.RowKit Go.Sort

def findP (ps : List EntP) (u : U2) : Option EntP := ps.find? fun p => decide (p.u = u)
def zeroE : E4 := ⟨⟨#[]⟩, ⟨#[]⟩, none, 0, 0, none, 0, 0⟩
def FindPost (o : Option EntP) (x : Ending) (w' : World) : Prop :=
  match o with
  | some p => ∃ e : E4, x = .returned (.tuple #[e.val, .bool true]) ∧ IsEnt w' (fun _ => True) e p
  | none => x = .returned (.tuple #[zeroE.val, .bool false])
theorem find_at {ps : List EntP} {u : U2} {i : Nat} (hi : i < ps.length) (hu : ps[i].u = u) (hlo : ∀ k (h : k < ps.length), k < i → lessU ps[k].u u = true) : findP ps u = some ps[i] := by
  unfold findP
  rw [List.find?_eq_some_iff_getElem]
  refine ⟨by rw [hu]; simp, i, hi, rfl, fun k hk => ?_⟩
  have := hlo k (by omega) hk
  have hne : ps[k].u ≠ u := fun h => by
    rw [h, sto_lessU.irr] at this
    cases this
  simp [hne]
theorem find_no {ps : List EntP} {u : U2} {i : Nat} (hr : RisingP ps) (hlo : ∀ k (h : k < ps.length), k < i → lessU ps[k].u u = true) (hhi : ∀ k (h : k < ps.length), i ≤ k → lessU ps[k].u u = false) (hn : ∀ h : i < ps.length, ps[i].u ≠ u) : findP ps u = none := by
  unfold findP
  rw [List.find?_eq_none]
  intro p hp
  obtain ⟨k, hk, rfl⟩ := List.getElem_of_mem hp
  simp only [decide_eq_true_eq]
  intro h
  rcases Nat.lt_trichotomy k i with h1 | h1 | h1
  · have := hlo k hk h1
    rw [h, sto_lessU.irr] at this
    cases this
  · subst h1
    exact hn hk h
  · have := List.pairwise_iff_getElem.1 hr i k (by simp; omega) (by simpa using hk) h1
    simp only [List.getElem_map] at this
    rw [h] at this
    have h2 := hhi i (by omega) (Nat.le_refl _)
    rw [this] at h2
    cases h2

set_option maxHeartbeats 2000000 in
set_option maxRecDepth 1000000 in
theorem efind_any (es : List E4) (ps : List EntP) (ao : Option Addr) (cap : Nat) (u : U2) (w : World) (hr : RowG w ao 4 (es.map E4.cells)) (hA : AllEnt w (fun _ => True) es ps) (hri : RisingP ps) (hf : ∀ q ∈ ps, q.fits) (hl : ps.length ≤ 1000000) :
    Calls Tryz.prog 15 #[.slice ao es.length cap, u.val] w fun x w' => Below w.heap.size w w' ∧ FindPost (findP ps u) x w' := by
  have b2 := below2 w (.cells #[.string u.t, .string u.i] 25) (.cells #[.string ⟨#[]⟩, .string ⟨#[]⟩, .slice none 0 0, .slice none 0 0] 29)
  have hel := hA.1
  have hle : es.length ≤ 1000000 := by omega
  have PL := placeOf_any es u ao cap _ (by omega) (hr.below b2) (rising_of hA hri)
  have HR := hide hr
  have HA := hide hA
  have HRI := hide hri
  have HF := hide hf
  have HEL := hide hel
  clear hr hA hri hf hel
  unfold U2.val at PL
  unfold U2.val
  go_enter Tryz.func15, Tryz.ntmps15
  go_wp2_with fail
  generalize hw2 : (w.alloc _).alloc _ = w2 at *
  have z2 : w2.heap.size = w.heap.size + 2 := by rw [← hw2]; simp
  have H2 : w2.heap[w.heap.size + 1]? = some (.cells #[.string ⟨#[]⟩, .string ⟨#[]⟩, .slice none 0 0, .slice none 0 0] 29 (0, 0)) := by
    rw [← hw2]
    have := alloc_heap (w.alloc (.cells #[.string u.t, .string u.i] 25)) (.cells #[.string ⟨#[]⟩, .string ⟨#[]⟩, .slice none 0 0, .slice none 0 0] 29)
    rwa [size1] at this
  clear hw2
  refine PL.mono ?_
  clear PL
  rintro x w3 ⟨i, hc, rfl, b3⟩
  have b03 := b2.trans (b3.mono b2.size)
  have H3 := kept_of_below b3 H2
  have hile := hc.le
  have hlo : ∀ k (h : k < ps.length), k < i → lessU ps[k].u u = true := fun k hk hki => by
    rw [((unhide HA).2 k (by have := unhide HEL; omega) hk).u.symm]
    exact hc.lo k (by have := unhide HEL; omega) hki
  have hhi : ∀ k (h : k < ps.length), i ≤ k → lessU ps[k].u u = false := fun k hk hki => by
    rw [((unhide HA).2 k (by have := unhide HEL; omega) hk).u.symm]
    exact hc.hi k (by have := unhide HEL; omega) hki
  cases hat : isAt es u i with
  | false =>
    have HN : Hid (findP ps u = none) := hide (find_no (unhide HRI) hlo hhi fun h hu => by
      have h' : i < es.length := by have := unhide HEL; omega
      have h1 := ((unhide HA).2 i h' h).u
      unfold isAt at hat
      rw [List.getElem?_eq_getElem h', decide_eq_false_iff_not] at hat
      exact hat (h1.trans hu))
    have d0 : w3.cell? ⟨w.heap.size + 1, 0, none⟩ = some (.string ⟨#[]⟩) := by rw [Lib.cell_of_heap H3]; rfl
    have d1 : w3.cell? ⟨w.heap.size + 1, 1, none⟩ = some (.string ⟨#[]⟩) := by rw [Lib.cell_of_heap H3]; rfl
    have d2 : w3.cell? ⟨w.heap.size + 1, 2, none⟩ = some (.slice none 0 0) := by rw [Lib.cell_of_heap H3]; rfl
    have d3 : w3.cell? ⟨w.heap.size + 1, 3, none⟩ = some (.slice none 0 0) := by rw [Lib.cell_of_heap H3]; rfl
    have dF : ∀ o, w3.frozen? ⟨w.heap.size + 1, o, none⟩ = false := fun o => Lib.frozen_of_heap H3 o
    have Hb := hide (belowSetCells (b := w.heap.size + 1) [.string ⟨#[]⟩, .string ⟨#[]⟩, .slice none 0 0, .slice none 0 0] 0 w3 b03 (Nat.le_succ _))
    clear hat hlo hhi hc H2 H3
    go_wp2
    refine bodyPost_ret (v := .tuple #[.agg #[.string ⟨#[]⟩, .string ⟨#[]⟩, .slice none 0 0, .slice none 0 0], .bool false]) (by simp [results, Tryz.results15, go_sem, d0, d1, d2, d3]) rfl ⟨unhide Hb, ?_⟩
    unfold FindPost
    rw [unhide HN]
    rfl
  | true =>
    have hil : i < es.length := by
      rcases Nat.lt_or_ge i es.length with h | h
      · exact h
      · unfold isAt at hat
        rw [List.getElem?_eq_none h] at hat
        cases hat
    have hip : i < ps.length := by have := unhide HEL; omega
    have HN : Hid (findP ps u = some ps[i]) := hide (find_at hip (by
      have h1 := ((unhide HA).2 i hil hip).u
      unfold isAt at hat
      rw [List.getElem?_eq_getElem hil, decide_eq_true_eq] at hat
      exact h1.symm.trans hat) hlo)
    have k0 : (0 : Int) ≤ (i : Int) := by omega
    have k1 : (i : Int) < (es.length : Int) := by omega
    obtain ⟨g, off, rfl, hg, hcell⟩ := rowG_at (unhide HR) b03 hil
    have A := AtE4.of hcell
    have CE := copyEntity_any es[i] ps[i] _ w3 (((unhide HA).2 i hil hip).below b03) (unhide HF _ (List.getElem_mem _))
    obtain ⟨x, hx⟩ : ∃ x, x = es[i] := ⟨_, rfl⟩
    rw [← hx] at A CE
    unfold E4.val at CE
    clear hx hcell hat hlo hhi hc
    obtain ⟨a0, a1, a2, a3⟩ := A
    go_wp2_with fail
    clear a0 a1 a2 a3
    refine CE.mono ?_
    clear CE
    rintro e w4 ⟨e', rfl, b4, he⟩
    have H4 := kept_of_below b4 H3
    have b04 := b03.trans (b4.mono b03.size)
    have d0 : w4.cell? ⟨w.heap.size + 1, 0, none⟩ = some (.string ⟨#[]⟩) := by rw [Lib.cell_of_heap H4]; rfl
    have d1 : w4.cell? ⟨w.heap.size + 1, 1, none⟩ = some (.string ⟨#[]⟩) := by rw [Lib.cell_of_heap H4]; rfl
    have d2 : w4.cell? ⟨w.heap.size + 1, 2, none⟩ = some (.slice none 0 0) := by rw [Lib.cell_of_heap H4]; rfl
    have d3 : w4.cell? ⟨w.heap.size + 1, 3, none⟩ = some (.slice none 0 0) := by rw [Lib.cell_of_heap H4]; rfl
    have dF : ∀ o, w4.frozen? ⟨w.heap.size + 1, o, none⟩ = false := fun o => Lib.frozen_of_heap H4 o
    have Hb := hide (belowSetCells (b := w.heap.size + 1) e'.cells 0 w4 b04 (Nat.le_succ _))
    have He := hide (he.turn (w' := w4.setCells (w.heap.size + 1) 0 e'.cells) (P' := fun _ => True) (by rw [size_setCells]; exact Nat.le_refl _) (fun b hb _ => ⟨heap_setCells (by have := b3.size; omega) _ _ _, trivial⟩))
    clear he H2 H3 H4
    go_wp2
    refine bodyPost_ret (v := .tuple #[.agg #[.string e'.t, .string e'.i, .slice e'.po e'.pl e'.pc, .slice e'.ao e'.al e'.ac], .bool true]) (by simp [results, Tryz.results15, go_sem, d0, d1, d2, d3]) rfl ⟨unhide Hb, ?_⟩
    unfold FindPost
    rw [unhide HN]
    exact ⟨e', rfl, unhide He⟩
end Go.Proofs.YtnbbimcooilmdaaGreat

namespace Go.Proofs.YtnbbimcooilmdaaGreat
open Go.RowKit Go.Sort

theorem rising_put {ps : List EntP} {p : EntP} (hr : RisingP ps) : RisingP (putP ps p) := by
  unfold RisingP putP
  rw [List.map_append, List.map_cons, List.pairwise_append, List.pairwise_cons]
  have hp := List.pairwise_map.1 hr
  refine ⟨List.pairwise_map.2 (hp.filter _), ⟨fun u hu => ?_, List.pairwise_map.2 (hp.filter _)⟩, fun u hu v hv => ?_⟩
  · obtain ⟨q, hq, rfl⟩ := List.mem_map.1 hu
    exact (List.mem_filter.1 hq).2
  · obtain ⟨q, hq, rfl⟩ := List.mem_map.1 hu
    have h1 : lessU q.u p.u = true := (List.mem_filter.1 hq).2
    rcases List.mem_cons.1 hv with rfl | hv
    · exact h1
    · obtain ⟨q', hq', rfl⟩ := List.mem_map.1 hv
      exact sto_lessU.trans _ _ _ h1 (List.mem_filter.1 hq').2
theorem mem_put {ps : List EntP} {p q : EntP} : q ∈ putP ps p ↔ q = p ∨ (q ∈ ps ∧ q.u ≠ p.u) := by
  unfold putP
  rw [List.mem_append, List.mem_cons, List.mem_filter, List.mem_filter]
  constructor
  · rintro (⟨h1, h2⟩ | rfl | ⟨h1, h2⟩)
    · exact .inr ⟨h1, fun e => by rw [e, sto_lessU.irr] at h2; cases h2⟩
    · exact .inl rfl
    · exact .inr ⟨h1, fun e => by rw [e, sto_lessU.irr] at h2; cases h2⟩
  · rintro (rfl | ⟨h1, h2⟩)
    · exact .inr (.inl rfl)
    · rcases sto_lessU.tri q.u p.u with h | h | h
      · exact .inl ⟨h1, h⟩
      · exact absurd h h2
      · exact .inr (.inr ⟨h1, h⟩)
theorem put_fits {ps : List EntP} {p : EntP} (hf : ∀ q ∈ ps, q.fits) (hp : p.fits) : ∀ q ∈ putP ps p, q.fits := fun q hq => by
  rcases mem_put.1 hq with rfl | ⟨h, _⟩
  · exact hp
  · exact hf q h
theorem put_len (ps : List EntP) (p : EntP) : (putP ps p).length ≤ ps.length + 1 := by
  unfold putP
  rw [List.length_append, List.length_cons]
  have : ∀ l : List EntP, (l.filter fun q => lessU q.u p.u).length + (l.filter fun q => lessU p.u q.u).length ≤ l.length := fun l => by
    induction l with
    | nil => simp
    | cons a l ih =>
      simp only [List.filter_cons, List.length_cons]
      cases h1 : lessU a.u p.u <;> cases h2 : lessU p.u a.u <;> simp <;> try omega
      have := sto_lessU.trans _ _ _ h1 h2
      rw [sto_lessU.irr] at this
      cases this
  have := this ps
  omega
theorem rising_ext : ∀ (a b : List EntP), RisingP a → RisingP b → (∀ p, p ∈ a ↔ p ∈ b) → a = b
  | [], [], _, _, _ => rfl
  | [], y :: b, _, _, h => absurd ((h y).2 List.mem_cons_self) (List.not_mem_nil)
  | x :: a, [], _, _, h => absurd ((h x).1 List.mem_cons_self) (List.not_mem_nil)
  | x :: a, y :: b, ha, hb, h => by
    have ha' := List.pairwise_cons.1 (show ((x :: a).map EntP.u).Pairwise _ from ha)
    have hb' := List.pairwise_cons.1 (show ((y :: b).map EntP.u).Pairwise _ from hb)
    have lx : ∀ q ∈ a, lessU x.u q.u = true := fun q hq => ha'.1 _ (List.mem_map_of_mem hq)
    have ly : ∀ q ∈ b, lessU y.u q.u = true := fun q hq => hb'.1 _ (List.mem_map_of_mem hq)
    have hxy : x = y := by
      rcases List.mem_cons.1 ((h x).1 List.mem_cons_self) with e | e
      · exact e
      · rcases List.mem_cons.1 ((h y).2 List.mem_cons_self) with e' | e'
        · exact e'.symm
        · have := sto_lessU.trans _ _ _ (lx y e') (ly x e)
          rw [sto_lessU.irr] at this
          cases this
    subst hxy
    congr 1
    refine rising_ext a b ha'.2 hb'.2 fun p => ⟨fun hp => ?_, fun hp => ?_⟩
    · rcases List.mem_cons.1 ((h p).1 (List.mem_cons_of_mem _ hp)) with e | e
      · subst e
        have := lx p hp
        rw [sto_lessU.irr] at this
        cases this
      · exact e
    · rcases List.mem_cons.1 ((h p).2 (List.mem_cons_of_mem _ hp)) with e | e
      · subst e
        have := ly p hp
        rw [sto_lessU.irr] at this
        cases this
      · exact e
/-- All put, one behind the other. -/
def aOf (L : List EntP) : List EntP := L.foldl putP []
theorem aOf_snoc (L : List EntP) (p : EntP) : aOf (L ++ [p]) = putP (aOf L) p := by simp [aOf]
/-- The last one of each put, the last first. -/
def bOf : List EntP → List EntP
  | [] => []
  | x :: t => if (findP (bOf t) x.u).isSome then bOf t else putP (bOf t) x
theorem rising_b : ∀ L, RisingP (bOf L)
  | [] => List.Pairwise.nil
  | x :: t => by
    unfold bOf
    split
    · exact rising_b t
    · exact rising_put (rising_b t)
theorem find_some {ps : List EntP} {u : U2} : (findP ps u).isSome = true ↔ ∃ q ∈ ps, q.u = u := by
  unfold findP
  rw [List.find?_isSome]
  simp
/-- Who is there: the last one of its uid. -/
theorem mem_b : ∀ (L : List EntP) (p : EntP), p ∈ bOf L ↔ ∃ l r, L = l ++ p :: r ∧ ∀ q ∈ r, q.u ≠ p.u
  | [], p => by
    constructor
    · intro h; cases h
    · rintro ⟨l, r, e, _⟩
      cases l <;> cases e
  | x :: t, p => by
    have key : (∃ q ∈ bOf t, q.u = x.u) ↔ ∃ q ∈ t, q.u = x.u := by
      constructor
      · rintro ⟨q, hq, hu⟩
        obtain ⟨l, r, e, _⟩ := (mem_b t q).1 hq
        exact ⟨q, by rw [e]; simp, hu⟩
      · rintro ⟨q, hq, hu⟩
        -- the last of that uid
        have last : ∀ (s : List EntP), (∃ q ∈ s, q.u = x.u) → ∃ l q r, s = l ++ q :: r ∧ q.u = x.u ∧ ∀ q' ∈ r, q'.u ≠ x.u := by
          intro s
          induction s with
          | nil => rintro ⟨_, h, _⟩; cases h
          | cons a s ih =>
            intro h
            by_cases hs : ∃ q ∈ s, q.u = x.u
            · obtain ⟨l, q, r, e, h1, h2⟩ := ih hs
              exact ⟨a :: l, q, r, by rw [e]; rfl, h1, h2⟩
            · obtain ⟨q, hq, hu⟩ := h
              rcases List.mem_cons.1 hq with rfl | hq
              · exact ⟨[], q, s, rfl, hu, fun q' h' e => hs ⟨q', h', e⟩⟩
              · exact absurd ⟨q, hq, hu⟩ hs
        obtain ⟨l, q', r, e, h1, h2⟩ := last t ⟨q, hq, hu⟩
        exact ⟨q', (mem_b t q').2 ⟨l, r, e, fun z hz => by rw [h1]; exact h2 z hz⟩, h1⟩
    unfold bOf
    split
    · rename_i hs
      obtain ⟨q0, hq0, hu0⟩ := key.1 (find_some.1 hs)
      rw [mem_b t p]
      constructor
      · rintro ⟨l, r, e, h⟩
        exact ⟨x :: l, r, by rw [e]; rfl, h⟩
      · rintro ⟨l, r, e, h⟩
        cases l with
        | nil =>
          cases e
          exact absurd hu0 (h q0 hq0)
        | cons a l =>
          cases e
          exact ⟨l, r, rfl, h⟩
    · rename_i hs
      have hno : ∀ q ∈ t, q.u ≠ x.u := fun q hq hu => hs (find_some.2 (key.2 ⟨q, hq, hu⟩))
      rw [mem_put, mem_b t p]
      constructor
      · rintro (rfl | ⟨⟨l, r, e, h⟩, _⟩)
        · exact ⟨[], t, rfl, hno⟩
        · exact ⟨x :: l, r, by rw [e]; rfl, h⟩
      · rintro ⟨l, r, e, h⟩
        cases l with
        | nil =>
          cases e
          exact .inl rfl
        | cons a l =>
          cases e
          exact .inr ⟨⟨l, r, rfl, h⟩, hno p (by simp)⟩
theorem rising_a (L : List EntP) : RisingP (aOf L) := by
  have : ∀ (L : List EntP) (z : List EntP), RisingP z → RisingP (L.foldl putP z) := fun L => by
    induction L with
    | nil => intro z hz; exact hz
    | cons a L ih => intro z hz; exact ih _ (rising_put hz)
  exact this L [] List.Pairwise.nil
theorem mem_fold : ∀ (L z : List EntP) (p : EntP), p ∈ L.foldl putP z ↔ (∃ l r, L = l ++ p :: r ∧ ∀ q ∈ r, q.u ≠ p.u) ∨ (p ∈ z ∧ ∀ q ∈ L, q.u ≠ p.u)
  | [], z, p => by
    constructor
    · intro h; exact .inr ⟨h, fun _ h => by cases h⟩
    · rintro (⟨l, r, e, _⟩ | ⟨h, _⟩)
      · cases l <;> cases e
      · exact h
  | x :: L, z, p => by
    show p ∈ L.foldl putP (putP z x) ↔ _
    rw [mem_fold L (putP z x) p, mem_put]
    constructor
    · rintro (⟨l, r, e, h⟩ | ⟨rfl | ⟨h1, h2⟩, h3⟩)
      · exact .inl ⟨x :: l, r, by rw [e]; rfl, h⟩
      · exact .inl ⟨[], L, rfl, h3⟩
      · refine .inr ⟨h1, fun q hq => ?_⟩
        rcases List.mem_cons.1 hq with rfl | hq
        · exact fun e => h2 e.symm
        · exact h3 q hq
    · rintro (⟨l, r, e, h⟩ | ⟨h1, h2⟩)
      · cases l with
        | nil =>
          cases e
          exact .inr ⟨.inl rfl, h⟩
        | cons a l =>
          cases e
          exact .inl ⟨l, r, rfl, h⟩
      · exact .inr ⟨.inr ⟨h1, fun e => h2 x List.mem_cons_self e.symm⟩, fun q hq => h2 q (List.mem_cons_of_mem _ hq)⟩
theorem a_eq_b (L : List EntP) : aOf L = bOf L := by
  refine rising_ext _ _ (rising_a L) (rising_b L) fun p => ?_
  rw [mem_b L p]
  unfold aOf
  rw [mem_fold L [] p]
  constructor
  · rintro (h | ⟨h, _⟩)
    · exact h
    · cases h
  · exact .inl
theorem aOf_len (L : List EntP) : (aOf L).length ≤ L.length := by
  have : ∀ (L z : List EntP), (L.foldl putP z).length ≤ z.length + L.length := fun L => by
    induction L with
    | nil => intro z; simp
    | cons a L ih =>
      intro z
      have h1 := ih (putP z a)
      have h2 := put_len z a
      simp only [List.foldl_cons, List.length_cons]
      omega
  have := this L []
  simpa [aOf] using this
theorem bOf_len : ∀ L : List EntP, (bOf L).length ≤ L.length
  | [] => Nat.le_refl _
  | x :: t => by
    have := bOf_len t
    unfold bOf
    split
    · simp; omega
    · have := put_len (bOf t) x
      simp
      omega
theorem aOf_fits (L : List EntP) (h : ∀ p ∈ L, p.fits) : ∀ q ∈ aOf L, q.fits := fun q hq => by
  unfold aOf at hq
  rcases (mem_fold L [] q).1 hq with ⟨l, r, e, _⟩ | ⟨h, _⟩
  · exact h q (by rw [e]; simp)
  · cases h
theorem bOf_fits (L : List EntP) (h : ∀ p ∈ L, p.fits) : ∀ q ∈ bOf L, q.fits := by
  rw [← a_eq_b]
  exact aOf_fits L h
end Go.Proofs.YtnbbimcooilmdaaGreat

namespace Go.Proofs.YtnbbimcooilmdaaGreat
open Go.RowKit Go.Sort

/-! ## One more in its place, for any strict order. -/

section
variable {α : Type} {lt : α → α → Bool}
structure CutG (lt : α → α → Bool) (l : List α) (q : α) (i : Nat) : Prop where
  le : i ≤ l.length
  lo : ∀ k (h : k < l.length), k < i → lt l[k] q = true
  hi : ∀ k (h : k < l.length), i ≤ k → lt l[k] q = false
theorem CutG.at (hs : Sto lt) {S : List α} {q : α} {k : Nat} (hr : Rising lt S) (hk : k < S.length) (lo : ∀ i (h : i < S.length), i < k → lt S[i] q = true) (hh : lt S[k] q = false) : CutG lt S q k :=
  ⟨Nat.le_of_lt hk, lo, fun i h hik => by
    by_cases hik' : i = k
    · subst hik'
      exact hh
    · have h1 := List.pairwise_iff_getElem.1 hr k i hk h (by omega)
      cases h2 : lt S[i] q
      · rfl
      · have h3 := hs.trans _ _ _ h1 h2
        rw [hh] at h3
        cases h3⟩
theorem CutG.mem (hs : Sto lt) {l : List α} {q : α} {i : Nat} (c : CutG lt l q i) (hr : Rising lt l) : q ∈ l ↔ ∃ h : i < l.length, l[i] = q := by
  constructor
  · intro hq
    obtain ⟨k, hk, e⟩ := List.getElem_of_mem hq
    have h1 : ¬ k < i := fun h => by
      have := c.lo k hk h
      rw [e, hs.irr] at this
      cases this
    have hil : i < l.length := by omega
    refine ⟨hil, ?_⟩
    by_cases hki : k = i
    · subst hki
      exact e
    · have := List.pairwise_iff_getElem.1 hr i k hil hk (by omega)
      rw [e] at this
      have h2 := c.hi i hil (Nat.le_refl _)
      rw [this] at h2
      cases h2
  · rintro ⟨h, rfl⟩
    exact List.getElem_mem _
theorem insG_mem (hs : Sto lt) {q : α} : ∀ (S : List α), Rising lt S → q ∈ S → ins lt q S = S
  | y :: S, hr, hq => by
    have hr' := List.pairwise_cons.1 hr
    unfold ins
    rcases List.mem_cons.1 hq with e | e
    · subst e
      rw [hs.irr]
      rfl
    · rw [if_pos (hr'.1 q e), insG_mem hs S hr'.2 e]
theorem insG_cut (hs : Sto lt) {q : α} : ∀ (S : List α) (i : Nat), CutG lt S q i → q ∉ S → ins lt q S = S.take i ++ q :: S.drop i
  | [], i, c, _ => by
    rw [List.take_nil, List.drop_nil]
    rfl
  | y :: S, 0, c, hq => by
    have h1' : lt y q = false := c.hi 0 (by simp) (Nat.le_refl _)
    have h2 : lt q y = true := by
      rcases hs.tri q y with e | e | e
      · exact e
      · exact absurd (by rw [e]; simp) hq
      · rw [h1'] at e
        cases e
    unfold ins
    rw [h1', h2]
    rfl
  | y :: S, i + 1, c, hq => by
    have h1 : lt y q = true := c.lo 0 (by simp) (by omega)
    have c' : CutG lt S q i := ⟨by have := c.le; simpa using this, fun k h hk => by have := c.lo (k + 1) (by simpa using h) (by omega); simpa using this, fun k h hk => by have := c.hi (k + 1) (by simpa using h) (by omega); simpa using this⟩
    unfold ins
    rw [if_pos h1, insG_cut hs S i c' (fun h => hq (List.mem_cons_of_mem _ h))]
    rfl
theorem setOfG_snoc (l : List α) (j : Nat) (hj : j < l.length) : setOf lt (l.take (j + 1)) = ins lt l[j] (setOf lt (l.take j)) := by
  rw [List.take_succ_eq_append_getElem hj, setOf, List.foldl_append]
  rfl
theorem lenG_ins_le (q : α) : ∀ S : List α, (ins lt q S).length ≤ S.length + 1
  | [] => by simp [ins]
  | y :: S => by
    have := lenG_ins_le q S
    unfold ins
    split
    · simpa using this
    · split
      · simp
      · simp
theorem lenG_fold_le : ∀ (l S : List α), (l.foldl (fun acc x => ins lt x acc) S).length ≤ S.length + l.length
  | [], S => by simp
  | x :: l, S => by
    have h1 := lenG_fold_le l (ins lt x S)
    have h2 := lenG_ins_le (lt := lt) x S
    simp only [List.foldl_cons, List.length_cons]
    omega
theorem lenG_setOf_le (l : List α) : (setOf lt l).length ≤ l.length := by
  have := lenG_fold_le (lt := lt) l []
  simpa [setOf] using this
end

/-! ## Two lists side by side. -/

section
variable {α β : Type} {R : α → β → Prop}
def Rel2 (R : α → β → Prop) (xs : List α) (ys : List β) : Prop := xs.length = ys.length ∧ ∀ j (h : j < xs.length) (h' : j < ys.length), R xs[j] ys[j]
theorem rel2_nil : Rel2 R [] [] := ⟨rfl, fun _ h => absurd h (Nat.not_lt_zero _)⟩
theorem rel2_cons {a : α} {b : β} {xs : List α} {ys : List β} : Rel2 R (a :: xs) (b :: ys) ↔ R a b ∧ Rel2 R xs ys := by
  constructor
  · rintro ⟨h1, h2⟩
    refine ⟨h2 0 (by simp) (by simp), by simpa using h1, fun j h h' => ?_⟩
    exact h2 (j + 1) (by simpa using h) (by simpa using h')
  · rintro ⟨h0, h1, h2⟩
    refine ⟨by simpa using h1, fun j h h' => ?_⟩
    cases j with
    | zero => exact h0
    | succ j => exact h2 j (by simpa using h) (by simpa using h')
theorem rel2_append : ∀ {xs : List α} {ys : List β} {xs' : List α} {ys' : List β}, Rel2 R xs ys → Rel2 R xs' ys' → Rel2 R (xs ++ xs') (ys ++ ys')
  | [], [], _, _, _, h => h
  | [], _ :: _, _, _, h, _ => absurd h.1 (by simp)
  | _ :: _, [], _, _, h, _ => absurd h.1 (by simp)
  | a :: xs, b :: ys, _, _, h, h' => by
    obtain ⟨h0, h1⟩ := rel2_cons.1 h
    exact rel2_cons.2 ⟨h0, rel2_append h1 h'⟩
theorem rel2_filter (p : α → Bool) (q : β → Bool) (hpq : ∀ a b, R a b → p a = q b) : ∀ {xs : List α} {ys : List β}, Rel2 R xs ys → Rel2 R (xs.filter p) (ys.filter q)
  | [], [], _ => rel2_nil
  | [], _ :: _, h => absurd h.1 (by simp)
  | _ :: _, [], h => absurd h.1 (by simp)
  | a :: xs, b :: ys, h => by
    obtain ⟨h0, h1⟩ := rel2_cons.1 h
    have ih := rel2_filter p q hpq h1
    rw [List.filter_cons, List.filter_cons, hpq a b h0]
    cases q b
    · exact ih
    · exact rel2_cons.2 ⟨h0, ih⟩
theorem rel2_last {xs : List α} {ys : List β} (h : Rel2 R xs ys) : (xs.getLast? = none ∧ ys.getLast? = none) ∨ ∃ a b, xs.getLast? = some a ∧ ys.getLast? = some b ∧ R a b := by
  obtain ⟨h1, h2⟩ := h
  rw [List.getLast?_eq_getElem?, List.getLast?_eq_getElem?]
  rcases Nat.eq_zero_or_pos xs.length with h0 | h0
  · exact .inl ⟨List.getElem?_eq_none (by omega), List.getElem?_eq_none (by omega)⟩
  · refine .inr ⟨_, _, List.getElem?_eq_getElem (by omega), List.getElem?_eq_getElem (show ys.length - 1 < ys.length by omega), ?_⟩
    have := h2 (xs.length - 1) (by omega) (by omega)
    simp only [h1] at this
    simpa only [h1] using this

/-- Those that rise by their names. -/
def riseStep (f : α → ByteArray) (acc : List α) (a : α) : List α :=
  match acc.getLast? with
  | none => acc ++ [a]
  | some z => if Op.bytesLess (f z).toList (f a).toList then acc ++ [a] else acc
def riseBy (f : α → ByteArray) (l : List α) : List α := l.foldl (riseStep f) []
theorem riseBy_snoc (f : α → ByteArray) (l : List α) (j : Nat) (hj : j < l.length) : riseBy f (l.take (j + 1)) = riseStep f (riseBy f (l.take j)) l[j] := by
  rw [List.take_succ_eq_append_getElem hj, riseBy, List.foldl_append]
  rfl
theorem riseStep_none {f : α → ByteArray} {acc : List α} {a : α} (h : acc = []) : riseStep f acc a = [a] := by
  subst h
  rfl
theorem riseStep_some {f : α → ByteArray} {acc : List α} {a : α} (h : acc.length - 1 < acc.length) : riseStep f acc a = if Op.bytesLess (f acc[acc.length - 1]).toList (f a).toList then acc ++ [a] else acc := by
  unfold riseStep
  rw [List.getLast?_eq_getElem?, List.getElem?_eq_getElem h]
theorem riseStep_len (f : α → ByteArray) (acc : List α) (a : α) : (riseStep f acc a).length ≤ acc.length + 1 := by
  unfold riseStep
  split
  · simp
  · split <;> simp
theorem riseBy_len (f : α → ByteArray) (l : List α) : (riseBy f l).length ≤ l.length := by
  have : ∀ (l acc : List α), (l.foldl (riseStep f) acc).length ≤ acc.length + l.length := fun l => by
    induction l with
    | nil => intro acc; simp
    | cons a l ih =>
      intro acc
      have h1 := ih (riseStep f acc a)
      have h2 := riseStep_len f acc a
      simp only [List.foldl_cons, List.length_cons]
      omega
  have := this l []
  simpa [riseBy] using this
theorem riseBy_mem (f : α → ByteArray) (l : List α) : ∀ a ∈ riseBy f l, a ∈ l := by
  have : ∀ (l acc : List α), ∀ a ∈ l.foldl (riseStep f) acc, a ∈ acc ∨ a ∈ l := fun l => by
    induction l with
    | nil => intro acc a h; exact .inl h
    | cons x l ih =>
      intro acc a h
      rcases ih _ a h with h1 | h1
      · unfold riseStep at h1
        split at h1
        · rcases List.mem_append.1 h1 with h2 | h2
          · exact .inl h2
          · exact .inr (by rw [List.mem_singleton.1 h2]; exact List.mem_cons_self)
        · split at h1
          · rcases List.mem_append.1 h1 with h2 | h2
            · exact .inl h2
            · exact .inr (by rw [List.mem_singleton.1 h2]; exact List.mem_cons_self)
          · exact .inl h1
      · exact .inr (List.mem_cons_of_mem _ h1)
  intro a h
  rcases this l [] a h with h1 | h1
  · cases h1
  · exact h1
theorem riseStep_rel {f : α → ByteArray} {g : β → ByteArray} (hfg : ∀ a b, R a b → f a = g b) {xs : List α} {ys : List β} {a : α} {b : β} (h : Rel2 R xs ys) (hab : R a b) : Rel2 R (riseStep f xs a) (riseStep g ys b) := by
  have h1 : Rel2 R (xs ++ [a]) (ys ++ [b]) := rel2_append h (rel2_cons.2 ⟨hab, rel2_nil⟩)
  unfold riseStep
  rcases rel2_last h with ⟨e1, e2⟩ | ⟨x, y, e1, e2, hxy⟩
  · rw [e1, e2]
    exact h1
  · rw [e1, e2]
    simp only [hfg x y hxy, hfg a b hab]
    split
    · exact h1
    · exact h
theorem riseBy_rel {f : α → ByteArray} {g : β → ByteArray} (hfg : ∀ a b, R a b → f a = g b) {xs : List α} {ys : List β} (h : Rel2 R xs ys) : Rel2 R (riseBy f xs) (riseBy g ys) := by
  have : ∀ (xs : List α) (ys : List β), Rel2 R xs ys → ∀ x y, Rel2 R x y → Rel2 R (xs.foldl (riseStep f) x) (ys.foldl (riseStep g) y) := fun xs => by
    induction xs with
    | nil =>
      intro ys h x y hxy
      cases ys with
      | nil => exact hxy
      | cons b ys => exact absurd h.1 (by simp)
    | cons a xs ih =>
      intro ys h x y hxy
      cases ys with
      | nil => exact absurd h.1 (by simp)
      | cons b ys =>
        obtain ⟨h0, h1⟩ := rel2_cons.1 h
        exact ih ys h1 _ _ (riseStep_rel hfg hxy h0)
  exact this xs ys h [] [] rel2_nil
end

/-! ## Dropped, then put. -/

def dropP (ps : List EntP) (u : U2) : List EntP := ps.filter fun q => decide (q.u ≠ u)
theorem rising_drop {ps : List EntP} (h : RisingP ps) (u : U2) : RisingP (dropP ps u) := by
  unfold RisingP dropP
  exact List.pairwise_map.2 ((List.pairwise_map.1 h).filter _)
theorem put_of_drop {ps : List EntP} {p : EntP} {k : Nat} (hr : RisingP ps) (hle : k ≤ (dropP ps p.u).length) (hlo : ∀ j (h : j < (dropP ps p.u).length), j < k → lessU (dropP ps p.u)[j].u p.u = true) (hhi : ∀ j (h : j < (dropP ps p.u).length), k ≤ j → lessU (dropP ps p.u)[j].u p.u = false) :
    (dropP ps p.u).take k ++ p :: (dropP ps p.u).drop k = putP ps p := by
  obtain ⟨h1, h2⟩ := cut_parts (rising_drop hr p.u) hle hlo hhi
  have hn : ¬ ∃ h : k < (dropP ps p.u).length, (dropP ps p.u)[k].u = p.u := by
    rintro ⟨h, e⟩
    have := (List.mem_filter.1 (List.getElem_mem h : (dropP ps p.u)[k] ∈ dropP ps p.u)).2
    rw [decide_eq_true_eq] at this
    exact this e
  rw [if_neg hn] at h2
  rw [← h1, ← h2]
  unfold dropP putP
  rw [List.filter_filter, List.filter_filter]
  congr 1
  · refine List.filter_congr fun q _ => ?_
    cases h : lessU q.u p.u
    · rfl
    · have : q.u ≠ p.u := fun e => by rw [e, sto_lessU.irr] at h; cases h
      simp [this]
  · congr 1
    refine List.filter_congr fun q _ => ?_
    cases h : lessU p.u q.u
    · rfl
    · have : q.u ≠ p.u := fun e => by rw [e, sto_lessU.irr] at h; cases h
      simp [this]

/-! ## What Good makes of an Ent. -/

def goodE (r : EntR) : EntP := ⟨(entP r).u, setOf lessU (entP r).ps, riseBy Prod.fst (entP r).ats⟩
theorem goodE_fits (r : EntR) : (goodE r).fits := by
  obtain ⟨h1, h2, h3⟩ := entP_fits r
  refine ⟨?_, ?_, fun a ha => h3 a (riseBy_mem _ _ a ha)⟩
  · have := lenG_setOf_le (lt := lessU) (entP r).ps
    show (setOf lessU (entP r).ps).length ≤ _
    omega
  · have := riseBy_len Prod.fst (entP r).ats
    show (riseBy Prod.fst (entP r).ats).length ≤ _
    omega
def goodsL (L : List EntR) : List EntP := aOf ((L.take 12).map goodE)
theorem goodsL_len (L : List EntR) : (goodsL L).length ≤ 12 := by
  have h := aOf_len ((L.take 12).map goodE)
  rw [List.length_map, List.length_take] at h
  unfold goodsL
  omega
theorem goodsL_fits (L : List EntR) : ∀ q ∈ goodsL L, q.fits := aOf_fits _ fun p hp => by
  obtain ⟨r, _, rfl⟩ := List.mem_map.1 hp
  exact goodE_fits r
theorem goodsL_rising (L : List EntR) : RisingP (goodsL L) := rising_a _
end Go.Proofs.YtnbbimcooilmdaaGreat
