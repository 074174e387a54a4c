/-
  Plain: entities put in whatever order (no program in it).
  Plain: steps up and down among entities; what upward tells of them.
-/
import Derived.Test.YtbbongdnnmanlaaGreatEcGB
import Derived.Test.YtbbongdnnmanlaaGreatMpHL
namespace Go.Proofs.YtbbongdnnmanlaaGreat
open Go.RowKit Go.Sort

theorem rising_put {ps : List EntP} {p : EntP} (hr : RisingP ps) : RisingP (putP ps p) := by
  unfold RisingP putP
  rw [List.map_append, List.map_cons, List.pairwise_append, List.pairwise_cons]
  have hp := List.pairwise_map.1 hr
  refine ⟨List.pairwise_map.2 (hp.filter _), ⟨fun u hu => ?_, List.pairwise_map.2 (hp.filter _)⟩, fun u hu v hv => ?_⟩
  · obtain ⟨q, hq, rfl⟩ := List.mem_map.1 hu
    exact (List.mem_filter.1 hq).2
  · obtain ⟨q, hq, rfl⟩ := List.mem_map.1 hu
    have h1 : lessU q.u p.u = true := (List.mem_filter.1 hq).2
    rcases List.mem_cons.1 hv with rfl | hv
    · exact h1
    · obtain ⟨q', hq', rfl⟩ := List.mem_map.1 hv
      exact sto_lessU.trans _ _ _ h1 (List.mem_filter.1 hq').2
theorem mem_put {ps : List EntP} {p q : EntP} : q ∈ putP ps p ↔ q = p ∨ (q ∈ ps ∧ q.u ≠ p.u) := by
  unfold putP
  rw [List.mem_append, List.mem_cons, List.mem_filter, List.mem_filter]
  constructor
  · rintro (⟨h1, h2⟩ | rfl | ⟨h1, h2⟩)
    · exact .inr ⟨h1, fun e => by rw [e, sto_lessU.irr] at h2; cases h2⟩
    · exact .inl rfl
    · exact .inr ⟨h1, fun e => by rw [e, sto_lessU.irr] at h2; cases h2⟩
  · rintro (rfl | ⟨h1, h2⟩)
    · exact .inr (.inl rfl)
    · rcases sto_lessU.tri q.u p.u with h | h | h
      · exact .inl ⟨h1, h⟩
      · exact absurd h h2
      · exact .inr (.inr ⟨h1, h⟩)
theorem put_fits {ps : List EntP} {p : EntP} (hf : ∀ q ∈ ps, q.fits) (hp : p.fits) : ∀ q ∈ putP ps p, q.fits := fun q hq => by
  rcases mem_put.1 hq with rfl | ⟨h, _⟩
  · exact hp
  · exact hf q h
theorem put_len (ps : List EntP) (p : EntP) : (putP ps p).length ≤ ps.length + 1 := by
  unfold putP
  rw [List.length_append, List.length_cons]
  have : ∀ l : List EntP, (l.filter fun q => lessU q.u p.u).length + (l.filter fun q => lessU p.u q.u).length ≤ l.length := fun l => by
    induction l with
    | nil => simp
    | cons a l ih =>
      simp only [List.filter_cons, List.length_cons]
      cases h1 : lessU a.u p.u <;> cases h2 : lessU p.u a.u <;> simp <;> try omega
      have := sto_lessU.trans _ _ _ h1 h2
      rw [sto_lessU.irr] at this
      cases this
  have := this ps
  omega
theorem rising_ext : ∀ (a b : List EntP), RisingP a → RisingP b → (∀ p, p ∈ a ↔ p ∈ b) → a = b
  | [], [], _, _, _ => rfl
  | [], y :: b, _, _, h => absurd ((h y).2 List.mem_cons_self) (List.not_mem_nil)
  | x :: a, [], _, _, h => absurd ((h x).1 List.mem_cons_self) (List.not_mem_nil)
  | x :: a, y :: b, ha, hb, h => by
    have ha' := List.pairwise_cons.1 (show ((x :: a).map EntP.u).Pairwise _ from ha)
    have hb' := List.pairwise_cons.1 (show ((y :: b).map EntP.u).Pairwise _ from hb)
    have lx : ∀ q ∈ a, lessU x.u q.u = true := fun q hq => ha'.1 _ (List.mem_map_of_mem hq)
    have ly : ∀ q ∈ b, lessU y.u q.u = true := fun q hq => hb'.1 _ (List.mem_map_of_mem hq)
    have hxy : x = y := by
      rcases List.mem_cons.1 ((h x).1 List.mem_cons_self) with e | e
      · exact e
      · rcases List.mem_cons.1 ((h y).2 List.mem_cons_self) with e' | e'
        · exact e'.symm
        · have := sto_lessU.trans _ _ _ (lx y e') (ly x e)
          rw [sto_lessU.irr] at this
          cases this
    subst hxy
    congr 1
    refine rising_ext a b ha'.2 hb'.2 fun p => ⟨fun hp => ?_, fun hp => ?_⟩
    · rcases List.mem_cons.1 ((h p).1 (List.mem_cons_of_mem _ hp)) with e | e
      · subst e
        have := lx p hp
        rw [sto_lessU.irr] at this
        cases this
      · exact e
    · rcases List.mem_cons.1 ((h p).2 (List.mem_cons_of_mem _ hp)) with e | e
      · subst e
        have := ly p hp
        rw [sto_lessU.irr] at this
        cases this
      · exact e
/-- All put, one behind the other. -/
def aOf (L : List EntP) : List EntP := L.foldl putP []
theorem aOf_snoc (L : List EntP) (p : EntP) : aOf (L ++ [p]) = putP (aOf L) p := by simp [aOf]
/-- The last one of each put, the last first. -/
def bOf : List EntP → List EntP
  | [] => []
  | x :: t => if (findP (bOf t) x.u).isSome then bOf t else putP (bOf t) x
theorem rising_b : ∀ L, RisingP (bOf L)
  | [] => List.Pairwise.nil
  | x :: t => by
    unfold bOf
    split
    · exact rising_b t
    · exact rising_put (rising_b t)
theorem find_some {ps : List EntP} {u : U2} : (findP ps u).isSome = true ↔ ∃ q ∈ ps, q.u = u := by
  unfold findP
  rw [List.find?_isSome]
  simp
/-- Who is there: the last one of its uid. -/
theorem mem_b : ∀ (L : List EntP) (p : EntP), p ∈ bOf L ↔ ∃ l r, L = l ++ p :: r ∧ ∀ q ∈ r, q.u ≠ p.u
  | [], p => by
    constructor
    · intro h; cases h
    · rintro ⟨l, r, e, _⟩
      cases l <;> cases e
  | x :: t, p => by
    have key : (∃ q ∈ bOf t, q.u = x.u) ↔ ∃ q ∈ t, q.u = x.u := by
      constructor
      · rintro ⟨q, hq, hu⟩
        obtain ⟨l, r, e, _⟩ := (mem_b t q).1 hq
        exact ⟨q, by rw [e]; simp, hu⟩
      · rintro ⟨q, hq, hu⟩
        -- the last of that uid
        have last : ∀ (s : List EntP), (∃ q ∈ s, q.u = x.u) → ∃ l q r, s = l ++ q :: r ∧ q.u = x.u ∧ ∀ q' ∈ r, q'.u ≠ x.u := by
          intro s
          induction s with
          | nil => rintro ⟨_, h, _⟩; cases h
          | cons a s ih =>
            intro h
            by_cases hs : ∃ q ∈ s, q.u = x.u
            · obtain ⟨l, q, r, e, h1, h2⟩ := ih hs
              exact ⟨a :: l, q, r, by rw [e]; rfl, h1, h2⟩
            · obtain ⟨q, hq, hu⟩ := h
              rcases List.mem_cons.1 hq with rfl | hq
              · exact ⟨[], q, s, rfl, hu, fun q' h' e => hs ⟨q', h', e⟩⟩
              · exact absurd ⟨q, hq, hu⟩ hs
        obtain ⟨l, q', r, e, h1, h2⟩ := last t ⟨q, hq, hu⟩
        exact ⟨q', (mem_b t q').2 ⟨l, r, e, fun z hz => by rw [h1]; exact h2 z hz⟩, h1⟩
    unfold bOf
    split
    · rename_i hs
      obtain ⟨q0, hq0, hu0⟩ := key.1 (find_some.1 hs)
      rw [mem_b t p]
      constructor
      · rintro ⟨l, r, e, h⟩
        exact ⟨x :: l, r, by rw [e]; rfl, h⟩
      · rintro ⟨l, r, e, h⟩
        cases l with
        | nil =>
          cases e
          exact absurd hu0 (h q0 hq0)
        | cons a l =>
          cases e
          exact ⟨l, r, rfl, h⟩
    · rename_i hs
      have hno : ∀ q ∈ t, q.u ≠ x.u := fun q hq hu => hs (find_some.2 (key.2 ⟨q, hq, hu⟩))
      rw [mem_put, mem_b t p]
      constructor
      · rintro (rfl | ⟨⟨l, r, e, h⟩, _⟩)
        · exact ⟨[], t, rfl, hno⟩
        · exact ⟨x :: l, r, by rw [e]; rfl, h⟩
      · rintro ⟨l, r, e, h⟩
        cases l with
        | nil =>
          cases e
          exact .inl rfl
        | cons a l =>
          cases e
          exact .inr ⟨⟨l, r, rfl, h⟩, hno p (by simp)⟩
theorem rising_a (L : List EntP) : RisingP (aOf L) := by
  have : ∀ (L : List EntP) (z : List EntP), RisingP z → RisingP (L.foldl putP z) := fun L => by
    induction L with
    | nil => intro z hz; exact hz
    | cons a L ih => intro z hz; exact ih _ (rising_put hz)
  exact this L [] List.Pairwise.nil
theorem mem_fold : ∀ (L z : List EntP) (p : EntP), p ∈ L.foldl putP z ↔ (∃ l r, L = l ++ p :: r ∧ ∀ q ∈ r, q.u ≠ p.u) ∨ (p ∈ z ∧ ∀ q ∈ L, q.u ≠ p.u)
  | [], z, p => by
    constructor
    · intro h; exact .inr ⟨h, fun _ h => by cases h⟩
    · rintro (⟨l, r, e, _⟩ | ⟨h, _⟩)
      · cases l <;> cases e
      · exact h
  | x :: L, z, p => by
    show p ∈ L.foldl putP (putP z x) ↔ _
    rw [mem_fold L (putP z x) p, mem_put]
    constructor
    · rintro (⟨l, r, e, h⟩ | ⟨rfl | ⟨h1, h2⟩, h3⟩)
      · exact .inl ⟨x :: l, r, by rw [e]; rfl, h⟩
      · exact .inl ⟨[], L, rfl, h3⟩
      · refine .inr ⟨h1, fun q hq => ?_⟩
        rcases List.mem_cons.1 hq with rfl | hq
        · exact fun e => h2 e.symm
        · exact h3 q hq
    · rintro (⟨l, r, e, h⟩ | ⟨h1, h2⟩)
      · cases l with
        | nil =>
          cases e
          exact .inr ⟨.inl rfl, h⟩
        | cons a l =>
          cases e
          exact .inl ⟨l, r, rfl, h⟩
      · exact .inr ⟨.inr ⟨h1, fun e => h2 x List.mem_cons_self e.symm⟩, fun q hq => h2 q (List.mem_cons_of_mem _ hq)⟩
theorem a_eq_b (L : List EntP) : aOf L = bOf L := by
  refine rising_ext _ _ (rising_a L) (rising_b L) fun p => ?_
  rw [mem_b L p]
  unfold aOf
  rw [mem_fold L [] p]
  constructor
  · rintro (h | ⟨h, _⟩)
    · exact h
    · cases h
  · exact .inl
theorem aOf_len (L : List EntP) : (aOf L).length ≤ L.length := by
  have : ∀ (L z : List EntP), (L.foldl putP z).length ≤ z.length + L.length := fun L => by
    induction L with
    | nil => intro z; simp
    | cons a L ih =>
      intro z
      have h1 := ih (putP z a)
      have h2 := put_len z a
      simp only [List.foldl_cons, List.length_cons]
      omega
  have := this L []
  simpa [aOf] using this
theorem bOf_len : ∀ L : List EntP, (bOf L).length ≤ L.length
  | [] => Nat.le_refl _
  | x :: t => by
    have := bOf_len t
    unfold bOf
    split
    · simp; omega
    · have := put_len (bOf t) x
      simp
      omega
theorem aOf_fits (L : List EntP) (h : ∀ p ∈ L, p.fits) : ∀ q ∈ aOf L, q.fits := fun q hq => by
  unfold aOf at hq
  rcases (mem_fold L [] q).1 hq with ⟨l, r, e, _⟩ | ⟨h, _⟩
  · exact h q (by rw [e]; simp)
  · cases h
theorem bOf_fits (L : List EntP) (h : ∀ p ∈ L, p.fits) : ∀ q ∈ bOf L, q.fits := by
  rw [← a_eq_b]
  exact aOf_fits L h
end Go.Proofs.YtbbongdnnmanlaaGreat

namespace Go.Proofs.YtbbongdnnmanlaaGreat
open Go.RowKit Go.Sort

/-- From an entity to its parents. -/
def upS (ps : List EntP) (u : U2) : List U2 := match findP ps u with
  | some p => p.ps
  | none => []
theorem rising_nodup {ps : List EntP} (hr : RisingP ps) : (ps.map EntP.u).Nodup :=
  List.Pairwise.imp (fun {a b} h e => by rw [e, sto_lessU.irr] at h; cases h) hr
theorem find_mem : ∀ {ps : List EntP}, (ps.map EntP.u).Nodup → ∀ {p : EntP}, p ∈ ps → findP ps p.u = some p
  | q :: ps, hn, p, hp => by
    have hn' := List.nodup_cons.1 (show (q.u :: ps.map EntP.u).Nodup from hn)
    unfold findP
    rw [List.find?_cons]
    rcases List.mem_cons.1 hp with rfl | hp
    · simp
    · have hne : ¬ q.u = p.u := fun e => hn'.1 (by rw [e]; exact List.mem_map_of_mem hp)
      rw [decide_eq_false hne]
      exact find_mem hn'.2 hp
theorem find_is {ps : List EntP} {u : U2} {p : EntP} (h : findP ps u = some p) : p ∈ ps ∧ p.u = u :=
  ⟨List.mem_of_find?_eq_some h, by simpa using List.find?_some h⟩
theorem mem_upS {ps : List EntP} (hn : (ps.map EntP.u).Nodup) (u x : U2) : x ∈ upS ps u ↔ ∃ p ∈ ps, p.u = u ∧ x ∈ p.ps := by
  unfold upS
  constructor
  · intro h
    cases hf : findP ps u with
    | none => rw [hf] at h; cases h
    | some p =>
      rw [hf] at h
      obtain ⟨h1, h2⟩ := find_is hf
      exact ⟨p, h1, h2, h⟩
  · rintro ⟨p, h1, rfl, h2⟩
    rw [find_mem hn h1]
    exact h2
/-- The entities as uids with their parents. -/
def pairsP (ps : List EntP) : List (U2 × List U2) := ps.map fun p => (p.u, p.ps)
theorem mem_down {ps : List EntP} (hn : (ps.map EntP.u).Nodup) (y x : U2) : x ∈ downS (pairsP ps) y ↔ y ∈ upS ps x := by
  rw [mem_upS hn]
  unfold downS
  rw [mem_downS y x (pairsP ps)]
  unfold pairsP
  constructor
  · rintro (h | ⟨q, hq, e, h⟩)
    · cases h
    · obtain ⟨p, hp, rfl⟩ := List.mem_map.1 hq
      exact ⟨p, hp, e.symm, h⟩
  · rintro ⟨p, hp, e, h⟩
    exact .inr ⟨_, List.mem_map_of_mem hp, e.symm, h⟩
theorem Way.trans {S : U2 → List U2} {a b c : U2} (h : Way S a b) (h2 : Way S b c) : Way S a c := by
  induction h2 with
  | here => exact h
  | step _ hx ih => exact .step ih hx
theorem Way.flip {S T : U2 → List U2} (hst : ∀ a b, b ∈ S a → a ∈ T b) {a b : U2} (h : Way S a b) : Way T b a := by
  induction h with
  | here => exact .here _
  | step _ hx ih => exact (Way.step (.here _) (hst _ _ hx)).trans ih
theorem way_down {ps : List EntP} (hn : (ps.map EntP.u).Nodup) (a b : U2) : Way (downS (pairsP ps)) a b ↔ Way (upS ps) b a :=
  ⟨Way.flip fun x y h => (mem_down hn x y).1 h, Way.flip fun x y h => (mem_down hn y x).2 h⟩

theorem putM_end {M : List (U2 × Value)} {u : U2} (h : u ∉ M.map Prod.fst) (v : Value) : putM M u v = M ++ [(u, v)] := by
  unfold putM
  rw [List.findIdx?_eq_none_iff.2 (fun p hp => decide_eq_false fun e => h (by rw [e]; exact List.mem_map_of_mem hp))]
theorem upM_map : ∀ (es : List E4), (es.map e4uM).Nodup → upM es = es.map fun e => (e4uM e, Value.slice e.po e.pl e.pc) := by
  have H : ∀ (es : List E4) (M : List (U2 × Value)), (M.map Prod.fst ++ es.map e4uM).Nodup → es.foldl (fun M e => putM M (e4uM e) (.slice e.po e.pl e.pc)) M = M ++ es.map fun e => (e4uM e, Value.slice e.po e.pl e.pc) := fun es => by
    induction es with
    | nil => intro M _; simp
    | cons e es ih =>
      intro M hn
      rw [List.foldl_cons, putM_end (fun hm => (List.nodup_append.1 hn).2.2 _ hm _ List.mem_cons_self rfl), ih _ (by simpa using hn)]
      simp
  intro es hn
  have h := H es [] (by simpa using hn)
  rw [List.nil_append] at h
  exact h
theorem e4uM_all {w : World} {P : Nat → Prop} {es : List E4} {ps : List EntP} (h : AllEnt w P es ps) : es.map e4uM = ps.map EntP.u := by
  apply List.ext_getElem
  · simpa using h.1
  · intro i h1 h2
    simp only [List.getElem_map]
    exact (h.2 i (by simpa using h1) (by simpa using h2)).u
theorem rowG_blk {w : World} {ao : Option Addr} {k : Nat} {xs : List (List Value)} (h : RowG w ao k xs) (hne : xs ≠ []) : ∀ ad, ao = some ad → ad.block < w.heap.size := fun ad e => by
  have h0 : 0 < xs.length := List.length_pos_iff.2 hne
  obtain ⟨b, off, e2, hb, _⟩ := h 0 h0
  rw [e] at e2
  cases e2
  exact hb
/-- Steps up, in memory. -/
theorem steps_up {w : World} {P : Nat → Prop} {es : List E4} {ps : List EntP} (h : AllEnt w P es ps) (hr : (ps.map EntP.u).Nodup) (hl : ∀ p ∈ ps, p.ps.length ≤ 1000) : StepsR w w.heap.size (upM es) (upS ps) := fun u => by
  rw [upM_map es (by rw [e4uM_all h]; exact hr)]
  unfold upS
  cases hf : findP ps u with
  | none =>
    refine ⟨none, 0, ?_, fun j hj => absurd hj (Nat.not_lt_zero _), fun ad e _ => (by cases e), Nat.zero_le _⟩
    rw [lookM_none]
    · rfl
    · unfold hasM
      rw [List.any_eq_false]
      intro q hq hd
      obtain ⟨e, he, rfl⟩ := List.mem_map.1 hq
      have hu : u = e4uM e := by simpa using hd
      have : u ∈ ps.map EntP.u := by rw [← e4uM_all h, hu]; exact List.mem_map_of_mem he
      obtain ⟨p, hp, e2⟩ := List.mem_map.1 this
      have := find_mem hr hp
      rw [e2, hf] at this
      cases this
  | some p =>
    obtain ⟨hp, hu⟩ := find_is hf
    have hm : hasM (es.map fun e => (e4uM e, Value.slice e.po e.pl e.pc)) u = true := by
      unfold hasM
      rw [List.any_eq_true]
      have : u ∈ es.map e4uM := by rw [e4uM_all h, ← hu]; exact List.mem_map_of_mem hp
      obtain ⟨e, he, e2⟩ := List.mem_map.1 this
      exact ⟨_, List.mem_map_of_mem he, by simp [e2]⟩
    obtain ⟨i, hi, e1, e2⟩ := lookM_some hm
    have hi' : i < es.length := by simpa using hi
    have hip : i < ps.length := by rw [← h.1]; exact hi'
    have I := h.2 i hi' hip
    simp only [List.getElem_map] at e1 e2
    have hpi : ps[i] = p := by
      have := find_mem hr (List.getElem_mem hip)
      rw [← I.u] at this
      rw [show (⟨es[i].t, es[i].i⟩ : U2) = u from e1.symm, hf] at this
      cases this
      rfl
    rw [hpi] at I
    refine ⟨es[i].po, es[i].pc, ?_, I.rowU, fun ad e hne => ?_, hl p hp⟩
    · rw [e2]
      show Value.slice es[i].po es[i].pl es[i].pc = _
      rw [I.pl]
    · exact rowG_blk I.rowU (by simpa using hne) ad e
/-- Entities with their parents, for downward. -/
theorem down_all {w : World} {P : Nat → Prop} {es : List E4} {ps : List EntP} (h : AllEnt w P es ps) (hl : ∀ p ∈ ps, p.ps.length ≤ 1000) : DownE w es (pairsP ps) := by
  refine ⟨by unfold pairsP; rw [List.length_map]; exact h.1.symm, fun j hj hlj => ?_⟩
  have hjp : j < ps.length := by simpa [pairsP] using hlj
  have I := h.2 j hj hjp
  have e : (pairsP ps)[j] = (ps[j].u, ps[j].ps) := by simp [pairsP]
  rw [e]
  exact ⟨I.u.symm, I.pl, I.rowU, fun ad ea hne => rowG_blk I.rowU (by simpa using hne) ad ea, hl _ (List.getElem_mem hjp)⟩
end Go.Proofs.YtbbongdnnmanlaaGreat
