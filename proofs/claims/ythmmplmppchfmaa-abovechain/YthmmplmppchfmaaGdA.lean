/-
  Plain: entities such xs may be, made of any (no program in it).
-/
import Derived.Test.YthmmplmppchfmaaEfoP
import Derived.Test.YthmmplmppchfmaaElAO
namespace Go.Proofs.Ythmmplmppchfmaa
open Go.RowKit Go.Sort

/-! ## One more in its place, for any strict order. -/

section
variable {α : Type} {lt : α → α → Bool}
structure CutG (lt : α → α → Bool) (l : List α) (q : α) (i : Nat) : Prop where
  le : i ≤ l.length
  lo : ∀ k (h : k < l.length), k < i → lt l[k] q = true
  hi : ∀ k (h : k < l.length), i ≤ k → lt l[k] q = false
theorem CutG.at (hs : Sto lt) {S : List α} {q : α} {k : Nat} (hr : Rising lt S) (hk : k < S.length) (lo : ∀ i (h : i < S.length), i < k → lt S[i] q = true) (hh : lt S[k] q = false) : CutG lt S q k :=
  ⟨Nat.le_of_lt hk, lo, fun i h hik => by
    by_cases hik' : i = k
    · subst hik'
      exact hh
    · have h1 := List.pairwise_iff_getElem.1 hr k i hk h (by omega)
      cases h2 : lt S[i] q
      · rfl
      · have h3 := hs.trans _ _ _ h1 h2
        rw [hh] at h3
        cases h3⟩
theorem CutG.mem (hs : Sto lt) {l : List α} {q : α} {i : Nat} (c : CutG lt l q i) (hr : Rising lt l) : q ∈ l ↔ ∃ h : i < l.length, l[i] = q := by
  constructor
  · intro hq
    obtain ⟨k, hk, e⟩ := List.getElem_of_mem hq
    have h1 : ¬ k < i := fun h => by
      have := c.lo k hk h
      rw [e, hs.irr] at this
      cases this
    have hil : i < l.length := by omega
    refine ⟨hil, ?_⟩
    by_cases hki : k = i
    · subst hki
      exact e
    · have := List.pairwise_iff_getElem.1 hr i k hil hk (by omega)
      rw [e] at this
      have h2 := c.hi i hil (Nat.le_refl _)
      rw [this] at h2
      cases h2
  · rintro ⟨h, rfl⟩
    exact List.getElem_mem _
theorem insG_mem (hs : Sto lt) {q : α} : ∀ (S : List α), Rising lt S → q ∈ S → ins lt q S = S
  | y :: S, hr, hq => by
    have hr' := List.pairwise_cons.1 hr
    unfold ins
    rcases List.mem_cons.1 hq with e | e
    · subst e
      rw [hs.irr]
      rfl
    · rw [if_pos (hr'.1 q e), insG_mem hs S hr'.2 e]
theorem insG_cut (hs : Sto lt) {q : α} : ∀ (S : List α) (i : Nat), CutG lt S q i → q ∉ S → ins lt q S = S.take i ++ q :: S.drop i
  | [], i, c, _ => by
    rw [List.take_nil, List.drop_nil]
    rfl
  | y :: S, 0, c, hq => by
    have h1' : lt y q = false := c.hi 0 (by simp) (Nat.le_refl _)
    have h2 : lt q y = true := by
      rcases hs.tri q y with e | e | e
      · exact e
      · exact absurd (by rw [e]; simp) hq
      · rw [h1'] at e
        cases e
    unfold ins
    rw [h1', h2]
    rfl
  | y :: S, i + 1, c, hq => by
    have h1 : lt y q = true := c.lo 0 (by simp) (by omega)
    have c' : CutG lt S q i := ⟨by have := c.le; simpa using this, fun k h hk => by have := c.lo (k + 1) (by simpa using h) (by omega); simpa using this, fun k h hk => by have := c.hi (k + 1) (by simpa using h) (by omega); simpa using this⟩
    unfold ins
    rw [if_pos h1, insG_cut hs S i c' (fun h => hq (List.mem_cons_of_mem _ h))]
    rfl
theorem setOfG_snoc (l : List α) (j : Nat) (hj : j < l.length) : setOf lt (l.take (j + 1)) = ins lt l[j] (setOf lt (l.take j)) := by
  rw [List.take_succ_eq_append_getElem hj, setOf, List.foldl_append]
  rfl
theorem lenG_ins_le (q : α) : ∀ S : List α, (ins lt q S).length ≤ S.length + 1
  | [] => by simp [ins]
  | y :: S => by
    have := lenG_ins_le q S
    unfold ins
    split
    · simpa using this
    · split
      · simp
      · simp
theorem lenG_fold_le : ∀ (l S : List α), (l.foldl (fun acc x => ins lt x acc) S).length ≤ S.length + l.length
  | [], S => by simp
  | x :: l, S => by
    have h1 := lenG_fold_le l (ins lt x S)
    have h2 := lenG_ins_le (lt := lt) x S
    simp only [List.foldl_cons, List.length_cons]
    omega
theorem lenG_setOf_le (l : List α) : (setOf lt l).length ≤ l.length := by
  have := lenG_fold_le (lt := lt) l []
  simpa [setOf] using this
end

/-! ## Two lists side by side. -/

section
variable {α β : Type} {R : α → β → Prop}
def Rel2 (R : α → β → Prop) (xs : List α) (ys : List β) : Prop := xs.length = ys.length ∧ ∀ j (h : j < xs.length) (h' : j < ys.length), R xs[j] ys[j]
theorem rel2_nil : Rel2 R [] [] := ⟨rfl, fun _ h => absurd h (Nat.not_lt_zero _)⟩
theorem rel2_cons {a : α} {b : β} {xs : List α} {ys : List β} : Rel2 R (a :: xs) (b :: ys) ↔ R a b ∧ Rel2 R xs ys := by
  constructor
  · rintro ⟨h1, h2⟩
    refine ⟨h2 0 (by simp) (by simp), by simpa using h1, fun j h h' => ?_⟩
    exact h2 (j + 1) (by simpa using h) (by simpa using h')
  · rintro ⟨h0, h1, h2⟩
    refine ⟨by simpa using h1, fun j h h' => ?_⟩
    cases j with
    | zero => exact h0
    | succ j => exact h2 j (by simpa using h) (by simpa using h')
theorem rel2_append : ∀ {xs : List α} {ys : List β} {xs' : List α} {ys' : List β}, Rel2 R xs ys → Rel2 R xs' ys' → Rel2 R (xs ++ xs') (ys ++ ys')
  | [], [], _, _, _, h => h
  | [], _ :: _, _, _, h, _ => absurd h.1 (by simp)
  | _ :: _, [], _, _, h, _ => absurd h.1 (by simp)
  | a :: xs, b :: ys, _, _, h, h' => by
    obtain ⟨h0, h1⟩ := rel2_cons.1 h
    exact rel2_cons.2 ⟨h0, rel2_append h1 h'⟩
theorem rel2_filter (p : α → Bool) (q : β → Bool) (hpq : ∀ a b, R a b → p a = q b) : ∀ {xs : List α} {ys : List β}, Rel2 R xs ys → Rel2 R (xs.filter p) (ys.filter q)
  | [], [], _ => rel2_nil
  | [], _ :: _, h => absurd h.1 (by simp)
  | _ :: _, [], h => absurd h.1 (by simp)
  | a :: xs, b :: ys, h => by
    obtain ⟨h0, h1⟩ := rel2_cons.1 h
    have ih := rel2_filter p q hpq h1
    rw [List.filter_cons, List.filter_cons, hpq a b h0]
    cases q b
    · exact ih
    · exact rel2_cons.2 ⟨h0, ih⟩
theorem rel2_last {xs : List α} {ys : List β} (h : Rel2 R xs ys) : (xs.getLast? = none ∧ ys.getLast? = none) ∨ ∃ a b, xs.getLast? = some a ∧ ys.getLast? = some b ∧ R a b := by
  obtain ⟨h1, h2⟩ := h
  rw [List.getLast?_eq_getElem?, List.getLast?_eq_getElem?]
  rcases Nat.eq_zero_or_pos xs.length with h0 | h0
  · exact .inl ⟨List.getElem?_eq_none (by omega), List.getElem?_eq_none (by omega)⟩
  · refine .inr ⟨_, _, List.getElem?_eq_getElem (by omega), List.getElem?_eq_getElem (show ys.length - 1 < ys.length by omega), ?_⟩
    have := h2 (xs.length - 1) (by omega) (by omega)
    simp only [h1] at this
    simpa only [h1] using this

/-- Those that rise by their names. -/
def riseStep (f : α → ByteArray) (acc : List α) (a : α) : List α :=
  match acc.getLast? with
  | none => acc ++ [a]
  | some z => if Op.bytesLess (f z).toList (f a).toList then acc ++ [a] else acc
def riseBy (f : α → ByteArray) (l : List α) : List α := l.foldl (riseStep f) []
theorem riseBy_snoc (f : α → ByteArray) (l : List α) (j : Nat) (hj : j < l.length) : riseBy f (l.take (j + 1)) = riseStep f (riseBy f (l.take j)) l[j] := by
  rw [List.take_succ_eq_append_getElem hj, riseBy, List.foldl_append]
  rfl
theorem riseStep_none {f : α → ByteArray} {acc : List α} {a : α} (h : acc = []) : riseStep f acc a = [a] := by
  subst h
  rfl
theorem riseStep_some {f : α → ByteArray} {acc : List α} {a : α} (h : acc.length - 1 < acc.length) : riseStep f acc a = if Op.bytesLess (f acc[acc.length - 1]).toList (f a).toList then acc ++ [a] else acc := by
  unfold riseStep
  rw [List.getLast?_eq_getElem?, List.getElem?_eq_getElem h]
theorem riseStep_len (f : α → ByteArray) (acc : List α) (a : α) : (riseStep f acc a).length ≤ acc.length + 1 := by
  unfold riseStep
  split
  · simp
  · split <;> simp
theorem riseBy_len (f : α → ByteArray) (l : List α) : (riseBy f l).length ≤ l.length := by
  have : ∀ (l acc : List α), (l.foldl (riseStep f) acc).length ≤ acc.length + l.length := fun l => by
    induction l with
    | nil => intro acc; simp
    | cons a l ih =>
      intro acc
      have h1 := ih (riseStep f acc a)
      have h2 := riseStep_len f acc a
      simp only [List.foldl_cons, List.length_cons]
      omega
  have := this l []
  simpa [riseBy] using this
theorem riseBy_mem (f : α → ByteArray) (l : List α) : ∀ a ∈ riseBy f l, a ∈ l := by
  have : ∀ (l acc : List α), ∀ a ∈ l.foldl (riseStep f) acc, a ∈ acc ∨ a ∈ l := fun l => by
    induction l with
    | nil => intro acc a h; exact .inl h
    | cons x l ih =>
      intro acc a h
      rcases ih _ a h with h1 | h1
      · unfold riseStep at h1
        split at h1
        · rcases List.mem_append.1 h1 with h2 | h2
          · exact .inl h2
          · exact .inr (by rw [List.mem_singleton.1 h2]; exact List.mem_cons_self)
        · split at h1
          · rcases List.mem_append.1 h1 with h2 | h2
            · exact .inl h2
            · exact .inr (by rw [List.mem_singleton.1 h2]; exact List.mem_cons_self)
          · exact .inl h1
      · exact .inr (List.mem_cons_of_mem _ h1)
  intro a h
  rcases this l [] a h with h1 | h1
  · cases h1
  · exact h1
theorem riseStep_rel {f : α → ByteArray} {g : β → ByteArray} (hfg : ∀ a b, R a b → f a = g b) {xs : List α} {ys : List β} {a : α} {b : β} (h : Rel2 R xs ys) (hab : R a b) : Rel2 R (riseStep f xs a) (riseStep g ys b) := by
  have h1 : Rel2 R (xs ++ [a]) (ys ++ [b]) := rel2_append h (rel2_cons.2 ⟨hab, rel2_nil⟩)
  unfold riseStep
  rcases rel2_last h with ⟨e1, e2⟩ | ⟨x, y, e1, e2, hxy⟩
  · rw [e1, e2]
    exact h1
  · rw [e1, e2]
    simp only [hfg x y hxy, hfg a b hab]
    split
    · exact h1
    · exact h
theorem riseBy_rel {f : α → ByteArray} {g : β → ByteArray} (hfg : ∀ a b, R a b → f a = g b) {xs : List α} {ys : List β} (h : Rel2 R xs ys) : Rel2 R (riseBy f xs) (riseBy g ys) := by
  have : ∀ (xs : List α) (ys : List β), Rel2 R xs ys → ∀ x y, Rel2 R x y → Rel2 R (xs.foldl (riseStep f) x) (ys.foldl (riseStep g) y) := fun xs => by
    induction xs with
    | nil =>
      intro ys h x y hxy
      cases ys with
      | nil => exact hxy
      | cons b ys => exact absurd h.1 (by simp)
    | cons a xs ih =>
      intro ys h x y hxy
      cases ys with
      | nil => exact absurd h.1 (by simp)
      | cons b ys =>
        obtain ⟨h0, h1⟩ := rel2_cons.1 h
        exact ih ys h1 _ _ (riseStep_rel hfg hxy h0)
  exact this xs ys h [] [] rel2_nil
end

/-! ## Dropped, then put. -/

def dropP (ps : List EntP) (u : U2) : List EntP := ps.filter fun q => decide (q.u ≠ u)
theorem rising_drop {ps : List EntP} (h : RisingP ps) (u : U2) : RisingP (dropP ps u) := by
  unfold RisingP dropP
  exact List.pairwise_map.2 ((List.pairwise_map.1 h).filter _)
theorem put_of_drop {ps : List EntP} {p : EntP} {k : Nat} (hr : RisingP ps) (hle : k ≤ (dropP ps p.u).length) (hlo : ∀ j (h : j < (dropP ps p.u).length), j < k → lessU (dropP ps p.u)[j].u p.u = true) (hhi : ∀ j (h : j < (dropP ps p.u).length), k ≤ j → lessU (dropP ps p.u)[j].u p.u = false) :
    (dropP ps p.u).take k ++ p :: (dropP ps p.u).drop k = putP ps p := by
  obtain ⟨h1, h2⟩ := cut_parts (rising_drop hr p.u) hle hlo hhi
  have hn : ¬ ∃ h : k < (dropP ps p.u).length, (dropP ps p.u)[k].u = p.u := by
    rintro ⟨h, e⟩
    have := (List.mem_filter.1 (List.getElem_mem h : (dropP ps p.u)[k] ∈ dropP ps p.u)).2
    rw [decide_eq_true_eq] at this
    exact this e
  rw [if_neg hn] at h2
  rw [← h1, ← h2]
  unfold dropP putP
  rw [List.filter_filter, List.filter_filter]
  congr 1
  · refine List.filter_congr fun q _ => ?_
    cases h : lessU q.u p.u
    · rfl
    · have : q.u ≠ p.u := fun e => by rw [e, sto_lessU.irr] at h; cases h
      simp [this]
  · congr 1
    refine List.filter_congr fun q _ => ?_
    cases h : lessU p.u q.u
    · rfl
    · have : q.u ≠ p.u := fun e => by rw [e, sto_lessU.irr] at h; cases h
      simp [this]

/-! ## What Good makes of an Ent. -/

def goodE (r : EntR) : EntP := ⟨(entP r).u, setOf lessU (entP r).ps, riseBy Prod.fst (entP r).ats⟩
theorem goodE_fits (r : EntR) : (goodE r).fits := by
  obtain ⟨h1, h2, h3⟩ := entP_fits r
  refine ⟨?_, ?_, fun a ha => h3 a (riseBy_mem _ _ a ha)⟩
  · have := lenG_setOf_le (lt := lessU) (entP r).ps
    show (setOf lessU (entP r).ps).length ≤ _
    omega
  · have := riseBy_len Prod.fst (entP r).ats
    show (riseBy Prod.fst (entP r).ats).length ≤ _
    omega
def goodsL (L : List EntR) : List EntP := aOf ((L.take 12).map goodE)
theorem goodsL_len (L : List EntR) : (goodsL L).length ≤ 12 := by
  have h := aOf_len ((L.take 12).map goodE)
  rw [List.length_map, List.length_take] at h
  unfold goodsL
  omega
theorem goodsL_fits (L : List EntR) : ∀ q ∈ goodsL L, q.fits := aOf_fits _ fun p hp => by
  obtain ⟨r, _, rfl⟩ := List.mem_map.1 hp
  exact goodE_fits r
theorem goodsL_rising (L : List EntR) : RisingP (goodsL L) := rising_a _
end Go.Proofs.Ythmmplmppchfmaa
