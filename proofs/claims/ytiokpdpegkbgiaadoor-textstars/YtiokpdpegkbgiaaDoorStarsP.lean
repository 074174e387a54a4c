/-
  Plain facts on patterns with stars in the place of pieces (no program in it).
-/
import Derived.Test.YtiokpdpegkbgiaaDoorLikeP
import Derived.Test.YtiokpdpegkbgiaaDoorEncP
namespace Go.Proofs.YtiokpdpegkbgiaaDoor
open Go

theorem mt_append (p' s' : List UInt8) (h' : Mt p' s') : ∀ (p s : List UInt8), Mt p s → Mt (p ++ p') (s ++ s')
  | [], s, h => by
    rw [mt_nil] at h
    subst h
    exact h'
  | c :: p, s, h => by
    by_cases hc : c = 42
    · subst hc
      rw [mt_star] at h
      rw [List.cons_append, mt_star]
      obtain ⟨u, v, rfl, hv⟩ := h
      exact ⟨u, v ++ s', by simp, mt_append p' s' h' p v hv⟩
    · rw [mt_cons hc] at h
      rw [List.cons_append, mt_cons hc]
      obtain ⟨t, rfl, ht⟩ := h
      exact ⟨t ++ s', rfl, mt_append p' s' h' p t ht⟩

/-- A pattern without stars says itself alone. -/
theorem mt_plain (l s : List UInt8) (h : ∀ b ∈ l, b ≠ 42) : Mt l s ↔ s = l := by
  have := mt_piece [] l s h
  rw [List.append_nil] at this
  rw [this]
  constructor
  · rintro ⟨t, rfl, ht⟩
    rw [mt_nil] at ht
    rw [ht, List.append_nil]
  · rintro rfl
    exact ⟨[], by simp, rfl⟩

/-- What stands behind the last star stands at the text's end. -/
theorem mt_tail (e : List UInt8) (he : ∀ b ∈ e, b ≠ 42) : ∀ (p s : List UInt8), Mt (p ++ e) s → ∃ s', s = s' ++ e
  | [], s, h => ⟨[], (mt_plain e s he).1 h⟩
  | c :: p, s, h => by
    by_cases hc : c = 42
    · subst hc
      rw [List.cons_append, mt_star] at h
      obtain ⟨u, v, rfl, hv⟩ := h
      obtain ⟨v', rfl⟩ := mt_tail e he p v hv
      exact ⟨u ++ v', by simp⟩
    · rw [List.cons_append, mt_cons hc] at h
      obtain ⟨t, rfl, ht⟩ := h
      obtain ⟨t', rfl⟩ := mt_tail e he p t ht
      exact ⟨c :: t', rfl⟩

/-- The runes of a law's text that are no stars. -/
def plainR (zs : List Int) : List Int := (picks zs).filter fun r => r != 42
theorem plainR_some (zs : List Int) : ∀ r ∈ plainR zs, r ∈ some22 ∧ r ≠ 42 := by
  intro r hr
  unfold plainR at hr
  rw [List.mem_filter] at hr
  refine ⟨?_, by simpa using hr.2⟩
  have h1 := hr.1
  unfold picks at h1
  obtain ⟨z, _, rfl⟩ := List.mem_map.1 h1
  exact pick_mem z
theorem plainR_len (zs : List Int) : (plainR zs).length ≤ 40 := Nat.le_trans (List.length_filter_le _ _) (picks_len zs)
theorem some_facts : ∀ r ∈ some22, Lib.validRune r = true ∧ (205 : UInt8) ∉ Lib.encodeRune r ∧ (r ≠ 42 → (42 : UInt8) ∉ Lib.encodeRune r) := by decide +kernel

/-- What is written for the rune at a place: a star in front or in its place. -/
def pc (st : Nat → Bool) (k : Nat) (l : List Int) (j : Nat) : List Int :=
  (if st j then [42] else []) ++ (if !st j || decide (j < k) then [l.getD j 0] else [])
def patTo (st : Nat → Bool) (k : Nat) (l : List Int) (i : Nat) : List Int := (List.range i).flatMap (pc st k l)
theorem patTo_succ (st : Nat → Bool) (k : Nat) (l : List Int) (i : Nat) : patTo st k l (i + 1) = patTo st k l i ++ pc st k l i := by
  unfold patTo
  rw [List.range_succ, List.flatMap_append]
  simp
theorem pc_len (st : Nat → Bool) (k : Nat) (l : List Int) (j : Nat) : (pc st k l j).length ≤ 2 := by
  unfold pc
  cases st j <;> simp
  split <;> simp
theorem patTo_len (st : Nat → Bool) (k : Nat) (l : List Int) : ∀ i, (patTo st k l i).length ≤ 2 * i
  | 0 => by simp [patTo]
  | i + 1 => by
    have h1 := patTo_len st k l i
    have h2 := pc_len st k l i
    rw [patTo_succ, List.length_append]
    omega

theorem ofL_append (a b : List Int) : ofL (a ++ b) = ofL a ++ ofL b := by simp [ofL]
theorem ofOk_append (a b : List Int) : ofOk (a ++ b) = (ofOk a && ofOk b) := by simp [ofOk]
theorem enc42 : Lib.encodeRune 42 = [42] := by decide

theorem mt_pc {st : Nat → Bool} {k : Nat} {l : List Int} {j : Nat} (hj : j < l.length) (hl : ∀ r ∈ l, r ∈ some22 ∧ r ≠ 42) :
    Mt (ofL (pc st k l j)) (Lib.encodeRune (l.getD j 0)) ∧ ofOk (pc st k l j) = true := by
  have hx : l.getD j 0 ∈ l := by
    rw [List.getD, List.getElem?_eq_getElem hj]
    exact List.getElem_mem hj
  obtain ⟨h1, h2⟩ := hl _ hx
  obtain ⟨f1, _, f3⟩ := some_facts _ h1
  have hno : ∀ b ∈ Lib.encodeRune (l.getD j 0), b ≠ 42 := fun b hb e => f3 h2 (e ▸ hb)
  unfold pc
  generalize l.getD j 0 = x at *
  have hself : Mt (Lib.encodeRune x) (Lib.encodeRune x) := (mt_plain _ _ hno).2 rfl
  cases st j
  · refine ⟨?_, by simp [ofOk, f1]⟩
    have : ofL ((if false = true then [42] else []) ++ (if (!false || decide (j < k)) = true then [x] else [])) = Lib.encodeRune x := by simp [ofL]
    rw [this]
    exact hself
  · by_cases hk : j < k
    · refine ⟨?_, ?_⟩
      · have : ofL ((if true = true then [42] else []) ++ (if (!true || decide (j < k)) = true then [x] else [])) = 42 :: Lib.encodeRune x := by simp [ofL, hk, enc42]
        rw [this, mt_star]
        exact ⟨[], _, rfl, hself⟩
      · simp [ofOk, hk, f1]
        decide
    · refine ⟨?_, ?_⟩
      · have : ofL ((if true = true then [42] else []) ++ (if (!true || decide (j < k)) = true then [x] else [])) = [42] := by simp [ofL, hk, enc42]
        rw [this, mt_star]
        exact ⟨Lib.encodeRune x, [], by simp, rfl⟩
      · simp [ofOk, hk]
        decide

theorem mt_patTo {st : Nat → Bool} {k : Nat} {l : List Int} (hl : ∀ r ∈ l, r ∈ some22 ∧ r ≠ 42) : ∀ i, i ≤ l.length → Mt (ofL (patTo st k l i)) (ofL (l.take i)) ∧ ofOk (patTo st k l i) = true
  | 0, _ => ⟨rfl, rfl⟩
  | i + 1, h => by
    obtain ⟨h1, h2⟩ := mt_patTo (st := st) (k := k) hl i (by omega)
    obtain ⟨h3, h4⟩ := mt_pc (st := st) (k := k) (show i < l.length by omega) hl
    have e : ofL (l.take (i + 1)) = ofL (l.take i) ++ Lib.encodeRune (l.getD i 0) := by
      rw [List.take_succ_eq_append_getElem (by omega), ofL_append, List.getD, List.getElem?_eq_getElem (by omega)]
      simp [ofL]
    rw [patTo_succ, ofL_append, e, ofOk_append, h2, h4]
    exact ⟨mt_append _ _ h3 _ _ h1, rfl⟩

theorem ofL_mem {l : List Int} {b : UInt8} (h : b ∈ ofL l) : ∃ r ∈ l, b ∈ Lib.encodeRune r := by
  unfold ofL at h
  exact List.mem_flatMap.1 h

/-- What TextStars asks of Like. -/
theorem stars_facts {st : Nat → Bool} {k : Nat} {l : List Int} (hl : ∀ r ∈ l, r ∈ some22 ∧ r ≠ 42) :
    likeL (ofL (patTo st k l l.length)) (ofL l) false [] = true ∧
    likeL [42] (ofL l) false [] = true ∧
    likeL (ofL (patTo st k l l.length) ++ [42]) (ofL l) false [] = true ∧
    likeL ([42, 42] ++ ofL (patTo st k l l.length)) (ofL l) false [] = true ∧
    likeL (ofL l) (ofL l) false [] = true ∧
    likeL (ofL (patTo st k l l.length) ++ [205, 184]) (ofL l) false [] = false ∧
    likeL (ofL l) (ofL l ++ [205, 184]) false [] = false ∧ ofOk l = true ∧ ofOk (patTo st k l l.length) = true := by
  obtain ⟨m1, m2⟩ := mt_patTo (st := st) (k := k) hl l.length (Nat.le_refl _)
  rw [List.take_length] at m1
  have hno : ∀ b ∈ ofL l, b ≠ 42 := by
    intro b hb e
    obtain ⟨r, hr, hbr⟩ := ofL_mem hb
    obtain ⟨h1, h2⟩ := hl r hr
    exact (some_facts r h1).2.2 h2 (e ▸ hbr)
  have hno2 : (205 : UInt8) ∉ ofL l := by
    intro hb
    obtain ⟨r, hr, hbr⟩ := ofL_mem hb
    exact (some_facts r (hl r hr).1).2.1 hbr
  have not_of : ∀ p s, ¬ Mt p s → likeL p s false [] = false := fun p s h => by
    cases e : likeL p s false [] with
    | false => rfl
    | true => exact absurd ((like_iff p s).1 e) h
  have one : Mt [42] [] := (mt_star [] []).2 ⟨[], [], rfl, rfl⟩
  refine ⟨(like_iff _ _).2 m1, (like_iff _ _).2 ?_, (like_iff _ _).2 ?_, (like_iff _ _).2 ?_, (like_iff _ _).2 ((mt_plain _ _ hno).2 rfl), not_of _ _ ?_, not_of _ _ ?_, ?_, m2⟩
  · exact (mt_star [] _).2 ⟨ofL l, [], by simp, rfl⟩
  · have := mt_append [42] [] one _ _ m1
    rwa [List.append_nil] at this
  · exact mt_append _ _ m1 [42, 42] [] ((mt_star [42] []).2 ⟨[], [], rfl, one⟩)
  · intro h
    obtain ⟨s', e⟩ := mt_tail [205, 184] (by decide) _ _ h
    exact hno2 (by rw [e]; simp)
  · intro h
    have e := (mt_plain _ _ hno).1 h
    have := congrArg List.length e
    rw [List.length_append] at this
    simp at this
  · unfold ofOk
    rw [List.all_eq_true]
    intro r hr
    exact (some_facts r (hl r hr).1).1
end Go.Proofs.YtiokpdpegkbgiaaDoor
