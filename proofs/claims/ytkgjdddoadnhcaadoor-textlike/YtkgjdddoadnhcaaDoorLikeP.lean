/-
  Plain facts on what text.Like computes: it is the match with stars (no program in it).
-/
import Derived.Test.YtkgjdddoadnhcaaDoorPlain
import Derived.Lib.IndexLaws
import Derived.Lib.IndexMore
namespace Go.Proofs.YtkgjdddoadnhcaaDoor
open Go

/-- The pattern p says the text s: a star (42) stands for any bytes, also none. -/
def Mt : List UInt8 → List UInt8 → Prop
  | [], s => s = []
  | c :: p, s => if c = 42 then ∃ u v, s = u ++ v ∧ Mt p v else ∃ t, s = c :: t ∧ Mt p t

theorem mt_star (p s : List UInt8) : Mt (42 :: p) s ↔ ∃ u v, s = u ++ v ∧ Mt p v := by
  show (if (42 : UInt8) = 42 then ∃ u v, s = u ++ v ∧ Mt p v else ∃ t, s = 42 :: t ∧ Mt p t) ↔ _
  rw [if_pos rfl]

theorem mt_cons {c : UInt8} (hc : c ≠ 42) (p s : List UInt8) : Mt (c :: p) s ↔ ∃ t, s = c :: t ∧ Mt p t := by
  show (if c = 42 then ∃ u v, s = u ++ v ∧ Mt p v else ∃ t, s = c :: t ∧ Mt p t) ↔ _
  rw [if_neg hc]

/-- A piece without stars is met byte by byte. -/
theorem mt_piece (p : List UInt8) : ∀ (piece s : List UInt8), (∀ b ∈ piece, b ≠ 42) → (Mt (piece ++ p) s ↔ ∃ t, s = piece ++ t ∧ Mt p t)
  | [], s, _ => by simp
  | c :: l, s, h => by
    rw [List.cons_append, mt_cons (h c (by simp))]
    constructor
    · rintro ⟨t, rfl, ht⟩
      obtain ⟨t', rfl, h2⟩ := (mt_piece p l t (fun b hb => h b (by simp [hb]))).1 ht
      exact ⟨t', rfl, h2⟩
    · rintro ⟨t, rfl, ht⟩
      exact ⟨l ++ t, rfl, (mt_piece p l (l ++ t) (fun b hb => h b (by simp [hb]))).2 ⟨t, rfl, ht⟩⟩

/-- Behind a star more may stand. -/
theorem mt_star_more (p u v : List UInt8) (h : Mt (42 :: p) v) : Mt (42 :: p) (u ++ v) := by
  rw [mt_star] at h ⊢
  obtain ⟨a, b, rfl, hb⟩ := h
  exact ⟨u ++ a, b, by simp, hb⟩

/-- What Like's state means. -/
def Mst (rest s : List UInt8) (st : Bool) (piece : List UInt8) : Prop := if st then Mt (42 :: (piece ++ rest)) s else Mt (piece ++ rest) s

theorem mt_nil (s : List UInt8) : Mt [] s ↔ s = [] := Iff.rfl

theorem occ_of (u piece v : List UInt8) : Lib.occAt (u ++ (piece ++ v)) piece u.length = true := by
  unfold Lib.occAt
  rw [List.drop_left, List.isPrefixOf_iff_prefix]
  exact List.prefix_append _ _

/-- strings.Cut: the first place. -/
theorem cut_spec (s piece : List UInt8) :
    ((Lib.cut s piece).2.2 = false ∧ ∀ u v, s ≠ u ++ (piece ++ v)) ∨
    ((Lib.cut s piece).2.2 = true ∧ ∃ u, s = u ++ (piece ++ (Lib.cut s piece).2.1) ∧ ∀ u' v', s = u' ++ (piece ++ v') → u.length ≤ u'.length) := by
  rcases Lib.index_spec s piece with ⟨h1, h2⟩ | ⟨i, h1, h2, h3, h4⟩
  · left
    have e : Lib.cut s piece = (s, [], false) := by
      unfold Lib.cut
      rw [h1, if_neg (by decide)]
    refine ⟨by rw [e], ?_⟩
    rintro u v rfl
    have := h2 u.length (by simp)
    rw [occ_of] at this
    cases this
  · right
    have e : Lib.cut s piece = (s.take i, s.drop (i + piece.length), true) := by
      unfold Lib.cut
      rw [h1, if_pos (by omega), Int.toNat_natCast]
    refine ⟨by rw [e], s.take i, ?_, ?_⟩
    · rw [e]
      show s = s.take i ++ (piece ++ s.drop (i + piece.length))
      unfold Lib.occAt at h3
      rw [List.isPrefixOf_iff_prefix] at h3
      obtain ⟨t, ht⟩ := h3
      have e2 : s.drop (i + piece.length) = t := by
        rw [← List.drop_drop, ← ht, List.drop_left]
      rw [e2, ht, List.take_append_drop]
    · intro u' v' hs
      rcases Nat.lt_or_ge u'.length i with hlt | hge
      · have := h4 u'.length hlt
        rw [hs, occ_of] at this
        cases this
      · rw [List.length_take]
        omega

theorem suffix_of {s u piece v u' v' : List UInt8} (h : s = u ++ (piece ++ v)) (h' : s = u' ++ (piece ++ v')) (hl : u.length ≤ u'.length) : ∃ x, v = x ++ v' := by
  have e1 : v = s.drop (u.length + piece.length) := by
    rw [h, ← List.drop_drop, List.drop_left, List.drop_left]
  have e2 : v' = s.drop (u'.length + piece.length) := by
    rw [h', ← List.drop_drop, List.drop_left, List.drop_left]
  refine ⟨v.take (u'.length - u.length), ?_⟩
  have e3 : v' = v.drop (u'.length - u.length) := by
    rw [e1, List.drop_drop, e2]
    congr 1
    omega
  rw [e3, List.take_append_drop]

theorem mem_snoc {piece : List UInt8} {c : UInt8} (h : ∀ b ∈ piece, b ≠ 42) (hc : c ≠ 42) : ∀ b ∈ piece ++ [c], b ≠ 42 := by
  intro b hb
  rw [List.mem_append] at hb
  rcases hb with hb | hb
  · exact h b hb
  · simp at hb
    rw [hb]
    exact hc

/-- Like tells whether the pattern says the text. -/
theorem likeL_iff : ∀ (rest s : List UInt8) (st : Bool) (piece : List UInt8), (∀ b ∈ piece, b ≠ 42) → (likeL rest s st piece = true ↔ Mst rest s st piece)
  | [], s, st, piece, h => by
    unfold likeL Mst
    cases st
    · simp only [Bool.false_eq_true, if_false]
      rw [mt_piece [] piece s h]
      constructor
      · intro e
        exact ⟨[], by simpa using e, rfl⟩
      · rintro ⟨t, rfl, ht⟩
        rw [mt_nil] at ht
        subst ht
        simp
    · simp only [if_true]
      rw [mt_star]
      unfold Lib.hasSuffix
      rw [List.isSuffixOf_iff_suffix]
      constructor
      · rintro ⟨u, rfl⟩
        exact ⟨u, piece, rfl, (mt_piece [] piece piece h).2 ⟨[], by simp, rfl⟩⟩
      · rintro ⟨u, v, rfl, hv⟩
        obtain ⟨t, rfl, ht⟩ := (mt_piece [] piece v h).1 hv
        rw [mt_nil] at ht
        subst ht
        exact ⟨u, by simp⟩
  | c :: t, s, st, piece, h => by
    by_cases hc : c = 42
    · subst hc
      rw [likeL, if_pos rfl]
      have ih : ∀ x, likeL t x true [] = true ↔ Mt (42 :: t) x := fun x => by
        have := likeL_iff t x true [] (by simp)
        unfold Mst at this
        simpa using this
      cases st
      · -- no star so far: the piece stands at the beginning
        have hb : behL s piece false = (Lib.trimPrefix s piece, Lib.hasPrefix s piece) := rfl
        rw [hb]
        show _ ↔ Mt (piece ++ 42 :: t) s
        rw [mt_piece (42 :: t) piece s h]
        by_cases hp : Lib.hasPrefix s piece = true
        · have hp2 := hp
          unfold Lib.hasPrefix at hp2
          rw [List.isPrefixOf_iff_prefix] at hp2
          obtain ⟨r, rfl⟩ := hp2
          have et : Lib.trimPrefix (piece ++ r) piece = r := by
            unfold Lib.trimPrefix
            rw [if_pos hp, List.drop_left]
          rw [hp, et]
          simp only [if_true]
          rw [ih r]
          constructor
          · intro hr
            exact ⟨r, rfl, hr⟩
          · rintro ⟨r', e, hr⟩
            rw [List.append_cancel_left e]
            exact hr
        · have hp3 : Lib.hasPrefix s piece = false := by simpa using hp
          rw [hp3]
          simp only [Bool.false_eq_true, if_false, false_iff]
          rintro ⟨r, rfl, _⟩
          apply hp
          unfold Lib.hasPrefix
          rw [List.isPrefixOf_iff_prefix]
          exact List.prefix_append _ _
      · -- behind a star: the first place
        have hb : behL s piece true = ((Lib.cut s piece).2.1, (Lib.cut s piece).2.2) := rfl
        rw [hb]
        show _ ↔ Mt (42 :: (piece ++ 42 :: t)) s
        rw [mt_star]
        rcases cut_spec s piece with ⟨h1, h2⟩ | ⟨h1, u, h2, h3⟩
        · rw [h1]
          simp only [Bool.false_eq_true, if_false, false_iff]
          rintro ⟨u, v, rfl, hv⟩
          obtain ⟨r, rfl, _⟩ := (mt_piece (42 :: t) piece v h).1 hv
          exact h2 u r rfl
        · rw [h1]
          simp only [if_true]
          rw [ih]
          constructor
          · intro hr
            exact ⟨u, piece ++ (Lib.cut s piece).2.1, h2, (mt_piece (42 :: t) piece _ h).2 ⟨_, rfl, hr⟩⟩
          · rintro ⟨u', v, hs, hv⟩
            obtain ⟨r, rfl, hr⟩ := (mt_piece (42 :: t) piece v h).1 hv
            obtain ⟨x, hx⟩ := suffix_of h2 hs (h3 u' r hs)
            rw [hx]
            exact mt_star_more t x r hr
    · rw [likeL, if_neg hc, likeL_iff t s st (piece ++ [c]) (mem_snoc h hc)]
      unfold Mst
      simp

theorem like_iff (p s : List UInt8) : likeL p s false [] = true ↔ Mt p s := by
  have := likeL_iff p s false [] (by simp)
  unfold Mst at this
  simpa using this
end Go.Proofs.YtkgjdddoadnhcaaDoor
