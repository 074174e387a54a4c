/-
  Plain: sources at their bounds (no program in it).
-/
import Derived.Test.YtfkbbenjmhngcaaDoorLexS
namespace Go.Proofs.YtfkbbenjmhngcaaDoor
open Go

theorem toksL_blanks : ∀ (m a : Nat) (acc : List Tok), toksL (List.replicate m 32) a acc = (acc, 0)
  | 0, a, acc => rfl
  | m + 1, a, acc => by
    have hg : gapL (List.replicate (m + 1) 32) = 1 := by rw [List.replicate_succ]; rfl
    rw [toksL_gap a acc (by simp) (by rw [hg]; decide), hg, List.replicate_succ]
    exact toksL_blanks m _ acc
theorem toks_blanks (m : Nat) : (toks (List.replicate m 32)).2 = if 600 < m then 5 else 0 := by
  rw [toks, List.length_replicate]
  split
  · rfl
  · rw [okL_ascii _ (fun b hb => by rw [List.eq_of_mem_replicate hb]; decide), if_pos rfl, toksL_blanks]

theorem toksL_plus : ∀ (m a : Nat) (acc : List Tok), acc.length ≤ 200 → (toksL (List.replicate m 43) a acc).2 = if 200 < acc.length + m then 4 else 0
  | 0, a, acc, h => by
    rw [if_neg (by omega)]
    rfl
  | m + 1, a, acc, h => by
    have hk : tokL (List.replicate (m + 1) 43) = ⟨4, [43], 0, 1, 0⟩ := by
      have : signT (43 :: List.replicate m 43) = ⟨4, [43], 0, 1, 0⟩ := by
        simp [signT, signF, sgns, Lib.hasPrefix, List.isPrefixOf]
      rw [List.replicate_succ, tokL, show ((43 : UInt8) :: List.replicate m 43).getD 0 0 = 43 from rfl, show letB 43 = false from by decide, if_neg (by simp), show dgB 43 = false from by decide, if_neg (by simp), if_neg (by decide), this]
    have hg : gapL (List.replicate (m + 1) 43) = 0 := by rw [List.replicate_succ]; exact gapL_none _ _ (by decide) (by decide)
    by_cases hm : acc.length = 200
    · rw [toksL_many a acc (by simp) hg (by rw [hk]) hm, if_pos (by omega)]
    · rw [toksL_tok a acc (by simp) hg (by rw [hk]) hm, hk]
      show (toksL ((List.replicate (m + 1) 43).drop 1) _ _).2 = _
      rw [List.replicate_succ]
      show (toksL (List.replicate m 43) _ _).2 = _
      rw [toksL_plus m _ _ (by simp; omega), List.length_append, List.length_singleton, show acc.length + 1 + m = acc.length + (m + 1) by omega]
theorem toks_plus (m : Nat) (h : m ≤ 600) : (toks (List.replicate m 43)).2 = if 200 < m then 4 else 0 := by
  rw [toks, List.length_replicate, if_neg (by omega), okL_ascii _ (fun b hb => by rw [List.eq_of_mem_replicate hb]; decide), if_pos rfl, toksL_plus m 0 [] (by simp)]
  simp

theorem toks_qs (m : Nat) (h : 1 ≤ m) (h2 : m ≤ 600) : (toks (List.replicate m 113)).2 = if 12 < m then 5 else 0 := by
  by_cases h12 : 12 < m
  · rw [if_pos h12, toks, List.length_replicate, if_neg (by omega), okL_ascii _ (fun b hb => by rw [List.eq_of_mem_replicate hb]; decide), if_pos rfl]
    obtain ⟨k, rfl⟩ : ∃ k, m = k + 1 := ⟨m - 1, by omega⟩
    have hg : gapL (List.replicate (k + 1) 113) = 0 := by rw [List.replicate_succ]; exact gapL_none _ _ (by decide) (by decide)
    have hk : tokL (List.replicate (k + 1) 113) = badT 5 := by
      have hw := takeWhile_row nmB (List.replicate (k + 1) 113) [] (fun b hb => by rw [List.eq_of_mem_replicate hb]; decide) (.inl rfl)
      rw [List.append_nil] at hw
      rw [tokL, show (List.replicate (k + 1) (113 : UInt8)).getD 0 0 = 113 by rw [List.replicate_succ]; rfl, show letB 113 = true from by decide, if_pos rfl, hw, nameT, List.length_replicate, if_pos h12]
    rw [toksL_err 0 [] (by simp) hg (by rw [hk]; decide), hk]
    rfl
  · rw [if_neg h12]
    have := toks_name (List.replicate m 113) (by obtain ⟨k, rfl⟩ : ∃ k, m = k + 1 := ⟨m - 1, by omega⟩; rw [List.replicate_succ]; show letB 113 = true; decide) (fun b hb => by rw [List.eq_of_mem_replicate hb]; decide) (by intro e; have := congrArg List.length e; simp at this; omega) (by rw [List.length_replicate]; omega)
    rw [this]

theorem txt_14 (m : Nat) (h : m ≤ 40) : txt (List.replicate m 14) = ofL (List.replicate m 8364) ∧ ofOk (List.replicate m 8364) = true := by
  constructor
  · rw [txt, picks, List.take_of_length_le (by rw [List.length_replicate]; exact h), List.map_replicate]
    rfl
  · rw [ofOk, List.all_eq_true]
    intro x hx
    rw [List.eq_of_mem_replicate hx]
    decide
theorem toks_quote (xs : List Int) (h : ofOk xs = true) (h2 : (quoteL (ofL xs)).length ≤ 600) : (toks (quoteL (ofL xs))).2 = if 30 < xs.length then 5 else 0 := by
  have hok := okL_quote xs h [] rfl
  rw [List.append_nil] at hok
  rw [toks, if_neg (by omega), hok, if_pos rfl]
  by_cases h30 : 30 < xs.length
  · rw [if_pos h30]
    have hr := rd_quote xs h []
    rw [List.append_nil] at hr
    have hq := quote_head (ofL xs) []
    rw [List.append_nil] at hq
    have hk : tokL (quoteL (ofL xs)) = badT 5 := by
      rw [tokL, show (quoteL (ofL xs)).getD 0 0 = 34 by rw [hq]; rfl, show letB 34 = false from by decide, if_neg (by simp), show dgB 34 = false from by decide, if_neg (by simp), if_pos (by decide), strT, hr, if_pos rfl, if_pos (by rw [runes_ofL xs h]; exact h30)]
    have hg : gapL (quoteL (ofL xs)) = 0 := by rw [hq]; exact gapL_none _ _ (by decide) (by decide)
    rw [toksL_err 0 [] (by rw [hq]; simp) hg (by rw [hk]; decide), hk]
    rfl
  · rw [if_neg h30]
    have := toksL_str xs h (by omega) [] 0 [] (by simp)
    rw [List.append_nil] at this
    rw [this]
    rfl
end Go.Proofs.YtfkbbenjmhngcaaDoor
