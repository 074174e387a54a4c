/-
  Plain: tokens of a quoted text with blanks and a remark about it (no program in it).
-/
import Derived.Test.YtfkbbenjmhngcaaDoorLexQ
namespace Go.Proofs.YtfkbbenjmhngcaaDoor
open Go

theorem dig_low (k : Nat) : (dig k).toNat < 128 := by
  unfold dig
  rw [List.getD_eq_getElem?_getD]
  cases h : digs[k]? with
  | none => decide
  | some b =>
    have hall : ∀ b ∈ digs, b.toNat < 128 := by decide
    exact hall b (List.mem_of_getElem? h)
theorem hexL_low (k : Nat) : ∀ b ∈ hexL k, b.toNat < 128 := by
  intro b hb
  unfold hexL at hb
  split at hb
  · rw [List.mem_singleton.1 hb]
    exact dig_low _
  · simp only [List.mem_cons, List.not_mem_nil, or_false] at hb
    rcases hb with rfl | rfl <;> exact dig_low _
theorem okL_quo {r : Int} (hv : Lib.validRune r = true) (t : List UInt8) (ht : okL t = true) : okL (quoL r ++ t) = true := by
  have he : okL (Lib.encodeRune r ++ t) = true := by rw [okL_enc hv]; exact ht
  unfold quoL
  split
  · exact okL_low [92] _ (by decide) he
  · split
    · exact okL_low [92, 110] _ (by decide) ht
    · split
      · exact okL_low [92, 116] _ (by decide) ht
      · split
        · rw [List.append_assoc, List.append_assoc]
          exact okL_low [92, 117, 123] _ (by decide) (okL_low _ _ (hexL_low _) (okL_low [125] _ (by decide) ht))
        · exact he
theorem okL_quos : ∀ (xs : List Int) (_ : ofOk xs = true) (t : List UInt8), okL t = true → okL (xs.flatMap quoL ++ t) = true
  | [], _, t, ht => ht
  | x :: r, h, t, ht => by
    simp only [ofOk, List.all_cons, Bool.and_eq_true] at h
    rw [List.flatMap_cons, List.append_assoc]
    exact okL_quo h.1 _ (okL_quos r h.2 t ht)
theorem okL_quote (xs : List Int) (h : ofOk xs = true) (t : List UInt8) (ht : okL t = true) : okL (quoteL (ofL xs) ++ t) = true := by
  rw [quoteL, runes_ofL xs h]
  show okL ([34] ++ (xs.flatMap quoL ++ [34] ++ t)) = true
  rw [List.append_assoc]
  exact okL_low [34] _ (by decide) (okL_quos xs h _ (okL_low [34] _ (by decide) ht))

theorem quote_head (l t : List UInt8) : quoteL l ++ t = 34 :: ((runes l).flatMap quoL ++ [34] ++ t) := by simp [quoteL]

/-- A quoted text is one token. -/
theorem toksL_str (xs : List Int) (h : ofOk xs = true) (h30 : xs.length ≤ 30) (t : List UInt8) (a : Nat) (acc : List Tok) (ha : acc.length ≠ 200) :
    toksL (quoteL (ofL xs) ++ t) a acc = toksL t (a + (quoteL (ofL xs)).length) (acc ++ [⟨3, ofL xs, 0, a⟩]) := by
  have hr := rd_quote xs h t
  have hk : tokL (quoteL (ofL xs) ++ t) = ⟨3, ofL xs, 0, (quoteL (ofL xs)).length, 0⟩ := by
    rw [tokL, show (quoteL (ofL xs) ++ t).getD 0 0 = 34 by rw [quote_head]; rfl, show letB 34 = false from by decide, if_neg (by simp), show dgB 34 = false from by decide, if_neg (by simp), if_pos (by decide), strT, hr, if_pos rfl, if_neg (by rw [runes_ofL xs h]; omega), Int.toNat_natCast]
  have hg : gapL (quoteL (ofL xs) ++ t) = 0 := by rw [quote_head]; exact gapL_none _ _ (by decide) (by decide)
  rw [toksL_tok a acc (by rw [quote_head]; simp) hg (by rw [hk]) ha, hk]
  show toksL ((quoteL (ofL xs) ++ t).drop (quoteL (ofL xs)).length) _ _ = _
  rw [List.drop_left]

theorem toks_str (xs : List Int) (h : ofOk xs = true) (h30 : xs.length ≤ 30) (hl : (quoteL (ofL xs)).length ≤ 500) :
    toks (32 :: (quoteL (ofL xs) ++ [32, 47, 47, 32, 98, 101, 104, 105, 110, 100])) = ([⟨3, ofL xs, 0, 1⟩], 0) := by
  have hok : okL (32 :: (quoteL (ofL xs) ++ [32, 47, 47, 32, 98, 101, 104, 105, 110, 100])) = true := okL_low [32] _ (by decide) (okL_quote xs h _ (by decide))
  rw [toks, if_neg (by simp; omega), hok, if_pos rfl]
  have hg : gapL (32 :: (quoteL (ofL xs) ++ [32, 47, 47, 32, 98, 101, 104, 105, 110, 100])) = 1 := rfl
  rw [toksL_gap 0 [] (by simp) (by rw [hg]; decide), hg]
  show toksL (quoteL (ofL xs) ++ [32, 47, 47, 32, 98, 101, 104, 105, 110, 100]) 1 [] = _
  rw [toksL_str xs h h30 _ 1 [] (by simp)]
  rfl
end Go.Proofs.YtfkbbenjmhngcaaDoor
