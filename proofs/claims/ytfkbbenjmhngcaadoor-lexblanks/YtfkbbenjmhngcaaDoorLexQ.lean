/-
  Plain: tokens of some sources (no program in it).
-/
import Derived.Test.YtfkbbenjmhngcaaDoorLexP
namespace Go.Proofs.YtfkbbenjmhngcaaDoor
open Go

theorem badHead_low (b : UInt8) (t : List UInt8) (h : b.toNat < 128) : badHead (b :: t) = false := bad_low b t h
theorem okL_low : ∀ (l : List UInt8) (t : List UInt8), (∀ b ∈ l, b.toNat < 128) → okL t = true → okL (l ++ t) = true
  | [], t, _, h => h
  | b :: r, t, hl, h => by
    have hb : b.toNat < 128 := hl b (by simp)
    rw [List.cons_append, okL_cons _ (by simp), badHead_low b _ hb, dec_ascii b _ hb]
    exact okL_low r t (fun x hx => hl x (by simp [hx])) h
theorem okL_ascii (l : List UInt8) (h : ∀ b ∈ l, b.toNat < 128) : okL l = true := by
  have := okL_low l [] h rfl
  simpa using this

theorem takeWhile_row (p : UInt8 → Bool) : ∀ (l t : List UInt8), (∀ b ∈ l, p b = true) → (t = [] ∨ p (t.getD 0 0) = false) → (l ++ t).takeWhile p = l
  | [], t, _, h => by
    rcases h with rfl | h
    · rfl
    · cases t with
      | nil => rfl
      | cons b r =>
        have : p b = false := h
        rw [List.nil_append, List.takeWhile_cons, this]
        rfl
  | b :: r, t, hl, h => by
    rw [List.cons_append, List.takeWhile_cons, hl b (by simp), if_pos rfl, takeWhile_row p r t (fun x hx => hl x (by simp [hx])) h]

theorem letB_ne {b : UInt8} (h : letB b = true) : blkR b.toNat = false ∧ b ≠ 47 := by
  have h2 := nmB_low (b := b) (by rw [nmB]; rw [letB] at h; rw [h]; rfl)
  constructor
  · simp only [letB, letR, Bool.or_eq_true, decide_eq_true_eq] at h
    simp only [blkR, Bool.or_eq_false_iff, decide_eq_false_iff_not]
    omega
  · rintro rfl
    revert h
    decide
theorem dgB_ne {b : UInt8} (h : dgB b = true) : blkR b.toNat = false ∧ b ≠ 47 ∧ letB b = false := by
  simp only [dgB, digR, decide_eq_true_eq] at h
  refine ⟨?_, ?_, ?_⟩
  · simp only [blkR, Bool.or_eq_false_iff, decide_eq_false_iff_not]
    omega
  · rintro rfl
    revert h
    decide
  · simp only [letB, letR, Bool.or_eq_false_iff, decide_eq_false_iff_not]
    omega

theorem gapL_none (b : UInt8) (t : List UInt8) (h1 : blkR b.toNat = false) (h2 : b ≠ 47) : gapL (b :: t) = 0 := by
  have h3 : Lib.hasPrefix (b :: t) [47, 47] = false := by
    have : (47 == b) = false := by
      rw [beq_eq_false_iff_ne]
      exact fun e => h2 e.symm
    simp [Lib.hasPrefix, List.isPrefixOf, this]
  rw [gapL, show (b :: t).getD 0 0 = b from rfl, h1, h3]
  rfl

/-- A row of letters is a name. -/
theorem toksL_name (s t : List UInt8) (a : Nat) (acc : List Tok) (h0 : letB (s.getD 0 0) = true) (hs : ∀ b ∈ s, nmB b = true) (hne : s ≠ []) (hl : s.length ≤ 12) (ht : t = [] ∨ nmB (t.getD 0 0) = false) (ha : acc.length ≠ 200) :
    toksL (s ++ t) a acc = toksL t (a + s.length) (acc ++ [⟨1, s, 0, a⟩]) := by
  cases s with
  | nil => exact absurd rfl hne
  | cons b r =>
    have hb : letB b = true := h0
    have hk : tokL (b :: r ++ t) = ⟨1, b :: r, 0, (b :: r).length, 0⟩ := by
      rw [tokL, show (b :: r ++ t).getD 0 0 = b from rfl, hb, if_pos rfl, takeWhile_row nmB (b :: r) t hs ht, nameT, if_neg (by omega)]
    rw [toksL_tok (l := b :: r ++ t) a acc (by simp) (gapL_none b _ (letB_ne hb).1 (letB_ne hb).2) (by rw [hk]) ha, hk]
    show toksL ((b :: r ++ t).drop (b :: r).length) _ _ = _
    rw [List.drop_left]

/-- A row of digits is a number. -/
theorem toksL_long (s t : List UInt8) (a : Nat) (acc : List Tok) (hs : ∀ b ∈ s, dgB b = true) (hne : s ≠ []) (he : pe s = 0) (ht : t = [] ∨ dgB (t.getD 0 0) = false) (ha : acc.length ≠ 200) :
    toksL (s ++ t) a acc = toksL t (a + s.length) (acc ++ [⟨2, [], pv s, a⟩]) := by
  cases s with
  | nil => exact absurd rfl hne
  | cons b r =>
    have hb : dgB b = true := hs b (by simp)
    have hk : tokL (b :: r ++ t) = ⟨2, [], pv (b :: r), (b :: r).length, 0⟩ := by
      rw [tokL, show (b :: r ++ t).getD 0 0 = b from rfl, (dgB_ne hb).2.2, if_neg (by simp), hb, if_pos rfl, takeWhile_row dgB (b :: r) t hs ht, longT, if_pos he]
    rw [toksL_tok (l := b :: r ++ t) a acc (by simp) (gapL_none b _ (dgB_ne hb).1 (dgB_ne hb).2.1) (by rw [hk]) ha, hk]
    show toksL ((b :: r ++ t).drop (b :: r).length) _ _ = _
    rw [List.drop_left]
theorem toksL_over (s t : List UInt8) (a : Nat) (acc : List Tok) (hs : ∀ b ∈ s, dgB b = true) (hne : s ≠ []) (he : pe s ≠ 0) (ht : t = [] ∨ dgB (t.getD 0 0) = false) :
    toksL (s ++ t) a acc = ([], pe s) := by
  cases s with
  | nil => exact absurd rfl hne
  | cons b r =>
    have hb : dgB b = true := hs b (by simp)
    have hk : tokL (b :: r ++ t) = badT (pe (b :: r)) := by
      rw [tokL, show (b :: r ++ t).getD 0 0 = b from rfl, (dgB_ne hb).2.2, if_neg (by simp), hb, if_pos rfl, takeWhile_row dgB (b :: r) t hs ht, longT, if_neg he]
    rw [toksL_err (l := b :: r ++ t) a acc (by simp) (gapL_none b _ (dgB_ne hb).1 (dgB_ne hb).2.1) (by rw [hk]; exact he), hk]
    rfl

/-- What LexNames makes: a name, and the same behind a digit. -/
theorem toks_name (s : List UInt8) (h0 : letB (s.getD 0 0) = true) (hs : ∀ b ∈ s, nmB b = true) (hne : s ≠ []) (hl : s.length ≤ 12) : toks s = ([⟨1, s, 0, 0⟩], 0) := by
  rw [toks, if_neg (by omega), okL_ascii s (fun b hb => nmB_low (hs b hb)), if_pos rfl]
  have := toksL_name s [] 0 [] h0 hs hne hl (.inl rfl) (by simp)
  rw [List.append_nil] at this
  rw [this]
  rfl
theorem toks_name7 (s : List UInt8) (h0 : letB (s.getD 0 0) = true) (hs : ∀ b ∈ s, nmB b = true) (hne : s ≠ []) (hl : s.length ≤ 12) : toks (55 :: s) = ([⟨2, [], 7, 0⟩, ⟨1, s, 0, 1⟩], 0) := by
  have hd : dgB (s.getD 0 0) = false := by
    cases h : dgB (s.getD 0 0) with
    | false => rfl
    | true =>
      have := (dgB_ne h).2.2
      rw [h0] at this
      cases this
  rw [toks, if_neg (by simp; omega), okL_ascii (55 :: s) (fun b hb => by
    rcases List.mem_cons.1 hb with rfl | hb
    · decide
    · exact nmB_low (hs b hb)), if_pos rfl]
  have e1 := toksL_long [55] s 0 [] (by decide) (by simp) (by decide) (.inr hd) (by simp)
  have e2 := toksL_name s [] (0 + [(55 : UInt8)].length) ([] ++ [⟨2, [], pv [55], 0⟩]) h0 hs hne hl (.inl rfl) (by simp)
  rw [List.append_nil] at e2
  show toksL ([55] ++ s) 0 [] = _
  rw [e1, e2]
  rfl
theorem goods_all : ∀ (s : List UInt8), (∀ b ∈ s, nmB b = true) → goods false s = true
  | [], _ => rfl
  | b :: r, h => by
    have hb := h b (by simp)
    rw [goods, goods_all r (fun x hx => h x (by simp [hx])), goodB]
    rw [nmB] at hb
    simp [hb]
theorem nameB_name (s : List UInt8) (h0 : letB (s.getD 0 0) = true) (hs : ∀ b ∈ s, nmB b = true) (hne : s ≠ []) (hl : s.length ≤ 12) : nameB s = true := by
  cases s with
  | nil => exact absurd rfl hne
  | cons b r =>
    have hb : letR b.toNat = true := h0
    have : goods true (b :: r) = true := by
      rw [goods, goods_all r (fun x hx => hs x (by simp [hx])), goodB, hb]
      rfl
    rw [nameB, this]
    simp
    simpa using hl
theorem nameB_7 (s : List UInt8) : nameB (55 :: s) = false := by
  have : goods true (55 :: s) = false := by
    rw [goods, show goodB true 55 = false from by decide]
    rfl
  rw [nameB, this]
  rfl
def nms : List UInt8 := [97, 98, 99, 88, 89, 90, 95, 48, 49, 57]
theorem nms_nm : ∀ k : Fin 10, nmB (nms.getD k.val 0) = true := by decide
theorem nms_let : ∀ k : Fin 7, letB (nms.getD k.val 0) = true := by decide
end Go.Proofs.YtfkbbenjmhngcaaDoor
