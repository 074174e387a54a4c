/-
  Plain facts: what reading a quoted text comes to, byte by byte (no program in it).
-/
import Derived.Test.YtpblalklenebhaaDoorEncP
namespace Go.Proofs.YtpblalklenebhaaDoor
open Go

/-- What a hexadecimal digit counts, of a rune; and whether it is one. -/
def digV (r : Int) : Int := if 48 ≤ r ∧ r ≤ 57 then r - 48 else if 97 ≤ r ∧ r ≤ 102 then r - 87 else if 65 ≤ r ∧ r ≤ 70 then r - 55 else 0
def digQ (r : Int) : Bool := decide ((48 ≤ r ∧ r ≤ 57) ∨ (97 ≤ r ∧ r ≤ 102) ∨ (65 ≤ r ∧ r ≤ 70))
theorem digV_lt (r : Int) : 0 ≤ digV r ∧ digV r < 16 := by
  unfold digV
  repeat' split
  all_goals omega

/-- The digits up to the closing brace: k of them are read, they count n: the rune, how many bytes, the error. -/
def digL : Nat → Int → List UInt8 → Int × Int × Int
  | _, _, [] => (0, 0, 12)
  | k, n, c :: t =>
    if c = 125 ∧ 0 < k then (if Lib.validRune n then (n, (k : Int) + 1, 0) else (0, 0, 11))
    else if digQ c.toNat ∧ k ≠ 6 then digL (k + 1) (16 * n + digV c.toNat) t
    else (0, 0, 12)

/-- An escape, with whose backslash the bytes begin. -/
def escL (l : List UInt8) : Int × Int × Int :=
  if Lib.hasPrefix l [92, 117, 123] then
    (if (digL 0 0 (l.drop 3)).2.2 = 0 then ((digL 0 0 (l.drop 3)).1, 3 + (digL 0 0 (l.drop 3)).2.1, 0) else (0, 0, (digL 0 0 (l.drop 3)).2.2))
  else if l.length < 2 then (0, 0, 12)
  else if l.getD 1 0 = 92 ∨ l.getD 1 0 = 34 then ((l.getD 1 0).toNat, 2, 0)
  else if l.getD 1 0 = 110 then (10, 2, 0)
  else if l.getD 1 0 = 116 then (9, 2, 0)
  else (0, 0, 12)

/-- One rune, or one escape. -/
def oneL (l : List UInt8) : Int × Int × Int :=
  if (Lib.decodeL l).1 < 32 then (0, 0, 12)
  else if (Lib.decodeL l).1 = 92 then escL l
  else ((Lib.decodeL l).1, Lib.runeLen (Lib.decodeL l).1, 0)

/-- Behind the opening sign: what is meant so far, at which place. -/
def readF : Nat → List UInt8 → List UInt8 → Int → List UInt8 × Int × Int
  | 0, _, _, _ => ([], 0, 12)
  | f + 1, l, acc, pos =>
    if l = [] then ([], 0, 12)
    else if (Lib.decodeL l).1 = 34 then (acc, pos + 1, 0)
    else if badHead l then ([], 0, 11)
    else if (oneL l).2.2 = 0 then readF f (l.drop (oneL l).2.1.toNat) (acc ++ Lib.encodeRune (oneL l).1) (pos + (oneL l).2.1)
    else ([], 0, (oneL l).2.2)

theorem digL_pos : ∀ (l : List UInt8) (k : Nat) (n : Int), (digL k n l).2.2 = 0 → 1 ≤ (digL k n l).2.1 ∧ (digL k n l).2.1 ≤ (k : Int) + l.length ∧ Lib.validRune (digL k n l).1 = true
  | [], k, n, h => by
    unfold digL at h
    cases h
  | c :: t, k, n, h => by
    unfold digL at h ⊢
    split
    · rename_i h1
      rw [if_pos h1] at h
      split
      · rename_i h2
        refine ⟨by show (1 : Int) ≤ (k : Int) + 1; omega, ?_, h2⟩
        show (k : Int) + 1 ≤ (k : Int) + ((c :: t).length : Nat)
        rw [List.length_cons]
        omega
      · rename_i h2
        rw [if_neg h2] at h
        cases h
    · rename_i h1
      rw [if_neg h1] at h
      split
      · rename_i h2
        rw [if_pos h2] at h
        obtain ⟨a, b, c'⟩ := digL_pos t (k + 1) _ h
        refine ⟨a, ?_, c'⟩
        rw [List.length_cons]
        omega
      · rename_i h2
        rw [if_neg h2] at h
        cases h

theorem escL_pos (l : List UInt8) (h : (escL l).2.2 = 0) : 1 ≤ (escL l).2.1 ∧ (escL l).2.1 ≤ l.length ∧ Lib.validRune (escL l).1 = true := by
  unfold escL at h ⊢
  split
  · rename_i h1
    rw [if_pos h1] at h
    have hl : 3 ≤ l.length := by
      unfold Lib.hasPrefix at h1
      rw [List.isPrefixOf_iff_prefix] at h1
      have := h1.length_le
      simpa using this
    split
    · rename_i h2
      obtain ⟨a, b, c⟩ := digL_pos _ _ _ h2
      rw [List.length_drop] at b
      refine ⟨by show (1 : Int) ≤ 3 + (digL 0 0 (l.drop 3)).2.1; omega, by show 3 + (digL 0 0 (l.drop 3)).2.1 ≤ _; omega, c⟩
    · rename_i h2
      rw [if_neg h2] at h
      exact absurd h h2
  · rename_i h1
    rw [if_neg h1] at h
    split
    · rename_i h2
      rw [if_pos h2] at h
      cases h
    · rename_i h2
      rw [if_neg h2] at h
      split
      · rename_i h3
        refine ⟨by show (1 : Int) ≤ 2; decide, by show (2 : Int) ≤ _; omega, ?_⟩
        rcases h3 with e | e
        · show Lib.validRune ((l.getD 1 0).toNat : Int) = true
          rw [e]
          decide
        · show Lib.validRune ((l.getD 1 0).toNat : Int) = true
          rw [e]
          decide
      · rename_i h3
        rw [if_neg h3] at h
        split
        · exact ⟨by decide, by show (2 : Int) ≤ _; omega, by decide⟩
        · rename_i h4
          rw [if_neg h4] at h
          split
          · exact ⟨by decide, by show (2 : Int) ≤ _; omega, by decide⟩
          · rename_i h5
            rw [if_neg h5] at h
            cases h

theorem runeLen_dec (l : List UInt8) (hb : badHead l = false) : Lib.runeLen ((Lib.decodeL l).1 : Int) = ((Lib.decodeL l).2 : Int) := by
  by_cases h : (Lib.decodeL l).1 = 65533
  · have h3 : (Lib.decodeL l).2 = 3 := by
      have h1 := h
      rw [Lib.decodeL_N] at h1 ⊢
      have k0 := (l.getD 0 0).toNat_lt
      have k1 := (l.getD 1 0).toNat_lt
      have k2 := (l.getD 2 0).toNat_lt
      have k3 := (l.getD 3 0).toNat_lt
      have hb2 := hb
      unfold badHead at hb2
      rw [Lib.decodeL_N] at hb2
      rcases Lib.decodeN_shape l.length (l.getD 0 0).toNat (l.getD 1 0).toNat (l.getD 2 0).toNat (l.getD 3 0).toNat with ⟨c, e⟩ | ⟨c1, c2, c3, cv, e⟩ | ⟨c1, c2, c3, c4, cv, cs, e⟩ | ⟨c1, c2, c3, c4, c5, cv, cw, e⟩ | e
      · rw [e] at h1; simp only [] at h1; omega
      · rw [e] at h1; simp only [] at h1; omega
      · rw [e]
      · rw [e] at h1; simp only [] at h1; omega
      · rw [e] at hb2; cases hb2
    rw [h, h3]
    decide
  · exact Lib.runeLen_decode l h

/-- A step that is no error takes bytes, and no more than there are. -/
theorem oneL_pos (l : List UInt8) (hne : l ≠ []) (hb : badHead l = false) (h : (oneL l).2.2 = 0) : 1 ≤ (oneL l).2.1 ∧ (oneL l).2.1 ≤ l.length ∧ Lib.validRune (oneL l).1 = true := by
  unfold oneL at h ⊢
  split
  · rename_i h1
    rw [if_pos h1] at h
    cases h
  · rename_i h1
    rw [if_neg h1] at h
    split
    · rename_i h2
      rw [if_pos h2] at h
      exact escL_pos l h
    · have h3 := dec_pos l
      have h4 := Lib.decodeL_le l hne
      rw [runeLen_dec l hb]
      exact ⟨by show (1 : Int) ≤ ((Lib.decodeL l).2 : Int); omega, by show ((Lib.decodeL l).2 : Int) ≤ _; omega, dec_valid l⟩

theorem readF_fuel : ∀ (f : Nat) (l acc : List UInt8) (pos : Int) (g : Nat), l.length < f → l.length < g → readF f l acc pos = readF g l acc pos
  | 0, l, acc, pos, g, hf, _ => by omega
  | f + 1, l, acc, pos, 0, _, hg => by omega
  | f + 1, l, acc, pos, g + 1, hf, hg => by
    rw [readF, readF]
    split
    · rfl
    · rename_i hne
      split
      · rfl
      · split
        · rfl
        · rename_i hb
          split
          · rename_i h0
            have hp := oneL_pos l hne (by simpa using hb) h0
            have hl : 0 < l.length := List.length_pos_iff.2 hne
            exact readF_fuel f _ _ _ g (by rw [List.length_drop]; omega) (by rw [List.length_drop]; omega)
          · rfl

/-- The reading, with as much fuel as it wants. -/
def rdL (l acc : List UInt8) (pos : Int) : List UInt8 × Int × Int := readF (l.length + 1) l acc pos
theorem rdL_nil (acc : List UInt8) (pos : Int) : rdL [] acc pos = ([], 0, 12) := rfl
theorem rdL_cons (l acc : List UInt8) (pos : Int) (hne : l ≠ []) : rdL l acc pos =
    if (Lib.decodeL l).1 = 34 then (acc, pos + 1, 0)
    else if badHead l then ([], 0, 11)
    else if (oneL l).2.2 = 0 then rdL (l.drop (oneL l).2.1.toNat) (acc ++ Lib.encodeRune (oneL l).1) (pos + (oneL l).2.1)
    else ([], 0, (oneL l).2.2) := by
  unfold rdL
  rw [readF, if_neg hne]
  split
  · rfl
  · split
    · rfl
    · rename_i hb
      split
      · rename_i h0
        have hp := oneL_pos l hne (by simpa using hb) h0
        have hl : 0 < l.length := List.length_pos_iff.2 hne
        exact readF_fuel _ _ _ _ _ (by rw [List.length_drop]; omega) (by omega)
      · rfl
theorem digL_ascii : ∀ (l : List UInt8) (k : Nat) (n : Int), (digL k n l).2.2 = 0 → ∀ j : Nat, (k : Int) + j < (digL k n l).2.1 → (l.getD j 0).toNat < 128
  | [], k, n, h, j, _ => by
    unfold digL at h
    cases h
  | c :: t, k, n, h, j, hj => by
    unfold digL at h hj
    split at hj
    · rename_i h1
      rw [if_pos h1] at h
      split at hj
      · have hj' : (k : Int) + j < (k : Int) + 1 := hj
        have : j = 0 := by omega
        subst this
        rw [List.getD_cons_zero, h1.1]
        decide
      · rename_i h2
        rw [if_neg h2] at h
        cases h
    · rename_i h1
      rw [if_neg h1] at h
      split at hj
      · rename_i h2
        rw [if_pos h2] at h
        cases j with
        | zero =>
          rw [List.getD_cons_zero]
          have := of_decide_eq_true h2.1
          omega
        | succ j =>
          rw [List.getD_cons_succ]
          exact digL_ascii t (k + 1) _ h j (by omega)
      · rename_i h2
        rw [if_neg h2] at h
        cases h

theorem escL_ascii (l : List UInt8) (h92 : l.getD 0 0 = 92) (h : (escL l).2.2 = 0) (j : Nat) (hj : (j : Int) < (escL l).2.1) : (l.getD j 0).toNat < 128 := by
  have two : ∀ b : UInt8, b.toNat < 128 → l.getD 1 0 = b → (j : Int) < 2 → (l.getD j 0).toNat < 128 := fun b hb he hj2 => by
    match j, hj2 with
    | 0, _ => rw [h92]; decide
    | 1, _ => rw [he]; exact hb
    | j + 2, hj2 => omega
  unfold escL at h hj
  split at hj
  · rename_i h1
    rw [if_pos h1] at h
    have h1' := h1
    unfold Lib.hasPrefix at h1'
    rw [List.isPrefixOf_iff_prefix] at h1'
    obtain ⟨t, rfl⟩ := h1'
    split at hj
    · rename_i h2
      have e3 : ([92, 117, 123] ++ t : List UInt8).drop 3 = t := rfl
      rw [e3] at h2 hj
      have hj' : (j : Int) < 3 + (digL 0 0 t).2.1 := hj
      match j, hj' with
      | 0, _ => show (92 : UInt8).toNat < 128; decide
      | 1, _ => show (117 : UInt8).toNat < 128; decide
      | 2, _ => show (123 : UInt8).toNat < 128; decide
      | j + 3, hj' =>
        show (t.getD j 0).toNat < 128
        exact digL_ascii t 0 0 h2 j (by omega)
    · rename_i h2
      rw [if_neg h2] at h
      exact absurd h h2
  · rename_i h1
    rw [if_neg h1] at h
    split at hj
    · rename_i h2
      rw [if_pos h2] at h
      cases h
    · rename_i h2
      rw [if_neg h2] at h
      split at hj
      · rename_i h3
        rcases h3 with e | e
        · exact two 92 (by decide) e hj
        · exact two 34 (by decide) e hj
      · rename_i h3
        rw [if_neg h3] at h
        split at hj
        · rename_i h4
          exact two 110 (by decide) h4 hj
        · rename_i h4
          rw [if_neg h4] at h
          split at hj
          · rename_i h5
            exact two 116 (by decide) h5 hj
          · rename_i h5
            rw [if_neg h5] at h
            cases h

/-- The same step, its first rune told. -/
def oneX (l : List UInt8) (r : Int) : Int × Int × Int := if r < 32 then (0, 0, 12) else if r = 92 then escL l else (r, Lib.runeLen r, 0)
theorem oneX_eq (l : List UInt8) : oneX l ((Lib.decodeL l).1 : Int) = oneL l := by
  unfold oneX oneL
  by_cases h1 : (Lib.decodeL l).1 < 32
  · rw [if_pos h1, if_pos (by omega)]
  · rw [if_neg h1, if_neg (by omega)]
    by_cases h2 : (Lib.decodeL l).1 = 92
    · rw [if_pos h2, if_pos (by omega)]
    · rw [if_neg h2, if_neg (by omega)]

def rd (l : List UInt8) : List UInt8 × Int × Int := if Lib.hasPrefix l [34] then rdL (l.drop 1) [] 1 else ([], 0, 12)
end Go.Proofs.YtpblalklenebhaaDoor
