/-
  Plain facts: what reading a quoted text comes to, byte by byte (no program in it).
  Plain facts: what is quoted is read back; quoting byte by byte is quoting rune by rune (no program in it).
  Plain facts on numbers of 64 bits (no program in it): what is answered of a number, and its error.
  Plain facts on the texts of numbers (no program in it): what is a number, what it says, and that what is written is read again.
  Plain: the tokens of a source, as the document tells them (no program in it).
  Plain: trees, and how tokens are read as one (no program in it).
  Trees in memory (no program in it).
-/
import Derived.Test.YthmmplmppchfmaaEncAll
import Derived.Test.YthmmplmppchfmaaProg
import Derived.Test.YthmmplmppchfmaaPlain
import Derived.WalkKit
import Derived.WalkSpells
import Derived.Lib.ItoaNum
import Derived.Lib.ItoaMem
import Derived.Lib.MapLaws
import Derived.Lib.Strings
import Derived.Lib.RuneBytes
import Derived.Lib.IndexMore
import Derived.Test.YthmmplmppchfmaaRunAll
import Derived.Test.YthmmplmppchfmaaR7A
import Derived.Test.YthmmplmppchfmaaWorlds
namespace Go.Proofs.Ythmmplmppchfmaa
open Go

/-- What a hexadecimal digit counts, of a rune; and whether it is one. -/
def digV (r : Int) : Int := if 48 ≤ r ∧ r ≤ 57 then r - 48 else if 97 ≤ r ∧ r ≤ 102 then r - 87 else if 65 ≤ r ∧ r ≤ 70 then r - 55 else 0
def digQ (r : Int) : Bool := decide ((48 ≤ r ∧ r ≤ 57) ∨ (97 ≤ r ∧ r ≤ 102) ∨ (65 ≤ r ∧ r ≤ 70))
theorem digV_lt (r : Int) : 0 ≤ digV r ∧ digV r < 16 := by
  unfold digV
  repeat' split
  all_goals omega

/-- The digits up to the closing brace: k of them are read, they count n: the rune, how many bytes, the error. -/
def digL : Nat → Int → List UInt8 → Int × Int × Int
  | _, _, [] => (0, 0, 12)
  | k, n, c :: t =>
    if c = 125 ∧ 0 < k then (if Lib.validRune n then (n, (k : Int) + 1, 0) else (0, 0, 11))
    else if digQ c.toNat ∧ k ≠ 6 then digL (k + 1) (16 * n + digV c.toNat) t
    else (0, 0, 12)

/-- An escape, with whose backslash the bytes begin. -/
def escL (l : List UInt8) : Int × Int × Int :=
  if Lib.hasPrefix l [92, 117, 123] then
    (if (digL 0 0 (l.drop 3)).2.2 = 0 then ((digL 0 0 (l.drop 3)).1, 3 + (digL 0 0 (l.drop 3)).2.1, 0) else (0, 0, (digL 0 0 (l.drop 3)).2.2))
  else if l.length < 2 then (0, 0, 12)
  else if l.getD 1 0 = 92 ∨ l.getD 1 0 = 34 then ((l.getD 1 0).toNat, 2, 0)
  else if l.getD 1 0 = 110 then (10, 2, 0)
  else if l.getD 1 0 = 116 then (9, 2, 0)
  else (0, 0, 12)

/-- One rune, or one escape. -/
def oneL (l : List UInt8) : Int × Int × Int :=
  if (Lib.decodeL l).1 < 32 then (0, 0, 12)
  else if (Lib.decodeL l).1 = 92 then escL l
  else ((Lib.decodeL l).1, Lib.runeLen (Lib.decodeL l).1, 0)

/-- Behind the opening sign: what is meant so far, at which place. -/
def readF : Nat → List UInt8 → List UInt8 → Int → List UInt8 × Int × Int
  | 0, _, _, _ => ([], 0, 12)
  | f + 1, l, acc, pos =>
    if l = [] then ([], 0, 12)
    else if (Lib.decodeL l).1 = 34 then (acc, pos + 1, 0)
    else if badHead l then ([], 0, 11)
    else if (oneL l).2.2 = 0 then readF f (l.drop (oneL l).2.1.toNat) (acc ++ Lib.encodeRune (oneL l).1) (pos + (oneL l).2.1)
    else ([], 0, (oneL l).2.2)

theorem digL_pos : ∀ (l : List UInt8) (k : Nat) (n : Int), (digL k n l).2.2 = 0 → 1 ≤ (digL k n l).2.1 ∧ (digL k n l).2.1 ≤ (k : Int) + l.length ∧ Lib.validRune (digL k n l).1 = true
  | [], k, n, h => by
    unfold digL at h
    cases h
  | c :: t, k, n, h => by
    unfold digL at h ⊢
    split
    · rename_i h1
      rw [if_pos h1] at h
      split
      · rename_i h2
        refine ⟨by show (1 : Int) ≤ (k : Int) + 1; omega, ?_, h2⟩
        show (k : Int) + 1 ≤ (k : Int) + ((c :: t).length : Nat)
        rw [List.length_cons]
        omega
      · rename_i h2
        rw [if_neg h2] at h
        cases h
    · rename_i h1
      rw [if_neg h1] at h
      split
      · rename_i h2
        rw [if_pos h2] at h
        obtain ⟨a, b, c'⟩ := digL_pos t (k + 1) _ h
        refine ⟨a, ?_, c'⟩
        rw [List.length_cons]
        omega
      · rename_i h2
        rw [if_neg h2] at h
        cases h

theorem escL_pos (l : List UInt8) (h : (escL l).2.2 = 0) : 1 ≤ (escL l).2.1 ∧ (escL l).2.1 ≤ l.length ∧ Lib.validRune (escL l).1 = true := by
  unfold escL at h ⊢
  split
  · rename_i h1
    rw [if_pos h1] at h
    have hl : 3 ≤ l.length := by
      unfold Lib.hasPrefix at h1
      rw [List.isPrefixOf_iff_prefix] at h1
      have := h1.length_le
      simpa using this
    split
    · rename_i h2
      obtain ⟨a, b, c⟩ := digL_pos _ _ _ h2
      rw [List.length_drop] at b
      refine ⟨by show (1 : Int) ≤ 3 + (digL 0 0 (l.drop 3)).2.1; omega, by show 3 + (digL 0 0 (l.drop 3)).2.1 ≤ _; omega, c⟩
    · rename_i h2
      rw [if_neg h2] at h
      exact absurd h h2
  · rename_i h1
    rw [if_neg h1] at h
    split
    · rename_i h2
      rw [if_pos h2] at h
      cases h
    · rename_i h2
      rw [if_neg h2] at h
      split
      · rename_i h3
        refine ⟨by show (1 : Int) ≤ 2; decide, by show (2 : Int) ≤ _; omega, ?_⟩
        rcases h3 with e | e
        · show Lib.validRune ((l.getD 1 0).toNat : Int) = true
          rw [e]
          decide
        · show Lib.validRune ((l.getD 1 0).toNat : Int) = true
          rw [e]
          decide
      · rename_i h3
        rw [if_neg h3] at h
        split
        · exact ⟨by decide, by show (2 : Int) ≤ _; omega, by decide⟩
        · rename_i h4
          rw [if_neg h4] at h
          split
          · exact ⟨by decide, by show (2 : Int) ≤ _; omega, by decide⟩
          · rename_i h5
            rw [if_neg h5] at h
            cases h

theorem runeLen_dec (l : List UInt8) (hb : badHead l = false) : Lib.runeLen ((Lib.decodeL l).1 : Int) = ((Lib.decodeL l).2 : Int) := by
  by_cases h : (Lib.decodeL l).1 = 65533
  · have h3 : (Lib.decodeL l).2 = 3 := by
      have h1 := h
      rw [Lib.decodeL_N] at h1 ⊢
      have k0 := (l.getD 0 0).toNat_lt
      have k1 := (l.getD 1 0).toNat_lt
      have k2 := (l.getD 2 0).toNat_lt
      have k3 := (l.getD 3 0).toNat_lt
      have hb2 := hb
      unfold badHead at hb2
      rw [Lib.decodeL_N] at hb2
      rcases Lib.decodeN_shape l.length (l.getD 0 0).toNat (l.getD 1 0).toNat (l.getD 2 0).toNat (l.getD 3 0).toNat with ⟨c, e⟩ | ⟨c1, c2, c3, cv, e⟩ | ⟨c1, c2, c3, c4, cv, cs, e⟩ | ⟨c1, c2, c3, c4, c5, cv, cw, e⟩ | e
      · rw [e] at h1; simp only [] at h1; omega
      · rw [e] at h1; simp only [] at h1; omega
      · rw [e]
      · rw [e] at h1; simp only [] at h1; omega
      · rw [e] at hb2; cases hb2
    rw [h, h3]
    decide
  · exact Lib.runeLen_decode l h

/-- A step that is no error takes bytes, and no more than there are. -/
theorem oneL_pos (l : List UInt8) (hne : l ≠ []) (hb : badHead l = false) (h : (oneL l).2.2 = 0) : 1 ≤ (oneL l).2.1 ∧ (oneL l).2.1 ≤ l.length ∧ Lib.validRune (oneL l).1 = true := by
  unfold oneL at h ⊢
  split
  · rename_i h1
    rw [if_pos h1] at h
    cases h
  · rename_i h1
    rw [if_neg h1] at h
    split
    · rename_i h2
      rw [if_pos h2] at h
      exact escL_pos l h
    · have h3 := dec_pos l
      have h4 := Lib.decodeL_le l hne
      rw [runeLen_dec l hb]
      exact ⟨by show (1 : Int) ≤ ((Lib.decodeL l).2 : Int); omega, by show ((Lib.decodeL l).2 : Int) ≤ _; omega, dec_valid l⟩

theorem readF_fuel : ∀ (f : Nat) (l acc : List UInt8) (pos : Int) (g : Nat), l.length < f → l.length < g → readF f l acc pos = readF g l acc pos
  | 0, l, acc, pos, g, hf, _ => by omega
  | f + 1, l, acc, pos, 0, _, hg => by omega
  | f + 1, l, acc, pos, g + 1, hf, hg => by
    rw [readF, readF]
    split
    · rfl
    · rename_i hne
      split
      · rfl
      · split
        · rfl
        · rename_i hb
          split
          · rename_i h0
            have hp := oneL_pos l hne (by simpa using hb) h0
            have hl : 0 < l.length := List.length_pos_iff.2 hne
            exact readF_fuel f _ _ _ g (by rw [List.length_drop]; omega) (by rw [List.length_drop]; omega)
          · rfl

/-- The reading, with as much fuel as it wants. -/
def rdL (l acc : List UInt8) (pos : Int) : List UInt8 × Int × Int := readF (l.length + 1) l acc pos
theorem rdL_nil (acc : List UInt8) (pos : Int) : rdL [] acc pos = ([], 0, 12) := rfl
theorem rdL_cons (l acc : List UInt8) (pos : Int) (hne : l ≠ []) : rdL l acc pos =
    if (Lib.decodeL l).1 = 34 then (acc, pos + 1, 0)
    else if badHead l then ([], 0, 11)
    else if (oneL l).2.2 = 0 then rdL (l.drop (oneL l).2.1.toNat) (acc ++ Lib.encodeRune (oneL l).1) (pos + (oneL l).2.1)
    else ([], 0, (oneL l).2.2) := by
  unfold rdL
  rw [readF, if_neg hne]
  split
  · rfl
  · split
    · rfl
    · rename_i hb
      split
      · rename_i h0
        have hp := oneL_pos l hne (by simpa using hb) h0
        have hl : 0 < l.length := List.length_pos_iff.2 hne
        exact readF_fuel _ _ _ _ _ (by rw [List.length_drop]; omega) (by omega)
      · rfl
theorem digL_ascii : ∀ (l : List UInt8) (k : Nat) (n : Int), (digL k n l).2.2 = 0 → ∀ j : Nat, (k : Int) + j < (digL k n l).2.1 → (l.getD j 0).toNat < 128
  | [], k, n, h, j, _ => by
    unfold digL at h
    cases h
  | c :: t, k, n, h, j, hj => by
    unfold digL at h hj
    split at hj
    · rename_i h1
      rw [if_pos h1] at h
      split at hj
      · have hj' : (k : Int) + j < (k : Int) + 1 := hj
        have : j = 0 := by omega
        subst this
        rw [List.getD_cons_zero, h1.1]
        decide
      · rename_i h2
        rw [if_neg h2] at h
        cases h
    · rename_i h1
      rw [if_neg h1] at h
      split at hj
      · rename_i h2
        rw [if_pos h2] at h
        cases j with
        | zero =>
          rw [List.getD_cons_zero]
          have := of_decide_eq_true h2.1
          omega
        | succ j =>
          rw [List.getD_cons_succ]
          exact digL_ascii t (k + 1) _ h j (by omega)
      · rename_i h2
        rw [if_neg h2] at h
        cases h

theorem escL_ascii (l : List UInt8) (h92 : l.getD 0 0 = 92) (h : (escL l).2.2 = 0) (j : Nat) (hj : (j : Int) < (escL l).2.1) : (l.getD j 0).toNat < 128 := by
  have two : ∀ b : UInt8, b.toNat < 128 → l.getD 1 0 = b → (j : Int) < 2 → (l.getD j 0).toNat < 128 := fun b hb he hj2 => by
    match j, hj2 with
    | 0, _ => rw [h92]; decide
    | 1, _ => rw [he]; exact hb
    | j + 2, hj2 => omega
  unfold escL at h hj
  split at hj
  · rename_i h1
    rw [if_pos h1] at h
    have h1' := h1
    unfold Lib.hasPrefix at h1'
    rw [List.isPrefixOf_iff_prefix] at h1'
    obtain ⟨t, rfl⟩ := h1'
    split at hj
    · rename_i h2
      have e3 : ([92, 117, 123] ++ t : List UInt8).drop 3 = t := rfl
      rw [e3] at h2 hj
      have hj' : (j : Int) < 3 + (digL 0 0 t).2.1 := hj
      match j, hj' with
      | 0, _ => show (92 : UInt8).toNat < 128; decide
      | 1, _ => show (117 : UInt8).toNat < 128; decide
      | 2, _ => show (123 : UInt8).toNat < 128; decide
      | j + 3, hj' =>
        show (t.getD j 0).toNat < 128
        exact digL_ascii t 0 0 h2 j (by omega)
    · rename_i h2
      rw [if_neg h2] at h
      exact absurd h h2
  · rename_i h1
    rw [if_neg h1] at h
    split at hj
    · rename_i h2
      rw [if_pos h2] at h
      cases h
    · rename_i h2
      rw [if_neg h2] at h
      split at hj
      · rename_i h3
        rcases h3 with e | e
        · exact two 92 (by decide) e hj
        · exact two 34 (by decide) e hj
      · rename_i h3
        rw [if_neg h3] at h
        split at hj
        · rename_i h4
          exact two 110 (by decide) h4 hj
        · rename_i h4
          rw [if_neg h4] at h
          split at hj
          · rename_i h5
            exact two 116 (by decide) h5 hj
          · rename_i h5
            rw [if_neg h5] at h
            cases h

/-- The same step, its first rune told. -/
def oneX (l : List UInt8) (r : Int) : Int × Int × Int := if r < 32 then (0, 0, 12) else if r = 92 then escL l else (r, Lib.runeLen r, 0)
theorem oneX_eq (l : List UInt8) : oneX l ((Lib.decodeL l).1 : Int) = oneL l := by
  unfold oneX oneL
  by_cases h1 : (Lib.decodeL l).1 < 32
  · rw [if_pos h1, if_pos (by omega)]
  · rw [if_neg h1, if_neg (by omega)]
    by_cases h2 : (Lib.decodeL l).1 = 92
    · rw [if_pos h2, if_pos (by omega)]
    · rw [if_neg h2, if_neg (by omega)]

def rd (l : List UInt8) : List UInt8 × Int × Int := if Lib.hasPrefix l [34] then rdL (l.drop 1) [] 1 else ([], 0, 12)
end Go.Proofs.Ythmmplmppchfmaa

namespace Go.Proofs.Ythmmplmppchfmaa
open Go

/-- Escaping, byte by byte. -/
def bq (c : UInt8) : List UInt8 :=
  if c = 92 ∨ c = 34 then [92, c]
  else if c = 10 then [92, 110]
  else if c = 9 then [92, 116]
  else if c.toNat < 32 ∨ c.toNat = 127 then [92, 117, 123] ++ hexL c.toNat ++ [125]
  else [c]
theorem bq_len (c : UInt8) : (bq c).length ≤ 6 := by
  have h2 := hexL_len c.toNat
  unfold bq
  repeat' split
  all_goals (simp; try omega)

theorem bad_enc {r : Int} (hv : Lib.validRune r = true) (t : List UInt8) : badHead (Lib.encodeRune r ++ t) = false := by
  unfold badHead
  rw [dec_enc hv t]
  obtain ⟨n, rfl, hn⟩ := valid_nat hv
  rw [Int.toNat_natCast]
  by_cases h : n = 65533
  · subst h
    rw [show Lib.encodeRune ((65533 : Nat) : Int) = [239, 191, 189] from by rw [enc3 _ (by omega)]; rfl]
    rfl
  · have : (n == 65533) = false := by simp [h]
    rw [this]
    rfl

theorem bad_low (c : UInt8) (t : List UInt8) (h : c.toNat < 128) : badHead (c :: t) = false := by
  unfold badHead
  rw [dec_ascii c t h]
  have : (c.toNat == 65533) = false := by simp; omega
  show ((c.toNat == 65533) && _) = false
  rw [this]
  rfl

theorem dig_facts : ∀ n : Fin 16, dig n.val ≠ 125 ∧ digQ ((dig n.val).toNat : Int) = true ∧ digV ((dig n.val).toNat : Int) = (n.val : Int) := by decide

theorem digL_hex (n : Nat) (hn : n < 128) (t : List UInt8) : digL 0 0 (hexL n ++ 125 :: t) = ((n : Int), ((hexL n).length + 1 : Int), 0) := by
  have hv : Lib.validRune (n : Int) = true := decide_eq_true (by omega)
  unfold hexL
  by_cases h : n < 16
  · rw [if_pos h]
    obtain ⟨f1, f2, f3⟩ := dig_facts ⟨n, h⟩
    simp only [] at f1 f2 f3
    show digL 0 0 (dig n :: 125 :: t) = _
    unfold digL
    rw [if_neg (by simp [f1]), if_pos ⟨f2, by decide⟩, f3]
    unfold digL
    rw [if_pos ⟨rfl, by decide⟩, show 16 * 0 + (n : Int) = n by omega, hv]
    rfl
  · rw [if_neg h]
    obtain ⟨f1, f2, f3⟩ := dig_facts ⟨n / 16, by omega⟩
    obtain ⟨g1, g2, g3⟩ := dig_facts ⟨n % 16, by omega⟩
    simp only [] at f1 f2 f3 g1 g2 g3
    show digL 0 0 (dig (n / 16) :: dig (n % 16) :: 125 :: t) = _
    unfold digL
    rw [if_neg (by simp [f1]), if_pos ⟨f2, by decide⟩, f3]
    unfold digL
    rw [if_neg (by simp [g1]), if_pos ⟨g2, by decide⟩, g3]
    unfold digL
    rw [if_pos ⟨rfl, by decide⟩, show 16 * (16 * 0 + ((n / 16 : Nat) : Int)) + ((n % 16 : Nat) : Int) = n by omega, hv]
    rfl

/-- Reading an escape. -/
theorem rdL_esc (l acc : List UInt8) (pos : Int) (r : Int) (n : Nat) (t : List UInt8) (h0 : ∃ y, l = 92 :: y) (he : escL l = (r, (n : Int), 0)) (ht : l.drop n = t) : rdL l acc pos = rdL t (acc ++ Lib.encodeRune r) (pos + n) := by
  obtain ⟨y, rfl⟩ := h0
  have hd := dec_ascii 92 y (by decide)
  have hone : oneL (92 :: y) = (r, (n : Int), 0) := by
    unfold oneL
    rw [hd, if_neg (by decide), if_pos (by decide), he]
  rw [rdL_cons _ _ _ (by simp), hd, if_neg (by decide), bad_low 92 y (by decide), hone]
  rw [if_neg (show ¬ (false = true) by decide)]
  show (if (0 : Int) = 0 then _ else _) = _
  rw [if_pos rfl]
  show rdL ((92 :: y).drop n) _ _ = _
  rw [ht]

/-- Reading what is written for a rune. -/
theorem rdL_quo {r : Int} (hv : Lib.validRune r = true) (t acc : List UInt8) (pos : Int) : rdL (quoL r ++ t) acc pos = rdL t (acc ++ Lib.encodeRune r) (pos + (quoL r).length) := by
  unfold quoL
  by_cases h1 : r = 92 ∨ r = 34
  · rw [if_pos h1]
    rcases h1 with rfl | rfl
    · exact rdL_esc _ acc pos 92 2 t ⟨_, rfl⟩ rfl rfl
    · exact rdL_esc _ acc pos 34 2 t ⟨_, rfl⟩ rfl rfl
  rw [if_neg h1]
  by_cases h2 : r = 10
  · subst h2
    exact rdL_esc _ acc pos 10 2 t ⟨_, rfl⟩ rfl rfl
  rw [if_neg h2]
  by_cases h3 : r = 9
  · subst h3
    exact rdL_esc _ acc pos 9 2 t ⟨_, rfl⟩ rfl rfl
  rw [if_neg h3]
  obtain ⟨n, rfl, hn⟩ := valid_nat hv
  by_cases h4 : (n : Int) < 32 ∨ (n : Int) = 127
  · rw [if_pos h4, Int.toNat_natCast]
    have hh := digL_hex n (by omega) t
    have e0 : ([92, 117, 123] ++ hexL n ++ [125] : List UInt8) ++ t = 92 :: 117 :: 123 :: (hexL n ++ 125 :: t) := by simp
    have el : ([92, 117, 123] ++ hexL n ++ [125] : List UInt8).length = 4 + (hexL n).length := by simp; omega
    rw [e0, el]
    refine rdL_esc _ acc pos n (4 + (hexL n).length) t ⟨_, rfl⟩ ?_ ?_
    · unfold escL
      rw [if_pos (by simp [Lib.hasPrefix])]
      rw [show List.drop 3 (92 :: 117 :: 123 :: (hexL n ++ 125 :: t)) = hexL n ++ 125 :: t from rfl, hh, if_pos rfl]
      dsimp only
      rw [show (3 : Int) + ((hexL n).length + 1 : Int) = ((4 + (hexL n).length : Nat) : Int) by omega]
    · rw [show 4 + (hexL n).length = ((hexL n).length + 1) + 3 by omega]
      show (hexL n ++ 125 :: t).drop ((hexL n).length + 1) = t
      rw [← List.drop_drop, List.drop_left]
      rfl
  rw [if_neg h4]
  have hd := dec_enc hv t
  rw [Int.toNat_natCast] at hd
  have hb := bad_enc hv t
  have hrl := runeLen_dec _ hb
  rw [hd] at hrl
  simp only [] at hrl
  have hone : oneL (Lib.encodeRune (n : Int) ++ t) = ((n : Int), ((Lib.encodeRune (n : Int)).length : Int), 0) := by
    unfold oneL
    rw [hd, if_neg (by simp only []; omega), if_neg (by simp only []; omega)]
    show ((n : Int), Lib.runeLen (n : Int), (0 : Int)) = _
    rw [hrl]
  rw [rdL_cons _ _ _ (enc_ne _ t), hd, if_neg (by simp only []; omega), hb, hone]
  rw [if_neg (show ¬ (false = true) by decide)]
  show (if (0 : Int) = 0 then _ else _) = _
  rw [if_pos rfl]
  show rdL ((Lib.encodeRune (n : Int) ++ t).drop (Lib.encodeRune (n : Int)).length) _ _ = _
  rw [List.drop_left]

theorem rdL_quos : ∀ (xs : List Int) (_ : ofOk xs = true) (t acc : List UInt8) (pos : Int), rdL (xs.flatMap quoL ++ 34 :: t) acc pos = (acc ++ ofL xs, pos + (xs.flatMap quoL).length + 1, 0)
  | [], _, t, acc, pos => by
    rw [rdL_cons _ _ _ (by simp)]
    show (if (Lib.decodeL (34 :: t)).1 = 34 then _ else _) = _
    rw [dec_ascii 34 t (by decide), if_pos (by decide)]
    simp [ofL]
  | r :: xs, h, t, acc, pos => by
    have h2 : Lib.validRune r = true ∧ ofOk xs = true := by simpa [ofOk] using h
    rw [List.flatMap_cons, List.append_assoc, rdL_quo h2.1, rdL_quos xs h2.2 t]
    have e1 : acc ++ Lib.encodeRune r ++ ofL xs = acc ++ ofL (r :: xs) := by simp [ofL]
    rw [e1, List.length_append]
    congr 2
    omega

/-- What is quoted is read back, whatever stands behind it. -/
theorem rd_quote (xs : List Int) (h : ofOk xs = true) (t : List UInt8) : rd (quoteL (ofL xs) ++ t) = (ofL xs, ((quoteL (ofL xs)).length : Int), 0) := by
  unfold quoteL
  rw [runes_ofL xs h]
  have e : (34 :: (xs.flatMap quoL ++ [34]) : List UInt8) ++ t = 34 :: (xs.flatMap quoL ++ 34 :: t) := by simp
  rw [e]
  have hp : Lib.hasPrefix (34 :: (xs.flatMap quoL ++ 34 :: t)) [34] = true := by simp [Lib.hasPrefix]
  unfold rd
  rw [hp]
  show rdL (xs.flatMap quoL ++ 34 :: t) [] 1 = _
  rw [rdL_quos xs h t]
  simp only [List.nil_append, List.length_cons, List.length_append, List.length_nil]
  congr 2
  omega

theorem bq_high : ∀ (l : List UInt8), (∀ c ∈ l, 128 ≤ c.toNat) → l.flatMap bq = l
  | [], _ => rfl
  | c :: l, h => by
    have hc := h c (by simp)
    rw [List.flatMap_cons, bq_high l (fun d hd => h d (by simp [hd]))]
    have : bq c = [c] := by
      unfold bq
      have k : ∀ d : UInt8, d.toNat < 128 → ¬ c = d := fun d hd e => by rw [e] at hc; omega
      rw [if_neg (not_or.2 ⟨k 92 (by decide), k 34 (by decide)⟩), if_neg (k 10 (by decide)), if_neg (k 9 (by decide)), if_neg (by omega)]
    rw [this]
    rfl

theorem enc_high {r : Int} (hv : Lib.validRune r = true) (h : 128 ≤ r) : ∀ c ∈ Lib.encodeRune r, 128 ≤ c.toNat := by
  obtain ⟨n, rfl, hn⟩ := valid_nat hv
  intro b hb
  by_cases c2 : n < 2048
  · rw [enc2 n (by omega) c2] at hb
    simp only [List.mem_cons, List.not_mem_nil, or_false] at hb
    rcases hb with rfl | rfl
    all_goals (rw [ofNat_toNat _ (by omega)]; omega)
  · by_cases c3 : n < 65536
    · rw [enc3 n (by omega)] at hb
      simp only [List.mem_cons, List.not_mem_nil, or_false] at hb
      rcases hb with rfl | rfl | rfl
      all_goals (rw [ofNat_toNat _ (by omega)]; omega)
    · rw [enc4 n (by omega) (by omega)] at hb
      simp only [List.mem_cons, List.not_mem_nil, or_false] at hb
      rcases hb with rfl | rfl | rfl | rfl
      all_goals (rw [ofNat_toNat _ (by omega)]; omega)

theorem bq_low (n : Nat) (h : n < 128) : bq (UInt8.ofNat n) = quoL (n : Int) := by
  have key : ∀ k : Fin 128, bq (UInt8.ofNat k.val) = quoL (k.val : Int) := by decide +kernel
  exact key ⟨n, h⟩

theorem bq_enc {r : Int} (hv : Lib.validRune r = true) : (Lib.encodeRune r).flatMap bq = quoL r := by
  obtain ⟨n, rfl, hn⟩ := valid_nat hv
  by_cases h : n < 128
  · rw [enc1 n h]
    show bq (UInt8.ofNat n) ++ [] = _
    rw [List.append_nil, bq_low n h]
  · rw [bq_high _ (enc_high hv (by omega))]
    unfold quoL
    rw [if_neg (by omega), if_neg (by omega), if_neg (by omega), if_neg (by omega)]

theorem bq_ofL : ∀ (xs : List Int) (_ : ofOk xs = true), (ofL xs).flatMap bq = xs.flatMap quoL
  | [], _ => rfl
  | r :: xs, h => by
    have h2 : Lib.validRune r = true ∧ ofOk xs = true := by simpa [ofOk] using h
    have e1 : ofL (r :: xs) = Lib.encodeRune r ++ ofL xs := by simp [ofL]
    rw [e1, List.flatMap_append, bq_enc h2.1, bq_ofL xs h2.2, List.flatMap_cons]

/-- Quoting byte by byte. -/
def bquote (l : List UInt8) : List UInt8 := 34 :: (l.flatMap bq ++ [34])
theorem bquote_ofL (xs : List Int) (h : ofOk xs = true) : bquote (ofL xs) = quoteL (ofL xs) := by
  unfold bquote quoteL
  rw [bq_ofL xs h, runes_ofL xs h]
end Go.Proofs.Ythmmplmppchfmaa

namespace Go.Proofs.Ythmmplmppchfmaa
open Go


/-- A number of 64 bits. -/
def InR (x : Int) : Prop := -9223372036854775808 ≤ x ∧ x ≤ 9223372036854775807
instance (x : Int) : Decidable (InR x) := inferInstanceAs (Decidable (_ ∧ _))
/-- The number, or nought where it is beyond the bounds. -/
def nv (x : Int) : Int := if InR x then x else 0
/-- No error, or ErrOver where it is beyond the bounds. -/
def ne (x : Int) : Int := if InR x then 0 else 17
theorem nv_ok {x : Int} (h : InR x) : nv x = x := if_pos h
theorem ne_ok {x : Int} (h : InR x) : ne x = 0 := if_pos h
theorem nv_no {x : Int} (h : ¬ InR x) : nv x = 0 := if_neg h
theorem ne_no {x : Int} (h : ¬ InR x) : ne x = 17 := if_neg h
theorem nv_in (x : Int) : InR (nv x) := by
  by_cases h : InR x
  · rw [nv_ok h]; exact h
  · rw [nv_no h]; exact ⟨by decide, by decide⟩
theorem ne_in (x : Int) : ne x = 0 ∨ ne x = 17 := by
  by_cases h : InR x
  · exact .inl (ne_ok h)
  · exact .inr (ne_no h)

/-- A number of 64 bits that is a + b but for whole turns of 2^64. -/
theorem wrap_add (s : Int) (h0 : -18446744073709551616 ≤ s) (h1 : s < 18446744073709551616) :
    (InR s → IntKind.i64.wrap s = s) ∧ (9223372036854775807 < s → IntKind.i64.wrap s = s - 18446744073709551616) ∧ (s < -9223372036854775808 → IntKind.i64.wrap s = s + 18446744073709551616) := by
  have e := IntKind.wrap_i64 s
  unfold InR
  refine ⟨fun h => ?_, fun h => ?_, fun h => ?_⟩ <;> (rw [e]; omega)

/-- A product that is taken round, and what it is divided by one of its two numbers: the other one just where nothing was taken round. -/
theorem mul_facts (a b : Int) (ha : InR a) (hb : InR b) (h0 : a ≠ 0) (hx : a ≠ -1 ∨ b ≠ -9223372036854775808) :
    ∃ c q, IntKind.i64.wrap (a * b) = c ∧ InR c ∧ IntKind.i64.wrap (c.tdiv a) = q ∧ (q = b ↔ InR (a * b)) ∧ (InR (a * b) → a * b = c) := by
  obtain ⟨a0, a1⟩ := ha
  obtain ⟨b0, b1⟩ := hb
  refine ⟨_, _, rfl, ?_, rfl, ?_, ?_⟩
  · unfold InR
    rw [IntKind.wrap_i64]
    omega
  · constructor
    · intro hq
      generalize hp : a * b = p at *
      generalize hc : IntKind.i64.wrap p = c at *
      rw [IntKind.wrap_i64] at hc
      have c0 : -9223372036854775808 ≤ c := by omega
      have c1 : c ≤ 9223372036854775807 := by omega
      have hd := Int.mul_tdiv_add_tmod c a
      by_cases hmin : a = -1
      · have hb' : b ≠ -9223372036854775808 := by
          rcases hx with h | h
          · exact absurd hmin h
          · exact h
        unfold InR
        rw [hmin] at hp
        omega
      · have hin : -9223372036854775808 ≤ c.tdiv a ∧ c.tdiv a ≤ 9223372036854775807 := by
          have hn := Int.natAbs_tdiv_le_natAbs c a
          have hz : (c.tdiv a).natAbs ≤ c.natAbs := hn
          by_cases hz2 : c.natAbs ≤ 9223372036854775807
          · omega
          · have hcm : c = -9223372036854775808 := by omega
            subst hcm
            have h2 : 2 ≤ a.natAbs ∨ a = 1 := by omega
            rcases h2 with h2 | h2
            · have : ((-9223372036854775808 : Int).tdiv a).natAbs = 9223372036854775808 / a.natAbs := by
                rw [Int.natAbs_tdiv]
                rfl
              have h3 : 9223372036854775808 / a.natAbs ≤ 9223372036854775808 / 2 := Nat.div_le_div_left h2 (by decide)
              omega
            · subst h2
              rw [Int.tdiv_one]
              omega
        rw [IntKind.wrap_i64] at hq
        have hq2 : c.tdiv a = b := by omega
        rw [hq2, hp] at hd
        have hm : (c.tmod a).natAbs < a.natAbs := by
          rw [Int.natAbs_tmod]
          exact Nat.mod_lt _ (by omega)
        unfold InR
        omega
    · intro hin
      have hc : IntKind.i64.wrap (a * b) = a * b := by
        rw [IntKind.wrap_i64]
        unfold InR at hin
        omega
      rw [hc, Int.mul_tdiv_cancel_left _ h0, IntKind.wrap_i64]
      omega
  · intro hin
    rw [IntKind.wrap_i64]
    unfold InR at hin
    omega
end Go.Proofs.Ythmmplmppchfmaa

namespace Go.Proofs.Ythmmplmppchfmaa
open Go

def digB (b : UInt8) : Bool := decide (48 ≤ b.toNat ∧ b.toNat ≤ 57)
/-- What digits say, behind a number n. -/
def valF (n : Nat) : List UInt8 → Nat
  | [] => n
  | b :: t => valF (10 * n + (b.toNat - 48)) t
theorem valF_le : ∀ (l : List UInt8) (n : Nat), n ≤ valF n l
  | [], n => Nat.le_refl n
  | b :: t, n => by
    have := valF_le t (10 * n + (b.toNat - 48))
    show n ≤ valF (10 * n + (b.toNat - 48)) t
    omega
theorem valF_app : ∀ (l m : List UInt8) (n : Nat), valF n (l ++ m) = valF (valF n l) m
  | [], _, _ => rfl
  | _ :: t, m, _ => valF_app t m _

/-- Digits, one at least, without noughts ahead. -/
def numOk (l : List UInt8) : Bool := l.all digB && (l == [48] || (l != [] && !Lib.hasPrefix l [48]))
def pv (l : List UInt8) : Int := if numOk l then nv (valF 0 l) else 0
def pe (l : List UInt8) : Int := if numOk l then ne (valF 0 l) else 12
theorem pv_ok {l : List UInt8} (h : numOk l = true) : pv l = nv (valF 0 l) := if_pos h
theorem pe_ok {l : List UInt8} (h : numOk l = true) : pe l = ne (valF 0 l) := if_pos h
theorem pv_no {l : List UInt8} (h : numOk l = false) : pv l = 0 := by unfold pv; rw [h]; rfl
theorem pe_no {l : List UInt8} (h : numOk l = false) : pe l = 12 := by unfold pe; rw [h]; rfl

theorem dec_low (a : UInt8) (t : List UInt8) (h : a.toNat < 128) : Lib.decodeL (a :: t) = (a.toNat, 1) := by
  rw [Lib.decodeL_N, Lib.decodeN_ascii _ _ _ _ _ (by simpa using h)]
  simp
theorem dec_high (a : UInt8) (t : List UInt8) (h : 128 ≤ a.toNat) : 128 ≤ (Lib.decodeL (a :: t)).1 := by
  have h2 : 128 ≤ ((a :: t).getD 0 0).toNat := by simpa using h
  rw [Lib.decodeL_N]
  have k0 := ((a :: t).getD 0 0).toNat_lt
  rcases Lib.decodeN_shape (a :: t).length ((a :: t).getD 0 0).toNat ((a :: t).getD 1 0).toNat ((a :: t).getD 2 0).toNat ((a :: t).getD 3 0).toNat with ⟨c, e⟩ | ⟨c1, c2, c3, cv, e⟩ | ⟨c1, c2, c3, c4, cv, cs, e⟩ | ⟨c1, c2, c3, c4, c5, cv, cw, e⟩ | e
  all_goals (rw [e]; simp only []; omega)

/-- A rune that is a digit is a byte that is one; another rune is no digit's byte. -/
theorem rune_dig (l : List UInt8) (hne : l ≠ []) :
    (∃ b t d, l = b :: t ∧ digB b = true ∧ b.toNat = d + 48 ∧ d ≤ 9 ∧ Lib.decodeL l = (d + 48, 1)) ∨ (((Lib.decodeL l).1 < 48 ∨ 57 < (Lib.decodeL l).1) ∧ l.all digB = false) := by
  rcases l with _ | ⟨a, t⟩
  · exact absurd rfl hne
  · by_cases ha : a.toNat < 128
    · by_cases hd : 48 ≤ a.toNat ∧ a.toNat ≤ 57
      · left
        exact ⟨a, t, a.toNat - 48, rfl, decide_eq_true hd, by omega, by omega, by rw [dec_low a t ha, show a.toNat - 48 + 48 = a.toNat from by omega]⟩
      · right
        rw [dec_low a t ha]
        refine ⟨by show a.toNat < 48 ∨ 57 < a.toNat; omega, ?_⟩
        rw [List.all_cons, show digB a = false from decide_eq_false hd]
        rfl
    · right
      have h1 := dec_high a t (by omega)
      refine ⟨by omega, ?_⟩
      rw [List.all_cons, show digB a = false from decide_eq_false (by omega)]
      rfl

theorem ndrop_ne {s : ByteArray} {pos : Nat} (h : pos < s.size) : s.data.toList.drop pos ≠ [] := by
  intro h0
  have := congrArg List.length h0
  rw [List.length_drop, ← Lib.size_eq] at this
  simp at this
  omega
theorem drop_done {s : ByteArray} {pos : Nat} (h : ¬ pos < s.size) : s.data.toList.drop pos = [] := List.drop_eq_nil_of_le (by rw [← Lib.size_eq]; omega)

/-- One rune of the range over a text. -/
theorem rune_at {s : ByteArray} {pos : Nat} (h : pos < s.size) :
    (∃ d : Nat, d ≤ 9 ∧ Utf8.decode s pos = (d + 48, 1) ∧ (s.data.toList.drop pos).all digB = (s.data.toList.drop (pos + 1)).all digB ∧ ∀ n, valF n (s.data.toList.drop pos) = valF (10 * n + d) (s.data.toList.drop (pos + 1))) ∨
    (((Utf8.decode s pos).1 < 48 ∨ 57 < (Utf8.decode s pos).1) ∧ (s.data.toList.drop pos).all digB = false) := by
  have hr := rune_dig _ (ndrop_ne h)
  rw [Lib.decodeL_drop] at hr
  rcases hr with ⟨b, t, d, e, hb, hbd, hd, hdec⟩ | hr
  · left
    have et : s.data.toList.drop (pos + 1) = t := by rw [← List.drop_drop, e]; rfl
    refine ⟨d, hd, hdec, ?_, fun n => ?_⟩
    · rw [e, et, List.all_cons, hb]
      rfl
    · rw [e, et]
      show valF (10 * n + (b.toNat - 48)) t = _
      rw [hbd, show d + 48 - 48 = d from by omega]
  · exact .inr hr

theorem numOk_all {l : List UInt8} (h : numOk l = true) : l.all digB = true := by
  unfold numOk at h
  rw [Bool.and_eq_true] at h
  exact h.1

theorem valF_over {n : Nat} {l : List UInt8} {V : Nat} (h : valF n l = V) (hn : 9223372036854775807 < n) : ¬ InR (V : Int) := by
  have := valF_le l n
  unfold InR
  omega

theorem val_dec (u : Nat) : valF 0 (Lib.decDigits u) = u ∧ (Lib.decDigits u).all digB = true ∧ ∃ b t, Lib.decDigits u = b :: t ∧ (u = 0 → t = []) ∧ (u ≠ 0 → b ≠ 48) := by
  induction u using Nat.strongRecOn with
  | _ u ih =>
    have one : ∀ d, d < 10 → (UInt8.ofNat (48 + d)).toNat = 48 + d := fun d hd => by
      rw [UInt8.toNat_ofNat']
      omega
    by_cases h : u < 10
    · rw [Lib.decDigits_one h]
      refine ⟨?_, ?_, _, [], rfl, fun _ => rfl, fun hu e => ?_⟩
      · show 10 * 0 + ((UInt8.ofNat (48 + u)).toNat - 48) = u
        rw [one u h]
        omega
      · rw [List.all_cons, show digB (UInt8.ofNat (48 + u)) = true from decide_eq_true (by rw [one u h]; omega)]
        rfl
      · have := congrArg UInt8.toNat e
        rw [one u h, show (48 : UInt8).toNat = 48 from rfl] at this
        omega
    · obtain ⟨h1, h2, b, t, h3, h4, h5⟩ := ih (u / 10) (by omega)
      rw [Lib.decDigits, dif_neg h]
      refine ⟨?_, ?_, b, t ++ [UInt8.ofNat (48 + u % 10)], by rw [h3]; rfl, fun hu => by omega, fun _ => h5 (by omega)⟩
      · rw [valF_app, h1]
        show 10 * (u / 10) + ((UInt8.ofNat (48 + u % 10)).toNat - 48) = u
        rw [one _ (by omega)]
        omega
      · rw [List.all_append, h2, List.all_cons, show digB (UInt8.ofNat (48 + u % 10)) = true from decide_eq_true (by rw [one _ (by omega)]; omega)]
        rfl

theorem numOk_dec (u : Nat) : numOk (Lib.decDigits u) = true := by
  obtain ⟨_, h2, b, t, h3, h4, h5⟩ := val_dec u
  unfold numOk
  rw [h2]
  by_cases hu : u = 0
  · subst hu
    rw [Lib.decDigits_one (by decide)]
    decide
  · have hb := h5 hu
    rw [h3]
    have hp : Lib.hasPrefix (b :: t) [48] = false := by
      unfold Lib.hasPrefix
      cases hq : List.isPrefixOf [48] (b :: t)
      · rfl
      · rw [List.isPrefixOf_iff_prefix] at hq
        obtain ⟨x, hx⟩ := hq
        exact absurd (List.cons.inj hx).1.symm hb
    rw [hp]
    simp

theorem parse_pos (a : Int) (h0 : 0 ≤ a) (ha : InR a) : pv (Lib.itoa a) = a ∧ pe (Lib.itoa a) = 0 := by
  obtain ⟨n, rfl⟩ := Int.eq_ofNat_of_zero_le h0
  rw [Lib.itoa_nonneg, pv_ok (numOk_dec n), pe_ok (numOk_dec n), (val_dec n).1]
  exact ⟨nv_ok ha, ne_ok ha⟩
theorem parse_neg (a : Int) (h0 : a < 0) : pv (Lib.itoa a) = 0 ∧ pe (Lib.itoa a) = 12 := by
  have hn : numOk (Lib.itoa a) = false := by
    unfold Lib.itoa
    rw [if_pos h0]
    unfold numOk
    rw [List.all_cons, show digB 45 = false from rfl]
    rfl
  exact ⟨pv_no hn, pe_no hn⟩
theorem pe_range (l : List UInt8) : 0 ≤ pe l ∧ pe l ≤ 17 := by
  cases h : numOk l
  · rw [pe_no h]; decide
  · rw [pe_ok h]
    rcases ne_in (valF 0 l) with h | h <;> (rw [h]; decide)
end Go.Proofs.Ythmmplmppchfmaa

namespace Go.Proofs.Ythmmplmppchfmaa
open Go

def letB (b : UInt8) : Bool := letR b.toNat
def dgB (b : UInt8) : Bool := digR b.toNat
def nmB (b : UInt8) : Bool := letR b.toNat || digR b.toNat
def lnB (b : UInt8) : Bool := !decide ((b.toNat : Int) = 10)
def blkR (r : Int) : Bool := decide (r = 32) || (decide (r = 9) || (decide (r = 10) || decide (r = 13)))

def sgns : List (List UInt8) := [[58, 58], [61, 61], [33, 61], [60, 61], [62, 61], [38, 38], [124, 124], [45, 62], [40], [41], [123], [125], [91], [93], [44], [59], [58], [46], [60], [62], [33], [43], [45], [42]]

/-- A token that was read: its kind, text, number, how many bytes it has, the error. -/
structure Tk where
  k : Int
  s : List UInt8
  n : Int
  z : Nat
  e : Int
def badT (e : Int) : Tk := ⟨0, [], 0, 0, e⟩
def nameT (row : List UInt8) : Tk := if 12 < row.length then badT 5 else ⟨1, row, 0, row.length, 0⟩
def longT (row : List UInt8) : Tk := if pe row = 0 then ⟨2, [], pv row, row.length, 0⟩ else badT (pe row)
def strT (l : List UInt8) : Tk := if (rd l).2.2 = 0 then (if 30 < (runes (rd l).1).length then badT 5 else ⟨3, (rd l).1, 0, (rd l).2.1.toNat, 0⟩) else badT (rd l).2.2
def signF (l : List UInt8) : List (List UInt8) → Tk
  | [] => badT 12
  | g :: r => if Lib.hasPrefix l g then ⟨4, g, 0, g.length, 0⟩ else signF l r
def signT (l : List UInt8) : Tk := signF l sgns
def tokL (l : List UInt8) : Tk :=
  if letB (l.getD 0 0) then nameT (l.takeWhile nmB) else if dgB (l.getD 0 0) then longT (l.takeWhile dgB) else if ((l.getD 0 0).toNat : Int) = 34 then strT l else signT l
def gapL (l : List UInt8) : Nat := if blkR (l.getD 0 0).toNat then 1 else if Lib.hasPrefix l [47, 47] then (l.takeWhile lnB).length else 0

structure Tok where
  k : Int
  s : List UInt8
  n : Int
  p : Nat

def toksF : Nat → List UInt8 → Nat → List Tok → List Tok × Int
  | 0, _, _, _ => ([], 0)
  | f + 1, l, at', acc => if l = [] then (acc, 0) else
      if 0 < gapL l then toksF f (l.drop (gapL l)) (at' + gapL l) acc
      else if (tokL l).e = 0 then (if acc.length = 200 then ([], 4) else toksF f (l.drop (tokL l).z) (at' + (tokL l).z) (acc ++ [⟨(tokL l).k, (tokL l).s, (tokL l).n, at'⟩]))
      else ([], (tokL l).e)
def toksL (l : List UInt8) (at' : Nat) (acc : List Tok) : List Tok × Int := toksF (l.length + 1) l at' acc
def toks (l : List UInt8) : List Tok × Int := if 600 < l.length then ([], 5) else if okL l then toksL l 0 [] else ([], 11)

/-! ## Runes and their bytes. -/

theorem dec_le (l : List UInt8) (h : l ≠ []) : (Lib.decodeL l).2 ≤ l.length := by
  have hl : 0 < l.length := List.length_pos_iff.2 h
  rw [Lib.decodeL_N]
  rcases Lib.decodeN_shape l.length (l.getD 0 0).toNat (l.getD 1 0).toNat (l.getD 2 0).toNat (l.getD 3 0).toNat with ⟨c, e⟩ | ⟨c1, c2, c3, cv, e⟩ | ⟨c1, c2, c3, c4, cv, cs, e⟩ | ⟨c1, c2, c3, c4, c5, cv, cw, e⟩ | e
  all_goals (rw [e]; simp only []; omega)

/-- A rune of one byte below 128, or all its bytes are from 128 on. -/
theorem dec_bytes (l : List UInt8) : ((l.getD 0 0).toNat < 128 ∧ Lib.decodeL l = ((l.getD 0 0).toNat, 1)) ∨ (128 ≤ (Lib.decodeL l).1 ∧ ∀ j, j < (Lib.decodeL l).2 → 128 ≤ (l.getD j 0).toNat) := by
  by_cases h0 : (l.getD 0 0).toNat < 128
  · left
    refine ⟨h0, ?_⟩
    rw [Lib.decodeL_N]
    unfold Lib.decodeN
    rw [if_pos h0]
  · right
    refine ⟨dec_upon l (by omega), ?_⟩
    rw [Lib.decodeL_N]
    intro j hj
    rcases Lib.decodeN_shape l.length (l.getD 0 0).toNat (l.getD 1 0).toNat (l.getD 2 0).toNat (l.getD 3 0).toNat with ⟨c, e⟩ | ⟨c1, c2, c3, cv, e⟩ | ⟨c1, c2, c3, c4, cv, cs, e⟩ | ⟨c1, c2, c3, c4, c5, cv, cw, e⟩ | e
    · omega
    · rw [e] at hj
      match j, hj with
      | 0, _ => omega
      | 1, _ => omega
    · rw [e] at hj
      match j, hj with
      | 0, _ => omega
      | 1, _ => omega
      | 2, _ => omega
    · rw [e] at hj
      match j, hj with
      | 0, _ => omega
      | 1, _ => omega
      | 2, _ => omega
      | 3, _ => omega
    · rw [e] at hj
      match j, hj with
      | 0, _ => omega

/-- What is asked of a rune, all from 128 on alike, is asked of its first byte. -/
theorem head_of {p : Int → Bool} (hp : ∀ r : Int, 128 ≤ r → p r = p 128) (l : List UInt8) : p ((Lib.decodeL l).1 : Int) = p ((l.getD 0 0).toNat : Int) := by
  rcases dec_bytes l with ⟨h, e⟩ | ⟨h, hb⟩
  · rw [e]
  · rw [hp _ (by omega), hp ((l.getD 0 0).toNat : Int)]
    have := hb 0 (by have := dec_pos l; omega)
    omega

theorem takeWhile_step {p : Int → Bool} (hp : ∀ r : Int, 128 ≤ r → p r = p 128) (l : List UInt8) (h : l ≠ []) (hr : p ((Lib.decodeL l).1 : Int) = true) :
    (l.takeWhile fun b => p b.toNat).length = (Lib.decodeL l).2 + ((l.drop (Lib.decodeL l).2).takeWhile fun b => p b.toNat).length := by
  have key : ∀ (n : Nat) (l : List UInt8), n ≤ l.length → (∀ j, j < n → p ((l.getD j 0).toNat : Int) = true) → (l.takeWhile fun b => p b.toNat).length = n + ((l.drop n).takeWhile fun b => p b.toNat).length := by
    intro n
    induction n with
    | zero => intro l _ _; simp
    | succ n ih =>
      intro l hn hb
      match l, hn, hb with
      | b :: t, hn, hb =>
        have h0 : p (b.toNat : Int) = true := hb 0 (by omega)
        rw [List.takeWhile_cons, if_pos h0, List.length_cons, List.drop_succ_cons, ih t (by simpa using hn) (fun j hj => hb (j + 1) (by omega))]
        omega
  refine key _ l (dec_le l h) ?_
  intro j hj
  rcases dec_bytes l with ⟨h1, e⟩ | ⟨h1, hb⟩
  · rw [e] at hj hr
    have : j = 0 := by omega
    subst this
    exact hr
  · rw [hp _ (by have := hb j hj; omega), ← hp _ (by omega : (128 : Int) ≤ ((Lib.decodeL l).1 : Int))]
    exact hr

theorem takeWhile_stop {p : Int → Bool} (hp : ∀ r : Int, 128 ≤ r → p r = p 128) (l : List UInt8) (hr : p ((Lib.decodeL l).1 : Int) = false) : (l.takeWhile fun b => p b.toNat) = [] := by
  rw [head_of hp] at hr
  cases l with
  | nil => rfl
  | cons b t =>
    have : p (b.toNat : Int) = false := hr
    rw [List.takeWhile_cons, this]
    rfl

theorem takeWhile_take {α : Type} (p : α → Bool) : ∀ l : List α, l.take (l.takeWhile p).length = l.takeWhile p
  | [] => rfl
  | b :: t => by
    rw [List.takeWhile_cons]
    split
    · rw [List.length_cons, List.take_succ_cons, takeWhile_take p t]
    · rfl

/-! ## Places where a rune begins. -/

inductive Bd : List UInt8 → Nat → Prop
  | zero (l : List UInt8) : Bd l 0
  | step (l : List UInt8) (n : Nat) : l ≠ [] → Bd (l.drop (Lib.decodeL l).2) n → Bd l ((Lib.decodeL l).2 + n)

theorem Bd.next {l : List UInt8} {n : Nat} (h : Bd l n) (hn : 0 < n) : l ≠ [] ∧ (Lib.decodeL l).2 ≤ n ∧ Bd (l.drop (Lib.decodeL l).2) (n - (Lib.decodeL l).2) := by
  cases h with
  | zero => omega
  | step _ m h1 h2 => exact ⟨h1, by omega, by rw [Nat.add_sub_cancel_left]; exact h2⟩

theorem Bd.ok {l : List UInt8} {n : Nat} (h : Bd l n) : okL l = true → okL (l.drop n) = true := by
  induction h with
  | zero l => simp
  | step l n hne _ ih =>
    intro hok
    rw [okL_cons l hne] at hok
    split at hok
    · cases hok
    · rw [← List.drop_drop]
      exact ih hok

theorem getD_drop (l : List UInt8) (n j : Nat) : (l.drop n).getD j 0 = l.getD (n + j) 0 := by
  simp [List.getD_eq_getElem?_getD, List.getElem?_drop]

theorem bd_of : ∀ (m : Nat) (l : List UInt8) (n : Nat), l.length ≤ m → n ≤ l.length → (0 < n → (l.getD (n - 1) 0).toNat < 128) ∨ n = l.length ∨ (l.getD n 0).toNat < 128 → Bd l n := by
  intro m
  induction m with
  | zero =>
    intro l n hm hn _
    have : n = 0 := by omega
    subst this
    exact .zero l
  | succ m ih =>
    intro l n hm hn hc
    by_cases h0 : n = 0
    · subst h0
      exact .zero l
    · have hne : l ≠ [] := by
        intro h
        subst h
        simp at hn
        omega
      have hp := dec_pos l
      have hle := dec_le l hne
      have hs : (Lib.decodeL l).2 ≤ n := by
        rcases dec_bytes l with ⟨_, e⟩ | ⟨_, hb⟩
        · rw [e]
          show 1 ≤ n
          omega
        · apply Nat.le_of_not_lt
          intro hlt
          rcases hc with hc | hc | hc
          · have := hb (n - 1) (by omega)
            have := hc (by omega)
            omega
          · omega
          · have := hb n hlt
            omega
      obtain ⟨k, rfl⟩ : ∃ k, n = (Lib.decodeL l).2 + k := ⟨n - (Lib.decodeL l).2, by omega⟩
      refine .step l k hne (ih _ k (by rw [List.length_drop]; omega) (by rw [List.length_drop]; omega) ?_)
      rcases hc with hc | hc | hc
      · left
        intro hk
        rw [getD_drop, show (Lib.decodeL l).2 + (k - 1) = (Lib.decodeL l).2 + k - 1 by omega]
        exact hc (by omega)
      · right; left
        rw [List.length_drop]
        omega
      · right; right
        rw [getD_drop]
        exact hc

/-! ## How far a token goes. -/

theorem last_takeWhile (p : UInt8 → Bool) : ∀ (l : List UInt8) (j : Nat), j < (l.takeWhile p).length → p (l.getD j 0) = true
  | [], j, h => by simp at h
  | b :: t, j, h => by
    rw [List.takeWhile_cons] at h
    split at h
    · match j, h with
      | 0, _ => assumption
      | j + 1, h =>
        rw [List.getD_cons_succ]
        exact last_takeWhile p t j (by simpa using h)
    · simp at h

theorem takeWhile_end (p : UInt8 → Bool) : ∀ (l : List UInt8), (l.takeWhile p).length = l.length ∨ p (l.getD (l.takeWhile p).length 0) = false
  | [] => .inl rfl
  | b :: t => by
    rw [List.takeWhile_cons]
    split
    · rcases takeWhile_end p t with h | h
      · left
        simp [h]
      · right
        rw [List.length_cons, List.getD_cons_succ]
        exact h
    · rename_i hb
      right
      have : p b = false := by simpa using hb
      exact this

theorem tw_len (p : UInt8 → Bool) (l : List UInt8) : (l.takeWhile p).length ≤ l.length := by
  rcases takeWhile_end p l with h | h
  · omega
  · exact (List.takeWhile_prefix p).length_le

theorem nmB_low {b : UInt8} (h : nmB b = true) : b.toNat < 128 := by
  apply Nat.lt_of_not_le
  intro h2
  rw [nmB, letR_high _ (by omega), digR_high _ (by omega)] at h
  cases h
theorem dgB_low {b : UInt8} (h : dgB b = true) : b.toNat < 128 := nmB_low (b := b) (by rw [nmB]; rw [dgB] at h; rw [h]; simp)

theorem hasPrefix_get {l g : List UInt8} (h : Lib.hasPrefix l g = true) : ∃ t, l = g ++ t := by
  have h2 : g <+: l := by simpa [Lib.hasPrefix] using h
  obtain ⟨t, ht⟩ := h2
  exact ⟨t, ht.symm⟩

/-- The last byte of what is read as a quoted text is the sign. -/
theorem rdL_last : ∀ (m : Nat) (l acc : List UInt8) (pos : Int), l.length ≤ m → (rdL l acc pos).2.2 = 0 → ∃ z : Nat, 1 ≤ z ∧ z ≤ l.length ∧ (rdL l acc pos).2.1 = pos + z ∧ l.getD (z - 1) 0 = 34 := by
  intro m
  induction m with
  | zero =>
    intro l acc pos hm h
    have : l = [] := List.length_eq_zero_iff.1 (by omega)
    subst this
    rw [rdL_nil] at h
    simp at h
  | succ m ih =>
    intro l acc pos hm h
    by_cases hne : l = []
    · subst hne
      rw [rdL_nil] at h
      simp at h
    · have hl : 0 < l.length := List.length_pos_iff.2 hne
      rw [rdL_cons l acc pos hne] at h ⊢
      split
      · rename_i h34
        refine ⟨1, Nat.le_refl _, hl, rfl, ?_⟩
        rcases dec_bytes l with ⟨_, e⟩ | ⟨hb, _⟩
        · rw [e] at h34
          exact UInt8.toNat_inj.1 h34
        · omega
      · rename_i h34
        rw [if_neg h34] at h
        split
        · rename_i hb
          rw [if_pos hb] at h
          simp at h
        · rename_i hb
          rw [if_neg hb] at h
          split
          · rename_i h0
            rw [if_pos h0] at h
            have hp := oneL_pos l hne (by simpa using hb) h0
            obtain ⟨z, h1, h2, h3, h4⟩ := ih _ _ _ (by rw [List.length_drop]; omega) h
            rw [List.length_drop] at h2
            refine ⟨(oneL l).2.1.toNat + z, by omega, by omega, by rw [h3]; omega, ?_⟩
            rw [getD_drop, show (oneL l).2.1.toNat + (z - 1) = (oneL l).2.1.toNat + z - 1 by omega] at h4
            exact h4
          · rename_i h0
            rw [if_neg h0] at h
            exact absurd h h0

theorem rd_last (l : List UInt8) (h : (rd l).2.2 = 0) : ∃ z : Nat, 1 ≤ z ∧ z ≤ l.length ∧ (rd l).2.1 = z ∧ l.getD (z - 1) 0 = 34 := by
  unfold rd at h ⊢
  split
  · rename_i hp
    rw [if_pos hp] at h
    obtain ⟨z, h1, h2, h3, h4⟩ := rdL_last _ _ _ _ (Nat.le_refl _) h
    rw [List.length_drop] at h2
    refine ⟨1 + z, by omega, by omega, by rw [h3]; omega, ?_⟩
    rw [getD_drop, show 1 + (z - 1) = 1 + z - 1 by omega] at h4
    exact h4
  · rename_i hp
    rw [if_neg hp] at h
    simp at h

theorem signF_at (l : List UInt8) : ∀ (gs : List (List UInt8)), (signF l gs).e = 0 → ∃ g ∈ gs, Lib.hasPrefix l g = true ∧ signF l gs = ⟨4, g, 0, g.length, 0⟩
  | [], h => by simp [signF, badT] at h
  | g :: r, h => by
    unfold signF at h ⊢
    split
    · rename_i hp
      exact ⟨g, by simp, hp, rfl⟩
    · rename_i hp
      rw [if_neg hp] at h
      obtain ⟨g2, h1, h2⟩ := signF_at l r h
      exact ⟨g2, by simp [h1], h2⟩

theorem sgns_all : ∀ g ∈ sgns, 1 ≤ g.length ∧ ∀ j, j < g.length → (g.getD j 0).toNat < 128 := by decide

/-- A token goes at least one byte, and to the end of a rune. -/
theorem tok_far (l : List UInt8) (hne : l ≠ []) (h : (tokL l).e = 0) : 1 ≤ (tokL l).z ∧ (tokL l).z ≤ l.length ∧ (l.getD ((tokL l).z - 1) 0).toNat < 128 := by
  have row : ∀ (p : UInt8 → Bool), p (l.getD 0 0) = true → (∀ b, p b = true → b.toNat < 128) → 1 ≤ (l.takeWhile p).length ∧ (l.takeWhile p).length ≤ l.length ∧ (l.getD ((l.takeWhile p).length - 1) 0).toNat < 128 := by
    intro p h0 hp
    have h1 : 1 ≤ (l.takeWhile p).length := by
      cases l with
      | nil => exact absurd rfl hne
      | cons b t =>
        have : p b = true := h0
        rw [List.takeWhile_cons, if_pos this, List.length_cons]
        omega
    exact ⟨h1, tw_len p l, hp _ (last_takeWhile p l _ (by omega))⟩
  unfold tokL at h ⊢
  split
  · rename_i hb
    rw [if_pos hb] at h
    unfold nameT at h ⊢
    split
    · rename_i h12
      rw [if_pos h12] at h
      simp [badT] at h
    · refine row nmB ?_ (fun b => nmB_low)
      rw [nmB]
      rw [letB] at hb
      rw [hb]
      rfl
  · rename_i hb
    rw [if_neg hb] at h
    split
    · rename_i hd
      rw [if_pos hd] at h
      unfold longT at h ⊢
      split
      · exact row dgB hd (fun b => dgB_low)
      · rename_i h0
        rw [if_neg h0] at h
        exact absurd h h0
    · rename_i hd
      rw [if_neg hd] at h
      split
      · rename_i h34
        rw [if_pos h34] at h
        unfold strT at h ⊢
        split
        · rename_i h0
          rw [if_pos h0] at h
          split
          · rename_i h30
            rw [if_pos h30] at h
            simp [badT] at h
          · obtain ⟨z, h1, h2, h3, h4⟩ := rd_last l h0
            rw [h3]
            refine ⟨h1, h2, ?_⟩
            show (l.getD (z - 1) 0).toNat < 128
            rw [h4]
            decide
        · rename_i h0
          rw [if_neg h0] at h
          exact absurd h h0
      · rename_i h34
        rw [if_neg h34] at h
        obtain ⟨g, hg, hp, e⟩ := signF_at l sgns h
        unfold signT
        rw [e]
        obtain ⟨t, rfl⟩ := hasPrefix_get hp
        obtain ⟨h1, h2⟩ := sgns_all g hg
        refine ⟨h1, by simp, ?_⟩
        show ((g ++ t).getD (g.length - 1) 0).toNat < 128
        rw [show (g ++ t).getD (g.length - 1) 0 = g.getD (g.length - 1) 0 by simp [List.getD_eq_getElem?_getD, List.getElem?_append_left (show g.length - 1 < g.length by omega)]]
        exact h2 _ (by omega)

theorem gap_far (l : List UInt8) (hne : l ≠ []) : gapL l ≤ l.length ∧ ((0 < gapL l → (l.getD (gapL l - 1) 0).toNat < 128) ∨ gapL l = l.length ∨ (l.getD (gapL l) 0).toNat < 128) := by
  have hl : 0 < l.length := List.length_pos_iff.2 hne
  unfold gapL
  split
  · rename_i hb
    refine ⟨hl, .inl fun _ => ?_⟩
    show (l.getD 0 0).toNat < 128
    simp only [blkR, Bool.or_eq_true, decide_eq_true_eq] at hb
    omega
  · split
    · refine ⟨tw_len _ l, ?_⟩
      rcases takeWhile_end lnB l with h1 | h1
      · exact .inr (.inl h1)
      · refine .inr (.inr ?_)
        simp only [lnB, Bool.not_eq_false', decide_eq_true_eq] at h1
        omega
    · exact ⟨Nat.zero_le _, .inl fun h => by omega⟩

theorem toksF_fuel : ∀ (f : Nat) (l : List UInt8) (a : Nat) (acc : List Tok) (g : Nat), l.length < f → l.length < g → toksF f l a acc = toksF g l a acc
  | 0, l, a, acc, g, hf, _ => by omega
  | f + 1, l, a, acc, 0, _, hg => by omega
  | f + 1, l, a, acc, g + 1, hf, hg => by
    rw [toksF, toksF]
    split
    · rfl
    · rename_i hne
      have hl : 0 < l.length := List.length_pos_iff.2 hne
      split
      · exact toksF_fuel f _ _ _ g (by rw [List.length_drop]; omega) (by rw [List.length_drop]; omega)
      · split
        · rename_i h0
          have := tok_far l hne h0
          split
          · rfl
          · exact toksF_fuel f _ _ _ g (by rw [List.length_drop]; omega) (by rw [List.length_drop]; omega)
        · rfl

theorem toksL_nil (a : Nat) (acc : List Tok) : toksL [] a acc = (acc, 0) := rfl
theorem toksL_gap {l : List UInt8} (a : Nat) (acc : List Tok) (hne : l ≠ []) (h : 0 < gapL l) : toksL l a acc = toksL (l.drop (gapL l)) (a + gapL l) acc := by
  have hl : 0 < l.length := List.length_pos_iff.2 hne
  unfold toksL
  rw [toksF, if_neg hne, if_pos h]
  exact toksF_fuel _ _ _ _ _ (by rw [List.length_drop]; omega) (by omega)
theorem toksL_err {l : List UInt8} (a : Nat) (acc : List Tok) (hne : l ≠ []) (h : gapL l = 0) (he : (tokL l).e ≠ 0) : toksL l a acc = ([], (tokL l).e) := by
  unfold toksL
  rw [toksF, if_neg hne, if_neg (by omega), if_neg he]
theorem toksL_many {l : List UInt8} (a : Nat) (acc : List Tok) (hne : l ≠ []) (h : gapL l = 0) (he : (tokL l).e = 0) (hm : acc.length = 200) : toksL l a acc = ([], 4) := by
  unfold toksL
  rw [toksF, if_neg hne, if_neg (by omega), if_pos he, if_pos hm]
theorem toksL_tok {l : List UInt8} (a : Nat) (acc : List Tok) (hne : l ≠ []) (h : gapL l = 0) (he : (tokL l).e = 0) (hm : acc.length ≠ 200) :
    toksL l a acc = toksL (l.drop (tokL l).z) (a + (tokL l).z) (acc ++ [⟨(tokL l).k, (tokL l).s, (tokL l).n, a⟩]) := by
  have hl : 0 < l.length := List.length_pos_iff.2 hne
  have := tok_far l hne he
  unfold toksL
  rw [toksF, if_neg hne, if_neg (by omega), if_pos he, if_neg hm]
  exact toksF_fuel _ _ _ _ _ (by rw [List.length_drop]; omega) (by omega)
theorem rdL_len : ∀ (m : Nat) (l acc : List UInt8) (pos : Int), l.length ≤ m → (rdL l acc pos).1.length ≤ acc.length + 4 * l.length := by
  intro m
  induction m with
  | zero =>
    intro l acc pos hm
    have : l = [] := List.length_eq_zero_iff.1 (by omega)
    subst this
    rw [rdL_nil]
    simp
  | succ m ih =>
    intro l acc pos hm
    by_cases hne : l = []
    · subst hne
      rw [rdL_nil]
      simp
    · have hl : 0 < l.length := List.length_pos_iff.2 hne
      rw [rdL_cons l acc pos hne]
      split
      · simp
      · split
        · simp
        · rename_i hb
          split
          · rename_i h0
            have hp := oneL_pos l hne (by simpa using hb) h0
            have h1 := ih (l.drop (oneL l).2.1.toNat) (acc ++ Lib.encodeRune (oneL l).1) (pos + (oneL l).2.1) (by rw [List.length_drop]; omega)
            have h2 := (encodeRune_len (oneL l).1).2
            rw [List.length_drop, List.length_append] at h1
            omega
          · simp
theorem rd_len (l : List UInt8) : (rd l).1.length ≤ 4 * l.length := by
  unfold rd
  split
  · have := rdL_len _ (l.drop 1) [] 1 (Nat.le_refl _)
    rw [List.length_drop] at this
    simp only [List.length_nil] at this
    omega
  · simp

def Tok.cells (t : Tok) : List Value := [.int .i64 t.k, .string ⟨t.s.toArray⟩, .int .i64 t.n, .int .i64 t.p]
def cellsT (l : List Tok) : List Value := l.flatMap Tok.cells
theorem cellsT_snoc (l : List Tok) (t : Tok) : cellsT (l ++ [t]) = cellsT l ++ t.cells := by simp [cellsT]
end Go.Proofs.Ythmmplmppchfmaa

namespace Go.Proofs.Ythmmplmppchfmaa
open Go

/-- A tree: its operation, truth, number, text, uid, kids. -/
inductive Ex where
  | mk (k : Int) (b : Bool) (n : Int) (s t i : List UInt8) (l : List Ex)

abbrev Rs (α : Type) := Option (α × List Tok)
abbrev Pr (α : Type) := List Tok → Rs α

def tok0 : Tok := ⟨0, [], 0, 0⟩
def hd (ts : List Tok) (j : Nat) : Tok := ts.getD j tok0
/-- Does this token stand there? -/
def isT (k : Int) (x : List UInt8) (ts : List Tok) : Bool := decide ((hd ts 0).k = k) && decide ((hd ts 0).s = x)
def sg (x : List UInt8) (ts : List Tok) : Bool := isT 4 x ts
def wd (x : List UInt8) (ts : List Tok) : Bool := isT 1 x ts
def needS (x : List UInt8) (ts : List Tok) : Option (List Tok) := if sg x ts then some ts.tail else none
def needW (x : List UInt8) (ts : List Tok) : Option (List Tok) := if wd x ts then some ts.tail else none
def need (k : Int) : Pr Tok := fun ts => if (hd ts 0).k = k then some (hd ts 0, ts.tail) else none
def atUid (ts : List Tok) : Bool := decide ((hd ts 0).k = 1) && (decide ((hd ts 1).k = 4) && decide ((hd ts 1).s = [58, 58]))

def eLong (n : Int) : Ex := .mk 2 false n [] [] [] []
def eStr (s : List UInt8) : Ex := .mk 3 false 0 s [] [] []
def eBool (b : Bool) : Ex := .mk 1 b 0 [] [] [] []
def eVar (s : List UInt8) : Ex := .mk 5 false 0 s [] [] []
def eUid (t i : List UInt8) : Ex := .mk 4 false 0 [] t i []
def eOp (k : Int) (l : List Ex) : Ex := .mk k false 0 [] [] [] l
def eTx (k : Int) (s : List UInt8) (l : List Ex) : Ex := .mk k false 0 s [] [] l

def cTrue : List UInt8 := [116, 114, 117, 101]
def cFalse : List UInt8 := [102, 97, 108, 115, 101]
def cPrincipal : List UInt8 := [112, 114, 105, 110, 99, 105, 112, 97, 108]
def cAction : List UInt8 := [97, 99, 116, 105, 111, 110]
def cResource : List UInt8 := [114, 101, 115, 111, 117, 114, 99, 101]
def cContains : List UInt8 := [99, 111, 110, 116, 97, 105, 110, 115]
def cHas : List UInt8 := [104, 97, 115]
def cLike : List UInt8 := [108, 105, 107, 101]
def cIf : List UInt8 := [105, 102]
def cThen : List UInt8 := [116, 104, 101, 110]
def cElse : List UInt8 := [101, 108, 115, 101]
def cIn : List UInt8 := [105, 110]
def isVar (s : List UInt8) : Bool := decide (s = cPrincipal) || (decide (s = cAction) || decide (s = cResource))

def uidP : Pr (List UInt8 × List UInt8) := fun ts =>
  (need 1 ts).bind fun a => (needS [58, 58] a.2).bind fun r => (need 3 r).map fun b => ((a.1.s, b.1.s), b.2)

def wordOf (a : List UInt8) (r : List Tok) : Rs Ex := if a = cTrue then some (eBool true, r) else if a = cFalse then some (eBool false, r) else if isVar a then some (eVar a, r) else none
def wordedP : Pr Ex := fun ts => (need 1 ts).bind fun a => wordOf a.1.s a.2
def leafP : Pr Ex := fun ts =>
  if (hd ts 0).k = 2 then some (eLong (hd ts 0).n, ts.tail) else if (hd ts 0).k = 3 then some (eStr (hd ts 0).s, ts.tail) else wordedP ts

def listL {α : Type} (E : Pr α) : Nat → List α → Pr (List α)
  | 0, _, _ => none
  | n + 1, acc, ts => if sg [44] ts then (E ts.tail).bind fun p => listL E n (acc ++ [p.1]) p.2 else some (acc, ts)
def listOfP {α : Type} (E : Pr α) : Pr (List α) := fun ts => (E ts).bind fun p => listL E (p.2.length + 1) [p.1] p.2
def listUpP {α : Type} (E : Pr α) (z : List UInt8) : Pr (List α) := fun ts =>
  if sg z ts then some ([], ts.tail) else (listOfP E ts).bind fun p => (needS z p.2).map fun r => (p.1, r)

def primP (E : Pr Ex) : Pr Ex := fun ts =>
  if atUid ts then (uidP ts).map fun u => (eUid u.1.1 u.1.2, u.2)
  else if sg [40] ts then (E ts.tail).bind fun p => (needS [41] p.2).map fun r => (p.1, r)
  else if sg [91] ts then (listUpP E [93] ts.tail).map fun p => (eOp 6 p.1, p.2)
  else leafP ts

/-- What stands behind a dot. -/
def memberP (E : Pr Ex) (of : Ex) : Pr Ex := fun ts =>
  (need 1 ts).bind fun a => if sg [40] a.2 then (if a.1.s = cContains then (E a.2.tail).bind fun p => (needS [41] p.2).map fun r => (eOp 9 [of, p.1], r) else none) else some (eTx 7 a.1.s [of], a.2)
def memL (E : Pr Ex) : Nat → Ex → Pr Ex
  | 0, _, _ => none
  | n + 1, x, ts => if sg [46] ts then (memberP E x ts.tail).bind fun p => memL E n p.1 p.2 else some (x, ts)
def memP (E : Pr Ex) : Pr Ex := fun ts => (primP E ts).bind fun p => memL E (p.2.length + 1) p.1 p.2

def op1 (k : Int) (o : Rs Ex) : Rs Ex := o.map fun p => (eOp k [p.1], p.2)
def unN (E : Pr Ex) : Nat → Pr Ex
  | 0, _ => none
  | n + 1, ts => if sg [33] ts then op1 11 (unN E n ts.tail) else if sg [45] ts then op1 12 (unN E n ts.tail) else memP E ts
def unP (E : Pr Ex) : Pr Ex := fun ts => unN E (ts.length + 1) ts

/-- Which of these signs stands there: its operation. -/
def pickT : List (Int × List UInt8 × Int) → List Tok → Option Int
  | [], _ => none
  | (k, x, op) :: l, ts => if isT k x ts then some op else pickT l ts
/-- Two of a level, and more, leaning to the left. -/
def binL (l : List (Int × List UInt8 × Int)) (E : Pr Ex) : Nat → Ex → Pr Ex
  | 0, _, _ => none
  | n + 1, x, ts => match pickT l ts with
    | none => some (x, ts)
    | some op => (E ts.tail).bind fun p => binL l E n (eOp op [x, p.1]) p.2
def binP (l : List (Int × List UInt8 × Int)) (E : Pr Ex) : Pr Ex := fun ts => (E ts).bind fun p => binL l E (p.2.length + 1) p.1 p.2

def sMul : List (Int × List UInt8 × Int) := [(4, [42], 13)]
def sAdd : List (Int × List UInt8 × Int) := [(4, [43], 14), (4, [45], 15)]
def sAnd : List (Int × List UInt8 × Int) := [(4, [38, 38], 23)]
def sOr : List (Int × List UInt8 × Int) := [(4, [124, 124], 24)]
def sCmp : List (Int × List UInt8 × Int) := [(4, [61, 61], 20), (4, [33, 61], 21), (4, [60], 16), (4, [60, 61], 17), (4, [62], 18), (4, [62, 61], 19), (1, cIn, 22)]

def mulP (E : Pr Ex) : Pr Ex := binP sMul (unP E)
def addP (E : Pr Ex) : Pr Ex := binP sAdd (mulP E)
def op2 (k : Int) (x : Ex) (o : Rs Ex) : Rs Ex := o.map fun p => (eOp k [x, p.1], p.2)
/-- What may stand behind a sum. -/
def relT (E : Pr Ex) (x : Ex) : Pr Ex := fun ts =>
  match pickT sCmp ts with
  | some op => op2 op x (addP E ts.tail)
  | none => if wd cHas ts then (need 1 ts.tail).map fun a => (eTx 8 a.1.s [x], a.2)
    else if wd cLike ts then (need 3 ts.tail).map fun a => (eTx 10 a.1.s [x], a.2)
    else some (x, ts)
def relP (E : Pr Ex) : Pr Ex := fun ts => (addP E ts).bind fun p => relT E p.1 p.2
def andP (E : Pr Ex) : Pr Ex := binP sAnd (relP E)
def orP (E : Pr Ex) : Pr Ex := binP sOr (andP E)
def ifP (E : Pr Ex) : Pr Ex := fun ts =>
  (E ts).bind fun a => (needW cThen a.2).bind fun r => (E r).bind fun b => (needW cElse b.2).bind fun r => (E r).map fun c => (eOp 25 [a.1, b.1, c.1], c.2)
def exprP (E : Pr Ex) : Pr Ex := fun ts => if atUid ts || !wd cIf ts then orP E ts else ifP E ts.tail
def exprN : Nat → Pr Ex
  | 0 => fun _ => none
  | n + 1 => exprP (exprN n)

/-! ## How deep, and whether it may be. -/

mutual
def depE : Ex → Nat
  | .mk _ _ _ _ _ _ l => depL l + 1
def depL : List Ex → Nat
  | [] => 0
  | e :: l => max (depE e) (depL l)
end

/-- How many kids; -1: any; -2: no such operation. -/
def ary (k : Int) : Int :=
  if k = 6 then -1 else if k = 25 then 3 else if 1 ≤ k ∧ k ≤ 5 then 0 else if k = 7 ∨ k = 8 ∨ k = 10 ∨ k = 11 ∨ k = 12 then 1 else if 9 ≤ k ∧ k ≤ 24 then 2 else -2
def txOp (k : Int) : Bool := decide (k = 3 ∨ k = 5 ∨ k = 7 ∨ k = 8 ∨ k = 10)
/-- Is there more in it than its operation's own? -/
def moreE (k : Int) (b : Bool) (n : Int) (s t i : List UInt8) : Bool :=
  (!decide (k = 1) && b) || (!decide (k = 2) && !decide (n = 0)) || (!txOp k && !decide (s = [])) || (!decide (k = 4) && (!decide (t = []) || !decide (i = []))) || decide (n < 0)
def txtE (s : List UInt8) : Int := if okL s then (if 30 < (runes s).length then 5 else 0) else 11
def uidE (t i : List UInt8) : Int := if nameB t then txtE i else 15
def ownE (k : Int) (s t i : List UInt8) (m : Nat) : Int :=
  if k = 3 ∨ k = 10 then txtE s else if k = 4 then uidE t i else if k = 5 then (if isVar s then 0 else 15) else if k = 7 ∨ k = 8 then (if nameB s then 0 else 15) else if k = 6 then (if 8 < m then 4 else 0) else 0
def nodeE (k : Int) (b : Bool) (n : Int) (s t i : List UInt8) (m : Nat) : Int :=
  if ary k = -2 then 3 else if ary k ≠ -1 ∧ ary k ≠ m then 13 else if moreE k b n s t i then 1 else ownE k s t i m
mutual
def nodesE : Ex → Int
  | .mk k b n s t i l => if nodeE k b n s t i l.length = 0 then nodesL l else nodeE k b n s t i l.length
def nodesL : List Ex → Int
  | [] => 0
  | e :: l => if nodesE e = 0 then nodesL l else nodesE e
end
def checkE (e : Ex) : Int := if nodesE e = 0 then (if 10 < depE e then 14 else 0) else nodesE e

def noE : Ex := .mk 0 false 0 [] [] [] []
/-- parse.Expr, plain. -/
def parseT (ts : List Tok) : Ex × Int :=
  match exprN (ts.length + 1) ts with
  | some (x, []) => if checkE x = 0 then (x, 0) else (noE, checkE x)
  | _ => (noE, 13)
def parseE (s : List UInt8) : Ex × Int := if (toks s).2 = 0 then parseT (toks s).1 else (noE, (toks s).2)

/-! ## Nothing is read twice. -/

def Short {α : Type} (E : Pr α) : Prop := ∀ ts x r, E ts = some (x, r) → r.length ≤ ts.length
theorem tail_le (ts : List Tok) : ts.tail.length ≤ ts.length := by simp
theorem needS_short {x : List UInt8} {ts r : List Tok} (h : needS x ts = some r) : r.length ≤ ts.length := by
  unfold needS at h
  split at h
  · cases h; exact tail_le ts
  · cases h
theorem needW_short {x : List UInt8} {ts r : List Tok} (h : needW x ts = some r) : r.length ≤ ts.length := by
  unfold needW at h
  split at h
  · cases h; exact tail_le ts
  · cases h
theorem need_short (k : Int) : Short (need k) := by
  intro ts x r h
  unfold need at h
  split at h
  · cases h; exact tail_le ts
  · cases h
end Go.Proofs.Ythmmplmppchfmaa

namespace Go.Proofs.Ythmmplmppchfmaa
open Go.RowKit

/-! ## Trees. -/

mutual
/-- The seven cells r say the tree e; what hangs on them lies in blocks of which P holds. -/
def IsE (w : World) (P : Nat → Prop) : R7 → Ex → Prop
  | r, .mk k b n s t i l => r.k = k ∧ r.b = b ∧ r.n = n ∧ r.s = ba s ∧ r.t = ba t ∧ r.i = ba i ∧ r.ll = l.length ∧ IsEs w P r.lo 0 l
def IsEs (w : World) (P : Nat → Prop) : Option Addr → Nat → List Ex → Prop
  | _, _, [] => True
  | lo, j, e :: l => (∃ r b off, lo = some ⟨b, off, none⟩ ∧ P b ∧ b < w.heap.size ∧ At7 w b (off + j * 7) r ∧ IsE w P r e) ∧ IsEs w P lo (j + 1) l
end

theorem At7.same {w w' : World} {b o : Nat} {r : R7} (h : At7 w b o r) (hb : w'.heap[b]? = w.heap[b]?) : At7 w' b o r := by
  have hc : ∀ o, w'.cell? ⟨b, o, none⟩ = w.cell? ⟨b, o, none⟩ := fun o => World.cell?_of_block (w := w) hb
  exact ⟨(hc _).trans h.c0, (hc _).trans h.c1, (hc _).trans h.c2, (hc _).trans h.c3, (hc _).trans h.c4, (hc _).trans h.c5, (hc _).trans h.c6⟩

mutual
theorem IsE.turn {w w' : World} {P P' : Nat → Prop} (hs : w.heap.size ≤ w'.heap.size) (hb : ∀ b, P b → b < w.heap.size → w'.heap[b]? = w.heap[b]? ∧ P' b) : ∀ (r : R7) (e : Ex), IsE w P r e → IsE w' P' r e
  | r, .mk _ _ _ _ _ _ l, h => by
    unfold IsE at h ⊢
    obtain ⟨h1, h2, h3, h4, h5, h6, h7, h8⟩ := h
    exact ⟨h1, h2, h3, h4, h5, h6, h7, IsEs.turn hs hb r.lo 0 l h8⟩
theorem IsEs.turn {w w' : World} {P P' : Nat → Prop} (hs : w.heap.size ≤ w'.heap.size) (hb : ∀ b, P b → b < w.heap.size → w'.heap[b]? = w.heap[b]? ∧ P' b) : ∀ (lo : Option Addr) (j : Nat) (l : List Ex), IsEs w P lo j l → IsEs w' P' lo j l
  | _, _, [], _ => by unfold IsEs; trivial
  | lo, j, e :: l, h => by
    unfold IsEs at h ⊢
    obtain ⟨⟨r, b, off, h1, h2, h3, h4, h5⟩, h6⟩ := h
    obtain ⟨k1, k2⟩ := hb b h2 h3
    exact ⟨⟨r, b, off, h1, k2, by omega, h4.same k1, IsE.turn hs hb r e h5⟩, IsEs.turn hs hb lo (j + 1) l h6⟩
end
theorem blk7 {w : World} {b : Nat} {v0 v1 v2 v3 v4 v5 v6 : Value} {T : TypeId} (h : w.heap[b]? = some (.cells #[v0, v1, v2, v3, v4, v5, v6] T (0, 0))) :
    w.cell? ⟨b, 0, none⟩ = some v0 ∧ w.cell? ⟨b, 1, none⟩ = some v1 ∧ w.cell? ⟨b, 2, none⟩ = some v2 ∧ w.cell? ⟨b, 3, none⟩ = some v3 ∧ w.cell? ⟨b, 4, none⟩ = some v4 ∧ w.cell? ⟨b, 5, none⟩ = some v5 ∧ w.cell? ⟨b, 6, none⟩ = some v6 ∧ ∀ o, w.frozen? ⟨b, o, none⟩ = false :=
  ⟨by rw [Lib.cell_of_heap h]; rfl, by rw [Lib.cell_of_heap h]; rfl, by rw [Lib.cell_of_heap h]; rfl, by rw [Lib.cell_of_heap h]; rfl, by rw [Lib.cell_of_heap h]; rfl, by rw [Lib.cell_of_heap h]; rfl, by rw [Lib.cell_of_heap h]; rfl, fun o => Lib.frozen_of_heap h o⟩
theorem IsEs.get {w : World} {P : Nat → Prop} {lo : Option Addr} : ∀ (l : List Ex) (j0 j : Nat) (hj : j < l.length), IsEs w P lo j0 l → ∃ r b off, lo = some ⟨b, off, none⟩ ∧ b < w.heap.size ∧ At7 w b (off + (j0 + j) * 7) r ∧ IsE w P r l[j]
  | [], _, j, hj, _ => by simp at hj
  | e :: l, j0, 0, _, h => by
    unfold IsEs at h
    obtain ⟨⟨r, b, off, h1, _, h3, h4, h5⟩, _⟩ := h
    exact ⟨r, b, off, h1, h3, h4, h5⟩
  | e :: l, j0, j + 1, hj, h => by
    unfold IsEs at h
    obtain ⟨r, b, off, h1, h2, h3, h4⟩ := IsEs.get l (j0 + 1) j (by simpa using hj) h.2
    exact ⟨r, b, off, h1, h2, by rw [show j0 + (j + 1) = j0 + 1 + j by omega]; exact h3, h4⟩
theorem depL_get : ∀ (l : List Ex) (j : Nat) (h : j < l.length), depE l[j] ≤ depL l
  | [], j, h => by simp at h
  | e :: l, 0, _ => by
    show depE e ≤ depL (e :: l)
    unfold depL
    exact Nat.le_max_left _ _
  | e :: l, j + 1, hj => by
    have := depL_get l j (by simpa using hj)
    show depE (l[j]'(by simpa using hj)) ≤ depL (e :: l)
    unfold depL
    exact Nat.le_trans this (Nat.le_max_right _ _)
theorem kid0 {w : World} {P : Nat → Prop} {r : R7} {k : Int} {b : Bool} {n : Int} {s t i : List UInt8} {x : Ex} {l : List Ex} (h : IsE w P r (.mk k b n s t i (x :: l))) : ∃ r' g off, r.lo = some ⟨g, off, none⟩ ∧ g < w.heap.size ∧ At7 w g off r' ∧ IsE w P r' x := by
  unfold IsE IsEs at h
  obtain ⟨_, _, _, _, _, _, _, ⟨r', g, off, h1, _, h3, h4, h5⟩, _⟩ := h
  exact ⟨r', g, off, h1, h3, by simpa using h4, h5⟩
theorem kid1 {w : World} {P : Nat → Prop} {r : R7} {k : Int} {b : Bool} {n : Int} {s t i : List UInt8} {y x : Ex} {l : List Ex} (h : IsE w P r (.mk k b n s t i (y :: x :: l))) : ∃ r' g off, r.lo = some ⟨g, off, none⟩ ∧ g < w.heap.size ∧ At7 w g (off + 7) r' ∧ IsE w P r' x := by
  unfold IsE IsEs at h
  obtain ⟨_, _, _, _, _, _, _, _, h⟩ := h
  unfold IsEs at h
  obtain ⟨⟨r', g, off, h1, _, h3, h4, h5⟩, _⟩ := h
  exact ⟨r', g, off, h1, h3, by simpa using h4, h5⟩
theorem top {w : World} {P : Nat → Prop} {r : R7} {k : Int} {b : Bool} {n : Int} {s t i : List UInt8} {l : List Ex} (h : IsE w P r (.mk k b n s t i l)) : r.k = k ∧ r.n = n ∧ r.ll = l.length := by
  unfold IsE at h
  exact ⟨h.1, h.2.2.1, h.2.2.2.2.2.2.1⟩

theorem newS (w : World) (o : Obj) : Below w.heap.size w (w.alloc o) := (Below.refl _ w).alloc (Nat.le_refl _) o
end Go.Proofs.Ythmmplmppchfmaa
