/-
  Plain facts: what reading a quoted text comes to, byte by byte (no program in it).
  Plain facts: what is quoted is read back; quoting byte by byte is quoting rune by rune (no program in it).
  Plain facts on numbers of 64 bits (no program in it): what is answered of a number, and its error.
  Plain facts on the texts of numbers (no program in it): what is a number, what it says, and that what is written is read again.
-/
import Derived.Test.YtckjafmnaffggaaEncP
import Derived.Test.YtckjafmnaffggaaProg
import Derived.Test.YtckjafmnaffggaaPlain
import Derived.WalkKit
import Derived.WalkSpells
import Derived.Lib.ItoaNum
import Derived.Lib.ItoaMem
import Derived.Lib.MapLaws
import Derived.Lib.Strings
import Derived.Lib.RuneBytes
import Derived.Lib.IndexMore
namespace Go.Proofs.Ytckjafmnaffggaa
open Go

/-- What a hexadecimal digit counts, of a rune; and whether it is one. -/
def digV (r : Int) : Int := if 48 ≤ r ∧ r ≤ 57 then r - 48 else if 97 ≤ r ∧ r ≤ 102 then r - 87 else if 65 ≤ r ∧ r ≤ 70 then r - 55 else 0
def digQ (r : Int) : Bool := decide ((48 ≤ r ∧ r ≤ 57) ∨ (97 ≤ r ∧ r ≤ 102) ∨ (65 ≤ r ∧ r ≤ 70))
theorem digV_lt (r : Int) : 0 ≤ digV r ∧ digV r < 16 := by
  unfold digV
  repeat' split
  all_goals omega

/-- The digits up to the closing brace: k of them are read, they count n: the rune, how many bytes, the error. -/
def digL : Nat → Int → List UInt8 → Int × Int × Int
  | _, _, [] => (0, 0, 12)
  | k, n, c :: t =>
    if c = 125 ∧ 0 < k then (if Lib.validRune n then (n, (k : Int) + 1, 0) else (0, 0, 11))
    else if digQ c.toNat ∧ k ≠ 6 then digL (k + 1) (16 * n + digV c.toNat) t
    else (0, 0, 12)

/-- An escape, with whose backslash the bytes begin. -/
def escL (l : List UInt8) : Int × Int × Int :=
  if Lib.hasPrefix l [92, 117, 123] then
    (if (digL 0 0 (l.drop 3)).2.2 = 0 then ((digL 0 0 (l.drop 3)).1, 3 + (digL 0 0 (l.drop 3)).2.1, 0) else (0, 0, (digL 0 0 (l.drop 3)).2.2))
  else if l.length < 2 then (0, 0, 12)
  else if l.getD 1 0 = 92 ∨ l.getD 1 0 = 34 then ((l.getD 1 0).toNat, 2, 0)
  else if l.getD 1 0 = 110 then (10, 2, 0)
  else if l.getD 1 0 = 116 then (9, 2, 0)
  else (0, 0, 12)

/-- One rune, or one escape. -/
def oneL (l : List UInt8) : Int × Int × Int :=
  if (Lib.decodeL l).1 < 32 then (0, 0, 12)
  else if (Lib.decodeL l).1 = 92 then escL l
  else ((Lib.decodeL l).1, Lib.runeLen (Lib.decodeL l).1, 0)

/-- Behind the opening sign: what is meant so far, at which place. -/
def readF : Nat → List UInt8 → List UInt8 → Int → List UInt8 × Int × Int
  | 0, _, _, _ => ([], 0, 12)
  | f + 1, l, acc, pos =>
    if l = [] then ([], 0, 12)
    else if (Lib.decodeL l).1 = 34 then (acc, pos + 1, 0)
    else if badHead l then ([], 0, 11)
    else if (oneL l).2.2 = 0 then readF f (l.drop (oneL l).2.1.toNat) (acc ++ Lib.encodeRune (oneL l).1) (pos + (oneL l).2.1)
    else ([], 0, (oneL l).2.2)

theorem digL_pos : ∀ (l : List UInt8) (k : Nat) (n : Int), (digL k n l).2.2 = 0 → 1 ≤ (digL k n l).2.1 ∧ (digL k n l).2.1 ≤ (k : Int) + l.length ∧ Lib.validRune (digL k n l).1 = true
  | [], k, n, h => by
    unfold digL at h
    cases h
  | c :: t, k, n, h => by
    unfold digL at h ⊢
    split
    · rename_i h1
      rw [if_pos h1] at h
      split
      · rename_i h2
        refine ⟨by show (1 : Int) ≤ (k : Int) + 1; omega, ?_, h2⟩
        show (k : Int) + 1 ≤ (k : Int) + ((c :: t).length : Nat)
        rw [List.length_cons]
        omega
      · rename_i h2
        rw [if_neg h2] at h
        cases h
    · rename_i h1
      rw [if_neg h1] at h
      split
      · rename_i h2
        rw [if_pos h2] at h
        obtain ⟨a, b, c'⟩ := digL_pos t (k + 1) _ h
        refine ⟨a, ?_, c'⟩
        rw [List.length_cons]
        omega
      · rename_i h2
        rw [if_neg h2] at h
        cases h

theorem escL_pos (l : List UInt8) (h : (escL l).2.2 = 0) : 1 ≤ (escL l).2.1 ∧ (escL l).2.1 ≤ l.length ∧ Lib.validRune (escL l).1 = true := by
  unfold escL at h ⊢
  split
  · rename_i h1
    rw [if_pos h1] at h
    have hl : 3 ≤ l.length := by
      unfold Lib.hasPrefix at h1
      rw [List.isPrefixOf_iff_prefix] at h1
      have := h1.length_le
      simpa using this
    split
    · rename_i h2
      obtain ⟨a, b, c⟩ := digL_pos _ _ _ h2
      rw [List.length_drop] at b
      refine ⟨by show (1 : Int) ≤ 3 + (digL 0 0 (l.drop 3)).2.1; omega, by show 3 + (digL 0 0 (l.drop 3)).2.1 ≤ _; omega, c⟩
    · rename_i h2
      rw [if_neg h2] at h
      exact absurd h h2
  · rename_i h1
    rw [if_neg h1] at h
    split
    · rename_i h2
      rw [if_pos h2] at h
      cases h
    · rename_i h2
      rw [if_neg h2] at h
      split
      · rename_i h3
        refine ⟨by show (1 : Int) ≤ 2; decide, by show (2 : Int) ≤ _; omega, ?_⟩
        rcases h3 with e | e
        · show Lib.validRune ((l.getD 1 0).toNat : Int) = true
          rw [e]
          decide
        · show Lib.validRune ((l.getD 1 0).toNat : Int) = true
          rw [e]
          decide
      · rename_i h3
        rw [if_neg h3] at h
        split
        · exact ⟨by decide, by show (2 : Int) ≤ _; omega, by decide⟩
        · rename_i h4
          rw [if_neg h4] at h
          split
          · exact ⟨by decide, by show (2 : Int) ≤ _; omega, by decide⟩
          · rename_i h5
            rw [if_neg h5] at h
            cases h

theorem runeLen_dec (l : List UInt8) (hb : badHead l = false) : Lib.runeLen ((Lib.decodeL l).1 : Int) = ((Lib.decodeL l).2 : Int) := by
  by_cases h : (Lib.decodeL l).1 = 65533
  · have h3 : (Lib.decodeL l).2 = 3 := by
      have h1 := h
      rw [Lib.decodeL_N] at h1 ⊢
      have k0 := (l.getD 0 0).toNat_lt
      have k1 := (l.getD 1 0).toNat_lt
      have k2 := (l.getD 2 0).toNat_lt
      have k3 := (l.getD 3 0).toNat_lt
      have hb2 := hb
      unfold badHead at hb2
      rw [Lib.decodeL_N] at hb2
      rcases Lib.decodeN_shape l.length (l.getD 0 0).toNat (l.getD 1 0).toNat (l.getD 2 0).toNat (l.getD 3 0).toNat with ⟨c, e⟩ | ⟨c1, c2, c3, cv, e⟩ | ⟨c1, c2, c3, c4, cv, cs, e⟩ | ⟨c1, c2, c3, c4, c5, cv, cw, e⟩ | e
      · rw [e] at h1; simp only [] at h1; omega
      · rw [e] at h1; simp only [] at h1; omega
      · rw [e]
      · rw [e] at h1; simp only [] at h1; omega
      · rw [e] at hb2; cases hb2
    rw [h, h3]
    decide
  · exact Lib.runeLen_decode l h

/-- A step that is no error takes bytes, and no more than there are. -/
theorem oneL_pos (l : List UInt8) (hne : l ≠ []) (hb : badHead l = false) (h : (oneL l).2.2 = 0) : 1 ≤ (oneL l).2.1 ∧ (oneL l).2.1 ≤ l.length ∧ Lib.validRune (oneL l).1 = true := by
  unfold oneL at h ⊢
  split
  · rename_i h1
    rw [if_pos h1] at h
    cases h
  · rename_i h1
    rw [if_neg h1] at h
    split
    · rename_i h2
      rw [if_pos h2] at h
      exact escL_pos l h
    · have h3 := dec_pos l
      have h4 := Lib.decodeL_le l hne
      rw [runeLen_dec l hb]
      exact ⟨by show (1 : Int) ≤ ((Lib.decodeL l).2 : Int); omega, by show ((Lib.decodeL l).2 : Int) ≤ _; omega, dec_valid l⟩

theorem readF_fuel : ∀ (f : Nat) (l acc : List UInt8) (pos : Int) (g : Nat), l.length < f → l.length < g → readF f l acc pos = readF g l acc pos
  | 0, l, acc, pos, g, hf, _ => by omega
  | f + 1, l, acc, pos, 0, _, hg => by omega
  | f + 1, l, acc, pos, g + 1, hf, hg => by
    rw [readF, readF]
    split
    · rfl
    · rename_i hne
      split
      · rfl
      · split
        · rfl
        · rename_i hb
          split
          · rename_i h0
            have hp := oneL_pos l hne (by simpa using hb) h0
            have hl : 0 < l.length := List.length_pos_iff.2 hne
            exact readF_fuel f _ _ _ g (by rw [List.length_drop]; omega) (by rw [List.length_drop]; omega)
          · rfl

/-- The reading, with as much fuel as it wants. -/
def rdL (l acc : List UInt8) (pos : Int) : List UInt8 × Int × Int := readF (l.length + 1) l acc pos
theorem rdL_nil (acc : List UInt8) (pos : Int) : rdL [] acc pos = ([], 0, 12) := rfl
theorem rdL_cons (l acc : List UInt8) (pos : Int) (hne : l ≠ []) : rdL l acc pos =
    if (Lib.decodeL l).1 = 34 then (acc, pos + 1, 0)
    else if badHead l then ([], 0, 11)
    else if (oneL l).2.2 = 0 then rdL (l.drop (oneL l).2.1.toNat) (acc ++ Lib.encodeRune (oneL l).1) (pos + (oneL l).2.1)
    else ([], 0, (oneL l).2.2) := by
  unfold rdL
  rw [readF, if_neg hne]
  split
  · rfl
  · split
    · rfl
    · rename_i hb
      split
      · rename_i h0
        have hp := oneL_pos l hne (by simpa using hb) h0
        have hl : 0 < l.length := List.length_pos_iff.2 hne
        exact readF_fuel _ _ _ _ _ (by rw [List.length_drop]; omega) (by omega)
      · rfl
theorem digL_ascii : ∀ (l : List UInt8) (k : Nat) (n : Int), (digL k n l).2.2 = 0 → ∀ j : Nat, (k : Int) + j < (digL k n l).2.1 → (l.getD j 0).toNat < 128
  | [], k, n, h, j, _ => by
    unfold digL at h
    cases h
  | c :: t, k, n, h, j, hj => by
    unfold digL at h hj
    split at hj
    · rename_i h1
      rw [if_pos h1] at h
      split at hj
      · have hj' : (k : Int) + j < (k : Int) + 1 := hj
        have : j = 0 := by omega
        subst this
        rw [List.getD_cons_zero, h1.1]
        decide
      · rename_i h2
        rw [if_neg h2] at h
        cases h
    · rename_i h1
      rw [if_neg h1] at h
      split at hj
      · rename_i h2
        rw [if_pos h2] at h
        cases j with
        | zero =>
          rw [List.getD_cons_zero]
          have := of_decide_eq_true h2.1
          omega
        | succ j =>
          rw [List.getD_cons_succ]
          exact digL_ascii t (k + 1) _ h j (by omega)
      · rename_i h2
        rw [if_neg h2] at h
        cases h

theorem escL_ascii (l : List UInt8) (h92 : l.getD 0 0 = 92) (h : (escL l).2.2 = 0) (j : Nat) (hj : (j : Int) < (escL l).2.1) : (l.getD j 0).toNat < 128 := by
  have two : ∀ b : UInt8, b.toNat < 128 → l.getD 1 0 = b → (j : Int) < 2 → (l.getD j 0).toNat < 128 := fun b hb he hj2 => by
    match j, hj2 with
    | 0, _ => rw [h92]; decide
    | 1, _ => rw [he]; exact hb
    | j + 2, hj2 => omega
  unfold escL at h hj
  split at hj
  · rename_i h1
    rw [if_pos h1] at h
    have h1' := h1
    unfold Lib.hasPrefix at h1'
    rw [List.isPrefixOf_iff_prefix] at h1'
    obtain ⟨t, rfl⟩ := h1'
    split at hj
    · rename_i h2
      have e3 : ([92, 117, 123] ++ t : List UInt8).drop 3 = t := rfl
      rw [e3] at h2 hj
      have hj' : (j : Int) < 3 + (digL 0 0 t).2.1 := hj
      match j, hj' with
      | 0, _ => show (92 : UInt8).toNat < 128; decide
      | 1, _ => show (117 : UInt8).toNat < 128; decide
      | 2, _ => show (123 : UInt8).toNat < 128; decide
      | j + 3, hj' =>
        show (t.getD j 0).toNat < 128
        exact digL_ascii t 0 0 h2 j (by omega)
    · rename_i h2
      rw [if_neg h2] at h
      exact absurd h h2
  · rename_i h1
    rw [if_neg h1] at h
    split at hj
    · rename_i h2
      rw [if_pos h2] at h
      cases h
    · rename_i h2
      rw [if_neg h2] at h
      split at hj
      · rename_i h3
        rcases h3 with e | e
        · exact two 92 (by decide) e hj
        · exact two 34 (by decide) e hj
      · rename_i h3
        rw [if_neg h3] at h
        split at hj
        · rename_i h4
          exact two 110 (by decide) h4 hj
        · rename_i h4
          rw [if_neg h4] at h
          split at hj
          · rename_i h5
            exact two 116 (by decide) h5 hj
          · rename_i h5
            rw [if_neg h5] at h
            cases h

/-- The same step, its first rune told. -/
def oneX (l : List UInt8) (r : Int) : Int × Int × Int := if r < 32 then (0, 0, 12) else if r = 92 then escL l else (r, Lib.runeLen r, 0)
theorem oneX_eq (l : List UInt8) : oneX l ((Lib.decodeL l).1 : Int) = oneL l := by
  unfold oneX oneL
  by_cases h1 : (Lib.decodeL l).1 < 32
  · rw [if_pos h1, if_pos (by omega)]
  · rw [if_neg h1, if_neg (by omega)]
    by_cases h2 : (Lib.decodeL l).1 = 92
    · rw [if_pos h2, if_pos (by omega)]
    · rw [if_neg h2, if_neg (by omega)]

def rd (l : List UInt8) : List UInt8 × Int × Int := if Lib.hasPrefix l [34] then rdL (l.drop 1) [] 1 else ([], 0, 12)
end Go.Proofs.Ytckjafmnaffggaa

namespace Go.Proofs.Ytckjafmnaffggaa
open Go

/-- Escaping, byte by byte. -/
def bq (c : UInt8) : List UInt8 :=
  if c = 92 ∨ c = 34 then [92, c]
  else if c = 10 then [92, 110]
  else if c = 9 then [92, 116]
  else if c.toNat < 32 ∨ c.toNat = 127 then [92, 117, 123] ++ hexL c.toNat ++ [125]
  else [c]
theorem bq_len (c : UInt8) : (bq c).length ≤ 6 := by
  have h2 := hexL_len c.toNat
  unfold bq
  repeat' split
  all_goals (simp; try omega)

theorem bad_enc {r : Int} (hv : Lib.validRune r = true) (t : List UInt8) : badHead (Lib.encodeRune r ++ t) = false := by
  unfold badHead
  rw [dec_enc hv t]
  obtain ⟨n, rfl, hn⟩ := valid_nat hv
  rw [Int.toNat_natCast]
  by_cases h : n = 65533
  · subst h
    rw [show Lib.encodeRune ((65533 : Nat) : Int) = [239, 191, 189] from by rw [enc3 _ (by omega)]; rfl]
    rfl
  · have : (n == 65533) = false := by simp [h]
    rw [this]
    rfl

theorem bad_low (c : UInt8) (t : List UInt8) (h : c.toNat < 128) : badHead (c :: t) = false := by
  unfold badHead
  rw [dec_ascii c t h]
  have : (c.toNat == 65533) = false := by simp; omega
  show ((c.toNat == 65533) && _) = false
  rw [this]
  rfl

theorem dig_facts : ∀ n : Fin 16, dig n.val ≠ 125 ∧ digQ ((dig n.val).toNat : Int) = true ∧ digV ((dig n.val).toNat : Int) = (n.val : Int) := by decide

theorem digL_hex (n : Nat) (hn : n < 128) (t : List UInt8) : digL 0 0 (hexL n ++ 125 :: t) = ((n : Int), ((hexL n).length + 1 : Int), 0) := by
  have hv : Lib.validRune (n : Int) = true := decide_eq_true (by omega)
  unfold hexL
  by_cases h : n < 16
  · rw [if_pos h]
    obtain ⟨f1, f2, f3⟩ := dig_facts ⟨n, h⟩
    simp only [] at f1 f2 f3
    show digL 0 0 (dig n :: 125 :: t) = _
    unfold digL
    rw [if_neg (by simp [f1]), if_pos ⟨f2, by decide⟩, f3]
    unfold digL
    rw [if_pos ⟨rfl, by decide⟩, show 16 * 0 + (n : Int) = n by omega, hv]
    rfl
  · rw [if_neg h]
    obtain ⟨f1, f2, f3⟩ := dig_facts ⟨n / 16, by omega⟩
    obtain ⟨g1, g2, g3⟩ := dig_facts ⟨n % 16, by omega⟩
    simp only [] at f1 f2 f3 g1 g2 g3
    show digL 0 0 (dig (n / 16) :: dig (n % 16) :: 125 :: t) = _
    unfold digL
    rw [if_neg (by simp [f1]), if_pos ⟨f2, by decide⟩, f3]
    unfold digL
    rw [if_neg (by simp [g1]), if_pos ⟨g2, by decide⟩, g3]
    unfold digL
    rw [if_pos ⟨rfl, by decide⟩, show 16 * (16 * 0 + ((n / 16 : Nat) : Int)) + ((n % 16 : Nat) : Int) = n by omega, hv]
    rfl

/-- Reading an escape. -/
theorem rdL_esc (l acc : List UInt8) (pos : Int) (r : Int) (n : Nat) (t : List UInt8) (h0 : ∃ y, l = 92 :: y) (he : escL l = (r, (n : Int), 0)) (ht : l.drop n = t) : rdL l acc pos = rdL t (acc ++ Lib.encodeRune r) (pos + n) := by
  obtain ⟨y, rfl⟩ := h0
  have hd := dec_ascii 92 y (by decide)
  have hone : oneL (92 :: y) = (r, (n : Int), 0) := by
    unfold oneL
    rw [hd, if_neg (by decide), if_pos (by decide), he]
  rw [rdL_cons _ _ _ (by simp), hd, if_neg (by decide), bad_low 92 y (by decide), hone]
  rw [if_neg (show ¬ (false = true) by decide)]
  show (if (0 : Int) = 0 then _ else _) = _
  rw [if_pos rfl]
  show rdL ((92 :: y).drop n) _ _ = _
  rw [ht]

/-- Reading what is written for a rune. -/
theorem rdL_quo {r : Int} (hv : Lib.validRune r = true) (t acc : List UInt8) (pos : Int) : rdL (quoL r ++ t) acc pos = rdL t (acc ++ Lib.encodeRune r) (pos + (quoL r).length) := by
  unfold quoL
  by_cases h1 : r = 92 ∨ r = 34
  · rw [if_pos h1]
    rcases h1 with rfl | rfl
    · exact rdL_esc _ acc pos 92 2 t ⟨_, rfl⟩ rfl rfl
    · exact rdL_esc _ acc pos 34 2 t ⟨_, rfl⟩ rfl rfl
  rw [if_neg h1]
  by_cases h2 : r = 10
  · subst h2
    exact rdL_esc _ acc pos 10 2 t ⟨_, rfl⟩ rfl rfl
  rw [if_neg h2]
  by_cases h3 : r = 9
  · subst h3
    exact rdL_esc _ acc pos 9 2 t ⟨_, rfl⟩ rfl rfl
  rw [if_neg h3]
  obtain ⟨n, rfl, hn⟩ := valid_nat hv
  by_cases h4 : (n : Int) < 32 ∨ (n : Int) = 127
  · rw [if_pos h4, Int.toNat_natCast]
    have hh := digL_hex n (by omega) t
    have e0 : ([92, 117, 123] ++ hexL n ++ [125] : List UInt8) ++ t = 92 :: 117 :: 123 :: (hexL n ++ 125 :: t) := by simp
    have el : ([92, 117, 123] ++ hexL n ++ [125] : List UInt8).length = 4 + (hexL n).length := by simp; omega
    rw [e0, el]
    refine rdL_esc _ acc pos n (4 + (hexL n).length) t ⟨_, rfl⟩ ?_ ?_
    · unfold escL
      rw [if_pos (by simp [Lib.hasPrefix])]
      rw [show List.drop 3 (92 :: 117 :: 123 :: (hexL n ++ 125 :: t)) = hexL n ++ 125 :: t from rfl, hh, if_pos rfl]
      dsimp only
      rw [show (3 : Int) + ((hexL n).length + 1 : Int) = ((4 + (hexL n).length : Nat) : Int) by omega]
    · rw [show 4 + (hexL n).length = ((hexL n).length + 1) + 3 by omega]
      show (hexL n ++ 125 :: t).drop ((hexL n).length + 1) = t
      rw [← List.drop_drop, List.drop_left]
      rfl
  rw [if_neg h4]
  have hd := dec_enc hv t
  rw [Int.toNat_natCast] at hd
  have hb := bad_enc hv t
  have hrl := runeLen_dec _ hb
  rw [hd] at hrl
  simp only [] at hrl
  have hone : oneL (Lib.encodeRune (n : Int) ++ t) = ((n : Int), ((Lib.encodeRune (n : Int)).length : Int), 0) := by
    unfold oneL
    rw [hd, if_neg (by simp only []; omega), if_neg (by simp only []; omega)]
    show ((n : Int), Lib.runeLen (n : Int), (0 : Int)) = _
    rw [hrl]
  rw [rdL_cons _ _ _ (enc_ne _ t), hd, if_neg (by simp only []; omega), hb, hone]
  rw [if_neg (show ¬ (false = true) by decide)]
  show (if (0 : Int) = 0 then _ else _) = _
  rw [if_pos rfl]
  show rdL ((Lib.encodeRune (n : Int) ++ t).drop (Lib.encodeRune (n : Int)).length) _ _ = _
  rw [List.drop_left]

theorem rdL_quos : ∀ (xs : List Int) (_ : ofOk xs = true) (t acc : List UInt8) (pos : Int), rdL (xs.flatMap quoL ++ 34 :: t) acc pos = (acc ++ ofL xs, pos + (xs.flatMap quoL).length + 1, 0)
  | [], _, t, acc, pos => by
    rw [rdL_cons _ _ _ (by simp)]
    show (if (Lib.decodeL (34 :: t)).1 = 34 then _ else _) = _
    rw [dec_ascii 34 t (by decide), if_pos (by decide)]
    simp [ofL]
  | r :: xs, h, t, acc, pos => by
    have h2 : Lib.validRune r = true ∧ ofOk xs = true := by simpa [ofOk] using h
    rw [List.flatMap_cons, List.append_assoc, rdL_quo h2.1, rdL_quos xs h2.2 t]
    have e1 : acc ++ Lib.encodeRune r ++ ofL xs = acc ++ ofL (r :: xs) := by simp [ofL]
    rw [e1, List.length_append]
    congr 2
    omega

/-- What is quoted is read back, whatever stands behind it. -/
theorem rd_quote (xs : List Int) (h : ofOk xs = true) (t : List UInt8) : rd (quoteL (ofL xs) ++ t) = (ofL xs, ((quoteL (ofL xs)).length : Int), 0) := by
  unfold quoteL
  rw [runes_ofL xs h]
  have e : (34 :: (xs.flatMap quoL ++ [34]) : List UInt8) ++ t = 34 :: (xs.flatMap quoL ++ 34 :: t) := by simp
  rw [e]
  have hp : Lib.hasPrefix (34 :: (xs.flatMap quoL ++ 34 :: t)) [34] = true := by simp [Lib.hasPrefix]
  unfold rd
  rw [hp]
  show rdL (xs.flatMap quoL ++ 34 :: t) [] 1 = _
  rw [rdL_quos xs h t]
  simp only [List.nil_append, List.length_cons, List.length_append, List.length_nil]
  congr 2
  omega

theorem bq_high : ∀ (l : List UInt8), (∀ c ∈ l, 128 ≤ c.toNat) → l.flatMap bq = l
  | [], _ => rfl
  | c :: l, h => by
    have hc := h c (by simp)
    rw [List.flatMap_cons, bq_high l (fun d hd => h d (by simp [hd]))]
    have : bq c = [c] := by
      unfold bq
      have k : ∀ d : UInt8, d.toNat < 128 → ¬ c = d := fun d hd e => by rw [e] at hc; omega
      rw [if_neg (not_or.2 ⟨k 92 (by decide), k 34 (by decide)⟩), if_neg (k 10 (by decide)), if_neg (k 9 (by decide)), if_neg (by omega)]
    rw [this]
    rfl

theorem enc_high {r : Int} (hv : Lib.validRune r = true) (h : 128 ≤ r) : ∀ c ∈ Lib.encodeRune r, 128 ≤ c.toNat := by
  obtain ⟨n, rfl, hn⟩ := valid_nat hv
  intro b hb
  by_cases c2 : n < 2048
  · rw [enc2 n (by omega) c2] at hb
    simp only [List.mem_cons, List.not_mem_nil, or_false] at hb
    rcases hb with rfl | rfl
    all_goals (rw [ofNat_toNat _ (by omega)]; omega)
  · by_cases c3 : n < 65536
    · rw [enc3 n (by omega)] at hb
      simp only [List.mem_cons, List.not_mem_nil, or_false] at hb
      rcases hb with rfl | rfl | rfl
      all_goals (rw [ofNat_toNat _ (by omega)]; omega)
    · rw [enc4 n (by omega) (by omega)] at hb
      simp only [List.mem_cons, List.not_mem_nil, or_false] at hb
      rcases hb with rfl | rfl | rfl | rfl
      all_goals (rw [ofNat_toNat _ (by omega)]; omega)

theorem bq_low (n : Nat) (h : n < 128) : bq (UInt8.ofNat n) = quoL (n : Int) := by
  have key : ∀ k : Fin 128, bq (UInt8.ofNat k.val) = quoL (k.val : Int) := by decide +kernel
  exact key ⟨n, h⟩

theorem bq_enc {r : Int} (hv : Lib.validRune r = true) : (Lib.encodeRune r).flatMap bq = quoL r := by
  obtain ⟨n, rfl, hn⟩ := valid_nat hv
  by_cases h : n < 128
  · rw [enc1 n h]
    show bq (UInt8.ofNat n) ++ [] = _
    rw [List.append_nil, bq_low n h]
  · rw [bq_high _ (enc_high hv (by omega))]
    unfold quoL
    rw [if_neg (by omega), if_neg (by omega), if_neg (by omega), if_neg (by omega)]

theorem bq_ofL : ∀ (xs : List Int) (_ : ofOk xs = true), (ofL xs).flatMap bq = xs.flatMap quoL
  | [], _ => rfl
  | r :: xs, h => by
    have h2 : Lib.validRune r = true ∧ ofOk xs = true := by simpa [ofOk] using h
    have e1 : ofL (r :: xs) = Lib.encodeRune r ++ ofL xs := by simp [ofL]
    rw [e1, List.flatMap_append, bq_enc h2.1, bq_ofL xs h2.2, List.flatMap_cons]

/-- Quoting byte by byte. -/
def bquote (l : List UInt8) : List UInt8 := 34 :: (l.flatMap bq ++ [34])
theorem bquote_ofL (xs : List Int) (h : ofOk xs = true) : bquote (ofL xs) = quoteL (ofL xs) := by
  unfold bquote quoteL
  rw [bq_ofL xs h, runes_ofL xs h]
end Go.Proofs.Ytckjafmnaffggaa

namespace Go.Proofs.Ytckjafmnaffggaa
open Go


/-- A number of 64 bits. -/
def InR (x : Int) : Prop := -9223372036854775808 ≤ x ∧ x ≤ 9223372036854775807
instance (x : Int) : Decidable (InR x) := inferInstanceAs (Decidable (_ ∧ _))
/-- The number, or nought where it is beyond the bounds. -/
def nv (x : Int) : Int := if InR x then x else 0
/-- No error, or ErrOver where it is beyond the bounds. -/
def ne (x : Int) : Int := if InR x then 0 else 17
theorem nv_ok {x : Int} (h : InR x) : nv x = x := if_pos h
theorem ne_ok {x : Int} (h : InR x) : ne x = 0 := if_pos h
theorem nv_no {x : Int} (h : ¬ InR x) : nv x = 0 := if_neg h
theorem ne_no {x : Int} (h : ¬ InR x) : ne x = 17 := if_neg h
theorem nv_in (x : Int) : InR (nv x) := by
  by_cases h : InR x
  · rw [nv_ok h]; exact h
  · rw [nv_no h]; exact ⟨by decide, by decide⟩
theorem ne_in (x : Int) : ne x = 0 ∨ ne x = 17 := by
  by_cases h : InR x
  · exact .inl (ne_ok h)
  · exact .inr (ne_no h)

/-- A number of 64 bits that is a + b but for whole turns of 2^64. -/
theorem wrap_add (s : Int) (h0 : -18446744073709551616 ≤ s) (h1 : s < 18446744073709551616) :
    (InR s → IntKind.i64.wrap s = s) ∧ (9223372036854775807 < s → IntKind.i64.wrap s = s - 18446744073709551616) ∧ (s < -9223372036854775808 → IntKind.i64.wrap s = s + 18446744073709551616) := by
  have e := IntKind.wrap_i64 s
  unfold InR
  refine ⟨fun h => ?_, fun h => ?_, fun h => ?_⟩ <;> (rw [e]; omega)

/-- A product that is taken round, and what it is divided by one of its two numbers: the other one just where nothing was taken round. -/
theorem mul_facts (a b : Int) (ha : InR a) (hb : InR b) (h0 : a ≠ 0) (hx : a ≠ -1 ∨ b ≠ -9223372036854775808) :
    ∃ c q, IntKind.i64.wrap (a * b) = c ∧ InR c ∧ IntKind.i64.wrap (c.tdiv a) = q ∧ (q = b ↔ InR (a * b)) ∧ (InR (a * b) → a * b = c) := by
  obtain ⟨a0, a1⟩ := ha
  obtain ⟨b0, b1⟩ := hb
  refine ⟨_, _, rfl, ?_, rfl, ?_, ?_⟩
  · unfold InR
    rw [IntKind.wrap_i64]
    omega
  · constructor
    · intro hq
      generalize hp : a * b = p at *
      generalize hc : IntKind.i64.wrap p = c at *
      rw [IntKind.wrap_i64] at hc
      have c0 : -9223372036854775808 ≤ c := by omega
      have c1 : c ≤ 9223372036854775807 := by omega
      have hd := Int.mul_tdiv_add_tmod c a
      by_cases hmin : a = -1
      · have hb' : b ≠ -9223372036854775808 := by
          rcases hx with h | h
          · exact absurd hmin h
          · exact h
        unfold InR
        rw [hmin] at hp
        omega
      · have hin : -9223372036854775808 ≤ c.tdiv a ∧ c.tdiv a ≤ 9223372036854775807 := by
          have hn := Int.natAbs_tdiv_le_natAbs c a
          have hz : (c.tdiv a).natAbs ≤ c.natAbs := hn
          by_cases hz2 : c.natAbs ≤ 9223372036854775807
          · omega
          · have hcm : c = -9223372036854775808 := by omega
            subst hcm
            have h2 : 2 ≤ a.natAbs ∨ a = 1 := by omega
            rcases h2 with h2 | h2
            · have : ((-9223372036854775808 : Int).tdiv a).natAbs = 9223372036854775808 / a.natAbs := by
                rw [Int.natAbs_tdiv]
                rfl
              have h3 : 9223372036854775808 / a.natAbs ≤ 9223372036854775808 / 2 := Nat.div_le_div_left h2 (by decide)
              omega
            · subst h2
              rw [Int.tdiv_one]
              omega
        rw [IntKind.wrap_i64] at hq
        have hq2 : c.tdiv a = b := by omega
        rw [hq2, hp] at hd
        have hm : (c.tmod a).natAbs < a.natAbs := by
          rw [Int.natAbs_tmod]
          exact Nat.mod_lt _ (by omega)
        unfold InR
        omega
    · intro hin
      have hc : IntKind.i64.wrap (a * b) = a * b := by
        rw [IntKind.wrap_i64]
        unfold InR at hin
        omega
      rw [hc, Int.mul_tdiv_cancel_left _ h0, IntKind.wrap_i64]
      omega
  · intro hin
    rw [IntKind.wrap_i64]
    unfold InR at hin
    omega
end Go.Proofs.Ytckjafmnaffggaa

namespace Go.Proofs.Ytckjafmnaffggaa
open Go

def digB (b : UInt8) : Bool := decide (48 ≤ b.toNat ∧ b.toNat ≤ 57)
/-- What digits say, behind a number n. -/
def valF (n : Nat) : List UInt8 → Nat
  | [] => n
  | b :: t => valF (10 * n + (b.toNat - 48)) t
theorem valF_le : ∀ (l : List UInt8) (n : Nat), n ≤ valF n l
  | [], n => Nat.le_refl n
  | b :: t, n => by
    have := valF_le t (10 * n + (b.toNat - 48))
    show n ≤ valF (10 * n + (b.toNat - 48)) t
    omega
theorem valF_app : ∀ (l m : List UInt8) (n : Nat), valF n (l ++ m) = valF (valF n l) m
  | [], _, _ => rfl
  | _ :: t, m, _ => valF_app t m _

/-- Digits, one at least, without noughts ahead. -/
def numOk (l : List UInt8) : Bool := l.all digB && (l == [48] || (l != [] && !Lib.hasPrefix l [48]))
def pv (l : List UInt8) : Int := if numOk l then nv (valF 0 l) else 0
def pe (l : List UInt8) : Int := if numOk l then ne (valF 0 l) else 12
theorem pv_ok {l : List UInt8} (h : numOk l = true) : pv l = nv (valF 0 l) := if_pos h
theorem pe_ok {l : List UInt8} (h : numOk l = true) : pe l = ne (valF 0 l) := if_pos h
theorem pv_no {l : List UInt8} (h : numOk l = false) : pv l = 0 := by unfold pv; rw [h]; rfl
theorem pe_no {l : List UInt8} (h : numOk l = false) : pe l = 12 := by unfold pe; rw [h]; rfl

theorem dec_low (a : UInt8) (t : List UInt8) (h : a.toNat < 128) : Lib.decodeL (a :: t) = (a.toNat, 1) := by
  rw [Lib.decodeL_N, Lib.decodeN_ascii _ _ _ _ _ (by simpa using h)]
  simp
theorem dec_high (a : UInt8) (t : List UInt8) (h : 128 ≤ a.toNat) : 128 ≤ (Lib.decodeL (a :: t)).1 := by
  have h2 : 128 ≤ ((a :: t).getD 0 0).toNat := by simpa using h
  rw [Lib.decodeL_N]
  have k0 := ((a :: t).getD 0 0).toNat_lt
  rcases Lib.decodeN_shape (a :: t).length ((a :: t).getD 0 0).toNat ((a :: t).getD 1 0).toNat ((a :: t).getD 2 0).toNat ((a :: t).getD 3 0).toNat with ⟨c, e⟩ | ⟨c1, c2, c3, cv, e⟩ | ⟨c1, c2, c3, c4, cv, cs, e⟩ | ⟨c1, c2, c3, c4, c5, cv, cw, e⟩ | e
  all_goals (rw [e]; simp only []; omega)

/-- A rune that is a digit is a byte that is one; another rune is no digit's byte. -/
theorem rune_dig (l : List UInt8) (hne : l ≠ []) :
    (∃ b t d, l = b :: t ∧ digB b = true ∧ b.toNat = d + 48 ∧ d ≤ 9 ∧ Lib.decodeL l = (d + 48, 1)) ∨ (((Lib.decodeL l).1 < 48 ∨ 57 < (Lib.decodeL l).1) ∧ l.all digB = false) := by
  rcases l with _ | ⟨a, t⟩
  · exact absurd rfl hne
  · by_cases ha : a.toNat < 128
    · by_cases hd : 48 ≤ a.toNat ∧ a.toNat ≤ 57
      · left
        exact ⟨a, t, a.toNat - 48, rfl, decide_eq_true hd, by omega, by omega, by rw [dec_low a t ha, show a.toNat - 48 + 48 = a.toNat from by omega]⟩
      · right
        rw [dec_low a t ha]
        refine ⟨by show a.toNat < 48 ∨ 57 < a.toNat; omega, ?_⟩
        rw [List.all_cons, show digB a = false from decide_eq_false hd]
        rfl
    · right
      have h1 := dec_high a t (by omega)
      refine ⟨by omega, ?_⟩
      rw [List.all_cons, show digB a = false from decide_eq_false (by omega)]
      rfl

theorem ndrop_ne {s : ByteArray} {pos : Nat} (h : pos < s.size) : s.data.toList.drop pos ≠ [] := by
  intro h0
  have := congrArg List.length h0
  rw [List.length_drop, ← Lib.size_eq] at this
  simp at this
  omega
theorem drop_done {s : ByteArray} {pos : Nat} (h : ¬ pos < s.size) : s.data.toList.drop pos = [] := List.drop_eq_nil_of_le (by rw [← Lib.size_eq]; omega)

/-- One rune of the range over a text. -/
theorem rune_at {s : ByteArray} {pos : Nat} (h : pos < s.size) :
    (∃ d : Nat, d ≤ 9 ∧ Utf8.decode s pos = (d + 48, 1) ∧ (s.data.toList.drop pos).all digB = (s.data.toList.drop (pos + 1)).all digB ∧ ∀ n, valF n (s.data.toList.drop pos) = valF (10 * n + d) (s.data.toList.drop (pos + 1))) ∨
    (((Utf8.decode s pos).1 < 48 ∨ 57 < (Utf8.decode s pos).1) ∧ (s.data.toList.drop pos).all digB = false) := by
  have hr := rune_dig _ (ndrop_ne h)
  rw [Lib.decodeL_drop] at hr
  rcases hr with ⟨b, t, d, e, hb, hbd, hd, hdec⟩ | hr
  · left
    have et : s.data.toList.drop (pos + 1) = t := by rw [← List.drop_drop, e]; rfl
    refine ⟨d, hd, hdec, ?_, fun n => ?_⟩
    · rw [e, et, List.all_cons, hb]
      rfl
    · rw [e, et]
      show valF (10 * n + (b.toNat - 48)) t = _
      rw [hbd, show d + 48 - 48 = d from by omega]
  · exact .inr hr

theorem numOk_all {l : List UInt8} (h : numOk l = true) : l.all digB = true := by
  unfold numOk at h
  rw [Bool.and_eq_true] at h
  exact h.1

theorem valF_over {n : Nat} {l : List UInt8} {V : Nat} (h : valF n l = V) (hn : 9223372036854775807 < n) : ¬ InR (V : Int) := by
  have := valF_le l n
  unfold InR
  omega

theorem val_dec (u : Nat) : valF 0 (Lib.decDigits u) = u ∧ (Lib.decDigits u).all digB = true ∧ ∃ b t, Lib.decDigits u = b :: t ∧ (u = 0 → t = []) ∧ (u ≠ 0 → b ≠ 48) := by
  induction u using Nat.strongRecOn with
  | _ u ih =>
    have one : ∀ d, d < 10 → (UInt8.ofNat (48 + d)).toNat = 48 + d := fun d hd => by
      rw [UInt8.toNat_ofNat']
      omega
    by_cases h : u < 10
    · rw [Lib.decDigits_one h]
      refine ⟨?_, ?_, _, [], rfl, fun _ => rfl, fun hu e => ?_⟩
      · show 10 * 0 + ((UInt8.ofNat (48 + u)).toNat - 48) = u
        rw [one u h]
        omega
      · rw [List.all_cons, show digB (UInt8.ofNat (48 + u)) = true from decide_eq_true (by rw [one u h]; omega)]
        rfl
      · have := congrArg UInt8.toNat e
        rw [one u h, show (48 : UInt8).toNat = 48 from rfl] at this
        omega
    · obtain ⟨h1, h2, b, t, h3, h4, h5⟩ := ih (u / 10) (by omega)
      rw [Lib.decDigits, dif_neg h]
      refine ⟨?_, ?_, b, t ++ [UInt8.ofNat (48 + u % 10)], by rw [h3]; rfl, fun hu => by omega, fun _ => h5 (by omega)⟩
      · rw [valF_app, h1]
        show 10 * (u / 10) + ((UInt8.ofNat (48 + u % 10)).toNat - 48) = u
        rw [one _ (by omega)]
        omega
      · rw [List.all_append, h2, List.all_cons, show digB (UInt8.ofNat (48 + u % 10)) = true from decide_eq_true (by rw [one _ (by omega)]; omega)]
        rfl

theorem numOk_dec (u : Nat) : numOk (Lib.decDigits u) = true := by
  obtain ⟨_, h2, b, t, h3, h4, h5⟩ := val_dec u
  unfold numOk
  rw [h2]
  by_cases hu : u = 0
  · subst hu
    rw [Lib.decDigits_one (by decide)]
    decide
  · have hb := h5 hu
    rw [h3]
    have hp : Lib.hasPrefix (b :: t) [48] = false := by
      unfold Lib.hasPrefix
      cases hq : List.isPrefixOf [48] (b :: t)
      · rfl
      · rw [List.isPrefixOf_iff_prefix] at hq
        obtain ⟨x, hx⟩ := hq
        exact absurd (List.cons.inj hx).1.symm hb
    rw [hp]
    simp

theorem parse_pos (a : Int) (h0 : 0 ≤ a) (ha : InR a) : pv (Lib.itoa a) = a ∧ pe (Lib.itoa a) = 0 := by
  obtain ⟨n, rfl⟩ := Int.eq_ofNat_of_zero_le h0
  rw [Lib.itoa_nonneg, pv_ok (numOk_dec n), pe_ok (numOk_dec n), (val_dec n).1]
  exact ⟨nv_ok ha, ne_ok ha⟩
theorem parse_neg (a : Int) (h0 : a < 0) : pv (Lib.itoa a) = 0 ∧ pe (Lib.itoa a) = 12 := by
  have hn : numOk (Lib.itoa a) = false := by
    unfold Lib.itoa
    rw [if_pos h0]
    unfold numOk
    rw [List.all_cons, show digB 45 = false from rfl]
    rfl
  exact ⟨pv_no hn, pe_no hn⟩
theorem pe_range (l : List UInt8) : 0 ≤ pe l ∧ pe l ≤ 17 := by
  cases h : numOk l
  · rw [pe_no h]; decide
  · rw [pe_ok h]
    rcases ne_in (valF 0 l) with h | h <;> (rw [h]; decide)
end Go.Proofs.Ytckjafmnaffggaa
