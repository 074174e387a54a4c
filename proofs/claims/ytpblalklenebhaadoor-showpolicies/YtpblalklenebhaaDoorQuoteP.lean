/-
  Plain facts: what is quoted is read back; quoting byte by byte is quoting rune by rune (no program in it).
-/
import Derived.Test.YtpblalklenebhaaDoorReadP
namespace Go.Proofs.YtpblalklenebhaaDoor
open Go

/-- Escaping, byte by byte. -/
def bq (c : UInt8) : List UInt8 :=
  if c = 92 ∨ c = 34 then [92, c]
  else if c = 10 then [92, 110]
  else if c = 9 then [92, 116]
  else if c.toNat < 32 ∨ c.toNat = 127 then [92, 117, 123] ++ hexL c.toNat ++ [125]
  else [c]
theorem bq_len (c : UInt8) : (bq c).length ≤ 6 := by
  have h2 := hexL_len c.toNat
  unfold bq
  repeat' split
  all_goals (simp; try omega)

theorem bad_enc {r : Int} (hv : Lib.validRune r = true) (t : List UInt8) : badHead (Lib.encodeRune r ++ t) = false := by
  unfold badHead
  rw [dec_enc hv t]
  obtain ⟨n, rfl, hn⟩ := valid_nat hv
  rw [Int.toNat_natCast]
  by_cases h : n = 65533
  · subst h
    rw [show Lib.encodeRune ((65533 : Nat) : Int) = [239, 191, 189] from by rw [enc3 _ (by omega)]; rfl]
    rfl
  · have : (n == 65533) = false := by simp [h]
    rw [this]
    rfl

theorem bad_low (c : UInt8) (t : List UInt8) (h : c.toNat < 128) : badHead (c :: t) = false := by
  unfold badHead
  rw [dec_ascii c t h]
  have : (c.toNat == 65533) = false := by simp; omega
  show ((c.toNat == 65533) && _) = false
  rw [this]
  rfl

theorem dig_facts : ∀ n : Fin 16, dig n.val ≠ 125 ∧ digQ ((dig n.val).toNat : Int) = true ∧ digV ((dig n.val).toNat : Int) = (n.val : Int) := by decide

theorem digL_hex (n : Nat) (hn : n < 128) (t : List UInt8) : digL 0 0 (hexL n ++ 125 :: t) = ((n : Int), ((hexL n).length + 1 : Int), 0) := by
  have hv : Lib.validRune (n : Int) = true := decide_eq_true (by omega)
  unfold hexL
  by_cases h : n < 16
  · rw [if_pos h]
    obtain ⟨f1, f2, f3⟩ := dig_facts ⟨n, h⟩
    simp only [] at f1 f2 f3
    show digL 0 0 (dig n :: 125 :: t) = _
    unfold digL
    rw [if_neg (by simp [f1]), if_pos ⟨f2, by decide⟩, f3]
    unfold digL
    rw [if_pos ⟨rfl, by decide⟩, show 16 * 0 + (n : Int) = n by omega, hv]
    rfl
  · rw [if_neg h]
    obtain ⟨f1, f2, f3⟩ := dig_facts ⟨n / 16, by omega⟩
    obtain ⟨g1, g2, g3⟩ := dig_facts ⟨n % 16, by omega⟩
    simp only [] at f1 f2 f3 g1 g2 g3
    show digL 0 0 (dig (n / 16) :: dig (n % 16) :: 125 :: t) = _
    unfold digL
    rw [if_neg (by simp [f1]), if_pos ⟨f2, by decide⟩, f3]
    unfold digL
    rw [if_neg (by simp [g1]), if_pos ⟨g2, by decide⟩, g3]
    unfold digL
    rw [if_pos ⟨rfl, by decide⟩, show 16 * (16 * 0 + ((n / 16 : Nat) : Int)) + ((n % 16 : Nat) : Int) = n by omega, hv]
    rfl

/-- Reading an escape. -/
theorem rdL_esc (l acc : List UInt8) (pos : Int) (r : Int) (n : Nat) (t : List UInt8) (h0 : ∃ y, l = 92 :: y) (he : escL l = (r, (n : Int), 0)) (ht : l.drop n = t) : rdL l acc pos = rdL t (acc ++ Lib.encodeRune r) (pos + n) := by
  obtain ⟨y, rfl⟩ := h0
  have hd := dec_ascii 92 y (by decide)
  have hone : oneL (92 :: y) = (r, (n : Int), 0) := by
    unfold oneL
    rw [hd, if_neg (by decide), if_pos (by decide), he]
  rw [rdL_cons _ _ _ (by simp), hd, if_neg (by decide), bad_low 92 y (by decide), hone]
  rw [if_neg (show ¬ (false = true) by decide)]
  show (if (0 : Int) = 0 then _ else _) = _
  rw [if_pos rfl]
  show rdL ((92 :: y).drop n) _ _ = _
  rw [ht]

/-- Reading what is written for a rune. -/
theorem rdL_quo {r : Int} (hv : Lib.validRune r = true) (t acc : List UInt8) (pos : Int) : rdL (quoL r ++ t) acc pos = rdL t (acc ++ Lib.encodeRune r) (pos + (quoL r).length) := by
  unfold quoL
  by_cases h1 : r = 92 ∨ r = 34
  · rw [if_pos h1]
    rcases h1 with rfl | rfl
    · exact rdL_esc _ acc pos 92 2 t ⟨_, rfl⟩ rfl rfl
    · exact rdL_esc _ acc pos 34 2 t ⟨_, rfl⟩ rfl rfl
  rw [if_neg h1]
  by_cases h2 : r = 10
  · subst h2
    exact rdL_esc _ acc pos 10 2 t ⟨_, rfl⟩ rfl rfl
  rw [if_neg h2]
  by_cases h3 : r = 9
  · subst h3
    exact rdL_esc _ acc pos 9 2 t ⟨_, rfl⟩ rfl rfl
  rw [if_neg h3]
  obtain ⟨n, rfl, hn⟩ := valid_nat hv
  by_cases h4 : (n : Int) < 32 ∨ (n : Int) = 127
  · rw [if_pos h4, Int.toNat_natCast]
    have hh := digL_hex n (by omega) t
    have e0 : ([92, 117, 123] ++ hexL n ++ [125] : List UInt8) ++ t = 92 :: 117 :: 123 :: (hexL n ++ 125 :: t) := by simp
    have el : ([92, 117, 123] ++ hexL n ++ [125] : List UInt8).length = 4 + (hexL n).length := by simp; omega
    rw [e0, el]
    refine rdL_esc _ acc pos n (4 + (hexL n).length) t ⟨_, rfl⟩ ?_ ?_
    · unfold escL
      rw [if_pos (by simp [Lib.hasPrefix])]
      rw [show List.drop 3 (92 :: 117 :: 123 :: (hexL n ++ 125 :: t)) = hexL n ++ 125 :: t from rfl, hh, if_pos rfl]
      dsimp only
      rw [show (3 : Int) + ((hexL n).length + 1 : Int) = ((4 + (hexL n).length : Nat) : Int) by omega]
    · rw [show 4 + (hexL n).length = ((hexL n).length + 1) + 3 by omega]
      show (hexL n ++ 125 :: t).drop ((hexL n).length + 1) = t
      rw [← List.drop_drop, List.drop_left]
      rfl
  rw [if_neg h4]
  have hd := dec_enc hv t
  rw [Int.toNat_natCast] at hd
  have hb := bad_enc hv t
  have hrl := runeLen_dec _ hb
  rw [hd] at hrl
  simp only [] at hrl
  have hone : oneL (Lib.encodeRune (n : Int) ++ t) = ((n : Int), ((Lib.encodeRune (n : Int)).length : Int), 0) := by
    unfold oneL
    rw [hd, if_neg (by simp only []; omega), if_neg (by simp only []; omega)]
    show ((n : Int), Lib.runeLen (n : Int), (0 : Int)) = _
    rw [hrl]
  rw [rdL_cons _ _ _ (enc_ne _ t), hd, if_neg (by simp only []; omega), hb, hone]
  rw [if_neg (show ¬ (false = true) by decide)]
  show (if (0 : Int) = 0 then _ else _) = _
  rw [if_pos rfl]
  show rdL ((Lib.encodeRune (n : Int) ++ t).drop (Lib.encodeRune (n : Int)).length) _ _ = _
  rw [List.drop_left]

theorem rdL_quos : ∀ (xs : List Int) (_ : ofOk xs = true) (t acc : List UInt8) (pos : Int), rdL (xs.flatMap quoL ++ 34 :: t) acc pos = (acc ++ ofL xs, pos + (xs.flatMap quoL).length + 1, 0)
  | [], _, t, acc, pos => by
    rw [rdL_cons _ _ _ (by simp)]
    show (if (Lib.decodeL (34 :: t)).1 = 34 then _ else _) = _
    rw [dec_ascii 34 t (by decide), if_pos (by decide)]
    simp [ofL]
  | r :: xs, h, t, acc, pos => by
    have h2 : Lib.validRune r = true ∧ ofOk xs = true := by simpa [ofOk] using h
    rw [List.flatMap_cons, List.append_assoc, rdL_quo h2.1, rdL_quos xs h2.2 t]
    have e1 : acc ++ Lib.encodeRune r ++ ofL xs = acc ++ ofL (r :: xs) := by simp [ofL]
    rw [e1, List.length_append]
    congr 2
    omega

/-- What is quoted is read back, whatever stands behind it. -/
theorem rd_quote (xs : List Int) (h : ofOk xs = true) (t : List UInt8) : rd (quoteL (ofL xs) ++ t) = (ofL xs, ((quoteL (ofL xs)).length : Int), 0) := by
  unfold quoteL
  rw [runes_ofL xs h]
  have e : (34 :: (xs.flatMap quoL ++ [34]) : List UInt8) ++ t = 34 :: (xs.flatMap quoL ++ 34 :: t) := by simp
  rw [e]
  have hp : Lib.hasPrefix (34 :: (xs.flatMap quoL ++ 34 :: t)) [34] = true := by simp [Lib.hasPrefix]
  unfold rd
  rw [hp]
  show rdL (xs.flatMap quoL ++ 34 :: t) [] 1 = _
  rw [rdL_quos xs h t]
  simp only [List.nil_append, List.length_cons, List.length_append, List.length_nil]
  congr 2
  omega

theorem bq_high : ∀ (l : List UInt8), (∀ c ∈ l, 128 ≤ c.toNat) → l.flatMap bq = l
  | [], _ => rfl
  | c :: l, h => by
    have hc := h c (by simp)
    rw [List.flatMap_cons, bq_high l (fun d hd => h d (by simp [hd]))]
    have : bq c = [c] := by
      unfold bq
      have k : ∀ d : UInt8, d.toNat < 128 → ¬ c = d := fun d hd e => by rw [e] at hc; omega
      rw [if_neg (not_or.2 ⟨k 92 (by decide), k 34 (by decide)⟩), if_neg (k 10 (by decide)), if_neg (k 9 (by decide)), if_neg (by omega)]
    rw [this]
    rfl

theorem enc_high {r : Int} (hv : Lib.validRune r = true) (h : 128 ≤ r) : ∀ c ∈ Lib.encodeRune r, 128 ≤ c.toNat := by
  obtain ⟨n, rfl, hn⟩ := valid_nat hv
  intro b hb
  by_cases c2 : n < 2048
  · rw [enc2 n (by omega) c2] at hb
    simp only [List.mem_cons, List.not_mem_nil, or_false] at hb
    rcases hb with rfl | rfl
    all_goals (rw [ofNat_toNat _ (by omega)]; omega)
  · by_cases c3 : n < 65536
    · rw [enc3 n (by omega)] at hb
      simp only [List.mem_cons, List.not_mem_nil, or_false] at hb
      rcases hb with rfl | rfl | rfl
      all_goals (rw [ofNat_toNat _ (by omega)]; omega)
    · rw [enc4 n (by omega) (by omega)] at hb
      simp only [List.mem_cons, List.not_mem_nil, or_false] at hb
      rcases hb with rfl | rfl | rfl | rfl
      all_goals (rw [ofNat_toNat _ (by omega)]; omega)

theorem bq_low (n : Nat) (h : n < 128) : bq (UInt8.ofNat n) = quoL (n : Int) := by
  have key : ∀ k : Fin 128, bq (UInt8.ofNat k.val) = quoL (k.val : Int) := by decide +kernel
  exact key ⟨n, h⟩

theorem bq_enc {r : Int} (hv : Lib.validRune r = true) : (Lib.encodeRune r).flatMap bq = quoL r := by
  obtain ⟨n, rfl, hn⟩ := valid_nat hv
  by_cases h : n < 128
  · rw [enc1 n h]
    show bq (UInt8.ofNat n) ++ [] = _
    rw [List.append_nil, bq_low n h]
  · rw [bq_high _ (enc_high hv (by omega))]
    unfold quoL
    rw [if_neg (by omega), if_neg (by omega), if_neg (by omega), if_neg (by omega)]

theorem bq_ofL : ∀ (xs : List Int) (_ : ofOk xs = true), (ofL xs).flatMap bq = xs.flatMap quoL
  | [], _ => rfl
  | r :: xs, h => by
    have h2 : Lib.validRune r = true ∧ ofOk xs = true := by simpa [ofOk] using h
    have e1 : ofL (r :: xs) = Lib.encodeRune r ++ ofL xs := by simp [ofL]
    rw [e1, List.flatMap_append, bq_enc h2.1, bq_ofL xs h2.2, List.flatMap_cons]

/-- Quoting byte by byte. -/
def bquote (l : List UInt8) : List UInt8 := 34 :: (l.flatMap bq ++ [34])
theorem bquote_ofL (xs : List Int) (h : ofOk xs = true) : bquote (ofL xs) = quoteL (ofL xs) := by
  unfold bquote quoteL
  rw [bq_ofL xs h, runes_ofL xs h]
end Go.Proofs.YtpblalklenebhaaDoor
