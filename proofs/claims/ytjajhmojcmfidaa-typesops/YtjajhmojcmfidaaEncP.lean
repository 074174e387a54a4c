/-
  Plain facts: what is encoded is decoded as it was; a rune's bytes cut at either end are none (no program in it).
-/
import Derived.Test.YtjajhmojcmfidaaRunesPW
namespace Go.Proofs.Ytjajhmojcmfidaa
open Go

theorem toU (z : Int) (n : Nat) (h : z = n) : z.toNat.toUInt8 = UInt8.ofNat n := by subst h; rfl
theorem ofNat_toNat (n : Nat) (h : n < 256) : (UInt8.ofNat n).toNat = n := by
  simp
  omega

theorem enc1 (n : Nat) (h : n < 128) : Lib.encodeRune (n : Int) = [UInt8.ofNat n] := by
  rw [Lib.encodeRune, Lib.encodeRuneZ_one (by omega) (by omega)]
  simp only [List.map_cons, List.map_nil]
  rw [toU _ n rfl]
theorem enc2 (n : Nat) (h : 128 ≤ n) (h' : n < 2048) : Lib.encodeRune (n : Int) = [UInt8.ofNat (192 + n / 64), UInt8.ofNat (128 + n % 64)] := by
  rw [Lib.encodeRune, Lib.encodeRuneZ_two (by omega) (by omega)]
  simp only [List.map_cons, List.map_nil]
  rw [toU _ (192 + n / 64) (by omega), toU _ (128 + n % 64) (by omega)]
theorem enc3 (n : Nat) (h : (2048 ≤ n ∧ n < 55296) ∨ (57343 < n ∧ n < 65536)) : Lib.encodeRune (n : Int) = [UInt8.ofNat (224 + n / 4096), UInt8.ofNat (128 + n / 64 % 64), UInt8.ofNat (128 + n % 64)] := by
  rw [Lib.encodeRune, Lib.encodeRuneZ_three (by omega)]
  simp only [List.map_cons, List.map_nil]
  rw [toU _ (224 + n / 4096) (by omega), toU _ (128 + n / 64 % 64) (by omega), toU _ (128 + n % 64) (by omega)]
theorem enc4 (n : Nat) (h : 65536 ≤ n) (h' : n ≤ 1114111) : Lib.encodeRune (n : Int) = [UInt8.ofNat (240 + n / 262144), UInt8.ofNat (128 + n / 4096 % 64), UInt8.ofNat (128 + n / 64 % 64), UInt8.ofNat (128 + n % 64)] := by
  rw [Lib.encodeRune, Lib.encodeRuneZ_four (by omega) (by omega)]
  simp only [List.map_cons, List.map_nil]
  rw [toU _ (240 + n / 262144) (by omega), toU _ (128 + n / 4096 % 64) (by omega), toU _ (128 + n / 64 % 64) (by omega), toU _ (128 + n % 64) (by omega)]

theorem dN2 (m n b2 b3 : Nat) (h0 : 128 ≤ n) (h1 : n < 2048) (hm : 2 ≤ m) : Lib.decodeN m (192 + n / 64) (128 + n % 64) b2 b3 = (n, 2) := by
  unfold Lib.decodeN
  rw [if_neg (by omega), if_pos (by omega), if_pos (by omega)]
  have : (192 + n / 64) % 32 * 64 + (128 + n % 64) % 64 = n := by omega
  rw [this]
theorem dN3 (m n b3 : Nat) (h : (2048 ≤ n ∧ n < 55296) ∨ (57343 < n ∧ n < 65536)) (hm : 3 ≤ m) : Lib.decodeN m (224 + n / 4096) (128 + n / 64 % 64) (128 + n % 64) b3 = (n, 3) := by
  unfold Lib.decodeN
  have e : (224 + n / 4096) % 16 * 4096 + (128 + n / 64 % 64) % 64 * 64 + (128 + n % 64) % 64 = n := by omega
  rw [if_neg (by omega), if_neg (by omega), if_pos (by omega), e, if_pos (by omega)]
theorem dN4 (m n : Nat) (h : 65536 ≤ n) (h' : n ≤ 1114111) (hm : 4 ≤ m) : Lib.decodeN m (240 + n / 262144) (128 + n / 4096 % 64) (128 + n / 64 % 64) (128 + n % 64) = (n, 4) := by
  unfold Lib.decodeN
  have e : (240 + n / 262144) % 8 * 262144 + (128 + n / 4096 % 64) % 64 * 4096 + (128 + n / 64 % 64) % 64 * 64 + (128 + n % 64) % 64 = n := by omega
  rw [if_neg (by omega), if_neg (by omega), if_neg (by omega), if_pos (by omega), e, if_pos (by omega)]

theorem valid_nat {r : Int} (h : Lib.validRune r = true) : ∃ n : Nat, r = n ∧ ((n < 55296) ∨ (57343 < n ∧ n ≤ 1114111)) := by
  have h' : (0 ≤ r ∧ r < 0xD800) ∨ (0xDFFF < r ∧ r ≤ 0x10FFFF) := of_decide_eq_true h
  refine ⟨r.toNat, ?_, ?_⟩ <;> omega

/-- What is encoded is decoded as it was. -/
theorem dec_enc {r : Int} (hv : Lib.validRune r = true) (t : List UInt8) : Lib.decodeL (Lib.encodeRune r ++ t) = (r.toNat, (Lib.encodeRune r).length) := by
  obtain ⟨n, rfl, hn⟩ := valid_nat hv
  rw [Int.toNat_natCast]
  by_cases c1 : n < 128
  · rw [enc1 n c1, List.singleton_append, dec_ascii _ _ (by rw [ofNat_toNat _ (by omega)]; exact c1), ofNat_toNat _ (by omega)]
    rfl
  · by_cases c2 : n < 2048
    · rw [enc2 n (by omega) c2, Lib.decodeL_N]
      simp only [List.cons_append, List.nil_append, List.getD_cons_zero, List.getD_cons_succ, List.length_cons, List.length_nil]
      rw [ofNat_toNat _ (by omega), ofNat_toNat _ (by omega), dN2 _ n _ _ (by omega) c2 (by omega)]
    · by_cases c3 : n < 65536
      · rw [enc3 n (by omega), Lib.decodeL_N]
        simp only [List.cons_append, List.nil_append, List.getD_cons_zero, List.getD_cons_succ, List.length_cons, List.length_nil]
        rw [ofNat_toNat _ (by omega), ofNat_toNat _ (by omega), ofNat_toNat _ (by omega), dN3 _ n _ (by omega) (by omega)]
      · rw [enc4 n (by omega) (by omega), Lib.decodeL_N]
        simp only [List.cons_append, List.nil_append, List.getD_cons_zero, List.getD_cons_succ, List.length_cons, List.length_nil]
        rw [ofNat_toNat _ (by omega), ofNat_toNat _ (by omega), ofNat_toNat _ (by omega), ofNat_toNat _ (by omega), dN4 _ n (by omega) (by omega) (by omega)]

theorem enc_ne (r : Int) (t : List UInt8) : Lib.encodeRune r ++ t ≠ [] := by
  have := (encodeRune_len r).1
  intro h
  rw [List.append_eq_nil_iff] at h
  rw [h.1] at this
  simp at this

theorem runes_enc {r : Int} (hv : Lib.validRune r = true) (t : List UInt8) : runes (Lib.encodeRune r ++ t) = r :: runes t := by
  rw [runes_cons _ (enc_ne r t), dec_enc hv t]
  obtain ⟨n, rfl, _⟩ := valid_nat hv
  simp

theorem okL_enc {r : Int} (hv : Lib.validRune r = true) (t : List UInt8) : okL (Lib.encodeRune r ++ t) = okL t := by
  rw [okL_cons _ (enc_ne r t)]
  have hb : badHead (Lib.encodeRune r ++ t) = false := by
    unfold badHead
    rw [dec_enc hv t]
    obtain ⟨n, rfl, hn⟩ := valid_nat hv
    rw [Int.toNat_natCast]
    by_cases h : n = 65533
    · subst h
      rw [show Lib.encodeRune ((65533 : Nat) : Int) = [239, 191, 189] from by rw [enc3 _ (by omega)]; rfl]
      rfl
    · have : (n == 65533) = false := by simp [h]
      rw [this]
      rfl
  rw [hb, dec_enc hv t]
  simp

/-- Of is the other way about of Runes. -/
theorem runes_ofL : ∀ (xs : List Int) (_ : ofOk xs = true), runes (ofL xs) = xs
  | [], _ => rfl
  | x :: t, h => by
    have h1 : Lib.validRune x = true ∧ ofOk t = true := by simpa [ofOk] using h
    have e : ofL (x :: t) = Lib.encodeRune x ++ ofL t := by simp [ofL]
    rw [e, runes_enc h1.1, runes_ofL t h1.2]
theorem okL_ofL : ∀ (xs : List Int) (_ : ofOk xs = true), okL (ofL xs) = true
  | [], _ => rfl
  | x :: t, h => by
    have h1 : Lib.validRune x = true ∧ ofOk t = true := by simpa [ofOk] using h
    have e : ofL (x :: t) = Lib.encodeRune x ++ ofL t := by simp [ofL]
    rw [e, okL_enc h1.1, okL_ofL t h1.2]

theorem okL_bad (l : List UInt8) (hne : l ≠ []) (h : Lib.decodeL l = (65533, 1)) : okL l = false := by
  rw [okL_cons l hne]
  have : badHead l = true := by unfold badHead; rw [h]; rfl
  rw [this]
  rfl

/-- A rune of several bytes without its first one is none. -/
theorem okL_tail {r : Int} (hv : Lib.validRune r = true) (h : 128 ≤ r) : okL ((Lib.encodeRune r).drop 1) = false := by
  obtain ⟨n, rfl, hn⟩ := valid_nat hv
  by_cases c2 : n < 2048
  · rw [enc2 n (by omega) c2]
    refine okL_bad _ (by simp) ?_
    rw [Lib.decodeL_N]
    simp only [List.drop_succ_cons, List.drop_zero, List.getD_cons_zero]
    rw [ofNat_toNat _ (by omega)]
    exact Lib.decodeN_cont _ _ _ _ _ (by omega)
  · by_cases c3 : n < 65536
    · rw [enc3 n (by omega)]
      refine okL_bad _ (by simp) ?_
      rw [Lib.decodeL_N]
      simp only [List.drop_succ_cons, List.drop_zero, List.getD_cons_zero]
      rw [ofNat_toNat (128 + n / 64 % 64) (by omega)]
      exact Lib.decodeN_cont _ _ _ _ _ (by omega)
    · rw [enc4 n (by omega) (by omega)]
      refine okL_bad _ (by simp) ?_
      rw [Lib.decodeL_N]
      simp only [List.drop_succ_cons, List.drop_zero, List.getD_cons_zero]
      rw [ofNat_toNat (128 + n / 4096 % 64) (by omega)]
      exact Lib.decodeN_cont _ _ _ _ _ (by omega)

theorem dN_short (m b0 b1 b2 b3 : Nat) (h0 : 128 ≤ b0) (h2 : m < 2 ∨ b0 / 32 ≠ 6) (h3 : m < 3 ∨ b0 / 16 ≠ 14) (h4 : m < 4 ∨ b0 / 8 ≠ 30) : Lib.decodeN m b0 b1 b2 b3 = (65533, 1) := by
  unfold Lib.decodeN
  rw [if_neg (by omega), if_neg (by omega), if_neg (by omega), if_neg (by omega)]

/-- .. nor without its last one. -/
theorem okL_front {r : Int} (hv : Lib.validRune r = true) (h : 128 ≤ r) : okL ((Lib.encodeRune r).take ((Lib.encodeRune r).length - 1)) = false := by
  obtain ⟨n, rfl, hn⟩ := valid_nat hv
  by_cases c2 : n < 2048
  · rw [enc2 n (by omega) c2]
    refine okL_bad _ (by simp) ?_
    rw [Lib.decodeL_N]
    simp only [List.length_cons, List.length_nil, List.take_succ_cons, List.take_zero, List.getD_cons_zero, Nat.add_one_sub_one, Nat.zero_add]
    rw [ofNat_toNat (192 + n / 64) (by omega)]
    exact dN_short _ _ _ _ _ (by omega) (by omega) (by omega) (by omega)
  · by_cases c3 : n < 65536
    · rw [enc3 n (by omega)]
      refine okL_bad _ (by simp) ?_
      rw [Lib.decodeL_N]
      simp only [List.length_cons, List.length_nil, List.take_succ_cons, List.take_zero, List.getD_cons_zero, Nat.add_one_sub_one, Nat.zero_add]
      rw [ofNat_toNat (224 + n / 4096) (by omega)]
      exact dN_short _ _ _ _ _ (by omega) (by omega) (by omega) (by omega)
    · rw [enc4 n (by omega) (by omega)]
      refine okL_bad _ (by simp) ?_
      rw [Lib.decodeL_N]
      simp only [List.length_cons, List.length_nil, List.take_succ_cons, List.take_zero, List.getD_cons_zero, Nat.add_one_sub_one, Nat.zero_add]
      rw [ofNat_toNat (240 + n / 262144) (by omega)]
      exact dN_short _ _ _ _ _ (by omega) (by omega) (by omega) (by omega)

theorem enc_len1 {n : Int} (h0 : 0 ≤ n) (h1 : n < 128) : (Lib.encodeRune n).length = 1 := by
  obtain ⟨k, rfl⟩ := Int.eq_ofNat_of_zero_le h0
  rw [enc1 k (by omega)]; rfl
theorem enc_len2 {n : Int} (h0 : 128 ≤ n) (h1 : n < 2048) : (Lib.encodeRune n).length = 2 := by
  obtain ⟨k, rfl⟩ := Int.eq_ofNat_of_zero_le (show 0 ≤ n by omega)
  rw [enc2 k (by omega) (by omega)]; rfl
theorem enc_len3 {n : Int} (h : (2048 ≤ n ∧ n < 55296) ∨ (57343 < n ∧ n < 65536)) : (Lib.encodeRune n).length = 3 := by
  obtain ⟨k, rfl⟩ := Int.eq_ofNat_of_zero_le (show 0 ≤ n by omega)
  rw [enc3 k (by omega)]; rfl
theorem enc_len4 {n : Int} (h0 : 65536 ≤ n) (h1 : n ≤ 1114111) : (Lib.encodeRune n).length = 4 := by
  obtain ⟨k, rfl⟩ := Int.eq_ofNat_of_zero_le (show 0 ≤ n by omega)
  rw [enc4 k (by omega) (by omega)]; rfl

theorem dec_valid (l : List UInt8) : Lib.validRune ((Lib.decodeL l).1 : Int) = true := by
  apply decide_eq_true
  rw [Lib.decodeL_N]
  have k0 := (l.getD 0 0).toNat_lt
  have k1 := (l.getD 1 0).toNat_lt
  have k2 := (l.getD 2 0).toNat_lt
  have k3 := (l.getD 3 0).toNat_lt
  rcases Lib.decodeN_shape l.length (l.getD 0 0).toNat (l.getD 1 0).toNat (l.getD 2 0).toNat (l.getD 3 0).toNat with ⟨c, e⟩ | ⟨c1, c2, c3, cv, e⟩ | ⟨c1, c2, c3, c4, cv, cs, e⟩ | ⟨c1, c2, c3, c4, c5, cv, cw, e⟩ | e
  all_goals (rw [e]; simp only []; omega)

/-- A text is what its runes are written as. -/
theorem ok_ofL : ∀ (n : Nat) (l : List UInt8), l.length ≤ n → okL l = true → ofL (runes l) = l ∧ ofOk (runes l) = true
  | 0, l, h, _ => by
    have : l = [] := List.length_eq_zero_iff.1 (by omega)
    subst this
    exact ⟨rfl, rfl⟩
  | n + 1, l, h, hok => by
    by_cases hne : l = []
    · subst hne
      exact ⟨rfl, rfl⟩
    · have hp := dec_pos l
      have hlen : 0 < l.length := List.length_pos_iff.2 hne
      rw [okL_cons l hne] at hok
      cases hb : badHead l with
      | true => rw [hb] at hok; cases hok
      | false =>
        rw [hb] at hok
        have hok2 : okL (l.drop (Lib.decodeL l).2) = true := by simpa using hok
        obtain ⟨i1, i2⟩ := ok_ofL n (l.drop (Lib.decodeL l).2) (by rw [List.length_drop]; omega) hok2
        have hed := Lib.encode_decode l hne (by
          rintro ⟨a, b⟩
          unfold badHead at hb
          rw [a, b] at hb
          cases hb)
        rw [runes_cons l hne]
        constructor
        · have e : ofL (((Lib.decodeL l).1 : Int) :: runes (l.drop (Lib.decodeL l).2)) = Lib.encodeRune ((Lib.decodeL l).1 : Int) ++ ofL (runes (l.drop (Lib.decodeL l).2)) := by simp [ofL]
          rw [e, hed, i1, List.take_append_drop]
        · unfold ofOk at *
          rw [List.all_cons, dec_valid, i2]
          rfl
theorem ok_back {l : List UInt8} (h : okL l = true) : ofL (runes l) = l := (ok_ofL _ l (Nat.le_refl _) h).1
theorem ok_runes {l : List UInt8} (h : okL l = true) : ofOk (runes l) = true := (ok_ofL _ l (Nat.le_refl _) h).2
theorem runes_len : ∀ (n : Nat) (l : List UInt8), l.length ≤ n → (runes l).length ≤ l.length
  | 0, l, h => by
    have : l = [] := List.length_eq_zero_iff.1 (by omega)
    subst this
    simp [runes_nil]
  | n + 1, l, h => by
    by_cases hne : l = []
    · subst hne
      simp [runes_nil]
    · have hp := dec_pos l
      have hlen : 0 < l.length := List.length_pos_iff.2 hne
      have := runes_len n (l.drop (Lib.decodeL l).2) (by rw [List.length_drop]; omega)
      rw [runes_cons l hne, List.length_cons]
      rw [List.length_drop] at this
      omega
theorem runes_range (l : List UInt8) (h : okL l = true) : ∀ x ∈ runes l, -2147483648 ≤ x ∧ x ≤ 2147483647 := by
  intro x hx
  have hv := List.all_eq_true.1 (ok_runes h) x hx
  have : (0 ≤ x ∧ x < 0xD800) ∨ (0xDFFF < x ∧ x ≤ 0x10FFFF) := of_decide_eq_true hv
  omega

/-- The runes out of which chancellaw1.Of makes its texts. -/
def some22 : List Int := [97, 98, 42, 34, 92, 10, 9, 1, 31, 127, 128, 233, 2047, 2048, 8364, 55295, 57344, 65533, 65535, 65536, 128512, 1114111]
def pick (z : Int) : Int := some22.getD (z % 22).toNat 0
def picks (zs : List Int) : List Int := (zs.take 40).map pick
def txt (zs : List Int) : List UInt8 := ofL (picks zs)

theorem some22_ok : some22.all Lib.validRune = true := by decide
theorem pick_mem (z : Int) : pick z ∈ some22 := by
  have h0 := Int.emod_nonneg z (show (22 : Int) ≠ 0 by decide)
  have h1 := Int.emod_lt_of_pos z (show (0 : Int) < 22 by decide)
  have h2 : (z % 22).toNat < some22.length := by show _ < 22; omega
  unfold pick
  rw [List.getD, List.getElem?_eq_getElem h2]
  exact List.getElem_mem h2
theorem pick_ok (z : Int) : Lib.validRune (pick z) = true := List.all_eq_true.1 some22_ok _ (pick_mem z)
theorem picks_ok (zs : List Int) : ofOk (picks zs) = true := by
  unfold ofOk picks
  rw [List.all_eq_true]
  intro x hx
  obtain ⟨z, _, rfl⟩ := List.mem_map.1 hx
  exact pick_ok z
theorem picks_len (zs : List Int) : (picks zs).length ≤ 40 := by simp [picks]; omega
theorem txt_len (zs : List Int) : (txt zs).length ≤ 160 := by
  have h1 := ofL_len (picks zs)
  have h2 := picks_len zs
  unfold txt
  omega
end Go.Proofs.Ytjajhmojcmfidaa
