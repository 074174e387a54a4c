/-
  The frame that all laws of this seat share: how a walk that returns true and leaves old memory alone closes the row.
  Plain facts: what is encoded is decoded as it was; a rune's bytes cut at either end are none (no program in it).
  chancelref1's Is, put, Of; chancellaw1's same and Of: what they return.
  strconv.FormatInt(n, 16) for 0 <= n < 256: one or two digits; nothing that was there turns.
  chancelref1.Of; chancellaw1's same and Of: what they return.
  chancellaw1.Of: the text that it makes of numbers.
  What slices of ints, and Raws, that came in give the walks.
-/
import Derived.Test.YthmmplmppchfmaaVcEM
import Derived.Test.YthmmplmppchfmaaRows
import Derived.ProofKit
import Derived.LaidMore
import Derived.OpenShut
import Derived.Stop.Joined
import Derived.Stop.LaidErr
import Derived.Lib.LaidTab
import Derived.Shelf.Vars
import Derived.SizedLaws
import Derived.Carry
import Derived.Test.YthmmplmppchfmaaRunAll
import Derived.Laws.BitsAllLaws
import Derived.Laws.IdiomStrings
import Derived.BigQuiet
import Derived.Deep.QuietTactic
import Derived.Test.YthmmplmppchfmaaPlain
import Derived.WalkKit
import Derived.BigCall
import Derived.Handy
import Derived.Lib.SmallJoins
import Derived.Deep.Slices
namespace Go.Proofs.Ythmmplmppchfmaa
open Go.ChangeShapes Go.WideShapes Go.ChangeAt Go.WideMaps Go.WideElems Go.RowKit

theorem own : ownKnob Try.prog.godebug = none := by kernel_rfl
theorem laidOut : laidOutB Try.prog = true := by kernel_rfl

section
variable {H : Type} {enc : TypeId × Value → H}

theorem trodAll_below {W W' : World} (hb : Below W.heap.size W W') : ∀ {ts : List TypeId} {vs : List Value} {ds : List (DataW H)} {ps : List MemPlace},
    (∀ t ∈ ts, Try.prog.readableRec t = true ∧ t < Try.prog.types.size) → DataW.TrodAll enc Try.prog W 0 (fun _ => true) true ts vs ds ps → DataW.TrodAll enc Try.prog W' 0 (fun b => decide (b < W.heap.size)) true ts vs ds ps
  | [], vs, ds, ps, _, h => by
    obtain ⟨rfl, rfl, rfl⟩ := trodAll_nil h
    exact trodAll_mk0
  | t :: ts, vs, ds, ps, ht, h => by
    have hlt := h.lt
    obtain ⟨v, vs', d, ds', p, q, rfl, rfl, rfl, h0, r0⟩ := trodAll_cons h
    exact trodAll_cons_mk (Below.trod laidOut (ht t (by simp)).1 (ht t (by simp)).2 h0 hb (fun x hx => hlt x (List.mem_append.2 (.inl hx)))) (trodAll_below hb (fun u hu => ht u (by simp [hu])) r0)

set_option maxRecDepth 100000 in
/-- A walk that returns true and turns nothing that was there closes a law's row. -/
theorem law_post {fn : Func} {s : ChangeSpec} {apart : Bool} {W W' : World} {args : Array Value} {ds gs : List (DataW H)} {before : List MemPlace} (hv : s.vars = []) (hr : fn.resultTypes = #[4])
    (ht : ∀ t ∈ fn.params.toList, Try.prog.readableRec t = true ∧ t < Try.prog.types.size)
    (hW : DataW.Whole enc Try.prog fn.params.toList s.vars apart W args.toList ds gs before) (hf : s.fn H (ds ++ gs) = { results := [.lit (.bool true)], args := ds }) (hb : Below W.heap.size W W') :
    s.post enc Try.prog fn apart true false false W args (.bool true) W' := by
  have hW' := hW
  obtain ⟨p, q, hA, hV, rfl, _, _⟩ := hW
  rw [hv] at hV
  obtain ⟨rfl, rfl⟩ := trodVars_none hV
  refine ⟨ds, [], p ++ [], [], p, [], hW', ?_, ?_, ?_, hb.frame _, fun h => by cases h⟩
  · rw [hf, hr]
    exact trodAll_cons_mk (shut_bool Try.underlying4 _) trodAll_mk0
  · rw [hf]
    exact trodAll_below hb ht hA
  · rw [hf, hv]
    rfl
end
end Go.Proofs.Ythmmplmppchfmaa

namespace Go.Proofs.Ythmmplmppchfmaa
open Go

theorem toU (z : Int) (n : Nat) (h : z = n) : z.toNat.toUInt8 = UInt8.ofNat n := by subst h; rfl
theorem ofNat_toNat (n : Nat) (h : n < 256) : (UInt8.ofNat n).toNat = n := by
  simp
  omega

theorem enc1 (n : Nat) (h : n < 128) : Lib.encodeRune (n : Int) = [UInt8.ofNat n] := by
  rw [Lib.encodeRune, Lib.encodeRuneZ_one (by omega) (by omega)]
  simp only [List.map_cons, List.map_nil]
  rw [toU _ n rfl]
theorem enc2 (n : Nat) (h : 128 ≤ n) (h' : n < 2048) : Lib.encodeRune (n : Int) = [UInt8.ofNat (192 + n / 64), UInt8.ofNat (128 + n % 64)] := by
  rw [Lib.encodeRune, Lib.encodeRuneZ_two (by omega) (by omega)]
  simp only [List.map_cons, List.map_nil]
  rw [toU _ (192 + n / 64) (by omega), toU _ (128 + n % 64) (by omega)]
theorem enc3 (n : Nat) (h : (2048 ≤ n ∧ n < 55296) ∨ (57343 < n ∧ n < 65536)) : Lib.encodeRune (n : Int) = [UInt8.ofNat (224 + n / 4096), UInt8.ofNat (128 + n / 64 % 64), UInt8.ofNat (128 + n % 64)] := by
  rw [Lib.encodeRune, Lib.encodeRuneZ_three (by omega)]
  simp only [List.map_cons, List.map_nil]
  rw [toU _ (224 + n / 4096) (by omega), toU _ (128 + n / 64 % 64) (by omega), toU _ (128 + n % 64) (by omega)]
theorem enc4 (n : Nat) (h : 65536 ≤ n) (h' : n ≤ 1114111) : Lib.encodeRune (n : Int) = [UInt8.ofNat (240 + n / 262144), UInt8.ofNat (128 + n / 4096 % 64), UInt8.ofNat (128 + n / 64 % 64), UInt8.ofNat (128 + n % 64)] := by
  rw [Lib.encodeRune, Lib.encodeRuneZ_four (by omega) (by omega)]
  simp only [List.map_cons, List.map_nil]
  rw [toU _ (240 + n / 262144) (by omega), toU _ (128 + n / 4096 % 64) (by omega), toU _ (128 + n / 64 % 64) (by omega), toU _ (128 + n % 64) (by omega)]

theorem dN2 (m n b2 b3 : Nat) (h0 : 128 ≤ n) (h1 : n < 2048) (hm : 2 ≤ m) : Lib.decodeN m (192 + n / 64) (128 + n % 64) b2 b3 = (n, 2) := by
  unfold Lib.decodeN
  rw [if_neg (by omega), if_pos (by omega), if_pos (by omega)]
  have : (192 + n / 64) % 32 * 64 + (128 + n % 64) % 64 = n := by omega
  rw [this]
theorem dN3 (m n b3 : Nat) (h : (2048 ≤ n ∧ n < 55296) ∨ (57343 < n ∧ n < 65536)) (hm : 3 ≤ m) : Lib.decodeN m (224 + n / 4096) (128 + n / 64 % 64) (128 + n % 64) b3 = (n, 3) := by
  unfold Lib.decodeN
  have e : (224 + n / 4096) % 16 * 4096 + (128 + n / 64 % 64) % 64 * 64 + (128 + n % 64) % 64 = n := by omega
  rw [if_neg (by omega), if_neg (by omega), if_pos (by omega), e, if_pos (by omega)]
theorem dN4 (m n : Nat) (h : 65536 ≤ n) (h' : n ≤ 1114111) (hm : 4 ≤ m) : Lib.decodeN m (240 + n / 262144) (128 + n / 4096 % 64) (128 + n / 64 % 64) (128 + n % 64) = (n, 4) := by
  unfold Lib.decodeN
  have e : (240 + n / 262144) % 8 * 262144 + (128 + n / 4096 % 64) % 64 * 4096 + (128 + n / 64 % 64) % 64 * 64 + (128 + n % 64) % 64 = n := by omega
  rw [if_neg (by omega), if_neg (by omega), if_neg (by omega), if_pos (by omega), e, if_pos (by omega)]

theorem valid_nat {r : Int} (h : Lib.validRune r = true) : ∃ n : Nat, r = n ∧ ((n < 55296) ∨ (57343 < n ∧ n ≤ 1114111)) := by
  have h' : (0 ≤ r ∧ r < 0xD800) ∨ (0xDFFF < r ∧ r ≤ 0x10FFFF) := of_decide_eq_true h
  refine ⟨r.toNat, ?_, ?_⟩ <;> omega

/-- What is encoded is decoded as it was. -/
theorem dec_enc {r : Int} (hv : Lib.validRune r = true) (t : List UInt8) : Lib.decodeL (Lib.encodeRune r ++ t) = (r.toNat, (Lib.encodeRune r).length) := by
  obtain ⟨n, rfl, hn⟩ := valid_nat hv
  rw [Int.toNat_natCast]
  by_cases c1 : n < 128
  · rw [enc1 n c1, List.singleton_append, dec_ascii _ _ (by rw [ofNat_toNat _ (by omega)]; exact c1), ofNat_toNat _ (by omega)]
    rfl
  · by_cases c2 : n < 2048
    · rw [enc2 n (by omega) c2, Lib.decodeL_N]
      simp only [List.cons_append, List.nil_append, List.getD_cons_zero, List.getD_cons_succ, List.length_cons, List.length_nil]
      rw [ofNat_toNat _ (by omega), ofNat_toNat _ (by omega), dN2 _ n _ _ (by omega) c2 (by omega)]
    · by_cases c3 : n < 65536
      · rw [enc3 n (by omega), Lib.decodeL_N]
        simp only [List.cons_append, List.nil_append, List.getD_cons_zero, List.getD_cons_succ, List.length_cons, List.length_nil]
        rw [ofNat_toNat _ (by omega), ofNat_toNat _ (by omega), ofNat_toNat _ (by omega), dN3 _ n _ (by omega) (by omega)]
      · rw [enc4 n (by omega) (by omega), Lib.decodeL_N]
        simp only [List.cons_append, List.nil_append, List.getD_cons_zero, List.getD_cons_succ, List.length_cons, List.length_nil]
        rw [ofNat_toNat _ (by omega), ofNat_toNat _ (by omega), ofNat_toNat _ (by omega), ofNat_toNat _ (by omega), dN4 _ n (by omega) (by omega) (by omega)]

theorem enc_ne (r : Int) (t : List UInt8) : Lib.encodeRune r ++ t ≠ [] := by
  have := (encodeRune_len r).1
  intro h
  rw [List.append_eq_nil_iff] at h
  rw [h.1] at this
  simp at this

theorem runes_enc {r : Int} (hv : Lib.validRune r = true) (t : List UInt8) : runes (Lib.encodeRune r ++ t) = r :: runes t := by
  rw [runes_cons _ (enc_ne r t), dec_enc hv t]
  obtain ⟨n, rfl, _⟩ := valid_nat hv
  simp

theorem okL_enc {r : Int} (hv : Lib.validRune r = true) (t : List UInt8) : okL (Lib.encodeRune r ++ t) = okL t := by
  rw [okL_cons _ (enc_ne r t)]
  have hb : badHead (Lib.encodeRune r ++ t) = false := by
    unfold badHead
    rw [dec_enc hv t]
    obtain ⟨n, rfl, hn⟩ := valid_nat hv
    rw [Int.toNat_natCast]
    by_cases h : n = 65533
    · subst h
      rw [show Lib.encodeRune ((65533 : Nat) : Int) = [239, 191, 189] from by rw [enc3 _ (by omega)]; rfl]
      rfl
    · have : (n == 65533) = false := by simp [h]
      rw [this]
      rfl
  rw [hb, dec_enc hv t]
  simp

/-- Of is the other way about of Runes. -/
theorem runes_ofL : ∀ (xs : List Int) (_ : ofOk xs = true), runes (ofL xs) = xs
  | [], _ => rfl
  | x :: t, h => by
    have h1 : Lib.validRune x = true ∧ ofOk t = true := by simpa [ofOk] using h
    have e : ofL (x :: t) = Lib.encodeRune x ++ ofL t := by simp [ofL]
    rw [e, runes_enc h1.1, runes_ofL t h1.2]
theorem okL_ofL : ∀ (xs : List Int) (_ : ofOk xs = true), okL (ofL xs) = true
  | [], _ => rfl
  | x :: t, h => by
    have h1 : Lib.validRune x = true ∧ ofOk t = true := by simpa [ofOk] using h
    have e : ofL (x :: t) = Lib.encodeRune x ++ ofL t := by simp [ofL]
    rw [e, okL_enc h1.1, okL_ofL t h1.2]

theorem okL_bad (l : List UInt8) (hne : l ≠ []) (h : Lib.decodeL l = (65533, 1)) : okL l = false := by
  rw [okL_cons l hne]
  have : badHead l = true := by unfold badHead; rw [h]; rfl
  rw [this]
  rfl

/-- A rune of several bytes without its first one is none. -/
theorem okL_tail {r : Int} (hv : Lib.validRune r = true) (h : 128 ≤ r) : okL ((Lib.encodeRune r).drop 1) = false := by
  obtain ⟨n, rfl, hn⟩ := valid_nat hv
  by_cases c2 : n < 2048
  · rw [enc2 n (by omega) c2]
    refine okL_bad _ (by simp) ?_
    rw [Lib.decodeL_N]
    simp only [List.drop_succ_cons, List.drop_zero, List.getD_cons_zero]
    rw [ofNat_toNat _ (by omega)]
    exact Lib.decodeN_cont _ _ _ _ _ (by omega)
  · by_cases c3 : n < 65536
    · rw [enc3 n (by omega)]
      refine okL_bad _ (by simp) ?_
      rw [Lib.decodeL_N]
      simp only [List.drop_succ_cons, List.drop_zero, List.getD_cons_zero]
      rw [ofNat_toNat (128 + n / 64 % 64) (by omega)]
      exact Lib.decodeN_cont _ _ _ _ _ (by omega)
    · rw [enc4 n (by omega) (by omega)]
      refine okL_bad _ (by simp) ?_
      rw [Lib.decodeL_N]
      simp only [List.drop_succ_cons, List.drop_zero, List.getD_cons_zero]
      rw [ofNat_toNat (128 + n / 4096 % 64) (by omega)]
      exact Lib.decodeN_cont _ _ _ _ _ (by omega)

theorem dN_short (m b0 b1 b2 b3 : Nat) (h0 : 128 ≤ b0) (h2 : m < 2 ∨ b0 / 32 ≠ 6) (h3 : m < 3 ∨ b0 / 16 ≠ 14) (h4 : m < 4 ∨ b0 / 8 ≠ 30) : Lib.decodeN m b0 b1 b2 b3 = (65533, 1) := by
  unfold Lib.decodeN
  rw [if_neg (by omega), if_neg (by omega), if_neg (by omega), if_neg (by omega)]

/-- .. nor without its last one. -/
theorem okL_front {r : Int} (hv : Lib.validRune r = true) (h : 128 ≤ r) : okL ((Lib.encodeRune r).take ((Lib.encodeRune r).length - 1)) = false := by
  obtain ⟨n, rfl, hn⟩ := valid_nat hv
  by_cases c2 : n < 2048
  · rw [enc2 n (by omega) c2]
    refine okL_bad _ (by simp) ?_
    rw [Lib.decodeL_N]
    simp only [List.length_cons, List.length_nil, List.take_succ_cons, List.take_zero, List.getD_cons_zero, Nat.add_one_sub_one, Nat.zero_add]
    rw [ofNat_toNat (192 + n / 64) (by omega)]
    exact dN_short _ _ _ _ _ (by omega) (by omega) (by omega) (by omega)
  · by_cases c3 : n < 65536
    · rw [enc3 n (by omega)]
      refine okL_bad _ (by simp) ?_
      rw [Lib.decodeL_N]
      simp only [List.length_cons, List.length_nil, List.take_succ_cons, List.take_zero, List.getD_cons_zero, Nat.add_one_sub_one, Nat.zero_add]
      rw [ofNat_toNat (224 + n / 4096) (by omega)]
      exact dN_short _ _ _ _ _ (by omega) (by omega) (by omega) (by omega)
    · rw [enc4 n (by omega) (by omega)]
      refine okL_bad _ (by simp) ?_
      rw [Lib.decodeL_N]
      simp only [List.length_cons, List.length_nil, List.take_succ_cons, List.take_zero, List.getD_cons_zero, Nat.add_one_sub_one, Nat.zero_add]
      rw [ofNat_toNat (240 + n / 262144) (by omega)]
      exact dN_short _ _ _ _ _ (by omega) (by omega) (by omega) (by omega)

theorem enc_len1 {n : Int} (h0 : 0 ≤ n) (h1 : n < 128) : (Lib.encodeRune n).length = 1 := by
  obtain ⟨k, rfl⟩ := Int.eq_ofNat_of_zero_le h0
  rw [enc1 k (by omega)]; rfl
theorem enc_len2 {n : Int} (h0 : 128 ≤ n) (h1 : n < 2048) : (Lib.encodeRune n).length = 2 := by
  obtain ⟨k, rfl⟩ := Int.eq_ofNat_of_zero_le (show 0 ≤ n by omega)
  rw [enc2 k (by omega) (by omega)]; rfl
theorem enc_len3 {n : Int} (h : (2048 ≤ n ∧ n < 55296) ∨ (57343 < n ∧ n < 65536)) : (Lib.encodeRune n).length = 3 := by
  obtain ⟨k, rfl⟩ := Int.eq_ofNat_of_zero_le (show 0 ≤ n by omega)
  rw [enc3 k (by omega)]; rfl
theorem enc_len4 {n : Int} (h0 : 65536 ≤ n) (h1 : n ≤ 1114111) : (Lib.encodeRune n).length = 4 := by
  obtain ⟨k, rfl⟩ := Int.eq_ofNat_of_zero_le (show 0 ≤ n by omega)
  rw [enc4 k (by omega) (by omega)]; rfl

theorem dec_valid (l : List UInt8) : Lib.validRune ((Lib.decodeL l).1 : Int) = true := by
  apply decide_eq_true
  rw [Lib.decodeL_N]
  have k0 := (l.getD 0 0).toNat_lt
  have k1 := (l.getD 1 0).toNat_lt
  have k2 := (l.getD 2 0).toNat_lt
  have k3 := (l.getD 3 0).toNat_lt
  rcases Lib.decodeN_shape l.length (l.getD 0 0).toNat (l.getD 1 0).toNat (l.getD 2 0).toNat (l.getD 3 0).toNat with ⟨c, e⟩ | ⟨c1, c2, c3, cv, e⟩ | ⟨c1, c2, c3, c4, cv, cs, e⟩ | ⟨c1, c2, c3, c4, c5, cv, cw, e⟩ | e
  all_goals (rw [e]; simp only []; omega)

/-- A text is what its runes are written as. -/
theorem ok_ofL : ∀ (n : Nat) (l : List UInt8), l.length ≤ n → okL l = true → ofL (runes l) = l ∧ ofOk (runes l) = true
  | 0, l, h, _ => by
    have : l = [] := List.length_eq_zero_iff.1 (by omega)
    subst this
    exact ⟨rfl, rfl⟩
  | n + 1, l, h, hok => by
    by_cases hne : l = []
    · subst hne
      exact ⟨rfl, rfl⟩
    · have hp := dec_pos l
      have hlen : 0 < l.length := List.length_pos_iff.2 hne
      rw [okL_cons l hne] at hok
      cases hb : badHead l with
      | true => rw [hb] at hok; cases hok
      | false =>
        rw [hb] at hok
        have hok2 : okL (l.drop (Lib.decodeL l).2) = true := by simpa using hok
        obtain ⟨i1, i2⟩ := ok_ofL n (l.drop (Lib.decodeL l).2) (by rw [List.length_drop]; omega) hok2
        have hed := Lib.encode_decode l hne (by
          rintro ⟨a, b⟩
          unfold badHead at hb
          rw [a, b] at hb
          cases hb)
        rw [runes_cons l hne]
        constructor
        · have e : ofL (((Lib.decodeL l).1 : Int) :: runes (l.drop (Lib.decodeL l).2)) = Lib.encodeRune ((Lib.decodeL l).1 : Int) ++ ofL (runes (l.drop (Lib.decodeL l).2)) := by simp [ofL]
          rw [e, hed, i1, List.take_append_drop]
        · unfold ofOk at *
          rw [List.all_cons, dec_valid, i2]
          rfl
theorem ok_back {l : List UInt8} (h : okL l = true) : ofL (runes l) = l := (ok_ofL _ l (Nat.le_refl _) h).1
theorem ok_runes {l : List UInt8} (h : okL l = true) : ofOk (runes l) = true := (ok_ofL _ l (Nat.le_refl _) h).2
theorem runes_len : ∀ (n : Nat) (l : List UInt8), l.length ≤ n → (runes l).length ≤ l.length
  | 0, l, h => by
    have : l = [] := List.length_eq_zero_iff.1 (by omega)
    subst this
    simp [runes_nil]
  | n + 1, l, h => by
    by_cases hne : l = []
    · subst hne
      simp [runes_nil]
    · have hp := dec_pos l
      have hlen : 0 < l.length := List.length_pos_iff.2 hne
      have := runes_len n (l.drop (Lib.decodeL l).2) (by rw [List.length_drop]; omega)
      rw [runes_cons l hne, List.length_cons]
      rw [List.length_drop] at this
      omega
theorem runes_range (l : List UInt8) (h : okL l = true) : ∀ x ∈ runes l, -2147483648 ≤ x ∧ x ≤ 2147483647 := by
  intro x hx
  have hv := List.all_eq_true.1 (ok_runes h) x hx
  have : (0 ≤ x ∧ x < 0xD800) ∨ (0xDFFF < x ∧ x ≤ 0x10FFFF) := of_decide_eq_true hv
  omega

/-- The runes out of which chancellaw1.Of makes its texts. -/
def some22 : List Int := [97, 98, 42, 34, 92, 10, 9, 1, 31, 127, 128, 233, 2047, 2048, 8364, 55295, 57344, 65533, 65535, 65536, 128512, 1114111]
def pick (z : Int) : Int := some22.getD (z % 22).toNat 0
def picks (zs : List Int) : List Int := (zs.take 40).map pick
def txt (zs : List Int) : List UInt8 := ofL (picks zs)

theorem some22_ok : some22.all Lib.validRune = true := by decide
theorem pick_mem (z : Int) : pick z ∈ some22 := by
  have h0 := Int.emod_nonneg z (show (22 : Int) ≠ 0 by decide)
  have h1 := Int.emod_lt_of_pos z (show (0 : Int) < 22 by decide)
  have h2 : (z % 22).toNat < some22.length := by show _ < 22; omega
  unfold pick
  rw [List.getD, List.getElem?_eq_getElem h2]
  exact List.getElem_mem h2
theorem pick_ok (z : Int) : Lib.validRune (pick z) = true := List.all_eq_true.1 some22_ok _ (pick_mem z)
theorem picks_ok (zs : List Int) : ofOk (picks zs) = true := by
  unfold ofOk picks
  rw [List.all_eq_true]
  intro x hx
  obtain ⟨z, _, rfl⟩ := List.mem_map.1 hx
  exact pick_ok z
theorem picks_len (zs : List Int) : (picks zs).length ≤ 40 := by simp [picks]; omega
theorem txt_len (zs : List Int) : (txt zs).length ≤ 160 := by
  have h1 := ofL_len (picks zs)
  have h2 := picks_len zs
  unfold txt
  omega
end Go.Proofs.Ythmmplmppchfmaa

namespace Go.Proofs.Ythmmplmppchfmaa
open Go.RowKit

theorem i32_and63 (x : Int) (h0 : 0 ≤ x) (h1 : x < 2147483648) : bits .and .i32 x 63 = x % 64 := bits_mask .i32 31 (by decide) wraps_i32 6 (by decide) x h0 h1
theorem b63 (x : Int) (h0 : 0 ≤ x) (h1 : x < 2147483648) : bits .or .u8 128 (bits .and .i32 x 63 % 256) = 128 + x % 64 := by
  rw [i32_and63 x h0 h1, show x % 64 % 256 = x % 64 from by omega]
  exact u8_or128 _ (by omega) (by omega)

set_option maxHeartbeats 1000000 in
theorem is_any (r : Int) (w : World) :
    Calls Try.prog 82 #[.int .i32 r] w fun e w' => e = .returned (.bool (Lib.validRune r)) ∧ w' = w := by
  by_cases h : (0 ≤ r ∧ r < 55296) ∨ (57343 < r ∧ r ≤ 1114111)
  · have hv : Lib.validRune r = true := decide_eq_true h
    rw [hv]
    clear hv
    rcases h with ⟨h1, h2⟩ | ⟨h1, h2⟩
    · go_enter Try.func82, Try.ntmps82
      go_wp2
      go_ret
      refine ⟨ret_bool ?_, rfl⟩
      simp
      try omega
    · go_enter Try.func82, Try.ntmps82
      go_wp2
      go_ret
      refine ⟨ret_bool ?_, rfl⟩
      simp
      try omega
  · have hv : Lib.validRune r = false := decide_eq_false h
    rw [hv]
    clear hv
    have h' : r < 0 ∨ 1114111 < r ∨ (55296 ≤ r ∧ r ≤ 57343) := by omega
    clear h
    rcases h' with h1 | h1 | ⟨h1, h2⟩
    · go_enter Try.func82, Try.ntmps82
      go_wp2
      go_ret
      refine ⟨ret_bool ?_, rfl⟩
      simp
      try omega
    · go_enter Try.func82, Try.ntmps82
      go_wp2
      go_ret
      refine ⟨ret_bool ?_, rfl⟩
      simp
      try omega
    · go_enter Try.func82, Try.ntmps82
      go_wp2
      go_ret
      refine ⟨ret_bool ?_, rfl⟩
      simp
      try omega

set_option maxHeartbeats 4000000 in
set_option maxRecDepth 100000 in
theorem put_one (B : Nat) (v : Value) (n : Nat) (xs : List Value) (r : Int) (h0 : 0 ≤ r) (h1 : r < 128) (w : World) (hown : w.ownsRow B 5 1 v n xs) (hlen : n + 4 ≤ 140737488355328) (hBw : B ≤ w.heap.size) :
    Calls Try.prog 83 #[v, .int .i32 r] w fun e w' => ∃ v', e = .returned v' ∧ w'.ownsRow B 5 1 v' (n + 1) (xs ++ [.int .u8 (r)]) ∧ ∃ o, (w.alloc o).grownBy w' v.ownBlock := by
  obtain ⟨i0, hi, hz0, hz1, hz2⟩ := info_parts infoByte
  go_enter Try.func83, Try.ntmps83
  go_wp2_with (at_builtin; refine wpList_append_own _ rfl _ _ 37 rfl B 5 i0 (.int .u8 0) 1 1 Try.underlying37 hi hz0 hz1 hz2 rfl (by decide) _ _ _ rfl (hown.alloc _) ⟨w.heap.size, 0, none⟩ 1 1 [.int .u8 (r)] rfl rfl ?c1 ?c2 ?c3 ?c4 ?c5 ?_)
  case c1 =>
    intro j u hj
    match j, hj with
    | 0, hj => simp at hj; subst hj; simp [Addr.add]
  case c2 => intro u hu; simp at hu; subst hu; rfl
  case c3 => unfold maxLen; omega
  case c4 => omega
  case c5 => simp; omega
  intro v' w2 hown' hgrow _
  go_wp2
  go_ret
  exact ⟨_, rfl, hown', _, hgrow⟩

set_option maxHeartbeats 4000000 in
set_option maxRecDepth 100000 in
theorem put_two (B : Nat) (v : Value) (n : Nat) (xs : List Value) (r : Int) (h0 : 128 ≤ r) (h1 : r < 2048) (w : World) (hown : w.ownsRow B 5 1 v n xs) (hlen : n + 4 ≤ 140737488355328) (hBw : B ≤ w.heap.size) :
    Calls Try.prog 83 #[v, .int .i32 r] w fun e w' => ∃ v', e = .returned v' ∧ w'.ownsRow B 5 1 v' (n + 2) (xs ++ [.int .u8 (192 + r / 64), .int .u8 (128 + r % 64)]) ∧ ∃ o, (w.alloc o).grownBy w' v.ownBlock := by
  obtain ⟨i0, hi, hz0, hz1, hz2⟩ := info_parts infoByte
  go_enter Try.func83, Try.ntmps83
  go_wp2_with (at_builtin; refine wpList_append_own _ rfl _ _ 37 rfl B 5 i0 (.int .u8 0) 1 1 Try.underlying37 hi hz0 hz1 hz2 rfl (by decide) _ _ _ rfl (hown.alloc _) ⟨w.heap.size, 0, none⟩ 2 2 [.int .u8 (192 + r / 64), .int .u8 (128 + r % 64)] rfl rfl ?c1 ?c2 ?c3 ?c4 ?c5 ?_)
  case c1 =>
    intro j u hj
    match j, hj with
    | 0, hj => simp at hj; subst hj; simp [Addr.add]
    | 1, hj => simp at hj; subst hj; simp [Addr.add]; exact b63 _ (by omega) (by omega)
    | (j + 2), hj => simp at hj
  case c2 => intro u hu; simp at hu; rcases hu with rfl | rfl <;> rfl
  case c3 => unfold maxLen; omega
  case c4 => omega
  case c5 => simp; omega
  intro v' w2 hown' hgrow _
  go_wp2
  go_ret
  exact ⟨_, rfl, hown', _, hgrow⟩

set_option maxHeartbeats 4000000 in
set_option maxRecDepth 100000 in
theorem put_three (B : Nat) (v : Value) (n : Nat) (xs : List Value) (r : Int) (h0 : 2048 ≤ r) (h1 : r < 65536) (w : World) (hown : w.ownsRow B 5 1 v n xs) (hlen : n + 4 ≤ 140737488355328) (hBw : B ≤ w.heap.size) :
    Calls Try.prog 83 #[v, .int .i32 r] w fun e w' => ∃ v', e = .returned v' ∧ w'.ownsRow B 5 1 v' (n + 3) (xs ++ [.int .u8 (224 + r / 4096), .int .u8 (128 + r / 64 % 64), .int .u8 (128 + r % 64)]) ∧ ∃ o, (w.alloc o).grownBy w' v.ownBlock := by
  obtain ⟨i0, hi, hz0, hz1, hz2⟩ := info_parts infoByte
  go_enter Try.func83, Try.ntmps83
  go_wp2_with (at_builtin; refine wpList_append_own _ rfl _ _ 37 rfl B 5 i0 (.int .u8 0) 1 1 Try.underlying37 hi hz0 hz1 hz2 rfl (by decide) _ _ _ rfl (hown.alloc _) ⟨w.heap.size, 0, none⟩ 3 3 [.int .u8 (224 + r / 4096), .int .u8 (128 + r / 64 % 64), .int .u8 (128 + r % 64)] rfl rfl ?c1 ?c2 ?c3 ?c4 ?c5 ?_)
  case c1 =>
    intro j u hj
    match j, hj with
    | 0, hj => simp at hj; subst hj; simp [Addr.add]
    | 1, hj => simp at hj; subst hj; simp [Addr.add]; exact b63 _ (by omega) (by omega)
    | 2, hj => simp at hj; subst hj; simp [Addr.add]; exact b63 _ (by omega) (by omega)
    | (j + 3), hj => simp at hj
  case c2 => intro u hu; simp at hu; rcases hu with rfl | rfl | rfl <;> rfl
  case c3 => unfold maxLen; omega
  case c4 => omega
  case c5 => simp; omega
  intro v' w2 hown' hgrow _
  go_wp2
  go_ret
  exact ⟨_, rfl, hown', _, hgrow⟩

set_option maxHeartbeats 4000000 in
set_option maxRecDepth 100000 in
theorem put_four (B : Nat) (v : Value) (n : Nat) (xs : List Value) (r : Int) (h0 : 65536 ≤ r) (h1 : r ≤ 1114111) (w : World) (hown : w.ownsRow B 5 1 v n xs) (hlen : n + 4 ≤ 140737488355328) (hBw : B ≤ w.heap.size) :
    Calls Try.prog 83 #[v, .int .i32 r] w fun e w' => ∃ v', e = .returned v' ∧ w'.ownsRow B 5 1 v' (n + 4) (xs ++ [.int .u8 (240 + r / 262144), .int .u8 (128 + r / 4096 % 64), .int .u8 (128 + r / 64 % 64), .int .u8 (128 + r % 64)]) ∧ ∃ o, (w.alloc o).grownBy w' v.ownBlock := by
  obtain ⟨i0, hi, hz0, hz1, hz2⟩ := info_parts infoByte
  go_enter Try.func83, Try.ntmps83
  go_wp2_with (at_builtin; refine wpList_append_own _ rfl _ _ 37 rfl B 5 i0 (.int .u8 0) 1 1 Try.underlying37 hi hz0 hz1 hz2 rfl (by decide) _ _ _ rfl (hown.alloc _) ⟨w.heap.size, 0, none⟩ 4 4 [.int .u8 (240 + r / 262144), .int .u8 (128 + r / 4096 % 64), .int .u8 (128 + r / 64 % 64), .int .u8 (128 + r % 64)] rfl rfl ?c1 ?c2 ?c3 ?c4 ?c5 ?_)
  case c1 =>
    intro j u hj
    match j, hj with
    | 0, hj => simp at hj; subst hj; simp [Addr.add]
    | 1, hj => simp at hj; subst hj; simp [Addr.add]; exact b63 _ (by omega) (by omega)
    | 2, hj => simp at hj; subst hj; simp [Addr.add]; exact b63 _ (by omega) (by omega)
    | 3, hj => simp at hj; subst hj; simp [Addr.add]; exact b63 _ (by omega) (by omega)
    | (j + 4), hj => simp at hj
  case c2 => intro u hu; simp at hu; rcases hu with rfl | rfl | rfl | rfl <;> rfl
  case c3 => unfold maxLen; omega
  case c4 => omega
  case c5 => simp; omega
  intro v' w2 hown' hgrow _
  go_wp2
  go_ret
  exact ⟨_, rfl, hown', _, hgrow⟩

theorem put_any (B : Nat) (v : Value) (n : Nat) (xs : List Value) (r : Int) (hv : Lib.validRune r = true) (w : World) (hown : w.ownsRow B 5 1 v n xs) (hlen : n + 4 ≤ 140737488355328) (hBw : B ≤ w.heap.size) :
    Calls Try.prog 83 #[v, .int .i32 r] w fun e w' => ∃ v', e = .returned v' ∧ w'.ownsRow B 5 1 v' (n + (Lib.encodeRune r).length) (xs ++ Lib.byteCells (Lib.encodeRune r)) ∧ ∃ o, (w.alloc o).grownBy w' v.ownBlock := by
  have h : (0 ≤ r ∧ r < 0xD800) ∨ (0xDFFF < r ∧ r ≤ 0x10FFFF) := of_decide_eq_true hv
  rw [Lib.byteCells_encodeRune, ← Lib.runeCells_length]
  unfold Lib.runeCells
  by_cases c1 : r < 128
  · rw [Lib.encodeRuneZ_one (by omega) (by omega)]
    exact put_one B v n xs r (by omega) c1 w hown hlen hBw
  · by_cases c2 : r < 2048
    · rw [Lib.encodeRuneZ_two (by omega) (by omega)]
      exact put_two B v n xs r (by omega) c2 w hown hlen hBw
    · by_cases c3 : r < 65536
      · rw [Lib.encodeRuneZ_three (by omega)]
        exact put_three B v n xs r (by omega) c3 w hown hlen hBw
      · rw [Lib.encodeRuneZ_four (by omega) (by omega)]
        exact put_four B v n xs r (by omega) (by omega) w hown hlen hBw
end Go.Proofs.Ythmmplmppchfmaa

namespace Go.Proofs.Ythmmplmppchfmaa
open Go.RowKit

theorem tzIx : IntKind.u64.wrap (bits BinOp.and IntKind.u64 16 (IntKind.u64.wrap (-16)) * 285870213051353865) / 288230376151711744 = 15 := by decide +kernel

theorem byte_at (s : ByteArray) (i : Nat) (hi : i < s.size) : s[i] = s.data.toList.getD i 0 := by
  have hi' : i < s.data.size := hi
  show s.data[i]'hi' = _
  rw [List.getD, Array.getElem?_toList, Array.getElem?_eq_getElem hi']
  rfl

theorem dig_at (k : Nat) (h : k < (⟨#[48, 49, 50, 51, 52, 53, 54, 55, 56, 57, 97, 98, 99, 100, 101, 102, 103, 104, 105, 106, 107, 108, 109, 110, 111, 112, 113, 114, 115, 116, 117, 118, 119, 120, 121, 122]⟩ : ByteArray).size) :
    (⟨#[48, 49, 50, 51, 52, 53, 54, 55, 56, 57, 97, 98, 99, 100, 101, 102, 103, 104, 105, 106, 107, 108, 109, 110, 111, 112, 113, 114, 115, 116, 117, 118, 119, 120, 121, 122]⟩ : ByteArray)[k] = dig k := by
  rw [byte_at]
  rfl

theorem conv_back (w : World) (a : Addr) (n cap : Nat) (l : List UInt8) (hn : n = l.length)
    (hc : ∀ j (hj : j < l.length), w.cell? (a.add j) = some (.int .u8 (l[j].toNat : Int))) :
    (convert 37 9 (.slice (some a) n cap)).run Try.prog w = .ok (.string ⟨l.toArray⟩) w := by
  subst hn
  exact run_convert_bytes_back w 37 9 5 a cap l Try.underlying37 Try.underlying5 Try.underlying9 hc

theorem low4 (k : Nat) (h : k < 256) : bits BinOp.and IntKind.u64 (k : Int) 15 = ((k % 16 : Nat) : Int) := by
  have := u64_and_nat k 15 (by omega) (by omega)
  rw [show ((15 : Nat) : Int) = 15 from rfl] at this
  rw [this]
  have : k &&& 15 = k % 16 := Nat.and_two_pow_sub_one_eq_mod k 4
  rw [this]

end Go.Proofs.Ythmmplmppchfmaa

namespace Go.Proofs.Ythmmplmppchfmaa
open Go.RowKit

theorem add0 (g j : Nat) : (⟨g, 0, none⟩ : Addr).add j = ⟨g, j, none⟩ := by
  simp [Addr.add]
  intro h
  exact h.symm

/-- string(b) of a row of bytes that the call owns. -/
theorem conv_owned {w : World} {B : Nat} {v : Value} {l : List UInt8} (h : w.ownsRow B 5 1 v l.length (Lib.byteCells l)) :
    (convert 37 9 v).run Try.prog w = .ok (.string ⟨l.toArray⟩) w := by
  by_cases h0 : 0 < l.length
  · obtain ⟨g, cap, rfl, _, _, _, hc⟩ := owns_open h h0
    refine conv_back w ⟨g, 0, none⟩ l.length cap l rfl (fun j hj => ?_)
    have := hc j (.int .u8 (l[j].toNat : Int)) (by simp [Lib.byteCells, hj])
    rw [show (⟨g, 0, none⟩ : Addr).add j = ⟨g, j, none⟩ from add0 g j]
    exact this
  · have hl : l = [] := List.length_eq_zero_iff.1 (by omega)
    subst hl
    rcases h.2 with ⟨rfl, _⟩ | ⟨g, cap, cur, hv, _⟩
    · rw [run_convert_bytes_string w 37 9 5 none 0 0 Try.underlying37 Try.underlying5 Try.underlying9]
      rfl
    · subst hv
      exact conv_back w ⟨g, 0, none⟩ 0 cap [] rfl (fun j hj => by simp at hj)

set_option maxHeartbeats 4000000 in
set_option maxRecDepth 1000000 in
theorem rof_any (xs : List Int) (ao : Option Addr) (cap : Nat) (w : World) (hl : xs.length ≤ 1099511627776) (hrow : RowAt w ao xs) :
    Calls Try.prog 75 #[.slice ao xs.length cap] w fun e w' => e = .returned (.tuple #[.string ⟨(ofS xs).toArray⟩, .int .i64 (ofE xs)]) ∧ Below w.heap.size w w' := by
  go_enter Try.func75, Try.ntmps75
  go_wp2
  go_loopw [4, 5] (fun v i wr => ∃ (k : Nat), k ≤ xs.length ∧ i = .int .i64 k ∧ wr.ownsRow w.heap.size 5 1 v (ofL (xs.take k)).length (Lib.byteCells (ofL (xs.take k))) ∧ Below w.heap.size w wr ∧ ofOk (xs.take k) = true) (fun _ i _ => xs.length - (intOf i).toNat)
  case atStart =>
    exact ⟨0, Nat.zero_le _, rfl, ⟨by simp [ofL, Lib.byteCells], .inl ⟨rfl, rfl⟩⟩, Below.refl _ w, rfl⟩
  case round =>
    obtain ⟨k, hk, rfl, hown, hbw, hok⟩ := hrel
    have HOK := hide hok
    clear hok
    have hsz := hbw.size
    have hlen := ofL_len (xs.take k)
    have hlen2 : (xs.take k).length ≤ k := List.length_take_le _ _
    by_cases hlt : k < xs.length
    · obtain ⟨b, off, rfl, hb, hc⟩ := hrow k hlt
      have hc2 := (hbw.cell (p := ⟨b, off + k, none⟩) hb).trans hc
      have HT := hide (List.take_succ_eq_append_getElem hlt)
      generalize hxk : xs[k] = x at *
      have HXK := hide hxk
      clear hxk hc
      go_wp2_with fail
      refine (is_any _ _).mono ?_
      rintro e w1 ⟨rfl, rfl⟩
      generalize hv : Lib.validRune x = vb
      have HV := hide hv
      clear hv
      cases vb
      · go_wp2
        go_ret2
        refine ⟨?_, hbw⟩
        have hbad : ofOk xs = false := ofOk_bad hlt (by rw [unhide HXK]; exact unhide HV)
        rw [ofS_bad hbad, ofE_bad hbad]
        rfl
      · go_wp2_with fail
        refine (put_any w.heap.size _ _ _ _ (unhide HV) _ hown (by omega) hsz).mono ?_
        rintro e w2 ⟨v', rfl, hown', o, hgrow⟩
        have hb2 : Below w.heap.size w w2 := (hbw.alloc hsz o).grown hgrow (by simp; omega) (fun g hg => (hown.lt g hg).1)
        go_wp2
        go_roundw
        case rel =>
          refine ⟨k + 1, by omega, by go_num, ?_, hb2, ?_⟩
          · rw [unhide HT, ofL_snoc, Lib.byteCells_append, List.length_append]
            exact hown'
          · rw [unhide HT, ofOk_snoc, unhide HOK, unhide HV]
            rfl
        case measure =>
          simp [intOf]
          omega
    · have hke : k = xs.length := by omega
      subst hke
      rw [List.take_length] at hown HOK
      have hcv := conv_owned hown
      go_wp2
      go_ret2
      refine ⟨?_, hbw⟩
      rw [ofS_ok (unhide HOK), ofE_ok (unhide HOK)]
      rfl

end Go.Proofs.Ythmmplmppchfmaa

namespace Go.Proofs.Ythmmplmppchfmaa
open Go.RowKit

/-- The cells of a slice of ints. -/
def IntsAt (w : World) (ao : Option Addr) (zs : List Int) : Prop :=
  ∀ j (hj : j < zs.length), ∃ b off, ao = some ⟨b, off, none⟩ ∧ b < w.heap.size ∧ w.cell? ⟨b, off + j, none⟩ = some (.int .i64 zs[j])

theorem IntsAt.below {w w' : World} {ao : Option Addr} {zs : List Int} (h : IntsAt w ao zs) (hb : Below w.heap.size w w') : IntsAt w' ao zs := by
  intro j hj
  obtain ⟨b, off, e, hlt, hc⟩ := h j hj
  have := hb.size
  exact ⟨b, off, e, by omega, (hb.cell (p := ⟨b, off + j, none⟩) hlt).trans hc⟩

theorem rowAt_owns {w : World} {B : Nat} {v : Value} {xs : List Int} (h : w.ownsRow B 21 1 v xs.length (xs.map (Value.int .i32))) : ∃ ao cap, v = .slice ao xs.length cap ∧ RowAt w ao xs ∧ xs.length ≤ cap ∧ cap ≤ maxLen := by
  rcases h.2 with ⟨rfl, h0⟩ | ⟨g, cap, cur, rfl, _, hg, hnc, hcm, _, _⟩
  · exact ⟨none, 0, by rw [h0], fun j hj => by omega, by omega, by unfold maxLen; omega⟩
  · refine ⟨_, cap, rfl, fun j hj => ?_, hnc, hcm⟩
    obtain ⟨g', cap', e, _, hg', _, hc⟩ := owns_open h (by omega)
    cases e
    exact ⟨g, 0, rfl, hg', by rw [Nat.zero_add]; exact hc j _ (by simp [hj])⟩

def someCells : Array Value := (some22.map (Value.int .i32)).toArray

set_option maxHeartbeats 4000000 in
set_option maxRecDepth 1000000 in
theorem lawOf_any (zs : List Int) (ao : Option Addr) (cap : Nat) (w : World) (hl : zs.length ≤ 9223372036854775807) (hz : IntsAt w ao zs) :
    Calls Try.prog 48 #[.slice ao zs.length cap] w fun e w' => e = .returned (.string ⟨(txt zs).toArray⟩) ∧ Below w.heap.size w w' := by
  obtain ⟨i0, hi, hz0, hz1, hz2⟩ := info_parts infoRune
  go_enter Try.func48, Try.ntmps48
  go_wp2
  go_loopw [4, 5] (fun v i wr => ∃ (k : Nat), k ≤ zs.length ∧ k ≤ 40 ∧ i = .int .i64 k ∧ wr.heap[w.heap.size]? = some (.cells someCells 21 (0, 0)) ∧ wr.ownsRow (w.heap.size + 1) 21 1 v ((zs.take k).map pick).length (((zs.take k).map pick).map (Value.int .i32)) ∧ Below w.heap.size w wr) (fun _ i _ => 40 - (intOf i).toNat)
  case atStart =>
    refine ⟨0, Nat.zero_le _, Nat.zero_le _, rfl, ?_, ⟨by simp, .inl ⟨rfl, rfl⟩⟩, (Below.refl _ w).alloc (Nat.le_refl _) _⟩
    exact alloc_heap w _
  case round =>
    obtain ⟨k, hk, hk40, rfl, hsome, hown, hbw⟩ := hrel
    have hsz : w.heap.size < wr.heap.size := (Array.getElem?_eq_some_iff.1 hsome).1
    by_cases hlt : k < zs.length ∧ k < 40
    · obtain ⟨hlt, hlt40⟩ := hlt
      obtain ⟨L, hL⟩ : ∃ L, L = (zs.take k).map pick := ⟨_, rfl⟩
      have hLl : L.length ≤ 40 := by rw [hL, List.length_map, List.length_take]; omega
      rw [← hL] at hown
      have HL := hide hL
      clear hL
      obtain ⟨b, off, rfl, hb, hc⟩ := hz k hlt
      have hc2 := (hbw.cell (p := ⟨b, off + k, none⟩) hb).trans hc
      have HT := hide (List.take_succ_eq_append_getElem hlt)
      generalize zs[k] = z at *
      clear hc
      have q0 := Int.emod_nonneg z (show (22 : Int) ≠ 0 by decide)
      have q1 := Int.emod_lt_of_pos z (show (0 : Int) < 22 by decide)
      have hpk : wr.cell? ⟨w.heap.size, (z % 22).toNat, none⟩ = some (.int .i32 (pick z)) := by
        rw [Lib.cell_of_heap hsome]
        have h2 : (z % 22).toNat < some22.length := by show _ < 22; omega
        simp [someCells, pick, List.getD, h2]
      go_wp2_with fail
      refine (within_any z 22 (by decide) (by decide) _).mono ?_
      rintro e w1 ⟨rfl, rfl⟩
      generalize z % 22 = q at *
      generalize hxx : pick z = x at *
      have HX := hide hxx
      clear hxx
      go_wp2_with (at_builtin; refine wpList_append_own _ rfl _ _ 113 rfl (w.heap.size + 1) 21 i0 (.int .i32 0) 1 4 Try.underlying113 hi hz0 hz1 hz2 rfl (by decide) _ _ _ rfl (hown.alloc _) ⟨w1.heap.size, 0, none⟩ 1 1 [.int .i32 x] rfl rfl ?c1 ?c2 ?c3 ?c4 ?c5 ?_)
      case c1 =>
        intro j u hj
        match j, hj with
        | 0, hj => simp at hj; subst hj; simp [Addr.add]
      case c2 => intro u hu; simp at hu; subst hu; rfl
      case c3 => unfold maxLen; omega
      case c4 => omega
      case c5 => simp; omega
      intro v' w2 hown' hgrow _
      have hb3 := (hbw.alloc (by omega) (.cells #[.int .i32 x] 21)).grown hgrow (by simp; omega) (fun g hg => by have := (hown.lt g hg).1; omega)
      have hsome3 : w2.heap[w.heap.size]? = some (.cells someCells 21 (0, 0)) := by
        rw [hgrow.block w.heap.size (by simp; omega) (fun e => by have := (hown.lt w.heap.size e.symm).1; omega), Lib.alloc_old w1 _ _ hsz]
        exact hsome
      go_wp2
      go_roundw
      case rel =>
        refine ⟨k + 1, by omega, by omega, by go_num, hsome3, ?_, hb3⟩
        have e : (zs.take k ++ [z]).map pick = (zs.take k).map pick ++ [x] := by
          rw [List.map_append, List.map_cons, List.map_nil, unhide HX]
        rw [unhide HT, e, ← unhide HL, List.map_append, List.length_append]
        exact hown'
      case measure =>
        simp [intOf]
        omega
    · have hend : zs.take k = zs.take 40 := by
        by_cases h40 : k = 40
        · rw [h40]
        · rw [List.take_of_length_le (by omega), List.take_of_length_le (by omega)]
      rw [hend] at hown
      have hown2 : wr.ownsRow (w.heap.size + 1) 21 1 _ (picks zs).length ((picks zs).map (Value.int .i32)) := hown
      obtain ⟨bo, cp, rfl, hrow, _, _⟩ := rowAt_owns hown2
      have hpl := picks_len zs
      have HPK := hide (picks_ok zs)
      clear hown hown2 hend
      have hlt' : ¬ (k : Int) < (zs.length : Int) ∨ ¬ (k : Int) < 40 := by omega
      by_cases hc1 : k < zs.length
      · have hc2 : ¬ k < 40 := by omega
        go_wp2_with fail
        refine (rof_any (picks zs) bo cp _ (by omega) hrow).mono ?_
        rintro e w2 ⟨rfl, b2⟩
        rw [ofS_ok (unhide HPK)]
        go_wp2
        go_ret
        exact ⟨rfl, hbw.trans (b2.mono (by omega))⟩
      · go_wp2_with fail
        refine (rof_any (picks zs) bo cp _ (by omega) hrow).mono ?_
        rintro e w2 ⟨rfl, b2⟩
        rw [ofS_ok (unhide HPK)]
        go_wp2
        go_ret
        exact ⟨rfl, hbw.trans (b2.mono (by omega))⟩

/-- The same, with a name for the text. -/
theorem lawOf_txt (zs : List Int) (ao : Option Addr) (cap : Nat) (w : World) (hl : zs.length ≤ 9223372036854775807) (hz : IntsAt w ao zs) :
    Calls Try.prog 48 #[.slice ao zs.length cap] w fun e w' => ∃ s : ByteArray, e = .returned (.string s) ∧ s.data.toList = txt zs ∧ s.size ≤ 160 ∧ Below w.heap.size w w' := by
  refine (lawOf_any zs ao cap w hl hz).mono ?_
  rintro e w' ⟨rfl, hb⟩
  refine ⟨_, rfl, rfl, ?_, hb⟩
  rw [Lib.size_eq]
  exact txt_len zs

end Go.Proofs.Ythmmplmppchfmaa

namespace Go.Proofs.Ythmmplmppchfmaa
open Go.ChangeShapes Go.WideShapes Go.ChangeAt Go.WideMaps Go.WideElems Go.RowKit

theorem c_rune : Try.prog.cellsOf 21 = 1 := by kernel_rfl
theorem c_int : Try.prog.cellsOf 3 = 1 := by kernel_rfl

theorem cell_lt {w : World} {b o : Nat} {v : Value} (h : w.cell? ⟨b, o, none⟩ = some v) : b < w.heap.size := by
  rcases Nat.lt_or_ge b w.heap.size with hl | hl
  · exact hl
  · unfold World.cell? at h
    rw [Array.getElem?_eq_none hl] at h
    cases h

set_option maxRecDepth 100000 in
theorem open_row {H : Type} {enc : TypeId × Value → H} {W : World} {b0 : Nat} {t e : TypeId} {k : IntKind} {v : Value} {d : DataW H} {ps : List MemPlace} (ht : Try.prog.underlying t = some (.slice e)) (he : Try.prog.underlying e = some (.int k)) (hc : Try.prog.cellsOf e = 1)
    (hv : Value.okWide Try.prog W .any b0 t v) (hd : DataW.Trod enc Try.prog W 0 (fun _ => true) true t v d ps) :
    ∃ (ao : Option Addr) (xs : List Int) (cap : Nat), v = .slice ao xs.length cap ∧ xs.length ≤ maxLen ∧ (∀ n ∈ xs, (Lit.int k n).wf = true) ∧
      ∀ j (hj : j < xs.length), ∃ b off, ao = some ⟨b, off, none⟩ ∧ b < W.heap.size ∧ W.cell? ⟨b, off + j, none⟩ = some (.int k xs[j]) := by
  obtain ⟨a0, len, cap, rfl⟩ := okWide_slice ht hv
  obtain ⟨fuel, hf⟩ := hd
  rcases open_ints ht he hc hf with ⟨hcs, _⟩ | ⟨a, len', cap', zs, hcs, _, hl, hm, hz, _, hcell, hwz⟩
  · simp [Value.cells] at hcs
    obtain ⟨rfl, rfl, rfl⟩ := hcs
    exact ⟨none, [], 0, rfl, by simp, by simp, fun j hj => by simp at hj⟩
  · simp [Value.cells] at hcs
    obtain ⟨rfl, rfl, rfl⟩ := hcs
    simp only [if_true] at hz
    have hlen : (zs.take len).length = len := by rw [List.length_take]; omega
    refine ⟨some a, zs.take len, cap, by rw [hlen], by omega, fun n hn => hwz n (List.mem_of_mem_take hn), fun j hj => ?_⟩
    obtain ⟨b, off, rfl, h2⟩ := ints_at hcell (by omega)
    have h3 := h2 j (by omega)
    refine ⟨b, off, rfl, cell_lt h3, ?_⟩
    rw [h3, List.getElem_take, List.getD, List.getElem?_eq_getElem (by omega)]
    rfl

set_option maxRecDepth 100000 in
theorem open_list {H : Type} {enc : TypeId × Value → H} {W : World} {b0 : Nat} {v : Value} {d : DataW H} {ps : List MemPlace}
    (hv : Value.okWide Try.prog W .any b0 23 v) (hd : DataW.Trod enc Try.prog W 0 (fun _ => true) true 23 v d ps) :
    ∃ (ao : Option Addr) (xs : List Int) (cap : Nat), v = .slice ao xs.length cap ∧ xs.length ≤ 9223372036854775807 ∧ IntsAt W ao xs := by
  obtain ⟨ao, xs, cap, e, hl, _, h⟩ := open_row Try.underlying23 Try.underlying3 c_int hv hd
  exact ⟨ao, xs, cap, e, by unfold maxLen at hl; omega, h⟩

/-- A Raw, its list aside. -/
structure RawE where
  k : Int
  n : Int
  so : Option Addr
  xs : List Int
  sc : Nat

/-- .. in memory. -/
structure RawE.Ok (W : World) (r : RawE) : Prop where
  len : r.xs.length ≤ 9223372036854775807
  cap : r.xs.length ≤ r.sc
  ints : IntsAt W r.so r.xs
  inr : (Lit.int .i64 r.n).wf = true

theorem RawE.Ok.below {W W' : World} {r : RawE} (h : r.Ok W) (hb : Below W.heap.size W W') : r.Ok W' := ⟨h.len, h.cap, h.ints.below hb, h.inr⟩

set_option maxRecDepth 100000 in
theorem open_ints1 {H : Type} {enc : TypeId × Value → H} {W : World} {fuel : Nat} {v : Value} {x : DataW H × List MemPlace} (h : DataW.trod enc Try.prog W 0 (fun _ => true) true fuel 23 [v] = some x) :
    ∃ (ao : Option Addr) (xs : List Int) (cap : Nat), v = .slice ao xs.length cap ∧ xs.length ≤ 9223372036854775807 ∧ xs.length ≤ cap ∧ IntsAt W ao xs := by
  rcases open_ints Try.underlying23 Try.underlying3 c_int h with ⟨hcs, _⟩ | ⟨a, len', cap', zs, hcs, _, hl, hm, hz, _, hcell, hwz⟩
  · cases hcs
    exact ⟨none, [], 0, rfl, by simp, by simp, fun j hj => by simp at hj⟩
  · cases hcs
    simp only [if_true] at hz
    have hlen : (zs.take len').length = len' := by rw [List.length_take]; omega
    refine ⟨some a, zs.take len', cap', by rw [hlen], by rw [hlen]; unfold maxLen at hm; omega, by omega, fun j hj => ?_⟩
    obtain ⟨b, off, rfl, h2⟩ := ints_at hcell (by omega)
    have h3 := h2 j (by omega)
    refine ⟨b, off, rfl, cell_lt h3, ?_⟩
    rw [h3, List.getElem_take, List.getD, List.getElem?_eq_getElem (by omega)]
    rfl

theorem c_raw : Try.prog.cellsOf 71 = 4 := by kernel_rfl

/-- The elements of a slice of Raws. -/
def RowRaw (W : World) (lo : Option Addr) (es : List RawE) : Prop :=
  ∀ j (hj : j < es.length), es[j].Ok W ∧ ∃ b off lo' ll' lc', lo = some ⟨b, off, none⟩ ∧ b < W.heap.size ∧ W.cell? ⟨b, off + j * 4, none⟩ = some (.int .i64 es[j].k) ∧ W.cell? ⟨b, off + j * 4 + 1, none⟩ = some (.int .i64 es[j].n) ∧ W.cell? ⟨b, off + j * 4 + 2, none⟩ = some (.slice es[j].so es[j].xs.length es[j].sc) ∧ W.cell? ⟨b, off + j * 4 + 3, none⟩ = some (.slice lo' ll' lc')

theorem RowRaw.below {W W' : World} {lo : Option Addr} {es : List RawE} (h : RowRaw W lo es) (hb : Below W.heap.size W W') : RowRaw W' lo es := by
  intro j hj
  obtain ⟨ho, b, off, lo', ll', lc', e, hlt, h0, h1, h2, h3⟩ := h j hj
  have := hb.size
  exact ⟨ho.below hb, b, off, lo', ll', lc', e, by omega, (hb.cell (p := ⟨b, off + j * 4, none⟩) hlt).trans h0, (hb.cell (p := ⟨b, off + j * 4 + 1, none⟩) hlt).trans h1, (hb.cell (p := ⟨b, off + j * 4 + 2, none⟩) hlt).trans h2, (hb.cell (p := ⟨b, off + j * 4 + 3, none⟩) hlt).trans h3⟩

set_option maxRecDepth 100000 in
/-- The four cells of a Raw, read. -/
theorem raw_cells {H : Type} {enc : TypeId × Value → H} {W : World} {n : Nat} {cs : List Value} {x : DataW H × List MemPlace} (h : DataW.trod enc Try.prog W 0 (fun _ => true) true n 71 cs = some x) :
    ∃ (r : RawE) (v3 : Value) (m : Nat) (y : DataW H × List MemPlace), cs = [.int .i64 r.k, .int .i64 r.n, .slice r.so r.xs.length r.sc, v3] ∧ r.Ok W ∧ DataW.trod enc Try.prog W 0 (fun _ => true) true m 43 [v3] = some y := by
  obtain ⟨y0, y1, y2, y3, m, _, hlen, h0, h1, h2, h3⟩ := Joins.trod_struct4 Try.underlying71 h
  rw [c_raw] at hlen
  match cs, hlen with
  | [a, b, c, d], _ =>
    have e1 : Try.prog.cellsOf 3 = 1 := by kernel_rfl
    have e2 : Try.prog.cellsOf 2 = 1 := by kernel_rfl
    have e3 : Try.prog.cellsOf 23 = 1 := by kernel_rfl
    have e4 : Try.prog.cellsOf 43 = 1 := by kernel_rfl
    simp only [e1] at h0
    simp only [e2] at h1
    simp only [e3] at h2
    simp only [e4] at h3
    obtain ⟨k, hk, _⟩ := DataW.trod_int Try.underlying3 h0
    obtain ⟨n', hn, _, hwf⟩ := DataW.trod_int Try.underlying2 h1
    obtain ⟨so, xs, sc, hs, hl, hc, hi⟩ := open_ints1 h2
    simp at hk hn
    subst hk hn hs
    exact ⟨⟨k, n', so, xs, sc⟩, d, m, y3, rfl, ⟨hl, hc, hi, hwf⟩, h3⟩

set_option maxRecDepth 100000 in
/-- A slice of Raws, read. -/
theorem raws_cell {H : Type} {enc : TypeId × Value → H} {W : World} {m : Nat} {v : Value} {y : DataW H × List MemPlace} (h : DataW.trod enc Try.prog W 0 (fun _ => true) true m 43 [v] = some y) :
    ∃ lo es lc, v = .slice lo es.length lc ∧ es.length ≤ 9223372036854775807 ∧ RowRaw W lo es := by
  rcases Deep.open_slice Try.underlying43 h with ⟨hcs, _⟩ | ⟨a, len, cap, m', n, D, Pl, hcs, _, hl, hm, hmm, _, hx⟩
  · cases hcs
    exact ⟨none, [], 0, rfl, by simp, fun j hj => by simp at hj⟩
  · cases hcs
    have hmm' : m' = cap := by simpa using hmm
    subst hmm'
    have H : ∀ i : Fin len, ∃ r : RawE, r.Ok W ∧ ∃ v3 lo' ll' lc', v3 = .slice lo' ll' lc' ∧ ∀ c u, ([.int .i64 r.k, .int .i64 r.n, .slice r.so r.xs.length r.sc, v3] : List Value)[c]? = some u → W.cell? ((a.add (i.1 * 4)).add c) = some u := fun i => by
      obtain ⟨cs', hcells, ht⟩ := hx i.1 (by have := i.2; omega)
      rw [c_raw] at hcells
      obtain ⟨_, hl4, hc⟩ := World.cells?_some hcells
      obtain ⟨r, v3, m2, y2, rfl, hok, h3⟩ := raw_cells ht
      refine ⟨r, hok, v3, ?_⟩
      rcases Deep.open_slice Try.underlying43 h3 with ⟨hcs, _⟩ | ⟨a2, len2, cap2, _, _, _, _, hcs, _⟩
      · cases hcs
        exact ⟨none, 0, 0, rfl, fun c u hu => (hc c (by have := (List.getElem?_eq_some_iff.1 hu).1; simpa using this)).trans hu⟩
      · cases hcs
        exact ⟨some a2, len2, cap2, rfl, fun c u hu => (hc c (by have := (List.getElem?_eq_some_iff.1 hu).1; simpa using this)).trans hu⟩
    obtain ⟨f, hf⟩ := Classical.axiomOfChoice H
    refine ⟨some a, List.ofFn f, m', by rw [List.length_ofFn], by rw [List.length_ofFn]; unfold maxLen at hm; omega, fun j hj => ?_⟩
    rw [List.length_ofFn] at hj
    rw [List.getElem_ofFn]
    obtain ⟨hok, v3, lo', ll', lc', e3, hc⟩ := hf ⟨j, hj⟩
    subst e3
    refine ⟨hok, ?_⟩
    obtain ⟨_, _, _, _, _, _, hc00⟩ := hf ⟨0, by omega⟩
    have h0 := hc00 0 _ rfl
    obtain ⟨b, off, sp⟩ := a
    have hsp' : sp = none := by simpa [Addr.add] using World.cell?_spot h0
    subst hsp'
    have k0 := hc 0 _ rfl
    have k1 := hc 1 _ rfl
    have k2 := hc 2 _ rfl
    have k3 := hc 3 _ rfl
    simp only [Addr.add_lit, Nat.add_zero] at k0 k1 k2 k3
    exact ⟨b, off, lo', ll', lc', rfl, cell_lt k0, k0, k1, k2, k3⟩

set_option maxRecDepth 100000 in
theorem open_raw {H : Type} {enc : TypeId × Value → H} {W : World} {b0 : Nat} {v : Value} {d : DataW H} {ps : List MemPlace}
    (hv : Value.okWide Try.prog W .any b0 71 v) (hd : DataW.Trod enc Try.prog W 0 (fun _ => true) true 71 v d ps) :
    ∃ (r : RawE) (lo : Option Addr) (es : List RawE) (lc : Nat), v = .agg #[.int .i64 r.k, .int .i64 r.n, .slice r.so r.xs.length r.sc, .slice lo es.length lc] ∧ r.Ok W ∧ es.length ≤ 9223372036854775807 ∧ RowRaw W lo es := by
  obtain ⟨cs, rfl, hsz⟩ := okWide_struct Try.underlying71 hv
  obtain ⟨fuel, hf⟩ := hd
  obtain ⟨r, v3, m, y, hcs, hok, h3⟩ := raw_cells hf
  obtain ⟨lo, es, lc, rfl, hl, hrow⟩ := raws_cell h3
  refine ⟨r, lo, es, lc, ?_, hok, hl, hrow⟩
  have : cs.toList = _ := hcs
  congr 1
  exact Array.toList_inj.1 (by rw [this])

set_option maxRecDepth 100000 in
theorem open_raws {H : Type} {enc : TypeId × Value → H} {W : World} {b0 : Nat} {v : Value} {d : DataW H} {ps : List MemPlace}
    (hv : Value.okWide Try.prog W .any b0 43 v) (hd : DataW.Trod enc Try.prog W 0 (fun _ => true) true 43 v d ps) :
    ∃ (lo : Option Addr) (es : List RawE) (lc : Nat), v = .slice lo es.length lc ∧ es.length ≤ 9223372036854775807 ∧ RowRaw W lo es := by
  obtain ⟨a0, len, cap, rfl⟩ := okWide_slice Try.underlying43 hv
  obtain ⟨fuel, hf⟩ := hd
  exact raws_cell hf
end Go.Proofs.Ythmmplmppchfmaa
