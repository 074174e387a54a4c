/-
  The shelf of this seat.
  The writing methods of strings.Builder at this program (its copyCheck ends in a refused branch, so the ready contracts can't be laid): copyCheck, WriteByte, WriteString, WriteRune over a builder that the call owns; each keeps every block that is no row of bytes and is not the builder's.
  Plain facts: the runes of a list of bytes, as a range over a text tells them (no program in it).
  within, text.broken, text.Check, text.Runes, text.Of: what they return.
  Plain facts: what a name is (no program in it).
  utf8.RuneCountInString, names.IsDigit, Begins, GoesOn, Is: what they return.
-/
import Derived.Test.YthmmplmppchfmaaProg
import Derived.Lib.RuneBytes
import Derived.WalkKit
import Derived.BigCall
import Derived.Test.YthmmplmppchfmaaPlain
import Derived.Test.YthmmplmppchfmaaWorlds
import Derived.Lib.RuneCount
import Derived.WalkSmall


namespace Go.Proofs.Ythmmplmppchfmaa
open Go.RowKit

theorem infoByte : (Try.prog.info? 5).map (fun i => (i.zero, i.size, i.bytes)) = some (some (.int .u8 0), 1, 1) := by kernel_rfl

end Go.Proofs.Ythmmplmppchfmaa

namespace Go.Proofs.Ythmmplmppchfmaa
open Go

theorem dec_pos (l : List UInt8) : 1 ≤ (Lib.decodeL l).2 := by
  rw [Lib.decodeL_N]
  rcases Lib.decodeN_shape l.length (l.getD 0 0).toNat (l.getD 1 0).toNat (l.getD 2 0).toNat (l.getD 3 0).toNat with ⟨c, e⟩ | ⟨c1, c2, c3, cv, e⟩ | ⟨c1, c2, c3, c4, cv, cs, e⟩ | ⟨c1, c2, c3, c4, c5, cv, cw, e⟩ | e
  all_goals (rw [e]; simp only []; omega)

theorem dec_max (l : List UInt8) : (Lib.decodeL l).1 ≤ 1114111 := by
  rw [Lib.decodeL_N]
  have k0 := (l.getD 0 0).toNat_lt
  have k1 := (l.getD 1 0).toNat_lt
  have k2 := (l.getD 2 0).toNat_lt
  have k3 := (l.getD 3 0).toNat_lt
  rcases Lib.decodeN_shape l.length (l.getD 0 0).toNat (l.getD 1 0).toNat (l.getD 2 0).toNat (l.getD 3 0).toNat with ⟨c, e⟩ | ⟨c1, c2, c3, cv, e⟩ | ⟨c1, c2, c3, c4, cv, cs, e⟩ | ⟨c1, c2, c3, c4, c5, cv, cw, e⟩ | e
  all_goals (rw [e]; simp only []; omega)

theorem dec_max_at (s : ByteArray) (pos : Nat) : (Utf8.decode s pos).1 ≤ 1114111 := by
  rw [← Lib.decodeL_drop]
  exact dec_max _

def runesF : Nat → List UInt8 → List Int
  | 0, _ => []
  | f + 1, l => if l = [] then [] else ((Lib.decodeL l).1 : Int) :: runesF f (l.drop (Lib.decodeL l).2)
def runes (l : List UInt8) : List Int := runesF l.length l

theorem runesF_fuel : ∀ (f : Nat) (l : List UInt8) (g : Nat), l.length ≤ f → l.length ≤ g → runesF f l = runesF g l
  | 0, l, g, hf, _ => by
    have : l = [] := List.length_eq_zero_iff.1 (by omega)
    subst this
    cases g <;> simp [runesF]
  | f + 1, l, 0, _, hg => by
    have : l = [] := List.length_eq_zero_iff.1 (by omega)
    subst this
    simp [runesF]
  | f + 1, l, g + 1, hf, hg => by
    by_cases h : l = []
    · simp [runesF, h]
    · have hp := dec_pos l
      have hl : 0 < l.length := List.length_pos_iff.2 h
      rw [runesF, runesF, if_neg h, if_neg h, runesF_fuel f _ g (by rw [List.length_drop]; omega) (by rw [List.length_drop]; omega)]

theorem runes_nil : runes [] = [] := rfl
theorem runes_cons (l : List UInt8) (h : l ≠ []) : runes l = ((Lib.decodeL l).1 : Int) :: runes (l.drop (Lib.decodeL l).2) := by
  have hl : 0 < l.length := List.length_pos_iff.2 h
  have hp := dec_pos l
  obtain ⟨f, hf⟩ : ∃ f, l.length = f + 1 := ⟨l.length - 1, by omega⟩
  unfold runes
  rw [hf, runesF, if_neg h, runesF_fuel f _ _ (by rw [List.length_drop]; omega) (Nat.le_refl _)]

/-- Is the first rune no rune? -/
def badHead (l : List UInt8) : Bool := (Lib.decodeL l).1 == 65533 && (Lib.decodeL l).2 == 1

def okF : Nat → List UInt8 → Bool
  | 0, _ => true
  | f + 1, l => if l = [] then true else if badHead l then false else okF f (l.drop (Lib.decodeL l).2)
def okL (l : List UInt8) : Bool := okF l.length l

theorem okF_fuel : ∀ (f : Nat) (l : List UInt8) (g : Nat), l.length ≤ f → l.length ≤ g → okF f l = okF g l
  | 0, l, g, hf, _ => by
    have : l = [] := List.length_eq_zero_iff.1 (by omega)
    subst this
    cases g <;> simp [okF]
  | f + 1, l, 0, _, hg => by
    have : l = [] := List.length_eq_zero_iff.1 (by omega)
    subst this
    simp [okF]
  | f + 1, l, g + 1, hf, hg => by
    by_cases h : l = []
    · simp [okF, h]
    · have hp := dec_pos l
      have hl : 0 < l.length := List.length_pos_iff.2 h
      rw [okF, okF, if_neg h, if_neg h, okF_fuel f _ g (by rw [List.length_drop]; omega) (by rw [List.length_drop]; omega)]

theorem okL_nil : okL [] = true := rfl
theorem okL_cons (l : List UInt8) (h : l ≠ []) : okL l = if badHead l then false else okL (l.drop (Lib.decodeL l).2) := by
  have hl : 0 < l.length := List.length_pos_iff.2 h
  have hp := dec_pos l
  obtain ⟨f, hf⟩ : ∃ f, l.length = f + 1 := ⟨l.length - 1, by omega⟩
  unfold okL
  rw [hf, okF, if_neg h, okF_fuel f _ _ (by rw [List.length_drop]; omega) (Nat.le_refl _)]

def quoteL (l : List UInt8) : List UInt8 := 34 :: ((runes l).flatMap quoL ++ [34])

theorem drop_ne {s : ByteArray} {pos : Nat} (h : pos < s.size) : s.data.toList.drop pos ≠ [] := by
  intro h0
  have := congrArg List.length h0
  rw [List.length_drop, ← Lib.size_eq] at this
  simp at this
  omega
theorem drop_end {s : ByteArray} {pos : Nat} (h : ¬ pos < s.size) : s.data.toList.drop pos = [] :=
  List.drop_eq_nil_of_le (by rw [← Lib.size_eq]; omega)
theorem dec_in {s : ByteArray} {pos : Nat} (h : pos < s.size) : pos + (Utf8.decode s pos).2 ≤ s.size := by
  have := Lib.decodeL_le (s.data.toList.drop pos) (drop_ne h)
  rw [Lib.decodeL_drop, List.length_drop, ← Lib.size_eq] at this
  omega
theorem runes_at {s : ByteArray} {pos : Nat} (h : pos < s.size) : runes (s.data.toList.drop pos) = ((Utf8.decode s pos).1 : Int) :: runes (s.data.toList.drop (pos + (Utf8.decode s pos).2)) := by
  rw [runes_cons _ (drop_ne h), Lib.decodeL_drop, List.drop_drop]

theorem three_of (l : List UInt8) (h : Lib.hasPrefix l [239, 191, 189] = true) : ∃ t, l = 239 :: 191 :: 189 :: t := by
  unfold Lib.hasPrefix at h
  rw [List.isPrefixOf_iff_prefix] at h
  obtain ⟨t, rfl⟩ := h
  exact ⟨t, rfl⟩

theorem dec_repl (t : List UInt8) : Lib.decodeL (239 :: 191 :: 189 :: t) = (65533, 3) := by
  rw [Lib.decodeL_N]
  simp [Lib.decodeN]

/-- What text.broken asks is whether the head is no rune. -/
theorem broken_eq (l : List UInt8) (hne : l ≠ []) : ((((Lib.decodeL l).1 : Int) == 65533) && !Lib.hasPrefix l [239, 191, 189]) = badHead l := by
  unfold badHead
  by_cases h1 : (Lib.decodeL l).1 = 65533
  · have hl : 0 < l.length := List.length_pos_iff.2 hne
    rw [h1]
    by_cases hp : Lib.hasPrefix l [239, 191, 189] = true
    · obtain ⟨t, rfl⟩ := three_of l hp
      rw [hp, dec_repl]
      rfl
    · have hw : (Lib.decodeL l).2 = 1 := by
        rw [Lib.decodeL_N] at h1 ⊢
        have k0 := (l.getD 0 0).toNat_lt
        have k1 := (l.getD 1 0).toNat_lt
        have k2 := (l.getD 2 0).toNat_lt
        have k3 := (l.getD 3 0).toNat_lt
        rcases Lib.decodeN_shape l.length (l.getD 0 0).toNat (l.getD 1 0).toNat (l.getD 2 0).toNat (l.getD 3 0).toNat with ⟨c, e⟩ | ⟨c1, c2, c3, cv, e⟩ | ⟨c1, c2, c3, c4, cv, cs, e⟩ | ⟨c1, c2, c3, c4, c5, cv, cw, e⟩ | e
        · rw [e] at h1; simp only [] at h1; omega
        · rw [e] at h1; simp only [] at h1; omega
        · exfalso
          apply hp
          rw [e] at h1
          simp only [] at h1
          have e0 : l.getD 0 0 = 239 := UInt8.toNat_inj.1 (by show _ = 239; omega)
          have e1 : l.getD 1 0 = 191 := UInt8.toNat_inj.1 (by show _ = 191; omega)
          have e2 : l.getD 2 0 = 189 := UInt8.toNat_inj.1 (by show _ = 189; omega)
          have e3 := Lib.takeC l c2
          rw [e0, e1, e2] at e3
          unfold Lib.hasPrefix
          rw [List.isPrefixOf_iff_prefix, ← e3]
          exact List.take_prefix _ _
        · rw [e] at h1; simp only [] at h1; omega
        · rw [e]
      rw [hw]
      cases hq : Lib.hasPrefix l [239, 191, 189]
      · rfl
      · exact absurd hq hp
  · have e1 : (((Lib.decodeL l).1 : Int) == 65533) = false := by simp; omega
    have e2 : ((Lib.decodeL l).1 == 65533) = false := by simp [h1]
    rw [e1, e2]
    rfl

theorem okL_at {s : ByteArray} {pos : Nat} (h : pos < s.size) : okL (s.data.toList.drop pos) = if ((((Utf8.decode s pos).1 : Int) == 65533) && !Lib.hasPrefix (s.data.toList.drop pos) [239, 191, 189]) then false else okL (s.data.toList.drop (pos + (Utf8.decode s pos).2)) := by
  rw [okL_cons _ (drop_ne h), ← broken_eq _ (drop_ne h), Lib.decodeL_drop, List.drop_drop]

/-- The answer of Check. -/
def chk (l : List UInt8) : Int := if okL l then 0 else 11
theorem chk_ok {l : List UInt8} (h : okL l = true) : chk l = 0 := by rw [chk, h]; rfl
theorem chk_bad {l : List UInt8} (h : okL l = false) : chk l = 11 := by rw [chk, h]; rfl

def ofOk (xs : List Int) : Bool := xs.all Lib.validRune
def ofL (xs : List Int) : List UInt8 := xs.flatMap Lib.encodeRune
def ofS (xs : List Int) : List UInt8 := if ofOk xs then ofL xs else []
def ofE (xs : List Int) : Int := if ofOk xs then 0 else 11
theorem ofS_ok {xs : List Int} (h : ofOk xs = true) : ofS xs = ofL xs := by rw [ofS, h]; rfl
theorem ofE_ok {xs : List Int} (h : ofOk xs = true) : ofE xs = 0 := by rw [ofE, h]; rfl
theorem ofS_bad {xs : List Int} (h : ofOk xs = false) : ofS xs = [] := by rw [ofS, h]; rfl
theorem ofE_bad {xs : List Int} (h : ofOk xs = false) : ofE xs = 11 := by rw [ofE, h]; rfl
theorem ofL_snoc (xs : List Int) (x : Int) : ofL (xs ++ [x]) = ofL xs ++ Lib.encodeRune x := by simp [ofL]
theorem ofOk_snoc (xs : List Int) (x : Int) : ofOk (xs ++ [x]) = (ofOk xs && Lib.validRune x) := by simp [ofOk]
theorem ofOk_bad {xs : List Int} {k : Nat} (h : k < xs.length) (hv : Lib.validRune xs[k] = false) : ofOk xs = false := by
  cases e : ofOk xs with
  | false => rfl
  | true =>
    have := List.all_eq_true.1 e xs[k] (List.getElem_mem h)
    rw [hv] at this
    exact absurd this (by decide)
theorem ofL_len : ∀ xs : List Int, (ofL xs).length ≤ 4 * xs.length
  | [] => by simp [ofL]
  | x :: t => by
    have h1 := ofL_len t
    have h2 := encodeRune_len x
    have : ofL (x :: t) = Lib.encodeRune x ++ ofL t := by simp [ofL]
    rw [this, List.length_append, List.length_cons]
    omega
end Go.Proofs.Ythmmplmppchfmaa

namespace Go.Proofs.Ythmmplmppchfmaa
open Go.RowKit

theorem infoRune : (Try.prog.info? 21).map (fun i => (i.zero, i.size, i.bytes)) = some (some (.int .i32 0), 1, 4) := by kernel_rfl

theorem tmod_cases (a n : Int) (hn : 0 < n) : a.tmod n = a % n ∨ a.tmod n + n = a % n := by
  rw [Int.tmod_eq_emod]
  have : ((n.natAbs : Nat) : Int) = n := by omega
  split
  · left; omega
  · right; omega
theorem tmod_pos (a n : Int) (hn : 0 < n) (h : 0 ≤ a.tmod n) : a.tmod n = a % n := by
  have h1 := Int.emod_lt_of_pos a hn
  rcases tmod_cases a n hn with e | e
  · exact e
  · omega
theorem tmod_neg (a n : Int) (hn : 0 < n) (hn1 : n ≤ 4294967296) (h : a.tmod n < 0) : wrap64 (a.tmod n + n) = a % n := by
  have h0 := Int.emod_nonneg a (show n ≠ 0 by omega)
  have h1 := Int.emod_lt_of_pos a hn
  rcases tmod_cases a n hn with e | e
  · omega
  · rw [e]
    simp only [wrap64]
    omega

set_option maxHeartbeats 1000000 in
theorem within_any (a n : Int) (hn : 0 < n) (hn1 : n ≤ 4294967296) (w : World) :
    Calls Try.prog 74 #[.int .i64 a, .int .i64 n] w fun e w' => e = .returned (.int .i64 (a % n)) ∧ w' = w := by
  go_enter Try.func74, Try.ntmps74
  go_wp2
  · go_ret
    exact ⟨ret_int (tmod_neg a n hn hn1 (by assumption)), rfl⟩
  · go_ret
    exact ⟨ret_int (tmod_pos a n hn (by assumption)), rfl⟩

/-- The cells of a slice of runes. -/
def RowAt (w : World) (ao : Option Addr) (xs : List Int) : Prop :=
  ∀ j (hj : j < xs.length), ∃ b off, ao = some ⟨b, off, none⟩ ∧ b < w.heap.size ∧ w.cell? ⟨b, off + j, none⟩ = some (.int .i32 xs[j])

theorem RowAt.below {w w' : World} {ao : Option Addr} {xs : List Int} (h : RowAt w ao xs) (hb : Below w.heap.size w w') : RowAt w' ao xs := by
  intro j hj
  obtain ⟨b, off, e, hlt, hc⟩ := h j hj
  have := hb.size
  exact ⟨b, off, e, by omega, (hb.cell (p := ⟨b, off + j, none⟩) hlt).trans hc⟩
end Go.Proofs.Ythmmplmppchfmaa

namespace Go.Proofs.Ythmmplmppchfmaa
open Go

def letR (r : Int) : Bool := decide (65 ≤ r ∧ r ≤ 90) || decide (97 ≤ r ∧ r ≤ 122) || decide (r = 95)
def digR (r : Int) : Bool := decide (48 ≤ r ∧ r ≤ 57)

/-- May a byte stand there? -/
def goodB (first : Bool) (b : UInt8) : Bool := letR b.toNat || (!first && digR b.toNat)
def goods : Bool → List UInt8 → Bool
  | _, [] => true
  | f, b :: t => goodB f b && goods false t
/-- A name. -/
def nameB (l : List UInt8) : Bool := goods true l && (decide (1 ≤ l.length) && decide (l.length ≤ 12))

theorem letR_high (r : Int) (h : 128 ≤ r) : letR r = false := by
  have h1 : ¬ r ≤ 90 := by omega
  have h2 : ¬ r ≤ 122 := by omega
  have h3 : ¬ r = 95 := by omega
  simp [letR, h1, h2, h3]
theorem digR_high (r : Int) (h : 128 ≤ r) : digR r = false := by
  have h1 : ¬ r ≤ 57 := by omega
  simp [digR, h1]

theorem dec_upon (l : List UInt8) (h : 128 ≤ (l.getD 0 0).toNat) : 128 ≤ (Lib.decodeL l).1 := by
  rw [Lib.decodeL_N]
  rcases Lib.decodeN_shape l.length (l.getD 0 0).toNat (l.getD 1 0).toNat (l.getD 2 0).toNat (l.getD 3 0).toNat with ⟨c, e⟩ | ⟨c1, c2, c3, cv, e⟩ | ⟨c1, c2, c3, c4, cv, cs, e⟩ | ⟨c1, c2, c3, c4, c5, cv, cw, e⟩ | e
  all_goals (rw [e]; simp only []; omega)

/-- A rune at a place: a byte below 128, or none that a name has. -/
theorem goods_at {s : ByteArray} {pos : Nat} (h : pos < s.size) (f : Bool) :
    ((Utf8.decode s pos).2 = 1 ∧ goods f (s.data.toList.drop pos) = ((letR (Utf8.decode s pos).1 || (!f && digR (Utf8.decode s pos).1)) && goods false (s.data.toList.drop (pos + 1)))) ∨
    (letR (Utf8.decode s pos).1 = false ∧ digR (Utf8.decode s pos).1 = false ∧ goods f (s.data.toList.drop pos) = false) := by
  have hl : pos < s.data.toList.length := by rw [← Lib.size_eq]; exact h
  have hd : s.data.toList.drop pos = s.data.toList[pos] :: s.data.toList.drop (pos + 1) := List.drop_eq_getElem_cons hl
  rw [← Lib.decodeL_drop]
  generalize hb : s.data.toList[pos] = b at hd
  by_cases hlo : b.toNat < 128
  · left
    have hdec := dec_ascii b (s.data.toList.drop (pos + 1)) hlo
    rw [← hd] at hdec
    rw [hdec]
    refine ⟨rfl, ?_⟩
    rw [hd]
    rfl
  · right
    have hhi : 128 ≤ (Lib.decodeL (s.data.toList.drop pos)).1 := by
      refine dec_upon _ ?_
      rw [hd]
      show 128 ≤ b.toNat
      omega
    have h1 : 128 ≤ ((Lib.decodeL (s.data.toList.drop pos)).1 : Int) := by omega
    refine ⟨letR_high _ h1, digR_high _ h1, ?_⟩
    rw [hd]
    show (goodB f b && _) = false
    rw [goodB, letR_high _ (by omega), digR_high _ (by omega)]
    simp

end Go.Proofs.Ythmmplmppchfmaa

namespace Go.Proofs.Ythmmplmppchfmaa
open Go.RowKit

end Go.Proofs.Ythmmplmppchfmaa
