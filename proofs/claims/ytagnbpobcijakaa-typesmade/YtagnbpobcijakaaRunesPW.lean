/-
 Plain facts: the runes of a list of bytes, as a range over a text tells them (no program in it).
 within, text.broken, text.Check, text.Runes, text.Of: what they return.
-/
import Derived.Test.YtagnbpobcijakaaPlain
import Derived.Test.YtagnbpobcijakaaBuild
import Derived.Test.YtagnbpobcijakaaWorlds
import Derived.Lib.RuneCount
import Derived.WalkSmall
namespace Go.Proofs.Ytagnbpobcijakaa
open Go

theorem dec_pos (l : List UInt8) : 1 ≤ (Lib.decodeL l).2 := by
 rw [Lib.decodeL_N]
 rcases Lib.decodeN_shape l.length (l.getD 0 0).toNat (l.getD 1 0).toNat (l.getD 2 0).toNat (l.getD 3 0).toNat with ⟨c, e⟩ | ⟨c1, c2, c3, cv, e⟩ | ⟨c1, c2, c3, c4, cv, cs, e⟩ | ⟨c1, c2, c3, c4, c5, cv, cw, e⟩ | e
 all_goals (rw [e]; simp only []; omega)

def runesF : Nat → List UInt8 → List Int
 | 0, _ => []
 | f + 1, l => if l = [] then [] else ((Lib.decodeL l).1 : Int) :: runesF f (l.drop (Lib.decodeL l).2)
def runes (l : List UInt8) : List Int := runesF l.length l

/-- Is the first rune no rune? -/
def badHead (l : List UInt8) : Bool := (Lib.decodeL l).1 == 65533 && (Lib.decodeL l).2 == 1

def okF : Nat → List UInt8 → Bool
 | 0, _ => true
 | f + 1, l => if l = [] then true else if badHead l then false else okF f (l.drop (Lib.decodeL l).2)
def okL (l : List UInt8) : Bool := okF l.length l

theorem okF_fuel : ∀ (f : Nat) (l : List UInt8) (g : Nat), l.length ≤ f → l.length ≤ g → okF f l = okF g l
 | 0, l, g, hf, _ => by
  have : l = [] := List.length_eq_zero_iff.1 (by omega)
  subst this
  cases g <;> simp [okF]
 | f + 1, l, 0, _, hg => by
  have : l = [] := List.length_eq_zero_iff.1 (by omega)
  subst this
  simp [okF]
 | f + 1, l, g + 1, hf, hg => by
  by_cases h : l = []
  ·simp [okF, h]
  ·have hp := dec_pos l
   have hl : 0 < l.length := List.length_pos_iff.2 h
   rw [okF, okF, if_neg h, if_neg h, okF_fuel f _ g (by rw [List.length_drop]; omega) (by rw [List.length_drop]; omega)]

theorem okL_cons (l : List UInt8) (h : l ≠ []) : okL l = if badHead l then false else okL (l.drop (Lib.decodeL l).2) := by
 have hl : 0 < l.length := List.length_pos_iff.2 h
 have hp := dec_pos l
 obtain ⟨f, hf⟩ : ∃ f, l.length = f + 1 := ⟨l.length - 1, by omega⟩
 unfold okL
 rw [hf, okF, if_neg h, okF_fuel f _ _ (by rw [List.length_drop]; omega) (Nat.le_refl _)]

def quoteL (l : List UInt8) : List UInt8 := 34 :: ((runes l).flatMap quoL ++ [34])

/-- The answer of Check. -/
def chk (l : List UInt8) : Int := if okL l then 0 else 11
def ofOk (xs : List Int) : Bool := xs.all Lib.validRune
def ofL (xs : List Int) : List UInt8 := xs.flatMap Lib.encodeRune
def ofS (xs : List Int) : List UInt8 := if ofOk xs then ofL xs else []
def ofE (xs : List Int) : Int := if ofOk xs then 0 else 11
theorem ofS_ok {xs : List Int} (h : ofOk xs = true) : ofS xs = ofL xs := by rw [ofS, h]; rfl
theorem ofE_ok {xs : List Int} (h : ofOk xs = true) : ofE xs = 0 := by rw [ofE, h]; rfl
theorem ofS_bad {xs : List Int} (h : ofOk xs = false) : ofS xs = [] := by rw [ofS, h]; rfl
theorem ofE_bad {xs : List Int} (h : ofOk xs = false) : ofE xs = 11 := by rw [ofE, h]; rfl
theorem ofL_snoc (xs : List Int) (x : Int) : ofL (xs ++ [x]) = ofL xs ++ Lib.encodeRune x := by simp [ofL]
theorem ofOk_snoc (xs : List Int) (x : Int) : ofOk (xs ++ [x]) = (ofOk xs && Lib.validRune x) := by simp [ofOk]
theorem ofOk_bad {xs : List Int} {k : Nat} (h : k < xs.length) (hv : Lib.validRune xs[k] = false) : ofOk xs = false := by
 cases e : ofOk xs with
 | false => rfl
 | true =>
  have := List.all_eq_true.1 e xs[k] (List.getElem_mem h)
  rw [hv] at this
  exact absurd this (by decide)
theorem ofL_len : ∀ xs : List Int, (ofL xs).length ≤ 4 * xs.length
 | [] => by simp [ofL]
 | x :: t => by
  have h1 := ofL_len t
  have h2 := encodeRune_len x
  have : ofL (x :: t) = Lib.encodeRune x ++ ofL t := by simp [ofL]
  rw [this, List.length_append, List.length_cons]
  omega
end Go.Proofs.Ytagnbpobcijakaa

namespace Go.Proofs.Ytagnbpobcijakaa
open Go.RowKit

theorem infoRune : (Try.prog.info? 21).map (fun i => (i.zero, i.size, i.bytes)) = some (some (.int .i32 0), 1, 4) := by kernel_rfl

theorem tmod_cases (a n : Int) (hn : 0 < n) : a.tmod n = a % n ∨ a.tmod n + n = a % n := by
 rw [Int.tmod_eq_emod]
 have : ((n.natAbs : Nat) : Int) = n := by omega
 split
 ·left; omega
 ·right; omega
theorem tmod_pos (a n : Int) (hn : 0 < n) (h : 0 ≤ a.tmod n) : a.tmod n = a % n := by
 have h1 := Int.emod_lt_of_pos a hn
 rcases tmod_cases a n hn with e | e
 ·exact e
 ·omega
theorem tmod_neg (a n : Int) (hn : 0 < n) (hn1 : n ≤ 4294967296) (h : a.tmod n < 0) : wrap64 (a.tmod n + n) = a % n := by
 have h0 := Int.emod_nonneg a (show n ≠ 0 by omega)
 have h1 := Int.emod_lt_of_pos a hn
 rcases tmod_cases a n hn with e | e
 ·omega
 ·rw [e]
  simp only [wrap64]
  omega

set_option maxHeartbeats 1000000 in
theorem within_any (a n : Int) (hn : 0 < n) (hn1 : n ≤ 4294967296) (w : World) :
  Calls Try.prog 54 #[.int .i64 a, .int .i64 n] w fun e w' => e = .returned (.int .i64 (a % n)) ∧ w' = w := by
 go_enter Try.func54, Try.ntmps54
 go_wp2
 ·go_ret
  exact ⟨ret_int (tmod_neg a n hn hn1 (by assumption)), rfl⟩
 ·go_ret
  exact ⟨ret_int (tmod_pos a n hn (by assumption)), rfl⟩

/-- The cells of a slice of runes. -/
def RowAt (w : World) (ao : Option Addr) (xs : List Int) : Prop :=
 ∀ j (hj : j < xs.length), ∃ b off, ao = some ⟨b, off, none⟩ ∧ b < w.heap.size ∧ w.cell? ⟨b, off + j, none⟩ = some (.int .i32 xs[j])

theorem RowAt.below {w w' : World} {ao : Option Addr} {xs : List Int} (h : RowAt w ao xs) (hb : Below w.heap.size w w') : RowAt w' ao xs := by
 intro j hj
 obtain ⟨b, off, e, hlt, hc⟩ := h j hj
 have := hb.size
 exact ⟨b, off, e, by omega, (hb.cell (p := ⟨b, off + j, none⟩) hlt).trans hc⟩
end Go.Proofs.Ytagnbpobcijakaa
