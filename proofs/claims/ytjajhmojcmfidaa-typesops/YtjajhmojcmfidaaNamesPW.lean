/-
  Plain facts: what a name is (no program in it).
  utf8.RuneCountInString, names.IsDigit, Begins, GoesOn, Is: what they return.
-/
import Derived.Test.YtjajhmojcmfidaaRunesPW
namespace Go.Proofs.Ytjajhmojcmfidaa
open Go

def letR (r : Int) : Bool := decide (65 ≤ r ∧ r ≤ 90) || decide (97 ≤ r ∧ r ≤ 122) || decide (r = 95)
def digR (r : Int) : Bool := decide (48 ≤ r ∧ r ≤ 57)

/-- May a byte stand there? -/
def goodB (first : Bool) (b : UInt8) : Bool := letR b.toNat || (!first && digR b.toNat)
def goods : Bool → List UInt8 → Bool
  | _, [] => true
  | f, b :: t => goodB f b && goods false t
/-- A name. -/
def nameB (l : List UInt8) : Bool := goods true l && (decide (1 ≤ l.length) && decide (l.length ≤ 12))

theorem letR_high (r : Int) (h : 128 ≤ r) : letR r = false := by
  have h1 : ¬ r ≤ 90 := by omega
  have h2 : ¬ r ≤ 122 := by omega
  have h3 : ¬ r = 95 := by omega
  simp [letR, h1, h2, h3]
theorem digR_high (r : Int) (h : 128 ≤ r) : digR r = false := by
  have h1 : ¬ r ≤ 57 := by omega
  simp [digR, h1]

theorem dec_upon (l : List UInt8) (h : 128 ≤ (l.getD 0 0).toNat) : 128 ≤ (Lib.decodeL l).1 := by
  rw [Lib.decodeL_N]
  rcases Lib.decodeN_shape l.length (l.getD 0 0).toNat (l.getD 1 0).toNat (l.getD 2 0).toNat (l.getD 3 0).toNat with ⟨c, e⟩ | ⟨c1, c2, c3, cv, e⟩ | ⟨c1, c2, c3, c4, cv, cs, e⟩ | ⟨c1, c2, c3, c4, c5, cv, cw, e⟩ | e
  all_goals (rw [e]; simp only []; omega)

/-- A rune at a place: a byte below 128, or none that a name has. -/
theorem goods_at {s : ByteArray} {pos : Nat} (h : pos < s.size) (f : Bool) :
    ((Utf8.decode s pos).2 = 1 ∧ goods f (s.data.toList.drop pos) = ((letR (Utf8.decode s pos).1 || (!f && digR (Utf8.decode s pos).1)) && goods false (s.data.toList.drop (pos + 1)))) ∨
    (letR (Utf8.decode s pos).1 = false ∧ digR (Utf8.decode s pos).1 = false ∧ goods f (s.data.toList.drop pos) = false) := by
  have hl : pos < s.data.toList.length := by rw [← Lib.size_eq]; exact h
  have hd : s.data.toList.drop pos = s.data.toList[pos] :: s.data.toList.drop (pos + 1) := List.drop_eq_getElem_cons hl
  rw [← Lib.decodeL_drop]
  generalize hb : s.data.toList[pos] = b at hd
  by_cases hlo : b.toNat < 128
  · left
    have hdec := dec_ascii b (s.data.toList.drop (pos + 1)) hlo
    rw [← hd] at hdec
    rw [hdec]
    refine ⟨rfl, ?_⟩
    rw [hd]
    rfl
  · right
    have hhi : 128 ≤ (Lib.decodeL (s.data.toList.drop pos)).1 := by
      refine dec_upon _ ?_
      rw [hd]
      show 128 ≤ b.toNat
      omega
    have h1 : 128 ≤ ((Lib.decodeL (s.data.toList.drop pos)).1 : Int) := by omega
    refine ⟨letR_high _ h1, digR_high _ h1, ?_⟩
    rw [hd]
    show (goodB f b && _) = false
    rw [goodB, letR_high _ (by omega), digR_high _ (by omega)]
    simp

end Go.Proofs.Ytjajhmojcmfidaa

namespace Go.Proofs.Ytjajhmojcmfidaa
open Go.RowKit

end Go.Proofs.Ytjajhmojcmfidaa
