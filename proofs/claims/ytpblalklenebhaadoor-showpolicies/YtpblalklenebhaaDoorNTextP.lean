/-
  Plain facts on the texts of numbers (no program in it): what is a number, what it says, and that what is written is read again.
-/
import Derived.Test.YtpblalklenebhaaDoorNumP
import Derived.Lib.ItoaNum
import Derived.Lib.ItoaMem
import Derived.Lib.MapLaws
import Derived.Lib.Strings
import Derived.Lib.RuneBytes
import Derived.Lib.IndexMore
namespace Go.Proofs.YtpblalklenebhaaDoor
open Go

def digB (b : UInt8) : Bool := decide (48 ≤ b.toNat ∧ b.toNat ≤ 57)
/-- What digits say, behind a number n. -/
def valF (n : Nat) : List UInt8 → Nat
  | [] => n
  | b :: t => valF (10 * n + (b.toNat - 48)) t
theorem valF_le : ∀ (l : List UInt8) (n : Nat), n ≤ valF n l
  | [], n => Nat.le_refl n
  | b :: t, n => by
    have := valF_le t (10 * n + (b.toNat - 48))
    show n ≤ valF (10 * n + (b.toNat - 48)) t
    omega
theorem valF_app : ∀ (l m : List UInt8) (n : Nat), valF n (l ++ m) = valF (valF n l) m
  | [], _, _ => rfl
  | _ :: t, m, _ => valF_app t m _

/-- Digits, one at least, without noughts ahead. -/
def numOk (l : List UInt8) : Bool := l.all digB && (l == [48] || (l != [] && !Lib.hasPrefix l [48]))
def pv (l : List UInt8) : Int := if numOk l then nv (valF 0 l) else 0
def pe (l : List UInt8) : Int := if numOk l then ne (valF 0 l) else 12
theorem pv_ok {l : List UInt8} (h : numOk l = true) : pv l = nv (valF 0 l) := if_pos h
theorem pe_ok {l : List UInt8} (h : numOk l = true) : pe l = ne (valF 0 l) := if_pos h
theorem pv_no {l : List UInt8} (h : numOk l = false) : pv l = 0 := by unfold pv; rw [h]; rfl
theorem pe_no {l : List UInt8} (h : numOk l = false) : pe l = 12 := by unfold pe; rw [h]; rfl

theorem dec_low (a : UInt8) (t : List UInt8) (h : a.toNat < 128) : Lib.decodeL (a :: t) = (a.toNat, 1) := by
  rw [Lib.decodeL_N, Lib.decodeN_ascii _ _ _ _ _ (by simpa using h)]
  simp
theorem dec_high (a : UInt8) (t : List UInt8) (h : 128 ≤ a.toNat) : 128 ≤ (Lib.decodeL (a :: t)).1 := by
  have h2 : 128 ≤ ((a :: t).getD 0 0).toNat := by simpa using h
  rw [Lib.decodeL_N]
  have k0 := ((a :: t).getD 0 0).toNat_lt
  rcases Lib.decodeN_shape (a :: t).length ((a :: t).getD 0 0).toNat ((a :: t).getD 1 0).toNat ((a :: t).getD 2 0).toNat ((a :: t).getD 3 0).toNat with ⟨c, e⟩ | ⟨c1, c2, c3, cv, e⟩ | ⟨c1, c2, c3, c4, cv, cs, e⟩ | ⟨c1, c2, c3, c4, c5, cv, cw, e⟩ | e
  all_goals (rw [e]; simp only []; omega)

/-- A rune that is a digit is a byte that is one; another rune is no digit's byte. -/
theorem rune_dig (l : List UInt8) (hne : l ≠ []) :
    (∃ b t d, l = b :: t ∧ digB b = true ∧ b.toNat = d + 48 ∧ d ≤ 9 ∧ Lib.decodeL l = (d + 48, 1)) ∨ (((Lib.decodeL l).1 < 48 ∨ 57 < (Lib.decodeL l).1) ∧ l.all digB = false) := by
  rcases l with _ | ⟨a, t⟩
  · exact absurd rfl hne
  · by_cases ha : a.toNat < 128
    · by_cases hd : 48 ≤ a.toNat ∧ a.toNat ≤ 57
      · left
        exact ⟨a, t, a.toNat - 48, rfl, decide_eq_true hd, by omega, by omega, by rw [dec_low a t ha, show a.toNat - 48 + 48 = a.toNat from by omega]⟩
      · right
        rw [dec_low a t ha]
        refine ⟨by show a.toNat < 48 ∨ 57 < a.toNat; omega, ?_⟩
        rw [List.all_cons, show digB a = false from decide_eq_false hd]
        rfl
    · right
      have h1 := dec_high a t (by omega)
      refine ⟨by omega, ?_⟩
      rw [List.all_cons, show digB a = false from decide_eq_false (by omega)]
      rfl

theorem ndrop_ne {s : ByteArray} {pos : Nat} (h : pos < s.size) : s.data.toList.drop pos ≠ [] := by
  intro h0
  have := congrArg List.length h0
  rw [List.length_drop, ← Lib.size_eq] at this
  simp at this
  omega
theorem drop_done {s : ByteArray} {pos : Nat} (h : ¬ pos < s.size) : s.data.toList.drop pos = [] := List.drop_eq_nil_of_le (by rw [← Lib.size_eq]; omega)

/-- One rune of the range over a text. -/
theorem rune_at {s : ByteArray} {pos : Nat} (h : pos < s.size) :
    (∃ d : Nat, d ≤ 9 ∧ Utf8.decode s pos = (d + 48, 1) ∧ (s.data.toList.drop pos).all digB = (s.data.toList.drop (pos + 1)).all digB ∧ ∀ n, valF n (s.data.toList.drop pos) = valF (10 * n + d) (s.data.toList.drop (pos + 1))) ∨
    (((Utf8.decode s pos).1 < 48 ∨ 57 < (Utf8.decode s pos).1) ∧ (s.data.toList.drop pos).all digB = false) := by
  have hr := rune_dig _ (ndrop_ne h)
  rw [Lib.decodeL_drop] at hr
  rcases hr with ⟨b, t, d, e, hb, hbd, hd, hdec⟩ | hr
  · left
    have et : s.data.toList.drop (pos + 1) = t := by rw [← List.drop_drop, e]; rfl
    refine ⟨d, hd, hdec, ?_, fun n => ?_⟩
    · rw [e, et, List.all_cons, hb]
      rfl
    · rw [e, et]
      show valF (10 * n + (b.toNat - 48)) t = _
      rw [hbd, show d + 48 - 48 = d from by omega]
  · exact .inr hr

theorem numOk_all {l : List UInt8} (h : numOk l = true) : l.all digB = true := by
  unfold numOk at h
  rw [Bool.and_eq_true] at h
  exact h.1

theorem valF_over {n : Nat} {l : List UInt8} {V : Nat} (h : valF n l = V) (hn : 9223372036854775807 < n) : ¬ InR (V : Int) := by
  have := valF_le l n
  unfold InR
  omega

theorem val_dec (u : Nat) : valF 0 (Lib.decDigits u) = u ∧ (Lib.decDigits u).all digB = true ∧ ∃ b t, Lib.decDigits u = b :: t ∧ (u = 0 → t = []) ∧ (u ≠ 0 → b ≠ 48) := by
  induction u using Nat.strongRecOn with
  | _ u ih =>
    have one : ∀ d, d < 10 → (UInt8.ofNat (48 + d)).toNat = 48 + d := fun d hd => by
      rw [UInt8.toNat_ofNat']
      omega
    by_cases h : u < 10
    · rw [Lib.decDigits_one h]
      refine ⟨?_, ?_, _, [], rfl, fun _ => rfl, fun hu e => ?_⟩
      · show 10 * 0 + ((UInt8.ofNat (48 + u)).toNat - 48) = u
        rw [one u h]
        omega
      · rw [List.all_cons, show digB (UInt8.ofNat (48 + u)) = true from decide_eq_true (by rw [one u h]; omega)]
        rfl
      · have := congrArg UInt8.toNat e
        rw [one u h, show (48 : UInt8).toNat = 48 from rfl] at this
        omega
    · obtain ⟨h1, h2, b, t, h3, h4, h5⟩ := ih (u / 10) (by omega)
      rw [Lib.decDigits, dif_neg h]
      refine ⟨?_, ?_, b, t ++ [UInt8.ofNat (48 + u % 10)], by rw [h3]; rfl, fun hu => by omega, fun _ => h5 (by omega)⟩
      · rw [valF_app, h1]
        show 10 * (u / 10) + ((UInt8.ofNat (48 + u % 10)).toNat - 48) = u
        rw [one _ (by omega)]
        omega
      · rw [List.all_append, h2, List.all_cons, show digB (UInt8.ofNat (48 + u % 10)) = true from decide_eq_true (by rw [one _ (by omega)]; omega)]
        rfl

theorem numOk_dec (u : Nat) : numOk (Lib.decDigits u) = true := by
  obtain ⟨_, h2, b, t, h3, h4, h5⟩ := val_dec u
  unfold numOk
  rw [h2]
  by_cases hu : u = 0
  · subst hu
    rw [Lib.decDigits_one (by decide)]
    decide
  · have hb := h5 hu
    rw [h3]
    have hp : Lib.hasPrefix (b :: t) [48] = false := by
      unfold Lib.hasPrefix
      cases hq : List.isPrefixOf [48] (b :: t)
      · rfl
      · rw [List.isPrefixOf_iff_prefix] at hq
        obtain ⟨x, hx⟩ := hq
        exact absurd (List.cons.inj hx).1.symm hb
    rw [hp]
    simp

theorem parse_pos (a : Int) (h0 : 0 ≤ a) (ha : InR a) : pv (Lib.itoa a) = a ∧ pe (Lib.itoa a) = 0 := by
  obtain ⟨n, rfl⟩ := Int.eq_ofNat_of_zero_le h0
  rw [Lib.itoa_nonneg, pv_ok (numOk_dec n), pe_ok (numOk_dec n), (val_dec n).1]
  exact ⟨nv_ok ha, ne_ok ha⟩
theorem parse_neg (a : Int) (h0 : a < 0) : pv (Lib.itoa a) = 0 ∧ pe (Lib.itoa a) = 12 := by
  have hn : numOk (Lib.itoa a) = false := by
    unfold Lib.itoa
    rw [if_pos h0]
    unfold numOk
    rw [List.all_cons, show digB 45 = false from rfl]
    rfl
  exact ⟨pv_no hn, pe_no hn⟩
theorem pe_range (l : List UInt8) : 0 ≤ pe l ∧ pe l ≤ 17 := by
  cases h : numOk l
  · rw [pe_no h]; decide
  · rw [pe_ok h]
    rcases ne_in (valF 0 l) with h | h <;> (rw [h]; decide)
end Go.Proofs.YtpblalklenebhaaDoor
