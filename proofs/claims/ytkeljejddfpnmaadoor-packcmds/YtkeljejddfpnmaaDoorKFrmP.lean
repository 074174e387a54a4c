/-
  Plain facts on frames (no program in it): a frame is taken apart again; one of which a byte was turned is none.
-/
import Derived.Test.YtkeljejddfpnmaaDoorPkJ
namespace Go.Proofs.YtkeljejddfpnmaaDoor
open Go.RowKit Go.Sort

theorem beV_beN4 (X : Nat) (h : X < 4294967296) : beV (beN 4 (X : Int)) = X := by
  have e : ∀ k, (byteAt (X : Int) k).toNat = X / 2 ^ (8 * k) % 256 := fun k => by
    have := byteAt_val (X : Int) k
    rw [IntKind.wrap_u8'] at this
    have h2 : ((X : Int) / 2 ^ (8 * k)) = ((X / 2 ^ (8 * k) : Nat) : Int) := by simp
    rw [h2] at this
    omega
  show beV [byteAt X 3, byteAt X 2, byteAt X 1, byteAt X 0] = X
  rw [beV_four, e 3, e 2, e 1, e 0]
  simp only [Nat.reduceMul, Nat.reducePow]
  omega
theorem beN4_len (X : Int) : (beN 4 X).length = 4 := beN_len X 4
def frm (l : List UInt8) : List UInt8 := beN 4 (crcL l : Nat) ++ l
theorem frm_len (l : List UInt8) : (frm l).length = l.length + 4 := by rw [frm, List.length_append, beN_len]; omega
theorem frm_drop (l : List UInt8) : (frm l).drop 4 = l := by rw [frm, List.drop_append, List.drop_eq_nil_of_le (by rw [beN_len]; omega), beN_len]; simp
theorem frm_take (l : List UInt8) : (frm l).take 4 = beN 4 (crcL l : Nat) := by rw [frm, List.take_append_of_le_length (by rw [beN_len]; omega), List.take_of_length_le (by rw [beN_len]; omega)]
theorem unf_frm (l : List UInt8) : unf (frm l) = (l, 0) := by
  unfold unf
  rw [if_neg (by rw [frm_len]; omega), frm_drop, frm_take, beV_beN4 _ (crcL_lt l), if_pos rfl]
theorem beV_inj : ∀ (n : Nat) (l m : List UInt8), l.length = n → m.length = n → beV l = beV m → l = m := by
  intro n
  induction n with
  | zero => intro l m h k _; rw [List.eq_nil_of_length_eq_zero h, List.eq_nil_of_length_eq_zero k]
  | succ n ih =>
    intro l m h k e
    have h2 := beV_take l n (by omega)
    have k2 := beV_take m n (by omega)
    rw [List.take_of_length_le (by omega)] at h2 k2
    have h3 := l[n].toNat_lt
    have k3 := m[n].toNat_lt
    have e1 : beV (l.take n) = beV (m.take n) := by omega
    have e2 : l[n] = m[n] := UInt8.toNat.inj (by omega)
    have e3 := ih (l.take n) (m.take n) (by rw [List.length_take]; omega) (by rw [List.length_take]; omega) e1
    have a1 : l = l.take n ++ l.drop n := (List.take_append_drop n l).symm
    have a2 : m = m.take n ++ m.drop n := (List.take_append_drop n m).symm
    have d1 : l.drop n = [l[n]] := by rw [List.drop_eq_getElem_cons (by omega), List.drop_eq_nil_of_le (by omega)]
    have d2 : m.drop n = [m[n]] := by rw [List.drop_eq_getElem_cons (by omega), List.drop_eq_nil_of_le (by omega)]
    calc l = l.take n ++ l.drop n := a1
      _ = m.take n ++ m.drop n := by rw [e3, d1, d2, e2]
      _ = m := a2.symm
theorem set_split (l : List UInt8) (k : Nat) (hk : k < l.length) (b : UInt8) : ∃ m r, l = m ++ l[k] :: r ∧ l.set k b = m ++ b :: r := by
  refine ⟨l.take k, l.drop (k + 1), ?_, ?_⟩
  · rw [List.getElem_cons_drop, List.take_append_drop]
  · rw [List.set_eq_take_append_cons_drop, if_pos hk]
/-- One byte turned: no frame. -/
theorem unf_turn (l : List UInt8) (k : Nat) (hk : k < (frm l).length) (b : UInt8) (hb : b ≠ (frm l)[k]) : unf ((frm l).set k b) = ([], 31) := by
  have hl := frm_len l
  unfold unf
  rw [if_neg (by rw [List.length_set]; omega), if_neg ?_]
  intro he
  by_cases h4 : k < 4
  · rw [List.drop_set, if_pos h4, frm_drop, List.take_set, frm_take] at he
    have e2 := beV_beN4 _ (crcL_lt l)
    have e3 := beV_inj 4 _ _ (beN4_len _) (by rw [List.length_set, beN4_len]) (e2.trans he)
    have h5 : ((beN 4 (crcL l : Nat)).set k b)[k]? = some b := by rw [List.getElem?_set_self (by rw [beN4_len]; exact h4)]
    rw [← e3, ← frm_take, List.getElem?_take, if_pos h4, List.getElem?_eq_getElem hk] at h5
    exact hb (Option.some.inj h5).symm
  · rw [List.drop_set, if_neg h4, frm_drop, List.take_set_of_le (by omega), frm_take, beV_beN4 _ (crcL_lt l)] at he
    obtain ⟨m, r, e1, e2⟩ := set_split l (k - 4) (by omega) b
    have e3 : crcL (m ++ b :: r) = crcL (m ++ l[k - 4] :: r) := by rw [← e2, he, ← e1]
    have e4 := crcL_turn m r _ _ e3
    apply hb
    rw [e4]
    have e5 : (frm l)[k]? = l[k - 4]? := by
      rw [show k = 4 + (k - 4) by omega, ← List.getElem?_drop, frm_drop]
      simp
    rw [List.getElem?_eq_getElem hk, List.getElem?_eq_getElem (by omega)] at e5
    exact (Option.some.inj e5).symm
theorem xor_ne (a b : UInt8) (h : b ≠ 0) : a ^^^ b ≠ a := by
  intro e
  have := congrArg (fun x => a ^^^ x) e
  simp only [← UInt8.xor_assoc, UInt8.xor_self, UInt8.zero_xor] at this
  exact h this
theorem u8_xor_val (a b : UInt8) : bits .xor .u8 (a.toNat : Int) (b.toNat : Int) = ((a ^^^ b).toNat : Int) := by
  have := u8_xor_nat a.toNat b.toNat (by have := a.toNat_lt; omega) (by have := b.toNat_lt; omega)
  rw [this, UInt8.toNat_xor]
end Go.Proofs.YtkeljejddfpnmaaDoor
