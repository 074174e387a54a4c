/-
  Plain facts on numbers of 64 bits (no program in it): what is answered of a number, and its error.
-/
import Derived.Test.YtpblalklenebhaaDoorProg
import Derived.Test.YtpblalklenebhaaDoorPlain
import Derived.WalkKit
import Derived.WalkSpells
namespace Go.Proofs.YtpblalklenebhaaDoor
open Go


/-- A number of 64 bits. -/
def InR (x : Int) : Prop := -9223372036854775808 ≤ x ∧ x ≤ 9223372036854775807
instance (x : Int) : Decidable (InR x) := inferInstanceAs (Decidable (_ ∧ _))
/-- The number, or nought where it is beyond the bounds. -/
def nv (x : Int) : Int := if InR x then x else 0
/-- No error, or ErrOver where it is beyond the bounds. -/
def ne (x : Int) : Int := if InR x then 0 else 17
theorem nv_ok {x : Int} (h : InR x) : nv x = x := if_pos h
theorem ne_ok {x : Int} (h : InR x) : ne x = 0 := if_pos h
theorem nv_no {x : Int} (h : ¬ InR x) : nv x = 0 := if_neg h
theorem ne_no {x : Int} (h : ¬ InR x) : ne x = 17 := if_neg h
theorem nv_in (x : Int) : InR (nv x) := by
  by_cases h : InR x
  · rw [nv_ok h]; exact h
  · rw [nv_no h]; exact ⟨by decide, by decide⟩
theorem ne_in (x : Int) : ne x = 0 ∨ ne x = 17 := by
  by_cases h : InR x
  · exact .inl (ne_ok h)
  · exact .inr (ne_no h)

/-- A number of 64 bits that is a + b but for whole turns of 2^64. -/
theorem wrap_add (s : Int) (h0 : -18446744073709551616 ≤ s) (h1 : s < 18446744073709551616) :
    (InR s → IntKind.i64.wrap s = s) ∧ (9223372036854775807 < s → IntKind.i64.wrap s = s - 18446744073709551616) ∧ (s < -9223372036854775808 → IntKind.i64.wrap s = s + 18446744073709551616) := by
  have e := IntKind.wrap_i64 s
  unfold InR
  refine ⟨fun h => ?_, fun h => ?_, fun h => ?_⟩ <;> (rw [e]; omega)

/-- A product that is taken round, and what it is divided by one of its two numbers: the other one just where nothing was taken round. -/
theorem mul_facts (a b : Int) (ha : InR a) (hb : InR b) (h0 : a ≠ 0) (hx : a ≠ -1 ∨ b ≠ -9223372036854775808) :
    ∃ c q, IntKind.i64.wrap (a * b) = c ∧ InR c ∧ IntKind.i64.wrap (c.tdiv a) = q ∧ (q = b ↔ InR (a * b)) ∧ (InR (a * b) → a * b = c) := by
  obtain ⟨a0, a1⟩ := ha
  obtain ⟨b0, b1⟩ := hb
  refine ⟨_, _, rfl, ?_, rfl, ?_, ?_⟩
  · unfold InR
    rw [IntKind.wrap_i64]
    omega
  · constructor
    · intro hq
      generalize hp : a * b = p at *
      generalize hc : IntKind.i64.wrap p = c at *
      rw [IntKind.wrap_i64] at hc
      have c0 : -9223372036854775808 ≤ c := by omega
      have c1 : c ≤ 9223372036854775807 := by omega
      have hd := Int.mul_tdiv_add_tmod c a
      by_cases hmin : a = -1
      · have hb' : b ≠ -9223372036854775808 := by
          rcases hx with h | h
          · exact absurd hmin h
          · exact h
        unfold InR
        rw [hmin] at hp
        omega
      · have hin : -9223372036854775808 ≤ c.tdiv a ∧ c.tdiv a ≤ 9223372036854775807 := by
          have hn := Int.natAbs_tdiv_le_natAbs c a
          have hz : (c.tdiv a).natAbs ≤ c.natAbs := hn
          by_cases hz2 : c.natAbs ≤ 9223372036854775807
          · omega
          · have hcm : c = -9223372036854775808 := by omega
            subst hcm
            have h2 : 2 ≤ a.natAbs ∨ a = 1 := by omega
            rcases h2 with h2 | h2
            · have : ((-9223372036854775808 : Int).tdiv a).natAbs = 9223372036854775808 / a.natAbs := by
                rw [Int.natAbs_tdiv]
                rfl
              have h3 : 9223372036854775808 / a.natAbs ≤ 9223372036854775808 / 2 := Nat.div_le_div_left h2 (by decide)
              omega
            · subst h2
              rw [Int.tdiv_one]
              omega
        rw [IntKind.wrap_i64] at hq
        have hq2 : c.tdiv a = b := by omega
        rw [hq2, hp] at hd
        have hm : (c.tmod a).natAbs < a.natAbs := by
          rw [Int.natAbs_tmod]
          exact Nat.mod_lt _ (by omega)
        unfold InR
        omega
    · intro hin
      have hc : IntKind.i64.wrap (a * b) = a * b := by
        rw [IntKind.wrap_i64]
        unfold InR at hin
        omega
      rw [hc, Int.mul_tdiv_cancel_left _ h0, IntKind.wrap_i64]
      omega
  · intro hin
    rw [IntKind.wrap_i64]
    unfold InR at hin
    omega
end Go.Proofs.YtpblalklenebhaaDoor
