/-
  Plain facts for the reference's reading of a number (no program in it).
-/
import Derived.Test.YtpblalklenebhaaDoorNTextP
namespace Go.Proofs.YtpblalklenebhaaDoor
open Go

theorem numOk_nil : numOk [] = false := by decide
theorem numOk_nought (b : UInt8) (t : List UInt8) (hb : b.toNat = 48) (ht : t ≠ []) : numOk (b :: t) = false := by
  have e : b = 48 := UInt8.toNat_inj.1 hb
  subst e
  unfold numOk
  have h1 : Lib.hasPrefix (48 :: t) [48] = true := by
    unfold Lib.hasPrefix
    rw [List.isPrefixOf_iff_prefix]
    exact ⟨t, rfl⟩
  have h2 : ((48 :: t) == [(48 : UInt8)]) = false := by
    cases t with
    | nil => exact absurd rfl ht
    | cons a t => rfl
  rw [h1, h2]
  simp
/-- No nought ahead of others. -/
def headOk (l : List UInt8) : Prop := l.length = 1 ∨ ∃ b t, l = b :: t ∧ b.toNat ≠ 48
theorem numOk_head (l : List UInt8) (h : headOk l) : numOk l = l.all digB := by
  rcases h with h | ⟨b, t, rfl, hb⟩
  · obtain ⟨b, rfl⟩ := List.length_eq_one_iff.1 h
    unfold numOk
    by_cases hb : b = 48
    · subst hb
      decide
    · have : Lib.hasPrefix [b] [48] = false := by
        unfold Lib.hasPrefix
        cases hq : List.isPrefixOf [48] [b]
        · rfl
        · rw [List.isPrefixOf_iff_prefix] at hq
          obtain ⟨x, hx⟩ := hq
          exact absurd (List.cons.inj hx).1.symm hb
      rw [this]
      simp
  · unfold numOk
    have : Lib.hasPrefix (b :: t) [48] = false := by
      unfold Lib.hasPrefix
      cases hq : List.isPrefixOf [48] (b :: t)
      · rfl
      · rw [List.isPrefixOf_iff_prefix] at hq
        obtain ⟨x, hx⟩ := hq
        have := (List.cons.inj hx).1
        exact absurd (by rw [← this]; rfl) hb
    rw [this]
    simp

/-- What holds at place i of the second loop. -/
structure PInv (l : List UInt8) (V i n : Nat) : Prop where
  val : valF n (l.drop i) = V
  all : (l.drop i).all digB = true
  low : 1 < l.length → 1 ≤ i → 10 ^ (i - 1) ≤ n
  high : n < 10 ^ i
  most : n ≤ 9223372036854775807
  place : i ≤ 19

theorem pinv_start (l : List UInt8) (h : l.all digB = true) : PInv l (valF 0 l) 0 0 :=
  ⟨by simp, by simpa using h, fun _ h => by omega, by decide, by decide, by decide⟩

theorem pinv_step {l : List UInt8} {V i n : Nat} (h : PInv l V i n) (hi : i < l.length) (hh : headOk l) :
    ∃ d : Nat, d ≤ 9 ∧ l[i].toNat = d + 48 ∧ ((i ≤ 18 ∧ 10 * n + d < 18446744073709551616 ∧ (10 * n + d ≤ 9223372036854775807 → PInv l V (i + 1) (10 * n + d)) ∧ (9223372036854775807 < 10 * n + d → ¬ InR (V : Int))) ∨ (i = 19 ∧ ¬ InR (V : Int))) := by
  obtain ⟨hv, ha, hl, hhi, hm, hp⟩ := h
  have hd : l.drop i = l[i] :: l.drop (i + 1) := List.drop_eq_getElem_cons hi
  rw [hd] at hv ha
  rw [List.all_cons, Bool.and_eq_true] at ha
  obtain ⟨hb, ha⟩ := ha
  have hb2 : 48 ≤ l[i].toNat ∧ l[i].toNat ≤ 57 := of_decide_eq_true hb
  have hv2 : valF (10 * n + (l[i].toNat - 48)) (l.drop (i + 1)) = V := hv
  refine ⟨l[i].toNat - 48, by omega, by omega, ?_⟩
  have hlow : 1 < l.length → 10 ^ i ≤ 10 * n + (l[i].toNat - 48) := by
    intro h1
    by_cases h0 : i = 0
    · subst h0
      rcases hh with hh | ⟨b, t, rfl, hb3⟩
      · omega
      · have : ((b :: t)[0]).toNat ≠ 48 := hb3
        simp only [Nat.pow_zero]
        omega
    · have := hl h1 (by omega)
      have e : 10 ^ i = 10 ^ (i - 1) * 10 := by rw [← Nat.pow_succ]; congr 1; omega
      omega
  have hle := valF_le (l.drop (i + 1)) (10 * n + (l[i].toNat - 48))
  by_cases h19 : i ≤ 18
  · left
    have e : 10 ^ (i + 1) = 10 ^ i * 10 := Nat.pow_succ 10 i
    have e2 : 10 ^ i ≤ 10 ^ 18 := Nat.pow_le_pow_right (by decide) h19
    refine ⟨h19, by omega, fun hmm => ?_, fun ho => ?_⟩
    · exact ⟨hv2, ha, fun h1 _ => by simpa using hlow h1, by omega, hmm, by omega⟩
    · unfold InR
      omega
  · right
    have h19 : i = 19 := by omega
    subst h19
    refine ⟨rfl, ?_⟩
    have := hlow (by omega)
    unfold InR
    omega

theorem dec_len : ∀ (k u : Nat), u < 10 ^ (k + 1) → (Lib.decDigits u).length ≤ k + 1
  | 0, u, h => by
    rw [Lib.decDigits_one (by simpa using h)]
    simp
  | k + 1, u, h => by
    by_cases h10 : u < 10
    · rw [Lib.decDigits_one h10]
      simp
    · rw [Lib.decDigits, dif_neg h10, List.length_append]
      have := dec_len k (u / 10) (by rw [Nat.pow_succ] at h; omega)
      simp
      omega
theorem dec_len20 (u : Nat) (h : u < 18446744073709551616) : (Lib.decDigits u).length ≤ 20 := dec_len 19 u (by omega)
end Go.Proofs.YtpblalklenebhaaDoor
