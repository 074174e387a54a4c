/-
  chancelref2.Add, Sub, Mul, Neg: what they return: the same as num's.
-/
import Derived.Test.YtdlhcejlkhgnnaaDoorNumW
namespace Go.Proofs.YtdlhcejlkhgnnaaDoor
open Go.RowKit

set_option maxHeartbeats 1000000 in
theorem radd_any (a b : Int) (ha : InR a) (hb : InR b) (w : World) :
    Calls Tryd.prog 15 #[.int .i64 a, .int .i64 b] w fun e w' => e = .returned (.tuple #[.int .i64 (nv (a + b)), .int .i64 (ne (a + b))]) ∧ w' = w := by
  obtain ⟨a0, a1⟩ := ha
  obtain ⟨b0, b1⟩ := hb
  by_cases h : InR (a + b)
  · rw [nv_ok h, ne_ok h]
    obtain ⟨h0, h1⟩ := h
    have hc : b = 0 ∨ 0 < b ∨ b < 0 := by omega
    rcases hc with hc | hc | hc
    · subst hc
      rw [Int.add_zero]
      go_enter Tryd.func15, Tryd.ntmps15
      go_wp2
      go_ret2
      exact ⟨rfl, rfl⟩
    · have hc2 : ¬ b < 0 := by omega
      have hlt : ¬ 9223372036854775807 - b < a := by omega
      go_enter Tryd.func15, Tryd.ntmps15
      go_wp2
      go_ret2
      exact ⟨rfl, rfl⟩
    · have hc2 : ¬ 0 < b := by omega
      have hlt : ¬ a < -9223372036854775808 - b := by omega
      go_enter Tryd.func15, Tryd.ntmps15
      go_wp2
      go_ret2
      exact ⟨rfl, rfl⟩
  · rw [nv_no h, ne_no h]
    have hc : 9223372036854775807 < a + b ∨ a + b < -9223372036854775808 := by unfold InR at h; omega
    clear h
    rcases hc with hc | hc
    · have hb : 0 < b := by omega
      have hlt : 9223372036854775807 - b < a := by omega
      go_enter Tryd.func15, Tryd.ntmps15
      go_wp2
      go_ret2
      exact ⟨rfl, rfl⟩
    · have hb : b < 0 := by omega
      have hb2 : ¬ 0 < b := by omega
      have hlt : a < -9223372036854775808 - b := by omega
      go_enter Tryd.func15, Tryd.ntmps15
      go_wp2
      go_ret2
      exact ⟨rfl, rfl⟩

set_option maxHeartbeats 1000000 in
theorem rsub_any (a b : Int) (ha : InR a) (hb : InR b) (w : World) :
    Calls Tryd.prog 17 #[.int .i64 a, .int .i64 b] w fun e w' => e = .returned (.tuple #[.int .i64 (nv (a - b)), .int .i64 (ne (a - b))]) ∧ w' = w := by
  obtain ⟨a0, a1⟩ := ha
  obtain ⟨b0, b1⟩ := hb
  by_cases h : InR (a - b)
  · rw [nv_ok h, ne_ok h]
    obtain ⟨h0, h1⟩ := h
    have hc : b = 0 ∨ 0 < b ∨ b < 0 := by omega
    rcases hc with hc | hc | hc
    · subst hc
      rw [Int.sub_zero]
      go_enter Tryd.func17, Tryd.ntmps17
      go_wp2
      go_ret2
      exact ⟨rfl, rfl⟩
    · have hc2 : ¬ b < 0 := by omega
      have hlt : ¬ a < -9223372036854775808 + b := by omega
      go_enter Tryd.func17, Tryd.ntmps17
      go_wp2
      go_ret2
      exact ⟨rfl, rfl⟩
    · have hc2 : ¬ 0 < b := by omega
      have hlt : ¬ 9223372036854775807 + b < a := by omega
      go_enter Tryd.func17, Tryd.ntmps17
      go_wp2
      go_ret2
      exact ⟨rfl, rfl⟩
  · rw [nv_no h, ne_no h]
    have hc : 9223372036854775807 < a - b ∨ a - b < -9223372036854775808 := by unfold InR at h; omega
    clear h
    rcases hc with hc | hc
    · have hb : b < 0 := by omega
      have hlt : 9223372036854775807 + b < a := by omega
      go_enter Tryd.func17, Tryd.ntmps17
      go_wp2
      go_ret2
      exact ⟨rfl, rfl⟩
    · have hb : ¬ b < 0 := by omega
      have hb2 : 0 < b := by omega
      have hlt : a < -9223372036854775808 + b := by omega
      go_enter Tryd.func17, Tryd.ntmps17
      go_wp2
      go_ret2
      exact ⟨rfl, rfl⟩

set_option maxHeartbeats 1000000 in
theorem rneg_any (a : Int) (ha : InR a) (w : World) :
    Calls Tryd.prog 21 #[.int .i64 a] w fun e w' => e = .returned (.tuple #[.int .i64 (nv (-a)), .int .i64 (ne (-a))]) ∧ w' = w := by
  obtain ⟨a0, a1⟩ := ha
  by_cases h : a = -9223372036854775808
  · subst h
    have hi : ¬ InR (-(-9223372036854775808)) := by decide
    rw [nv_no hi, ne_no hi]
    clear hi a0 a1
    go_enter Tryd.func21, Tryd.ntmps21
    go_wp2
    go_ret2
    exact ⟨rfl, rfl⟩
  · have hi : InR (-a) := ⟨by omega, by omega⟩
    have e0 : (0 : Int) - a = -a := by omega
    rw [nv_ok hi, ne_ok hi, ← e0]
    have a2 : -9223372036854775807 ≤ a := by omega
    clear hi e0 a0
    go_enter Tryd.func21, Tryd.ntmps21
    go_wp2
    go_ret2
    exact ⟨by simp, rfl⟩

set_option maxHeartbeats 1000000 in
theorem rmul_any (a b : Int) (ha : InR a) (hb : InR b) (w : World) :
    Calls Tryd.prog 19 #[.int .i64 a, .int .i64 b] w fun e w' => e = .returned (.tuple #[.int .i64 (nv (a * b)), .int .i64 (ne (a * b))]) ∧ w' = w := by
  by_cases h0 : a = 0
  · subst h0
    have hz : (0 : Int) * b = 0 := by omega
    have h1 : InR 0 := ⟨by decide, by decide⟩
    rw [hz, nv_ok h1, ne_ok h1]
    go_enter Tryd.func19, Tryd.ntmps19
    go_wp2
    go_ret2
    exact ⟨rfl, rfl⟩
  by_cases k0 : b = 0
  · subst k0
    have hz : a * (0 : Int) = 0 := by omega
    have h1 : InR 0 := ⟨by decide, by decide⟩
    rw [hz, nv_ok h1, ne_ok h1]
    go_enter Tryd.func19, Tryd.ntmps19
    go_wp2
    go_ret2
    exact ⟨rfl, rfl⟩
  by_cases hm : b = -1
  · subst hm
    obtain ⟨a0, a1⟩ := ha
    have hz : a * (-1 : Int) = -a := by omega
    rw [hz]
    by_cases hx2 : a = -9223372036854775808
    · subst hx2
      have hi : ¬ InR (-(-9223372036854775808)) := by decide
      rw [nv_no hi, ne_no hi]
      clear h0 hi hb a0 a1 hz k0
      go_enter Tryd.func19, Tryd.ntmps19
      go_wp2
      go_ret2
      exact ⟨rfl, rfl⟩
    · have hi : InR (-a) := ⟨by omega, by omega⟩
      have a2 : -9223372036854775807 ≤ a := by omega
      rw [nv_ok hi, ne_ok hi]
      clear hi hb hz a0 k0
      by_cases ha1 : a = -1
      · subst ha1
        go_enter Tryd.func19, Tryd.ntmps19
        go_wp2
        go_ret2
        exact ⟨rfl, rfl⟩
      · go_enter Tryd.func19, Tryd.ntmps19
        go_wp2
        go_ret2
        exact ⟨rfl, rfl⟩
  · by_cases hx : a = -1
    · subst hx
      obtain ⟨b0, b1⟩ := hb
      have hz : (-1 : Int) * b = -b := by omega
      rw [hz]
      by_cases hx2 : b = -9223372036854775808
      · subst hx2
        have hi : ¬ InR (-(-9223372036854775808)) := by decide
        rw [nv_no hi, ne_no hi]
        clear h0 hi ha b0 b1 hz k0 hm
        go_enter Tryd.func19, Tryd.ntmps19
        go_wp2
        go_ret2
        exact ⟨rfl, rfl⟩
      · have hi : InR (-b) := ⟨by omega, by omega⟩
        have b2 : -9223372036854775807 ≤ b := by omega
        rw [nv_ok hi, ne_ok hi]
        have hw : IntKind.i64.wrap ((-b).tdiv b) = -1 := by
          have : (-b).tdiv b = -1 := by
            rw [Int.neg_tdiv, Int.tdiv_self k0]
          rw [this]
          decide
        clear h0 hi ha hz b0
        go_enter Tryd.func19, Tryd.ntmps19
        go_wp2
        go_ret2
        exact ⟨rfl, rfl⟩
    · obtain ⟨c, q, hw0, hc, hq, hqb, hin⟩ := mul_facts b a hb ha k0 (.inl hm)
      rw [Int.mul_comm b a] at hw0 hqb hin
      have hw := hw0
      clear hw0
      obtain ⟨a0, a1⟩ := ha
      obtain ⟨b0, b1⟩ := hb
      obtain ⟨c0, c1⟩ := hc
      by_cases hi : InR (a * b)
      · rw [nv_ok hi, ne_ok hi, hin hi]
        have hqb' := hqb.2 hi
        subst hqb'
        clear hi hin hqb
        have e1 : (q == (0 : Int)) = false := by simpa using h0
        have e2 : (b == (0 : Int)) = false := by simpa using k0
        have e3 : (q == (-1 : Int)) = false := by simpa using hx
        have e4 : (b == (-1 : Int)) = false := by simpa using hm
        go_enter Tryd.func19, Tryd.ntmps19
        go_wp2
        go_ret2
        exact ⟨rfl, rfl⟩
      · rw [nv_no hi, ne_no hi]
        have hqb' : q ≠ a := fun h => hi (hqb.1 h)
        clear hi hin hqb
        have e1 : (a == (0 : Int)) = false := by simpa using h0
        have e2 : (b == (0 : Int)) = false := by simpa using k0
        have e3 : (a == (-1 : Int)) = false := by simpa using hx
        have e4 : (b == (-1 : Int)) = false := by simpa using hm
        go_enter Tryd.func19, Tryd.ntmps19
        go_wp2
        go_ret2
        exact ⟨rfl, rfl⟩
end Go.Proofs.YtdlhcejlkhgnnaaDoor
