/-
  num.Add, Sub, Mul, Neg: what they return.
-/
import Derived.Test.YtbbongdnnmanlaaGreatPlainAll
namespace Go.Proofs.YtbbongdnnmanlaaGreat
open Go.RowKit

set_option maxHeartbeats 1000000 in
theorem add_any (a b : Int) (ha : InR a) (hb : InR b) (w : World) :
    Calls Tryz.prog 63 #[.int .i64 a, .int .i64 b] w fun e w' => e = .returned (.tuple #[.int .i64 (nv (a + b)), .int .i64 (ne (a + b))]) ∧ w' = w := by
  obtain ⟨a0, a1⟩ := ha
  obtain ⟨b0, b1⟩ := hb
  by_cases h : InR (a + b)
  · rw [nv_ok h, ne_ok h]
    obtain ⟨h0, h1⟩ := h
    by_cases hb : b < 0
    · have hlt : a + b < a := by omega
      go_enter Tryz.func63, Tryz.ntmps63
      go_wp2
      go_ret2
      exact ⟨rfl, rfl⟩
    · have hlt : ¬ a + b < a := by omega
      go_enter Tryz.func63, Tryz.ntmps63
      go_wp2
      go_ret2
      exact ⟨rfl, rfl⟩
  · rw [nv_no h, ne_no h]
    have hc : 9223372036854775807 < a + b ∨ a + b < -9223372036854775808 := by unfold InR at h; omega
    have W := wrap_add (a + b) (by omega) (by omega)
    rcases hc with hc | hc
    · have hw := W.2.1 hc
      have hlt : a + b - 18446744073709551616 < a := by omega
      have hb : ¬ b < 0 := by omega
      clear W h
      go_enter Tryz.func63, Tryz.ntmps63
      go_wp2
      go_ret2
      exact ⟨rfl, rfl⟩
    · have hw := W.2.2 hc
      have hlt : ¬ a + b + 18446744073709551616 < a := by omega
      have hb : b < 0 := by omega
      clear W h
      go_enter Tryz.func63, Tryz.ntmps63
      go_wp2
      go_ret2
      exact ⟨rfl, rfl⟩

set_option maxHeartbeats 1000000 in
theorem sub_any (a b : Int) (ha : InR a) (hb : InR b) (w : World) :
    Calls Tryz.prog 55 #[.int .i64 a, .int .i64 b] w fun e w' => e = .returned (.tuple #[.int .i64 (nv (a - b)), .int .i64 (ne (a - b))]) ∧ w' = w := by
  obtain ⟨a0, a1⟩ := ha
  obtain ⟨b0, b1⟩ := hb
  by_cases h : InR (a - b)
  · rw [nv_ok h, ne_ok h]
    obtain ⟨h0, h1⟩ := h
    by_cases hb : 0 < b
    · have hlt : a - b < a := by omega
      go_enter Tryz.func55, Tryz.ntmps55
      go_wp2
      go_ret2
      exact ⟨rfl, rfl⟩
    · have hlt : ¬ a - b < a := by omega
      go_enter Tryz.func55, Tryz.ntmps55
      go_wp2
      go_ret2
      exact ⟨rfl, rfl⟩
  · rw [nv_no h, ne_no h]
    have hc : 9223372036854775807 < a - b ∨ a - b < -9223372036854775808 := by unfold InR at h; omega
    have W := wrap_add (a - b) (by omega) (by omega)
    rcases hc with hc | hc
    · have hw := W.2.1 hc
      have hlt : a - b - 18446744073709551616 < a := by omega
      have hb : ¬ 0 < b := by omega
      clear W h
      go_enter Tryz.func55, Tryz.ntmps55
      go_wp2
      go_ret2
      exact ⟨rfl, rfl⟩
    · have hw := W.2.2 hc
      have hlt : ¬ a - b + 18446744073709551616 < a := by omega
      have hb : 0 < b := by omega
      clear W h
      go_enter Tryz.func55, Tryz.ntmps55
      go_wp2
      go_ret2
      exact ⟨rfl, rfl⟩

set_option maxHeartbeats 1000000 in
theorem neg_any (a : Int) (ha : InR a) (w : World) :
    Calls Tryz.prog 35 #[.int .i64 a] w fun e w' => e = .returned (.tuple #[.int .i64 (nv (-a)), .int .i64 (ne (-a))]) ∧ w' = w := by
  have e0 : (0 : Int) - a = -a := by omega
  go_enter Tryz.func35, Tryz.ntmps35
  go_wp2_with fail
  refine (sub_any 0 a ⟨by decide, by decide⟩ ha _).mono ?_
  rintro e w1 ⟨rfl, rfl⟩
  rw [e0]
  go_wp2
  go_ret2
  exact ⟨rfl, rfl⟩
set_option maxHeartbeats 1000000 in
theorem mul_any (a b : Int) (ha : InR a) (hb : InR b) (w : World) :
    Calls Tryz.prog 62 #[.int .i64 a, .int .i64 b] w fun e w' => e = .returned (.tuple #[.int .i64 (nv (a * b)), .int .i64 (ne (a * b))]) ∧ w' = w := by
  by_cases h0 : a = 0
  · subst h0
    have hz : (0 : Int) * b = 0 := by omega
    have h1 : InR 0 := ⟨by decide, by decide⟩
    rw [hz, nv_ok h1, ne_ok h1]
    go_enter Tryz.func62, Tryz.ntmps62
    go_wp2
    go_ret2
    exact ⟨rfl, rfl⟩
  · by_cases hm : a = -1
    · subst hm
      obtain ⟨b0, b1⟩ := hb
      have hz : (-1 : Int) * b = -b := by omega
      rw [hz]
      by_cases hx2 : b = -9223372036854775808
      · subst hx2
        have hi : ¬ InR (-(-9223372036854775808)) := by decide
        rw [nv_no hi, ne_no hi]
        clear h0 hi ha b0 b1 hz
        go_enter Tryz.func62, Tryz.ntmps62
        go_wp2
        go_ret2
        exact ⟨rfl, rfl⟩
      · have hi : InR (-b) := ⟨by omega, by omega⟩
        have b2 : -9223372036854775807 ≤ b := by omega
        rw [nv_ok hi, ne_ok hi]
        clear h0 hi ha hz b0
        go_enter Tryz.func62, Tryz.ntmps62
        go_wp2
        go_ret2
        exact ⟨rfl, rfl⟩
    · obtain ⟨c, q, hw, hc, hq, hqb, hin⟩ := mul_facts a b ha hb h0 (.inl hm)
      obtain ⟨a0, a1⟩ := ha
      obtain ⟨b0, b1⟩ := hb
      obtain ⟨c0, c1⟩ := hc
      by_cases hi : InR (a * b)
      · rw [nv_ok hi, ne_ok hi, hin hi]
        have hqb' := hqb.2 hi
        subst hqb'
        clear hi hin hqb
        go_enter Tryz.func62, Tryz.ntmps62
        go_wp2
        go_ret2
        exact ⟨rfl, rfl⟩
      · rw [nv_no hi, ne_no hi]
        have hqb' : q ≠ b := fun h => hi (hqb.1 h)
        clear hi hin hqb
        go_enter Tryz.func62, Tryz.ntmps62
        go_wp2
        go_ret2
        exact ⟨rfl, rfl⟩

end Go.Proofs.YtbbongdnnmanlaaGreat
