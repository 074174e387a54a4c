/-
  chancellaw2.NumSigns returns true, for every two int64.
-/
import Derived.Test.YtdlhcejlkhgnnaaDoorNumK
namespace Go.Proofs.YtdlhcejlkhgnnaaDoor
open Go.RowKit

theorem sign_facts (a b : Int) (ha : a ≠ 0) (hb : b ≠ 0) : (a < 0 ∧ b < 0 ∧ ¬ a * b < 0) ∨ (a < 0 ∧ ¬ b < 0 ∧ a * b < 0) ∨ (¬ a < 0 ∧ b < 0 ∧ a * b < 0) ∨ (¬ a < 0 ∧ ¬ b < 0 ∧ ¬ a * b < 0) := by
  by_cases h1 : a < 0
  · by_cases h2 : b < 0
    · have := Int.mul_pos_of_neg_of_neg h1 h2
      exact .inl ⟨h1, h2, by omega⟩
    · exact .inr (.inl ⟨h1, h2, Int.mul_neg_of_neg_of_pos h1 (by omega)⟩)
  · by_cases h2 : b < 0
    · exact .inr (.inr (.inl ⟨h1, h2, Int.mul_neg_of_pos_of_neg (by omega) h2⟩))
    · have := Int.mul_pos (show 0 < a by omega) (show 0 < b by omega)
      exact .inr (.inr (.inr ⟨h1, h2, by omega⟩))

set_option maxHeartbeats 1000000 in
set_option maxRecDepth 100000 in
theorem numSigns_walk (a b : Int) (ha : InR a) (hb : InR b) (w : World) :
    Calls Tryd.prog 8 #[.int .i64 a, .int .i64 b] w fun e w' => e = .returned (.bool true) ∧ Below w.heap.size w w' := by
  have hz : InR 0 := ⟨by decide, by decide⟩
  have N1 := neg_any a ha
  have M1 := mul_any a 1 ha ⟨by decide, by decide⟩
  have A1 := add_any a 0 ha hz
  have S1 := sub_any a 0 ha hz
  have M0 := mul_any a 0 ha hz
  have M := mul_any a b ha hb
  rw [Int.mul_one, nv_ok ha, ne_ok ha] at M1
  rw [Int.add_zero, nv_ok ha, ne_ok ha] at A1
  rw [Int.sub_zero, nv_ok ha, ne_ok ha] at S1
  rw [Int.mul_zero, nv_ok hz, ne_ok hz] at M0
  clear hz
  by_cases hl : a = -9223372036854775808
  · subst hl
    have hn : ¬ InR (-(-9223372036854775808)) := by decide
    rw [nv_no hn, ne_no hn] at N1
    clear hn
    by_cases hm : InR (-9223372036854775808 * b)
    · rw [nv_ok hm, ne_ok hm] at M
      by_cases k0 : b = 0
      · subst k0
        rw [Int.mul_zero] at M
        clear ha hb hm
        go_enter Tryd.func8, Tryd.ntmps8
        go_wp2_with fail
        refine (known2_any _).mono ?_
        rintro e w1 ⟨rfl, rfl⟩
        go_wp2_with fail
        refine (N1 _).mono ?_
        rintro e w1 ⟨rfl, rfl⟩
        go_wp2_with fail
        refine (M1 _).mono ?_
        rintro e w1 ⟨rfl, rfl⟩
        go_wp2_with fail
        refine (A1 _).mono ?_
        rintro e w1 ⟨rfl, rfl⟩
        go_wp2_with fail
        refine (S1 _).mono ?_
        rintro e w1 ⟨rfl, rfl⟩
        go_wp2_with fail
        refine (M0 _).mono ?_
        rintro e w1 ⟨rfl, rfl⟩
        go_wp2_with fail
        refine (M _).mono ?_
        rintro e w1 ⟨rfl, rfl⟩
        go_wp2
        go_ret
        exact ⟨rfl, Below.refl _ _⟩
      have SF := sign_facts (-9223372036854775808) b (by decide) k0
      generalize (-9223372036854775808) * b = p at *
      have e2 : (b == (0 : Int)) = false := by simpa using k0
      clear hm
      rcases SF with ⟨f1, f2, f3⟩ | ⟨f1, f2, f3⟩ | ⟨f1, f2, f3⟩ | ⟨f1, f2, f3⟩
      · go_enter Tryd.func8, Tryd.ntmps8
        go_wp2_with fail
        refine (known2_any _).mono ?_
        rintro e w1 ⟨rfl, rfl⟩
        go_wp2_with fail
        refine (N1 _).mono ?_
        rintro e w1 ⟨rfl, rfl⟩
        go_wp2_with fail
        refine (M1 _).mono ?_
        rintro e w1 ⟨rfl, rfl⟩
        go_wp2_with fail
        refine (A1 _).mono ?_
        rintro e w1 ⟨rfl, rfl⟩
        go_wp2_with fail
        refine (S1 _).mono ?_
        rintro e w1 ⟨rfl, rfl⟩
        go_wp2_with fail
        refine (M0 _).mono ?_
        rintro e w1 ⟨rfl, rfl⟩
        go_wp2_with fail
        refine (M _).mono ?_
        rintro e w1 ⟨rfl, rfl⟩
        go_wp2
        go_ret
        first | exact ⟨rfl, Below.refl _ _⟩ | exact ⟨ret_bool (by simpa using f3), Below.refl _ _⟩ | exact ⟨ret_bool (by simpa using f2), Below.refl _ _⟩ | exact ⟨ret_bool (by simpa using f1), Below.refl _ _⟩ | exact ⟨ret_bool (by rw [decide_eq_false (Int.not_lt.2 f1), decide_eq_false (Int.not_lt.2 f2), decide_eq_false (Int.not_lt.2 f3)]; rfl), Below.refl _ _⟩
      · go_enter Tryd.func8, Tryd.ntmps8
        go_wp2_with fail
        refine (known2_any _).mono ?_
        rintro e w1 ⟨rfl, rfl⟩
        go_wp2_with fail
        refine (N1 _).mono ?_
        rintro e w1 ⟨rfl, rfl⟩
        go_wp2_with fail
        refine (M1 _).mono ?_
        rintro e w1 ⟨rfl, rfl⟩
        go_wp2_with fail
        refine (A1 _).mono ?_
        rintro e w1 ⟨rfl, rfl⟩
        go_wp2_with fail
        refine (S1 _).mono ?_
        rintro e w1 ⟨rfl, rfl⟩
        go_wp2_with fail
        refine (M0 _).mono ?_
        rintro e w1 ⟨rfl, rfl⟩
        go_wp2_with fail
        refine (M _).mono ?_
        rintro e w1 ⟨rfl, rfl⟩
        go_wp2
        go_ret
        first | exact ⟨rfl, Below.refl _ _⟩ | exact ⟨ret_bool (by simpa using f3), Below.refl _ _⟩ | exact ⟨ret_bool (by simpa using f2), Below.refl _ _⟩ | exact ⟨ret_bool (by simpa using f1), Below.refl _ _⟩ | exact ⟨ret_bool (by rw [decide_eq_false (Int.not_lt.2 f1), decide_eq_false (Int.not_lt.2 f2), decide_eq_false (Int.not_lt.2 f3)]; rfl), Below.refl _ _⟩
      · exact absurd (show (-9223372036854775808 : Int) < 0 by decide) f1
      · exact absurd (show (-9223372036854775808 : Int) < 0 by decide) f1
    · rw [nv_no hm, ne_no hm] at M
      clear hm ha hb
      go_enter Tryd.func8, Tryd.ntmps8
      go_wp2_with fail
      refine (known2_any _).mono ?_
      rintro e w1 ⟨rfl, rfl⟩
      go_wp2_with fail
      refine (N1 _).mono ?_
      rintro e w1 ⟨rfl, rfl⟩
      go_wp2_with fail
      refine (M1 _).mono ?_
      rintro e w1 ⟨rfl, rfl⟩
      go_wp2_with fail
      refine (A1 _).mono ?_
      rintro e w1 ⟨rfl, rfl⟩
      go_wp2_with fail
      refine (S1 _).mono ?_
      rintro e w1 ⟨rfl, rfl⟩
      go_wp2_with fail
      refine (M0 _).mono ?_
      rintro e w1 ⟨rfl, rfl⟩
      go_wp2_with fail
      refine (M _).mono ?_
      rintro e w1 ⟨rfl, rfl⟩
      go_wp2
      go_ret
      exact ⟨rfl, Below.refl _ _⟩
  · have hn : InR (-a) := by unfold InR at ha ⊢; omega
    have N2 := neg_any (-a) hn
    rw [nv_ok hn, ne_ok hn] at N1
    rw [Int.neg_neg, nv_ok ha, ne_ok ha] at N2
    generalize -a = n at *
    clear hn
    by_cases hm : InR (a * b)
    · rw [nv_ok hm, ne_ok hm] at M
      by_cases h0 : a = 0
      · subst h0
        rw [Int.zero_mul] at M
        clear ha hb hm
        go_enter Tryd.func8, Tryd.ntmps8
        go_wp2_with fail
        refine (known2_any _).mono ?_
        rintro e w1 ⟨rfl, rfl⟩
        go_wp2_with fail
        refine (N1 _).mono ?_
        rintro e w1 ⟨rfl, rfl⟩
        go_wp2_with fail
        refine (N2 _).mono ?_
        rintro e w1 ⟨rfl, rfl⟩
        go_wp2_with fail
        refine (M1 _).mono ?_
        rintro e w1 ⟨rfl, rfl⟩
        go_wp2_with fail
        refine (A1 _).mono ?_
        rintro e w1 ⟨rfl, rfl⟩
        go_wp2_with fail
        refine (S1 _).mono ?_
        rintro e w1 ⟨rfl, rfl⟩
        go_wp2_with fail
        refine (M0 _).mono ?_
        rintro e w1 ⟨rfl, rfl⟩
        go_wp2_with fail
        refine (M _).mono ?_
        rintro e w1 ⟨rfl, rfl⟩
        go_wp2
        go_ret
        exact ⟨rfl, Below.refl _ _⟩
      by_cases k0 : b = 0
      · subst k0
        rw [Int.mul_zero] at M
        clear ha hb hm
        go_enter Tryd.func8, Tryd.ntmps8
        go_wp2_with fail
        refine (known2_any _).mono ?_
        rintro e w1 ⟨rfl, rfl⟩
        go_wp2_with fail
        refine (N1 _).mono ?_
        rintro e w1 ⟨rfl, rfl⟩
        go_wp2_with fail
        refine (N2 _).mono ?_
        rintro e w1 ⟨rfl, rfl⟩
        go_wp2_with fail
        refine (M1 _).mono ?_
        rintro e w1 ⟨rfl, rfl⟩
        go_wp2_with fail
        refine (A1 _).mono ?_
        rintro e w1 ⟨rfl, rfl⟩
        go_wp2_with fail
        refine (S1 _).mono ?_
        rintro e w1 ⟨rfl, rfl⟩
        go_wp2_with fail
        refine (M0 _).mono ?_
        rintro e w1 ⟨rfl, rfl⟩
        go_wp2_with fail
        refine (M _).mono ?_
        rintro e w1 ⟨rfl, rfl⟩
        go_wp2
        go_ret
        exact ⟨rfl, Below.refl _ _⟩
      have SF := sign_facts a b h0 k0
      generalize a * b = p at *
      have e1 : (a == (0 : Int)) = false := by simpa using h0
      have e2 : (b == (0 : Int)) = false := by simpa using k0
      clear hm
      rcases SF with ⟨f1, f2, f3⟩ | ⟨f1, f2, f3⟩ | ⟨f1, f2, f3⟩ | ⟨f1, f2, f3⟩
      · go_enter Tryd.func8, Tryd.ntmps8
        go_wp2_with fail
        refine (known2_any _).mono ?_
        rintro e w1 ⟨rfl, rfl⟩
        go_wp2_with fail
        refine (N1 _).mono ?_
        rintro e w1 ⟨rfl, rfl⟩
        go_wp2_with fail
        refine (N2 _).mono ?_
        rintro e w1 ⟨rfl, rfl⟩
        go_wp2_with fail
        refine (M1 _).mono ?_
        rintro e w1 ⟨rfl, rfl⟩
        go_wp2_with fail
        refine (A1 _).mono ?_
        rintro e w1 ⟨rfl, rfl⟩
        go_wp2_with fail
        refine (S1 _).mono ?_
        rintro e w1 ⟨rfl, rfl⟩
        go_wp2_with fail
        refine (M0 _).mono ?_
        rintro e w1 ⟨rfl, rfl⟩
        go_wp2_with fail
        refine (M _).mono ?_
        rintro e w1 ⟨rfl, rfl⟩
        go_wp2
        go_ret
        first | exact ⟨rfl, Below.refl _ _⟩ | exact ⟨ret_bool (by simpa using f3), Below.refl _ _⟩ | exact ⟨ret_bool (by simpa using f2), Below.refl _ _⟩ | exact ⟨ret_bool (by simpa using f1), Below.refl _ _⟩ | exact ⟨ret_bool (by rw [decide_eq_false (Int.not_lt.2 f1), decide_eq_false (Int.not_lt.2 f2), decide_eq_false (Int.not_lt.2 f3)]; rfl), Below.refl _ _⟩
      · go_enter Tryd.func8, Tryd.ntmps8
        go_wp2_with fail
        refine (known2_any _).mono ?_
        rintro e w1 ⟨rfl, rfl⟩
        go_wp2_with fail
        refine (N1 _).mono ?_
        rintro e w1 ⟨rfl, rfl⟩
        go_wp2_with fail
        refine (N2 _).mono ?_
        rintro e w1 ⟨rfl, rfl⟩
        go_wp2_with fail
        refine (M1 _).mono ?_
        rintro e w1 ⟨rfl, rfl⟩
        go_wp2_with fail
        refine (A1 _).mono ?_
        rintro e w1 ⟨rfl, rfl⟩
        go_wp2_with fail
        refine (S1 _).mono ?_
        rintro e w1 ⟨rfl, rfl⟩
        go_wp2_with fail
        refine (M0 _).mono ?_
        rintro e w1 ⟨rfl, rfl⟩
        go_wp2_with fail
        refine (M _).mono ?_
        rintro e w1 ⟨rfl, rfl⟩
        go_wp2
        go_ret
        first | exact ⟨rfl, Below.refl _ _⟩ | exact ⟨ret_bool (by simpa using f3), Below.refl _ _⟩ | exact ⟨ret_bool (by simpa using f2), Below.refl _ _⟩ | exact ⟨ret_bool (by simpa using f1), Below.refl _ _⟩ | exact ⟨ret_bool (by rw [decide_eq_false (Int.not_lt.2 f1), decide_eq_false (Int.not_lt.2 f2), decide_eq_false (Int.not_lt.2 f3)]; rfl), Below.refl _ _⟩
      · go_enter Tryd.func8, Tryd.ntmps8
        go_wp2_with fail
        refine (known2_any _).mono ?_
        rintro e w1 ⟨rfl, rfl⟩
        go_wp2_with fail
        refine (N1 _).mono ?_
        rintro e w1 ⟨rfl, rfl⟩
        go_wp2_with fail
        refine (N2 _).mono ?_
        rintro e w1 ⟨rfl, rfl⟩
        go_wp2_with fail
        refine (M1 _).mono ?_
        rintro e w1 ⟨rfl, rfl⟩
        go_wp2_with fail
        refine (A1 _).mono ?_
        rintro e w1 ⟨rfl, rfl⟩
        go_wp2_with fail
        refine (S1 _).mono ?_
        rintro e w1 ⟨rfl, rfl⟩
        go_wp2_with fail
        refine (M0 _).mono ?_
        rintro e w1 ⟨rfl, rfl⟩
        go_wp2_with fail
        refine (M _).mono ?_
        rintro e w1 ⟨rfl, rfl⟩
        go_wp2
        go_ret
        first | exact ⟨rfl, Below.refl _ _⟩ | exact ⟨ret_bool (by simpa using f3), Below.refl _ _⟩ | exact ⟨ret_bool (by simpa using f2), Below.refl _ _⟩ | exact ⟨ret_bool (by simpa using f1), Below.refl _ _⟩ | exact ⟨ret_bool (by rw [decide_eq_false (Int.not_lt.2 f1), decide_eq_false (Int.not_lt.2 f2), decide_eq_false (Int.not_lt.2 f3)]; rfl), Below.refl _ _⟩
      · go_enter Tryd.func8, Tryd.ntmps8
        go_wp2_with fail
        refine (known2_any _).mono ?_
        rintro e w1 ⟨rfl, rfl⟩
        go_wp2_with fail
        refine (N1 _).mono ?_
        rintro e w1 ⟨rfl, rfl⟩
        go_wp2_with fail
        refine (N2 _).mono ?_
        rintro e w1 ⟨rfl, rfl⟩
        go_wp2_with fail
        refine (M1 _).mono ?_
        rintro e w1 ⟨rfl, rfl⟩
        go_wp2_with fail
        refine (A1 _).mono ?_
        rintro e w1 ⟨rfl, rfl⟩
        go_wp2_with fail
        refine (S1 _).mono ?_
        rintro e w1 ⟨rfl, rfl⟩
        go_wp2_with fail
        refine (M0 _).mono ?_
        rintro e w1 ⟨rfl, rfl⟩
        go_wp2_with fail
        refine (M _).mono ?_
        rintro e w1 ⟨rfl, rfl⟩
        go_wp2
        go_ret
        first | exact ⟨rfl, Below.refl _ _⟩ | exact ⟨ret_bool (by simpa using f3), Below.refl _ _⟩ | exact ⟨ret_bool (by simpa using f2), Below.refl _ _⟩ | exact ⟨ret_bool (by simpa using f1), Below.refl _ _⟩ | exact ⟨ret_bool (by rw [decide_eq_false (Int.not_lt.2 f1), decide_eq_false (Int.not_lt.2 f2), decide_eq_false (Int.not_lt.2 f3)]; rfl), Below.refl _ _⟩
    · rw [nv_no hm, ne_no hm] at M
      clear hm ha hb
      go_enter Tryd.func8, Tryd.ntmps8
      go_wp2_with fail
      refine (known2_any _).mono ?_
      rintro e w1 ⟨rfl, rfl⟩
      go_wp2_with fail
      refine (N1 _).mono ?_
      rintro e w1 ⟨rfl, rfl⟩
      go_wp2_with fail
      refine (N2 _).mono ?_
      rintro e w1 ⟨rfl, rfl⟩
      go_wp2_with fail
      refine (M1 _).mono ?_
      rintro e w1 ⟨rfl, rfl⟩
      go_wp2_with fail
      refine (A1 _).mono ?_
      rintro e w1 ⟨rfl, rfl⟩
      go_wp2_with fail
      refine (S1 _).mono ?_
      rintro e w1 ⟨rfl, rfl⟩
      go_wp2_with fail
      refine (M0 _).mono ?_
      rintro e w1 ⟨rfl, rfl⟩
      go_wp2_with fail
      refine (M _).mono ?_
      rintro e w1 ⟨rfl, rfl⟩
      go_wp2
      go_ret
      exact ⟨rfl, Below.refl _ _⟩
end Go.Proofs.YtdlhcejlkhgnnaaDoor
