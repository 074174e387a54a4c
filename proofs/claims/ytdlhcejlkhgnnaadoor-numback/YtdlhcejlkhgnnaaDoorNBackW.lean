/-
  chancellaw2.NumBack returns true, for every two int64.
-/
import Derived.Test.YtdlhcejlkhgnnaaDoorNumK
namespace Go.Proofs.YtdlhcejlkhgnnaaDoor
open Go.RowKit

theorem back_facts (a b : Int) (ha : InR a) (hb : b ≠ 0) : (a * b).tmod b = 0 ∧ IntKind.i64.wrap ((a * b).tdiv b) = a := by
  refine ⟨Int.mul_tmod_left a b, ?_⟩
  rw [Int.mul_tdiv_cancel _ hb, IntKind.wrap_i64]
  unfold InR at ha
  omega

set_option maxHeartbeats 1000000 in
set_option maxRecDepth 100000 in
theorem numBack_walk (a b : Int) (ha : InR a) (hb : InR b) (w : World) :
    Calls Tryd.prog 5 #[.int .i64 a, .int .i64 b] w fun e w' => e = .returned (.bool true) ∧ Below w.heap.size w w' := by
  have A1 := add_any a b ha hb
  have S1 := sub_any a b ha hb
  have M1 := mul_any a b ha hb
  have M2 := mul_any b a hb ha
  rw [Int.mul_comm b a] at M2
  by_cases hA : InR (a + b)
  · by_cases hS : InR (a - b)
    · have D1 := sub_any (a + b) b hA hb
      rw [nv_ok hA, ne_ok hA] at A1
      rw [show a + b - b = a from by omega, nv_ok ha, ne_ok ha] at D1
      generalize a + b = s at *
      have D2 := add_any (a - b) b hS hb
      rw [nv_ok hS, ne_ok hS] at S1
      rw [show a - b + b = a from by omega, nv_ok ha, ne_ok ha] at D2
      generalize a - b = r at *
      clear hA hS
      by_cases hm : InR (a * b)
      · by_cases h0 : b = 0
        · subst h0
          rw [Int.mul_zero] at M1 M2
          rw [nv_ok ⟨by decide, by decide⟩, ne_ok ⟨by decide, by decide⟩] at M1 M2
          clear ha hb hm
          go_enter Tryd.func5, Tryd.ntmps5
          go_wp2_with fail
          refine (known2_any _).mono ?_
          rintro e w1 ⟨rfl, rfl⟩
          go_wp2_with fail
          refine (A1 _).mono ?_
          rintro e w1 ⟨rfl, rfl⟩
          go_wp2_with fail
          refine (D1 _).mono ?_
          rintro e w1 ⟨rfl, rfl⟩
          go_wp2_with fail
          refine (S1 _).mono ?_
          rintro e w1 ⟨rfl, rfl⟩
          go_wp2_with fail
          refine (D2 _).mono ?_
          rintro e w1 ⟨rfl, rfl⟩
          go_wp2_with fail
          refine (M1 _).mono ?_
          rintro e w1 ⟨rfl, rfl⟩
          go_wp2_with fail
          refine (M2 _).mono ?_
          rintro e w1 ⟨rfl, rfl⟩
          go_wp2
          go_ret
          exact ⟨rfl, Below.refl _ _⟩
        · obtain ⟨f1, f2⟩ := back_facts a b ha h0
          rw [nv_ok hm, ne_ok hm] at M1 M2
          generalize a * b = p at *
          have e0 : (b == (0 : Int)) = false := by simpa using h0
          obtain ⟨hm0, hm1⟩ := hm
          obtain ⟨a0, a1⟩ := ha
          obtain ⟨b0, b1⟩ := hb
          go_enter Tryd.func5, Tryd.ntmps5
          go_wp2_with fail
          refine (known2_any _).mono ?_
          rintro e w1 ⟨rfl, rfl⟩
          go_wp2_with fail
          refine (A1 _).mono ?_
          rintro e w1 ⟨rfl, rfl⟩
          go_wp2_with fail
          refine (D1 _).mono ?_
          rintro e w1 ⟨rfl, rfl⟩
          go_wp2_with fail
          refine (S1 _).mono ?_
          rintro e w1 ⟨rfl, rfl⟩
          go_wp2_with fail
          refine (D2 _).mono ?_
          rintro e w1 ⟨rfl, rfl⟩
          go_wp2_with fail
          refine (M1 _).mono ?_
          rintro e w1 ⟨rfl, rfl⟩
          go_wp2_with fail
          refine (M2 _).mono ?_
          rintro e w1 ⟨rfl, rfl⟩
          go_wp2
          go_ret
          exact ⟨rfl, Below.refl _ _⟩
      · rw [nv_no hm, ne_no hm] at M1 M2
        clear ha hb hm
        go_enter Tryd.func5, Tryd.ntmps5
        go_wp2_with fail
        refine (known2_any _).mono ?_
        rintro e w1 ⟨rfl, rfl⟩
        go_wp2_with fail
        refine (A1 _).mono ?_
        rintro e w1 ⟨rfl, rfl⟩
        go_wp2_with fail
        refine (D1 _).mono ?_
        rintro e w1 ⟨rfl, rfl⟩
        go_wp2_with fail
        refine (S1 _).mono ?_
        rintro e w1 ⟨rfl, rfl⟩
        go_wp2_with fail
        refine (D2 _).mono ?_
        rintro e w1 ⟨rfl, rfl⟩
        go_wp2_with fail
        refine (M1 _).mono ?_
        rintro e w1 ⟨rfl, rfl⟩
        go_wp2_with fail
        refine (M2 _).mono ?_
        rintro e w1 ⟨rfl, rfl⟩
        go_wp2
        go_ret
        exact ⟨rfl, Below.refl _ _⟩
    · have D1 := sub_any (a + b) b hA hb
      rw [nv_ok hA, ne_ok hA] at A1
      rw [show a + b - b = a from by omega, nv_ok ha, ne_ok ha] at D1
      generalize a + b = s at *
      rw [nv_no hS, ne_no hS] at S1
      clear hA hS
      by_cases hm : InR (a * b)
      · by_cases h0 : b = 0
        · subst h0
          rw [Int.mul_zero] at M1 M2
          rw [nv_ok ⟨by decide, by decide⟩, ne_ok ⟨by decide, by decide⟩] at M1 M2
          clear ha hb hm
          go_enter Tryd.func5, Tryd.ntmps5
          go_wp2_with fail
          refine (known2_any _).mono ?_
          rintro e w1 ⟨rfl, rfl⟩
          go_wp2_with fail
          refine (A1 _).mono ?_
          rintro e w1 ⟨rfl, rfl⟩
          go_wp2_with fail
          refine (D1 _).mono ?_
          rintro e w1 ⟨rfl, rfl⟩
          go_wp2_with fail
          refine (S1 _).mono ?_
          rintro e w1 ⟨rfl, rfl⟩
          go_wp2_with fail
          refine (M1 _).mono ?_
          rintro e w1 ⟨rfl, rfl⟩
          go_wp2_with fail
          refine (M2 _).mono ?_
          rintro e w1 ⟨rfl, rfl⟩
          go_wp2
          go_ret
          exact ⟨rfl, Below.refl _ _⟩
        · obtain ⟨f1, f2⟩ := back_facts a b ha h0
          rw [nv_ok hm, ne_ok hm] at M1 M2
          generalize a * b = p at *
          have e0 : (b == (0 : Int)) = false := by simpa using h0
          obtain ⟨hm0, hm1⟩ := hm
          obtain ⟨a0, a1⟩ := ha
          obtain ⟨b0, b1⟩ := hb
          go_enter Tryd.func5, Tryd.ntmps5
          go_wp2_with fail
          refine (known2_any _).mono ?_
          rintro e w1 ⟨rfl, rfl⟩
          go_wp2_with fail
          refine (A1 _).mono ?_
          rintro e w1 ⟨rfl, rfl⟩
          go_wp2_with fail
          refine (D1 _).mono ?_
          rintro e w1 ⟨rfl, rfl⟩
          go_wp2_with fail
          refine (S1 _).mono ?_
          rintro e w1 ⟨rfl, rfl⟩
          go_wp2_with fail
          refine (M1 _).mono ?_
          rintro e w1 ⟨rfl, rfl⟩
          go_wp2_with fail
          refine (M2 _).mono ?_
          rintro e w1 ⟨rfl, rfl⟩
          go_wp2
          go_ret
          exact ⟨rfl, Below.refl _ _⟩
      · rw [nv_no hm, ne_no hm] at M1 M2
        clear ha hb hm
        go_enter Tryd.func5, Tryd.ntmps5
        go_wp2_with fail
        refine (known2_any _).mono ?_
        rintro e w1 ⟨rfl, rfl⟩
        go_wp2_with fail
        refine (A1 _).mono ?_
        rintro e w1 ⟨rfl, rfl⟩
        go_wp2_with fail
        refine (D1 _).mono ?_
        rintro e w1 ⟨rfl, rfl⟩
        go_wp2_with fail
        refine (S1 _).mono ?_
        rintro e w1 ⟨rfl, rfl⟩
        go_wp2_with fail
        refine (M1 _).mono ?_
        rintro e w1 ⟨rfl, rfl⟩
        go_wp2_with fail
        refine (M2 _).mono ?_
        rintro e w1 ⟨rfl, rfl⟩
        go_wp2
        go_ret
        exact ⟨rfl, Below.refl _ _⟩
  · by_cases hS : InR (a - b)
    · rw [nv_no hA, ne_no hA] at A1
      have D2 := add_any (a - b) b hS hb
      rw [nv_ok hS, ne_ok hS] at S1
      rw [show a - b + b = a from by omega, nv_ok ha, ne_ok ha] at D2
      generalize a - b = r at *
      clear hA hS
      by_cases hm : InR (a * b)
      · by_cases h0 : b = 0
        · subst h0
          rw [Int.mul_zero] at M1 M2
          rw [nv_ok ⟨by decide, by decide⟩, ne_ok ⟨by decide, by decide⟩] at M1 M2
          clear ha hb hm
          go_enter Tryd.func5, Tryd.ntmps5
          go_wp2_with fail
          refine (known2_any _).mono ?_
          rintro e w1 ⟨rfl, rfl⟩
          go_wp2_with fail
          refine (A1 _).mono ?_
          rintro e w1 ⟨rfl, rfl⟩
          go_wp2_with fail
          refine (S1 _).mono ?_
          rintro e w1 ⟨rfl, rfl⟩
          go_wp2_with fail
          refine (D2 _).mono ?_
          rintro e w1 ⟨rfl, rfl⟩
          go_wp2_with fail
          refine (M1 _).mono ?_
          rintro e w1 ⟨rfl, rfl⟩
          go_wp2_with fail
          refine (M2 _).mono ?_
          rintro e w1 ⟨rfl, rfl⟩
          go_wp2
          go_ret
          exact ⟨rfl, Below.refl _ _⟩
        · obtain ⟨f1, f2⟩ := back_facts a b ha h0
          rw [nv_ok hm, ne_ok hm] at M1 M2
          generalize a * b = p at *
          have e0 : (b == (0 : Int)) = false := by simpa using h0
          obtain ⟨hm0, hm1⟩ := hm
          obtain ⟨a0, a1⟩ := ha
          obtain ⟨b0, b1⟩ := hb
          go_enter Tryd.func5, Tryd.ntmps5
          go_wp2_with fail
          refine (known2_any _).mono ?_
          rintro e w1 ⟨rfl, rfl⟩
          go_wp2_with fail
          refine (A1 _).mono ?_
          rintro e w1 ⟨rfl, rfl⟩
          go_wp2_with fail
          refine (S1 _).mono ?_
          rintro e w1 ⟨rfl, rfl⟩
          go_wp2_with fail
          refine (D2 _).mono ?_
          rintro e w1 ⟨rfl, rfl⟩
          go_wp2_with fail
          refine (M1 _).mono ?_
          rintro e w1 ⟨rfl, rfl⟩
          go_wp2_with fail
          refine (M2 _).mono ?_
          rintro e w1 ⟨rfl, rfl⟩
          go_wp2
          go_ret
          exact ⟨rfl, Below.refl _ _⟩
      · rw [nv_no hm, ne_no hm] at M1 M2
        clear ha hb hm
        go_enter Tryd.func5, Tryd.ntmps5
        go_wp2_with fail
        refine (known2_any _).mono ?_
        rintro e w1 ⟨rfl, rfl⟩
        go_wp2_with fail
        refine (A1 _).mono ?_
        rintro e w1 ⟨rfl, rfl⟩
        go_wp2_with fail
        refine (S1 _).mono ?_
        rintro e w1 ⟨rfl, rfl⟩
        go_wp2_with fail
        refine (D2 _).mono ?_
        rintro e w1 ⟨rfl, rfl⟩
        go_wp2_with fail
        refine (M1 _).mono ?_
        rintro e w1 ⟨rfl, rfl⟩
        go_wp2_with fail
        refine (M2 _).mono ?_
        rintro e w1 ⟨rfl, rfl⟩
        go_wp2
        go_ret
        exact ⟨rfl, Below.refl _ _⟩
    · rw [nv_no hA, ne_no hA] at A1
      rw [nv_no hS, ne_no hS] at S1
      clear hA hS
      by_cases hm : InR (a * b)
      · by_cases h0 : b = 0
        · subst h0
          rw [Int.mul_zero] at M1 M2
          rw [nv_ok ⟨by decide, by decide⟩, ne_ok ⟨by decide, by decide⟩] at M1 M2
          clear ha hb hm
          go_enter Tryd.func5, Tryd.ntmps5
          go_wp2_with fail
          refine (known2_any _).mono ?_
          rintro e w1 ⟨rfl, rfl⟩
          go_wp2_with fail
          refine (A1 _).mono ?_
          rintro e w1 ⟨rfl, rfl⟩
          go_wp2_with fail
          refine (S1 _).mono ?_
          rintro e w1 ⟨rfl, rfl⟩
          go_wp2_with fail
          refine (M1 _).mono ?_
          rintro e w1 ⟨rfl, rfl⟩
          go_wp2_with fail
          refine (M2 _).mono ?_
          rintro e w1 ⟨rfl, rfl⟩
          go_wp2
          go_ret
          exact ⟨rfl, Below.refl _ _⟩
        · obtain ⟨f1, f2⟩ := back_facts a b ha h0
          rw [nv_ok hm, ne_ok hm] at M1 M2
          generalize a * b = p at *
          have e0 : (b == (0 : Int)) = false := by simpa using h0
          obtain ⟨hm0, hm1⟩ := hm
          obtain ⟨a0, a1⟩ := ha
          obtain ⟨b0, b1⟩ := hb
          go_enter Tryd.func5, Tryd.ntmps5
          go_wp2_with fail
          refine (known2_any _).mono ?_
          rintro e w1 ⟨rfl, rfl⟩
          go_wp2_with fail
          refine (A1 _).mono ?_
          rintro e w1 ⟨rfl, rfl⟩
          go_wp2_with fail
          refine (S1 _).mono ?_
          rintro e w1 ⟨rfl, rfl⟩
          go_wp2_with fail
          refine (M1 _).mono ?_
          rintro e w1 ⟨rfl, rfl⟩
          go_wp2_with fail
          refine (M2 _).mono ?_
          rintro e w1 ⟨rfl, rfl⟩
          go_wp2
          go_ret
          exact ⟨rfl, Below.refl _ _⟩
      · rw [nv_no hm, ne_no hm] at M1 M2
        clear ha hb hm
        go_enter Tryd.func5, Tryd.ntmps5
        go_wp2_with fail
        refine (known2_any _).mono ?_
        rintro e w1 ⟨rfl, rfl⟩
        go_wp2_with fail
        refine (A1 _).mono ?_
        rintro e w1 ⟨rfl, rfl⟩
        go_wp2_with fail
        refine (S1 _).mono ?_
        rintro e w1 ⟨rfl, rfl⟩
        go_wp2_with fail
        refine (M1 _).mono ?_
        rintro e w1 ⟨rfl, rfl⟩
        go_wp2_with fail
        refine (M2 _).mono ?_
        rintro e w1 ⟨rfl, rfl⟩
        go_wp2
        go_ret
        exact ⟨rfl, Below.refl _ _⟩
end Go.Proofs.YtdlhcejlkhgnnaaDoor
