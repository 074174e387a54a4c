/-
  chancellaw2.NumSmall returns true, for every two ints.
-/
import Derived.Test.YtdlhcejlkhgnnabDoorNumK
namespace Go.Proofs.YtdlhcejlkhgnnabDoor
open Go.RowKit

theorem tmod_neg2 (a n : Int) (hn : 0 < n) (hn1 : n ≤ 4294967296) (h : a.tmod n < 0) : wrap64 (a.tmod n + n) = a % n := by
  have q0 := Int.emod_nonneg a (show n ≠ 0 by omega)
  have q1 := Int.emod_lt_of_pos a hn
  have e : a.tmod n + n = a % n := by
    rw [Int.emod_eq_tmod]
    have : ¬ (0 ≤ a ∨ n ∣ a) := by
      rintro (h1 | h1)
      · have := Int.tmod_nonneg n h1
        omega
      · rw [Int.tmod_eq_zero_of_dvd h1] at h
        omega
    rw [if_neg this]
    omega
  rw [e]
  simp only [wrap64]
  omega
theorem tmod_pos2 (a n : Int) (hn : 0 < n) (h : 0 ≤ a.tmod n) : a.tmod n = a % n := by
  rw [Int.emod_eq_tmod]
  by_cases hc : 0 ≤ a ∨ n ∣ a
  · rw [if_pos hc]; omega
  · exfalso
    rw [Int.tmod_eq_emod, if_neg hc] at h
    have := Int.emod_lt_of_pos a hn
    omega
theorem ret_int {k : IntKind} {a b : Int} (h : a = b) : Ending.returned (.int k a) = .returned (.int k b) := by rw [h]

set_option maxHeartbeats 1000000 in
theorem within2_any (a n : Int) (hn : 0 < n) (hn1 : n ≤ 4294967296) (w : World) :
    Calls Tryd.prog 5 #[.int .i64 a, .int .i64 n] w fun e w' => e = .returned (.int .i64 (a % n)) ∧ w' = w := by
  go_enter Tryd.func5, Tryd.ntmps5
  go_wp2
  · go_ret
    exact ⟨ret_int (tmod_neg2 a n hn hn1 (by assumption)), rfl⟩
  · go_ret
    exact ⟨ret_int (tmod_pos2 a n hn (by assumption)), rfl⟩

theorem mul_small (x y : Int) (h0 : -1073741824 ≤ x) (h1 : x < 1073741824) (h2 : -1073741824 ≤ y) (h3 : y < 1073741824) : ∃ p, x * y = p ∧ -9223372036854775808 ≤ p ∧ p ≤ 9223372036854775807 := by
  have e : (x * y).natAbs = x.natAbs * y.natAbs := Int.natAbs_mul x y
  have l : x.natAbs * y.natAbs ≤ 1073741824 * 1073741824 := Nat.mul_le_mul (by omega) (by omega)
  exact ⟨x * y, rfl, by omega, by omega⟩

set_option maxHeartbeats 1000000 in
set_option maxRecDepth 100000 in
theorem numSmall_walk (a b : Int) (w : World) :
    Calls Tryd.prog 3 #[.int .i64 a, .int .i64 b] w fun e w' => e = .returned (.bool true) ∧ w' = w := by
  have q0 := Int.emod_nonneg a (show (2147483648 : Int) ≠ 0 by decide)
  have q1 := Int.emod_lt_of_pos a (show (0 : Int) < 2147483648 by decide)
  have r0 := Int.emod_nonneg b (show (2147483648 : Int) ≠ 0 by decide)
  have r1 := Int.emod_lt_of_pos b (show (0 : Int) < 2147483648 by decide)
  go_enter Tryd.func3, Tryd.ntmps3
  go_wp2_with fail
  refine (known2_any _).mono ?_
  rintro e w1 ⟨rfl, rfl⟩
  go_wp2_with fail
  refine (within2_any a 2147483648 (by decide) (by decide) _).mono ?_
  rintro e w2 ⟨rfl, rfl⟩
  go_wp2_with fail
  refine (within2_any b 2147483648 (by decide) (by decide) _).mono ?_
  rintro e w3 ⟨rfl, rfl⟩
  generalize a % 2147483648 = q at *
  generalize b % 2147483648 = r at *
  obtain ⟨x, rfl⟩ : ∃ x, q = x + 1073741824 := ⟨q - 1073741824, by omega⟩
  obtain ⟨y, rfl⟩ : ∃ y, r = y + 1073741824 := ⟨r - 1073741824, by omega⟩
  have x0 : -1073741824 ≤ x := by omega
  have x1 : x < 1073741824 := by omega
  have y0 : -1073741824 ≤ y := by omega
  have y1 : y < 1073741824 := by omega
  clear q0 q1 r0 r1
  have ex : x + 1073741824 - 1073741824 = x := by omega
  have ey : y + 1073741824 - 1073741824 = y := by omega
  obtain ⟨p, hp, p0, p1⟩ := mul_small x y x0 x1 y0 y1
  have i1 : InR (x + y) := ⟨by omega, by omega⟩
  have i2 : InR (x - y) := ⟨by omega, by omega⟩
  have i3 : InR p := ⟨p0, p1⟩
  have E1 := hide (nv_ok i1)
  have E2 := hide (ne_ok i1)
  have E3 := hide (nv_ok i2)
  have E4 := hide (ne_ok i2)
  have E5 := hide (nv_ok i3)
  have E6 := hide (ne_ok i3)
  have I1 := hide (show InR x from ⟨by omega, by omega⟩)
  have I2 := hide (show InR y from ⟨by omega, by omega⟩)
  have HP := hide hp
  clear i1 i2 i3
  go_wp2_with fail
  refine (add_any x y (unhide I1) (unhide I2) _).mono ?_
  rintro e w4 ⟨rfl, rfl⟩
  rw [unhide E1, unhide E2]
  go_wp2_with fail
  refine (sub_any x y (unhide I1) (unhide I2) _).mono ?_
  rintro e w5 ⟨rfl, rfl⟩
  rw [unhide E3, unhide E4]
  go_wp2_with fail
  refine (mul_any x y (unhide I1) (unhide I2) _).mono ?_
  rintro e w6 ⟨rfl, rfl⟩
  rw [unhide HP, unhide E5, unhide E6]
  go_wp2
  go_ret
  exact ⟨rfl, rfl⟩

theorem numSmall_below (a b : Int) (w : World) :
    Calls Tryd.prog 3 #[.int .i64 a, .int .i64 b] w fun e w' => e = .returned (.bool true) ∧ Below w.heap.size w w' :=
  (numSmall_walk a b w).mono fun _ _ ⟨he, hw⟩ => ⟨he, hw ▸ Below.refl _ _⟩
end Go.Proofs.YtdlhcejlkhgnnabDoor
