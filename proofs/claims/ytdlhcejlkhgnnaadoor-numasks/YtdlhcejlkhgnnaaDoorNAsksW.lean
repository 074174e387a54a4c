/-
  chancellaw2.NumAsks returns true, for every two int64.
-/
import Derived.Test.YtdlhcejlkhgnnaaDoorNumK
import Derived.Test.YtdlhcejlkhgnnaaDoorNumR
namespace Go.Proofs.YtdlhcejlkhgnnaaDoor
open Go.RowKit

theorem ne_range (x : Int) : 0 ≤ ne x ∧ ne x ≤ 17 := by rcases ne_in x with h | h <;> (rw [h]; decide)

set_option maxHeartbeats 1000000 in
set_option maxRecDepth 100000 in
theorem numAsks_walk (a b : Int) (ha : InR a) (hb : InR b) (w : World) :
    Calls Tryd.prog 4 #[.int .i64 a, .int .i64 b] w fun e w' => e = .returned (.bool true) ∧ Below w.heap.size w w' := by
  have A1 := add_any a b ha hb
  have A2 := radd_any a b ha hb
  have S1 := sub_any a b ha hb
  have S2 := rsub_any a b ha hb
  have M1 := mul_any a b ha hb
  have M2 := rmul_any a b ha hb
  have N1 := neg_any a ha
  have N2 := rneg_any a ha
  have r1 := ne_range (a + b)
  have r2 := ne_range (a - b)
  have r3 := ne_range (a * b)
  have r4 := ne_range (-a)
  generalize nv (a + b) = x1 at *
  generalize nv (a - b) = x2 at *
  generalize nv (a * b) = x3 at *
  generalize nv (-a) = x4 at *
  generalize ne (a + b) = y1 at *
  generalize ne (a - b) = y2 at *
  generalize ne (a * b) = y3 at *
  generalize ne (-a) = y4 at *
  obtain ⟨r10, r11⟩ := r1
  obtain ⟨r20, r21⟩ := r2
  obtain ⟨r30, r31⟩ := r3
  obtain ⟨r40, r41⟩ := r4
  go_enter Tryd.func4, Tryd.ntmps4
  go_wp2_with fail
  refine (known2_any _).mono ?_
  rintro e w1 ⟨rfl, rfl⟩
  go_wp2_with fail
  refine (A1 _).mono ?_
  rintro e w1 ⟨rfl, rfl⟩
  go_wp2_with fail
  refine (A2 _).mono ?_
  rintro e w1 ⟨rfl, rfl⟩
  go_wp2_with fail
  refine (S1 _).mono ?_
  rintro e w1 ⟨rfl, rfl⟩
  go_wp2_with fail
  refine (S2 _).mono ?_
  rintro e w1 ⟨rfl, rfl⟩
  go_wp2_with fail
  refine (M1 _).mono ?_
  rintro e w1 ⟨rfl, rfl⟩
  go_wp2_with fail
  refine (M2 _).mono ?_
  rintro e w1 ⟨rfl, rfl⟩
  go_wp2_with fail
  refine (N1 _).mono ?_
  rintro e w1 ⟨rfl, rfl⟩
  go_wp2_with fail
  refine (N2 _).mono ?_
  rintro e w1 ⟨rfl, rfl⟩
  clear A1 A2 S1 S2 M1 M2 N1 N2
  go_wp2
  go_ret
  exact ⟨rfl, Below.refl _ _⟩
end Go.Proofs.YtdlhcejlkhgnnaaDoor
