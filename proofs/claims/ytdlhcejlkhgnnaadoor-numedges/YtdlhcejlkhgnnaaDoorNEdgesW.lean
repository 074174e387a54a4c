/-
  chancellaw2.NumEdges returns true, for every int64 and bool.
-/
import Derived.Test.YtdlhcejlkhgnnaaDoorNumK
namespace Go.Proofs.YtdlhcejlkhgnnaaDoor
open Go.RowKit

set_option maxHeartbeats 1000000 in
set_option maxRecDepth 100000 in
theorem numEdges_walk (a : Int) (up : Bool) (ha : InR a) (w : World) :
    Calls Tryd.prog 7 #[.int .i64 a, .bool up] w fun e w' => e = .returned (.bool true) ∧ Below w.heap.size w w' := by
  obtain ⟨a0, a1⟩ := ha
  by_cases h : a ≤ 0
  · go_enter Tryd.func7, Tryd.ntmps7
    go_wp2_with fail
    refine (known2_any _).mono ?_
    rintro e w1 ⟨rfl, rfl⟩
    go_wp2
    go_ret
    exact ⟨rfl, Below.refl _ _⟩
  · have h' : 0 < a := by omega
    have hr : InR a := ⟨a0, a1⟩
    cases up
    · have A1 := sub_any (-9223372036854775808 + a) a ⟨by omega, by omega⟩ hr
      have A2 := sub_any (-9223372036854775808 + a - 1) a ⟨by omega, by omega⟩ hr
      have i1 : InR (-9223372036854775808 + a - a) := ⟨by omega, by omega⟩
      have i2 : ¬ InR (-9223372036854775808 + a - 1 - a) := by unfold InR; omega
      rw [nv_ok i1, ne_ok i1, show -9223372036854775808 + a - a = -9223372036854775808 from by omega] at A1
      rw [nv_no i2, ne_no i2] at A2
      clear i1 i2 hr
      go_enter Tryd.func7, Tryd.ntmps7
      go_wp2_with fail
      refine (known2_any _).mono ?_
      rintro e w1 ⟨rfl, rfl⟩
      go_wp2_with fail
      refine (A1 _).mono ?_
      rintro e w1 ⟨rfl, rfl⟩
      go_wp2_with fail
      refine (A2 _).mono ?_
      rintro e w1 ⟨rfl, rfl⟩
      go_wp2
      go_ret
      exact ⟨rfl, Below.refl _ _⟩
    · have A1 := add_any (9223372036854775807 - a) a ⟨by omega, by omega⟩ hr
      have A2 := add_any (9223372036854775807 - a + 1) a ⟨by omega, by omega⟩ hr
      have i1 : InR (9223372036854775807 - a + a) := ⟨by omega, by omega⟩
      have i2 : ¬ InR (9223372036854775807 - a + 1 + a) := by unfold InR; omega
      rw [nv_ok i1, ne_ok i1, show 9223372036854775807 - a + a = 9223372036854775807 from by omega] at A1
      rw [nv_no i2, ne_no i2] at A2
      clear i1 i2 hr
      go_enter Tryd.func7, Tryd.ntmps7
      go_wp2_with fail
      refine (known2_any _).mono ?_
      rintro e w1 ⟨rfl, rfl⟩
      go_wp2_with fail
      refine (A1 _).mono ?_
      rintro e w1 ⟨rfl, rfl⟩
      go_wp2_with fail
      refine (A2 _).mono ?_
      rintro e w1 ⟨rfl, rfl⟩
      go_wp2
      go_ret
      exact ⟨rfl, Below.refl _ _⟩
end Go.Proofs.YtdlhcejlkhgnnaaDoor
