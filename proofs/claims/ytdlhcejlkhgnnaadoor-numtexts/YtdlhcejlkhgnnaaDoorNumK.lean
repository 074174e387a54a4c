/-
  chancellaw2.known returns true.
-/
import Derived.Test.YtdlhcejlkhgnnaaDoorNumW
namespace Go.Proofs.YtdlhcejlkhgnnaaDoor
open Go.RowKit

set_option maxHeartbeats 1000000 in
set_option maxRecDepth 100000 in
theorem small_seven (w : World) : Calls Tryd.prog 51 #[.int .i64 7] w fun e w' => e = .returned (.string ⟨#[55]⟩) ∧ w' = w := by
  go_enter Tryd.func51, Tryd.ntmps51
  go_wp2
  go_ret
  exact ⟨rfl, rfl⟩

set_option maxHeartbeats 1000000 in
set_option maxRecDepth 100000 in
theorem inner_seven (w : World) : Calls Tryd.prog 46 #[.int .i64 7, .int .i64 10] w fun e w' => e = .returned (.string ⟨#[55]⟩) ∧ w' = w := by
  go_enter Tryd.func46, Tryd.ntmps46
  go_wp2_with fail
  refine (small_seven _).mono ?_
  rintro e w1 ⟨rfl, rfl⟩
  go_wp2
  go_ret
  exact ⟨rfl, rfl⟩

set_option maxHeartbeats 1000000 in
set_option maxRecDepth 100000 in
theorem format_seven (w : World) : Calls Tryd.prog 33 #[.int .i64 7, .int .i64 10] w fun e w' => e = .returned (.string ⟨#[55]⟩) ∧ w' = w := by
  go_enter Tryd.func33, Tryd.ntmps33
  go_wp2_with fail
  refine (inner_seven _).mono ?_
  rintro e w1 ⟨rfl, rfl⟩
  go_wp2
  go_ret
  exact ⟨rfl, rfl⟩

set_option maxHeartbeats 1000000 in
set_option maxRecDepth 100000 in
theorem text_seven (w : World) : Calls Tryd.prog 24 #[.int .i64 7] w fun e w' => e = .returned (.string ⟨#[55]⟩) ∧ w' = w := by
  go_enter Tryd.func24, Tryd.ntmps24
  go_wp2_with fail
  refine (format_seven _).mono ?_
  rintro e w1 ⟨rfl, rfl⟩
  go_wp2
  go_ret
  exact ⟨rfl, rfl⟩

set_option maxHeartbeats 1000000 in
set_option maxRecDepth 100000 in
theorem known2_any (w : World) : Calls Tryd.prog 13 #[] w fun e w' => e = .returned (.bool true) ∧ w' = w := by
  have k1 : nv (-(-9223372036854775808)) = 0 := by decide
  have k2 : ne (-(-9223372036854775808)) = 17 := by decide
  go_enter Tryd.func13, Tryd.ntmps13
  go_wp2_with fail
  refine (neg_any _ ⟨by decide, by decide⟩ _).mono ?_
  rintro e w1 ⟨rfl, rfl⟩
  rw [k1, k2]
  clear k1 k2
  go_wp2_with fail
  refine (text_seven _).mono ?_
  rintro e w2 ⟨rfl, rfl⟩
  go_wp2
  go_ret
  exact ⟨rfl, rfl⟩
end Go.Proofs.YtdlhcejlkhgnnaaDoor
