/-
  show.level, show.signOf: what they return.
-/
import Derived.Test.YtpblalklenebhaaDoorShP
import Derived.Test.YtpblalklenebhaaDoorExA
import Derived.WalkKit
import Derived.WalkSpells
import Derived.WalkLawsBesides
namespace Go.Proofs.YtpblalklenebhaaDoor
open Go.RowKit

set_option maxHeartbeats 4000000 in
set_option maxRecDepth 1000000 in
theorem slevel_any (k : Int) (w : World) :
    Calls Tryd.prog 44 #[.int .i64 k] w fun e w' => e = .returned (.int .i64 (lev k)) ∧ w' = w := by
  by_cases hk : 7 ≤ k ∧ k ≤ 25
  · have h : k = 7 ∨ k = 8 ∨ k = 9 ∨ k = 10 ∨ k = 11 ∨ k = 12 ∨ k = 13 ∨ k = 14 ∨ k = 15 ∨ k = 16 ∨ k = 17 ∨ k = 18 ∨ k = 19 ∨ k = 20 ∨ k = 21 ∨ k = 22 ∨ k = 23 ∨ k = 24 ∨ k = 25 := by omega
    clear hk
    rcases h with rfl | rfl | rfl | rfl | rfl | rfl | rfl | rfl | rfl | rfl | rfl | rfl | rfl | rfl | rfl | rfl | rfl | rfl | rfl
    all_goals
      simp only [lev, reduceIte, Int.reduceEq, Int.reduceLE, and_true, and_false, and_self, or_false, or_true, or_self]
      go_enter Tryd.func44, Tryd.ntmps44
      go_wp2
      go_ret
      exact ⟨rfl, rfl⟩
  · have e : lev k = 8 := by
      unfold lev
      rw [if_neg (by omega), if_neg (by omega), if_neg (by omega), if_neg (by omega), if_neg (by omega), if_neg (by omega), if_neg (by omega), if_neg (by omega)]
    rw [e]
    have c7 : ¬ k = 7 := by omega
    have c8 : ¬ k = 8 := by omega
    have c9 : ¬ k = 9 := by omega
    have c10 : ¬ k = 10 := by omega
    have c11 : ¬ k = 11 := by omega
    have c12 : ¬ k = 12 := by omega
    have c13 : ¬ k = 13 := by omega
    have c14 : ¬ k = 14 := by omega
    have c15 : ¬ k = 15 := by omega
    have c16 : ¬ k = 16 := by omega
    have c17 : ¬ k = 17 := by omega
    have c18 : ¬ k = 18 := by omega
    have c19 : ¬ k = 19 := by omega
    have c20 : ¬ k = 20 := by omega
    have c21 : ¬ k = 21 := by omega
    have c22 : ¬ k = 22 := by omega
    have c23 : ¬ k = 23 := by omega
    have c24 : ¬ k = 24 := by omega
    have c25 : ¬ k = 25 := by omega
    clear e hk
    go_enter Tryd.func44, Tryd.ntmps44
    go_wp2
    go_ret
    exact ⟨rfl, rfl⟩

set_option maxHeartbeats 4000000 in
set_option maxRecDepth 1000000 in
theorem ssignOf_any (k : Int) (w : World) :
    Calls Tryd.prog 51 #[.int .i64 k] w fun e w' => e = .returned (.string ⟨(sgnO k).toArray⟩) ∧ w' = w := by
  by_cases hk : 13 ≤ k ∧ k ≤ 24
  · have h : k = 13 ∨ k = 14 ∨ k = 15 ∨ k = 16 ∨ k = 17 ∨ k = 18 ∨ k = 19 ∨ k = 20 ∨ k = 21 ∨ k = 22 ∨ k = 23 ∨ k = 24 := by omega
    clear hk
    rcases h with rfl | rfl | rfl | rfl | rfl | rfl | rfl | rfl | rfl | rfl | rfl | rfl
    all_goals
      simp only [sgnO, reduceIte, Int.reduceEq]
      go_enter Tryd.func51, Tryd.ntmps51
      go_wp2
      go_ret
      exact ⟨rfl, rfl⟩
  · have e : sgnO k = [] := by
      unfold sgnO
      rw [if_neg (by omega), if_neg (by omega), if_neg (by omega), if_neg (by omega), if_neg (by omega), if_neg (by omega), if_neg (by omega), if_neg (by omega), if_neg (by omega), if_neg (by omega), if_neg (by omega), if_neg (by omega)]
    rw [e]
    have c13 : ¬ k = 13 := by omega
    have c14 : ¬ k = 14 := by omega
    have c15 : ¬ k = 15 := by omega
    have c16 : ¬ k = 16 := by omega
    have c17 : ¬ k = 17 := by omega
    have c18 : ¬ k = 18 := by omega
    have c19 : ¬ k = 19 := by omega
    have c20 : ¬ k = 20 := by omega
    have c21 : ¬ k = 21 := by omega
    have c22 : ¬ k = 22 := by omega
    have c23 : ¬ k = 23 := by omega
    have c24 : ¬ k = 24 := by omega
    clear e hk
    go_enter Tryd.func51, Tryd.ntmps51
    go_wp2
    go_ret
    exact ⟨rfl, rfl⟩
end Go.Proofs.YtpblalklenebhaaDoor
