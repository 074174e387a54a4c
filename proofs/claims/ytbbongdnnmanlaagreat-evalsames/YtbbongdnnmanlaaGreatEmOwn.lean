/-
  Proved: chancellaw13.EvalSames returns true for all arguments (a Raw, a Raw), and they read afterwards as before. Conditions: none; the statement speaks of the cut program that the law reaches, and says nothing of the project's other packages, commands or tests.
-/
import Derived.Test.YtbbongdnnmanlaaGreatEncAll
import Derived.Test.YtbbongdnnmanlaaGreatEmW
import Derived.Test.YtbbongdnnmanlaaGreatEvFrame
namespace Go.Proofs.YtbbongdnnmanlaaGreat
open Go.ChangeShapes Go.WideShapes Go.ChangeAt Go.RowKit

namespace evalSames
set_option maxRecDepth 100000 in
theorem lifted (os : Os) (started : os.Started) (H : Type) (enc : TypeId × Value → H) :
    ReturnsInHanded {} Tryz.checked os 3 .any (Rows.evalSamesSpec.pre6 enc Tryz.prog Tryz.f3 Rows.evalSamesRow.domain false)
      (Rows.evalSamesSpec.post enc Tryz.prog Tryz.f3 false true false false) := by
  refine returns_of13 started (by kernel_rfl) Tryz.func3
    (ChangeSpec.witness6 (enc := enc) (C := Tryz.checked) false ⟨#[], #[.agg #[.int .i64 0, .int .i64 0, .slice none 0 0, .slice none 0 0], .agg #[.int .i64 0, .int .i64 0, .slice none 0 0, .slice none 0 0]], []⟩ 8 (by kernel_rfl) (by kernel_rfl) (by kernel_rfl) (by kernel_rfl)) ?_
  intro W base args ds gs before hval0 hW hfit
  have hval : ∀ (j : Nat) t v, Tryz.f3.params[j]? = some t → args[j]? = some v → Value.okWide Tryz.prog W .any base t v := hval0
  have hW' := hW
  obtain ⟨p, q, hA0, hV, rfl, _, _⟩ := hW
  have hA : DataW.TrodAll enc Tryz.prog W 0 (fun _ => true) true Tryz.f3.params.toList args.toList ds p := hA0
  rw [Tryz.params3] at hA hval
  obtain ⟨v0, v1, d0, d1, p0, p1, rfl, rfl, rfl, h0, h1⟩ := trodAll_two hA
  obtain ⟨rfl, rfl⟩ := trodVars_none hV
  obtain ⟨r0, lo0, es0, lc0, rfl, hr0, hl0, hs0⟩ := open_raw (hval 0 25 v0 rfl rfl) h0
  obtain ⟨r1, lo1, es1, lc1, rfl, hr1, hl1, hs1⟩ := open_raw (hval 1 25 v1 rfl rfl) h1
  refine (esames_walk r0 r1 lo0 lo1 es0 es1 lc0 lc1 W hr0 hr1 hl0 hl1 hs0 hs1 hfit).mono fun e W' ⟨he, hb⟩ => ?_
  subst he
  exact ⟨_, rfl, law_post rfl rfl (fun t ht => by
    have hall : (Tryz.f3.params.toList.all fun u => Tryz.prog.readableRec u && decide (u < Tryz.prog.types.size)) = true := by kernel_rfl
    simpa using List.all_eq_true.1 hall t ht) hW' rfl hb⟩
end evalSames

theorem evalSames_holds : Rows.EvalSamesSaid :=
  OpenClaim.holds_of_wide 3 Tryz.f3 rfl rfl rfl rfl rfl rfl rfl ⟨rfl, rfl, rfl, rfl, rfl⟩ rfl rfl rfl rfl rfl (by kernel_rfl) Tryz.func3 (by kernel_rfl)
    (of_decide_eq_true (by kernel_rfl)) (by unfold Func.isWrapper; first | (rw [if_pos (by decide +kernel)]; kernel_rfl) | (rw [if_neg (by decide +kernel)]; exact ⟨rfl, rfl⟩))
    (fun os started H enc _ => evalSames.lifted os started H enc)
#print axioms evalSames_holds
end Go.Proofs.YtbbongdnnmanlaaGreat
