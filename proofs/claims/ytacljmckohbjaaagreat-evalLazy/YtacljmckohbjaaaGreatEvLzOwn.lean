/-
  Proved: chancellaw13.EvalLazy returns true for all arguments (a slice of Ents, a Raw, a Raw, a slice of ints), and they read afterwards as before. Conditions: none; the statement speaks of the cut program that the law reaches, and says nothing of the project's other packages, commands or tests.
-/
import Derived.Test.YtacljmckohbjaaaGreatElAO
import Derived.Test.YtacljmckohbjaaaGreatEvLzPR
import Derived.Test.YtacljmckohbjaaaGreatEvFrame
namespace Go.Proofs.YtacljmckohbjaaaGreat
open Go.ChangeShapes Go.WideShapes Go.ChangeAt Go.RowKit

namespace evalLazy
set_option maxRecDepth 100000 in
theorem lifted (os : Os) (started : os.Started) (H : Type) (enc : TypeId × Value → H) :
    ReturnsInHanded {} Tryz.checked os 3 .any (Rows.evalLazySpec.pre6 enc Tryz.prog Tryz.f3 Rows.evalLazyRow.domain false)
      (Rows.evalLazySpec.post enc Tryz.prog Tryz.f3 false true false false) := by
  refine returns_of13 started (by kernel_rfl) Tryz.func3
    (ChangeSpec.witness6 (enc := enc) (C := Tryz.checked) false ⟨#[], #[.slice none 0 0, .agg #[.int .i64 0, .int .i64 0, .slice none 0 0, .slice none 0 0], .agg #[.int .i64 0, .int .i64 0, .slice none 0 0, .slice none 0 0], .slice none 0 0], []⟩ 8 (by kernel_rfl) (by kernel_rfl) (by kernel_rfl) (by kernel_rfl)) ?_
  intro W base args ds gs before hval0 hW hfit
  have hval : ∀ (j : Nat) t v, Tryz.f3.params[j]? = some t → args[j]? = some v → Value.okWide Tryz.prog W .any base t v := hval0
  have hW' := hW
  obtain ⟨p, q, hA0, hV, rfl, _, _⟩ := hW
  have hA : DataW.TrodAll enc Tryz.prog W 0 (fun _ => true) true Tryz.f3.params.toList args.toList ds p := hA0
  rw [Tryz.params3] at hA hval
  obtain ⟨v0, v1, v2, v3, d0, d1, d2, d3, p0, p1, p2, p3, rfl, rfl, rfl, h0, h1, h2, h3⟩ := trodAll_fourE hA
  obtain ⟨rfl, rfl⟩ := trodVars_none hV
  obtain ⟨lo0, rs0, lc0, rfl, hl0, hr0⟩ := open_ents (hval 0 22 v0 rfl rfl) h0
  obtain ⟨r1, y1, rfl, hy1⟩ := open_raw5 (hval 1 26 v1 rfl rfl) h1
  obtain ⟨r2, y2, rfl, hy2⟩ := open_raw5 (hval 2 26 v2 rfl rfl) h2
  obtain ⟨ao3, xs3, cap3, rfl, hl3, hr3⟩ := open_list (hval 3 23 v3 rfl rfl) h3
  refine (elazy_walk lo0 rs0 lc0 r1 r2 y1 y2 ao3 xs3 cap3 W hl0 hr0 hy1 hy2 hr3 hfit).mono fun e W' ⟨he, hb⟩ => ?_
  subst he
  exact ⟨_, rfl, law_post rfl rfl (fun t ht => by
    have hall : (Tryz.f3.params.toList.all fun u => Tryz.prog.readableRec u && decide (u < Tryz.prog.types.size)) = true := by kernel_rfl
    simpa using List.all_eq_true.1 hall t ht) hW' rfl hb⟩
end evalLazy

theorem evalLazy_holds : Rows.EvalLazySaid :=
  OpenClaim.holds_of_wide 3 Tryz.f3 rfl rfl rfl rfl rfl rfl rfl ⟨rfl, rfl, rfl, rfl, rfl⟩ rfl rfl rfl rfl rfl (by kernel_rfl) Tryz.func3 (by kernel_rfl)
    (of_decide_eq_true (by kernel_rfl)) (by unfold Func.isWrapper; first | (rw [if_pos (by decide +kernel)]; kernel_rfl) | (rw [if_neg (by decide +kernel)]; exact ⟨rfl, rfl⟩))
    (fun os started H enc _ => evalLazy.lifted os started H enc)
#print axioms evalLazy_holds
end Go.Proofs.YtacljmckohbjaaaGreat
