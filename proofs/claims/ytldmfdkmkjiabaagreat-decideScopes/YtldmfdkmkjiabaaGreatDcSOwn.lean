/-
  Proved: chancellaw14.DecideScopes returns true for all arguments (a slice of Ents, a slice of ints, an int, an int, a bool), and they read afterwards as before. Conditions: none; the statement speaks of the cut program that the law reaches, and says nothing of the project's other packages, commands or tests.
-/
import Derived.Test.YtldmfdkmkjiabaaGreatElAO
import Derived.Test.YtldmfdkmkjiabaaGreatDcS
import Derived.Test.YtldmfdkmkjiabaaGreatEvFrame
namespace Go.Proofs.YtldmfdkmkjiabaaGreat
open Go.ChangeShapes Go.WideShapes Go.ChangeAt Go.RowKit

namespace decideScopes
set_option maxRecDepth 100000 in
theorem lifted (os : Os) (started : os.Started) (H : Type) (enc : TypeId × Value → H) :
    ReturnsInHanded {} Tryz.checked os 3 .any (Rows.decideScopesSpec.pre6 enc Tryz.prog Tryz.f3 Rows.decideScopesRow.domain false)
      (Rows.decideScopesSpec.post enc Tryz.prog Tryz.f3 false true false false) := by
  refine returns_of13 started (by kernel_rfl) Tryz.func3
    (ChangeSpec.witness6 (enc := enc) (C := Tryz.checked) false ⟨#[], #[.slice none 0 0, .slice none 0 0, .int .i64 0, .int .i64 0, .bool false], []⟩ 8 (by kernel_rfl) (by kernel_rfl) (by kernel_rfl) (by kernel_rfl)) ?_
  intro W base args ds gs before hval0 hW hfit
  have hval : ∀ (j : Nat) t v, Tryz.f3.params[j]? = some t → args[j]? = some v → Value.okWide Tryz.prog W .any base t v := hval0
  have hW' := hW
  obtain ⟨p, q, hA0, hV, rfl, _, _⟩ := hW
  have hA : DataW.TrodAll enc Tryz.prog W 0 (fun _ => true) true Tryz.f3.params.toList args.toList ds p := hA0
  rw [Tryz.params3] at hA hval
  obtain ⟨v0, v1, v2, v3, v4, d0, d1, d2, d3, d4, p0, p1, p2, p3, p4, rfl, rfl, rfl, h0, h1, h2, h3, h4⟩ := trodAll_fiveE hA
  obtain ⟨rfl, rfl⟩ := trodVars_none hV
  obtain ⟨lo0, rs0, lc0, rfl, hl0, hr0⟩ := open_ents (hval 0 22 v0 rfl rfl) h0
  obtain ⟨ao1, xs1, cap1, rfl, hl1, hr1⟩ := open_list (hval 1 23 v1 rfl rfl) h1
  obtain ⟨x2, rfl, rfl, rfl, wf2⟩ := open_int Tryz.underlying3 (hval 2 3 v2 rfl rfl) h2
  obtain ⟨x3, rfl, rfl, rfl, wf3⟩ := open_int Tryz.underlying3 (hval 3 3 v3 rfl rfl) h3
  obtain ⟨b4, rfl, rfl, rfl⟩ := open_bool Tryz.underlying4 (hval 4 4 v4 rfl rfl) h4
  refine (dscopes_walk lo0 rs0 lc0 ao1 xs1 cap1 x2 x3 b4 W hl0 hr0 hr1 hfit).mono fun e W' ⟨he, hb⟩ => ?_
  subst he
  exact ⟨_, rfl, law_post rfl rfl (fun t ht => by
    have hall : (Tryz.f3.params.toList.all fun u => Tryz.prog.readableRec u && decide (u < Tryz.prog.types.size)) = true := by kernel_rfl
    simpa using List.all_eq_true.1 hall t ht) hW' rfl hb⟩
end decideScopes

theorem decideScopes_holds : Rows.DecideScopesSaid :=
  OpenClaim.holds_of_wide 3 Tryz.f3 rfl rfl rfl rfl rfl rfl rfl ⟨rfl, rfl, rfl, rfl, rfl⟩ rfl rfl rfl rfl rfl (by kernel_rfl) Tryz.func3 (by kernel_rfl)
    (of_decide_eq_true (by kernel_rfl)) (by unfold Func.isWrapper; first | (rw [if_pos (by decide +kernel)]; kernel_rfl) | (rw [if_neg (by decide +kernel)]; exact ⟨rfl, rfl⟩))
    (fun os started H enc _ => decideScopes.lifted os started H enc)
#print axioms decideScopes_holds
end Go.Proofs.YtldmfdkmkjiabaaGreat
