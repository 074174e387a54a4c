/-
  Proved: chancellaw9.AboveGoes returns true for all arguments (a slice of Ents), and they read afterwards as before. Conditions: none; the statement speaks of the cut program that the law reaches, and says nothing of the project's other packages, commands or tests.
-/
import Derived.Test.YtglnlekcpacfiaaElAO
import Derived.Test.YtglnlekcpacfiaaMrN
namespace Go.Proofs.Ytglnlekcpacfiaa
open Go.ChangeShapes Go.WideShapes Go.ChangeAt Go.RowKit

namespace aboveGoes
set_option maxRecDepth 100000 in
theorem lifted (os : Os) (started : os.Started) (H : Type) (enc : TypeId × Value → H) :
    ReturnsInHanded {} Try.checked os 4 .any (Rows.aboveGoesSpec.pre6 enc Try.prog Try.f4 Rows.aboveGoesRow.domain false)
      (Rows.aboveGoesSpec.post enc Try.prog Try.f4 false true false false) := by
  refine returnsInHanded_of_change (C := Try.checked) own started (by kernel_rfl) Try.func4
    (ChangeSpec.witness6 (enc := enc) (C := Try.checked) false ⟨#[], #[.slice none 0 0], []⟩ 8 (by kernel_rfl) (by kernel_rfl) (by kernel_rfl) (by kernel_rfl)) ?_
  intro W base args ds gs before hval0 hW _ _
  have hval : ∀ (j : Nat) t v, Try.f4.params[j]? = some t → args[j]? = some v → Value.okWide Try.prog W .any base t v := hval0
  have hW' := hW
  obtain ⟨p, q, hA0, hV, rfl, _, _⟩ := hW
  have hA : DataW.TrodAll enc Try.prog W 0 (fun _ => true) true Try.f4.params.toList args.toList ds p := hA0
  rw [Try.params4] at hA hval
  obtain ⟨v0, d0, rfl, rfl, h0⟩ := trodAll_one hA
  obtain ⟨rfl, rfl⟩ := trodVars_none hV
  obtain ⟨lo0, rs0, lc0, rfl, hl0, hr0⟩ := open_ents (hval 0 22 v0 rfl rfl) h0
  refine (agoes_walk lo0 rs0 lc0 W hl0 hr0).mono fun e W' ⟨he, hb⟩ => ?_
  subst he
  exact ⟨_, rfl, law_post rfl rfl (fun t ht => by
    have hall : (Try.f4.params.toList.all fun u => Try.prog.readableRec u && decide (u < Try.prog.types.size)) = true := by kernel_rfl
    simpa using List.all_eq_true.1 hall t ht) hW' rfl hb⟩
end aboveGoes

theorem aboveGoes_holds : Rows.AboveGoesSaid :=
  OpenClaim.holds_of_wide 4 Try.f4 rfl rfl rfl rfl rfl rfl rfl ⟨rfl, rfl, rfl, rfl, rfl⟩ rfl rfl rfl rfl rfl (by kernel_rfl) Try.func4 (by kernel_rfl)
    (of_decide_eq_true (by kernel_rfl)) (by unfold Func.isWrapper; first | (rw [if_pos (by decide +kernel)]; kernel_rfl) | (rw [if_neg (by decide +kernel)]; exact ⟨rfl, rfl⟩))
    (fun os started H enc _ => aboveGoes.lifted os started H enc)
#print axioms aboveGoes_holds
end Go.Proofs.Ytglnlekcpacfiaa
