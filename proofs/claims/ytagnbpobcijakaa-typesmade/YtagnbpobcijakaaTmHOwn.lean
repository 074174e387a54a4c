/-
 Proved: chancellaw11.TypesMade returns true for all arguments (a slice of Kinds, a slice of Actions, an int, an int, a Typed, a Typed), and they read afterwards as before. Conditions: none; the statement speaks of the cut program that the law reaches, and says nothing of the project's other packages, commands or tests.
-/
import Derived.Test.YtagnbpobcijakaaSArgs
import Derived.Test.YtagnbpobcijakaaTmH
namespace Go.Proofs.Ytagnbpobcijakaa
open Go.ChangeShapes Go.WideShapes Go.ChangeAt Go.RowKit

namespace typesMade
set_option maxRecDepth 100000 in
theorem lifted (os : Os) (started : os.Started) (H : Type) (enc : TypeId × Value → H) :
  ReturnsInHanded {} Try.checked os 4 .any (Rows.typesMadeSpec.pre6 enc Try.prog Try.f4 Rows.typesMadeRow.domain false)
   (Rows.typesMadeSpec.post enc Try.prog Try.f4 false true false false) := by
 refine returnsInHanded_of_change (C := Try.checked) own started (by kernel_rfl) Try.func4
  (ChangeSpec.witness6 (enc := enc) (C := Try.checked) false ⟨#[], #[.slice none 0 0, .slice none 0 0, .int .i64 0, .int .i64 0, .agg #[.int .i64 0, .int .i64 0, .slice none 0 0, .slice none 0 0], .agg #[.int .i64 0, .int .i64 0, .slice none 0 0, .slice none 0 0]], []⟩ 8 (by kernel_rfl) (by kernel_rfl) (by kernel_rfl) (by kernel_rfl)) ?_
 intro W base args ds gs before hval0 hW _ _
 have hval : ∀ (j : Nat) t v, Try.f4.params[j]? = some t → args[j]? = some v → Value.okWide Try.prog W .any base t v := hval0
 have hW' := hW
 obtain ⟨p, q, hA0, hV, rfl, _, _⟩ := hW
 have hA : DataW.TrodAll enc Try.prog W 0 (fun _ => true) true Try.f4.params.toList args.toList ds p := hA0
 rw [Try.params4] at hA hval
 obtain ⟨v0, v1, v2, v3, v4, v5, d0, d1, d2, d3, d4, d5, p0, p1, p2, p3, p4, p5, rfl, rfl, rfl, h0, h1, h2, h3, h4, h5⟩ := trodAll_six hA
 obtain ⟨rfl, rfl⟩ := trodVars_none hV
 obtain ⟨ko0, ks0, kc0, rfl, hl0, hk0, hp0⟩ := open_lks (hval 0 22 v0 rfl rfl) h0
 obtain ⟨ko1, ks1, kc1, rfl, hl1, hk1, hp1⟩ := open_las (hval 1 23 v1 rfl rfl) h1
 obtain ⟨x2, rfl, rfl, rfl, wf2⟩ := open_int Try.underlying3 (hval 2 3 v2 rfl rfl) h2
 obtain ⟨x3, rfl, rfl, rfl, wf3⟩ := open_int Try.underlying3 (hval 3 3 v3 rfl rfl) h3
 obtain ⟨r4, y4, rfl, hy4⟩ := open_typed (hval 4 49 v4 rfl rfl) h4
 obtain ⟨r5, y5, rfl, hy5⟩ := open_typed (hval 5 49 v5 rfl rfl) h5
 refine (typesMade_walk ks0 ks1 ko0 ko1 kc0 kc1 x2 x3 r4 y4 r5 y5 W hk0 hk1 hp0 hp1 hy4 hy5).mono fun e W' ⟨he, hb⟩ => ?_
 subst he
 exact ⟨_, rfl, law_post rfl rfl (fun t ht => by
  have hall : (Try.f4.params.toList.all fun u => Try.prog.readableRec u && decide (u < Try.prog.types.size)) = true := by kernel_rfl
  simpa using List.all_eq_true.1 hall t ht) hW' rfl hb⟩
end typesMade

theorem typesMade_holds : Rows.TypesMadeSaid :=
 OpenClaim.holds_of_wide 4 Try.f4 rfl rfl rfl rfl rfl rfl rfl ⟨rfl, rfl, rfl, rfl, rfl⟩ rfl rfl rfl rfl rfl (by kernel_rfl) Try.func4 (by kernel_rfl)
  (of_decide_eq_true (by kernel_rfl)) (by unfold Func.isWrapper; first | (rw [if_pos (by decide +kernel)]; kernel_rfl) | (rw [if_neg (by decide +kernel)]; exact ⟨rfl, rfl⟩))
  (fun os started H enc _ => typesMade.lifted os started H enc)
#print axioms typesMade_holds
end Go.Proofs.Ytagnbpobcijakaa
