/-
  A command that came in; five arguments.
-/
import Derived.Test.YtkeljejddfpnmaaDoorKFrame
import Derived.Test.YtkeljejddfpnmaaDoorPkL
namespace Go.Proofs.YtkeljejddfpnmaaDoor
open Go.ChangeShapes Go.WideShapes Go.ChangeAt Go.WideMaps Go.WideElems Go.RowKit

theorem trodAll_five {H : Type} {enc : TypeId × Value → H} {P : Program} {w : World} {base : Nat} {spare : Nat → Bool} {held : Bool} {t t' t'' t3 t4 : TypeId} {args : Array Value} {ds : List (DataW H)} {ps : List MemPlace} (h : DataW.TrodAll enc P w base spare held [t, t', t'', t3, t4] args.toList ds ps) :
    ∃ v v' v'' v3 v4 d d' d'' d3 d4 p p' p'' p3 p4, args = #[v, v', v'', v3, v4] ∧ ds = [d, d', d'', d3, d4] ∧ ps = p ++ p' ++ p'' ++ p3 ++ p4 ∧ DataW.Trod enc P w base spare held t v d p ∧ DataW.Trod enc P w base spare held t' v' d' p' ∧ DataW.Trod enc P w base spare held t'' v'' d'' p'' ∧ DataW.Trod enc P w base spare held t3 v3 d3 p3 ∧ DataW.Trod enc P w base spare held t4 v4 d4 p4 := by
  obtain ⟨v, vs, d, ds', p, q, hargs, rfl, rfl, hd, hrest⟩ := trodAll_cons h
  obtain ⟨v', vs', d', ds'', p', q', rfl, rfl, rfl, hd', hrest'⟩ := trodAll_cons hrest
  obtain ⟨v'', vs'', d'', ds''', p'', q'', rfl, rfl, rfl, hd'', hrest''⟩ := trodAll_cons hrest'
  obtain ⟨v3, vs3, d3, ds3, p3, q3, rfl, rfl, rfl, hd3, hrest3⟩ := trodAll_cons hrest''
  obtain ⟨v4, vs4, d4, ds4, p4, q4, rfl, rfl, rfl, hd4, hrest4⟩ := trodAll_cons hrest3
  obtain ⟨rfl, rfl, rfl⟩ := trodAll_nil hrest4
  exact ⟨v, v', v'', v3, v4, d, d', d'', d3, d4, p, p', p'', p3, p4, by cases args; simp_all, rfl, by simp, hd, hd', hd'', hd3, hd4⟩

set_option maxRecDepth 100000 in
theorem open_cmd {H : Type} {enc : TypeId × Value → H} {W : World} {b0 : Nat} {v : Value} {d : DataW H} {ps : List MemPlace}
    (hv : Value.okWide Tryd.prog W .any b0 23 v) (hd : DataW.Trod enc Tryd.prog W 0 (fun _ => true) true 23 v d ps) :
    ∃ c : C5, v = c.val ∧ c.sq ≤ 9223372036854775807 := by
  obtain ⟨cs0, rfl, hsz⟩ := okWide_struct Tryd.underlying23 hv
  obtain ⟨fuel, hf⟩ := hd
  have hc5 : Tryd.prog.cellsOf 23 = 5 := by kernel_rfl
  have e1 : Tryd.prog.cellsOf 3 = 1 := by kernel_rfl
  have e2 : Tryd.prog.cellsOf 9 = 1 := by kernel_rfl
  have hcs : (Value.agg cs0).cells.toList = cs0.toList := rfl
  obtain ⟨xs, m, _, _, hlen, hxl, hall⟩ := DataW.trod_struct Tryd.underlying23 hf
  rw [hc5] at hlen
  have h0 := hall 0 _ rfl
  have h1 := hall 1 _ rfl
  have h2 := hall 2 _ rfl
  have h3 := hall 3 _ rfl
  have h4 := hall 4 _ rfl
  have hx : xs.length = 5 := hxl
  rw [List.getElem?_eq_getElem (by omega)] at h0 h1 h2 h3 h4
  simp only [List.getElem_toArray, List.getElem_cons_zero, List.getElem_cons_succ, e1, e2] at h0 h1 h2 h3 h4
  generalize hq : (Value.agg cs0).cells.toList = cs at *
  match cs, hlen with
  | [a, b, c, x, y], _ =>
    obtain ⟨k0, hk0, _⟩ := DataW.trod_int Tryd.underlying3 h0
    obtain ⟨k1, hk1, _, wf1⟩ := DataW.trod_int Tryd.underlying3 h1
    obtain ⟨k2, hk2, _⟩ := DataW.trod_int Tryd.underlying3 h2
    obtain ⟨s3, hk3, _⟩ := DataW.trod_string Tryd.underlying9 h3
    obtain ⟨s4, hk4, _⟩ := DataW.trod_string Tryd.underlying9 h4
    simp at hk0 hk1 hk2 hk3 hk4
    subst hk0 hk1 hk2 hk3 hk4
    refine ⟨⟨k0, k1, k2, s3, s4⟩, ?_, ?_⟩
    · unfold C5.val
      congr 1
      exact Array.toList_inj.1 (by rw [← hcs])
    · have h' : (decide (IntKind.i64.min ≤ k1) && decide (k1 ≤ IntKind.i64.max)) = true := wf1
      have h1 : IntKind.i64.min ≤ k1 ∧ k1 ≤ IntKind.i64.max := by simpa [Bool.and_eq_true] using h'
      exact h1.2
end Go.Proofs.YtkeljejddfpnmaaDoor
