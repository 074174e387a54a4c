/-
  An Ent that came in.
-/
import Derived.Test.YtifkkhngibjalaaEoA
namespace Go.Proofs.Ytifkkhngibjalaa
open Go.ChangeShapes Go.WideShapes Go.ChangeAt Go.WideMaps Go.WideElems Go.RowKit

set_option maxRecDepth 100000 in
theorem open_ent {H : Type} {enc : TypeId × Value → H} {W : World} {b0 : Nat} {v : Value} {d : DataW H} {ps : List MemPlace}
    (hv : Value.okWide Try.prog W .any b0 25 v) (hd : DataW.Trod enc Try.prog W 0 (fun _ => true) true 25 v d ps) :
    ∃ r : EntR, v = r.val ∧ r.Ok W := by
  obtain ⟨cs, rfl, hsz⟩ := okWide_struct Try.underlying25 hv
  obtain ⟨fuel, hf⟩ := hd
  obtain ⟨r, hcs, hok⟩ := ent_cells hf
  refine ⟨r, ?_, hok⟩
  have : cs.toList = _ := hcs
  unfold EntR.val
  congr 1
  exact Array.toList_inj.1 (by rw [this]; rfl)
end Go.Proofs.Ytifkkhngibjalaa
