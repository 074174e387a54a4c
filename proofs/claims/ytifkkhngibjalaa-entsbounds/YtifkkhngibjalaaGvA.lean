/-
  Values such as may be, in memory (no walk in it).
-/
import Derived.Test.YtifkkhngibjalaaVcM
namespace Go.Proofs.Ytifkkhngibjalaa
open Go.RowKit Go.Sort

/-- A value as the program holds it. -/
def IsG (w : World) : GV → R7 → Prop
  | .pl p, R => R = ofP p
  | .set l, R => ∃ ao c, R = setR ao l.length c ∧ RowV w ao (l.map ofP) ∧ ∀ ad, ao = some ad → ad.off = 0

theorem IsG.below {w w' : World} {g : GV} {R : R7} (h : IsG w g R) (hb : Below w.heap.size w w') : IsG w' g R := by
  cases g with
  | pl p => exact h
  | set l =>
    obtain ⟨ao, c, e, hr, ho⟩ := h
    exact ⟨ao, c, e, hr.below hb, ho⟩
end Go.Proofs.Ytifkkhngibjalaa
