/-
  slices.Insert of one value into a row of the call's own: in the midst.
-/
import Derived.Test.YtifkkhngibjalaaVcF
import Derived.Test.YtifkkhngibjalaaVcK
namespace Go.Proofs.Ytifkkhngibjalaa
open Go.RowKit Go.Sort

theorem cell_of_block {w : World} {g : Nat} {cur : Array Value} {t : TypeId} {fz : Nat × Nat} (h : w.heap[g]? = some (.cells cur t fz)) (j : Nat) : w.cell? ⟨g, j, none⟩ = cur[j]? := by
  simp [World.cell?, h]

theorem fz_of_block {w : World} {g : Nat} {cur : Array Value} {t : TypeId} (h : w.heap[g]? = some (.cells cur t (0, 0))) (j : Nat) : w.frozen? ⟨g, j, none⟩ = false := by
  simp [World.frozen?, h]

theorem shape_of_block {w : World} {g : Nat} {cur : Array Value} {t : TypeId} (h : w.heap[g]? = some (.cells cur t (0, 0))) : w.shape? g = some (t, cur.size) := by
  simp [World.shape?, h]

end Go.Proofs.Ytifkkhngibjalaa
