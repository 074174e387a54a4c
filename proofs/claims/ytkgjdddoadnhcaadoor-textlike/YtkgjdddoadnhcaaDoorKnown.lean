/-
  chancellaw1.known returns true, in every world that bears the table of math/bits and an int in internal/bytealg.MaxLen. What the laws ask of a world: 'Fit'.
-/
import Derived.Test.YtkgjdddoadnhcaaDoorLike
import Derived.Test.YtkgjdddoadnhcaaDoorQuote
namespace Go.Proofs.YtkgjdddoadnhcaaDoor
open Go.RowKit

/-- What the contracts ask of the world: the entry of the table that is read, and some int in MaxLen. -/
structure Fit (w : World) : Prop where
  size : 3 < w.heap.size
  tab : w.cell? ⟨3, 15, none⟩ = some (.int .u8 4)
  max : ∃ m : Int, w.cell? ⟨0, 0, none⟩ = some (.int .i64 m)

theorem Fit.below {w w' : World} (h : Fit w) (hb : Below w.heap.size w w') : Fit w' := by
  obtain ⟨hs, ht, m, hm⟩ := h
  have := hb.size
  exact ⟨by omega, (hb.cell (p := ⟨3, 15, none⟩) (by show 3 < _; omega)).trans ht, m, (hb.cell (p := ⟨0, 0, none⟩) (by show 0 < _; omega)).trans hm⟩

theorem like_fit (s p : ByteArray) (w : World) (hf : Fit w) (hs : s.size < 4294967281) (hp : p.size < 4294967281) :
    Calls Tryd.prog 14 #[.string s, .string p] w fun e w' => e = .returned (.bool (likeL p.data.toList s.data.toList false [])) ∧ Below w.heap.size w w' := by
  obtain ⟨m, hm⟩ := hf.max
  exact like_any s p m w hs hp (by have := hf.size; omega) hm

theorem quote_fit (s : ByteArray) (w : World) (hf : Fit w) (hs : s.size ≤ 1099511627776) :
    Calls Tryd.prog 16 #[.string s] w fun e w' => e = .returned (.string ⟨(quoteL s.data.toList).toArray⟩) ∧ Below w.heap.size w w' :=
  quote_any s w hs (by have := hf.size; omega) hf.tab

set_option maxHeartbeats 1000000 in
set_option maxRecDepth 100000 in
theorem known_any (w : World) (hf : Fit w) :
    Calls Tryd.prog 5 #[] w fun e w' => e = .returned (.bool true) ∧ Below w.heap.size w w' := by
  have k1 : likeL [97, 42, 98] [97, 98, 99, 97, 98] false [] = true := by decide
  have k2 : likeL [97, 42, 98] [97, 98, 99, 97] false [] = false := by decide
  have k3 : quoteL [7] = [34, 92, 117, 123, 55, 125, 34] := by decide
  have K1 := hide k1
  have K2 := hide k2
  have K3 := hide k3
  clear k1 k2 k3
  go_enter Tryd.func5, Tryd.ntmps5
  go_wp2_with fail
  refine (like_fit _ _ _ hf (by decide) (by decide)).mono ?_
  rintro e w1 ⟨rfl, b1⟩
  have f1 := hf.below b1
  have s1 := b1.size
  rw [show likeL _ _ false [] = true from unhide K1]
  go_wp2_with fail
  refine (like_fit _ _ _ f1 (by decide) (by decide)).mono ?_
  rintro e w2 ⟨rfl, b2⟩
  have f2 := f1.below b2
  have s2 := b2.size
  rw [show likeL _ _ false [] = false from unhide K2]
  go_wp2_with fail
  refine (quote_fit _ _ f2 (by decide)).mono ?_
  rintro e w3 ⟨rfl, b3⟩
  rw [show quoteL _ = _ from unhide K3]
  go_wp2
  go_ret
  exact ⟨rfl, (b1.trans (b2.mono s1)).trans (b3.mono (by omega))⟩
end Go.Proofs.YtkgjdddoadnhcaaDoor
