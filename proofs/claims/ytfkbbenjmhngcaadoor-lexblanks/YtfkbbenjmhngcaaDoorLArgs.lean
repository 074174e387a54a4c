/-
  What a slice of ints or of runes that came in gives the walks: its length, and its cells.
-/
import Derived.Test.YtfkbbenjmhngcaaDoorLFrame
import Derived.Test.YtfkbbenjmhngcaaDoorLawOf
import Derived.Test.YtfkbbenjmhngcaaDoorNumP
namespace Go.Proofs.YtfkbbenjmhngcaaDoor
open Go.ChangeShapes Go.WideShapes Go.ChangeAt Go.WideMaps Go.WideElems Go.RowKit

theorem c_rune : Tryd.prog.cellsOf 21 = 1 := by kernel_rfl
theorem c_int : Tryd.prog.cellsOf 3 = 1 := by kernel_rfl

theorem cell_lt {w : World} {b o : Nat} {v : Value} (h : w.cell? ⟨b, o, none⟩ = some v) : b < w.heap.size := by
  rcases Nat.lt_or_ge b w.heap.size with hl | hl
  · exact hl
  · unfold World.cell? at h
    rw [Array.getElem?_eq_none hl] at h
    cases h

theorem open_row {H : Type} {enc : TypeId × Value → H} {W : World} {b0 : Nat} {t e : TypeId} {k : IntKind} {v : Value} {d : DataW H} {ps : List MemPlace} (ht : Tryd.prog.underlying t = some (.slice e)) (he : Tryd.prog.underlying e = some (.int k)) (hc : Tryd.prog.cellsOf e = 1)
    (hv : Value.okWide Tryd.prog W .any b0 t v) (hd : DataW.Trod enc Tryd.prog W 0 (fun _ => true) true t v d ps) :
    ∃ (ao : Option Addr) (xs : List Int) (cap : Nat), v = .slice ao xs.length cap ∧ xs.length ≤ maxLen ∧ (∀ n ∈ xs, (Lit.int k n).wf = true) ∧
      ∀ j (hj : j < xs.length), ∃ b off, ao = some ⟨b, off, none⟩ ∧ b < W.heap.size ∧ W.cell? ⟨b, off + j, none⟩ = some (.int k xs[j]) := by
  obtain ⟨a0, len, cap, rfl⟩ := okWide_slice ht hv
  obtain ⟨fuel, hf⟩ := hd
  rcases open_ints ht he hc hf with ⟨hcs, _⟩ | ⟨a, len', cap', zs, hcs, _, hl, hm, hz, _, hcell, hwz⟩
  · simp [Value.cells] at hcs
    obtain ⟨rfl, rfl, rfl⟩ := hcs
    exact ⟨none, [], 0, rfl, by simp, by simp, fun j hj => by simp at hj⟩
  · simp [Value.cells] at hcs
    obtain ⟨rfl, rfl, rfl⟩ := hcs
    simp only [if_true] at hz
    have hlen : (zs.take len).length = len := by rw [List.length_take]; omega
    refine ⟨some a, zs.take len, cap, by rw [hlen], by omega, fun n hn => hwz n (List.mem_of_mem_take hn), fun j hj => ?_⟩
    obtain ⟨b, off, rfl, h2⟩ := ints_at hcell (by omega)
    have h3 := h2 j (by omega)
    refine ⟨b, off, rfl, cell_lt h3, ?_⟩
    rw [h3, List.getElem_take, List.getD, List.getElem?_eq_getElem (by omega)]
    rfl

theorem open_list {H : Type} {enc : TypeId × Value → H} {W : World} {b0 : Nat} {v : Value} {d : DataW H} {ps : List MemPlace}
    (hv : Value.okWide Tryd.prog W .any b0 22 v) (hd : DataW.Trod enc Tryd.prog W 0 (fun _ => true) true 22 v d ps) :
    ∃ (ao : Option Addr) (xs : List Int) (cap : Nat), v = .slice ao xs.length cap ∧ xs.length ≤ 9223372036854775807 ∧ IntsAt W ao xs := by
  obtain ⟨ao, xs, cap, e, hl, _, h⟩ := open_row Tryd.underlying22 Tryd.underlying3 c_int hv hd
  exact ⟨ao, xs, cap, e, by unfold maxLen at hl; omega, h⟩
theorem inR_of {x : Int} (h : (Lit.int .i64 x).wf = true) : InR x := by
  have h' : (decide (IntKind.i64.min ≤ x) && decide (x ≤ IntKind.i64.max)) = true := h
  have h1 : IntKind.i64.min ≤ x ∧ x ≤ IntKind.i64.max := by simpa [Bool.and_eq_true] using h'
  exact ⟨h1.1, h1.2⟩

theorem open_listc {H : Type} {enc : TypeId × Value → H} {W : World} {b0 : Nat} {v : Value} {d : DataW H} {ps : List MemPlace}
    (hv : Value.okWide Tryd.prog W .any b0 22 v) (hd : DataW.Trod enc Tryd.prog W 0 (fun _ => true) true 22 v d ps) :
    ∃ (ao : Option Addr) (xs : List Int) (cap : Nat), v = .slice ao xs.length cap ∧ xs.length ≤ 9223372036854775807 ∧ xs.length ≤ cap ∧ IntsAt W ao xs := by
  obtain ⟨ao, xs, cap, e, hl, h⟩ := open_list hv hd
  refine ⟨ao, xs, cap, e, hl, ?_, h⟩
  obtain ⟨fuel, hf⟩ := hd
  rcases open_ints Tryd.underlying22 Tryd.underlying3 c_int hf with ⟨hcs, _⟩ | ⟨a, len', cap', zs, hcs, _, hlc, _⟩
  · rw [e] at hcs
    simp [Value.cells] at hcs
    rw [hcs.2.1]
    simp
  · rw [e] at hcs
    simp [Value.cells] at hcs
    obtain ⟨_, h1, h2⟩ := hcs
    omega
end Go.Proofs.YtfkbbenjmhngcaaDoor
