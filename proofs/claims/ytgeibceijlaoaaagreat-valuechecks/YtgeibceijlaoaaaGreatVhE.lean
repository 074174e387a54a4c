/-
  What a value that came in gives the walks: its fields, the row of its list, and the rows of its elements' lists.
-/
import Derived.Test.YtgeibceijlaoaaaGreatVArgs
import Derived.Test.YtgeibceijlaoaaaGreatVcM
namespace Go.Proofs.YtgeibceijlaoaaaGreat
open Go.ChangeShapes Go.WideShapes Go.ChangeAt Go.WideMaps Go.WideElems Go.RowKit

theorem c_value : Tryz.prog.cellsOf 26 = 7 := by kernel_rfl

set_option maxRecDepth 100000 in
/-- The seven cells of a value, read. -/
theorem val_cells {H : Type} {enc : TypeId × Value → H} {W : World} {n : Nat} {cs : List Value} {x : DataW H × List MemPlace} (h : DataW.trod enc Tryz.prog W 0 (fun _ => true) true n 26 cs = some x) :
    ∃ (k : Int) (b : Bool) (m : Int) (s t i : ByteArray) (v6 : Value) (q : Nat) (y : DataW H × List MemPlace), cs = [.int .i64 k, .bool b, .int .i64 m, .string s, .string t, .string i, v6] ∧ DataW.trod enc Tryz.prog W 0 (fun _ => true) true q 24 [v6] = some y := by
  obtain ⟨xs, q, _, rfl, hlen, hxl, hf⟩ := DataW.trod_struct Tryz.underlying26 h
  rw [c_value] at hlen
  match xs, hxl with
  | [y0, y1, y2, y3, y4, y5], _ =>
  match cs, hlen with
  | [a0, a1, a2, a3, a4, a5, a6], _ =>
    have e1 : Tryz.prog.cellsOf 3 = 1 := by kernel_rfl
    have e2 : Tryz.prog.cellsOf 4 = 1 := by kernel_rfl
    have e3 : Tryz.prog.cellsOf 2 = 1 := by kernel_rfl
    have e4 : Tryz.prog.cellsOf 9 = 1 := by kernel_rfl
    have e5 : Tryz.prog.cellsOf 23 = 2 := by kernel_rfl
    have e6 : Tryz.prog.cellsOf 24 = 1 := by kernel_rfl
    have h0 := hf 0 _ rfl
    have h1 := hf 1 _ rfl
    have h2 := hf 2 _ rfl
    have h3 := hf 3 _ rfl
    have h4 := hf 4 _ rfl
    have h5 := hf 5 _ rfl
    simp [e1] at h0
    simp [e2] at h1
    simp [e3] at h2
    simp [e4] at h3
    simp [e5] at h4
    simp [e6] at h5
    obtain ⟨k, hk, _⟩ := DataW.trod_int Tryz.underlying3 h0
    obtain ⟨b, hb, _⟩ := DataW.trod_bool Tryz.underlying4 h1
    obtain ⟨m, hm, _⟩ := DataW.trod_int Tryz.underlying2 h2
    obtain ⟨s, hs, _⟩ := DataW.trod_string Tryz.underlying9 h3
    obtain ⟨u0, u1, q2, _, _, g0, g1⟩ := trod_struct2 Tryz.underlying23 h4
    simp [e4] at g0 g1
    obtain ⟨t, ht, _⟩ := DataW.trod_string Tryz.underlying9 g0
    obtain ⟨i, hi, _⟩ := DataW.trod_string Tryz.underlying9 g1
    simp at hk hb hm hs ht hi
    subst hk hb hm hs ht hi
    exact ⟨k, b, m, s, t, i, a6, q, y5, rfl, h5⟩

set_option maxRecDepth 100000 in
/-- A slice of values, read. -/
theorem vals_cell {H : Type} {enc : TypeId × Value → H} {W : World} {m : Nat} {v : Value} {y : DataW H × List MemPlace} (h : DataW.trod enc Tryz.prog W 0 (fun _ => true) true m 24 [v] = some y) :
    ∃ (lo : Option Addr) (es : List R7) (lc : Nat), v = .slice lo es.length lc ∧ es.length ≤ 9223372036854775807 ∧ RowV W lo es ∧ ∀ e ∈ es, ∃ (q : Nat) (y : DataW H × List MemPlace), DataW.trod enc Tryz.prog W 0 (fun _ => true) true q 24 [.slice e.lo e.ll e.lc] = some y := by
  rcases Deep.open_slice Tryz.underlying24 h with ⟨hcs, _⟩ | ⟨a, len, cap, m', n, D, Pl, hcs, _, hl, hm, hmm, _, hx⟩
  · cases hcs
    exact ⟨none, [], 0, rfl, by simp, fun j hj => by simp at hj, by simp⟩
  · cases hcs
    have hmm' : m' = cap := by simpa using hmm
    subst hmm'
    have H : ∀ i : Fin len, ∃ r : R7, (∃ (q : Nat) (y : DataW H × List MemPlace), DataW.trod enc Tryz.prog W 0 (fun _ => true) true q 24 [.slice r.lo r.ll r.lc] = some y) ∧ ∀ c u, r.cells[c]? = some u → W.cell? ((a.add (i.1 * 7)).add c) = some u := fun i => by
      obtain ⟨cs', hcells, ht⟩ := hx i.1 (by have := i.2; omega)
      rw [c_value] at hcells
      obtain ⟨_, hl4, hc⟩ := World.cells?_some hcells
      obtain ⟨k, b, mm, s, t, ii, v6, q, y2, rfl, h3⟩ := val_cells ht
      rcases Deep.open_slice Tryz.underlying24 h3 with ⟨hcs, _⟩ | ⟨a2, len2, cap2, _, _, _, _, hcs, _⟩
      · cases hcs
        exact ⟨⟨k, b, mm, s, t, ii, none, 0, 0⟩, ⟨q, y2, h3⟩, fun c u hu => (hc c (by have := (List.getElem?_eq_some_iff.1 hu).1; rw [cells_len] at this; exact this)).trans hu⟩
      · cases hcs
        exact ⟨⟨k, b, mm, s, t, ii, some a2, len2, cap2⟩, ⟨q, y2, h3⟩, fun c u hu => (hc c (by have := (List.getElem?_eq_some_iff.1 hu).1; rw [cells_len] at this; exact this)).trans hu⟩
    obtain ⟨f, hf⟩ := Classical.axiomOfChoice H
    refine ⟨some a, List.ofFn f, m', by rw [List.length_ofFn], by rw [List.length_ofFn]; unfold maxLen at hm; omega, fun j hj => ?_, fun e he => ?_⟩
    · rw [List.length_ofFn] at hj
      rw [List.getElem_ofFn]
      have hc := (hf ⟨j, hj⟩).2
      have h0 := (hf ⟨0, by omega⟩).2 0 _ rfl
      obtain ⟨b, off, sp⟩ := a
      have hsp' : sp = none := by simpa [Addr.add] using World.cell?_spot h0
      subst hsp'
      have k0 := hc 0 _ rfl
      refine ⟨b, off, rfl, ?_, fun c u hu => ?_⟩
      · simp only [Addr.add_lit, Nat.add_zero] at k0
        exact cell_lt k0
      · have := hc c u hu
        simp only [Addr.add_lit] at this
        exact this
    · obtain ⟨i, rfl⟩ := List.mem_ofFn.1 he
      exact (hf i).1

/-- A value with its list, and the lists of its elements. -/
structure Val3 (W : World) (r : R7) (es : List R7) : Prop where
  len : r.ll = es.length
  le : es.length ≤ 9223372036854775807
  row : RowV W r.lo es
  sub : ∀ e ∈ es, ∃ ds : List R7, e.ll = ds.length ∧ ds.length ≤ 9223372036854775807 ∧ RowV W e.lo ds

set_option maxRecDepth 100000 in
theorem open_val {H : Type} {enc : TypeId × Value → H} {W : World} {b0 : Nat} {v : Value} {d : DataW H} {ps : List MemPlace}
    (hv : Value.okWide Tryz.prog W .any b0 26 v) (hd : DataW.Trod enc Tryz.prog W 0 (fun _ => true) true 26 v d ps) :
    ∃ (r : R7) (es : List R7), v = r.val ∧ Val3 W r es := by
  obtain ⟨cs, rfl, hsz⟩ := okWide_struct Tryz.underlying26 hv
  obtain ⟨fuel, hf⟩ := hd
  obtain ⟨k, b, m, s, t, i, v6, q, y, hcs, h6⟩ := val_cells hf
  obtain ⟨lo, es, lc, rfl, hl, hrow, hsub⟩ := vals_cell h6
  refine ⟨⟨k, b, m, s, t, i, lo, es.length, lc⟩, es, ?_, ⟨rfl, hl, hrow, fun e he => ?_⟩⟩
  · have : cs.toList = _ := hcs
    unfold R7.val
    congr 1
    exact Array.toList_inj.1 (by rw [this])
  · obtain ⟨q', y', h'⟩ := hsub e he
    obtain ⟨lo', ds, lc', e', hl', hrow', _⟩ := vals_cell h'
    injection e' with h1 h2 h3
    exact ⟨ds, h2, hl', by rw [h1]; exact hrow'⟩
end Go.Proofs.YtgeibceijlaoaaaGreat
