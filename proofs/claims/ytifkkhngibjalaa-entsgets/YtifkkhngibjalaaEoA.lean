/-
  Slices of Ents that came in.
-/
import Derived.Test.YtifkkhngibjalaaElA
namespace Go.Proofs.Ytifkkhngibjalaa
open Go.ChangeShapes Go.WideShapes Go.ChangeAt Go.WideMaps Go.WideElems Go.RowKit

def EntR.cells (r : EntR) : List Value := [.int .i64 r.t, .int .i64 r.n, .slice r.po r.ps.length r.pc, .slice r.no r.ns.length r.nc, .slice r.vo r.vs.length r.vc]
theorem c_ent : Try.prog.cellsOf 25 = 5 := by kernel_rfl
set_option maxRecDepth 100000 in
/-- The five cells of an Ent, read. -/
theorem ent_cells {H : Type} {enc : TypeId × Value → H} {W : World} {n : Nat} {cs : List Value} {x : DataW H × List MemPlace} (h : DataW.trod enc Try.prog W 0 (fun _ => true) true n 25 cs = some x) :
    ∃ r : EntR, cs = r.cells ∧ r.Ok W := by
  have e1 : Try.prog.cellsOf 3 = 1 := by kernel_rfl
  have e3 : Try.prog.cellsOf 22 = 1 := by kernel_rfl
  have e4 : Try.prog.cellsOf 23 = 1 := by kernel_rfl
  obtain ⟨xs, m, _, _, hlen, hxl, hall⟩ := DataW.trod_struct Try.underlying25 h
  rw [c_ent] at hlen
  have h0 := hall 0 _ rfl
  have h1 := hall 1 _ rfl
  have h2 := hall 2 _ rfl
  have h3 := hall 3 _ rfl
  have h4 := hall 4 _ rfl
  have hx : xs.length = 5 := hxl
  rw [List.getElem?_eq_getElem (by omega)] at h0 h1 h2 h3 h4
  simp only [List.getElem_toArray, List.getElem_cons_zero, List.getElem_cons_succ, e1, e3, e4] at h0 h1 h2 h3 h4
  match cs, hlen with
  | [a, b, c, d, e], _ =>
    obtain ⟨k0, hk0, _⟩ := DataW.trod_int Try.underlying3 h0
    obtain ⟨k1, hk1, _⟩ := DataW.trod_int Try.underlying3 h1
    obtain ⟨po, ps, pc, hs2, hl2, hc2, hi2⟩ := open_ints1 h2
    obtain ⟨no, ns, nc, hs3, hl3, hc3, hi3⟩ := open_ints1 h3
    obtain ⟨vo, es, vc, hs4, hl4, hr4⟩ := raws_cell2 h4
    obtain ⟨vs, hvl, hv⟩ := raw3_of hr4
    simp at hk0 hk1
    subst hk0 hk1 hs2 hs3 hs4
    refine ⟨⟨k0, k1, po, ps, pc, no, ns, nc, vo, vs, vc⟩, by unfold EntR.cells; rw [← hvl], ⟨hl2, hi2, hl3, hi3, by rw [hvl]; exact hl4, hv⟩⟩
def RowEnt (W : World) (lo : Option Addr) (rs : List EntR) : Prop := RowG W lo 5 (rs.map EntR.cells) ∧ ∀ r ∈ rs, r.Ok W
theorem RowEnt.below {W W' : World} {lo : Option Addr} {rs : List EntR} (h : RowEnt W lo rs) (hb : Below W.heap.size W W') : RowEnt W' lo rs := ⟨h.1.below hb, fun r hr => (h.2 r hr).below hb⟩
set_option maxRecDepth 100000 in
theorem open_ents {H : Type} {enc : TypeId × Value → H} {W : World} {b0 : Nat} {v : Value} {d : DataW H} {ps : List MemPlace}
    (hv : Value.okWide Try.prog W .any b0 46 v) (hd : DataW.Trod enc Try.prog W 0 (fun _ => true) true 46 v d ps) :
    ∃ (lo : Option Addr) (rs : List EntR) (lc : Nat), v = .slice lo rs.length lc ∧ rs.length ≤ 9223372036854775807 ∧ RowEnt W lo rs := by
  obtain ⟨a0, len0, cap0, rfl⟩ := okWide_slice Try.underlying46 hv
  obtain ⟨fuel, h⟩ := hd
  rcases Deep.open_slice Try.underlying46 h with ⟨hcs, _⟩ | ⟨a, len, cap, m', n, D, Pl, hcs, _, hl, hm, hmm, _, hx⟩
  · cases hcs
    exact ⟨none, [], 0, rfl, by simp, rowG_nil _ _ _, fun _ h => by cases h⟩
  · cases hcs
    have hmm' : m' = cap0 := by simpa using hmm
    subst hmm'
    have H : ∀ i : Fin len0, ∃ r : EntR, r.Ok W ∧ ∀ c u, r.cells[c]? = some u → W.cell? ((a.add (i.1 * 5)).add c) = some u := fun i => by
      obtain ⟨cs', hcells, ht⟩ := hx i.1 (by have := i.2; omega)
      rw [c_ent] at hcells
      obtain ⟨_, hl5, hc⟩ := World.cells?_some hcells
      obtain ⟨r, rfl, hok⟩ := ent_cells ht
      exact ⟨r, hok, fun c u hu => (hc c (by have := (List.getElem?_eq_some_iff.1 hu).1; simpa [EntR.cells] using this)).trans hu⟩
    obtain ⟨f, hf⟩ := Classical.axiomOfChoice H
    refine ⟨some a, List.ofFn f, m', by rw [List.length_ofFn], by rw [List.length_ofFn]; unfold maxLen at hm; omega, fun j hj => ?_, fun r hr => ?_⟩
    · rw [List.length_map, List.length_ofFn] at hj
      obtain ⟨_, hc00⟩ := hf ⟨0, by omega⟩
      have h0 := hc00 0 _ rfl
      obtain ⟨b, off, sp⟩ := a
      have hsp' : sp = none := by simpa [Addr.add] using World.cell?_spot h0
      subst hsp'
      obtain ⟨_, hc⟩ := hf ⟨j, hj⟩
      have k0 := hc 0 _ rfl
      simp only [Addr.add_lit, Nat.add_zero] at k0
      refine ⟨b, off, rfl, cell_lt k0, fun c u hu => ?_⟩
      rw [List.getElem_map, List.getElem_ofFn] at hu
      have := hc c u hu
      simpa only [Addr.add_lit] using this
    · obtain ⟨j, hj, rfl⟩ := List.getElem_of_mem hr
      rw [List.getElem_ofFn]
      exact (hf _).1
end Go.Proofs.Ytifkkhngibjalaa
