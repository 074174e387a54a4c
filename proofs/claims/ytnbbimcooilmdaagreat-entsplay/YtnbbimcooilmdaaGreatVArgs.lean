/-
  What slices of ints, and Raws, that came in give the walks.
-/
import Derived.Test.YtnbbimcooilmdaaGreatVFrame
import Derived.Test.YtnbbimcooilmdaaGreatEnLaw
import Derived.Lib.SmallJoins
import Derived.Deep.Slices
namespace Go.Proofs.YtnbbimcooilmdaaGreat
open Go.ChangeShapes Go.WideShapes Go.ChangeAt Go.WideMaps Go.WideElems Go.RowKit

theorem c_rune : Tryz.prog.cellsOf 21 = 1 := by kernel_rfl
theorem c_int : Tryz.prog.cellsOf 3 = 1 := by kernel_rfl

theorem cell_lt {w : World} {b o : Nat} {v : Value} (h : w.cell? ⟨b, o, none⟩ = some v) : b < w.heap.size := by
  rcases Nat.lt_or_ge b w.heap.size with hl | hl
  · exact hl
  · unfold World.cell? at h
    rw [Array.getElem?_eq_none hl] at h
    cases h

set_option maxRecDepth 100000 in
theorem open_row {H : Type} {enc : TypeId × Value → H} {W : World} {b0 : Nat} {t e : TypeId} {k : IntKind} {v : Value} {d : DataW H} {ps : List MemPlace} (ht : Tryz.prog.underlying t = some (.slice e)) (he : Tryz.prog.underlying e = some (.int k)) (hc : Tryz.prog.cellsOf e = 1)
    (hv : Value.okWide Tryz.prog W .any b0 t v) (hd : DataW.Trod enc Tryz.prog W 0 (fun _ => true) true t v d ps) :
    ∃ (ao : Option Addr) (xs : List Int) (cap : Nat), v = .slice ao xs.length cap ∧ xs.length ≤ maxLen ∧ (∀ n ∈ xs, (Lit.int k n).wf = true) ∧
      ∀ j (hj : j < xs.length), ∃ b off, ao = some ⟨b, off, none⟩ ∧ b < W.heap.size ∧ W.cell? ⟨b, off + j, none⟩ = some (.int k xs[j]) := by
  obtain ⟨a0, len, cap, rfl⟩ := okWide_slice ht hv
  obtain ⟨fuel, hf⟩ := hd
  rcases open_ints ht he hc hf with ⟨hcs, _⟩ | ⟨a, len', cap', zs, hcs, _, hl, hm, hz, _, hcell, hwz⟩
  · simp [Value.cells] at hcs
    obtain ⟨rfl, rfl, rfl⟩ := hcs
    exact ⟨none, [], 0, rfl, by simp, by simp, fun j hj => by simp at hj⟩
  · simp [Value.cells] at hcs
    obtain ⟨rfl, rfl, rfl⟩ := hcs
    simp only [if_true] at hz
    have hlen : (zs.take len).length = len := by rw [List.length_take]; omega
    refine ⟨some a, zs.take len, cap, by rw [hlen], by omega, fun n hn => hwz n (List.mem_of_mem_take hn), fun j hj => ?_⟩
    obtain ⟨b, off, rfl, h2⟩ := ints_at hcell (by omega)
    have h3 := h2 j (by omega)
    refine ⟨b, off, rfl, cell_lt h3, ?_⟩
    rw [h3, List.getElem_take, List.getD, List.getElem?_eq_getElem (by omega)]
    rfl

set_option maxRecDepth 100000 in
theorem open_list {H : Type} {enc : TypeId × Value → H} {W : World} {b0 : Nat} {v : Value} {d : DataW H} {ps : List MemPlace}
    (hv : Value.okWide Tryz.prog W .any b0 38 v) (hd : DataW.Trod enc Tryz.prog W 0 (fun _ => true) true 38 v d ps) :
    ∃ (ao : Option Addr) (xs : List Int) (cap : Nat), v = .slice ao xs.length cap ∧ xs.length ≤ 9223372036854775807 ∧ IntsAt W ao xs := by
  obtain ⟨ao, xs, cap, e, hl, _, h⟩ := open_row Tryz.underlying38 Tryz.underlying3 c_int hv hd
  exact ⟨ao, xs, cap, e, by unfold maxLen at hl; omega, h⟩

/-- A Raw, its list aside. -/
structure RawE where
  k : Int
  n : Int
  so : Option Addr
  xs : List Int
  sc : Nat

/-- .. in memory. -/
structure RawE.Ok (W : World) (r : RawE) : Prop where
  len : r.xs.length ≤ 9223372036854775807
  cap : r.xs.length ≤ r.sc
  ints : IntsAt W r.so r.xs

theorem RawE.Ok.below {W W' : World} {r : RawE} (h : r.Ok W) (hb : Below W.heap.size W W') : r.Ok W' := ⟨h.len, h.cap, h.ints.below hb⟩

set_option maxRecDepth 100000 in
theorem open_ints1 {H : Type} {enc : TypeId × Value → H} {W : World} {fuel : Nat} {v : Value} {x : DataW H × List MemPlace} (h : DataW.trod enc Tryz.prog W 0 (fun _ => true) true fuel 38 [v] = some x) :
    ∃ (ao : Option Addr) (xs : List Int) (cap : Nat), v = .slice ao xs.length cap ∧ xs.length ≤ 9223372036854775807 ∧ xs.length ≤ cap ∧ IntsAt W ao xs := by
  rcases open_ints Tryz.underlying38 Tryz.underlying3 c_int h with ⟨hcs, _⟩ | ⟨a, len', cap', zs, hcs, _, hl, hm, hz, _, hcell, hwz⟩
  · cases hcs
    exact ⟨none, [], 0, rfl, by simp, by simp, fun j hj => by simp at hj⟩
  · cases hcs
    simp only [if_true] at hz
    have hlen : (zs.take len').length = len' := by rw [List.length_take]; omega
    refine ⟨some a, zs.take len', cap', by rw [hlen], by rw [hlen]; unfold maxLen at hm; omega, by omega, fun j hj => ?_⟩
    obtain ⟨b, off, rfl, h2⟩ := ints_at hcell (by omega)
    have h3 := h2 j (by omega)
    refine ⟨b, off, rfl, cell_lt h3, ?_⟩
    rw [h3, List.getElem_take, List.getD, List.getElem?_eq_getElem (by omega)]
    rfl

theorem c_raw : Tryz.prog.cellsOf 65 = 4 := by kernel_rfl

/-- The elements of a slice of Raws. -/
def RowRaw (W : World) (lo : Option Addr) (es : List RawE) : Prop :=
  ∀ j (hj : j < es.length), es[j].Ok W ∧ ∃ b off lo' ll' lc', lo = some ⟨b, off, none⟩ ∧ b < W.heap.size ∧ W.cell? ⟨b, off + j * 4, none⟩ = some (.int .i64 es[j].k) ∧ W.cell? ⟨b, off + j * 4 + 1, none⟩ = some (.int .i64 es[j].n) ∧ W.cell? ⟨b, off + j * 4 + 2, none⟩ = some (.slice es[j].so es[j].xs.length es[j].sc) ∧ W.cell? ⟨b, off + j * 4 + 3, none⟩ = some (.slice lo' ll' lc')

theorem RowRaw.below {W W' : World} {lo : Option Addr} {es : List RawE} (h : RowRaw W lo es) (hb : Below W.heap.size W W') : RowRaw W' lo es := by
  intro j hj
  obtain ⟨ho, b, off, lo', ll', lc', e, hlt, h0, h1, h2, h3⟩ := h j hj
  have := hb.size
  exact ⟨ho.below hb, b, off, lo', ll', lc', e, by omega, (hb.cell (p := ⟨b, off + j * 4, none⟩) hlt).trans h0, (hb.cell (p := ⟨b, off + j * 4 + 1, none⟩) hlt).trans h1, (hb.cell (p := ⟨b, off + j * 4 + 2, none⟩) hlt).trans h2, (hb.cell (p := ⟨b, off + j * 4 + 3, none⟩) hlt).trans h3⟩

set_option maxRecDepth 100000 in
/-- The four cells of a Raw, read. -/
theorem raw_cells {H : Type} {enc : TypeId × Value → H} {W : World} {n : Nat} {cs : List Value} {x : DataW H × List MemPlace} (h : DataW.trod enc Tryz.prog W 0 (fun _ => true) true n 65 cs = some x) :
    ∃ (r : RawE) (v3 : Value) (m : Nat) (y : DataW H × List MemPlace), cs = [.int .i64 r.k, .int .i64 r.n, .slice r.so r.xs.length r.sc, v3] ∧ r.Ok W ∧ DataW.trod enc Tryz.prog W 0 (fun _ => true) true m 40 [v3] = some y := by
  obtain ⟨y0, y1, y2, y3, m, _, hlen, h0, h1, h2, h3⟩ := Joins.trod_struct4 Tryz.underlying65 h
  rw [c_raw] at hlen
  match cs, hlen with
  | [a, b, c, d], _ =>
    have e1 : Tryz.prog.cellsOf 3 = 1 := by kernel_rfl
    have e2 : Tryz.prog.cellsOf 2 = 1 := by kernel_rfl
    have e3 : Tryz.prog.cellsOf 38 = 1 := by kernel_rfl
    have e4 : Tryz.prog.cellsOf 40 = 1 := by kernel_rfl
    simp only [e1] at h0
    simp only [e2] at h1
    simp only [e3] at h2
    simp only [e4] at h3
    obtain ⟨k, hk, _⟩ := DataW.trod_int Tryz.underlying3 h0
    obtain ⟨n', hn, _⟩ := DataW.trod_int Tryz.underlying2 h1
    obtain ⟨so, xs, sc, hs, hl, hc, hi⟩ := open_ints1 h2
    simp at hk hn
    subst hk hn hs
    exact ⟨⟨k, n', so, xs, sc⟩, d, m, y3, rfl, ⟨hl, hc, hi⟩, h3⟩

set_option maxRecDepth 100000 in
/-- A slice of Raws, read. -/
theorem raws_cell {H : Type} {enc : TypeId × Value → H} {W : World} {m : Nat} {v : Value} {y : DataW H × List MemPlace} (h : DataW.trod enc Tryz.prog W 0 (fun _ => true) true m 40 [v] = some y) :
    ∃ lo es lc, v = .slice lo es.length lc ∧ es.length ≤ 9223372036854775807 ∧ RowRaw W lo es := by
  rcases Deep.open_slice Tryz.underlying40 h with ⟨hcs, _⟩ | ⟨a, len, cap, m', n, D, Pl, hcs, _, hl, hm, hmm, _, hx⟩
  · cases hcs
    exact ⟨none, [], 0, rfl, by simp, fun j hj => by simp at hj⟩
  · cases hcs
    have hmm' : m' = cap := by simpa using hmm
    subst hmm'
    have H : ∀ i : Fin len, ∃ r : RawE, r.Ok W ∧ ∃ v3 lo' ll' lc', v3 = .slice lo' ll' lc' ∧ ∀ c u, ([.int .i64 r.k, .int .i64 r.n, .slice r.so r.xs.length r.sc, v3] : List Value)[c]? = some u → W.cell? ((a.add (i.1 * 4)).add c) = some u := fun i => by
      obtain ⟨cs', hcells, ht⟩ := hx i.1 (by have := i.2; omega)
      rw [c_raw] at hcells
      obtain ⟨_, hl4, hc⟩ := World.cells?_some hcells
      obtain ⟨r, v3, m2, y2, rfl, hok, h3⟩ := raw_cells ht
      refine ⟨r, hok, v3, ?_⟩
      rcases Deep.open_slice Tryz.underlying40 h3 with ⟨hcs, _⟩ | ⟨a2, len2, cap2, _, _, _, _, hcs, _⟩
      · cases hcs
        exact ⟨none, 0, 0, rfl, fun c u hu => (hc c (by have := (List.getElem?_eq_some_iff.1 hu).1; simpa using this)).trans hu⟩
      · cases hcs
        exact ⟨some a2, len2, cap2, rfl, fun c u hu => (hc c (by have := (List.getElem?_eq_some_iff.1 hu).1; simpa using this)).trans hu⟩
    obtain ⟨f, hf⟩ := Classical.axiomOfChoice H
    refine ⟨some a, List.ofFn f, m', by rw [List.length_ofFn], by rw [List.length_ofFn]; unfold maxLen at hm; omega, fun j hj => ?_⟩
    rw [List.length_ofFn] at hj
    rw [List.getElem_ofFn]
    obtain ⟨hok, v3, lo', ll', lc', e3, hc⟩ := hf ⟨j, hj⟩
    subst e3
    refine ⟨hok, ?_⟩
    obtain ⟨_, _, _, _, _, _, hc00⟩ := hf ⟨0, by omega⟩
    have h0 := hc00 0 _ rfl
    obtain ⟨b, off, sp⟩ := a
    have hsp' : sp = none := by simpa [Addr.add] using World.cell?_spot h0
    subst hsp'
    have k0 := hc 0 _ rfl
    have k1 := hc 1 _ rfl
    have k2 := hc 2 _ rfl
    have k3 := hc 3 _ rfl
    simp only [Addr.add_lit, Nat.add_zero] at k0 k1 k2 k3
    exact ⟨b, off, lo', ll', lc', rfl, cell_lt k0, k0, k1, k2, k3⟩

set_option maxRecDepth 100000 in
theorem open_raw {H : Type} {enc : TypeId × Value → H} {W : World} {b0 : Nat} {v : Value} {d : DataW H} {ps : List MemPlace}
    (hv : Value.okWide Tryz.prog W .any b0 65 v) (hd : DataW.Trod enc Tryz.prog W 0 (fun _ => true) true 65 v d ps) :
    ∃ (r : RawE) (lo : Option Addr) (es : List RawE) (lc : Nat), v = .agg #[.int .i64 r.k, .int .i64 r.n, .slice r.so r.xs.length r.sc, .slice lo es.length lc] ∧ r.Ok W ∧ es.length ≤ 9223372036854775807 ∧ RowRaw W lo es := by
  obtain ⟨cs, rfl, hsz⟩ := okWide_struct Tryz.underlying65 hv
  obtain ⟨fuel, hf⟩ := hd
  obtain ⟨r, v3, m, y, hcs, hok, h3⟩ := raw_cells hf
  obtain ⟨lo, es, lc, rfl, hl, hrow⟩ := raws_cell h3
  refine ⟨r, lo, es, lc, ?_, hok, hl, hrow⟩
  have : cs.toList = _ := hcs
  congr 1
  exact Array.toList_inj.1 (by rw [this])

set_option maxRecDepth 100000 in
theorem open_raws {H : Type} {enc : TypeId × Value → H} {W : World} {b0 : Nat} {v : Value} {d : DataW H} {ps : List MemPlace}
    (hv : Value.okWide Tryz.prog W .any b0 40 v) (hd : DataW.Trod enc Tryz.prog W 0 (fun _ => true) true 40 v d ps) :
    ∃ (lo : Option Addr) (es : List RawE) (lc : Nat), v = .slice lo es.length lc ∧ es.length ≤ 9223372036854775807 ∧ RowRaw W lo es := by
  obtain ⟨a0, len, cap, rfl⟩ := okWide_slice Tryz.underlying40 hv
  obtain ⟨fuel, hf⟩ := hd
  exact raws_cell hf
end Go.Proofs.YtnbbimcooilmdaaGreat
