/-
  What slices of ints, and Raws, that came in give the walks.
  What a value that came in gives the walks: its fields, the row of its list, and the rows of its elements' lists.
-/
import Derived.Test.YtnbbimcooilmdaaGreatVFrame
import Derived.Test.YtnbbimcooilmdaaGreatEnLaw
import Derived.Lib.SmallJoins
import Derived.Deep.Slices
import Derived.Test.YtnbbimcooilmdaaGreatR7IM
namespace Go.Proofs.YtnbbimcooilmdaaGreat
open Go.ChangeShapes Go.WideShapes Go.ChangeAt Go.WideMaps Go.WideElems Go.RowKit

theorem c_rune : Tryz.prog.cellsOf 21 = 1 := by kernel_rfl
theorem c_int : Tryz.prog.cellsOf 3 = 1 := by kernel_rfl

theorem cell_lt {w : World} {b o : Nat} {v : Value} (h : w.cell? ⟨b, o, none⟩ = some v) : b < w.heap.size := by
  rcases Nat.lt_or_ge b w.heap.size with hl | hl
  · exact hl
  · unfold World.cell? at h
    rw [Array.getElem?_eq_none hl] at h
    cases h

set_option maxRecDepth 100000 in
theorem open_row {H : Type} {enc : TypeId × Value → H} {W : World} {b0 : Nat} {t e : TypeId} {k : IntKind} {v : Value} {d : DataW H} {ps : List MemPlace} (ht : Tryz.prog.underlying t = some (.slice e)) (he : Tryz.prog.underlying e = some (.int k)) (hc : Tryz.prog.cellsOf e = 1)
    (hv : Value.okWide Tryz.prog W .any b0 t v) (hd : DataW.Trod enc Tryz.prog W 0 (fun _ => true) true t v d ps) :
    ∃ (ao : Option Addr) (xs : List Int) (cap : Nat), v = .slice ao xs.length cap ∧ xs.length ≤ maxLen ∧ (∀ n ∈ xs, (Lit.int k n).wf = true) ∧
      ∀ j (hj : j < xs.length), ∃ b off, ao = some ⟨b, off, none⟩ ∧ b < W.heap.size ∧ W.cell? ⟨b, off + j, none⟩ = some (.int k xs[j]) := by
  obtain ⟨a0, len, cap, rfl⟩ := okWide_slice ht hv
  obtain ⟨fuel, hf⟩ := hd
  rcases open_ints ht he hc hf with ⟨hcs, _⟩ | ⟨a, len', cap', zs, hcs, _, hl, hm, hz, _, hcell, hwz⟩
  · simp [Value.cells] at hcs
    obtain ⟨rfl, rfl, rfl⟩ := hcs
    exact ⟨none, [], 0, rfl, by simp, by simp, fun j hj => by simp at hj⟩
  · simp [Value.cells] at hcs
    obtain ⟨rfl, rfl, rfl⟩ := hcs
    simp only [if_true] at hz
    have hlen : (zs.take len).length = len := by rw [List.length_take]; omega
    refine ⟨some a, zs.take len, cap, by rw [hlen], by omega, fun n hn => hwz n (List.mem_of_mem_take hn), fun j hj => ?_⟩
    obtain ⟨b, off, rfl, h2⟩ := ints_at hcell (by omega)
    have h3 := h2 j (by omega)
    refine ⟨b, off, rfl, cell_lt h3, ?_⟩
    rw [h3, List.getElem_take, List.getD, List.getElem?_eq_getElem (by omega)]
    rfl

set_option maxRecDepth 100000 in
theorem open_list {H : Type} {enc : TypeId × Value → H} {W : World} {b0 : Nat} {v : Value} {d : DataW H} {ps : List MemPlace}
    (hv : Value.okWide Tryz.prog W .any b0 38 v) (hd : DataW.Trod enc Tryz.prog W 0 (fun _ => true) true 38 v d ps) :
    ∃ (ao : Option Addr) (xs : List Int) (cap : Nat), v = .slice ao xs.length cap ∧ xs.length ≤ 9223372036854775807 ∧ IntsAt W ao xs := by
  obtain ⟨ao, xs, cap, e, hl, _, h⟩ := open_row Tryz.underlying38 Tryz.underlying3 c_int hv hd
  exact ⟨ao, xs, cap, e, by unfold maxLen at hl; omega, h⟩

/-- A Raw, its list aside. -/
structure RawE where
  k : Int
  n : Int
  so : Option Addr
  xs : List Int
  sc : Nat

/-- .. in memory. -/
structure RawE.Ok (W : World) (r : RawE) : Prop where
  len : r.xs.length ≤ 9223372036854775807
  cap : r.xs.length ≤ r.sc
  ints : IntsAt W r.so r.xs

theorem RawE.Ok.below {W W' : World} {r : RawE} (h : r.Ok W) (hb : Below W.heap.size W W') : r.Ok W' := ⟨h.len, h.cap, h.ints.below hb⟩

set_option maxRecDepth 100000 in
theorem open_ints1 {H : Type} {enc : TypeId × Value → H} {W : World} {fuel : Nat} {v : Value} {x : DataW H × List MemPlace} (h : DataW.trod enc Tryz.prog W 0 (fun _ => true) true fuel 38 [v] = some x) :
    ∃ (ao : Option Addr) (xs : List Int) (cap : Nat), v = .slice ao xs.length cap ∧ xs.length ≤ 9223372036854775807 ∧ xs.length ≤ cap ∧ IntsAt W ao xs := by
  rcases open_ints Tryz.underlying38 Tryz.underlying3 c_int h with ⟨hcs, _⟩ | ⟨a, len', cap', zs, hcs, _, hl, hm, hz, _, hcell, hwz⟩
  · cases hcs
    exact ⟨none, [], 0, rfl, by simp, by simp, fun j hj => by simp at hj⟩
  · cases hcs
    simp only [if_true] at hz
    have hlen : (zs.take len').length = len' := by rw [List.length_take]; omega
    refine ⟨some a, zs.take len', cap', by rw [hlen], by rw [hlen]; unfold maxLen at hm; omega, by omega, fun j hj => ?_⟩
    obtain ⟨b, off, rfl, h2⟩ := ints_at hcell (by omega)
    have h3 := h2 j (by omega)
    refine ⟨b, off, rfl, cell_lt h3, ?_⟩
    rw [h3, List.getElem_take, List.getD, List.getElem?_eq_getElem (by omega)]
    rfl

theorem c_raw : Tryz.prog.cellsOf 65 = 4 := by kernel_rfl

/-- The elements of a slice of Raws. -/
def RowRaw (W : World) (lo : Option Addr) (es : List RawE) : Prop :=
  ∀ j (hj : j < es.length), es[j].Ok W ∧ ∃ b off lo' ll' lc', lo = some ⟨b, off, none⟩ ∧ b < W.heap.size ∧ W.cell? ⟨b, off + j * 4, none⟩ = some (.int .i64 es[j].k) ∧ W.cell? ⟨b, off + j * 4 + 1, none⟩ = some (.int .i64 es[j].n) ∧ W.cell? ⟨b, off + j * 4 + 2, none⟩ = some (.slice es[j].so es[j].xs.length es[j].sc) ∧ W.cell? ⟨b, off + j * 4 + 3, none⟩ = some (.slice lo' ll' lc')

theorem RowRaw.below {W W' : World} {lo : Option Addr} {es : List RawE} (h : RowRaw W lo es) (hb : Below W.heap.size W W') : RowRaw W' lo es := by
  intro j hj
  obtain ⟨ho, b, off, lo', ll', lc', e, hlt, h0, h1, h2, h3⟩ := h j hj
  have := hb.size
  exact ⟨ho.below hb, b, off, lo', ll', lc', e, by omega, (hb.cell (p := ⟨b, off + j * 4, none⟩) hlt).trans h0, (hb.cell (p := ⟨b, off + j * 4 + 1, none⟩) hlt).trans h1, (hb.cell (p := ⟨b, off + j * 4 + 2, none⟩) hlt).trans h2, (hb.cell (p := ⟨b, off + j * 4 + 3, none⟩) hlt).trans h3⟩

set_option maxRecDepth 100000 in
/-- The four cells of a Raw, read. -/
theorem raw_cells {H : Type} {enc : TypeId × Value → H} {W : World} {n : Nat} {cs : List Value} {x : DataW H × List MemPlace} (h : DataW.trod enc Tryz.prog W 0 (fun _ => true) true n 65 cs = some x) :
    ∃ (r : RawE) (v3 : Value) (m : Nat) (y : DataW H × List MemPlace), cs = [.int .i64 r.k, .int .i64 r.n, .slice r.so r.xs.length r.sc, v3] ∧ r.Ok W ∧ DataW.trod enc Tryz.prog W 0 (fun _ => true) true m 40 [v3] = some y := by
  obtain ⟨y0, y1, y2, y3, m, _, hlen, h0, h1, h2, h3⟩ := Joins.trod_struct4 Tryz.underlying65 h
  rw [c_raw] at hlen
  match cs, hlen with
  | [a, b, c, d], _ =>
    have e1 : Tryz.prog.cellsOf 3 = 1 := by kernel_rfl
    have e2 : Tryz.prog.cellsOf 2 = 1 := by kernel_rfl
    have e3 : Tryz.prog.cellsOf 38 = 1 := by kernel_rfl
    have e4 : Tryz.prog.cellsOf 40 = 1 := by kernel_rfl
    simp only [e1] at h0
    simp only [e2] at h1
    simp only [e3] at h2
    simp only [e4] at h3
    obtain ⟨k, hk, _⟩ := DataW.trod_int Tryz.underlying3 h0
    obtain ⟨n', hn, _⟩ := DataW.trod_int Tryz.underlying2 h1
    obtain ⟨so, xs, sc, hs, hl, hc, hi⟩ := open_ints1 h2
    simp at hk hn
    subst hk hn hs
    exact ⟨⟨k, n', so, xs, sc⟩, d, m, y3, rfl, ⟨hl, hc, hi⟩, h3⟩

set_option maxRecDepth 100000 in
/-- A slice of Raws, read. -/
theorem raws_cell {H : Type} {enc : TypeId × Value → H} {W : World} {m : Nat} {v : Value} {y : DataW H × List MemPlace} (h : DataW.trod enc Tryz.prog W 0 (fun _ => true) true m 40 [v] = some y) :
    ∃ lo es lc, v = .slice lo es.length lc ∧ es.length ≤ 9223372036854775807 ∧ RowRaw W lo es := by
  rcases Deep.open_slice Tryz.underlying40 h with ⟨hcs, _⟩ | ⟨a, len, cap, m', n, D, Pl, hcs, _, hl, hm, hmm, _, hx⟩
  · cases hcs
    exact ⟨none, [], 0, rfl, by simp, fun j hj => by simp at hj⟩
  · cases hcs
    have hmm' : m' = cap := by simpa using hmm
    subst hmm'
    have H : ∀ i : Fin len, ∃ r : RawE, r.Ok W ∧ ∃ v3 lo' ll' lc', v3 = .slice lo' ll' lc' ∧ ∀ c u, ([.int .i64 r.k, .int .i64 r.n, .slice r.so r.xs.length r.sc, v3] : List Value)[c]? = some u → W.cell? ((a.add (i.1 * 4)).add c) = some u := fun i => by
      obtain ⟨cs', hcells, ht⟩ := hx i.1 (by have := i.2; omega)
      rw [c_raw] at hcells
      obtain ⟨_, hl4, hc⟩ := World.cells?_some hcells
      obtain ⟨r, v3, m2, y2, rfl, hok, h3⟩ := raw_cells ht
      refine ⟨r, hok, v3, ?_⟩
      rcases Deep.open_slice Tryz.underlying40 h3 with ⟨hcs, _⟩ | ⟨a2, len2, cap2, _, _, _, _, hcs, _⟩
      · cases hcs
        exact ⟨none, 0, 0, rfl, fun c u hu => (hc c (by have := (List.getElem?_eq_some_iff.1 hu).1; simpa using this)).trans hu⟩
      · cases hcs
        exact ⟨some a2, len2, cap2, rfl, fun c u hu => (hc c (by have := (List.getElem?_eq_some_iff.1 hu).1; simpa using this)).trans hu⟩
    obtain ⟨f, hf⟩ := Classical.axiomOfChoice H
    refine ⟨some a, List.ofFn f, m', by rw [List.length_ofFn], by rw [List.length_ofFn]; unfold maxLen at hm; omega, fun j hj => ?_⟩
    rw [List.length_ofFn] at hj
    rw [List.getElem_ofFn]
    obtain ⟨hok, v3, lo', ll', lc', e3, hc⟩ := hf ⟨j, hj⟩
    subst e3
    refine ⟨hok, ?_⟩
    obtain ⟨_, _, _, _, _, _, hc00⟩ := hf ⟨0, by omega⟩
    have h0 := hc00 0 _ rfl
    obtain ⟨b, off, sp⟩ := a
    have hsp' : sp = none := by simpa [Addr.add] using World.cell?_spot h0
    subst hsp'
    have k0 := hc 0 _ rfl
    have k1 := hc 1 _ rfl
    have k2 := hc 2 _ rfl
    have k3 := hc 3 _ rfl
    simp only [Addr.add_lit, Nat.add_zero] at k0 k1 k2 k3
    exact ⟨b, off, lo', ll', lc', rfl, cell_lt k0, k0, k1, k2, k3⟩

set_option maxRecDepth 100000 in
theorem open_raw {H : Type} {enc : TypeId × Value → H} {W : World} {b0 : Nat} {v : Value} {d : DataW H} {ps : List MemPlace}
    (hv : Value.okWide Tryz.prog W .any b0 65 v) (hd : DataW.Trod enc Tryz.prog W 0 (fun _ => true) true 65 v d ps) :
    ∃ (r : RawE) (lo : Option Addr) (es : List RawE) (lc : Nat), v = .agg #[.int .i64 r.k, .int .i64 r.n, .slice r.so r.xs.length r.sc, .slice lo es.length lc] ∧ r.Ok W ∧ es.length ≤ 9223372036854775807 ∧ RowRaw W lo es := by
  obtain ⟨cs, rfl, hsz⟩ := okWide_struct Tryz.underlying65 hv
  obtain ⟨fuel, hf⟩ := hd
  obtain ⟨r, v3, m, y, hcs, hok, h3⟩ := raw_cells hf
  obtain ⟨lo, es, lc, rfl, hl, hrow⟩ := raws_cell h3
  refine ⟨r, lo, es, lc, ?_, hok, hl, hrow⟩
  have : cs.toList = _ := hcs
  congr 1
  exact Array.toList_inj.1 (by rw [this])

set_option maxRecDepth 100000 in
theorem open_raws {H : Type} {enc : TypeId × Value → H} {W : World} {b0 : Nat} {v : Value} {d : DataW H} {ps : List MemPlace}
    (hv : Value.okWide Tryz.prog W .any b0 40 v) (hd : DataW.Trod enc Tryz.prog W 0 (fun _ => true) true 40 v d ps) :
    ∃ (lo : Option Addr) (es : List RawE) (lc : Nat), v = .slice lo es.length lc ∧ es.length ≤ 9223372036854775807 ∧ RowRaw W lo es := by
  obtain ⟨a0, len, cap, rfl⟩ := okWide_slice Tryz.underlying40 hv
  obtain ⟨fuel, hf⟩ := hd
  exact raws_cell hf
end Go.Proofs.YtnbbimcooilmdaaGreat

namespace Go.Proofs.YtnbbimcooilmdaaGreat
open Go.ChangeShapes Go.WideShapes Go.ChangeAt Go.WideMaps Go.WideElems Go.RowKit

theorem c_value : Tryz.prog.cellsOf 52 = 7 := by kernel_rfl

set_option maxRecDepth 100000 in
/-- The seven cells of a value, read. -/
theorem val_cells {H : Type} {enc : TypeId × Value → H} {W : World} {n : Nat} {cs : List Value} {x : DataW H × List MemPlace} (h : DataW.trod enc Tryz.prog W 0 (fun _ => true) true n 52 cs = some x) :
    ∃ (k : Int) (b : Bool) (m : Int) (s t i : ByteArray) (v6 : Value) (q : Nat) (y : DataW H × List MemPlace), cs = [.int .i64 k, .bool b, .int .i64 m, .string s, .string t, .string i, v6] ∧ DataW.trod enc Tryz.prog W 0 (fun _ => true) true q 50 [v6] = some y := by
  obtain ⟨xs, q, _, rfl, hlen, hxl, hf⟩ := DataW.trod_struct Tryz.underlying52 h
  rw [c_value] at hlen
  match xs, hxl with
  | [y0, y1, y2, y3, y4, y5], _ =>
  match cs, hlen with
  | [a0, a1, a2, a3, a4, a5, a6], _ =>
    have e1 : Tryz.prog.cellsOf 3 = 1 := by kernel_rfl
    have e2 : Tryz.prog.cellsOf 4 = 1 := by kernel_rfl
    have e3 : Tryz.prog.cellsOf 2 = 1 := by kernel_rfl
    have e4 : Tryz.prog.cellsOf 9 = 1 := by kernel_rfl
    have e5 : Tryz.prog.cellsOf 25 = 2 := by kernel_rfl
    have e6 : Tryz.prog.cellsOf 50 = 1 := by kernel_rfl
    have h0 := hf 0 _ rfl
    have h1 := hf 1 _ rfl
    have h2 := hf 2 _ rfl
    have h3 := hf 3 _ rfl
    have h4 := hf 4 _ rfl
    have h5 := hf 5 _ rfl
    simp [e1] at h0
    simp [e2] at h1
    simp [e3] at h2
    simp [e4] at h3
    simp [e5] at h4
    simp [e6] at h5
    obtain ⟨k, hk, _⟩ := DataW.trod_int Tryz.underlying3 h0
    obtain ⟨b, hb, _⟩ := DataW.trod_bool Tryz.underlying4 h1
    obtain ⟨m, hm, _⟩ := DataW.trod_int Tryz.underlying2 h2
    obtain ⟨s, hs, _⟩ := DataW.trod_string Tryz.underlying9 h3
    obtain ⟨u0, u1, q2, _, _, g0, g1⟩ := trod_struct2 Tryz.underlying25 h4
    simp [e4] at g0 g1
    obtain ⟨t, ht, _⟩ := DataW.trod_string Tryz.underlying9 g0
    obtain ⟨i, hi, _⟩ := DataW.trod_string Tryz.underlying9 g1
    simp at hk hb hm hs ht hi
    subst hk hb hm hs ht hi
    exact ⟨k, b, m, s, t, i, a6, q, y5, rfl, h5⟩

set_option maxRecDepth 100000 in
/-- A slice of values, read. -/
theorem vals_cell {H : Type} {enc : TypeId × Value → H} {W : World} {m : Nat} {v : Value} {y : DataW H × List MemPlace} (h : DataW.trod enc Tryz.prog W 0 (fun _ => true) true m 50 [v] = some y) :
    ∃ (lo : Option Addr) (es : List R7) (lc : Nat), v = .slice lo es.length lc ∧ es.length ≤ 9223372036854775807 ∧ RowV W lo es ∧ ∀ e ∈ es, ∃ (q : Nat) (y : DataW H × List MemPlace), DataW.trod enc Tryz.prog W 0 (fun _ => true) true q 50 [.slice e.lo e.ll e.lc] = some y := by
  rcases Deep.open_slice Tryz.underlying50 h with ⟨hcs, _⟩ | ⟨a, len, cap, m', n, D, Pl, hcs, _, hl, hm, hmm, _, hx⟩
  · cases hcs
    exact ⟨none, [], 0, rfl, by simp, fun j hj => by simp at hj, by simp⟩
  · cases hcs
    have hmm' : m' = cap := by simpa using hmm
    subst hmm'
    have H : ∀ i : Fin len, ∃ r : R7, (∃ (q : Nat) (y : DataW H × List MemPlace), DataW.trod enc Tryz.prog W 0 (fun _ => true) true q 50 [.slice r.lo r.ll r.lc] = some y) ∧ ∀ c u, r.cells[c]? = some u → W.cell? ((a.add (i.1 * 7)).add c) = some u := fun i => by
      obtain ⟨cs', hcells, ht⟩ := hx i.1 (by have := i.2; omega)
      rw [c_value] at hcells
      obtain ⟨_, hl4, hc⟩ := World.cells?_some hcells
      obtain ⟨k, b, mm, s, t, ii, v6, q, y2, rfl, h3⟩ := val_cells ht
      rcases Deep.open_slice Tryz.underlying50 h3 with ⟨hcs, _⟩ | ⟨a2, len2, cap2, _, _, _, _, hcs, _⟩
      · cases hcs
        exact ⟨⟨k, b, mm, s, t, ii, none, 0, 0⟩, ⟨q, y2, h3⟩, fun c u hu => (hc c (by have := (List.getElem?_eq_some_iff.1 hu).1; rw [cells_len] at this; exact this)).trans hu⟩
      · cases hcs
        exact ⟨⟨k, b, mm, s, t, ii, some a2, len2, cap2⟩, ⟨q, y2, h3⟩, fun c u hu => (hc c (by have := (List.getElem?_eq_some_iff.1 hu).1; rw [cells_len] at this; exact this)).trans hu⟩
    obtain ⟨f, hf⟩ := Classical.axiomOfChoice H
    refine ⟨some a, List.ofFn f, m', by rw [List.length_ofFn], by rw [List.length_ofFn]; unfold maxLen at hm; omega, fun j hj => ?_, fun e he => ?_⟩
    · rw [List.length_ofFn] at hj
      rw [List.getElem_ofFn]
      have hc := (hf ⟨j, hj⟩).2
      have h0 := (hf ⟨0, by omega⟩).2 0 _ rfl
      obtain ⟨b, off, sp⟩ := a
      have hsp' : sp = none := by simpa [Addr.add] using World.cell?_spot h0
      subst hsp'
      have k0 := hc 0 _ rfl
      refine ⟨b, off, rfl, ?_, fun c u hu => ?_⟩
      · simp only [Addr.add_lit, Nat.add_zero] at k0
        exact cell_lt k0
      · have := hc c u hu
        simp only [Addr.add_lit] at this
        exact this
    · obtain ⟨i, rfl⟩ := List.mem_ofFn.1 he
      exact (hf i).1

/-- A value with its list, and the lists of its elements. -/
structure Val3 (W : World) (r : R7) (es : List R7) : Prop where
  len : r.ll = es.length
  le : es.length ≤ 9223372036854775807
  row : RowV W r.lo es
  sub : ∀ e ∈ es, ∃ ds : List R7, e.ll = ds.length ∧ ds.length ≤ 9223372036854775807 ∧ RowV W e.lo ds

set_option maxRecDepth 100000 in
theorem open_val {H : Type} {enc : TypeId × Value → H} {W : World} {b0 : Nat} {v : Value} {d : DataW H} {ps : List MemPlace}
    (hv : Value.okWide Tryz.prog W .any b0 52 v) (hd : DataW.Trod enc Tryz.prog W 0 (fun _ => true) true 52 v d ps) :
    ∃ (r : R7) (es : List R7), v = r.val ∧ Val3 W r es := by
  obtain ⟨cs, rfl, hsz⟩ := okWide_struct Tryz.underlying52 hv
  obtain ⟨fuel, hf⟩ := hd
  obtain ⟨k, b, m, s, t, i, v6, q, y, hcs, h6⟩ := val_cells hf
  obtain ⟨lo, es, lc, rfl, hl, hrow, hsub⟩ := vals_cell h6
  refine ⟨⟨k, b, m, s, t, i, lo, es.length, lc⟩, es, ?_, ⟨rfl, hl, hrow, fun e he => ?_⟩⟩
  · have : cs.toList = _ := hcs
    unfold R7.val
    congr 1
    exact Array.toList_inj.1 (by rw [this])
  · obtain ⟨q', y', h'⟩ := hsub e he
    obtain ⟨lo', ds, lc', e', hl', hrow', _⟩ := vals_cell h'
    injection e' with h1 h2 h3
    exact ⟨ds, h2, hl', by rw [h1]; exact hrow'⟩
end Go.Proofs.YtnbbimcooilmdaaGreat
