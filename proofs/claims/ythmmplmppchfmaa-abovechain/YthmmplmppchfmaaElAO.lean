/-
  chancellaw5.within.
  chancellaw5.kind, name: what they return; an Ent in memory, and the entity that it says.
  Slices of Ents that came in.
-/
import Derived.Test.YthmmplmppchfmaaRunAll
import Derived.WalkKit
import Derived.WalkSpells
import Derived.Test.YthmmplmppchfmaaEcCF
import Derived.Test.YthmmplmppchfmaaEcGB
import Derived.Test.YthmmplmppchfmaaVfAll
namespace Go.Proofs.Ythmmplmppchfmaa
open Go.RowKit

theorem ret_int5 {a b : Int} (h : a = b) : Ending.returned (.int .i64 a) = .returned (.int .i64 b) := by rw [h]
set_option maxRecDepth 1000000 in
theorem within5_any (a n : Int) (hn : 0 < n) (hn1 : n ≤ 4294967296) (w : World) :
    Calls Try.prog 34 #[.int .i64 a, .int .i64 n] w fun e w' => e = .returned (.int .i64 (a % n)) ∧ w' = w := by
  go_enter Try.func34, Try.ntmps34
  go_wp2
  · go_ret
    exact ⟨ret_int5 (tmod_neg a n hn hn1 (by assumption)), rfl⟩
  · go_ret
    exact ⟨ret_int5 (tmod_pos a n hn (by assumption)), rfl⟩
theorem tmod_neg62 (a n : Int) (hn : 0 < n) (hn1 : n ≤ 4611686018427387904) (h : a.tmod n < 0) : wrap64 (a.tmod n + n) = a % n := by
  have h0 := Int.emod_nonneg a (show n ≠ 0 by omega)
  have h1 := Int.emod_lt_of_pos a hn
  rcases tmod_cases a n hn with e | e
  · omega
  · rw [e]
    simp only [wrap64]
    omega
set_option maxRecDepth 1000000 in
theorem within62_any (a n : Int) (hn : 0 < n) (hn1 : n ≤ 4611686018427387904) (w : World) :
    Calls Try.prog 34 #[.int .i64 a, .int .i64 n] w fun e w' => e = .returned (.int .i64 (a % n)) ∧ w' = w := by
  go_enter Try.func34, Try.ntmps34
  go_wp2
  · go_ret
    exact ⟨ret_int5 (tmod_neg62 a n hn hn1 (by assumption)), rfl⟩
  · go_ret
    exact ⟨ret_int5 (tmod_pos a n hn (by assumption)), rfl⟩
end Go.Proofs.Ythmmplmppchfmaa

namespace Go.Proofs.Ythmmplmppchfmaa
open Go.RowKit Go.Sort

def kn4 : List ByteArray := [⟨#[85, 115, 101, 114]⟩, ⟨#[71, 114, 111, 117, 112]⟩, ⟨#[68, 111, 99]⟩, ⟨#[84, 101, 97, 109]⟩]
def nm7e : List ByteArray := [⟨#[97]⟩, ⟨#[97, 103, 101]⟩, ⟨#[105, 102]⟩, ⟨#[99, 111, 110, 116, 97, 105, 110, 115]⟩, ⟨#[112, 114, 105, 110, 99, 105, 112, 97, 108]⟩, ⟨#[95, 120]⟩, ⟨#[110, 97, 109, 101]⟩]
def knE (n : Int) : ByteArray := kn4.getD (n % 4).toNat ⟨#[]⟩
def nmE (n : Int) : ByteArray := nm7e.getD (n % 7).toNat ⟨#[]⟩
def knCells : Array Value := #[.string ⟨#[85, 115, 101, 114]⟩, .string ⟨#[71, 114, 111, 117, 112]⟩, .string ⟨#[68, 111, 99]⟩, .string ⟨#[84, 101, 97, 109]⟩]
def nmCells : Array Value := #[.string ⟨#[97]⟩, .string ⟨#[97, 103, 101]⟩, .string ⟨#[105, 102]⟩, .string ⟨#[99, 111, 110, 116, 97, 105, 110, 115]⟩, .string ⟨#[112, 114, 105, 110, 99, 105, 112, 97, 108]⟩, .string ⟨#[95, 120]⟩, .string ⟨#[110, 97, 109, 101]⟩]
theorem kn_cell (m : Nat) (hm : m < 4) : knCells[m]? = some (.string (kn4.getD m ⟨#[]⟩)) := by
  match m, hm with
  | 0, _ | 1, _ | 2, _ | 3, _ => rfl
theorem nm_cellE (m : Nat) (hm : m < 7) : nmCells[m]? = some (.string (nm7e.getD m ⟨#[]⟩)) := by
  match m, hm with
  | 0, _ | 1, _ | 2, _ | 3, _ | 4, _ | 5, _ | 6, _ => rfl
set_option maxHeartbeats 1000000 in
set_option maxRecDepth 1000000 in
theorem kind5_any (n : Int) (w : World) : Calls Try.prog 33 #[.int .i64 n] w fun e w' => e = .returned (.string (knE n)) ∧ Below w.heap.size w w' := by
  obtain ⟨m, hm⟩ : ∃ m : Nat, (m : Int) = n % 4 := ⟨(n % 4).toNat, by omega⟩
  have hm7 : m < 4 := by omega
  have W := fun w' => within5_any n 4 (by decide) (by decide) w'
  rw [← hm] at W
  have e : knE n = kn4.getD m ⟨#[]⟩ := by unfold knE; rw [← hm]; rfl
  rw [e]
  have n1 := below1 w (.cells knCells 9)
  have Z1 : (w.alloc (.cells knCells 9)).heap[w.heap.size]? = some (.cells knCells 9 (0, 0)) := alloc_heap _ _
  have hx : (w.alloc (.cells knCells 9)).cell? ⟨w.heap.size, m, none⟩ = some (.string (kn4.getD m ⟨#[]⟩)) := by rw [Lib.cell_of_heap Z1]; exact kn_cell m hm7
  have i1 : (m : Int) < 4 := by omega
  generalize kn4.getD m ⟨#[]⟩ = X at *
  clear hm e Z1
  unfold knCells at *
  go_enter Try.func33, Try.ntmps33
  go_wp2_with fail
  generalize w.alloc _ = w1 at *
  refine (W _).mono ?_
  rintro e w2 ⟨rfl, rfl⟩
  go_wp2
  go_ret
  exact ⟨rfl, n1⟩
set_option maxHeartbeats 1000000 in
set_option maxRecDepth 1000000 in
theorem name5e_any (n : Int) (w : World) : Calls Try.prog 36 #[.int .i64 n] w fun e w' => e = .returned (.string (nmE n)) ∧ Below w.heap.size w w' := by
  obtain ⟨m, hm⟩ : ∃ m : Nat, (m : Int) = n % 7 := ⟨(n % 7).toNat, by omega⟩
  have hm7 : m < 7 := by omega
  have W := fun w' => within5_any n 7 (by decide) (by decide) w'
  rw [← hm] at W
  have e : nmE n = nm7e.getD m ⟨#[]⟩ := by unfold nmE; rw [← hm]; rfl
  rw [e]
  have n1 := below1 w (.cells nmCells 9)
  have Z1 : (w.alloc (.cells nmCells 9)).heap[w.heap.size]? = some (.cells nmCells 9 (0, 0)) := alloc_heap _ _
  have hx : (w.alloc (.cells nmCells 9)).cell? ⟨w.heap.size, m, none⟩ = some (.string (nm7e.getD m ⟨#[]⟩)) := by rw [Lib.cell_of_heap Z1]; exact nm_cellE m hm7
  have i1 : (m : Int) < 7 := by omega
  generalize nm7e.getD m ⟨#[]⟩ = X at *
  clear hm e Z1
  unfold nmCells at *
  go_enter Try.func36, Try.ntmps36
  go_wp2_with fail
  generalize w.alloc _ = w1 at *
  refine (W _).mono ?_
  rintro e w2 ⟨rfl, rfl⟩
  go_wp2
  go_ret
  exact ⟨rfl, n1⟩

/-! ## An Ent. -/

/-- A slice of Raws, with their own lists told. -/
def RowRaw3 (W : World) (lo : Option Addr) (vs : List (RawE × List RawE)) : Prop :=
  ∀ j (hj : j < vs.length), vs[j].1.Ok W ∧ ∃ b off lo' lc', lo = some ⟨b, off, none⟩ ∧ b < W.heap.size ∧ W.cell? ⟨b, off + j * 4, none⟩ = some (.int .i64 vs[j].1.k) ∧ W.cell? ⟨b, off + j * 4 + 1, none⟩ = some (.int .i64 vs[j].1.n) ∧
    W.cell? ⟨b, off + j * 4 + 2, none⟩ = some (.slice vs[j].1.so vs[j].1.xs.length vs[j].1.sc) ∧ W.cell? ⟨b, off + j * 4 + 3, none⟩ = some (.slice lo' vs[j].2.length lc') ∧ vs[j].2.length ≤ 9223372036854775807 ∧ RowRaw W lo' vs[j].2
theorem RowRaw3.below {W W' : World} {lo : Option Addr} {vs : List (RawE × List RawE)} (h : RowRaw3 W lo vs) (hb : Below W.heap.size W W') : RowRaw3 W' lo vs := by
  intro j hj
  obtain ⟨ho, b, off, lo', lc', e, hlt, h0, h1, h2, h3, h4, h5⟩ := h j hj
  have := hb.size
  exact ⟨ho.below hb, b, off, lo', lc', e, by omega, (hb.cell (p := ⟨b, off + j * 4, none⟩) hlt).trans h0, (hb.cell (p := ⟨b, off + j * 4 + 1, none⟩) hlt).trans h1, (hb.cell (p := ⟨b, off + j * 4 + 2, none⟩) hlt).trans h2, (hb.cell (p := ⟨b, off + j * 4 + 3, none⟩) hlt).trans h3, h4, h5.below hb⟩
theorem raw3_of {W : World} {lo : Option Addr} {es : List RawE} (h : RowRaw2 W lo es) : ∃ vs : List (RawE × List RawE), vs.length = es.length ∧ RowRaw3 W lo vs := by
  have H : ∀ i : Fin es.length, ∃ l : List RawE, ∃ b off lo' lc', lo = some ⟨b, off, none⟩ ∧ b < W.heap.size ∧ W.cell? ⟨b, off + i.1 * 4, none⟩ = some (.int .i64 es[i.1].k) ∧ W.cell? ⟨b, off + i.1 * 4 + 1, none⟩ = some (.int .i64 es[i.1].n) ∧
      W.cell? ⟨b, off + i.1 * 4 + 2, none⟩ = some (.slice es[i.1].so es[i.1].xs.length es[i.1].sc) ∧ W.cell? ⟨b, off + i.1 * 4 + 3, none⟩ = some (.slice lo' l.length lc') ∧ l.length ≤ 9223372036854775807 ∧ RowRaw W lo' l := fun i => by
    obtain ⟨_, b, off, lo', es', lc', hh⟩ := h i.1 i.2
    exact ⟨es', b, off, lo', lc', hh⟩
  obtain ⟨f, hf⟩ := Classical.axiomOfChoice H
  refine ⟨List.ofFn fun i : Fin es.length => (es[i.1], f i), by rw [List.length_ofFn], fun j hj => ?_⟩
  rw [List.length_ofFn] at hj
  rw [List.getElem_ofFn]
  exact ⟨(h j hj).1, hf ⟨j, hj⟩⟩

structure EntR where
  t : Int
  n : Int
  po : Option Addr
  ps : List Int
  pc : Nat
  no : Option Addr
  ns : List Int
  nc : Nat
  vo : Option Addr
  vs : List (RawE × List RawE)
  vc : Nat
def EntR.val (r : EntR) : Value := .agg #[.int .i64 r.t, .int .i64 r.n, .slice r.po r.ps.length r.pc, .slice r.no r.ns.length r.nc, .slice r.vo r.vs.length r.vc]
structure EntR.Ok (W : World) (r : EntR) : Prop where
  pl : r.ps.length ≤ 9223372036854775807
  ps : IntsAt W r.po r.ps
  nl : r.ns.length ≤ 9223372036854775807
  ns : IntsAt W r.no r.ns
  vl : r.vs.length ≤ 9223372036854775807
  vs : RowRaw3 W r.vo r.vs
theorem EntR.Ok.below {W W' : World} {r : EntR} (h : r.Ok W) (hb : Below W.heap.size W W') : r.Ok W' := ⟨h.pl, h.ps.below hb, h.nl, h.ns.below hb, h.vl, h.vs.below hb⟩

/-- A set's first three. -/
def cut3 : GV → GV
  | .pl p => .pl p
  | .set l => .set (l.take 3)
def idE (n : Int) : ByteArray := letS (n % 5).toNat
def uidEn (t n : Int) : U2 := ⟨knE t, idE n⟩
def parE (x : Int) : U2 := uidEn x (wrap64 (x.tdiv 4))
def atE (a : Int × (RawE × List RawE)) : ByteArray × GV := (nmE a.1, cut3 (goodG a.2.1 a.2.2))
def entP (r : EntR) : EntP := ⟨uidEn r.t r.n, (r.ps.take 3).map parE, ((r.ns.zip r.vs).take 3).map atE⟩
theorem goodG_len (r : RawE) (es : List RawE) : (goodG r es).len ≤ 8 := by
  unfold goodG
  split
  · have h1 := (len_setOf_le (goodL r.k es))
    have := goodL_len r.k es
    show (setOf lessP (goodL r.k es)).length ≤ 8
    omega
  · exact Nat.zero_le _
theorem cut3_len (g : GV) : (cut3 g).len ≤ g.len := by
  cases g with
  | pl p => exact Nat.le_refl _
  | set l =>
    show (l.take 3).length ≤ l.length
    rw [List.length_take]
    omega
theorem entP_fits (r : EntR) : (entP r).fits := by
  refine ⟨?_, ?_, fun a ha => ?_⟩
  · show ((r.ps.take 3).map parE).length ≤ _
    rw [List.length_map, List.length_take]
    omega
  · show (((r.ns.zip r.vs).take 3).map atE).length ≤ _
    rw [List.length_map, List.length_take]
    omega
  · obtain ⟨x, _, rfl⟩ := List.mem_map.1 ha
    have h1 := cut3_len (goodG x.2.1 x.2.2)
    have h2 := goodG_len x.2.1 x.2.2
    show (cut3 (goodG x.2.1 x.2.2)).len ≤ _
    omega
theorem isG_cut3 {w : World} {l : List PV} {ao : Option Addr} {c : Nat} (h : IsG w (.set l) (setR ao l.length c)) (h3 : 3 < l.length) : IsG w (cut3 (.set l)) (setR ao 3 c) := by
  obtain ⟨ao', c', e, hr, ho⟩ := h
  have e1 : ao = ao' := congrArg R7.lo e
  have e2 : c = c' := congrArg R7.lc e
  subst e1 e2
  refine ⟨ao, c, by rw [List.length_take, Nat.min_eq_left (by omega)], fun j hj => ?_, ho⟩
  rw [List.length_map, List.length_take] at hj
  obtain ⟨b, off, e, hb, hc⟩ := hr j (by rw [List.length_map]; omega)
  refine ⟨b, off, e, hb, fun c v hv => hc c v ?_⟩
  simpa using hv
/-- A set's block is not one that begins with a text. -/
theorem IsG.other {w : World} {g : GV} {R : R7} {b : Nat} {s : ByteArray} (h : IsG w g R) (hb : w.cell? ⟨b, 0, none⟩ = some (.string s)) : IsGP w (fun k => k ≠ b) g R := by
  refine ⟨h, fun ad e hl hk => ?_⟩
  cases g with
  | pl p =>
    have : R = ofP p := h
    rw [this] at hl
    cases p <;> exact absurd rfl hl
  | set l =>
    obtain ⟨ao, c, rfl, hr, ho⟩ := h
    have e1 : ao = some ad := e
    have hl' : l.length ≠ 0 := hl
    obtain ⟨b', off, e', _, hc⟩ := hr 0 (by simp; omega)
    have h0 := ho ad e1
    rw [e1] at e'
    cases e'
    have h0 : off = 0 := h0
    have hk : b' = b := hk
    subst h0 hk
    have := hc 0 _ rfl
    have hb' : w.cell? ⟨b', 0, none⟩ = some (.string s) := hb
    have h1 : w.cell? ⟨b', 0, none⟩ = _ := this
    rw [hb'] at h1
    cases h1
end Go.Proofs.Ythmmplmppchfmaa

namespace Go.Proofs.Ythmmplmppchfmaa
open Go.ChangeShapes Go.WideShapes Go.ChangeAt Go.WideMaps Go.WideElems Go.RowKit

def EntR.cells (r : EntR) : List Value := [.int .i64 r.t, .int .i64 r.n, .slice r.po r.ps.length r.pc, .slice r.no r.ns.length r.nc, .slice r.vo r.vs.length r.vc]
theorem c_ent : Try.prog.cellsOf 45 = 5 := by kernel_rfl
set_option maxRecDepth 100000 in
/-- The five cells of an Ent, read. -/
theorem ent_cells {H : Type} {enc : TypeId × Value → H} {W : World} {n : Nat} {cs : List Value} {x : DataW H × List MemPlace} (h : DataW.trod enc Try.prog W 0 (fun _ => true) true n 45 cs = some x) :
    ∃ r : EntR, cs = r.cells ∧ r.Ok W := by
  have e1 : Try.prog.cellsOf 3 = 1 := by kernel_rfl
  have e3 : Try.prog.cellsOf 23 = 1 := by kernel_rfl
  have e4 : Try.prog.cellsOf 43 = 1 := by kernel_rfl
  obtain ⟨xs, m, _, _, hlen, hxl, hall⟩ := DataW.trod_struct Try.underlying45 h
  rw [c_ent] at hlen
  have h0 := hall 0 _ rfl
  have h1 := hall 1 _ rfl
  have h2 := hall 2 _ rfl
  have h3 := hall 3 _ rfl
  have h4 := hall 4 _ rfl
  have hx : xs.length = 5 := hxl
  rw [List.getElem?_eq_getElem (by omega)] at h0 h1 h2 h3 h4
  simp only [List.getElem_toArray, List.getElem_cons_zero, List.getElem_cons_succ, e1, e3, e4] at h0 h1 h2 h3 h4
  match cs, hlen with
  | [a, b, c, d, e], _ =>
    obtain ⟨k0, hk0, _⟩ := DataW.trod_int Try.underlying3 h0
    obtain ⟨k1, hk1, _⟩ := DataW.trod_int Try.underlying3 h1
    obtain ⟨po, ps, pc, hs2, hl2, hc2, hi2⟩ := open_ints1 h2
    obtain ⟨no, ns, nc, hs3, hl3, hc3, hi3⟩ := open_ints1 h3
    obtain ⟨vo, es, vc, hs4, hl4, hr4⟩ := raws_cell2 h4
    obtain ⟨vs, hvl, hv⟩ := raw3_of hr4
    simp at hk0 hk1
    subst hk0 hk1 hs2 hs3 hs4
    refine ⟨⟨k0, k1, po, ps, pc, no, ns, nc, vo, vs, vc⟩, by unfold EntR.cells; rw [← hvl], ⟨hl2, hi2, hl3, hi3, by rw [hvl]; exact hl4, hv⟩⟩
def RowEnt (W : World) (lo : Option Addr) (rs : List EntR) : Prop := RowG W lo 5 (rs.map EntR.cells) ∧ ∀ r ∈ rs, r.Ok W
theorem RowEnt.below {W W' : World} {lo : Option Addr} {rs : List EntR} (h : RowEnt W lo rs) (hb : Below W.heap.size W W') : RowEnt W' lo rs := ⟨h.1.below hb, fun r hr => (h.2 r hr).below hb⟩
set_option maxRecDepth 100000 in
theorem open_ents {H : Type} {enc : TypeId × Value → H} {W : World} {b0 : Nat} {v : Value} {d : DataW H} {ps : List MemPlace}
    (hv : Value.okWide Try.prog W .any b0 22 v) (hd : DataW.Trod enc Try.prog W 0 (fun _ => true) true 22 v d ps) :
    ∃ (lo : Option Addr) (rs : List EntR) (lc : Nat), v = .slice lo rs.length lc ∧ rs.length ≤ 9223372036854775807 ∧ RowEnt W lo rs := by
  obtain ⟨a0, len0, cap0, rfl⟩ := okWide_slice Try.underlying22 hv
  obtain ⟨fuel, h⟩ := hd
  rcases Deep.open_slice Try.underlying22 h with ⟨hcs, _⟩ | ⟨a, len, cap, m', n, D, Pl, hcs, _, hl, hm, hmm, _, hx⟩
  · cases hcs
    exact ⟨none, [], 0, rfl, by simp, rowG_nil _ _ _, fun _ h => by cases h⟩
  · cases hcs
    have hmm' : m' = cap0 := by simpa using hmm
    subst hmm'
    have H : ∀ i : Fin len0, ∃ r : EntR, r.Ok W ∧ ∀ c u, r.cells[c]? = some u → W.cell? ((a.add (i.1 * 5)).add c) = some u := fun i => by
      obtain ⟨cs', hcells, ht⟩ := hx i.1 (by have := i.2; omega)
      rw [c_ent] at hcells
      obtain ⟨_, hl5, hc⟩ := World.cells?_some hcells
      obtain ⟨r, rfl, hok⟩ := ent_cells ht
      exact ⟨r, hok, fun c u hu => (hc c (by have := (List.getElem?_eq_some_iff.1 hu).1; simpa [EntR.cells] using this)).trans hu⟩
    obtain ⟨f, hf⟩ := Classical.axiomOfChoice H
    refine ⟨some a, List.ofFn f, m', by rw [List.length_ofFn], by rw [List.length_ofFn]; unfold maxLen at hm; omega, fun j hj => ?_, fun r hr => ?_⟩
    · rw [List.length_map, List.length_ofFn] at hj
      obtain ⟨_, hc00⟩ := hf ⟨0, by omega⟩
      have h0 := hc00 0 _ rfl
      obtain ⟨b, off, sp⟩ := a
      have hsp' : sp = none := by simpa [Addr.add] using World.cell?_spot h0
      subst hsp'
      obtain ⟨_, hc⟩ := hf ⟨j, hj⟩
      have k0 := hc 0 _ rfl
      simp only [Addr.add_lit, Nat.add_zero] at k0
      refine ⟨b, off, rfl, cell_lt k0, fun c u hu => ?_⟩
      rw [List.getElem_map, List.getElem_ofFn] at hu
      have := hc c u hu
      simpa only [Addr.add_lit] using this
    · obtain ⟨j, hj, rfl⟩ := List.getElem_of_mem hr
      rw [List.getElem_ofFn]
      exact (hf _).1
end Go.Proofs.Ythmmplmppchfmaa
