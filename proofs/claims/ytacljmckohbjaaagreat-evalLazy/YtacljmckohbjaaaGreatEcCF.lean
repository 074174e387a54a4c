/-
  Values and entities in memory, and what is kept of them where other blocks turn (no walk in it).
  ents.copyValue: what it returns.
  ents.copyEntity: what it returns.
  ents.copyRow: what it returns.
-/
import Derived.Test.YtacljmckohbjaaaGreatEnEc
import Derived.Test.YtacljmckohbjaaaGreatVcEM
import Derived.Test.YtacljmckohbjaaaGreatVeK
import Derived.Deep.Cut
namespace Go.Proofs.YtacljmckohbjaaaGreat
open Go.RowKit Go.Sort

theorem cell_same {w w' : World} {b o : Nat} (h : w'.heap[b]? = w.heap[b]?) : w'.cell? ⟨b, o, none⟩ = w.cell? ⟨b, o, none⟩ := by
  unfold World.cell?
  simp only [h]
theorem rowG_V {w : World} {ao : Option Addr} {l : List R7} : RowV w ao l ↔ RowG w ao 7 (l.map R7.cells) := by
  constructor
  · intro h j hj
    obtain ⟨b, off, e, hb, hc⟩ := h j (by simpa using hj)
    exact ⟨b, off, e, hb, fun c v hv => hc c v (by simpa using hv)⟩
  · intro h j hj
    obtain ⟨b, off, e, hb, hc⟩ := h j (by simpa using hj)
    exact ⟨b, off, e, hb, fun c v hv => hc c v (by simpa using hv)⟩
theorem RowG.turn {w w' : World} {ao : Option Addr} {n : Nat} {l : List (List Value)} (h : RowG w ao n l) (hs : w.heap.size ≤ w'.heap.size) (hk : ∀ ad, ao = some ad → l ≠ [] → ad.block < w.heap.size → w'.heap[ad.block]? = w.heap[ad.block]?) : RowG w' ao n l := by
  intro j hj
  obtain ⟨b, off, e, hb, hc⟩ := h j hj
  have hne : l ≠ [] := fun h => by rw [h] at hj; exact absurd hj (Nat.not_lt_zero _)
  exact ⟨b, off, e, by omega, fun c v hv => (cell_same (hk _ e hne hb)).trans (hc c v hv)⟩

/-- A value, its list in a block of a kind. -/
def IsGP (w : World) (P : Nat → Prop) (g : GV) (R : R7) : Prop := IsG w g R ∧ ∀ ad, R.lo = some ad → R.ll ≠ 0 → P ad.block
theorem IsGP.turn {w w' : World} {P P' : Nat → Prop} {g : GV} {R : R7} (hs : w.heap.size ≤ w'.heap.size) (hk : ∀ b, P b → b < w.heap.size → w'.heap[b]? = w.heap[b]? ∧ P' b) (h : IsGP w P g R) : IsGP w' P' g R := by
  obtain ⟨h1, h2⟩ := h
  cases g with
  | pl p =>
    refine ⟨h1, fun ad e hl => ?_⟩
    have : R = ofP p := h1
    rw [this] at hl
    cases p <;> exact absurd rfl hl
  | set l =>
    obtain ⟨ao, c, rfl, hr, ho⟩ := h1
    have hr' := rowG_V.1 hr
    have hlt : ∀ ad, ao = some ad → l.length ≠ 0 → ad.block < w.heap.size := fun ad e hl => by
      obtain ⟨b, off, e', hb, _⟩ := hr 0 (by simp; omega)
      rw [e] at e'
      cases e'
      exact hb
    refine ⟨⟨ao, c, rfl, rowG_V.2 (hr'.turn hs fun ad e hne hb => (hk _ (h2 ad e (fun h0 => hne ?_)) hb).1), ho⟩, fun ad e hl => (hk _ (h2 ad e hl) (hlt ad e hl)).2⟩
    have : l = [] := List.eq_nil_of_length_eq_zero h0
    rw [this]
    rfl
theorem IsGP.below {w w' : World} {P : Nat → Prop} {g : GV} {R : R7} (h : IsGP w P g R) (hb : Below w.heap.size w w') : IsGP w' P g R := h.turn hb.size fun b hp hl => ⟨hb.block b hl, hp⟩
theorem IsGP.of {w : World} {g : GV} {R : R7} (h : IsG w g R) : IsGP w (fun _ => True) g R := ⟨h, fun _ _ _ => trivial⟩
/-- How many a set has. -/
def GV.len : GV → Nat
  | .pl _ => 0
  | .set l => l.length

/-- An entity, as plain data. -/
structure EntP where
  u : U2
  ps : List U2
  ats : List (ByteArray × GV)
/-- Not too great. -/
def EntP.fits (p : EntP) : Prop := p.ps.length ≤ 1048576 ∧ p.ats.length ≤ 1048576 ∧ ∀ a ∈ p.ats, a.2.len ≤ 1048576
def IsAs (w : World) (P : Nat → Nat → Prop) (rs : List A8) (l : List (ByteArray × GV)) : Prop :=
  rs.length = l.length ∧ ∀ j (h : j < rs.length) (h' : j < l.length), rs[j].nm = l[j].1 ∧ IsGP w (P j) l[j].2 rs[j].v
theorem IsAs.turn {w w' : World} {P P' : Nat → Nat → Prop} {rs : List A8} {l : List (ByteArray × GV)} (hs : w.heap.size ≤ w'.heap.size) (hk : ∀ j b, P j b → b < w.heap.size → w'.heap[b]? = w.heap[b]? ∧ P' j b) (h : IsAs w P rs l) : IsAs w' P' rs l :=
  ⟨h.1, fun j h1 h2 => ⟨(h.2 j h1 h2).1, (h.2 j h1 h2).2.turn hs (hk j)⟩⟩
structure IsEnt (w : World) (P : Nat → Prop) (e : E4) (p : EntP) : Prop where
  u : (⟨e.t, e.i⟩ : U2) = p.u
  pl : e.pl = p.ps.length
  rowU : RowG w e.po 2 (p.ps.map U2.cells)
  pU : ∀ ad, e.po = some ad → p.ps ≠ [] → P ad.block
  ats : ∃ rs : List A8, e.al = rs.length ∧ RowG w e.ao 8 (rs.map A8.cells) ∧ (∀ ad, e.ao = some ad → rs ≠ [] → P ad.block) ∧ IsAs w (fun _ => P) rs p.ats
theorem IsEnt.turn {w w' : World} {P P' : Nat → Prop} {e : E4} {p : EntP} (hs : w.heap.size ≤ w'.heap.size) (hk : ∀ b, P b → b < w.heap.size → w'.heap[b]? = w.heap[b]? ∧ P' b) (h : IsEnt w P e p) : IsEnt w' P' e p := by
  obtain ⟨rs, h1, h2, h3, h4⟩ := h.ats
  have lt2 : ∀ ad, e.po = some ad → p.ps ≠ [] → ad.block < w.heap.size := fun ad e1 hne => by
    obtain ⟨b, off, e', hb, _⟩ := h.rowU 0 (by simpa using List.length_pos_iff.2 hne)
    rw [e1] at e'
    cases e'
    exact hb
  have lt3 : ∀ ad, e.ao = some ad → rs ≠ [] → ad.block < w.heap.size := fun ad e1 hne => by
    obtain ⟨b, off, e', hb, _⟩ := h2 0 (by simpa using List.length_pos_iff.2 hne)
    rw [e1] at e'
    cases e'
    exact hb
  exact ⟨h.u, h.pl, h.rowU.turn hs fun ad e1 hne hb => (hk _ (h.pU ad e1 (fun h0 => hne (by rw [h0]; rfl))) hb).1, fun ad e1 hne => (hk _ (h.pU ad e1 hne) (lt2 ad e1 hne)).2,
    rs, h1, h2.turn hs fun ad e1 hne hb => (hk _ (h3 ad e1 (fun h0 => hne (by rw [h0]; rfl))) hb).1, fun ad e1 hne => (hk _ (h3 ad e1 hne) (lt3 ad e1 hne)).2, h4.turn hs fun _ => hk⟩
theorem IsEnt.below {w w' : World} {P : Nat → Prop} {e : E4} {p : EntP} (h : IsEnt w P e p) (hb : Below w.heap.size w w') : IsEnt w' P e p := h.turn hb.size fun b hp hl => ⟨hb.block b hl, hp⟩
/-- What lies in memory lies in blocks that are there. -/
theorem IsEnt.old {w : World} {P : Nat → Prop} {e : E4} {p : EntP} (h : IsEnt w P e p) : IsEnt w (fun b => b < w.heap.size) e p := by
  obtain ⟨rs, h1, h2, h3, h4⟩ := h.ats
  refine ⟨h.u, h.pl, h.rowU, fun ad e1 hne => ?_, rs, h1, h2, fun ad e1 hne => ?_, h4.1, fun j hj hj' => ⟨(h4.2 j hj hj').1, (h4.2 j hj hj').2.1, fun ad e1 hl => ?_⟩⟩
  · obtain ⟨b, off, e', hb, _⟩ := h.rowU 0 (by simpa using List.length_pos_iff.2 hne)
    rw [e1] at e'
    cases e'
    exact hb
  · obtain ⟨b, off, e', hb, _⟩ := h2 0 (by simpa using List.length_pos_iff.2 hne)
    rw [e1] at e'
    cases e'
    exact hb
  · have hg := (h4.2 j hj hj').2.1
    cases hgv : p.ats[j].2 with
    | pl q =>
      rw [hgv] at hg
      have : rs[j].v = ofP q := hg
      rw [this] at hl
      cases q <;> exact absurd rfl hl
    | set l =>
      rw [hgv] at hg
      obtain ⟨ao, c, e2, hr, _⟩ := hg
      rw [e2] at e1 hl
      have e1' : ao = some ad := e1
      have hl' : l.length ≠ 0 := hl
      obtain ⟨b, off, e', hb, _⟩ := hr 0 (by simp; omega)
      rw [e1'] at e'
      cases e'
      exact hb

/-! ## Cells set one by one. -/

theorem belowSetCells {B b : Nat} {a : World} : ∀ (vs : List Value) (o : Nat) (w : World), Below B a w → B ≤ b → Below B a (w.setCells b o vs)
  | [], _, _, h, _ => h
  | v :: vs, o, _, h, hb => belowSetCells vs (o + 1) _ (h.setCell (p := ⟨b, o, none⟩) hb v) hb
theorem heap_setCells {b k : Nat} (hk : k ≠ b) : ∀ (vs : List Value) (o : Nat) (w : World), (w.setCells b o vs).heap[k]? = w.heap[k]?
  | [], _, _ => rfl
  | v :: vs, o, w => (heap_setCells hk vs (o + 1) _).trans (Below.heap_setCell w ⟨b, o, none⟩ v k hk)
theorem size_setCells {b : Nat} : ∀ (vs : List Value) (o : Nat) (w : World), (w.setCells b o vs).heap.size = w.heap.size
  | [], _, _ => rfl
  | v :: vs, o, w => (size_setCells vs (o + 1) _).trans (by simp)
end Go.Proofs.YtacljmckohbjaaaGreat

namespace Go.Proofs.YtacljmckohbjaaaGreat
open Go.RowKit Go.Sort

/-- What each slot of the region holds. -/
def cvSp (B g n j : Nat) (x : R7) : Nat → Value → World → Prop
  | 0, v, _ => v = .pointer (some ⟨B, 6, none⟩)
  | 1, v, _ => v = .slice (some ⟨g, 0, none⟩) n n
  | 2, v, _ => v = .int .i64 j
  | 3, v, _ => v = .agg #[.int .i64 x.k, .bool x.b, .int .i64 x.n, .string x.s, .string x.t, .string x.i, .slice x.lo x.ll x.lc]
  | 4, v, _ => v = .agg #[.int .i64 x.k, .bool x.b, .int .i64 x.n, .string x.s, .string x.t, .string x.i, .slice x.lo x.ll x.lc]
  | 5, v, _ => v = .pointer (some ⟨g, j * 7, none⟩)
  | _ + 6, _, _ => True
/-- What a copy of a list is: none, or in new memory. -/
def Fresh (w' : World) (B : Nat) (ao : Option Addr) (n : Nat) (l : List (List Value)) : Prop :=
  RowG w' ao n l ∧ (l = [] → ao = none) ∧ ∀ ad, ao = some ad → ad.off = 0 ∧ B ≤ ad.block

end Go.Proofs.YtacljmckohbjaaaGreat

namespace Go.Proofs.YtacljmckohbjaaaGreat
open Go.RowKit Go.Sort

/-- What each slot of the region holds. -/
def ceSp (B E g n j W5 : Nat) (x : R7) (G : GV) : Nat → Value → World → Prop
  | 0, v, _ => v = .pointer (some ⟨B, 3, none⟩)
  | 1, v, _ => v = .slice (some ⟨g, 0, none⟩) n n
  | 2, v, _ => v = .int .i64 j
  | 3, v, _ => v = .pointer (some ⟨E, 1, none⟩)
  | 4, v, _ => v = .agg #[.int .i64 x.k, .bool x.b, .int .i64 x.n, .string x.s, .string x.t, .string x.i, .slice x.lo x.ll x.lc]
  | 5, v, w => ∃ y : R7, v = .agg #[.int .i64 y.k, .bool y.b, .int .i64 y.n, .string y.s, .string y.t, .string y.i, .slice y.lo y.ll y.lc] ∧ IsGP w (fun b => W5 ≤ b) G y
  | 6, v, _ => v = .pointer (some ⟨g, j * 8, none⟩)
  | 7, v, _ => v = .pointer (some ⟨g, j * 8 + 1, none⟩)
  | _ + 8, _, _ => True
/-- What the loop keeps. -/
structure CeInv (w : World) (B3 : Nat) (t i : ByteArray) (po ao : Option Addr) (m n : Nat) (p : EntP) (j : Nat) (wr : World) (rs : List A8) : Prop where
  below : Below w.heap.size w wr
  size : B3 ≤ wr.heap.size
  h1 : wr.heap[w.heap.size]? = some (.cells #[.string t, .string i, .slice po m m, .slice ao n n] 55 (0, 0))
  h2 : wr.heap[w.heap.size + 1]? = some (.cells #[.string ⟨#[]⟩, .string ⟨#[]⟩, .slice none 0 0, .slice none 0 0] 55 (0, 0))
  rowU : RowG wr po 2 (p.ps.map U2.cells)
  rowA : RowG wr ao 8 (rs.map A8.cells)
  fz : ∀ ad, ao = some ad → ∀ o, wr.frozen? ⟨ad.block, o, none⟩ = false
  len : rs.length = n
  at_ : IsAs wr (fun k b => (∀ ad, ao = some ad → b ≠ ad.block) ∧ (k < j → w.heap.size + 2 ≤ b)) rs p.ats

end Go.Proofs.YtacljmckohbjaaaGreat

namespace Go.Proofs.YtacljmckohbjaaaGreat
open Go.RowKit Go.Sort

/-- Entities, one by one. -/
def AllEnt (w : World) (P : Nat → Prop) (es : List E4) (ps : List EntP) : Prop := es.length = ps.length ∧ ∀ j (h : j < es.length) (h' : j < ps.length), IsEnt w P es[j] ps[j]
theorem AllEnt.turn {w w' : World} {P P' : Nat → Prop} {es : List E4} {ps : List EntP} (hs : w.heap.size ≤ w'.heap.size) (hk : ∀ b, P b → b < w.heap.size → w'.heap[b]? = w.heap[b]? ∧ P' b) (h : AllEnt w P es ps) : AllEnt w' P' es ps :=
  ⟨h.1, fun j h1 h2 => (h.2 j h1 h2).turn hs hk⟩
theorem AllEnt.below {w w' : World} {P : Nat → Prop} {es : List E4} {ps : List EntP} (h : AllEnt w P es ps) (hb : Below w.heap.size w w') : AllEnt w' P es ps := h.turn hb.size fun b hp hl => ⟨hb.block b hl, hp⟩
theorem AllEnt.old {w : World} {P : Nat → Prop} {es : List E4} {ps : List EntP} (h : AllEnt w P es ps) : AllEnt w (fun b => b < w.heap.size) es ps := ⟨h.1, fun j h1 h2 => (h.2 j h1 h2).old⟩

/-- A slice of entities. -/
structure RowD where
  ao : Option Addr
  cap : Nat
  es : List E4
def allE (rows : List RowD) : List E4 := (rows.map RowD.es).flatten
/-- The slices, in memory. -/
def RowsAt (w : World) (vo : Option Addr) (rows : List RowD) : Prop :=
  ∀ k (h : k < rows.length), ∃ b off, vo = some ⟨b, off, none⟩ ∧ b < w.heap.size ∧ w.cell? ⟨b, off + k, none⟩ = some (.slice rows[k].ao rows[k].es.length rows[k].cap)

theorem sizeEnts (W : World) : (sizeOf (Tryz.prog.elem 29)).run Tryz.prog W = .ok 4 W := by kernel_rfl
theorem run_cutE_l (ao : Option Addr) (n cap k : Nat) (hk : k ≤ n) : ∃ ao', ao' = (if cap = k then ao else ao.map (·.add (k * 4))) ∧ ∀ W, (Instr.slice 29 (.slice ao n cap) (some (.int .i64 k)) none none).run Tryz.prog W = .ok (.slice ao' (n - k) (cap - k)) W := by
  refine ⟨_, rfl, fun W => ?_⟩
  rw [run_slice_l (P := Tryz.prog) (w := W) 29 ao n cap (by kernel_rfl) .i64 k (by omega) (by omega)]
  rw [sizeEnts]
  simp [sliced, Result.andThen]
theorem run_cutE_h (ao : Option Addr) (n cap k : Nat) (hk : k ≤ cap) (W : World) : (Instr.slice 29 (.slice ao n cap) none (some (.int .i64 k)) none).run Tryz.prog W = .ok (.slice ao k cap) W := by
  rw [run_slice_h (P := Tryz.prog) (w := W) 29 ao n cap (by kernel_rfl) .i64 k (by omega) (by omega)]
  rw [sizeEnts]
  have e0 : ∀ a : Addr, a.add 0 = a := fun a => by unfold Addr.add; simp
  cases ao <;> simp [sliced, Result.andThen, e0]
/-- The room, s entities of which are laid. -/
structure RoomE (w wr : World) (G total off : Nat) (es : List E4) : Prop where
  below : Below w.heap.size w wr
  size : wr.heap.size = G + 1
  le : es.length ≤ total
  room : ∃ rest : List Value, rest.length = (total - es.length) * 4 ∧ wr.heap[G]? = some (.cells ((es.map E4.cells).flatten ++ rest).toArray 55 (0, 0))
  off : es.length < total → off = es.length * 4
/-- The row whose entities are copied one by one. -/
structure DeepE (w wr : World) (G : Nat) (es : List E4) (ps : List EntP) : Prop where
  below : Below w.heap.size w wr
  lt : G < wr.heap.size
  row : RowG wr (some ⟨G, 0, none⟩) 4 (es.map E4.cells)
  fz : ∀ o, wr.frozen? ⟨G, o, none⟩ = false
  all : AllEnt wr (fun b => b ≠ G) es ps
/-- A new row of entities. -/
def RowPost (w : World) (ps : List EntP) (n : Nat) (x : Ending) (w' : World) : Prop :=
  Below w.heap.size w w' ∧ ∃ (G : Nat) (es : List E4), x = .returned (.slice (some ⟨G, 0, none⟩) n n) ∧ RowG w' (some ⟨G, 0, none⟩) 4 (es.map E4.cells) ∧ AllEnt w' (fun _ => True) es ps ∧ w.heap.size ≤ G

end Go.Proofs.YtacljmckohbjaaaGreat
