/-
  A value, a tree's node: seven cells in memory (no program in it).
-/
import Derived.Test.YthmmplmppchfmaaValW
import Derived.Lib.QuietBelow
namespace Go.Proofs.Ythmmplmppchfmaa
open Go.RowKit Go.Sort

/-- A value's seven fields. -/
structure R7 where
  k : Int
  b : Bool
  n : Int
  s : ByteArray
  t : ByteArray
  i : ByteArray
  lo : Option Addr
  ll : Nat
  lc : Nat

def R7.lv (r : R7) : Value := .slice r.lo r.ll r.lc

def R7.cells (r : R7) : List Value := [.int .i64 r.k, .bool r.b, .int .i64 r.n, .string r.s, .string r.t, .string r.i, .slice r.lo r.ll r.lc]
def R7.val (r : R7) : Value := .agg #[.int .i64 r.k, .bool r.b, .int .i64 r.n, .string r.s, .string r.t, .string r.i, .slice r.lo r.ll r.lc]
/-- A plain value, its list nil. -/
def ofP (p : PV) : R7 :=
  match p with
  | .bool b => ⟨1, b, 0, ba [], ba [], ba [], none, 0, 0⟩
  | .long n => ⟨2, false, n, ba [], ba [], ba [], none, 0, 0⟩
  | .str s => ⟨3, false, 0, ba s, ba [], ba [], none, 0, 0⟩
  | .uid t i => ⟨4, false, 0, ba [], ba t, ba i, none, 0, 0⟩
theorem ofP_val (p : PV) : (ofP p).val = valP p (.slice none 0 0) := by cases p <;> rfl
theorem ofP_k (p : PV) : (ofP p).k = p.kind := by cases p <;> rfl

/-- The cells of a slice of values. -/
def RowV (w : World) (ao : Option Addr) (l : List R7) : Prop :=
  ∀ j (hj : j < l.length), ∃ b off, ao = some ⟨b, off, none⟩ ∧ b < w.heap.size ∧ ∀ c v, l[j].cells[c]? = some v → w.cell? ⟨b, off + j * 7 + c, none⟩ = some v

theorem RowV.below {w w' : World} {ao : Option Addr} {l : List R7} (h : RowV w ao l) (hb : Below w.heap.size w w') : RowV w' ao l := by
  intro j hj
  obtain ⟨b, off, e, hlt, hc⟩ := h j hj
  have := hb.size
  exact ⟨b, off, e, by omega, fun c v hv => (hb.cell (p := ⟨b, off + j * 7 + c, none⟩) hlt).trans (hc c v hv)⟩

/-- An element's seven cells. -/
structure At7 (w : World) (b o : Nat) (r : R7) : Prop where
  c0 : w.cell? ⟨b, o, none⟩ = some (.int .i64 r.k)
  c1 : w.cell? ⟨b, o + 1, none⟩ = some (.bool r.b)
  c2 : w.cell? ⟨b, o + 2, none⟩ = some (.int .i64 r.n)
  c3 : w.cell? ⟨b, o + 3, none⟩ = some (.string r.s)
  c4 : w.cell? ⟨b, o + 4, none⟩ = some (.string r.t)
  c5 : w.cell? ⟨b, o + 5, none⟩ = some (.string r.i)
  c6 : w.cell? ⟨b, o + 6, none⟩ = some (.slice r.lo r.ll r.lc)

theorem At7.below {w w' : World} {b o B : Nat} {r : R7} (h : At7 w b o r) (hb : Below B w w') (hlt : b < B) : At7 w' b o r :=
  ⟨(hb.cell (p := ⟨b, o, none⟩) hlt).trans h.c0, (hb.cell (p := ⟨b, o + 1, none⟩) hlt).trans h.c1, (hb.cell (p := ⟨b, o + 2, none⟩) hlt).trans h.c2, (hb.cell (p := ⟨b, o + 3, none⟩) hlt).trans h.c3, (hb.cell (p := ⟨b, o + 4, none⟩) hlt).trans h.c4, (hb.cell (p := ⟨b, o + 5, none⟩) hlt).trans h.c5, (hb.cell (p := ⟨b, o + 6, none⟩) hlt).trans h.c6⟩

/-- .. in every world that a region may be in. -/
structure At7G (w : World) (b o : Nat) (r : R7) : Prop where
  c0 : ∀ d os, (grow (redrawn w d) os).cell? ⟨b, o, none⟩ = some (.int .i64 r.k)
  c1 : ∀ d os, (grow (redrawn w d) os).cell? ⟨b, o + 1, none⟩ = some (.bool r.b)
  c2 : ∀ d os, (grow (redrawn w d) os).cell? ⟨b, o + 2, none⟩ = some (.int .i64 r.n)
  c3 : ∀ d os, (grow (redrawn w d) os).cell? ⟨b, o + 3, none⟩ = some (.string r.s)
  c4 : ∀ d os, (grow (redrawn w d) os).cell? ⟨b, o + 4, none⟩ = some (.string r.t)
  c5 : ∀ d os, (grow (redrawn w d) os).cell? ⟨b, o + 5, none⟩ = some (.string r.i)
  c6 : ∀ d os, (grow (redrawn w d) os).cell? ⟨b, o + 6, none⟩ = some (.slice r.lo r.ll r.lc)

theorem At7.up {w : World} {b o : Nat} {r : R7} (h : At7 w b o r) : At7G w b o r :=
  ⟨cell_regrown h.c0, cell_regrown h.c1, cell_regrown h.c2, cell_regrown h.c3, cell_regrown h.c4, cell_regrown h.c5, cell_regrown h.c6⟩

theorem rowV_at {w2 wr : World} {ao : Option Addr} {l : List R7} (h : RowV w2 ao l) (hbw : Below w2.heap.size w2 wr) {j : Nat} (hj : j < l.length) :
    ∃ b off, ao = some ⟨b, off, none⟩ ∧ At7 wr b (off + j * 7) l[j] ∧ b < w2.heap.size := by
  obtain ⟨b, off, e, hb, hc⟩ := h j hj
  have hc' : ∀ c v, l[j].cells[c]? = some v → wr.cell? ⟨b, off + j * 7 + c, none⟩ = some v := fun c v hv => (hbw.cell (p := ⟨b, off + j * 7 + c, none⟩) hb).trans (hc c v hv)
  exact ⟨b, off, e, ⟨hc' 0 _ rfl, hc' 1 _ rfl, hc' 2 _ rfl, hc' 3 _ rfl, hc' 4 _ rfl, hc' 5 _ rfl, hc' 6 _ rfl⟩, hb⟩
end Go.Proofs.Ythmmplmppchfmaa
