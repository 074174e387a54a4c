/-
  chancelref3.Same of plain values; Holds: what they return.
-/
import Derived.Test.YtakolbijajlhkaaGreatValW
import Derived.Lib.QuietBelow
import Derived.BigQuiet
import Derived.Deep.QuietTactic
namespace Go.Proofs.YtakolbijajlhkaaGreat
open Go.RowKit Go.Sort

theorem ba_inj {a b : List UInt8} (h : ba a = ba b) : a = b := by
  have := congrArg (fun x : ByteArray => x.data.toList) h
  simpa [ba] using this

def cellsP (p : PV) (lv : Value) : List Value :=
  match p with
  | .bool b => [.int .i64 1, .bool b, .int .i64 0, .string (ba []), .string (ba []), .string (ba []), lv]
  | .long n => [.int .i64 2, .bool false, .int .i64 n, .string (ba []), .string (ba []), .string (ba []), lv]
  | .str s => [.int .i64 3, .bool false, .int .i64 0, .string (ba s), .string (ba []), .string (ba []), lv]
  | .uid t i => [.int .i64 4, .bool false, .int .i64 0, .string (ba []), .string (ba t), .string (ba i), lv]

/-- The cells of a slice of plain values. -/
def RowP (w : World) (ao : Option Addr) (l : List PV) : Prop :=
  ∀ j (hj : j < l.length), ∃ b off a0 c0, ao = some ⟨b, off, none⟩ ∧ b < w.heap.size ∧ ∀ c v, (cellsP l[j] (.slice a0 0 c0))[c]? = some v → w.cell? ⟨b, off + j * 7 + c, none⟩ = some v

theorem RowP.below {w w' : World} {ao : Option Addr} {l : List PV} (h : RowP w ao l) (hb : Below w.heap.size w w') : RowP w' ao l := by
  intro j hj
  obtain ⟨b, off, a0, c0, e, hlt, hc⟩ := h j hj
  have := hb.size
  exact ⟨b, off, a0, c0, e, by omega, fun c v hv => (hb.cell (p := ⟨b, off + j * 7 + c, none⟩) hlt).trans (hc c v hv)⟩

end Go.Proofs.YtakolbijajlhkaaGreat
