/-
  chancelref3.Same of plain values; Holds: what they return.
-/
import Derived.Test.YthmmplmppchfmaaValW
import Derived.Lib.QuietBelow
import Derived.BigQuiet
import Derived.Deep.QuietTactic
namespace Go.Proofs.Ythmmplmppchfmaa
open Go.RowKit Go.Sort

theorem ba_inj {a b : List UInt8} (h : ba a = ba b) : a = b := by
  have := congrArg (fun x : ByteArray => x.data.toList) h
  simpa [ba] using this

theorem r3same_plain (p q : PV) (ao bo : Option Addr) (ca cb : Nat) (w : World) :
    Calls Try.prog 73 #[valP p (.slice ao 0 ca), valP q (.slice bo 0 cb)] w fun e w' => e = .returned (.bool (decide (p = q))) ∧ Below w.heap.size w w' := by
  by_cases h : p = q
  · subst h
    rw [decide_eq_true rfl]
    cases p <;> exact r3same_flat _ _ _ _ _ _ _ _ _ _ _
  · rw [decide_eq_false h]
    cases p <;> cases q <;> refine r3same_unlike _ _ _ _ _ _ _ _ _ _ _ _ _ _ _ _ _ _ ?_ w
    all_goals (rintro ⟨h1, h2, h3, h4, h5, h6⟩; first | exact absurd h1 (by decide) | skip)
    · exact h (by rw [h2])
    · exact h (by rw [h3])
    · exact h (by rw [ba_inj h4])
    · exact h (by rw [ba_inj h5, ba_inj h6])

def cellsP (p : PV) (lv : Value) : List Value :=
  match p with
  | .bool b => [.int .i64 1, .bool b, .int .i64 0, .string (ba []), .string (ba []), .string (ba []), lv]
  | .long n => [.int .i64 2, .bool false, .int .i64 n, .string (ba []), .string (ba []), .string (ba []), lv]
  | .str s => [.int .i64 3, .bool false, .int .i64 0, .string (ba s), .string (ba []), .string (ba []), lv]
  | .uid t i => [.int .i64 4, .bool false, .int .i64 0, .string (ba []), .string (ba t), .string (ba i), lv]

/-- The cells of a slice of plain values. -/
def RowP (w : World) (ao : Option Addr) (l : List PV) : Prop :=
  ∀ j (hj : j < l.length), ∃ b off a0 c0, ao = some ⟨b, off, none⟩ ∧ b < w.heap.size ∧ ∀ c v, (cellsP l[j] (.slice a0 0 c0))[c]? = some v → w.cell? ⟨b, off + j * 7 + c, none⟩ = some v

theorem RowP.below {w w' : World} {ao : Option Addr} {l : List PV} (h : RowP w ao l) (hb : Below w.heap.size w w') : RowP w' ao l := by
  intro j hj
  obtain ⟨b, off, a0, c0, e, hlt, hc⟩ := h j hj
  have := hb.size
  exact ⟨b, off, a0, c0, e, by omega, fun c v hv => (hb.cell (p := ⟨b, off + j * 7 + c, none⟩) hlt).trans (hc c v hv)⟩

end Go.Proofs.Ythmmplmppchfmaa
