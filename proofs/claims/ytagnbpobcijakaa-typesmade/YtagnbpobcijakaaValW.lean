/-
 chancelref3.LessUid, Same, Less: what they return of plain values.
-/
import Derived.Test.YtagnbpobcijakaaValP
import Derived.Test.YtagnbpobcijakaaPlain
import Derived.WalkKit
import Derived.WalkSpells
import Derived.WalkLawsBesides
namespace Go.Proofs.Ytagnbpobcijakaa
open Go.RowKit

def ba (l : List UInt8) : ByteArray := ⟨l.toArray⟩
/-- A value as the program holds it: its seven fields. -/
def val7 (k : Int) (b : Bool) (n : Int) (s t i : ByteArray) (lv : Value) : Value := .agg #[.int .i64 k, .bool b, .int .i64 n, .string s, .string t, .string i, lv]
/-- A plain value's; its list is empty. -/
def valP (p : PV) (lv : Value) : Value :=
 match p with
 | .bool b => val7 1 b 0 (ba []) (ba []) (ba []) lv
 | .long n => val7 2 false n (ba []) (ba []) (ba []) lv
 | .str s => val7 3 false 0 (ba s) (ba []) (ba []) lv
 | .uid t i => val7 4 false 0 (ba []) (ba t) (ba i) lv

/-- Two values without elements: alike just where all fields are. -/
def Flat (k : Int) (b : Bool) (n : Int) (s t i : ByteArray) (k' : Int) (b' : Bool) (n' : Int) (s' t' i' : ByteArray) : Prop := k = k' ∧ b = b' ∧ n = n' ∧ s = s' ∧ t = t' ∧ i = i'

theorem bytes_ne {s s' : ByteArray} (h : s ≠ s') : (s.toList == s'.toList) = false := by
 rw [ByteArray.toList_eq, ByteArray.toList_eq]
 simp
 intro e
 exact h (ByteArray.ext e)

theorem lc_ {w : World} {b o : Nat} {cs : Array Value} {v : Value} {T : TypeId} {fz : Nat × Nat} (h : w.heap[b]? = some (.cells cs T fz)) (e : cs[o]? = some v) : w.cell? ⟨b, o, none⟩ = some v := by
 rw [Lib.cell_of_heap h]
 exact e
theorem gd_ {a : Array Value} {k : Nat} {v : Value} (h : a.getD k undef = v) : a[k]?.getD undef = v := by simpa using h
theorem bl2_ {w : World} {b : Nat} {v0 v1 : Value} {T : TypeId} {fz : Nat × Nat} (h : w.heap[b]? = some (.cells #[v0, v1] T fz)) : w.cell? ⟨b, 0, none⟩ = some v0 ∧ w.cell? ⟨b, 1, none⟩ = some v1 :=
 ⟨by rw [Lib.cell_of_heap h]; rfl, by rw [Lib.cell_of_heap h]; rfl⟩
theorem bl3_ {w : World} {b : Nat} {v0 v1 v2 : Value} {T : TypeId} {fz : Nat × Nat} (h : w.heap[b]? = some (.cells #[v0, v1, v2] T fz)) : w.cell? ⟨b, 0, none⟩ = some v0 ∧ w.cell? ⟨b, 1, none⟩ = some v1 ∧ w.cell? ⟨b, 2, none⟩ = some v2 :=
 ⟨by rw [Lib.cell_of_heap h]; rfl, by rw [Lib.cell_of_heap h]; rfl, by rw [Lib.cell_of_heap h]; rfl⟩
theorem bl4_ {w : World} {b : Nat} {v0 v1 v2 v3 : Value} {T : TypeId} {fz : Nat × Nat} (h : w.heap[b]? = some (.cells #[v0, v1, v2, v3] T fz)) : w.cell? ⟨b, 0, none⟩ = some v0 ∧ w.cell? ⟨b, 1, none⟩ = some v1 ∧ w.cell? ⟨b, 2, none⟩ = some v2 ∧ w.cell? ⟨b, 3, none⟩ = some v3 :=
 ⟨by rw [Lib.cell_of_heap h]; rfl, by rw [Lib.cell_of_heap h]; rfl, by rw [Lib.cell_of_heap h]; rfl, by rw [Lib.cell_of_heap h]; rfl⟩
theorem bl6_ {w : World} {b : Nat} {v0 v1 v2 v3 v4 v5 : Value} {T : TypeId} {fz : Nat × Nat} (h : w.heap[b]? = some (.cells #[v0, v1, v2, v3, v4, v5] T fz)) : w.cell? ⟨b, 0, none⟩ = some v0 ∧ w.cell? ⟨b, 1, none⟩ = some v1 ∧ w.cell? ⟨b, 2, none⟩ = some v2 ∧ w.cell? ⟨b, 3, none⟩ = some v3 ∧ w.cell? ⟨b, 4, none⟩ = some v4 ∧ w.cell? ⟨b, 5, none⟩ = some v5 :=
 ⟨by rw [Lib.cell_of_heap h]; rfl, by rw [Lib.cell_of_heap h]; rfl, by rw [Lib.cell_of_heap h]; rfl, by rw [Lib.cell_of_heap h]; rfl, by rw [Lib.cell_of_heap h]; rfl, by rw [Lib.cell_of_heap h]; rfl⟩
theorem bl7_ {w : World} {b : Nat} {v0 v1 v2 v3 v4 v5 v6 : Value} {T : TypeId} {fz : Nat × Nat} (h : w.heap[b]? = some (.cells #[v0, v1, v2, v3, v4, v5, v6] T fz)) : w.cell? ⟨b, 0, none⟩ = some v0 ∧ w.cell? ⟨b, 1, none⟩ = some v1 ∧ w.cell? ⟨b, 2, none⟩ = some v2 ∧ w.cell? ⟨b, 3, none⟩ = some v3 ∧ w.cell? ⟨b, 4, none⟩ = some v4 ∧ w.cell? ⟨b, 5, none⟩ = some v5 ∧ w.cell? ⟨b, 6, none⟩ = some v6 :=
 ⟨by rw [Lib.cell_of_heap h]; rfl, by rw [Lib.cell_of_heap h]; rfl, by rw [Lib.cell_of_heap h]; rfl, by rw [Lib.cell_of_heap h]; rfl, by rw [Lib.cell_of_heap h]; rfl, by rw [Lib.cell_of_heap h]; rfl, by rw [Lib.cell_of_heap h]; rfl⟩
end Go.Proofs.Ytagnbpobcijakaa
