/-
  chancelref3.LessUid, Same, Less: what they return of plain values.
-/
import Derived.Test.YtakolbijajlhkaaGreatValP
import Derived.Test.YtakolbijajlhkaaGreatPlain
import Derived.WalkKit
import Derived.WalkSpells
import Derived.WalkLawsBesides
namespace Go.Proofs.YtakolbijajlhkaaGreat
open Go.RowKit

def ba (l : List UInt8) : ByteArray := ⟨l.toArray⟩
theorem ba_list (l : List UInt8) : (ba l).toList = l := by rw [ByteArray.toList_eq]; rfl
theorem below2 (w : World) (o o' : Obj) : Below w.heap.size w ((w.alloc o).alloc o') :=
  ((Below.refl _ w).alloc (Nat.le_refl _) o).alloc (by simp) o'

/-- A value as the program holds it: its seven fields. -/
def val7 (k : Int) (b : Bool) (n : Int) (s t i : ByteArray) (lv : Value) : Value := .agg #[.int .i64 k, .bool b, .int .i64 n, .string s, .string t, .string i, lv]
/-- A plain value's; its list is empty. -/
def valP (p : PV) (lv : Value) : Value :=
  match p with
  | .bool b => val7 1 b 0 (ba []) (ba []) (ba []) lv
  | .long n => val7 2 false n (ba []) (ba []) (ba []) lv
  | .str s => val7 3 false 0 (ba s) (ba []) (ba []) lv
  | .uid t i => val7 4 false 0 (ba []) (ba t) (ba i) lv

/-- Two values without elements: alike just where all fields are. -/
def Flat (k : Int) (b : Bool) (n : Int) (s t i : ByteArray) (k' : Int) (b' : Bool) (n' : Int) (s' t' i' : ByteArray) : Prop := k = k' ∧ b = b' ∧ n = n' ∧ s = s' ∧ t = t' ∧ i = i'

theorem bytes_ne {s s' : ByteArray} (h : s ≠ s') : (s.toList == s'.toList) = false := by
  rw [ByteArray.toList_eq, ByteArray.toList_eq]
  simp
  intro e
  exact h (ByteArray.ext e)

end Go.Proofs.YtakolbijajlhkaaGreat
