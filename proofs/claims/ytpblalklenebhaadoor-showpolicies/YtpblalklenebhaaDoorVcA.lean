/-
  value.contentOf, cmp.Compare, the contents' compare: what they return of plain values.
-/
import Derived.Test.YtpblalklenebhaaDoorValW
import Derived.Lib.QuietBelow
import Derived.BigQuiet
import Derived.Deep.QuietTactic
namespace Go.Proofs.YtpblalklenebhaaDoor
open Go.RowKit Go.Sort

/-- What stands behind the interface. -/
def conP (p : PV) : Value :=
  match p with
  | .bool b => .iface 95 (.bool b)
  | .long n => .iface 96 (.int .i64 n)
  | .str s => .iface 97 (.string (ba s))
  | .uid t i => .iface 98 (.agg #[.string (ba t), .string (ba i)])
def conS (lv : Value) : Value := .iface 99 lv

theorem below1 (w : World) (o : Obj) : Below w.heap.size w (w.alloc o) := (Below.refl _ w).alloc (Nat.le_refl _) o

set_option maxHeartbeats 400000 in
theorem contentOf_plain (p : PV) (lv : Value) (w : World) :
    Calls Tryd.prog 55 #[valP p lv] w fun e w' => e = .returned (conP p) ∧ Below w.heap.size w w' := by
  cases p
  all_goals
    unfold valP val7 conP
    go_enter Tryd.func55, Tryd.ntmps55
    go_wp2
    go_ret
    exact ⟨rfl, below1 _ _⟩

set_option maxHeartbeats 400000 in
theorem contentOf_set (ao : Option Addr) (n c : Nat) (w : World) :
    Calls Tryd.prog 55 #[val7 5 false 0 (ba []) (ba []) (ba []) (.slice ao n c)] w fun e w' => e = .returned (conS (.slice ao n c)) ∧ Below w.heap.size w w' := by
  unfold val7 conS
  go_enter Tryd.func55, Tryd.ntmps55
  go_wp2
  go_ret
  exact ⟨rfl, below1 _ _⟩

/-- Below nought, nought, above. -/
def cmpI (a b : Int) : Int := if a < b then -1 else if b < a then 1 else 0

end Go.Proofs.YtpblalklenebhaaDoor
