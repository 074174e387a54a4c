/-
  value.contentOf, cmp.Compare, the contents' compare: what they return of plain values.
-/
import Derived.Test.YtnbbimcooilmdaaGreatValW
import Derived.Lib.QuietBelow
import Derived.BigQuiet
import Derived.Deep.QuietTactic
namespace Go.Proofs.YtnbbimcooilmdaaGreat
open Go.RowKit Go.Sort

/-- What stands behind the interface. -/
def conP (p : PV) : Value :=
  match p with
  | .bool b => .iface 114 (.bool b)
  | .long n => .iface 115 (.int .i64 n)
  | .str s => .iface 116 (.string (ba s))
  | .uid t i => .iface 117 (.agg #[.string (ba t), .string (ba i)])
def conS (lv : Value) : Value := .iface 118 lv

theorem below1 (w : World) (o : Obj) : Below w.heap.size w (w.alloc o) := (Below.refl _ w).alloc (Nat.le_refl _) o

set_option maxHeartbeats 400000 in
theorem contentOf_plain (p : PV) (lv : Value) (w : World) :
    Calls Tryz.prog 66 #[valP p lv] w fun e w' => e = .returned (conP p) ∧ Below w.heap.size w w' := by
  cases p
  all_goals
    unfold valP val7 conP
    go_enter Tryz.func66, Tryz.ntmps66
    go_wp2
    go_ret
    exact ⟨rfl, below1 _ _⟩

set_option maxHeartbeats 400000 in
theorem contentOf_set (ao : Option Addr) (n c : Nat) (w : World) :
    Calls Tryz.prog 66 #[val7 5 false 0 (ba []) (ba []) (ba []) (.slice ao n c)] w fun e w' => e = .returned (conS (.slice ao n c)) ∧ Below w.heap.size w w' := by
  unfold val7 conS
  go_enter Tryz.func66, Tryz.ntmps66
  go_wp2
  go_ret
  exact ⟨rfl, below1 _ _⟩

/-- Below nought, nought, above. -/
def cmpI (a b : Int) : Int := if a < b then -1 else if b < a then 1 else 0

set_option maxHeartbeats 400000 in
theorem cmpInt_any (a b : Int) (w : World) :
    Calls Tryz.prog 94 #[.int .i64 a, .int .i64 b] w fun e w' => e = .returned (.int .i64 (cmpI a b)) ∧ w' = w := by
  rcases Int.lt_trichotomy a b with h | h | h
  · have he : cmpI a b = -1 := if_pos h
    rw [he]
    go_enter Tryz.func94, Tryz.ntmps94
    go_wp2
    go_ret
    exact ⟨rfl, rfl⟩
  · have he : cmpI a b = 0 := by unfold cmpI; rw [if_neg (by omega), if_neg (by omega)]
    rw [he]
    have h1 : ¬ a < b := by omega
    have h2 : ¬ b < a := by omega
    clear h
    go_enter Tryz.func94, Tryz.ntmps94
    go_wp2
    go_ret
    exact ⟨rfl, rfl⟩
  · have he : cmpI a b = 1 := by unfold cmpI; rw [if_neg (by omega), if_pos h]
    rw [he]
    have h1 : ¬ a < b := by omega
    go_enter Tryz.func94, Tryz.ntmps94
    go_wp2
    go_ret
    exact ⟨rfl, rfl⟩
end Go.Proofs.YtnbbimcooilmdaaGreat
