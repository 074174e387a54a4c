/-
  value.Set of plain values of one kind.
-/
import Derived.Test.YtifkkhngibjalaaVcL
namespace Go.Proofs.Ytifkkhngibjalaa
open Go.RowKit Go.Sort

/-- A set as the program holds it. -/
def setR (ao : Option Addr) (n c : Nat) : R7 := ⟨5, false, 0, ba [], ba [], ba [], ao, n, c⟩

def SetPost (l : List PV) (w : World) (e : Ending) (w' : World) : Prop :=
  Below w.heap.size w w' ∧ (((setOf lessP l).length ≤ 8 ∧ ∃ ao c, e = .returned (.tuple #[(setR ao (setOf lessP l).length c).val, .int .i64 0]) ∧ w'.ownsRow w.heap.size 38 7 (.slice ao (setOf lessP l).length c) (setOf lessP l).length (cellsOf (setOf lessP l))) ∨ (8 < (setOf lessP l).length ∧ e = .returned (.tuple #[zero7.val, .int .i64 4])))

theorem own_below {w w' : World} {base : Nat} {e : TypeId} {k : Nat} {v : Value} {n : Nat} {xs : List Value} (h : w.ownsRow base e k v n xs) (hb : Below w.heap.size w w') : w'.ownsRow base e k v n xs :=
  h.kept (row := none) ⟨hb.os, hb.tape, hb.output, hb.size, fun j hj _ => hb.block j hj⟩ (by cases v.ownBlock <;> simp)

theorem own_mono {w : World} {base base' : Nat} {e : TypeId} {k : Nat} {v : Value} {n : Nat} {xs : List Value} (h : w.ownsRow base e k v n xs) (hb : base' ≤ base) : w.ownsRow base' e k v n xs :=
  ⟨h.1, h.2.imp id fun ⟨g, cap, cur, h1, h2, h3⟩ => ⟨g, cap, cur, h1, Nat.le_trans hb h2, h3⟩⟩

theorem own_set7 {w : World} {base b : Nat} {e : TypeId} {v : Value} {n : Nat} {xs : List Value} (h : w.ownsRow base e 7 v n xs) (hb : b < base) (v0 v1 v2 v3 v4 v5 v6 : Value) :
    (((((((w.setCell ⟨b, 0, none⟩ v0).setCell ⟨b, 1, none⟩ v1).setCell ⟨b, 2, none⟩ v2).setCell ⟨b, 3, none⟩ v3).setCell ⟨b, 4, none⟩ v4).setCell ⟨b, 5, none⟩ v5).setCell ⟨b, 6, none⟩ v6).ownsRow base e 7 v n xs :=
  ownsRow_setCell_below (ownsRow_setCell_below (ownsRow_setCell_below (ownsRow_setCell_below (ownsRow_setCell_below (ownsRow_setCell_below (ownsRow_setCell_below h (a := ⟨b, 0, none⟩) hb _) (a := ⟨b, 1, none⟩) hb _) (a := ⟨b, 2, none⟩) hb _) (a := ⟨b, 3, none⟩) hb _) (a := ⟨b, 4, none⟩) hb _) (a := ⟨b, 5, none⟩) hb _) (a := ⟨b, 6, none⟩) hb _

end Go.Proofs.Ytifkkhngibjalaa
