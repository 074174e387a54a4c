/-
 chancellaw10.within, known: what they return.
-/
import Derived.Test.YtagnbpobcijakaaScBI
import Derived.Test.YtagnbpobcijakaaW5A
namespace Go.Proofs.Ytagnbpobcijakaa
open Go.RowKit Go.Sort

theorem isAs_nil (w : World) (ao : Option Addr) : IsAs w ao [] := ⟨⟨[], rfl, rowG_nil _ _ _, fun _ h => absurd h (Nat.not_lt_zero _)⟩⟩
theorem isKs_nil (w : World) (ao : Option Addr) : IsKs w ao [] := ⟨⟨[], rfl, rowG_nil _ _ _, fun _ h => absurd h (Nat.not_lt_zero _)⟩⟩
/-- A block of cells holds a row. -/
theorem rowG_block {w : World} {b : Nat} {t : TypeId} {fz : Nat × Nat} {n : Nat} {l : List (List Value)} (cs : Array Value) (h : w.heap[b]? = some (.cells cs t fz)) (hc : cs.toList = l.flatten) (hn : ∀ x ∈ l, x.length = n) : RowG w (some ⟨b, 0, none⟩) n l := by
 intro j hj
 have hbs : b < w.heap.size := (Array.getElem?_eq_some_iff.1 h).1
 refine ⟨b, 0, rfl, hbs, fun c v hv => ?_⟩
 rw [Lib.cell_of_heap h]
 have hcl : c < (l[j]).length := (List.getElem?_eq_some_iff.1 hv).1
 have key : ∀ (l : List (List Value)) (j : Nat) (hj : j < l.length), (∀ x ∈ l, x.length = n) → l.flatten[j * n + c]? = (l[j])[c]? ∨ ¬ c < (l[j]).length := fun l => by
  induction l with
  | nil => intro j hj; exact absurd hj (Nat.not_lt_zero _)
  | cons a l ih =>
   intro j hj hn
   cases j with
   | zero =>
    by_cases hc : c < a.length
    ·left
     rw [Nat.zero_mul, Nat.zero_add, List.flatten_cons, List.getElem?_append_left hc]
     rfl
    ·exact .inr hc
   | succ j =>
    have ha := hn a (List.mem_cons_self ..)
    rcases ih j (by simpa using hj) (fun x hx => hn x (List.mem_cons_of_mem _ hx)) with h | h
    ·left
     rw [List.flatten_cons, List.getElem?_append_right (by rw [ha, Nat.succ_mul]; omega), ha, show (j + 1) * n + c - n = j * n + c by rw [Nat.succ_mul]; omega]
     exact h
    ·exact .inr h
 rcases key l j hj hn with h1 | h1
 ·rw [Nat.zero_add, ← Array.getElem?_toList, hc, h1]
  exact hv
 ·exact absurd hcl h1

end Go.Proofs.Ytagnbpobcijakaa
