/-
  strings.Clone, lex.nameOf, longOf, strOf, signOf: what they return.
-/
import Derived.Test.YtlakgnnjokienaaGreatDoorLexA
import Derived.Test.YtlakgnnjokienaaGreatDoorReadX
import Derived.Test.YtlakgnnjokienaaGreatDoorNParseW
import Derived.Laws.Rows
namespace Go.Proofs.YtlakgnnjokienaaGreatDoor
open Go.RowKit

/-- A token as the program holds it: its four fields. -/
def Tk.val (t : Tk) (p : Int) : Value := .agg #[.int .i64 t.k, .string ⟨t.s.toArray⟩, .int .i64 t.n, .int .i64 p]
def Tk.ret (t : Tk) : Value := .tuple #[t.val 0, .int .i64 t.z, .int .i64 t.e]

theorem new1 (w : World) (o : Obj) : Below w.heap.size w (w.alloc o) := (Below.refl _ w).alloc (Nat.le_refl _) o
theorem set4_below {B b : Nat} {a w : World} (h : Below B a w) (hb : B ≤ b) (v0 v1 v2 v3 : Value) :
    Below B a ((((w.setCell ⟨b, 0, none⟩ v0).setCell ⟨b, 1, none⟩ v1).setCell ⟨b, 2, none⟩ v2).setCell ⟨b, 3, none⟩ v3) :=
  (((h.setCell (p := ⟨b, 0, none⟩) hb _).setCell (p := ⟨b, 1, none⟩) hb _).setCell (p := ⟨b, 2, none⟩) hb _).setCell (p := ⟨b, 3, none⟩) hb _

/-- The cells that a function's answer lies in, and that they may be written. -/
structure Cell4 (w : World) (b : Nat) : Prop where
  c : ∀ o, o < 4 → ∃ v, w.cell? ⟨b, o, none⟩ = some v
  f : ∀ o, w.frozen? ⟨b, o, none⟩ = false

theorem clone_any (s : ByteArray) (w : World) (hs : s.size ≤ 1099511627776) : Calls Tryz.prog 53 #[.string s] w fun e w' => e = .returned (.string s) ∧ Below w.heap.size w w' := by
  have C := fun w => Tryz.stringslite_Clone s w (by omega)
  go_enter Tryz.func53, Tryz.ntmps53
  go_wp2_with fail
  refine (C _).mono ?_
  rintro e w1 ⟨rfl, b1⟩
  go_wp2
  go_ret
  exact ⟨rfl, b1⟩

set_option maxHeartbeats 1000000 in
set_option maxRecDepth 1000000 in
theorem nameOf_any (s : ByteArray) (w : World) (hs : s.size ≤ 1099511627776) :
    Calls Tryz.prog 44 #[.string s] w fun e w' => e = .returned (nameT s.data.toList).ret ∧ Below w.heap.size w w' := by
  have C := fun w => clone_any s w hs
  by_cases h : 12 < s.size
  · have i1 : (12 : Int) < (s.size : Int) := by omega
    have e : nameT s.data.toList = badT 5 := if_pos (by rw [← Lib.size_eq]; exact h)
    rw [e]
    clear e
    go_enter Tryz.func44, Tryz.ntmps44
    go_wp2
    exact bodyPost_ret (v := (badT 5).ret) (by simp [results, Tryz.results44, go_sem]; rfl) rfl ⟨rfl, new1 _ _⟩
  · have i1 : ¬ (12 : Int) < (s.size : Int) := by omega
    have e : nameT s.data.toList = ⟨1, s.data.toList, 0, s.size, 0⟩ := by rw [nameT, if_neg (by rw [← Lib.size_eq]; exact h), ← Lib.size_eq]
    rw [e]
    clear e
    have b1 := new1 w (.cells #[.int .i64 0, .string ⟨#[]⟩, .int .i64 0, .int .i64 0] 70)
    go_enter Tryz.func44, Tryz.ntmps44
    go_wp2_with fail
    generalize hw1 : w.alloc _ = w1 at *
    have z1 : w1.heap.size = w.heap.size + 1 := by rw [← hw1]; simp
    refine (C _).mono ?_
    rintro e w2 ⟨rfl, b2⟩
    have hc : ∀ o, (w2.cell? ⟨w.heap.size, o, none⟩) = w1.cell? ⟨w.heap.size, o, none⟩ := fun o => b2.cell (p := ⟨w.heap.size, o, none⟩) (by show w.heap.size < _; omega)
    have hf : ∀ o, (w2.frozen? ⟨w.heap.size, o, none⟩) = w1.frozen? ⟨w.heap.size, o, none⟩ := fun o => b2.frozen (p := ⟨w.heap.size, o, none⟩) (by show w.heap.size < _; omega)
    rw [← hw1] at hc hf
    have Hw1 := hide hw1
    clear hw1
    go_wp2
    exact bodyPost_ret (v := .tuple #[.agg #[.int .i64 1, .string s, .int .i64 0, .int .i64 0], .int .i64 s.size, .int .i64 0]) (by simp [results, Tryz.results44, go_sem, hc]) rfl ⟨by rw [← ba_ofL s]; rfl, set4_below (b1.trans (b2.mono b1.size)) (Nat.le_refl _) _ _ _ _⟩
end Go.Proofs.YtlakgnnjokienaaGreatDoor
