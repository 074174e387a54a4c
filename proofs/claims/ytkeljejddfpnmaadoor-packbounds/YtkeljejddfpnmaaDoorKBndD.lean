/-
  chancellaw7.PackBounds: the errors of messages.
-/
import Derived.Test.YtkeljejddfpnmaaDoorKBndA
import Derived.Test.YtkeljejddfpnmaaDoorPkQ
namespace Go.Proofs.YtkeljejddfpnmaaDoor
open Go.RowKit Go.Sort

theorem msg_err (m : M14) (es : List (List UInt8)) (d : List UInt8) (w : World) (h : MRows w m es d) (hl : es.length ≤ 281474976710656) : Calls Tryd.prog 18 #[m.val] w fun e w' => ∃ v, e = .returned (.tuple #[v, .int .i64 (errM m es)]) ∧ Below w.heap.size w w' := by
  by_cases he : errM m es = 0
  · rw [he]
    exact msg_ok m es d w h he
  · exact msg_bad m es d w h hl he
theorem IRow.nil (w : World) (ao : Option Addr) : IRow w ao 0 := fun j hj => absurd hj (Nat.not_lt_zero j)
theorem ERow.nil (w : World) (ao : Option Addr) : ERow w ao [] := fun j hj => absurd hj (Nat.not_lt_zero j)
theorem made_ints {w : World} {g n : Nat} {T : TypeId} {fr : Nat × Nat} (h : w.heap[g]? = some (.cells (List.replicate n (.int .i64 0)).toArray T fr)) : IRow w (some ⟨g, 0, none⟩) n := by
  intro j hj
  refine ⟨g, 0, 0, rfl, (Array.getElem?_eq_some_iff.1 h).1, ?_⟩
  rw [Lib.cell_of_heap h]
  simp [hj]
theorem made_rows {w : World} {g n : Nat} {T : TypeId} {fr : Nat × Nat} (h : w.heap[g]? = some (.cells (List.replicate n (.slice none 0 0)).toArray T fr)) : ERow w (some ⟨g, 0, none⟩) (List.replicate n []) := by
  intro j hj
  rw [List.length_replicate] at hj
  refine ⟨g, 0, none, 0, rfl, (Array.getElem?_eq_some_iff.1 h).1, ?_, .inl (by simp)⟩
  rw [Lib.cell_of_heap h]
  simp [hj]
/-- The message that the law begins with, with these lists. -/
def msg0 (tO kO eO mO dO : Option Addr) (t e m d : Nat) : M14 := ⟨0, 0, 1, 0, 0, 0, 0, 0, false, tO, t, t, kO, t, t, eO, e, e, mO, m, m, dO, d, d⟩
theorem errM0 (tO kO eO mO dO : Option Addr) (e m d : Nat) (es : List (List UInt8)) : errM (msg0 tO kO eO mO dO e e m d) es = if 64 < e ∨ 7 < m then 4 else if hasLong es = true ∨ 60000 < d then 5 else 0 := by
  unfold errM msg0
  simp only []
  rw [if_neg (by omega), if_neg (by omega)]
theorem hasLong_nil : hasLong [] = false := rfl
theorem hasLong_rep (n : Nat) : hasLong (List.replicate n []) = false := by
  unfold hasLong
  rw [List.any_eq_false]
  intro x hx
  rw [(List.mem_replicate.1 hx).2]
  simp [longE]
theorem hasLong_one (n : Nat) : hasLong [List.replicate n 0] = decide (700 < n) := by
  simp [hasLong, longE]
end Go.Proofs.YtkeljejddfpnmaaDoor
