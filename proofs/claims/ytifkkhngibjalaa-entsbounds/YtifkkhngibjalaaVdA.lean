/-
  value.checkUid: what it returns.
-/
import Derived.Test.YtifkkhngibjalaaVcV
namespace Go.Proofs.Ytifkkhngibjalaa
open Go.RowKit

/-- What a uid is told by Check. -/
def chkU (t i : List UInt8) : Int := if nameB t then chkT i else 15

set_option maxHeartbeats 1000000 in
set_option maxRecDepth 1000000 in
theorem checkUid_any (t i : ByteArray) (w : World) (ht : t.size ≤ 1099511627776) (hi : i.size ≤ 1099511627776) :
    Calls Try.prog 67 #[.agg #[.string t, .string i]] w fun e w' => e = .returned (.int .i64 (chkU t.data.toList i.data.toList)) ∧ Below w.heap.size w w' := by
  have N := fun w => isName_any t w ht
  have C := fun w => checkText_any i w hi
  have b1 := below1 w (.cells #[.string t, .string i] 30)
  have c1 : (w.alloc (.cells #[.string t, .string i] 30)).cell? ⟨w.heap.size, 1, none⟩ = some (.string i) := by simp
  have z1 := size1 w (.cells #[.string t, .string i] 30)
  cases hn : nameB t.data.toList with
  | true =>
    have e : chkU t.data.toList i.data.toList = chkT i.data.toList := by rw [chkU, hn]; rfl
    rw [e]
    rw [hn] at N
    clear hn e
    go_enter Try.func67, Try.ntmps67
    go_wp2_with fail
    generalize w.alloc _ = w1 at *
    refine (N _).mono ?_
    rintro e w2 ⟨rfl, b2⟩
    have c2 := (b2.cell (p := ⟨w.heap.size, 1, none⟩) (by show w.heap.size < _; omega)).trans c1
    have b02 := b1.trans (b2.mono b1.size)
    go_wp2_with fail
    refine (C _).mono ?_
    rintro e w3 ⟨rfl, b3⟩
    go_wp2
    go_ret
    exact ⟨rfl, b02.trans (b3.mono b02.size)⟩
  | false =>
    have e : chkU t.data.toList i.data.toList = 15 := by rw [chkU, hn]; rfl
    rw [e]
    rw [hn] at N
    clear hn e
    go_enter Try.func67, Try.ntmps67
    go_wp2_with fail
    generalize w.alloc _ = w1 at *
    refine (N _).mono ?_
    rintro e w2 ⟨rfl, b2⟩
    go_wp2
    go_ret
    exact ⟨rfl, b1.trans (b2.mono b1.size)⟩
end Go.Proofs.Ytifkkhngibjalaa
