/-
  pack's writer: bytes; pack.checkCmd, cmdSize, Cmd: what they return.
-/
import Derived.Test.YtkeljejddfpnmaaDoorPkJ
namespace Go.Proofs.YtkeljejddfpnmaaDoor
open Go.RowKit Go.Sort

set_option maxHeartbeats 2000000 in
theorem wbytes_any (bs : List UInt8) (ao : Option Addr) (cap : Nat) (w : World) (rb g total : Nat) (T : List UInt8) (h : WrAt w rb g total T) (hne : bs ≠ [] → ∀ x o, ao = some ⟨x, o, none⟩ → x ≠ rb ∧ x ≠ g) (hr : BRow w ao bs) (hl : bs.length ≤ 281474976710656) (ht : total ≤ 281474976710656) :
    Calls Tryd.prog 22 #[.pointer (some ⟨rb, 0, none⟩), .slice ao bs.length cap] w fun e w' => e = .returned (.tuple #[]) ∧ Keep2 rb g w w' ∧ WrAt w' rb g total (T ++ (beN 2 bs.length ++ bs)) := by
  have N := wnumber_any 2 (by decide) (bs.length : Int) w rb g total T h ht
  have P := fun w' (h' : WrAt w' rb g total (T ++ beN 2 bs.length)) hr' => put_any w' rb g total _ bs ao cap h' hr' hl ht
  go_enter Tryd.func22, Tryd.ntmps22
  go_wp2_with fail
  refine N.mono ?_
  rintro e w1 ⟨rfl, k1, h1⟩
  have hr1 : BRowN w1 g ao bs := by
    rcases hr with hr | ⟨x, o, e, hx, hc⟩
    · exact .inl hr
    · by_cases h0 : bs = []
      · exact .inl h0
      obtain ⟨n1, n2⟩ := hne h0 x o e
      exact .inr ⟨x, o, e, Nat.lt_of_lt_of_le hx k1.size, n2, fun j hj => (World.cell?_of_block (w := w) (k1.block x hx n1 n2)).trans (hc j hj)⟩
  go_wp2_with fail
  refine (P w1 h1 hr1).mono ?_
  rintro e w2 ⟨rfl, k2, h2⟩
  go_wp2
  go_end0
  exact ⟨rfl, k1.trans k2, by rw [← List.append_assoc]; exact h2⟩

/-- A text as new bytes. -/
theorem bytes_run (w : World) (s : ByteArray) : ∃ (cap : Nat) (w' : World), (convert 9 24 (.string s)).run Tryd.prog w = .ok (.slice (some ⟨w.heap.size, 0, none⟩) s.size cap) w' ∧ s.size ≤ cap ∧ BRow w' (some ⟨w.heap.size, 0, none⟩) s.data.toList ∧ Below w.heap.size w w' := by
  refine ⟨_, _, run_bytes_of_string w 9 24 5 s Tryd.underlying9 Tryd.underlying24 Tryd.underlying5, ?_, ?_, ?_⟩
  · exact grownCap_ge w s.size 0 5
  · refine .inr ⟨w.heap.size, 0, rfl, by simp, fun j hj => ?_⟩
    have hh := alloc_heap w.drew (.cells (bytesRow s (grownCap w s.size 0 5)) 5 ((bytesRow s (grownCap w s.size 0 5)).size, (bytesRow s (grownCap w s.size 0 5)).size + 1))
    rw [show w.drew.heap.size = w.heap.size from rfl] at hh
    rw [Lib.cell_of_heap hh, bytesRow, Nat.zero_add, Array.getElem?_append_left (by simpa using hj)]
    simp at hj
    simp [hj]
  · exact (Below.refl _ w).drew.alloc (Nat.le_refl _) _

/-! ## Commands. -/

structure C5 where
  cl : Int
  sq : Int
  kd : Int
  nm : ByteArray
  tx : ByteArray
def C5.val (c : C5) : Value := .agg #[.int .i64 c.cl, .int .i64 c.sq, .int .i64 c.kd, .string c.nm, .string c.tx]
def C5.obj (c : C5) : Obj := .cells #[.int .i64 c.cl, .int .i64 c.sq, .int .i64 c.kd, .string c.nm, .string c.tx] 23 (0, 0)
def errC (c : C5) : Int := if c.kd < 1 ∨ 5 < c.kd then 3 else if c.cl < 1 ∨ 8 < c.cl ∨ c.sq < 1 then 1 else if 12 < c.nm.size ∨ 600 < c.tx.size then 5 else 0
def textB (s : ByteArray) : List UInt8 := beN 2 s.size ++ s.data.toList
def cmdB (c : C5) : List UInt8 := beN 1 c.cl ++ (beN 8 c.sq ++ (beN 1 c.kd ++ (textB c.nm ++ textB c.tx)))
theorem textB_len (s : ByteArray) : (textB s).length = s.size + 2 := by rw [textB, List.length_append, beN_len, Lib.size_eq]; omega
theorem cmdB_len (c : C5) : (cmdB c).length = 14 + c.nm.size + c.tx.size := by
  simp only [cmdB, List.length_append, beN_len, textB_len]
  omega
theorem blk5 {w : World} {b : Nat} {v0 v1 v2 v3 v4 : Value} {T : TypeId} (h : w.heap[b]? = some (.cells #[v0, v1, v2, v3, v4] T (0, 0))) :
    w.cell? ⟨b, 0, none⟩ = some v0 ∧ w.cell? ⟨b, 1, none⟩ = some v1 ∧ w.cell? ⟨b, 2, none⟩ = some v2 ∧ w.cell? ⟨b, 3, none⟩ = some v3 ∧ w.cell? ⟨b, 4, none⟩ = some v4 ∧ ∀ o, w.frozen? ⟨b, o, none⟩ = false :=
  ⟨by rw [Lib.cell_of_heap h]; rfl, by rw [Lib.cell_of_heap h]; rfl, by rw [Lib.cell_of_heap h]; rfl, by rw [Lib.cell_of_heap h]; rfl, by rw [Lib.cell_of_heap h]; rfl, fun o => Lib.frozen_of_heap h o⟩

set_option maxHeartbeats 4000000 in
theorem checkCmd_any (c : C5) (w : World) : Calls Tryd.prog 19 #[c.val] w fun e w' => e = .returned (.int .i64 (errC c)) ∧ Below w.heap.size w w' := by
  unfold C5.val
  go_enter Tryd.func19, Tryd.ntmps19
  go_wp2
  all_goals
    go_ret
    refine ⟨ret_int ?_, new1 _ _⟩
    unfold errC
    repeat' split
    all_goals omega
set_option maxHeartbeats 4000000 in
theorem rwrong_any (c : C5) (w : World) : Calls Tryd.prog 23 #[c.val] w fun e w' => e = .returned (.int .i64 (errC c)) ∧ Below w.heap.size w w' := by
  unfold C5.val
  go_enter Tryd.func23, Tryd.ntmps23
  go_wp2
  all_goals
    go_ret
    refine ⟨ret_int ?_, new1 _ _⟩
    unfold errC
    repeat' split
    all_goals omega
theorem cmdSize_any (c : C5) (hn : c.nm.size ≤ 12) (ht : c.tx.size ≤ 600) (w : World) : Calls Tryd.prog 20 #[c.val] w fun e w' => e = .returned (.int .i64 ((14 + c.nm.size + c.tx.size : Nat) : Int)) ∧ Below w.heap.size w w' := by
  unfold C5.val
  go_enter Tryd.func20, Tryd.ntmps20
  go_wp2
  go_ret
  refine ⟨ret_int ?_, new1 _ _⟩
  omega
end Go.Proofs.YtkeljejddfpnmaaDoor
