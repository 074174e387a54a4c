/-
  parse's reader: names, texts, numbers, uids; what a uid begins with; node.
-/
import Derived.Test.YtlakgnnjokienaaGreatDoorPaB
namespace Go.Proofs.YtlakgnnjokienaaGreatDoor
open Go.RowKit

theorem fld0 (a b c d : Value) (W : World) : (Instr.field 70 (.agg #[a, b, c, d]) 0).run Tryz.prog W = .ok a W := by kernel_rfl
theorem fld1 (a b c d : Value) (W : World) : (Instr.field 70 (.agg #[a, b, c, d]) 1).run Tryz.prog W = .ok b W := by kernel_rfl
theorem fld2 (a b c d : Value) (W : World) : (Instr.field 70 (.agg #[a, b, c, d]) 2).run Tryz.prog W = .ok c W := by kernel_rfl

set_option maxHeartbeats 400000 in
set_option maxRecDepth 1000000 in
theorem name_any (st : St) (w : World) (rb : Nat) (h : RdAt w rb st) :
    Calls Tryz.prog 26 #[rp rb] w fun e w' => e = .returned (.string ⟨(needTok 1 st).s.toArray⟩) ∧ Keep rb w w' ∧ RdAt w' rb (needSt 1 st) := by
  have T := need_any st w rb 1 (by decide) h
  unfold tokV at T
  generalize needTok 1 st = t at *
  unfold rp at T ⊢
  have hf := fld1
  go_enter Tryz.func26, Tryz.ntmps26
  go_wp2_with fail
  refine T.mono ?_
  rintro e w1 ⟨rfl, k1, r1⟩
  go_wp2
  go_ret
  exact ⟨rfl, k1, r1⟩
set_option maxHeartbeats 400000 in
set_option maxRecDepth 1000000 in
theorem str_any (st : St) (w : World) (rb : Nat) (h : RdAt w rb st) :
    Calls Tryz.prog 28 #[rp rb] w fun e w' => e = .returned (.string ⟨(needTok 3 st).s.toArray⟩) ∧ Keep rb w w' ∧ RdAt w' rb (needSt 3 st) := by
  have T := need_any st w rb 3 (by decide) h
  unfold tokV at T
  generalize needTok 3 st = t at *
  unfold rp at T ⊢
  have hf := fld1
  go_enter Tryz.func28, Tryz.ntmps28
  go_wp2_with fail
  refine T.mono ?_
  rintro e w1 ⟨rfl, k1, r1⟩
  go_wp2
  go_ret
  exact ⟨rfl, k1, r1⟩
set_option maxHeartbeats 400000 in
set_option maxRecDepth 1000000 in
theorem long_any (st : St) (w : World) (rb : Nat) (h : RdAt w rb st) :
    Calls Tryz.prog 102 #[rp rb] w fun e w' => e = .returned (.int .i64 (needTok 2 st).n) ∧ Keep rb w w' ∧ RdAt w' rb (needSt 2 st) := by
  have T := need_any st w rb 2 (by decide) h
  unfold tokV at T
  generalize needTok 2 st = t at *
  unfold rp at T ⊢
  have hf := fld2
  go_enter Tryz.func102, Tryz.ntmps102
  go_wp2_with fail
  refine T.mono ?_
  rintro e w1 ⟨rfl, k1, r1⟩
  go_wp2
  go_ret
  exact ⟨rfl, k1, r1⟩

def atUidS (st : St) : Bool := decide ((hdS st 0).k = 1) && (decide ((hdS st 1).k = 4) && decide ((hdS st 1).s = [58, 58]))
set_option maxHeartbeats 1000000 in
set_option maxRecDepth 1000000 in
theorem atUid_any (st : St) (w : World) (rb : Nat) (h : RdAt w rb st) :
    Calls Tryz.prog 20 #[rp rb] w fun e w' => e = .returned (.bool (atUidS st)) ∧ Keep rb w w' ∧ RdAt w' rb st := by
  have P1 := peek_any st w rb 1 h
  have P0 := fun w' h' => peek_any st w' rb 0 h'
  unfold atUidS
  unfold tokV at P1 P0
  generalize hdS st 0 = t at *
  generalize hdS st 1 = u at *
  unfold rp at P1 P0 ⊢
  obtain ⟨y, hy⟩ : ∃ y : ByteArray, y = ⟨u.s.toArray⟩ := ⟨_, rfl⟩
  have hyl : u.s = y.toList := by rw [hy, ByteArray.toList_eq]
  rw [← hy] at P1
  rw [hyl]
  clear hy hyl
  have hd1 : decide (t.k = 1) = true ∨ decide (t.k = 1) = false := by cases decide (t.k = 1) <;> simp
  have hd2 : decide (u.k = 4) = true ∨ decide (u.k = 4) = false := by cases decide (u.k = 4) <;> simp
  have hd3 : (y.toList == [58, 58]) = decide (y.toList = [58, 58]) := by rw [Bool.eq_iff_iff]; simp
  have hf := fld0
  go_enter Tryz.func20, Tryz.ntmps20
  go_wp2_with fail
  refine P1.mono ?_
  rintro e w1 ⟨rfl, b1⟩
  have b2 := b1.trans ((new1 w1 (.cells #[.int .i64 u.k, .string y, .int .i64 u.n, .int .i64 u.p] 70)).mono b1.size)
  have n2 := new1 w1 (.cells #[.int .i64 u.k, .string y, .int .i64 u.n, .int .i64 u.p] 70)
  have z2 : (w1.alloc (.cells #[.int .i64 u.k, .string y, .int .i64 u.n, .int .i64 u.p] 70)).heap[w1.heap.size]? = some (.cells #[.int .i64 u.k, .string y, .int .i64 u.n, .int .i64 u.p] 70 (0, 0)) := alloc_heap _ _
  go_wp2_with fail
  refine (P0 _ (h.below b2)).mono ?_
  rintro e w3 ⟨rfl, b3⟩
  have b4 := b2.trans (b3.mono b2.size)
  obtain ⟨u0, u1, _⟩ := blk4 (kept_of_below b3 z2)
  clear z2 n2

  go_wp2
  all_goals (go_ret; exact ⟨by simp [*], .of_below b4, h.below b4⟩)
end Go.Proofs.YtlakgnnjokienaaGreatDoor
