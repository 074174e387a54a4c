/-
  Two uids held against one another.
-/
import Derived.Test.YthmmplmppchfmaaEnEc
import Derived.Test.YthmmplmppchfmaaValW
namespace Go.Proofs.Ythmmplmppchfmaa
open Go.RowKit Go.Sort

theorem toList_ba (a b : ByteArray) : a.toList = b.toList ↔ a = b := by
  constructor
  · intro h
    rw [ByteArray.toList_eq, ByteArray.toList_eq] at h
    exact ByteArray.ext (Array.toList_inj.1 h)
  · intro h
    rw [h]
set_option maxRecDepth 100000 in
theorem equalUid (a b : U2) (W : World) : (Op.equal 28 a.val b.val).run Try.prog W = .ok (decide (a = b)) W := by
  obtain ⟨a0, a1⟩ := a
  obtain ⟨b0, b1⟩ := b
  unfold Op.equal Op.maxDepth U2.val
  rw [Op.equalIn]
  simp [go_sem]
  by_cases h0 : a0 = b0 <;> by_cases h1 : a1 = b1 <;> simp [toList_ba, h0, h1]
theorem binNeqUid (a b : U2) (W : World) : (binOp .neq 28 (.agg #[.string a.t, .string a.i]) (.agg #[.string b.t, .string b.i])).run Try.prog W = .ok (.bool (!decide (a = b))) W := by
  have h := equalUid a b W
  unfold U2.val at h
  simp only [binOp, Sem.run_bind, h, Result.andThen_ok, Sem.run_pure]
theorem binEqlUid (a b : U2) (W : World) : (binOp .eql 28 (.agg #[.string a.t, .string a.i]) (.agg #[.string b.t, .string b.i])).run Try.prog W = .ok (.bool (decide (a = b))) W := by
  have h := equalUid a b W
  unfold U2.val at h
  simp only [binOp, Sem.run_bind, h, Result.andThen_ok, Sem.run_pure]
end Go.Proofs.Ythmmplmppchfmaa
