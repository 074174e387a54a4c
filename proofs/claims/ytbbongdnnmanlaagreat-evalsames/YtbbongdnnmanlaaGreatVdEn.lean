/-
  value.checkText: what it returns.
  value.checkUid: what it returns.
  value.hasMore.
  value.contentOf of any value; value.Check, out of its parts.
  value.Check of any value that is no set.
  ents.checkUid, checkAttr, lessEntity, lessAttr; value.LessUid; cmp.Or of three: what they return.
-/
import Derived.Test.YtbbongdnnmanlaaGreatRunAll
import Derived.Test.YtbbongdnnmanlaaGreatVcEM
import Derived.Test.YtbbongdnnmanlaaGreatEnEc
namespace Go.Proofs.YtbbongdnnmanlaaGreat
open Go.RowKit

/-- What a text is told by Check: none, too long, or good. -/
def chkT (l : List UInt8) : Int := if okL l then (if 30 < (runes l).length then 5 else 0) else 11

end Go.Proofs.YtbbongdnnmanlaaGreat

namespace Go.Proofs.YtbbongdnnmanlaaGreat
open Go.RowKit

/-- What a uid is told by Check. -/
def chkU (t i : List UInt8) : Int := if nameB t then chkT i else 15

end Go.Proofs.YtbbongdnnmanlaaGreat

namespace Go.Proofs.YtbbongdnnmanlaaGreat
open Go.RowKit Go.Sort

/-- Have two values, kinds aside, the same in all fields (the list's length for the list)? -/
def SameF (r r' : R7) : Prop := r.b = r'.b ∧ r.n = r'.n ∧ r.s = r'.s ∧ r.t = r'.t ∧ r.i = r'.i ∧ r.ll = r'.ll

end Go.Proofs.YtbbongdnnmanlaaGreat

namespace Go.Proofs.YtbbongdnnmanlaaGreat
open Go.RowKit Go.Sort

set_option maxHeartbeats 2000000 in
set_option maxRecDepth 1000000 in
theorem contentOf_none (r : R7) (w : World) (h : r.k < 1 ∨ 5 < r.k) :
    Calls Tryz.prog 47 #[r.val] w fun e w' => e = .returned (.iface 134 (.agg #[])) ∧ Below w.heap.size w w' := by
  have h1 : (r.k == 1) = false := by simpa using (show ¬ r.k = 1 by omega)
  have h2 : (r.k == 2) = false := by simpa using (show ¬ r.k = 2 by omega)
  have h3 : (r.k == 3) = false := by simpa using (show ¬ r.k = 3 by omega)
  have h4 : (r.k == 4) = false := by simpa using (show ¬ r.k = 4 by omega)
  have h5 : (r.k == 5) = false := by simpa using (show ¬ r.k = 5 by omega)
  clear h
  unfold R7.val
  go_enter Tryz.func47, Tryz.ntmps47
  go_wp2
  go_ret
  exact ⟨rfl, below1 _ _⟩

set_option maxHeartbeats 2000000 in
set_option maxRecDepth 1000000 in
theorem contentOf_kind (r : R7) (T : TypeId) (x : Value) (w : World) (h : (r.k = 1 ∧ T = 129 ∧ x = .bool r.b) ∨ (r.k = 2 ∧ T = 130 ∧ x = .int .i64 r.n) ∨ (r.k = 3 ∧ T = 131 ∧ x = .string r.s) ∨ (r.k = 4 ∧ T = 132 ∧ x = .agg #[.string r.t, .string r.i]) ∨ (r.k = 5 ∧ T = 116 ∧ x = .slice r.lo r.ll r.lc)) :
    Calls Tryz.prog 47 #[r.val] w fun e w' => e = .returned (.iface T x) ∧ Below w.heap.size w w' := by
  obtain ⟨k, b, n, s, t, i, lo, ll, lc⟩ := r
  unfold R7.val
  simp only at h ⊢
  rcases h with ⟨rfl, rfl, rfl⟩ | ⟨rfl, rfl, rfl⟩ | ⟨rfl, rfl, rfl⟩ | ⟨rfl, rfl, rfl⟩ | ⟨rfl, rfl, rfl⟩
  all_goals
    go_enter Tryz.func47, Tryz.ntmps47
    go_wp2
    go_ret
    exact ⟨rfl, below1 _ _⟩

theorem ta_no (T : TypeId) (x : Value) (w : World) (h : T = 129 ∨ T = 130 ∨ T = 131 ∨ T = 132 ∨ T = 116) : (Instr.typeAssert (.iface T x) 99 134 true).run Tryz.prog w = .ok (.tuple #[.agg #[], .bool false]) w := by
  rcases h with rfl | rfl | rfl | rfl | rfl <;> kernel_rfl
theorem ta_none (w : World) : (Instr.typeAssert (.iface 134 (.agg #[])) 99 134 true).run Tryz.prog w = .ok (.tuple #[.agg #[], .bool true]) w := by kernel_rfl

end Go.Proofs.YtbbongdnnmanlaaGreat

namespace Go.Proofs.YtbbongdnnmanlaaGreat
open Go.RowKit Go.Sort

instance (r r' : R7) : Decidable (SameF r r') := by unfold SameF; infer_instance

/-- The value with nothing in the fields of other kinds. -/
def bareR (r : R7) : R7 := ⟨r.k, if r.k = 1 then r.b else false, if r.k = 2 then r.n else 0, if r.k = 3 then r.s else ba [], if r.k = 4 then r.t else ba [], if r.k = 4 then r.i else ba [], if r.k = 5 then r.lo else none, if r.k = 5 then r.ll else 0, if r.k = 5 then r.lc else 0⟩
def moreB (r : R7) : Bool := decide (¬ SameF r (bareR r))
def chkFlat (r : R7) : Int :=
  if r.k < 1 ∨ 5 < r.k then 3 else if moreB r then 1 else if r.k = 3 then chkT r.s.data.toList else if r.k = 4 then chkU r.t.data.toList r.i.data.toList else 0

theorem ba_of (s : ByteArray) : ba s.data.toList = s := rfl

end Go.Proofs.YtbbongdnnmanlaaGreat

namespace Go.Proofs.YtbbongdnnmanlaaGreat
open Go.RowKit Go.Sort

/-- A uid as a value. -/
def uidR (u : U2) : R7 := ⟨4, false, 0, ⟨#[]⟩, u.t, u.i, none, 0, 0⟩
def chk2 (u : U2) : Int := chkU u.t.data.toList u.i.data.toList
def lessU (a b : U2) : Bool := lessP (.uid a.t.data.toList a.i.data.toList) (.uid b.t.data.toList b.i.data.toList)
def small2 (u : U2) : Prop := u.t.size ≤ 1099511627776 ∧ u.i.size ≤ 1099511627776
theorem chk_uidR (u : U2) : chkFlat (uidR u) = chk2 u := by
  have hm : moreB (uidR u) = false := by
    unfold moreB
    rw [decide_eq_false_iff_not]
    intro h
    apply h
    unfold SameF bareR uidR
    simp [ba]
  unfold chkFlat
  rw [hm]
  rfl

def e4u (e : E4) : U2 := ⟨e.t, e.i⟩
def lessE (a b : E4) : Bool := lessU (e4u a) (e4u b)
def lessN (a b : A8) : Bool := Op.bytesLess a.nm.toList b.nm.toList
/-- What an attribute is told, where its value is told z. -/
def chkA (nm : ByteArray) (z : Int) : Int := if nameB nm.data.toList then z else 15
def or3 (x y z : Int) : Int := if x ≠ 0 then x else if y ≠ 0 then y else z
end Go.Proofs.YtbbongdnnmanlaaGreat
