/-
  value.checkText: what it returns.
  value.checkUid: what it returns.
  value.hasMore.
  value.contentOf of any value; value.Check, out of its parts.
  value.Check of any value that is no set.
  ents.checkUid, checkAttr, lessEntity, lessAttr; value.LessUid; cmp.Or of three: what they return.
  ents.checkRow of uids, attributes, entities: what it returns.
  ents.checkEntity, ents.Check: what they return.
-/
import Derived.Test.YthmmplmppchfmaaRunAll
import Derived.Test.YthmmplmppchfmaaVcEM
import Derived.Test.YthmmplmppchfmaaEnEc
import Derived.Deep.QuietTactic
import Derived.BigQuiet
import Derived.Test.YthmmplmppchfmaaVeK
import Derived.Deep.Cut
namespace Go.Proofs.Ythmmplmppchfmaa
open Go.RowKit

/-- What a text is told by Check: none, too long, or good. -/
def chkT (l : List UInt8) : Int := if okL l then (if 30 < (runes l).length then 5 else 0) else 11

end Go.Proofs.Ythmmplmppchfmaa

namespace Go.Proofs.Ythmmplmppchfmaa
open Go.RowKit

/-- What a uid is told by Check. -/
def chkU (t i : List UInt8) : Int := if nameB t then chkT i else 15

end Go.Proofs.Ythmmplmppchfmaa

namespace Go.Proofs.Ythmmplmppchfmaa
open Go.RowKit Go.Sort

/-- Have two values, kinds aside, the same in all fields (the list's length for the list)? -/
def SameF (r r' : R7) : Prop := r.b = r'.b ∧ r.n = r'.n ∧ r.s = r'.s ∧ r.t = r'.t ∧ r.i = r'.i ∧ r.ll = r'.ll

end Go.Proofs.Ythmmplmppchfmaa

namespace Go.Proofs.Ythmmplmppchfmaa
open Go.RowKit Go.Sort

end Go.Proofs.Ythmmplmppchfmaa

namespace Go.Proofs.Ythmmplmppchfmaa
open Go.RowKit Go.Sort

instance (r r' : R7) : Decidable (SameF r r') := by unfold SameF; infer_instance

/-- The value with nothing in the fields of other kinds. -/
def bareR (r : R7) : R7 := ⟨r.k, if r.k = 1 then r.b else false, if r.k = 2 then r.n else 0, if r.k = 3 then r.s else ba [], if r.k = 4 then r.t else ba [], if r.k = 4 then r.i else ba [], if r.k = 5 then r.lo else none, if r.k = 5 then r.ll else 0, if r.k = 5 then r.lc else 0⟩
def moreB (r : R7) : Bool := decide (¬ SameF r (bareR r))
def chkFlat (r : R7) : Int :=
  if r.k < 1 ∨ 5 < r.k then 3 else if moreB r then 1 else if r.k = 3 then chkT r.s.data.toList else if r.k = 4 then chkU r.t.data.toList r.i.data.toList else 0

theorem ba_of (s : ByteArray) : ba s.data.toList = s := rfl

end Go.Proofs.Ythmmplmppchfmaa

namespace Go.Proofs.Ythmmplmppchfmaa
open Go.RowKit Go.Sort

/-- A uid as a value. -/
def uidR (u : U2) : R7 := ⟨4, false, 0, ⟨#[]⟩, u.t, u.i, none, 0, 0⟩
def chk2 (u : U2) : Int := chkU u.t.data.toList u.i.data.toList
def lessU (a b : U2) : Bool := lessP (.uid a.t.data.toList a.i.data.toList) (.uid b.t.data.toList b.i.data.toList)
def small2 (u : U2) : Prop := u.t.size ≤ 1099511627776 ∧ u.i.size ≤ 1099511627776
theorem chk_uidR (u : U2) : chkFlat (uidR u) = chk2 u := by
  have hm : moreB (uidR u) = false := by
    unfold moreB
    rw [decide_eq_false_iff_not]
    intro h
    apply h
    unfold SameF bareR uidR
    simp [ba]
  unfold chkFlat
  rw [hm]
  rfl

set_option maxHeartbeats 1000000 in
set_option maxRecDepth 1000000 in
theorem vlessUid_any (a b : U2) (w : World) :
    Calls Try.prog 28 #[a.val, b.val] w fun e w' => e = .returned (.bool (lessU a b)) ∧ Below w.heap.size w w' := by
  have C := fun w => compareUids_any a.t.data.toList a.i.data.toList b.t.data.toList b.i.data.toList w
  rw [ba_of, ba_of, ba_of, ba_of] at C
  have HL := hide (less_cmp (.uid a.t.data.toList a.i.data.toList) (.uid b.t.data.toList b.i.data.toList))
  have e : lessU a b = lessP (.uid a.t.data.toList a.i.data.toList) (.uid b.t.data.toList b.i.data.toList) := rfl
  rw [e]
  clear e
  generalize cmpP (.uid a.t.data.toList a.i.data.toList) (.uid b.t.data.toList b.i.data.toList) = z at *
  generalize lessP (.uid a.t.data.toList a.i.data.toList) (.uid b.t.data.toList b.i.data.toList) = y at *
  unfold U2.val
  have b1 := below2 w (.cells #[.string a.t, .string a.i] 28) (.cells #[.string b.t, .string b.i] 28)
  go_enter Try.func28, Try.ntmps28
  go_wp2_with fail
  generalize World.alloc _ _ = w1 at *
  refine (C _).mono ?_
  rintro e w2 ⟨rfl, b2⟩
  go_wp2
  go_ret
  exact ⟨by rw [← unhide HL]; rfl, b1.trans (b2.mono b1.size)⟩

def e4u (e : E4) : U2 := ⟨e.t, e.i⟩
def lessE (a b : E4) : Bool := lessU (e4u a) (e4u b)
def lessN (a b : A8) : Bool := Op.bytesLess a.nm.toList b.nm.toList
/-- What an attribute is told, where its value is told z. -/
def chkA (nm : ByteArray) (z : Int) : Int := if nameB nm.data.toList then z else 15
def or3 (x y z : Int) : Int := if x ≠ 0 then x else if y ≠ 0 then y else z
end Go.Proofs.Ythmmplmppchfmaa

namespace Go.Proofs.Ythmmplmppchfmaa
open Go.RowKit Go.Sort

end Go.Proofs.Ythmmplmppchfmaa

namespace Go.Proofs.Ythmmplmppchfmaa
end Go.Proofs.Ythmmplmppchfmaa
