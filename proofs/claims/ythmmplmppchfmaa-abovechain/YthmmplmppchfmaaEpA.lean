/-
  ents.placeOf: where a uid stands, or would stand.
-/
import Derived.Test.YthmmplmppchfmaaVdEn
import Derived.Test.YthmmplmppchfmaaVcEM
import Derived.Deep.QuietTactic
import Derived.BigQuiet
namespace Go.Proofs.Ythmmplmppchfmaa
open Go.RowKit Go.Sort

def U2.pv (u : U2) : PV := .uid u.t.data.toList u.i.data.toList
theorem ba_ext {a b : ByteArray} (h : a.data.toList = b.data.toList) : a = b := by
  rw [← ba_of a, ← ba_of b, h]
theorem pv_inj {u v : U2} (h : u.pv = v.pv) : u = v := by
  obtain ⟨t, i⟩ := u
  obtain ⟨t', i'⟩ := v
  unfold U2.pv at h
  simp only [PV.uid.injEq] at h
  rw [ba_ext h.1, ba_ext h.2]
theorem sto_lessU : Sto lessU where
  irr a := sto_lessP.irr _
  trans a b c := sto_lessP.trans _ _ _
  tri a b := by
    rcases sto_lessP.tri a.pv b.pv with h | h | h
    · exact .inl h
    · exact .inr (.inl (pv_inj h))
    · exact .inr (.inr h)
/-- Entities that stand by their uids. -/
def RisingE (es : List E4) : Prop := (es.map e4u).Pairwise fun a b => lessU a b = true
theorem RisingE.get {es : List E4} (h : RisingE es) {i j : Nat} (hi : i < es.length) (hj : j < es.length) (hij : i < j) : lessU (e4u es[i]) (e4u es[j]) = true := by
  have := List.pairwise_iff_getElem.1 h i j (by simpa using hi) (by simpa using hj) hij
  simpa using this
/-- Where u belongs. -/
structure CutU (es : List E4) (u : U2) (i : Nat) : Prop where
  le : i ≤ es.length
  lo : ∀ k (h : k < es.length), k < i → lessU (e4u es[k]) u = true
  hi : ∀ k (h : k < es.length), i ≤ k → lessU (e4u es[k]) u = false

/-- Is the entity at that place the one? -/
def isAt (es : List E4) (u : U2) (i : Nat) : Bool := match es[i]? with
  | some e => decide (e4u e = u)
  | none => false
end Go.Proofs.Ythmmplmppchfmaa
