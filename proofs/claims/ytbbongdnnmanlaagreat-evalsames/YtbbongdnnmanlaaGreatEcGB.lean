/-
  ents.Get: what it returns.
  ents.placeOf: where a uid stands, or would stand.
  ents.Put: plain, and rows cut (no walk in it).
  ents.Find: what it returns.
-/
import Derived.Test.YtbbongdnnmanlaaGreatEcCF
import Derived.Test.YtbbongdnnmanlaaGreatVdEn
import Derived.Test.YtbbongdnnmanlaaGreatVcEM
import Derived.Deep.QuietTactic
import Derived.BigQuiet
namespace Go.Proofs.YtbbongdnnmanlaaGreat
open Go.RowKit Go.Sort

def getP (l : List (ByteArray × GV)) (nm : ByteArray) : Option (ByteArray × GV) := l.find? fun a => decide (a.1 = nm)
/-- What is told of an attribute. -/
def GetPost (B : Nat) (o : Option (ByteArray × GV)) (x : Ending) (w' : World) : Prop :=
  match o with
  | some a => ∃ R : R7, x = .returned (.tuple #[R.val, .bool true]) ∧ IsGP w' (fun b => B ≤ b) a.2 R
  | none => x = .returned (.tuple #[zero7.val, .bool false])

end Go.Proofs.YtbbongdnnmanlaaGreat

namespace Go.Proofs.YtbbongdnnmanlaaGreat
open Go.RowKit Go.Sort

def U2.pv (u : U2) : PV := .uid u.t.data.toList u.i.data.toList
theorem ba_ext {a b : ByteArray} (h : a.data.toList = b.data.toList) : a = b := by
  rw [← ba_of a, ← ba_of b, h]
theorem pv_inj {u v : U2} (h : u.pv = v.pv) : u = v := by
  obtain ⟨t, i⟩ := u
  obtain ⟨t', i'⟩ := v
  unfold U2.pv at h
  simp only [PV.uid.injEq] at h
  rw [ba_ext h.1, ba_ext h.2]
theorem sto_lessU : Sto lessU where
  irr a := sto_lessP.irr _
  trans a b c := sto_lessP.trans _ _ _
  tri a b := by
    rcases sto_lessP.tri a.pv b.pv with h | h | h
    · exact .inl h
    · exact .inr (.inl (pv_inj h))
    · exact .inr (.inr h)
/-- Entities that stand by their uids. -/
def RisingE (es : List E4) : Prop := (es.map e4u).Pairwise fun a b => lessU a b = true
theorem RisingE.get {es : List E4} (h : RisingE es) {i j : Nat} (hi : i < es.length) (hj : j < es.length) (hij : i < j) : lessU (e4u es[i]) (e4u es[j]) = true := by
  have := List.pairwise_iff_getElem.1 h i j (by simpa using hi) (by simpa using hj) hij
  simpa using this
/-- Where u belongs. -/
structure CutU (es : List E4) (u : U2) (i : Nat) : Prop where
  le : i ≤ es.length
  lo : ∀ k (h : k < es.length), k < i → lessU (e4u es[k]) u = true
  hi : ∀ k (h : k < es.length), i ≤ k → lessU (e4u es[k]) u = false

/-- Is the entity at that place the one? -/
def isAt (es : List E4) (u : U2) (i : Nat) : Bool := match es[i]? with
  | some e => decide (e4u e = u)
  | none => false
end Go.Proofs.YtbbongdnnmanlaaGreat

namespace Go.Proofs.YtbbongdnnmanlaaGreat
open Go.RowKit Go.Sort

/-- Entities that stand by their uids, as plain data. -/
def RisingP (ps : List EntP) : Prop := (ps.map EntP.u).Pairwise fun a b => lessU a b = true
/-- One more, in its place. -/
def putP (ps : List EntP) (p : EntP) : List EntP := ps.filter (fun q => lessU q.u p.u) ++ p :: ps.filter (fun q => lessU p.u q.u)
theorem allEnt_u {w : World} {P : Nat → Prop} {es : List E4} {ps : List EntP} (h : AllEnt w P es ps) : es.map e4u = ps.map EntP.u := by
  apply List.ext_getElem
  · simpa using h.1
  · intro i h1 h2
    simp only [List.getElem_map]
    exact (h.2 i (by simpa using h1) (by simpa using h2)).u
theorem rising_of {w : World} {P : Nat → Prop} {es : List E4} {ps : List EntP} (h : AllEnt w P es ps) (hr : RisingP ps) : RisingE es := by
  unfold RisingE
  rw [allEnt_u h]
  exact hr
theorem allEnt_take {w : World} {P : Nat → Prop} {es : List E4} {ps : List EntP} (h : AllEnt w P es ps) (k : Nat) : AllEnt w P (es.take k) (ps.take k) :=
  ⟨by rw [List.length_take, List.length_take, h.1], fun j h1 h2 => by
    rw [List.getElem_take, List.getElem_take]
    exact h.2 j (by rw [List.length_take] at h1; omega) (by rw [List.length_take] at h2; omega)⟩
theorem allEnt_drop {w : World} {P : Nat → Prop} {es : List E4} {ps : List EntP} (h : AllEnt w P es ps) (k : Nat) : AllEnt w P (es.drop k) (ps.drop k) :=
  ⟨by rw [List.length_drop, List.length_drop, h.1], fun j h1 h2 => by
    rw [List.getElem_drop, List.getElem_drop]
    exact h.2 (k + j) (by rw [List.length_drop] at h1; omega) (by rw [List.length_drop] at h2; omega)⟩
theorem allEnt_append {w : World} {P : Nat → Prop} {es es' : List E4} {ps ps' : List EntP} (h : AllEnt w P es ps) (h' : AllEnt w P es' ps') : AllEnt w P (es ++ es') (ps ++ ps') :=
  ⟨by rw [List.length_append, List.length_append, h.1, h'.1], fun j h1 h2 => by
    have hl := h.1
    rcases Nat.lt_or_ge j es.length with hj | hj
    · rw [List.getElem_append_left hj, List.getElem_append_left (by omega)]
      exact h.2 j hj (by omega)
    · rw [List.getElem_append_right hj, List.getElem_append_right (by omega)]
      have h3 : j - es.length < es'.length := by rw [List.length_append] at h1; omega
      have h4 : j - ps.length < ps'.length := by rw [List.length_append] at h2; omega
      have := h'.2 (j - es.length) h3 (by omega)
      simp only [hl] at this ⊢
      exact this⟩
theorem allEnt_one {w : World} {P : Nat → Prop} {e : E4} {p : EntP} (h : IsEnt w P e p) : AllEnt w P [e] [p] :=
  ⟨rfl, fun j h1 _ => by
    obtain rfl : j = 0 := by simp at h1; omega
    exact h⟩
/-- The place of a uid, told by what stands ahead and behind. -/
theorem cut_parts {ps : List EntP} {u : U2} {i : Nat} (hr : RisingP ps) (hle : i ≤ ps.length) (hlo : ∀ k (h : k < ps.length), k < i → lessU ps[k].u u = true) (hhi : ∀ k (h : k < ps.length), i ≤ k → lessU ps[k].u u = false) :
    ps.filter (fun q => lessU q.u u) = ps.take i ∧ ps.filter (fun q => lessU u q.u) = ps.drop (if (∃ h : i < ps.length, ps[i].u = u) then i + 1 else i) := by
  have hsplit : ps = ps.take i ++ ps.drop i := (List.take_append_drop i ps).symm
  have ht : ∀ q ∈ ps.take i, lessU q.u u = true := fun q hq => by
    obtain ⟨k, hk, rfl⟩ := List.getElem_of_mem hq
    rw [List.getElem_take]
    rw [List.length_take] at hk
    exact hlo k (by omega) (by omega)
  have hd : ∀ q ∈ ps.drop i, lessU q.u u = false := fun q hq => by
    obtain ⟨k, hk, rfl⟩ := List.getElem_of_mem hq
    rw [List.getElem_drop]
    rw [List.length_drop] at hk
    exact hhi (i + k) (by omega) (by omega)
  have asym : ∀ a b, lessU a b = true → lessU b a = false := fun a b h => by
    cases h2 : lessU b a
    · rfl
    · have := sto_lessU.trans _ _ _ h h2
      rw [sto_lessU.irr] at this
      cases this
  constructor
  · conv => lhs; rw [hsplit]
    rw [List.filter_append, List.filter_eq_self.2 ht, List.filter_eq_nil_iff.2 (fun q hq => by rw [hd q hq]; decide), List.append_nil]
  · conv => lhs; rw [hsplit]
    rw [List.filter_append, List.filter_eq_nil_iff.2 (fun q hq => by rw [asym _ _ (ht q hq)]; decide), List.nil_append]
    by_cases hx : ∃ h : i < ps.length, ps[i].u = u
    · rw [if_pos hx]
      obtain ⟨hi, hu⟩ := hx
      rw [List.drop_eq_getElem_cons hi, List.filter_cons, if_neg (by rw [hu, sto_lessU.irr]; decide)]
      refine List.filter_eq_self.2 fun q hq => ?_
      obtain ⟨k, hk, rfl⟩ := List.getElem_of_mem hq
      rw [List.getElem_drop]
      rw [List.length_drop] at hk
      have := List.pairwise_iff_getElem.1 hr i (i + 1 + k) (by simpa using hi) (by simp; omega) (by omega)
      simp only [List.getElem_map] at this
      rw [hu] at this
      exact this
    · rw [if_neg hx]
      refine List.filter_eq_self.2 fun q hq => ?_
      obtain ⟨k, hk, rfl⟩ := List.getElem_of_mem hq
      rw [List.getElem_drop]
      rw [List.length_drop] at hk
      rcases sto_lessU.tri u ps[i + k].u with h | h | h
      · exact h
      · exfalso
        by_cases hk0 : k = 0
        · subst hk0
          exact hx ⟨by omega, h.symm⟩
        · have h1 := List.pairwise_iff_getElem.1 hr i (i + k) (by simp; omega) (by simp; omega) (by omega)
          simp only [List.getElem_map] at h1
          rw [← h] at h1
          have := hhi i (by omega) (Nat.le_refl _)
          rw [h1] at this
          cases this
      · have := hhi (i + k) (by omega) (by omega)
        rw [h] at this
        cases this

theorem rowG_take {w : World} {ao : Option Addr} {n : Nat} {l : List (List Value)} (h : RowG w ao n l) (k : Nat) : RowG w ao n (l.take k) := fun j hj => by
  rw [List.length_take] at hj
  obtain ⟨b, off, e, hb, hc⟩ := h j (by omega)
  exact ⟨b, off, e, hb, fun c v hv => hc c v (by rwa [List.getElem_take] at hv)⟩
theorem rowG_drop {w : World} {ao : Option Addr} {n : Nat} {l : List (List Value)} (h : RowG w ao n l) (k cap : Nat) (hc : l.length ≤ cap) : RowG w (if cap = k then ao else ao.map (·.add (k * n))) n (l.drop k) := fun j hj => by
  rw [List.length_drop] at hj
  obtain ⟨b, off, e, hb, hcell⟩ := h (k + j) (by omega)
  rw [if_neg (by omega), e]
  refine ⟨b, off + k * n, ?_, hb, fun c v hv => ?_⟩
  · simp [Addr.add_lit]
  · rw [List.getElem_drop] at hv
    have := hcell c v hv
    rw [Nat.add_mul] at this
    rw [show off + k * n + j * n + c = off + (k * n + j * n) + c by omega]
    exact this

/-- What each slot of the region holds. -/
def eputSp (ao bo : Option Addr) (n cap i nb cb : Nat) (e : E4) : Nat → Value → World → Prop
  | 0, v, _ => v = .slice ao n cap
  | 1, v, _ => v = .int .i64 i
  | 2, v, _ => v = .slice ao i cap
  | 3, v, _ => v = .agg #[.string e.t, .string e.i, .slice e.po e.pl e.pc, .slice e.ao e.al e.ac]
  | 4, v, w => ∃ b, v = .slice (some ⟨b, 0, none⟩) 1 1 ∧ b < w.heap.size ∧ AtE4 w b 0 e
  | 5, v, _ => v = .slice bo nb cb
  | _ + 6, _, _ => True
theorem eputSp_up {ao bo : Option Addr} {n cap i nb cb : Nat} {e : E4} {w w' : World} (hb : Below w.heap.size w w') : ∀ j u, eputSp ao bo n cap i nb cb e j u w → eputSp ao bo n cap i nb cb e j u w'
  | 0, _, h | 1, _, h | 2, _, h | 3, _, h | 5, _, h => h
  | 4, _, ⟨b, e1, h1, h2⟩ => ⟨b, e1, Nat.lt_of_lt_of_le h1 hb.size, h2.below hb h1⟩
  | _ + 6, _, _ => trivial

end Go.Proofs.YtbbongdnnmanlaaGreat

namespace Go.Proofs.YtbbongdnnmanlaaGreat
open Go.RowKit Go.Sort

def findP (ps : List EntP) (u : U2) : Option EntP := ps.find? fun p => decide (p.u = u)
def zeroE : E4 := ⟨⟨#[]⟩, ⟨#[]⟩, none, 0, 0, none, 0, 0⟩
def FindPost (o : Option EntP) (x : Ending) (w' : World) : Prop :=
  match o with
  | some p => ∃ e : E4, x = .returned (.tuple #[e.val, .bool true]) ∧ IsEnt w' (fun _ => True) e p
  | none => x = .returned (.tuple #[zeroE.val, .bool false])
theorem find_at {ps : List EntP} {u : U2} {i : Nat} (hi : i < ps.length) (hu : ps[i].u = u) (hlo : ∀ k (h : k < ps.length), k < i → lessU ps[k].u u = true) : findP ps u = some ps[i] := by
  unfold findP
  rw [List.find?_eq_some_iff_getElem]
  refine ⟨by rw [hu]; simp, i, hi, rfl, fun k hk => ?_⟩
  have := hlo k (by omega) hk
  have hne : ps[k].u ≠ u := fun h => by
    rw [h, sto_lessU.irr] at this
    cases this
  simp [hne]
theorem find_no {ps : List EntP} {u : U2} {i : Nat} (hr : RisingP ps) (hlo : ∀ k (h : k < ps.length), k < i → lessU ps[k].u u = true) (hhi : ∀ k (h : k < ps.length), i ≤ k → lessU ps[k].u u = false) (hn : ∀ h : i < ps.length, ps[i].u ≠ u) : findP ps u = none := by
  unfold findP
  rw [List.find?_eq_none]
  intro p hp
  obtain ⟨k, hk, rfl⟩ := List.getElem_of_mem hp
  simp only [decide_eq_true_eq]
  intro h
  rcases Nat.lt_trichotomy k i with h1 | h1 | h1
  · have := hlo k hk h1
    rw [h, sto_lessU.irr] at this
    cases this
  · subst h1
    exact hn hk h
  · have := List.pairwise_iff_getElem.1 hr i k (by simp; omega) (by simpa using hk) h1
    simp only [List.getElem_map] at this
    rw [h] at this
    have h2 := hhi i (by omega) (Nat.le_refl _)
    rw [this] at h2
    cases h2

end Go.Proofs.YtbbongdnnmanlaaGreat
