/-
  ents.Put: plain, and rows cut (no walk in it).
  ents.Put: what it returns.
  ents.Get: what it returns.
  chancellaw8.known: what it returns.
  chancellaw8.letter; rows that are owned; what rows of letters are told.
-/
import Derived.Test.YthmmplmppchfmaaEcCF
import Derived.Test.YthmmplmppchfmaaEpA
import Derived.Test.YthmmplmppchfmaaVdEn
namespace Go.Proofs.Ythmmplmppchfmaa
open Go.RowKit Go.Sort

/-- Entities that stand by their uids, as plain data. -/
def RisingP (ps : List EntP) : Prop := (ps.map EntP.u).Pairwise fun a b => lessU a b = true
/-- One more, in its place. -/
def putP (ps : List EntP) (p : EntP) : List EntP := ps.filter (fun q => lessU q.u p.u) ++ p :: ps.filter (fun q => lessU p.u q.u)
theorem allEnt_u {w : World} {P : Nat → Prop} {es : List E4} {ps : List EntP} (h : AllEnt w P es ps) : es.map e4u = ps.map EntP.u := by
  apply List.ext_getElem
  · simpa using h.1
  · intro i h1 h2
    simp only [List.getElem_map]
    exact (h.2 i (by simpa using h1) (by simpa using h2)).u
theorem rising_of {w : World} {P : Nat → Prop} {es : List E4} {ps : List EntP} (h : AllEnt w P es ps) (hr : RisingP ps) : RisingE es := by
  unfold RisingE
  rw [allEnt_u h]
  exact hr
theorem allEnt_take {w : World} {P : Nat → Prop} {es : List E4} {ps : List EntP} (h : AllEnt w P es ps) (k : Nat) : AllEnt w P (es.take k) (ps.take k) :=
  ⟨by rw [List.length_take, List.length_take, h.1], fun j h1 h2 => by
    rw [List.getElem_take, List.getElem_take]
    exact h.2 j (by rw [List.length_take] at h1; omega) (by rw [List.length_take] at h2; omega)⟩
theorem allEnt_drop {w : World} {P : Nat → Prop} {es : List E4} {ps : List EntP} (h : AllEnt w P es ps) (k : Nat) : AllEnt w P (es.drop k) (ps.drop k) :=
  ⟨by rw [List.length_drop, List.length_drop, h.1], fun j h1 h2 => by
    rw [List.getElem_drop, List.getElem_drop]
    exact h.2 (k + j) (by rw [List.length_drop] at h1; omega) (by rw [List.length_drop] at h2; omega)⟩
theorem allEnt_append {w : World} {P : Nat → Prop} {es es' : List E4} {ps ps' : List EntP} (h : AllEnt w P es ps) (h' : AllEnt w P es' ps') : AllEnt w P (es ++ es') (ps ++ ps') :=
  ⟨by rw [List.length_append, List.length_append, h.1, h'.1], fun j h1 h2 => by
    have hl := h.1
    rcases Nat.lt_or_ge j es.length with hj | hj
    · rw [List.getElem_append_left hj, List.getElem_append_left (by omega)]
      exact h.2 j hj (by omega)
    · rw [List.getElem_append_right hj, List.getElem_append_right (by omega)]
      have h3 : j - es.length < es'.length := by rw [List.length_append] at h1; omega
      have h4 : j - ps.length < ps'.length := by rw [List.length_append] at h2; omega
      have := h'.2 (j - es.length) h3 (by omega)
      simp only [hl] at this ⊢
      exact this⟩
theorem allEnt_one {w : World} {P : Nat → Prop} {e : E4} {p : EntP} (h : IsEnt w P e p) : AllEnt w P [e] [p] :=
  ⟨rfl, fun j h1 _ => by
    obtain rfl : j = 0 := by simp at h1; omega
    exact h⟩
/-- The place of a uid, told by what stands ahead and behind. -/
theorem cut_parts {ps : List EntP} {u : U2} {i : Nat} (hr : RisingP ps) (hle : i ≤ ps.length) (hlo : ∀ k (h : k < ps.length), k < i → lessU ps[k].u u = true) (hhi : ∀ k (h : k < ps.length), i ≤ k → lessU ps[k].u u = false) :
    ps.filter (fun q => lessU q.u u) = ps.take i ∧ ps.filter (fun q => lessU u q.u) = ps.drop (if (∃ h : i < ps.length, ps[i].u = u) then i + 1 else i) := by
  have hsplit : ps = ps.take i ++ ps.drop i := (List.take_append_drop i ps).symm
  have ht : ∀ q ∈ ps.take i, lessU q.u u = true := fun q hq => by
    obtain ⟨k, hk, rfl⟩ := List.getElem_of_mem hq
    rw [List.getElem_take]
    rw [List.length_take] at hk
    exact hlo k (by omega) (by omega)
  have hd : ∀ q ∈ ps.drop i, lessU q.u u = false := fun q hq => by
    obtain ⟨k, hk, rfl⟩ := List.getElem_of_mem hq
    rw [List.getElem_drop]
    rw [List.length_drop] at hk
    exact hhi (i + k) (by omega) (by omega)
  have asym : ∀ a b, lessU a b = true → lessU b a = false := fun a b h => by
    cases h2 : lessU b a
    · rfl
    · have := sto_lessU.trans _ _ _ h h2
      rw [sto_lessU.irr] at this
      cases this
  constructor
  · conv => lhs; rw [hsplit]
    rw [List.filter_append, List.filter_eq_self.2 ht, List.filter_eq_nil_iff.2 (fun q hq => by rw [hd q hq]; decide), List.append_nil]
  · conv => lhs; rw [hsplit]
    rw [List.filter_append, List.filter_eq_nil_iff.2 (fun q hq => by rw [asym _ _ (ht q hq)]; decide), List.nil_append]
    by_cases hx : ∃ h : i < ps.length, ps[i].u = u
    · rw [if_pos hx]
      obtain ⟨hi, hu⟩ := hx
      rw [List.drop_eq_getElem_cons hi, List.filter_cons, if_neg (by rw [hu, sto_lessU.irr]; decide)]
      refine List.filter_eq_self.2 fun q hq => ?_
      obtain ⟨k, hk, rfl⟩ := List.getElem_of_mem hq
      rw [List.getElem_drop]
      rw [List.length_drop] at hk
      have := List.pairwise_iff_getElem.1 hr i (i + 1 + k) (by simpa using hi) (by simp; omega) (by omega)
      simp only [List.getElem_map] at this
      rw [hu] at this
      exact this
    · rw [if_neg hx]
      refine List.filter_eq_self.2 fun q hq => ?_
      obtain ⟨k, hk, rfl⟩ := List.getElem_of_mem hq
      rw [List.getElem_drop]
      rw [List.length_drop] at hk
      rcases sto_lessU.tri u ps[i + k].u with h | h | h
      · exact h
      · exfalso
        by_cases hk0 : k = 0
        · subst hk0
          exact hx ⟨by omega, h.symm⟩
        · have h1 := List.pairwise_iff_getElem.1 hr i (i + k) (by simp; omega) (by simp; omega) (by omega)
          simp only [List.getElem_map] at h1
          rw [← h] at h1
          have := hhi i (by omega) (Nat.le_refl _)
          rw [h1] at this
          cases this
      · have := hhi (i + k) (by omega) (by omega)
        rw [h] at this
        cases this

theorem rowG_take {w : World} {ao : Option Addr} {n : Nat} {l : List (List Value)} (h : RowG w ao n l) (k : Nat) : RowG w ao n (l.take k) := fun j hj => by
  rw [List.length_take] at hj
  obtain ⟨b, off, e, hb, hc⟩ := h j (by omega)
  exact ⟨b, off, e, hb, fun c v hv => hc c v (by rwa [List.getElem_take] at hv)⟩
theorem rowG_drop {w : World} {ao : Option Addr} {n : Nat} {l : List (List Value)} (h : RowG w ao n l) (k cap : Nat) (hc : l.length ≤ cap) : RowG w (if cap = k then ao else ao.map (·.add (k * n))) n (l.drop k) := fun j hj => by
  rw [List.length_drop] at hj
  obtain ⟨b, off, e, hb, hcell⟩ := h (k + j) (by omega)
  rw [if_neg (by omega), e]
  refine ⟨b, off + k * n, ?_, hb, fun c v hv => ?_⟩
  · simp [Addr.add_lit]
  · rw [List.getElem_drop] at hv
    have := hcell c v hv
    rw [Nat.add_mul] at this
    rw [show off + k * n + j * n + c = off + (k * n + j * n) + c by omega]
    exact this

/-- What each slot of the region holds. -/
def eputSp (ao bo : Option Addr) (n cap i nb cb : Nat) (e : E4) : Nat → Value → World → Prop
  | 0, v, _ => v = .slice ao n cap
  | 1, v, _ => v = .int .i64 i
  | 2, v, _ => v = .slice ao i cap
  | 3, v, _ => v = .agg #[.string e.t, .string e.i, .slice e.po e.pl e.pc, .slice e.ao e.al e.ac]
  | 4, v, w => ∃ b, v = .slice (some ⟨b, 0, none⟩) 1 1 ∧ b < w.heap.size ∧ AtE4 w b 0 e
  | 5, v, _ => v = .slice bo nb cb
  | _ + 6, _, _ => True
theorem eputSp_up {ao bo : Option Addr} {n cap i nb cb : Nat} {e : E4} {w w' : World} (hb : Below w.heap.size w w') : ∀ j u, eputSp ao bo n cap i nb cb e j u w → eputSp ao bo n cap i nb cb e j u w'
  | 0, _, h | 1, _, h | 2, _, h | 3, _, h | 5, _, h => h
  | 4, _, ⟨b, e1, h1, h2⟩ => ⟨b, e1, Nat.lt_of_lt_of_le h1 hb.size, h2.below hb h1⟩
  | _ + 6, _, _ => trivial

end Go.Proofs.Ythmmplmppchfmaa

namespace Go.Proofs.Ythmmplmppchfmaa
open Go.RowKit Go.Sort

end Go.Proofs.Ythmmplmppchfmaa

namespace Go.Proofs.Ythmmplmppchfmaa
open Go.RowKit Go.Sort

def getP (l : List (ByteArray × GV)) (nm : ByteArray) : Option (ByteArray × GV) := l.find? fun a => decide (a.1 = nm)
/-- What is told of an attribute. -/
def GetPost (B : Nat) (o : Option (ByteArray × GV)) (x : Ending) (w' : World) : Prop :=
  match o with
  | some a => ∃ R : R7, x = .returned (.tuple #[R.val, .bool true]) ∧ IsGP w' (fun b => B ≤ b) a.2 R
  | none => x = .returned (.tuple #[zero7.val, .bool false])

end Go.Proofs.Ythmmplmppchfmaa

namespace Go.Proofs.Ythmmplmppchfmaa
open Go.RowKit Go.Sort

theorem isEnt_bare (w : World) (P : Nat → Prop) (u : U2) : IsEnt w P ⟨u.t, u.i, none, 0, 0, none, 0, 0⟩ ⟨u, [], []⟩ :=
  ⟨rfl, rfl, rowG_nil _ _ _, fun _ e => (by cases e), [], rfl, rowG_nil _ _ _, fun _ e => (by cases e), rfl, fun _ h => absurd h (Nat.not_lt_zero _)⟩
theorem fits_bare (u : U2) : EntP.fits ⟨u, [], []⟩ := ⟨Nat.zero_le _, Nat.zero_le _, fun _ h => by cases h⟩

def uA : U2 := ⟨⟨#[65]⟩, ⟨#[]⟩⟩
theorem chk_uA : chk2 uA = 0 := by decide
end Go.Proofs.Ythmmplmppchfmaa

namespace Go.Proofs.Ythmmplmppchfmaa
open Go.RowKit Go.Sort

def letS (k : Nat) : ByteArray := ⟨#[UInt8.ofNat (97 + k)]⟩
theorem rowG_own {w : World} {B n : Nat} {T : TypeId} {v : Value} {l : List (List Value)} (hn : ∀ c ∈ l, c.length = n) (h : w.ownsRow B T n v l.length l.flatten) : ∃ ao cap, v = .slice ao l.length cap ∧ RowG w ao n l ∧ l.length ≤ cap ∧ ∀ ad, ao = some ad → ad.off = 0 ∧ B ≤ ad.block := by
  rcases h.2 with ⟨hv, h0⟩ | ⟨g, cap, cur, hv, hB, hg, hcap, _, hcs, hxs⟩
  · exact ⟨none, 0, by rw [hv, h0], fun j hj => by omega, by omega, fun _ e => by cases e⟩
  · refine ⟨_, cap, hv, fun j hj => ⟨g, 0, rfl, (Array.getElem?_eq_some_iff.1 hg).1, fun c u hu => ?_⟩, hcap, fun ad e => by cases e; exact ⟨rfl, hB⟩⟩
    have hc : c < n := by
      have := (List.getElem?_eq_some_iff.1 hu).1
      rwa [hn _ (List.getElem_mem hj)] at this
    rw [Lib.cell_of_heap hg, Nat.zero_add]
    rw [← flat_get l hn j c hj hc, ← hxs, List.getElem?_take] at hu
    split at hu
    · simpa using hu
    · cases hu

/-! ## Rows in order, each of which may be. -/

section
variable {α : Type} {chk : α → Int} {less : α → α → Bool}
theorem rowGo_ok : ∀ (l : List α) (prev : Option α), (∀ e ∈ l, chk e = 0) → (∀ p, prev = some p → ∀ e ∈ l, less p e = true) → l.Pairwise (fun a b => less a b = true) → rowGo chk less prev l = 0
  | [], prev, _, _, _ => by cases prev <;> rfl
  | e :: t, prev, h1, h2, h3 => by
    have h3' := List.pairwise_cons.1 h3
    have hp : prevO less prev e = true := by
      cases prev with
      | none => rfl
      | some p => exact h2 p rfl e List.mem_cons_self
    rw [rowGo_cons, if_neg (fun h => h (h1 e List.mem_cons_self)), if_neg (by rw [hp]; decide)]
    exact rowGo_ok t (some e) (fun x hx => h1 x (List.mem_cons_of_mem _ hx)) (fun p hp x hx => by cases hp; exact h3'.1 x hx) h3'.2
theorem rowE_ok (most : Nat) (l : List α) (h1 : ∀ e ∈ l, chk e = 0) (h3 : l.Pairwise (fun a b => less a b = true)) : rowE chk less most l = if most < l.length then 4 else 0 := by
  unfold rowE
  rw [rowGo_ok l none h1 (fun _ h => by cases h) h3]
end

theorem rowE_one {α : Type} (chk : α → Int) (less : α → α → Bool) (n : Nat) (e : α) : rowE chk less (n + 1) [e] = chk e := by
  unfold rowE
  rw [if_neg (by simp), rowGo_cons]
  by_cases h : chk e = 0
  · rw [if_neg (fun hn => hn h), h]
    rfl
  · rw [if_pos h]

/-- Uids by letters. -/
def uL (k : Nat) : U2 := ⟨⟨#[84]⟩, letS k⟩
def uLs (n : Nat) : List U2 := (List.range n).map uL
theorem chk_uL : ∀ k, k < 20 → chk2 (uL k) = 0 := by decide
theorem less_uL : ∀ a, a < 20 → ∀ b, b < 20 → a < b → lessU (uL a) (uL b) = true := by decide
theorem uLs_pair (n : Nat) (hn : n ≤ 20) : (uLs n).Pairwise fun a b => lessU a b = true := by
  unfold uLs
  refine List.pairwise_map.2 (List.pairwise_iff_getElem.2 fun i j hi hj hij => ?_)
  simp only [List.getElem_range]
  simp only [List.length_range] at hi hj
  exact less_uL i (by omega) j (by omega) hij
theorem small_uL (k : Nat) : small2 (uL k) := ⟨by show 1 ≤ _; decide, by show 1 ≤ _; decide⟩
theorem uLs_succ (n : Nat) : uLs (n + 1) = uLs n ++ [uL n] := by simp [uLs, List.range_succ]
theorem uLs_len (n : Nat) : (uLs n).length = n := by simp [uLs]
/-- Entities by letters. -/
def eL (k : Nat) : E4 := ⟨⟨#[84]⟩, letS k, none, 0, 0, none, 0, 0⟩
def eLs (n : Nat) : List E4 := (List.range n).map eL
theorem eLs_succ (n : Nat) : eLs (n + 1) = eLs n ++ [eL n] := by simp [eLs, List.range_succ]
theorem eLs_len (n : Nat) : (eLs n).length = n := by simp [eLs]
theorem eLs_told (n : Nat) (hn : n ≤ 20) : rowE (fun _ => (0 : Int)) lessE 16 (eLs n) = if 16 < n then 4 else 0 := by
  rw [rowE_ok 16 (eLs n) (fun _ _ => rfl) ?_, eLs_len]
  have := uLs_pair n hn
  unfold uLs at this
  unfold eLs
  exact List.pairwise_map.2 (List.pairwise_map.1 this)
end Go.Proofs.Ythmmplmppchfmaa
