/-
  above.Circle: what it returns.
  Maps keyed by uids: an entry taken (m[k] = append(m[k], x)), and stored again.
  The rows of a map of uids, each in a block of its own (above.downward): what stays, and one laid on behind a row.
  above.downward: what it returns.
  above.Below: what it returns.
-/
import Derived.Test.YtacljmckohbjaaaGreatMpEG
import Derived.Test.YtacljmckohbjaaaGreatEnEc
import Derived.Deep.AppendLies
namespace Go.Proofs.YtacljmckohbjaaaGreat
open Go.RowKit Go.Sort

def delM (M : List (U2 × Value)) (u : U2) : List (U2 × Value) :=
  match M.findIdx? fun p => decide (u = p.1) with
  | some i => M.eraseIdx i
  | none => M
def ciSp (po : Option Addr) (n pc b : Nat) (M : List (U2 × Value)) (S : U2 → List U2) (pl : List U2) (u : U2) : Nat → Value → World → Prop
  | 0, v, w => v = .map (some b) ∧ IsMap w b M
  | 1, v, _ => v = .slice po n pc
  | 2, v, w => ∃ mb m, v = .map (some mb) ∧ IsMap w mb (setM m) ∧ ReachI S pl (m, [])
  | 3, v, _ => v = .agg #[.string u.t, .string u.i]
  | 4, v, _ => ∃ z, v = .bool z ∧ (z = true ↔ ∃ f ∈ pl, Way S f u)
  | _ + 5, _, _ => True
end Go.Proofs.YtacljmckohbjaaaGreat

namespace Go.Proofs.YtacljmckohbjaaaGreat
open Go.RowKit Go.Sort

/-- The entry at a place, by its stamp. -/
def EntryAt (w : World) (b : Nat) (M : List (U2 × Value)) (i stamp : Nat) : Prop := ∃ es clock, AtMap w b M es clock ∧ ∃ h : i < es.size, es[i].born = stamp
theorem EntryAt.turn {w w' : World} {b i stamp : Nat} {M : List (U2 × Value)} (h : EntryAt w b M i stamp) (hk : w'.heap[b]? = w.heap[b]?) : EntryAt w' b M i stamp := by
  obtain ⟨es, clock, h1, h2⟩ := h
  exact ⟨es, clock, ⟨hk.trans h1.heap, h1.rep, h1.rise, h1.old⟩, h2⟩
theorem EntryAt.map {w : World} {b i stamp : Nat} {M : List (U2 × Value)} (h : EntryAt w b M i stamp) : IsMap w b M := by
  obtain ⟨es, clock, h1, _⟩ := h
  exact ⟨es, clock, h1⟩
theorem EntryAt.lt {w : World} {b i stamp : Nat} {M : List (U2 × Value)} (h : EntryAt w b M i stamp) : i < M.length := by
  obtain ⟨es, clock, h1, h2, _⟩ := h
  have := congrArg List.length h1.rep
  simp at this
  omega
end Go.Proofs.YtacljmckohbjaaaGreat

namespace Go.Proofs.YtacljmckohbjaaaGreat
open Go.RowKit Go.Sort

/-- The row at a key; none, if there is no such key. -/
def rowM (M : List (U2 × Value)) (u : U2) : Value := gotM false (.slice none 0 0) (lookM M u)
/-- Rows by uids, each in a block of its own. -/
structure RowsR (w : World) (B : Nat) (V : U2 → Value) (S : U2 → List U2) : Prop where
  own : ∀ u, w.ownsRow B 32 2 (V u) (S u).length ((S u).map U2.cells).flatten
  apart : ∀ u x, u ≠ x → ∀ g, (V u).ownBlock = some g → (V x).ownBlock ≠ some g
theorem ownM_kept {w w' : World} {B : Nat} {T : TypeId} {z : Nat} {v : Value} {m : Nat} {xs : List Value} (h : w.ownsRow B T z v m xs) (hk : ∀ g c f, v.ownBlock = some g → w.heap[g]? = some (.cells c T f) → w'.heap[g]? = w.heap[g]?) : w'.ownsRow B T z v m xs := by
  refine ⟨h.1, h.2.imp id ?_⟩
  rintro ⟨g, cap, cur, h1, h2, h3, h4⟩
  exact ⟨g, cap, cur, h1, h2, (hk g _ _ (by rw [h1]; rfl) h3).trans h3, h4⟩
theorem RowsR.below {w w' : World} {B : Nat} {V : U2 → Value} {S : U2 → List U2} (h : RowsR w B V S) (hb : Below w.heap.size w w') : RowsR w' B V S :=
  ⟨fun u => ownM_kept (h.own u) fun g _ _ _ hg => hb.block g (Array.getElem?_eq_some_iff.1 hg).1, h.apart⟩
theorem RowsR.turn {w w' : World} {B b : Nat} {V : U2 → Value} {S : U2 → List U2} {M M' : List (U2 × Value)} (h : RowsR w B V S) (hm : IsMap w b M) (T : TurnM w w' b M') : RowsR w' B V S := by
  obtain ⟨es, clock, hm⟩ := hm
  refine ⟨fun u => ownM_kept (h.own u) fun g _ _ _ hg => T.other g (fun e => ?_), h.apart⟩
  rw [e, hm.heap] at hg
  cases hg
theorem RowsR.push {w w1 : World} {B : Nat} {V : U2 → Value} {S : U2 → List U2} (h : RowsR w B V S) (u x : U2) {g n c : Nat} (hg : w.grownBy w1 (V u).ownBlock) (hl : (V u).ownBlock = some g ∨ g = w.heap.size) (hown : w1.ownsRow B 32 2 (.slice (some ⟨g, 0, none⟩) n c) (S u ++ [x]).length ((S u ++ [x]).map U2.cells).flatten) :
    RowsR w1 B (fun y => if y = u then .slice (some ⟨g, 0, none⟩) n c else V y) (fun y => if y = u then S u ++ [x] else S y) := by
  have hlt : ∀ y k, (V y).ownBlock = some k → k < w.heap.size := fun y k hk => ((h.own y).lt k hk).2
  have hne : ∀ y, y ≠ u → (V y).ownBlock ≠ some g := fun y hy e => by
    rcases hl with hl | hl
    · exact h.apart y u hy g e hl
    · have := hlt y g e
      omega
  refine ⟨fun y => ?_, fun y z hyz k => ?_⟩
  · by_cases hy : y = u
    · simp only [if_pos hy]
      exact hown
    · simp only [if_neg hy]
      exact ownM_kept (h.own y) fun k _ _ hk _ => hg.block k (hlt y k hk) (fun e => h.apart y u hy k hk e.symm)
  · by_cases hy : y = u
    · by_cases hz : z = u
      · exact absurd (hy.trans hz.symm) hyz
      · simp only [if_pos hy, if_neg hz]
        intro hk e
        have : g = k := by simpa [Value.ownBlock] using hk
        subst this
        exact hne z hz e
    · by_cases hz : z = u
      · simp only [if_neg hy, if_pos hz]
        intro hk e
        have : g = k := by simpa [Value.ownBlock] using e
        subst this
        exact hne y hy hk
      · simp only [if_neg hy, if_neg hz]
        exact h.apart y z hyz k
/-- The map's block is not one of the rows'. -/
theorem RowsR.map {w w1 : World} {B b : Nat} {V : U2 → Value} {S : U2 → List U2} (h : RowsR w B V S) (u : U2) {es : Array MapEntry} {clock : Nat} (hm : w.heap[b]? = some (.map es clock)) (hg : w.grownBy w1 (V u).ownBlock) : w1.heap[b]? = w.heap[b]? := by
  refine hg.block b (Array.getElem?_eq_some_iff.1 hm).1 (fun e => ?_)
  rcases (h.own u).2 with ⟨hv, _⟩ | ⟨g, cap, cur, hv, _, hgb, _⟩
  · rw [hv] at e
    cases e
  · rw [hv] at e
    have : b = g := by simpa [Value.ownBlock] using e
    rw [this, hgb] at hm
    cases hm
theorem rowG_ownM {w : World} {B n : Nat} {T : TypeId} {v : Value} {l : List (List Value)} (hn : ∀ c ∈ l, c.length = n) (h : w.ownsRow B T n v l.length l.flatten) : ∃ ao cap, v = .slice ao l.length cap ∧ RowG w ao n l ∧ l.length ≤ cap ∧ ∀ ad, ao = some ad → ad.off = 0 ∧ B ≤ ad.block := by
  rcases h.2 with ⟨hv, h0⟩ | ⟨g, cap, cur, hv, hB, hg, hcap, _, hcs, hxs⟩
  · exact ⟨none, 0, by rw [hv, h0], fun j hj => by omega, by omega, fun _ e => by cases e⟩
  · refine ⟨_, cap, hv, fun j hj => ⟨g, 0, rfl, (Array.getElem?_eq_some_iff.1 hg).1, fun c u hu => ?_⟩, hcap, fun ad e => by cases e; exact ⟨rfl, hB⟩⟩
    have hc : c < n := by
      have := (List.getElem?_eq_some_iff.1 hu).1
      rwa [hn _ (List.getElem_mem hj)] at this
    rw [Lib.cell_of_heap hg, Nat.zero_add]
    rw [← flat_get l hn j c hj hc, ← hxs, List.getElem?_take] at hu
    split at hu
    · simpa using hu
    · cases hu
/-- The steps that such a map is. -/
theorem RowsR.steps {w : World} {B : Nat} {M : List (U2 × Value)} {S : U2 → List U2} (h : RowsR w B (rowM M) S) (hl : ∀ u, (S u).length ≤ 1000) : StepsR w w.heap.size M S := by
  intro u
  have ho := h.own u
  obtain ⟨ao, c, hv, hr, _, _⟩ := rowG_ownM (lenU (S u)) (by rw [List.length_map]; exact ho)
  rw [List.length_map] at hv
  exact ⟨ao, c, hv, hr, fun ad had _ => (ho.lt ad.block (by rw [show rowM M u = _ from hv, had]; rfl)).2, hl u⟩
end Go.Proofs.YtacljmckohbjaaaGreat

namespace Go.Proofs.YtacljmckohbjaaaGreat
open Go.RowKit Go.Sort

/-- One more step, from a parent down to u. -/
def stepD (u : U2) (S : U2 → List U2) (p : U2) : U2 → List U2 := fun y => if y = p then S p ++ [u] else S y
def rowD (u : U2) (S : U2 → List U2) (l : List U2) : U2 → List U2 := l.foldl (stepD u) S
def downS (L : List (U2 × List U2)) : U2 → List U2 := L.foldl (fun S q => rowD q.1 S q.2) (fun _ => [])
/-- Entities in memory: their uids and their parents. -/
def DownE (w : World) (es : List E4) (L : List (U2 × List U2)) : Prop := L.length = es.length ∧ ∀ j (hj : j < es.length) (hl : j < L.length), L[j].1 = e4uM es[j] ∧ es[j].pl = L[j].2.length ∧ RowG w es[j].po 2 (L[j].2.map U2.cells) ∧ (∀ ad, es[j].po = some ad → L[j].2 ≠ [] → ad.block < w.heap.size) ∧ L[j].2.length ≤ 1000
/-- What downward has in memory. -/
structure DownR (w : World) (B mb : Nat) (S : U2 → List U2) : Prop where
  bm : B ≤ mb
  rows : ∃ M, IsMap w mb M ∧ RowsR w B (rowM M) S
theorem DownR.below {w w' : World} {B mb : Nat} {S : U2 → List U2} (h : DownR w B mb S) (hb : Below w.heap.size w w') : DownR w' B mb S := by
  obtain ⟨M, h1, h2⟩ := h.rows
  exact ⟨h.bm, M, h1.below hb h1.lt, h2.below hb⟩
end Go.Proofs.YtacljmckohbjaaaGreat

namespace Go.Proofs.YtacljmckohbjaaaGreat
open Go.RowKit Go.Sort

def beSp (ao : Option Addr) (n cap : Nat) (S : U2 → List U2) (u : U2) : Nat → Value → World → Prop
  | 0, v, _ => v = .slice ao n cap
  | 1, v, w => ∃ b B, v = .map (some b) ∧ DownR w B b S
  | 2, v, _ => v = .agg #[.string u.t, .string u.i]
  | 3, v, w => ∃ r, v = .slice (some ⟨r, 0, none⟩) 1 1 ∧ r < w.heap.size ∧ AtE2 w r 0 u
  | 4, v, w => ∃ b m, v = .map (some b) ∧ IsMap w b (setM m) ∧ ReachI S [u] (m, [])
  | 5, v, w => ∃ b m, v = .map (some b) ∧ IsMap w b (setM m) ∧ ReachI S [u] (m, [])
  | _ + 6, _, _ => True
theorem DownE.below {w w' : World} {es : List E4} {L : List (U2 × List U2)} (h : DownE w es L) (hb : Below w.heap.size w w') : DownE w' es L := by
  refine ⟨h.1, fun j hj hl => ?_⟩
  obtain ⟨h1, h2, h3, h4, h5⟩ := h.2 j hj hl
  exact ⟨h1, h2, h3.below hb, fun ad e hne => Nat.lt_of_lt_of_le (h4 ad e hne) hb.size, h5⟩
/-- Those that are met, but u itself. -/
def belP (u : U2) (m : List U2) (es : List E4) : List U2 := (es.map e4uM).filter fun y => decide (y ≠ u) && decide (y ∈ m)
end Go.Proofs.YtacljmckohbjaaaGreat
