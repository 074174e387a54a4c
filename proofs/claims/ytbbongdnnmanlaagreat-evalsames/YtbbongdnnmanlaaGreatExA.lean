/-
  Trees in memory (no program in it).
-/
import Derived.Test.YtbbongdnnmanlaaGreatPlainAll
import Derived.Test.YtbbongdnnmanlaaGreatR7A
import Derived.Test.YtbbongdnnmanlaaGreatWorlds
namespace Go.Proofs.YtbbongdnnmanlaaGreat
open Go.RowKit

/-! ## Trees. -/

mutual
/-- The seven cells r say the tree e; what hangs on them lies in blocks of which P holds. -/
def IsE (w : World) (P : Nat → Prop) : R7 → Ex → Prop
  | r, .mk k b n s t i l => r.k = k ∧ r.b = b ∧ r.n = n ∧ r.s = ba s ∧ r.t = ba t ∧ r.i = ba i ∧ r.ll = l.length ∧ IsEs w P r.lo 0 l
def IsEs (w : World) (P : Nat → Prop) : Option Addr → Nat → List Ex → Prop
  | _, _, [] => True
  | lo, j, e :: l => (∃ r b off, lo = some ⟨b, off, none⟩ ∧ P b ∧ b < w.heap.size ∧ At7 w b (off + j * 7) r ∧ IsE w P r e) ∧ IsEs w P lo (j + 1) l
end

theorem At7.same {w w' : World} {b o : Nat} {r : R7} (h : At7 w b o r) (hb : w'.heap[b]? = w.heap[b]?) : At7 w' b o r := by
  have hc : ∀ o, w'.cell? ⟨b, o, none⟩ = w.cell? ⟨b, o, none⟩ := fun o => World.cell?_of_block (w := w) hb
  exact ⟨(hc _).trans h.c0, (hc _).trans h.c1, (hc _).trans h.c2, (hc _).trans h.c3, (hc _).trans h.c4, (hc _).trans h.c5, (hc _).trans h.c6⟩

mutual
theorem IsE.turn {w w' : World} {P P' : Nat → Prop} (hs : w.heap.size ≤ w'.heap.size) (hb : ∀ b, P b → b < w.heap.size → w'.heap[b]? = w.heap[b]? ∧ P' b) : ∀ (r : R7) (e : Ex), IsE w P r e → IsE w' P' r e
  | r, .mk _ _ _ _ _ _ l, h => by
    unfold IsE at h ⊢
    obtain ⟨h1, h2, h3, h4, h5, h6, h7, h8⟩ := h
    exact ⟨h1, h2, h3, h4, h5, h6, h7, IsEs.turn hs hb r.lo 0 l h8⟩
theorem IsEs.turn {w w' : World} {P P' : Nat → Prop} (hs : w.heap.size ≤ w'.heap.size) (hb : ∀ b, P b → b < w.heap.size → w'.heap[b]? = w.heap[b]? ∧ P' b) : ∀ (lo : Option Addr) (j : Nat) (l : List Ex), IsEs w P lo j l → IsEs w' P' lo j l
  | _, _, [], _ => by unfold IsEs; trivial
  | lo, j, e :: l, h => by
    unfold IsEs at h ⊢
    obtain ⟨⟨r, b, off, h1, h2, h3, h4, h5⟩, h6⟩ := h
    obtain ⟨k1, k2⟩ := hb b h2 h3
    exact ⟨⟨r, b, off, h1, k2, by omega, h4.same k1, IsE.turn hs hb r e h5⟩, IsEs.turn hs hb lo (j + 1) l h6⟩
end
theorem blk7 {w : World} {b : Nat} {v0 v1 v2 v3 v4 v5 v6 : Value} {T : TypeId} (h : w.heap[b]? = some (.cells #[v0, v1, v2, v3, v4, v5, v6] T (0, 0))) :
    w.cell? ⟨b, 0, none⟩ = some v0 ∧ w.cell? ⟨b, 1, none⟩ = some v1 ∧ w.cell? ⟨b, 2, none⟩ = some v2 ∧ w.cell? ⟨b, 3, none⟩ = some v3 ∧ w.cell? ⟨b, 4, none⟩ = some v4 ∧ w.cell? ⟨b, 5, none⟩ = some v5 ∧ w.cell? ⟨b, 6, none⟩ = some v6 ∧ ∀ o, w.frozen? ⟨b, o, none⟩ = false :=
  ⟨by rw [Lib.cell_of_heap h]; rfl, by rw [Lib.cell_of_heap h]; rfl, by rw [Lib.cell_of_heap h]; rfl, by rw [Lib.cell_of_heap h]; rfl, by rw [Lib.cell_of_heap h]; rfl, by rw [Lib.cell_of_heap h]; rfl, by rw [Lib.cell_of_heap h]; rfl, fun o => Lib.frozen_of_heap h o⟩
theorem IsEs.get {w : World} {P : Nat → Prop} {lo : Option Addr} : ∀ (l : List Ex) (j0 j : Nat) (hj : j < l.length), IsEs w P lo j0 l → ∃ r b off, lo = some ⟨b, off, none⟩ ∧ b < w.heap.size ∧ At7 w b (off + (j0 + j) * 7) r ∧ IsE w P r l[j]
  | [], _, j, hj, _ => by simp at hj
  | e :: l, j0, 0, _, h => by
    unfold IsEs at h
    obtain ⟨⟨r, b, off, h1, _, h3, h4, h5⟩, _⟩ := h
    exact ⟨r, b, off, h1, h3, h4, h5⟩
  | e :: l, j0, j + 1, hj, h => by
    unfold IsEs at h
    obtain ⟨r, b, off, h1, h2, h3, h4⟩ := IsEs.get l (j0 + 1) j (by simpa using hj) h.2
    exact ⟨r, b, off, h1, h2, by rw [show j0 + (j + 1) = j0 + 1 + j by omega]; exact h3, h4⟩
theorem depL_get : ∀ (l : List Ex) (j : Nat) (h : j < l.length), depE l[j] ≤ depL l
  | [], j, h => by simp at h
  | e :: l, 0, _ => by
    show depE e ≤ depL (e :: l)
    unfold depL
    exact Nat.le_max_left _ _
  | e :: l, j + 1, hj => by
    have := depL_get l j (by simpa using hj)
    show depE (l[j]'(by simpa using hj)) ≤ depL (e :: l)
    unfold depL
    exact Nat.le_trans this (Nat.le_max_right _ _)
theorem kid0 {w : World} {P : Nat → Prop} {r : R7} {k : Int} {b : Bool} {n : Int} {s t i : List UInt8} {x : Ex} {l : List Ex} (h : IsE w P r (.mk k b n s t i (x :: l))) : ∃ r' g off, r.lo = some ⟨g, off, none⟩ ∧ g < w.heap.size ∧ At7 w g off r' ∧ IsE w P r' x := by
  unfold IsE IsEs at h
  obtain ⟨_, _, _, _, _, _, _, ⟨r', g, off, h1, _, h3, h4, h5⟩, _⟩ := h
  exact ⟨r', g, off, h1, h3, by simpa using h4, h5⟩
theorem kid1 {w : World} {P : Nat → Prop} {r : R7} {k : Int} {b : Bool} {n : Int} {s t i : List UInt8} {y x : Ex} {l : List Ex} (h : IsE w P r (.mk k b n s t i (y :: x :: l))) : ∃ r' g off, r.lo = some ⟨g, off, none⟩ ∧ g < w.heap.size ∧ At7 w g (off + 7) r' ∧ IsE w P r' x := by
  unfold IsE IsEs at h
  obtain ⟨_, _, _, _, _, _, _, _, h⟩ := h
  unfold IsEs at h
  obtain ⟨⟨r', g, off, h1, _, h3, h4, h5⟩, _⟩ := h
  exact ⟨r', g, off, h1, h3, by simpa using h4, h5⟩
theorem top {w : World} {P : Nat → Prop} {r : R7} {k : Int} {b : Bool} {n : Int} {s t i : List UInt8} {l : List Ex} (h : IsE w P r (.mk k b n s t i l)) : r.k = k ∧ r.n = n ∧ r.ll = l.length := by
  unfold IsE at h
  exact ⟨h.1, h.2.2.1, h.2.2.2.2.2.2.1⟩

theorem newS (w : World) (o : Obj) : Below w.heap.size w (w.alloc o) := (Below.refl _ w).alloc (Nat.le_refl _) o
end Go.Proofs.YtbbongdnnmanlaaGreat
