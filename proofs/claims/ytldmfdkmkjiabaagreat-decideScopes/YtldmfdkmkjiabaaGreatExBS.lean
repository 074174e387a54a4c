/-
  Rows of trees in memory.
  Seven cells of a block set.
  Rows of trees in a block; what the operations of a region answer (no walk in it).
-/
import Derived.Test.YtldmfdkmkjiabaaGreatExA
import Derived.Maps.AppendAt
import Derived.Test.YtldmfdkmkjiabaaGreatVeMN
namespace Go.Proofs.YtldmfdkmkjiabaaGreat
open Go.RowKit

def cellsE (l : List R7) : List Value := l.flatMap R7.cells
/-- Cells and trees, one for one. -/
inductive AllE (w : World) (P : Nat → Prop) : List R7 → List Ex → Prop
  | nil : AllE w P [] []
  | snoc {rs : List R7} {xs : List Ex} {r : R7} {x : Ex} : AllE w P rs xs → IsE w P r x → AllE w P (rs ++ [r]) (xs ++ [x])
theorem AllE.turn {w w' : World} {P P' : Nat → Prop} (hs : w.heap.size ≤ w'.heap.size) (hb : ∀ b, P b → b < w.heap.size → w'.heap[b]? = w.heap[b]? ∧ P' b) {rs : List R7} {xs : List Ex} (h : AllE w P rs xs) : AllE w' P' rs xs := by
  induction h with
  | nil => exact .nil
  | snoc _ hx ih => exact .snoc ih (IsE.turn hs hb _ _ hx)
theorem AllE.len {w : World} {P : Nat → Prop} {rs : List R7} {xs : List Ex} (h : AllE w P rs xs) : rs.length = xs.length := by
  induction h with
  | nil => rfl
  | snoc _ _ ih => simp [ih]
theorem isEs_snoc {w : World} {P : Nat → Prop} {lo : Option Addr} : ∀ (xs : List Ex) (j : Nat) (x : Ex), IsEs w P lo j xs → (∃ r b off, lo = some ⟨b, off, none⟩ ∧ P b ∧ b < w.heap.size ∧ At7 w b (off + (j + xs.length) * 7) r ∧ IsE w P r x) → IsEs w P lo j (xs ++ [x])
  | [], j, x, _, h => by
    rw [List.nil_append]
    unfold IsEs
    refine ⟨by simpa using h, ?_⟩
    unfold IsEs
    trivial
  | y :: ys, j, x, h1, h2 => by
    rw [List.cons_append]
    unfold IsEs at h1 ⊢
    refine ⟨h1.1, isEs_snoc ys (j + 1) x h1.2 ?_⟩
    rw [show j + 1 + ys.length = j + (y :: ys).length by simp; omega]
    exact h2
/-- A row of trees in a block. -/
theorem AllE.row {w : World} {P : Nat → Prop} {g : Nat} {rs : List R7} {xs : List Ex} (h : AllE w P rs xs) (hP : P g) (hg : g < w.heap.size) : (∀ j (hj : j < rs.length), At7 w g (j * 7) rs[j]) → IsEs w P (some ⟨g, 0, none⟩) 0 xs := by
  induction h with
  | nil => intro _; unfold IsEs; trivial
  | @snoc rs xs r x h hx ih =>
    intro ha
    refine isEs_snoc xs 0 x (ih fun j hj => ?_) ⟨r, g, 0, rfl, hP, hg, ?_, hx⟩
    · have := ha j (by simp; omega)
      rwa [List.getElem_append_left hj] at this
    · have := ha rs.length (by simp)
      rw [List.getElem_append_right (Nat.le_refl _)] at this
      simp only [Nat.sub_self, List.getElem_cons_zero] at this
      rw [← h.len]
      simpa using this
end Go.Proofs.YtldmfdkmkjiabaaGreat

namespace Go.Proofs.YtldmfdkmkjiabaaGreat
open Go.RowKit

def set7S (w : World) (b : Nat) (v0 v1 v2 v3 v4 v5 v6 : Value) : World :=
  ((((((w.setCell ⟨b, 0, none⟩ v0).setCell ⟨b, 1, none⟩ v1).setCell ⟨b, 2, none⟩ v2).setCell ⟨b, 3, none⟩ v3).setCell ⟨b, 4, none⟩ v4).setCell ⟨b, 5, none⟩ v5).setCell ⟨b, 6, none⟩ v6
end Go.Proofs.YtldmfdkmkjiabaaGreat

namespace Go.Proofs.YtldmfdkmkjiabaaGreat
open Go.RowKit Go.Sort

abbrev PT : Nat → Prop := fun _ => True
/-- Cells and trees, one for one, from the front. -/
inductive AllX (w : World) : List R7 → List Ex → Prop
  | nil : AllX w [] []
  | cons {r : R7} {x : Ex} {rs : List R7} {xs : List Ex} : IsE w PT r x → AllX w rs xs → AllX w (r :: rs) (x :: xs)
theorem AllX.len {w : World} : ∀ {rs : List R7} {xs : List Ex}, AllX w rs xs → rs.length = xs.length
  | _, _, .nil => rfl
  | _, _, .cons _ t => by simp [t.len]
theorem AllX.get {w : World} : ∀ {rs : List R7} {xs : List Ex}, AllX w rs xs → ∀ (i : Nat) (h : i < rs.length) (h' : i < xs.length), IsE w PT rs[i] xs[i]
  | _, _, .nil, i, h, _ => absurd h (Nat.not_lt_zero _)
  | _, _, .cons a _, 0, _, _ => a
  | _, _, .cons _ t, i + 1, h, h' => t.get i (by simpa using h) (by simpa using h')
/-- What an operation answers: this value; a value by a block, not below B, that holds this; anything. -/
inductive Sv where
  | eq (v : Value)
  | blk (B : Nat) (f : Nat → Value) (o : Obj)
  | any
def Sv.sp : Sv → Value → World → Prop
  | .eq u, v, _ => v = u
  | .blk B f o, v, w => ∃ b, B ≤ b ∧ v = f b ∧ w.heap[b]? = some o
  | .any, _, _ => True
theorem Sv.up {w w' : World} (hb : Below w.heap.size w w') : ∀ (s : Sv) (v : Value), s.sp v w → s.sp v w'
  | .eq _, _, h => h
  | .blk _ _ _, _, ⟨b, hB, e, h⟩ => ⟨b, hB, e, kept_of_below hb h⟩
  | .any, _, _ => trivial
def SpS (l : List Sv) : Nat → Value → World → Prop := fun q v w => (l.getD q .any).sp v w
theorem SpS.up {l : List Sv} {w w' : World} (hb : Below w.heap.size w w') : ∀ q u, SpS l q u w → SpS l q u w' := fun _ _ h => Sv.up hb _ _ h
/-- No block that is spoken of is of the type T with n cells. -/
def Sv.not (n : Nat) (T : TypeId) : Sv → Bool
  | .blk _ _ (.cells c T' _) => decide (T' ≠ T) || decide (c.size ≠ n)
  | .blk _ _ _ => false
  | _ => true
theorem Sv.kept {n : Nat} {T : TypeId} {w w' : World} {V : Nat} {c : Array Value} {fz : Nat × Nat} (hV : w.heap[V]? = some (.cells c T fz)) (hc : c.size = n) (hk : ∀ b, b ≠ V → w'.heap[b]? = w.heap[b]?) : ∀ (s : Sv) (v : Value), s.not n T = true → s.sp v w → s.sp v w'
  | .eq _, _, _, h => h
  | .any, _, _, _ => trivial
  | .blk B f o, v, hn, ⟨b, hB, e, h⟩ => by
    refine ⟨b, hB, e, (hk b fun hb => ?_).trans h⟩
    rw [hb, hV] at h
    injection h with h
    subst h
    simp [Sv.not, hc] at hn
theorem SpS.kept {l : List Sv} (n : Nat) (T : TypeId) {w w' : World} {V : Nat} {c : Array Value} {fz : Nat × Nat} (hV : w.heap[V]? = some (.cells c T fz)) (hc : c.size = n) (hk : ∀ b, b ≠ V → w'.heap[b]? = w.heap[b]?) (hl : l.all (fun s => s.not n T) = true) : ∀ q u, SpS l q u w → SpS l q u w' := fun q u h => by
  refine Sv.kept hV hc hk _ _ ?_ h
  by_cases hq : q < l.length
  · rw [List.getD_eq_getElem?_getD, List.getElem?_eq_getElem hq]
    exact List.all_eq_true.1 hl _ (List.getElem_mem hq)
  · rw [List.getD_eq_getElem?_getD, List.getElem?_eq_none (by omega)]
    rfl
/-- A place is made, and filled so that F holds of it: what has been done of it. -/
structure GM (mk st s : Nat) (w0 : World) (z : Array Value) (T : TypeId) (F : Nat → World → Prop) (L : Nat → Bool) (a' : Act) (w' : World) : Prop where
  below : Below w0.heap.size w0 w'
  made : L mk = true → L st = false → ∃ V, a'.tmps.getD s undef = .pointer (some ⟨V, 0, none⟩) ∧ w0.heap.size ≤ V ∧ w'.heap[V]? = some (.cells z T (0, 0))
  full : L st = true → ∃ V, a'.tmps.getD s undef = .pointer (some ⟨V, 0, none⟩) ∧ w0.heap.size ≤ V ∧ F V w'
  ord : L st = true → L mk = true
section
variable {mk st s : Nat} {w0 : World} {z : Array Value} {T : TypeId} {F : Nat → World → Prop} {L : Nat → Bool} {a' : Act} {w' w'' : World}
theorem GM.start (a : Act) (w0 : World) : GM mk st s w0 z T F (fun _ => false) a w0.drew := ⟨(Below.refl _ _).drew, fun h => (by cases h), fun h => (by cases h), fun h => (by cases h)⟩
theorem GM.step (hF : ∀ V w w', Below w.heap.size w w' → F V w → F V w') (h : GM mk st s w0 z T F L a' w') (hb : Below w'.heap.size w' w'') (i d : Nat) (v : Value) (h1 : i ≠ mk) (h2 : i ≠ st) (hd : d ≠ s) : GM mk st s w0 z T F (fun j => decide (j = i) || L j) (a'.put (some d) v) w'' := by
  have e1 : (decide (mk = i) || L mk) = L mk := by simp [Ne.symm h1]
  have e2 : (decide (st = i) || L st) = L st := by simp [Ne.symm h2]
  refine ⟨h.below.trans (hb.mono h.below.size), ?_, ?_, ?_⟩ <;> simp only [e1, e2, put_other _ _ _ _ hd]
  · intro x y
    obtain ⟨V, x1, x2, x3⟩ := h.made x y
    exact ⟨V, x1, x2, kept_of_below hb x3⟩
  · intro x
    obtain ⟨V, x1, x2, x3⟩ := h.full x
    exact ⟨V, x1, x2, hF _ _ _ hb x3⟩
  · exact h.ord
theorem GM.alloc (h : GM mk st s w0 z T F L a' w') (hne : mk ≠ st) (hL : L mk = false) (hs : s < a'.tmps.size) : GM mk st s w0 z T F (fun j => decide (j = mk) || L j) (a'.put (some s) (.pointer (some ⟨w'.heap.size, 0, none⟩))) (w'.alloc (.cells z T)) := by
  have e2 : (decide (st = mk) || L st) = L st := by simp [Ne.symm hne]
  have no : L st = true → False := fun x => by
    have := h.ord x
    rw [hL] at this
    cases this
  exact ⟨h.below.alloc h.below.size _, fun _ _ => ⟨w'.heap.size, put_same _ _ _ hs, h.below.size, alloc_heap _ _⟩, fun x => (no (e2.symm.trans x)).elim, fun x => (no (e2.symm.trans x)).elim⟩
end
end Go.Proofs.YtldmfdkmkjiabaaGreat
