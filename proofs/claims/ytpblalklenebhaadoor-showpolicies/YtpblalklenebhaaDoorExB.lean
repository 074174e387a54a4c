/-
  Rows of trees in memory.
-/
import Derived.Test.YtpblalklenebhaaDoorExA
import Derived.Maps.AppendAt
namespace Go.Proofs.YtpblalklenebhaaDoor
open Go.RowKit

def cellsE (l : List R7) : List Value := l.flatMap R7.cells
theorem cellsE_snoc (l : List R7) (r : R7) : cellsE (l ++ [r]) = cellsE l ++ r.cells := by simp [cellsE]
theorem cellsE_at : ∀ (l : List R7) (j : Nat) (h : j < l.length) (c : Nat), c < 7 → (cellsE l)[j * 7 + c]? = (l[j].cells)[c]?
  | [], j, h, _, _ => by simp at h
  | t :: r, 0, _, c, hc => by
    show (t.cells ++ cellsE r)[0 * 7 + c]? = _
    rw [Nat.zero_mul, Nat.zero_add, List.getElem?_append_left (by exact hc)]
    rfl
  | t :: r, j + 1, h, c, hc => by
    have := cellsE_at r j (by simpa using h) c hc
    show (t.cells ++ cellsE r)[(j + 1) * 7 + c]? = (r[j]'(by simpa using h)).cells[c]?
    have hl : t.cells.length = 7 := rfl
    rw [← this, List.getElem?_append_right (by rw [hl]; omega), hl]
    congr 1
    omega
theorem cellE_one (r : R7) : ∀ u ∈ r.cells, u.oneCell' = true := by
  intro u hu
  simp [R7.cells] at hu
  rcases hu with rfl | rfl | rfl | rfl | rfl | rfl | rfl <;> rfl
theorem newsE_row (w : World) (r : R7) (n : Nat) (hn : n = w.heap.size) : ∀ j u, r.cells[j]? = some u → (w.alloc (.cells #[.int .i64 r.k, .bool r.b, .int .i64 r.n, .string r.s, .string r.t, .string r.i, .slice r.lo r.ll r.lc] 32)).cell? ((⟨n, 0, none⟩ : Addr).add j) = some u := by
  intro j u hj
  rw [Addr.add_lit, Nat.zero_add, World.cell?_alloc_at _ _ _ _ hn]
  simpa [R7.cells] using hj
theorem infoExpr : (Tryd.prog.info? 32).map (fun i => (i.zero, i.size, i.bytes)) = some (some (.agg #[.int .i64 0, .bool false, .int .i64 0, .string ⟨#[]⟩, .string ⟨#[]⟩, .string ⟨#[]⟩, .slice none 0 0]), 7, 96) := by kernel_rfl

/-- Cells and trees, one for one. -/
inductive AllE (w : World) (P : Nat → Prop) : List R7 → List Ex → Prop
  | nil : AllE w P [] []
  | snoc {rs : List R7} {xs : List Ex} {r : R7} {x : Ex} : AllE w P rs xs → IsE w P r x → AllE w P (rs ++ [r]) (xs ++ [x])
theorem AllE.turn {w w' : World} {P P' : Nat → Prop} (hs : w.heap.size ≤ w'.heap.size) (hb : ∀ b, P b → b < w.heap.size → w'.heap[b]? = w.heap[b]? ∧ P' b) {rs : List R7} {xs : List Ex} (h : AllE w P rs xs) : AllE w' P' rs xs := by
  induction h with
  | nil => exact .nil
  | snoc _ hx ih => exact .snoc ih (IsE.turn hs hb _ _ hx)
theorem AllE.len {w : World} {P : Nat → Prop} {rs : List R7} {xs : List Ex} (h : AllE w P rs xs) : rs.length = xs.length := by
  induction h with
  | nil => rfl
  | snoc _ _ ih => simp [ih]
theorem isEs_snoc {w : World} {P : Nat → Prop} {lo : Option Addr} : ∀ (xs : List Ex) (j : Nat) (x : Ex), IsEs w P lo j xs → (∃ r b off, lo = some ⟨b, off, none⟩ ∧ P b ∧ b < w.heap.size ∧ At7 w b (off + (j + xs.length) * 7) r ∧ IsE w P r x) → IsEs w P lo j (xs ++ [x])
  | [], j, x, _, h => by
    rw [List.nil_append]
    unfold IsEs
    refine ⟨by simpa using h, ?_⟩
    unfold IsEs
    trivial
  | y :: ys, j, x, h1, h2 => by
    rw [List.cons_append]
    unfold IsEs at h1 ⊢
    refine ⟨h1.1, isEs_snoc ys (j + 1) x h1.2 ?_⟩
    rw [show j + 1 + ys.length = j + (y :: ys).length by simp; omega]
    exact h2
/-- A row of trees in a block. -/
theorem AllE.row {w : World} {P : Nat → Prop} {g : Nat} {rs : List R7} {xs : List Ex} (h : AllE w P rs xs) (hP : P g) (hg : g < w.heap.size) : (∀ j (hj : j < rs.length), At7 w g (j * 7) rs[j]) → IsEs w P (some ⟨g, 0, none⟩) 0 xs := by
  induction h with
  | nil => intro _; unfold IsEs; trivial
  | @snoc rs xs r x h hx ih =>
    intro ha
    refine isEs_snoc xs 0 x (ih fun j hj => ?_) ⟨r, g, 0, rfl, hP, hg, ?_, hx⟩
    · have := ha j (by simp; omega)
      rwa [List.getElem_append_left hj] at this
    · have := ha rs.length (by simp)
      rw [List.getElem_append_right (Nat.le_refl _)] at this
      simp only [Nat.sub_self, List.getElem_cons_zero] at this
      rw [← h.len]
      simpa using this
theorem ownsE_at {w : World} {B : Nat} {v : Value} {l : List R7} (h : w.ownsRow B 32 7 v l.length (cellsE l)) (hp : 0 < l.length) : ∃ g cap, v = .slice (some ⟨g, 0, none⟩) l.length cap ∧ B ≤ g ∧ g < w.heap.size ∧ ∀ j (hj : j < l.length), At7 w g (j * 7) l[j] := by
  rcases h.2 with ⟨h0, hz⟩ | ⟨g, cap, cur, hv, hbg, hg, hnc, _, _, htake⟩
  · omega
  · refine ⟨g, cap, hv, hbg, (Array.getElem?_eq_some_iff.1 hg).1, fun j hj => ?_⟩
    have key : ∀ c u, c < 7 → (l[j].cells)[c]? = some u → w.cell? ⟨g, j * 7 + c, none⟩ = some u := fun c u hc hu => by
      have := cellsE_at l j hj c hc
      rw [hu, ← htake, List.getElem?_take] at this
      rw [Lib.cell_of_heap hg]
      split at this
      · simpa using this
      · cases this
    exact ⟨key 0 _ (by decide) rfl, key 1 _ (by decide) rfl, key 2 _ (by decide) rfl, key 3 _ (by decide) rfl, key 4 _ (by decide) rfl, key 5 _ (by decide) rfl, key 6 _ (by decide) rfl⟩
theorem own_one (w : World) (r : R7) : (w.alloc (.cells #[.int .i64 r.k, .bool r.b, .int .i64 r.n, .string r.s, .string r.t, .string r.i, .slice r.lo r.ll r.lc] 32)).ownsRow w.heap.size 32 7 (.slice (some ⟨w.heap.size, 0, none⟩) 1 1) [r].length (cellsE [r]) :=
  ⟨rfl, .inr ⟨w.heap.size, 1, _, rfl, Nat.le_refl _, alloc_heap _ _, Nat.le_refl _, by unfold maxLen; omega, rfl, by simp [cellsE, R7.cells]⟩⟩
end Go.Proofs.YtpblalklenebhaaDoor
