/-
  Rows of trees in memory.
  Seven cells of a block set.
  Rows of trees in a block; what the operations of a region answer (no walk in it).
-/
import Derived.Test.YtbbongdnnmanlaaGreatExA
import Derived.Maps.AppendAt
import Derived.Test.YtbbongdnnmanlaaGreatVeMN
namespace Go.Proofs.YtbbongdnnmanlaaGreat
open Go.RowKit

def cellsE (l : List R7) : List Value := l.flatMap R7.cells
theorem cellsE_snoc (l : List R7) (r : R7) : cellsE (l ++ [r]) = cellsE l ++ r.cells := by simp [cellsE]
theorem cellsE_at : ∀ (l : List R7) (j : Nat) (h : j < l.length) (c : Nat), c < 7 → (cellsE l)[j * 7 + c]? = (l[j].cells)[c]?
  | [], j, h, _, _ => by simp at h
  | t :: r, 0, _, c, hc => by
    show (t.cells ++ cellsE r)[0 * 7 + c]? = _
    rw [Nat.zero_mul, Nat.zero_add, List.getElem?_append_left (by exact hc)]
    rfl
  | t :: r, j + 1, h, c, hc => by
    have := cellsE_at r j (by simpa using h) c hc
    show (t.cells ++ cellsE r)[(j + 1) * 7 + c]? = (r[j]'(by simpa using h)).cells[c]?
    have hl : t.cells.length = 7 := rfl
    rw [← this, List.getElem?_append_right (by rw [hl]; omega), hl]
    congr 1
    omega
theorem cellE_one (r : R7) : ∀ u ∈ r.cells, u.oneCell' = true := by
  intro u hu
  simp [R7.cells] at hu
  rcases hu with rfl | rfl | rfl | rfl | rfl | rfl | rfl <;> rfl
theorem newsX_row (w : World) (r : R7) (n : Nat) (hn : n = w.heap.size) : ∀ j u, r.cells[j]? = some u → (w.alloc (.cells #[.int .i64 r.k, .bool r.b, .int .i64 r.n, .string r.s, .string r.t, .string r.i, .slice r.lo r.ll r.lc] 35)).cell? ((⟨n, 0, none⟩ : Addr).add j) = some u := by
  intro j u hj
  rw [Addr.add_lit, Nat.zero_add, World.cell?_alloc_at _ _ _ _ hn]
  simpa [R7.cells] using hj
theorem infoExpr : (Tryz.prog.info? 35).map (fun i => (i.zero, i.size, i.bytes)) = some (some (.agg #[.int .i64 0, .bool false, .int .i64 0, .string ⟨#[]⟩, .string ⟨#[]⟩, .string ⟨#[]⟩, .slice none 0 0]), 7, 96) := by kernel_rfl

/-- Cells and trees, one for one. -/
inductive AllE (w : World) (P : Nat → Prop) : List R7 → List Ex → Prop
  | nil : AllE w P [] []
  | snoc {rs : List R7} {xs : List Ex} {r : R7} {x : Ex} : AllE w P rs xs → IsE w P r x → AllE w P (rs ++ [r]) (xs ++ [x])
theorem AllE.turn {w w' : World} {P P' : Nat → Prop} (hs : w.heap.size ≤ w'.heap.size) (hb : ∀ b, P b → b < w.heap.size → w'.heap[b]? = w.heap[b]? ∧ P' b) {rs : List R7} {xs : List Ex} (h : AllE w P rs xs) : AllE w' P' rs xs := by
  induction h with
  | nil => exact .nil
  | snoc _ hx ih => exact .snoc ih (IsE.turn hs hb _ _ hx)
theorem AllE.len {w : World} {P : Nat → Prop} {rs : List R7} {xs : List Ex} (h : AllE w P rs xs) : rs.length = xs.length := by
  induction h with
  | nil => rfl
  | snoc _ _ ih => simp [ih]
theorem isEs_snoc {w : World} {P : Nat → Prop} {lo : Option Addr} : ∀ (xs : List Ex) (j : Nat) (x : Ex), IsEs w P lo j xs → (∃ r b off, lo = some ⟨b, off, none⟩ ∧ P b ∧ b < w.heap.size ∧ At7 w b (off + (j + xs.length) * 7) r ∧ IsE w P r x) → IsEs w P lo j (xs ++ [x])
  | [], j, x, _, h => by
    rw [List.nil_append]
    unfold IsEs
    refine ⟨by simpa using h, ?_⟩
    unfold IsEs
    trivial
  | y :: ys, j, x, h1, h2 => by
    rw [List.cons_append]
    unfold IsEs at h1 ⊢
    refine ⟨h1.1, isEs_snoc ys (j + 1) x h1.2 ?_⟩
    rw [show j + 1 + ys.length = j + (y :: ys).length by simp; omega]
    exact h2
/-- A row of trees in a block. -/
theorem AllE.row {w : World} {P : Nat → Prop} {g : Nat} {rs : List R7} {xs : List Ex} (h : AllE w P rs xs) (hP : P g) (hg : g < w.heap.size) : (∀ j (hj : j < rs.length), At7 w g (j * 7) rs[j]) → IsEs w P (some ⟨g, 0, none⟩) 0 xs := by
  induction h with
  | nil => intro _; unfold IsEs; trivial
  | @snoc rs xs r x h hx ih =>
    intro ha
    refine isEs_snoc xs 0 x (ih fun j hj => ?_) ⟨r, g, 0, rfl, hP, hg, ?_, hx⟩
    · have := ha j (by simp; omega)
      rwa [List.getElem_append_left hj] at this
    · have := ha rs.length (by simp)
      rw [List.getElem_append_right (Nat.le_refl _)] at this
      simp only [Nat.sub_self, List.getElem_cons_zero] at this
      rw [← h.len]
      simpa using this
theorem ownsE_at {w : World} {B : Nat} {v : Value} {l : List R7} (h : w.ownsRow B 35 7 v l.length (cellsE l)) (hp : 0 < l.length) : ∃ g cap, v = .slice (some ⟨g, 0, none⟩) l.length cap ∧ B ≤ g ∧ g < w.heap.size ∧ ∀ j (hj : j < l.length), At7 w g (j * 7) l[j] := by
  rcases h.2 with ⟨h0, hz⟩ | ⟨g, cap, cur, hv, hbg, hg, hnc, _, _, htake⟩
  · omega
  · refine ⟨g, cap, hv, hbg, (Array.getElem?_eq_some_iff.1 hg).1, fun j hj => ?_⟩
    have key : ∀ c u, c < 7 → (l[j].cells)[c]? = some u → w.cell? ⟨g, j * 7 + c, none⟩ = some u := fun c u hc hu => by
      have := cellsE_at l j hj c hc
      rw [hu, ← htake, List.getElem?_take] at this
      rw [Lib.cell_of_heap hg]
      split at this
      · simpa using this
      · cases this
    exact ⟨key 0 _ (by decide) rfl, key 1 _ (by decide) rfl, key 2 _ (by decide) rfl, key 3 _ (by decide) rfl, key 4 _ (by decide) rfl, key 5 _ (by decide) rfl, key 6 _ (by decide) rfl⟩
theorem own_oneE (w : World) (r : R7) : (w.alloc (.cells #[.int .i64 r.k, .bool r.b, .int .i64 r.n, .string r.s, .string r.t, .string r.i, .slice r.lo r.ll r.lc] 35)).ownsRow w.heap.size 35 7 (.slice (some ⟨w.heap.size, 0, none⟩) 1 1) [r].length (cellsE [r]) :=
  ⟨rfl, .inr ⟨w.heap.size, 1, _, rfl, Nat.le_refl _, alloc_heap _ _, Nat.le_refl _, by unfold maxLen; omega, rfl, by simp [cellsE, R7.cells]⟩⟩
end Go.Proofs.YtbbongdnnmanlaaGreat

namespace Go.Proofs.YtbbongdnnmanlaaGreat
open Go.RowKit

def set7S (w : World) (b : Nat) (v0 v1 v2 v3 v4 v5 v6 : Value) : World :=
  ((((((w.setCell ⟨b, 0, none⟩ v0).setCell ⟨b, 1, none⟩ v1).setCell ⟨b, 2, none⟩ v2).setCell ⟨b, 3, none⟩ v3).setCell ⟨b, 4, none⟩ v4).setCell ⟨b, 5, none⟩ v5).setCell ⟨b, 6, none⟩ v6
theorem set7S_heap (w : World) (b k : Nat) (v0 v1 v2 v3 v4 v5 v6 : Value) (h : k ≠ b) : (set7S w b v0 v1 v2 v3 v4 v5 v6).heap[k]? = w.heap[k]? := by
  unfold set7S
  rw [Below.heap_setCell _ _ _ _ h, Below.heap_setCell _ _ _ _ h, Below.heap_setCell _ _ _ _ h, Below.heap_setCell _ _ _ _ h, Below.heap_setCell _ _ _ _ h, Below.heap_setCell _ _ _ _ h, Below.heap_setCell _ _ _ _ h]
theorem set7S_at {w : World} {b : Nat} {u0 u1 u2 u3 u4 u5 u6 : Value} {T : TypeId} (h : w.heap[b]? = some (.cells #[u0, u1, u2, u3, u4, u5, u6] T (0, 0))) (v0 v1 v2 v3 v4 v5 v6 : Value) :
    (set7S w b v0 v1 v2 v3 v4 v5 v6).heap[b]? = some (.cells #[v0, v1, v2, v3, v4, v5, v6] T (0, 0)) := by
  simp [set7S, World.setCell, Array.getElem?_modify, h]
theorem set7S_size (w : World) (b : Nat) (v0 v1 v2 v3 v4 v5 v6 : Value) : (set7S w b v0 v1 v2 v3 v4 v5 v6).heap.size = w.heap.size := by
  simp [set7S, World.setCell]
theorem set7S_below {B b : Nat} {a w : World} (h : Below B a w) (hb : B ≤ b) (v0 v1 v2 v3 v4 v5 v6 : Value) : Below B a (set7S w b v0 v1 v2 v3 v4 v5 v6) :=
  ((((((h.setCell (p := ⟨b, 0, none⟩) hb _).setCell (p := ⟨b, 1, none⟩) hb _).setCell (p := ⟨b, 2, none⟩) hb _).setCell (p := ⟨b, 3, none⟩) hb _).setCell (p := ⟨b, 4, none⟩) hb _).setCell (p := ⟨b, 5, none⟩) hb _).setCell (p := ⟨b, 6, none⟩) hb _

end Go.Proofs.YtbbongdnnmanlaaGreat

namespace Go.Proofs.YtbbongdnnmanlaaGreat
open Go.RowKit Go.Sort

abbrev PT : Nat → Prop := fun _ => True
/-- Cells and trees, one for one, from the front. -/
inductive AllX (w : World) : List R7 → List Ex → Prop
  | nil : AllX w [] []
  | cons {r : R7} {x : Ex} {rs : List R7} {xs : List Ex} : IsE w PT r x → AllX w rs xs → AllX w (r :: rs) (x :: xs)
theorem AllX.lift {w w' : World} (hb : Below w.heap.size w w') : ∀ {rs : List R7} {xs : List Ex}, AllX w rs xs → AllX w' rs xs
  | _, _, .nil => .nil
  | _, _, .cons h t => .cons (IsE.turn hb.size (fun b _ hl => ⟨hb.block b hl, trivial⟩) _ _ h) (t.lift hb)
theorem AllX.len {w : World} : ∀ {rs : List R7} {xs : List Ex}, AllX w rs xs → rs.length = xs.length
  | _, _, .nil => rfl
  | _, _, .cons _ t => by simp [t.len]
theorem AllX.get {w : World} : ∀ {rs : List R7} {xs : List Ex}, AllX w rs xs → ∀ (i : Nat) (h : i < rs.length) (h' : i < xs.length), IsE w PT rs[i] xs[i]
  | _, _, .nil, i, h, _ => absurd h (Nat.not_lt_zero _)
  | _, _, .cons a _, 0, _, _ => a
  | _, _, .cons _ t, i + 1, h, h' => t.get i (by simpa using h) (by simpa using h')
theorem at7_block {w : World} {b : Nat} {T : TypeId} {fz : Nat × Nat} {cs : Array Value} (rs : List R7) (h : w.heap[b]? = some (.cells cs T fz)) (hc : cs.toList = cellsE rs) : ∀ i (hi : i < rs.length), At7 w b (i * 7) rs[i] := by
  intro i hi
  have key : ∀ c u, c < 7 → (rs[i].cells)[c]? = some u → w.cell? ⟨b, i * 7 + c, none⟩ = some u := fun c u hc' hu => by
    have h1 := cellsE_at rs i hi c hc'
    rw [hu, ← hc] at h1
    rw [Lib.cell_of_heap h]
    simpa using h1
  exact ⟨key 0 _ (by decide) rfl, key 1 _ (by decide) rfl, key 2 _ (by decide) rfl, key 3 _ (by decide) rfl, key 4 _ (by decide) rfl, key 5 _ (by decide) rfl, key 6 _ (by decide) rfl⟩
theorem isEs_at {w : World} {b : Nat} (hb : b < w.heap.size) : ∀ (rs : List R7) (xs : List Ex) (j : Nat), (∀ i (h : i < rs.length), At7 w b ((j + i) * 7) rs[i]) → AllX w rs xs → IsEs w PT (some ⟨b, 0, none⟩) j xs
  | [], _, j, _, .nil => by unfold IsEs; trivial
  | r :: rs, x :: xs, j, ha, .cons h t => by
    unfold IsEs
    have h0 := ha 0 (by simp)
    refine ⟨⟨r, b, 0, rfl, trivial, hb, by simpa using h0, h⟩, isEs_at hb rs _ (j + 1) (fun i hi => ?_) t⟩
    have := ha (i + 1) (by simpa using hi)
    rw [show j + 1 + i = j + (i + 1) by omega]
    simpa using this
/-- A row of trees in a block of their cells. -/
theorem isEs_block {w : World} {b : Nat} {T : TypeId} {fz : Nat × Nat} {cs : Array Value} (rs : List R7) (xs : List Ex) (h : w.heap[b]? = some (.cells cs T fz)) (hc : cs.toList = cellsE rs) (ha : AllX w rs xs) : IsEs w PT (some ⟨b, 0, none⟩) 0 xs :=
  isEs_at (Array.getElem?_eq_some_iff.1 h).1 rs xs 0 (fun i hi => by rw [Nat.zero_add]; exact at7_block rs h hc i hi) ha
/-- A node without kids. -/
theorem isE_leaf (w : World) (k : Int) (b : Bool) (n : Int) (s t i : List UInt8) (lc : Nat) (lo : Option Addr) : IsE w PT ⟨k, b, n, ba s, ba t, ba i, lo, 0, lc⟩ (.mk k b n s t i []) := by
  unfold IsE IsEs
  exact ⟨rfl, rfl, rfl, rfl, rfl, rfl, rfl, trivial⟩
/-- A node with kids. -/
theorem isE_node {w : World} {k : Int} {b : Bool} {n : Int} {s t i : List UInt8} {lo : Option Addr} {ll lc : Nat} {l : List Ex} (hl : ll = l.length) (h : IsEs w PT lo 0 l) : IsE w PT ⟨k, b, n, ba s, ba t, ba i, lo, ll, lc⟩ (.mk k b n s t i l) := by
  unfold IsE
  exact ⟨rfl, rfl, rfl, rfl, rfl, rfl, hl, h⟩
/-- What an operation answers: this value; a value by a block, not below B, that holds this; anything. -/
inductive Sv where
  | eq (v : Value)
  | blk (B : Nat) (f : Nat → Value) (o : Obj)
  | any
def Sv.sp : Sv → Value → World → Prop
  | .eq u, v, _ => v = u
  | .blk B f o, v, w => ∃ b, B ≤ b ∧ v = f b ∧ w.heap[b]? = some o
  | .any, _, _ => True
theorem Sv.up {w w' : World} (hb : Below w.heap.size w w') : ∀ (s : Sv) (v : Value), s.sp v w → s.sp v w'
  | .eq _, _, h => h
  | .blk _ _ _, _, ⟨b, hB, e, h⟩ => ⟨b, hB, e, kept_of_below hb h⟩
  | .any, _, _ => trivial
def SpS (l : List Sv) : Nat → Value → World → Prop := fun q v w => (l.getD q .any).sp v w
theorem SpS.up {l : List Sv} {w w' : World} (hb : Below w.heap.size w w') : ∀ q u, SpS l q u w → SpS l q u w' := fun _ _ h => Sv.up hb _ _ h
/-- No block that is spoken of is of the type T with n cells. -/
def Sv.not (n : Nat) (T : TypeId) : Sv → Bool
  | .blk _ _ (.cells c T' _) => decide (T' ≠ T) || decide (c.size ≠ n)
  | .blk _ _ _ => false
  | _ => true
theorem Sv.kept {n : Nat} {T : TypeId} {w w' : World} {V : Nat} {c : Array Value} {fz : Nat × Nat} (hV : w.heap[V]? = some (.cells c T fz)) (hc : c.size = n) (hk : ∀ b, b ≠ V → w'.heap[b]? = w.heap[b]?) : ∀ (s : Sv) (v : Value), s.not n T = true → s.sp v w → s.sp v w'
  | .eq _, _, _, h => h
  | .any, _, _, _ => trivial
  | .blk B f o, v, hn, ⟨b, hB, e, h⟩ => by
    refine ⟨b, hB, e, (hk b fun hb => ?_).trans h⟩
    rw [hb, hV] at h
    injection h with h
    subst h
    simp [Sv.not, hc] at hn
theorem SpS.kept {l : List Sv} (n : Nat) (T : TypeId) {w w' : World} {V : Nat} {c : Array Value} {fz : Nat × Nat} (hV : w.heap[V]? = some (.cells c T fz)) (hc : c.size = n) (hk : ∀ b, b ≠ V → w'.heap[b]? = w.heap[b]?) (hl : l.all (fun s => s.not n T) = true) : ∀ q u, SpS l q u w → SpS l q u w' := fun q u h => by
  refine Sv.kept hV hc hk _ _ ?_ h
  by_cases hq : q < l.length
  · rw [List.getD_eq_getElem?_getD, List.getElem?_eq_getElem hq]
    exact List.all_eq_true.1 hl _ (List.getElem_mem hq)
  · rw [List.getD_eq_getElem?_getD, List.getElem?_eq_none (by omega)]
    rfl
/-- A place is made, and filled so that F holds of it: what has been done of it. -/
structure GM (mk st s : Nat) (w0 : World) (z : Array Value) (T : TypeId) (F : Nat → World → Prop) (L : Nat → Bool) (a' : Act) (w' : World) : Prop where
  below : Below w0.heap.size w0 w'
  made : L mk = true → L st = false → ∃ V, a'.tmps.getD s undef = .pointer (some ⟨V, 0, none⟩) ∧ w0.heap.size ≤ V ∧ w'.heap[V]? = some (.cells z T (0, 0))
  full : L st = true → ∃ V, a'.tmps.getD s undef = .pointer (some ⟨V, 0, none⟩) ∧ w0.heap.size ≤ V ∧ F V w'
  ord : L st = true → L mk = true
section
variable {mk st s : Nat} {w0 : World} {z : Array Value} {T : TypeId} {F : Nat → World → Prop} {L : Nat → Bool} {a' : Act} {w' w'' : World}
theorem GM.start (a : Act) (w0 : World) : GM mk st s w0 z T F (fun _ => false) a w0.drew := ⟨(Below.refl _ _).drew, fun h => (by cases h), fun h => (by cases h), fun h => (by cases h)⟩
theorem GM.step (hF : ∀ V w w', Below w.heap.size w w' → F V w → F V w') (h : GM mk st s w0 z T F L a' w') (hb : Below w'.heap.size w' w'') (i d : Nat) (v : Value) (h1 : i ≠ mk) (h2 : i ≠ st) (hd : d ≠ s) : GM mk st s w0 z T F (fun j => decide (j = i) || L j) (a'.put (some d) v) w'' := by
  have e1 : (decide (mk = i) || L mk) = L mk := by simp [Ne.symm h1]
  have e2 : (decide (st = i) || L st) = L st := by simp [Ne.symm h2]
  refine ⟨h.below.trans (hb.mono h.below.size), ?_, ?_, ?_⟩ <;> simp only [e1, e2, put_other _ _ _ _ hd]
  · intro x y
    obtain ⟨V, x1, x2, x3⟩ := h.made x y
    exact ⟨V, x1, x2, kept_of_below hb x3⟩
  · intro x
    obtain ⟨V, x1, x2, x3⟩ := h.full x
    exact ⟨V, x1, x2, hF _ _ _ hb x3⟩
  · exact h.ord
theorem GM.alloc (h : GM mk st s w0 z T F L a' w') (hne : mk ≠ st) (hL : L mk = false) (hs : s < a'.tmps.size) : GM mk st s w0 z T F (fun j => decide (j = mk) || L j) (a'.put (some s) (.pointer (some ⟨w'.heap.size, 0, none⟩))) (w'.alloc (.cells z T)) := by
  have e2 : (decide (st = mk) || L st) = L st := by simp [Ne.symm hne]
  have no : L st = true → False := fun x => by
    have := h.ord x
    rw [hL] at this
    cases this
  exact ⟨h.below.alloc h.below.size _, fun _ _ => ⟨w'.heap.size, put_same _ _ _ hs, h.below.size, alloc_heap _ _⟩, fun x => (no (e2.symm.trans x)).elim, fun x => (no (e2.symm.trans x)).elim⟩
theorem GM.store (h : GM mk st s w0 z T F L a' w') (hA : L mk = true) (hL : L st = false) : ∃ V, a'.tmps.getD s undef = .pointer (some ⟨V, 0, none⟩) ∧ w0.heap.size ≤ V ∧ w'.heap[V]? = some (.cells z T (0, 0)) ∧ ∀ w'', Below w0.heap.size w0 w'' → F V w'' → GM mk st s w0 z T F (fun j => decide (j = st) || L j) a' w'' := by
  obtain ⟨V, x1, x2, x3⟩ := h.made hA hL
  exact ⟨V, x1, x2, x3, fun w'' hb hF => ⟨hb, fun _ q => (by simp at q), fun _ => ⟨V, x1, x2, hF⟩, fun _ => by simp [hA]⟩⟩
end
theorem ne_blocks {w : World} {b V : Nat} {c c' : Array Value} {T T' : TypeId} {fz fz' : Nat × Nat} (h : w.heap[b]? = some (.cells c T fz)) (h' : w.heap[V]? = some (.cells c' T' fz')) (hn : c.size ≠ c'.size) : b ≠ V := fun e => by
  rw [e, h'] at h
  injection h with h
  injection h with h
  exact hn (by rw [h])
theorem set3_keep (w : World) (V : Nat) (a b c : Value) : ∀ k, k ≠ V → (((w.setCell ⟨V, 0, none⟩ a).setCell ⟨V, 1, none⟩ b).setCell ⟨V, 2, none⟩ c).heap[k]? = w.heap[k]? := fun k y2 => (Below.heap_setCell _ ⟨V, 2, none⟩ _ k y2).trans ((Below.heap_setCell _ ⟨V, 1, none⟩ _ k y2).trans (Below.heap_setCell _ ⟨V, 0, none⟩ _ k y2))
theorem set3_below {w0 w : World} {V B : Nat} (a b c : Value) (hb : Below B w0 w) (hV : B ≤ V) : Below B w0 (((w.setCell ⟨V, 0, none⟩ a).setCell ⟨V, 1, none⟩ b).setCell ⟨V, 2, none⟩ c) := ((hb.setCell (p := ⟨V, 0, none⟩) hV _).setCell (p := ⟨V, 1, none⟩) hV _).setCell (p := ⟨V, 2, none⟩) hV _
end Go.Proofs.YtbbongdnnmanlaaGreat
