/-
  Rows of things of several cells: laid one behind the other, made, copied (no walk in it).
-/
import Derived.Test.YtfnfdpkndkcmbaaEnA
import Derived.Test.YtfnfdpkndkcmbaaWorlds
import Derived.Laws.CopyRow
import Derived.Laws.IdiomCopy
import Derived.Laws.MakeOwn
namespace Go.Proofs.Ytfnfdpkndkcmbaa
open Go.RowKit Go.Sort

theorem flatG_len {n : Nat} : ∀ (l : List (List Value)), (∀ c ∈ l, c.length = n) → l.flatten.length = l.length * n
  | [], _ => by simp
  | c :: l, h => by
    rw [List.flatten_cons, List.length_append, flatG_len l (fun x hx => h x (List.mem_cons_of_mem _ hx)), h c List.mem_cons_self, List.length_cons, Nat.succ_mul]
    omega
theorem flat_get {n : Nat} : ∀ (l : List (List Value)), (∀ c ∈ l, c.length = n) → ∀ (j c : Nat) (hj : j < l.length), c < n → l.flatten[j * n + c]? = l[j][c]?
  | [], _, j, _, hj, _ => absurd hj (Nat.not_lt_zero _)
  | x :: l, h, 0, c, _, hc => by
    have := h x List.mem_cons_self
    rw [List.flatten_cons, Nat.zero_mul, Nat.zero_add, List.getElem?_append_left (by omega)]
    rfl
  | x :: l, h, j + 1, c, hj, hc => by
    have hx := h x List.mem_cons_self
    rw [List.flatten_cons, List.getElem?_append_right (by rw [hx, Nat.succ_mul]; omega), hx, show (j + 1) * n + c - n = j * n + c by rw [Nat.succ_mul]; omega]
    exact flat_get l (fun y hy => h y (List.mem_cons_of_mem _ hy)) j c (by simpa using hj) hc
/-- What a place of the row holds is what an element has there. -/
theorem flat_at {n : Nat} {l : List (List Value)} (h : ∀ c ∈ l, c.length = n) {k : Nat} {v : Value} (hv : l.flatten[k]? = some v) : ∃ (j c : Nat) (hj : j < l.length), k = j * n + c ∧ l[j][c]? = some v := by
  have hk : k < l.length * n := by
    have := (List.getElem?_eq_some_iff.1 hv).1
    rwa [flatG_len l h] at this
  have hn : 0 < n := by
    rcases Nat.eq_zero_or_pos n with h0 | h0
    · subst h0
      simp at hk
    · exact h0
  have hj : k / n < l.length := (Nat.div_lt_iff_lt_mul hn).2 hk
  have hc : k % n < n := Nat.mod_lt _ hn
  have e : k = k / n * n + k % n := by
    have := Nat.div_add_mod k n
    rw [Nat.mul_comm]
    exact this.symm
  refine ⟨k / n, k % n, hj, e, ?_⟩
  rw [← flat_get l h _ _ hj hc, ← e]
  exact hv
theorem row_flat {w : World} {b off n : Nat} {l : List (List Value)} (hn : ∀ c ∈ l, c.length = n) (h : RowG w (some ⟨b, off, none⟩) n l) : ∀ k v, l.flatten[k]? = some v → w.cell? ((⟨b, off, none⟩ : Addr).add k) = some v := by
  intro k v hv
  obtain ⟨j, c, hj, rfl, hc⟩ := flat_at hn hv
  obtain ⟨b', off', e, _, hcell⟩ := h j hj
  cases e
  rw [Addr.add_lit, show off + (j * n + c) = off + j * n + c by omega]
  exact hcell c v hc
theorem row_of_flat {w : World} {g n : Nat} {T : TypeId} {fr : Nat × Nat} {l : List (List Value)} (hn : ∀ c ∈ l, c.length = n) (h : w.heap[g]? = some (.cells l.flatten.toArray T fr)) : RowG w (some ⟨g, 0, none⟩) n l := by
  intro j hj
  refine ⟨g, 0, rfl, (Array.getElem?_eq_some_iff.1 h).1, fun c v hv => ?_⟩
  have hc : c < n := by
    have := (List.getElem?_eq_some_iff.1 hv).1
    rwa [hn _ (List.getElem_mem hj)] at this
  rw [Lib.cell_of_heap h, Nat.zero_add]
  simpa using (flat_get l hn j c hj hc).trans hv

/-- A row in a block of its own, from B on; or none. -/
def OwnR (w : World) (B : Nat) (T : TypeId) (ao : Option Addr) (l : List (List Value)) : Prop :=
  (l = [] ∧ ao = none) ∨ (l ≠ [] ∧ ∃ g, B ≤ g ∧ ao = some ⟨g, 0, none⟩ ∧ w.heap[g]? = some (.cells l.flatten.toArray T (0, 0)))
theorem OwnR.row {w : World} {B n : Nat} {T : TypeId} {ao : Option Addr} {l : List (List Value)} (hn : ∀ c ∈ l, c.length = n) (h : OwnR w B T ao l) : RowG w ao n l := by
  rcases h with ⟨rfl, rfl⟩ | ⟨_, g, _, rfl, hg⟩
  · exact rowG_nil _ _ _
  · exact row_of_flat hn hg
theorem OwnR.below {w w' : World} {B : Nat} {T : TypeId} {ao : Option Addr} {l : List (List Value)} (h : OwnR w B T ao l) (hb : Below w.heap.size w w') : OwnR w' B T ao l := by
  rcases h with h | ⟨h0, g, hB, e, hg⟩
  · exact .inl h
  · exact .inr ⟨h0, g, hB, e, (hb.block g (Array.getElem?_eq_some_iff.1 hg).1).trans hg⟩

section
variable {P : Program}
theorem run_copy_rowN (w : World) (dT sT ty elem : TypeId) (s n g o dLen dCap : Nat) (a : Addr) (sLen sCap : Nat) (cur : Array Value) (t : TypeId) (cs : List Value)
    (hu : P.underlying dT = some (.slice elem)) (hs : (P.info? elem).map (·.size) = some s)
    (hg : w.heap[g]? = some (.cells cur t (0, 0))) (hn : n = Nat.min sLen dLen) (hcs : cs.length = n * s)
    (hsrc : ∀ j v, cs[j]? = some v → w.cell? (a.add j) = some v) (hfit : o + cs.length ≤ cur.size) (h1 : ∀ v ∈ cs, v.oneCell' = true) :
    (Builtin.copy_ #[dT, sT] ty #[.slice (some ⟨g, o, none⟩) dLen dCap, .slice (some a) sLen sCap]).run P w =
      .ok (goInt n) (w.setRow g (cur.toList.take o ++ cs ++ cur.toList.drop (o + cs.length)).toArray) := by
  have hl := run_loadCells_list (P := P) w a cs hsrc
  have hst := run_storeCells_at P g o t cs 0 cur w hg (by simpa using hfit) h1
  rw [hcs] at hl
  cases hq : P.info? elem with
  | none => simp [hq] at hs
  | some i =>
    have hi : i.size = s := by simpa [hq] using hs
    simp [Builtin.copy_, run_underlying hu, Builtin.lenOf, Builtin.firstCells, sizeOf, typeInfo, hq, hi, ← hn, hl, hst]
theorem run_copy_noneN (w : World) (dT sT ty elem : TypeId) (s : Nat) (d a : Option Addr) (dLen dCap sLen sCap : Nat) (hu : P.underlying dT = some (.slice elem)) (hs : (P.info? elem).map (·.size) = some s) (hn : Nat.min sLen dLen = 0) :
    (Builtin.copy_ #[dT, sT] ty #[.slice d dLen dCap, .slice a sLen sCap]).run P w = .ok (goInt 0) w := by
  cases hq : P.info? elem with
  | none => simp [hq] at hs
  | some i =>
    have hl : ∀ (x : Addr), (loadCells x 0).run P w = .ok #[] w := fun x => by simpa using run_loadCells_list (P := P) w x [] (by simp)
    cases d <;> cases a <;> simp [Builtin.copy_, run_underlying hu, Builtin.lenOf, Builtin.firstCells, sizeOf, typeInfo, hq, hn, storeCells, hl]
theorem make_rowN (t e : TypeId) (s by_ n : Nat) (N : Int) (ht : P.underlying t = some (.slice e)) (hi : (P.info? e).map (fun i => (i.zero.isSome, i.size, i.bytes)) = some (true, s, by_)) (hN : N = (n : Int)) (hn : n ≤ 2097152) (hb : by_ ≤ 1000) :
    ∃ rest : List Value, rest.length = n * s ∧ ∀ W : World, (Instr.makeSlice t (.int .i64 N) (.int .i64 N)).run P W = .ok (.slice (some ⟨W.heap.size, 0, none⟩) n n) (W.alloc (.cells rest.toArray e)) := by
  cases h : P.info? e with
  | none => rw [h] at hi; cases hi
  | some i =>
    rw [h] at hi
    simp only [Option.map_some, Option.some.injEq, Prod.mk.injEq] at hi
    obtain ⟨h1, h2, h3⟩ := hi
    obtain ⟨z, hz⟩ := Option.isSome_iff_exists.1 h1
    have hbb : (by_ : Int) * N ≤ 281474976710656 := by
      have := Nat.mul_le_mul hb hn
      rw [hN]
      omega
    refine ⟨(madeCells z.cells (n * s)).toList, by simp [size_madeCells], fun W => ?_⟩
    have := run_make (P := P) W t e i z ht h hz .i64 .i64 N N (by omega) (Int.le_refl _) (by rw [h3]; exact hbb) (by omega)
    rw [this, h2, hN]
    simp
end
theorem lenU (l : List U2) : ∀ c ∈ l.map U2.cells, c.length = 2 := fun c hc => by
  obtain ⟨u, _, rfl⟩ := List.mem_map.1 hc
  rfl
theorem lenA (l : List A8) : ∀ c ∈ l.map A8.cells, c.length = 8 := fun c hc => by
  obtain ⟨u, _, rfl⟩ := List.mem_map.1 hc
  rfl
theorem lenE (l : List E4) : ∀ c ∈ l.map E4.cells, c.length = 4 := fun c hc => by
  obtain ⟨u, _, rfl⟩ := List.mem_map.1 hc
  rfl
theorem lenV (l : List R7) : ∀ c ∈ l.map R7.cells, c.length = 7 := fun c hc => by
  obtain ⟨u, _, rfl⟩ := List.mem_map.1 hc
  rfl
theorem oneU (l : List U2) : ∀ v ∈ (l.map U2.cells).flatten, v.oneCell' = true := fun v hv => by
  obtain ⟨c, hc, hv⟩ := List.mem_flatten.1 hv
  obtain ⟨u, _, rfl⟩ := List.mem_map.1 hc
  simp only [U2.cells, List.mem_cons, List.not_mem_nil, or_false] at hv
  rcases hv with rfl | rfl <;> rfl
theorem oneA (l : List A8) : ∀ v ∈ (l.map A8.cells).flatten, v.oneCell' = true := fun v hv => by
  obtain ⟨c, hc, hv⟩ := List.mem_flatten.1 hv
  obtain ⟨u, _, rfl⟩ := List.mem_map.1 hc
  simp only [A8.cells, List.mem_cons, List.not_mem_nil, or_false] at hv
  rcases hv with rfl | rfl | rfl | rfl | rfl | rfl | rfl | rfl <;> rfl
theorem oneE (l : List E4) : ∀ v ∈ (l.map E4.cells).flatten, v.oneCell' = true := fun v hv => by
  obtain ⟨c, hc, hv⟩ := List.mem_flatten.1 hv
  obtain ⟨u, _, rfl⟩ := List.mem_map.1 hc
  simp only [E4.cells, List.mem_cons, List.not_mem_nil, or_false] at hv
  rcases hv with rfl | rfl | rfl | rfl <;> rfl
theorem oneV (l : List R7) : ∀ v ∈ (l.map R7.cells).flatten, v.oneCell' = true := fun v hv => by
  obtain ⟨c, hc, hv⟩ := List.mem_flatten.1 hv
  obtain ⟨u, _, rfl⟩ := List.mem_map.1 hc
  simp only [R7.cells, List.mem_cons, List.not_mem_nil, or_false] at hv
  rcases hv with rfl | rfl | rfl | rfl | rfl | rfl | rfl <;> rfl
end Go.Proofs.Ytfnfdpkndkcmbaa
