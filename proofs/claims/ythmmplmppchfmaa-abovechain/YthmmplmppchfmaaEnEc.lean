/-
  Uids, attributes, entities in memory; what a row of things is told (no program in it).
  Rows of things of several cells: laid one behind the other, made, copied (no walk in it).
  ents.copyList of uids, attributes, values: what it returns.
-/
import Derived.Test.YthmmplmppchfmaaR7A
import Derived.Test.YthmmplmppchfmaaWorlds
import Derived.Laws.CopyRow
import Derived.Laws.IdiomCopy
import Derived.Laws.MakeOwn
import Derived.Test.YthmmplmppchfmaaVcAD
namespace Go.Proofs.Ythmmplmppchfmaa
open Go.RowKit Go.Sort

/-- A uid's two fields. -/
structure U2 where
  t : ByteArray
  i : ByteArray
deriving DecidableEq
def U2.cells (u : U2) : List Value := [.string u.t, .string u.i]
def U2.val (u : U2) : Value := .agg #[.string u.t, .string u.i]
/-- An attribute's eight. -/
structure A8 where
  nm : ByteArray
  v : R7
def A8.cells (a : A8) : List Value := [.string a.nm, .int .i64 a.v.k, .bool a.v.b, .int .i64 a.v.n, .string a.v.s, .string a.v.t, .string a.v.i, .slice a.v.lo a.v.ll a.v.lc]
def A8.val (a : A8) : Value := .agg #[.string a.nm, .int .i64 a.v.k, .bool a.v.b, .int .i64 a.v.n, .string a.v.s, .string a.v.t, .string a.v.i, .slice a.v.lo a.v.ll a.v.lc]
/-- An entity's four. -/
structure E4 where
  t : ByteArray
  i : ByteArray
  po : Option Addr
  pl : Nat
  pc : Nat
  ao : Option Addr
  al : Nat
  ac : Nat
def E4.cells (e : E4) : List Value := [.string e.t, .string e.i, .slice e.po e.pl e.pc, .slice e.ao e.al e.ac]
def E4.val (e : E4) : Value := .agg #[.string e.t, .string e.i, .slice e.po e.pl e.pc, .slice e.ao e.al e.ac]

/-- The cells of a slice, n to an element. -/
def RowG (w : World) (ao : Option Addr) (n : Nat) (l : List (List Value)) : Prop :=
  ∀ j (hj : j < l.length), ∃ b off, ao = some ⟨b, off, none⟩ ∧ b < w.heap.size ∧ ∀ c v, l[j][c]? = some v → w.cell? ⟨b, off + j * n + c, none⟩ = some v
theorem RowG.below {w w' : World} {ao : Option Addr} {n : Nat} {l : List (List Value)} (h : RowG w ao n l) (hb : Below w.heap.size w w') : RowG w' ao n l := by
  intro j hj
  obtain ⟨b, off, e, hlt, hc⟩ := h j hj
  have := hb.size
  exact ⟨b, off, e, by omega, fun c v hv => (hb.cell (p := ⟨b, off + j * n + c, none⟩) hlt).trans (hc c v hv)⟩
theorem rowG_at {α : Type} {f : α → List Value} {w wr : World} {ao : Option Addr} {n : Nat} {l : List α} (h : RowG w ao n (l.map f)) (hbw : Below w.heap.size w wr) {j : Nat} (hj : j < l.length) :
    ∃ b off, ao = some ⟨b, off, none⟩ ∧ b < w.heap.size ∧ ∀ c v, (f l[j])[c]? = some v → wr.cell? ⟨b, off + j * n + c, none⟩ = some v := by
  obtain ⟨b, off, e, hb, hc⟩ := h j (by simpa using hj)
  refine ⟨b, off, e, hb, fun c v hv => (hbw.cell (p := ⟨b, off + j * n + c, none⟩) hb).trans (hc c v ?_)⟩
  simpa using hv
theorem rowG_nil (w : World) (ao : Option Addr) (n : Nat) : RowG w ao n [] := fun _ hj => absurd hj (Nat.not_lt_zero _)

/-- An element's cells in a world, and in every world that a region may be in. -/
structure AtE2 (w : World) (b o : Nat) (u : U2) : Prop where
  c0 : w.cell? ⟨b, o, none⟩ = some (.string u.t)
  c1 : w.cell? ⟨b, o + 1, none⟩ = some (.string u.i)
structure AtE2G (w : World) (b o : Nat) (u : U2) : Prop where
  c0 : ∀ d os, (grow (redrawn w d) os).cell? ⟨b, o, none⟩ = some (.string u.t)
  c1 : ∀ d os, (grow (redrawn w d) os).cell? ⟨b, o + 1, none⟩ = some (.string u.i)
theorem AtE2.of {w : World} {b o : Nat} {u : U2} (h : ∀ c v, u.cells[c]? = some v → w.cell? ⟨b, o + c, none⟩ = some v) : AtE2 w b o u := ⟨h 0 _ rfl, h 1 _ rfl⟩
theorem AtE2.below {w w' : World} {b o B : Nat} {u : U2} (h : AtE2 w b o u) (hb : Below B w w') (hlt : b < B) : AtE2 w' b o u := ⟨(hb.cell (p := ⟨b, o, none⟩) hlt).trans h.c0, (hb.cell (p := ⟨b, o + 1, none⟩) hlt).trans h.c1⟩
theorem AtE2.up {w : World} {b o : Nat} {u : U2} (h : AtE2 w b o u) : AtE2G w b o u := ⟨cell_regrown h.c0, cell_regrown h.c1⟩
structure AtE4 (w : World) (b o : Nat) (e : E4) : Prop where
  c0 : w.cell? ⟨b, o, none⟩ = some (.string e.t)
  c1 : w.cell? ⟨b, o + 1, none⟩ = some (.string e.i)
  c2 : w.cell? ⟨b, o + 2, none⟩ = some (.slice e.po e.pl e.pc)
  c3 : w.cell? ⟨b, o + 3, none⟩ = some (.slice e.ao e.al e.ac)
structure AtE4G (w : World) (b o : Nat) (e : E4) : Prop where
  c0 : ∀ d os, (grow (redrawn w d) os).cell? ⟨b, o, none⟩ = some (.string e.t)
  c1 : ∀ d os, (grow (redrawn w d) os).cell? ⟨b, o + 1, none⟩ = some (.string e.i)
  c2 : ∀ d os, (grow (redrawn w d) os).cell? ⟨b, o + 2, none⟩ = some (.slice e.po e.pl e.pc)
  c3 : ∀ d os, (grow (redrawn w d) os).cell? ⟨b, o + 3, none⟩ = some (.slice e.ao e.al e.ac)
theorem AtE4.of {w : World} {b o : Nat} {e : E4} (h : ∀ c v, e.cells[c]? = some v → w.cell? ⟨b, o + c, none⟩ = some v) : AtE4 w b o e := ⟨h 0 _ rfl, h 1 _ rfl, h 2 _ rfl, h 3 _ rfl⟩
theorem AtE4.below {w w' : World} {b o B : Nat} {e : E4} (h : AtE4 w b o e) (hb : Below B w w') (hlt : b < B) : AtE4 w' b o e := ⟨(hb.cell (p := ⟨b, o, none⟩) hlt).trans h.c0, (hb.cell (p := ⟨b, o + 1, none⟩) hlt).trans h.c1, (hb.cell (p := ⟨b, o + 2, none⟩) hlt).trans h.c2, (hb.cell (p := ⟨b, o + 3, none⟩) hlt).trans h.c3⟩
theorem AtE4.up {w : World} {b o : Nat} {e : E4} (h : AtE4 w b o e) : AtE4G w b o e := ⟨cell_regrown h.c0, cell_regrown h.c1, cell_regrown h.c2, cell_regrown h.c3⟩
structure AtE8 (w : World) (b o : Nat) (a : A8) : Prop where
  c0 : w.cell? ⟨b, o, none⟩ = some (.string a.nm)
  c1 : w.cell? ⟨b, o + 1, none⟩ = some (.int .i64 a.v.k)
  c2 : w.cell? ⟨b, o + 2, none⟩ = some (.bool a.v.b)
  c3 : w.cell? ⟨b, o + 3, none⟩ = some (.int .i64 a.v.n)
  c4 : w.cell? ⟨b, o + 4, none⟩ = some (.string a.v.s)
  c5 : w.cell? ⟨b, o + 5, none⟩ = some (.string a.v.t)
  c6 : w.cell? ⟨b, o + 6, none⟩ = some (.string a.v.i)
  c7 : w.cell? ⟨b, o + 7, none⟩ = some (.slice a.v.lo a.v.ll a.v.lc)
structure AtE8G (w : World) (b o : Nat) (a : A8) : Prop where
  c0 : ∀ d os, (grow (redrawn w d) os).cell? ⟨b, o, none⟩ = some (.string a.nm)
  c1 : ∀ d os, (grow (redrawn w d) os).cell? ⟨b, o + 1, none⟩ = some (.int .i64 a.v.k)
  c2 : ∀ d os, (grow (redrawn w d) os).cell? ⟨b, o + 2, none⟩ = some (.bool a.v.b)
  c3 : ∀ d os, (grow (redrawn w d) os).cell? ⟨b, o + 3, none⟩ = some (.int .i64 a.v.n)
  c4 : ∀ d os, (grow (redrawn w d) os).cell? ⟨b, o + 4, none⟩ = some (.string a.v.s)
  c5 : ∀ d os, (grow (redrawn w d) os).cell? ⟨b, o + 5, none⟩ = some (.string a.v.t)
  c6 : ∀ d os, (grow (redrawn w d) os).cell? ⟨b, o + 6, none⟩ = some (.string a.v.i)
  c7 : ∀ d os, (grow (redrawn w d) os).cell? ⟨b, o + 7, none⟩ = some (.slice a.v.lo a.v.ll a.v.lc)
theorem AtE8.of {w : World} {b o : Nat} {a : A8} (h : ∀ c v, a.cells[c]? = some v → w.cell? ⟨b, o + c, none⟩ = some v) : AtE8 w b o a := ⟨h 0 _ rfl, h 1 _ rfl, h 2 _ rfl, h 3 _ rfl, h 4 _ rfl, h 5 _ rfl, h 6 _ rfl, h 7 _ rfl⟩
theorem AtE8.below {w w' : World} {b o B : Nat} {a : A8} (h : AtE8 w b o a) (hb : Below B w w') (hlt : b < B) : AtE8 w' b o a := ⟨(hb.cell (p := ⟨b, o, none⟩) hlt).trans h.c0, (hb.cell (p := ⟨b, o + 1, none⟩) hlt).trans h.c1, (hb.cell (p := ⟨b, o + 2, none⟩) hlt).trans h.c2, (hb.cell (p := ⟨b, o + 3, none⟩) hlt).trans h.c3, (hb.cell (p := ⟨b, o + 4, none⟩) hlt).trans h.c4, (hb.cell (p := ⟨b, o + 5, none⟩) hlt).trans h.c5, (hb.cell (p := ⟨b, o + 6, none⟩) hlt).trans h.c6, (hb.cell (p := ⟨b, o + 7, none⟩) hlt).trans h.c7⟩
theorem AtE8.up {w : World} {b o : Nat} {a : A8} (h : AtE8 w b o a) : AtE8G w b o a := ⟨cell_regrown h.c0, cell_regrown h.c1, cell_regrown h.c2, cell_regrown h.c3, cell_regrown h.c4, cell_regrown h.c5, cell_regrown h.c6, cell_regrown h.c7⟩

/-! ## What a row is told. -/

section
variable {α : Type} (chk : α → Int) (less : α → α → Bool)
def prevO : Option α → α → Bool
  | none, _ => true
  | some p, e => less p e
/-- Each by itself, then behind the one ahead. -/
def rowGo : Option α → List α → Int
  | _, [] => 0
  | prev, e :: t => if chk e ≠ 0 then chk e else if prevO less prev e = false then 1 else rowGo (some e) t
def rowE (most : Nat) (l : List α) : Int := if most < l.length then 4 else rowGo chk less none l
theorem rowGo_cons (prev : Option α) (e : α) (t : List α) : rowGo chk less prev (e :: t) = if chk e ≠ 0 then chk e else if prevO less prev e = false then 1 else rowGo chk less (some e) t := by
  cases prev <;> rfl
structure RowInvE (l : List α) (j : Nat) : Prop where
  le : j ≤ l.length
  rest : rowGo chk less none l = rowGo chk less (if j = 0 then none else l[j - 1]?) (l.drop j)
theorem row_start (l : List α) : RowInvE chk less l 0 := ⟨Nat.zero_le _, rfl⟩
variable {chk less}
theorem row_round {l : List α} {j : Nat} (inv : RowInvE chk less l j) (hj : j < l.length) :
    (chk l[j] ≠ 0 → rowGo chk less none l = chk l[j]) ∧
    (chk l[j] = 0 → (j = 0 ∨ ∃ h : j - 1 < l.length, less l[j - 1] l[j] = true) → RowInvE chk less l (j + 1)) ∧
    (chk l[j] = 0 → 0 < j → (∀ h : j - 1 < l.length, less l[j - 1] l[j] = false) → rowGo chk less none l = 1) := by
  have hd : l.drop j = l[j] :: l.drop (j + 1) := List.drop_eq_getElem_cons hj
  have hr := inv.rest
  rw [hd, rowGo_cons] at hr
  refine ⟨fun h => ?_, fun h h2 => ⟨hj, ?_⟩, fun h h0 h2 => ?_⟩
  · rw [hr, if_pos h]
  · rw [if_neg (fun hn => hn h)] at hr
    have hp : prevO less (if j = 0 then none else l[j - 1]?) l[j] = true := by
      rcases h2 with rfl | ⟨hl, h2⟩
      · rfl
      · by_cases h0 : j = 0
        · rw [if_pos h0]
          rfl
        · rw [if_neg h0, List.getElem?_eq_getElem hl]
          exact h2
    rw [if_neg (by rw [hp]; decide)] at hr
    rw [hr, if_neg (Nat.succ_ne_zero j)]
    congr 1
    simp [hj]
  · rw [if_neg (fun hn => hn h)] at hr
    have hl : j - 1 < l.length := by omega
    have hp : prevO less (if j = 0 then none else l[j - 1]?) l[j] = false := by
      rw [if_neg (by omega), List.getElem?_eq_getElem hl]
      exact h2 hl
    rw [if_pos hp] at hr
    exact hr
theorem row_end {l : List α} {j : Nat} (inv : RowInvE chk less l j) (hj : ¬ j < l.length) : rowGo chk less none l = 0 := by
  have hd : l.drop j = [] := List.drop_eq_nil_of_le (by omega)
  rw [inv.rest, hd]
  cases (if j = 0 then none else l[j - 1]?) <;> rfl
end
end Go.Proofs.Ythmmplmppchfmaa

namespace Go.Proofs.Ythmmplmppchfmaa
open Go.RowKit Go.Sort

theorem flatG_len {n : Nat} : ∀ (l : List (List Value)), (∀ c ∈ l, c.length = n) → l.flatten.length = l.length * n
  | [], _ => by simp
  | c :: l, h => by
    rw [List.flatten_cons, List.length_append, flatG_len l (fun x hx => h x (List.mem_cons_of_mem _ hx)), h c List.mem_cons_self, List.length_cons, Nat.succ_mul]
    omega
theorem flat_get {n : Nat} : ∀ (l : List (List Value)), (∀ c ∈ l, c.length = n) → ∀ (j c : Nat) (hj : j < l.length), c < n → l.flatten[j * n + c]? = l[j][c]?
  | [], _, j, _, hj, _ => absurd hj (Nat.not_lt_zero _)
  | x :: l, h, 0, c, _, hc => by
    have := h x List.mem_cons_self
    rw [List.flatten_cons, Nat.zero_mul, Nat.zero_add, List.getElem?_append_left (by omega)]
    rfl
  | x :: l, h, j + 1, c, hj, hc => by
    have hx := h x List.mem_cons_self
    rw [List.flatten_cons, List.getElem?_append_right (by rw [hx, Nat.succ_mul]; omega), hx, show (j + 1) * n + c - n = j * n + c by rw [Nat.succ_mul]; omega]
    exact flat_get l (fun y hy => h y (List.mem_cons_of_mem _ hy)) j c (by simpa using hj) hc
/-- What a place of the row holds is what an element has there. -/
theorem flat_at {n : Nat} {l : List (List Value)} (h : ∀ c ∈ l, c.length = n) {k : Nat} {v : Value} (hv : l.flatten[k]? = some v) : ∃ (j c : Nat) (hj : j < l.length), k = j * n + c ∧ l[j][c]? = some v := by
  have hk : k < l.length * n := by
    have := (List.getElem?_eq_some_iff.1 hv).1
    rwa [flatG_len l h] at this
  have hn : 0 < n := by
    rcases Nat.eq_zero_or_pos n with h0 | h0
    · subst h0
      simp at hk
    · exact h0
  have hj : k / n < l.length := (Nat.div_lt_iff_lt_mul hn).2 hk
  have hc : k % n < n := Nat.mod_lt _ hn
  have e : k = k / n * n + k % n := by
    have := Nat.div_add_mod k n
    rw [Nat.mul_comm]
    exact this.symm
  refine ⟨k / n, k % n, hj, e, ?_⟩
  rw [← flat_get l h _ _ hj hc, ← e]
  exact hv
theorem row_flat {w : World} {b off n : Nat} {l : List (List Value)} (hn : ∀ c ∈ l, c.length = n) (h : RowG w (some ⟨b, off, none⟩) n l) : ∀ k v, l.flatten[k]? = some v → w.cell? ((⟨b, off, none⟩ : Addr).add k) = some v := by
  intro k v hv
  obtain ⟨j, c, hj, rfl, hc⟩ := flat_at hn hv
  obtain ⟨b', off', e, _, hcell⟩ := h j hj
  cases e
  rw [Addr.add_lit, show off + (j * n + c) = off + j * n + c by omega]
  exact hcell c v hc
theorem row_of_flat {w : World} {g n : Nat} {T : TypeId} {fr : Nat × Nat} {l : List (List Value)} (hn : ∀ c ∈ l, c.length = n) (h : w.heap[g]? = some (.cells l.flatten.toArray T fr)) : RowG w (some ⟨g, 0, none⟩) n l := by
  intro j hj
  refine ⟨g, 0, rfl, (Array.getElem?_eq_some_iff.1 h).1, fun c v hv => ?_⟩
  have hc : c < n := by
    have := (List.getElem?_eq_some_iff.1 hv).1
    rwa [hn _ (List.getElem_mem hj)] at this
  rw [Lib.cell_of_heap h, Nat.zero_add]
  simpa using (flat_get l hn j c hj hc).trans hv

/-- A row in a block of its own, from B on; or none. -/
def OwnR (w : World) (B : Nat) (T : TypeId) (ao : Option Addr) (l : List (List Value)) : Prop :=
  (l = [] ∧ ao = none) ∨ (l ≠ [] ∧ ∃ g, B ≤ g ∧ ao = some ⟨g, 0, none⟩ ∧ w.heap[g]? = some (.cells l.flatten.toArray T (0, 0)))
theorem OwnR.row {w : World} {B n : Nat} {T : TypeId} {ao : Option Addr} {l : List (List Value)} (hn : ∀ c ∈ l, c.length = n) (h : OwnR w B T ao l) : RowG w ao n l := by
  rcases h with ⟨rfl, rfl⟩ | ⟨_, g, _, rfl, hg⟩
  · exact rowG_nil _ _ _
  · exact row_of_flat hn hg
theorem OwnR.below {w w' : World} {B : Nat} {T : TypeId} {ao : Option Addr} {l : List (List Value)} (h : OwnR w B T ao l) (hb : Below w.heap.size w w') : OwnR w' B T ao l := by
  rcases h with h | ⟨h0, g, hB, e, hg⟩
  · exact .inl h
  · exact .inr ⟨h0, g, hB, e, (hb.block g (Array.getElem?_eq_some_iff.1 hg).1).trans hg⟩

section
variable {P : Program}
theorem run_copy_rowN (w : World) (dT sT ty elem : TypeId) (s n g o dLen dCap : Nat) (a : Addr) (sLen sCap : Nat) (cur : Array Value) (t : TypeId) (cs : List Value)
    (hu : P.underlying dT = some (.slice elem)) (hs : (P.info? elem).map (·.size) = some s)
    (hg : w.heap[g]? = some (.cells cur t (0, 0))) (hn : n = Nat.min sLen dLen) (hcs : cs.length = n * s)
    (hsrc : ∀ j v, cs[j]? = some v → w.cell? (a.add j) = some v) (hfit : o + cs.length ≤ cur.size) (h1 : ∀ v ∈ cs, v.oneCell' = true) :
    (Builtin.copy_ #[dT, sT] ty #[.slice (some ⟨g, o, none⟩) dLen dCap, .slice (some a) sLen sCap]).run P w =
      .ok (goInt n) (w.setRow g (cur.toList.take o ++ cs ++ cur.toList.drop (o + cs.length)).toArray) := by
  have hl := run_loadCells_list (P := P) w a cs hsrc
  have hst := run_storeCells_at P g o t cs 0 cur w hg (by simpa using hfit) h1
  rw [hcs] at hl
  cases hq : P.info? elem with
  | none => simp [hq] at hs
  | some i =>
    have hi : i.size = s := by simpa [hq] using hs
    simp [Builtin.copy_, run_underlying hu, Builtin.lenOf, Builtin.firstCells, sizeOf, typeInfo, hq, hi, ← hn, hl, hst]
theorem run_copy_noneN (w : World) (dT sT ty elem : TypeId) (s : Nat) (d a : Option Addr) (dLen dCap sLen sCap : Nat) (hu : P.underlying dT = some (.slice elem)) (hs : (P.info? elem).map (·.size) = some s) (hn : Nat.min sLen dLen = 0) :
    (Builtin.copy_ #[dT, sT] ty #[.slice d dLen dCap, .slice a sLen sCap]).run P w = .ok (goInt 0) w := by
  cases hq : P.info? elem with
  | none => simp [hq] at hs
  | some i =>
    have hl : ∀ (x : Addr), (loadCells x 0).run P w = .ok #[] w := fun x => by simpa using run_loadCells_list (P := P) w x [] (by simp)
    cases d <;> cases a <;> simp [Builtin.copy_, run_underlying hu, Builtin.lenOf, Builtin.firstCells, sizeOf, typeInfo, hq, hn, storeCells, hl]
theorem make_rowN (t e : TypeId) (s by_ n : Nat) (N : Int) (ht : P.underlying t = some (.slice e)) (hi : (P.info? e).map (fun i => (i.zero.isSome, i.size, i.bytes)) = some (true, s, by_)) (hN : N = (n : Int)) (hn : n ≤ 2097152) (hb : by_ ≤ 1000) :
    ∃ rest : List Value, rest.length = n * s ∧ ∀ W : World, (Instr.makeSlice t (.int .i64 N) (.int .i64 N)).run P W = .ok (.slice (some ⟨W.heap.size, 0, none⟩) n n) (W.alloc (.cells rest.toArray e)) := by
  cases h : P.info? e with
  | none => rw [h] at hi; cases hi
  | some i =>
    rw [h] at hi
    simp only [Option.map_some, Option.some.injEq, Prod.mk.injEq] at hi
    obtain ⟨h1, h2, h3⟩ := hi
    obtain ⟨z, hz⟩ := Option.isSome_iff_exists.1 h1
    have hbb : (by_ : Int) * N ≤ 281474976710656 := by
      have := Nat.mul_le_mul hb hn
      rw [hN]
      omega
    refine ⟨(madeCells z.cells (n * s)).toList, by simp [size_madeCells], fun W => ?_⟩
    have := run_make (P := P) W t e i z ht h hz .i64 .i64 N N (by omega) (Int.le_refl _) (by rw [h3]; exact hbb) (by omega)
    rw [this, h2, hN]
    simp
end
theorem lenU (l : List U2) : ∀ c ∈ l.map U2.cells, c.length = 2 := fun c hc => by
  obtain ⟨u, _, rfl⟩ := List.mem_map.1 hc
  rfl
theorem lenA (l : List A8) : ∀ c ∈ l.map A8.cells, c.length = 8 := fun c hc => by
  obtain ⟨u, _, rfl⟩ := List.mem_map.1 hc
  rfl
theorem lenE (l : List E4) : ∀ c ∈ l.map E4.cells, c.length = 4 := fun c hc => by
  obtain ⟨u, _, rfl⟩ := List.mem_map.1 hc
  rfl
theorem lenV (l : List R7) : ∀ c ∈ l.map R7.cells, c.length = 7 := fun c hc => by
  obtain ⟨u, _, rfl⟩ := List.mem_map.1 hc
  rfl
theorem oneU (l : List U2) : ∀ v ∈ (l.map U2.cells).flatten, v.oneCell' = true := fun v hv => by
  obtain ⟨c, hc, hv⟩ := List.mem_flatten.1 hv
  obtain ⟨u, _, rfl⟩ := List.mem_map.1 hc
  simp only [U2.cells, List.mem_cons, List.not_mem_nil, or_false] at hv
  rcases hv with rfl | rfl <;> rfl
theorem oneA (l : List A8) : ∀ v ∈ (l.map A8.cells).flatten, v.oneCell' = true := fun v hv => by
  obtain ⟨c, hc, hv⟩ := List.mem_flatten.1 hv
  obtain ⟨u, _, rfl⟩ := List.mem_map.1 hc
  simp only [A8.cells, List.mem_cons, List.not_mem_nil, or_false] at hv
  rcases hv with rfl | rfl | rfl | rfl | rfl | rfl | rfl | rfl <;> rfl
theorem oneE (l : List E4) : ∀ v ∈ (l.map E4.cells).flatten, v.oneCell' = true := fun v hv => by
  obtain ⟨c, hc, hv⟩ := List.mem_flatten.1 hv
  obtain ⟨u, _, rfl⟩ := List.mem_map.1 hc
  simp only [E4.cells, List.mem_cons, List.not_mem_nil, or_false] at hv
  rcases hv with rfl | rfl | rfl | rfl <;> rfl
theorem oneV (l : List R7) : ∀ v ∈ (l.map R7.cells).flatten, v.oneCell' = true := fun v hv => by
  obtain ⟨c, hc, hv⟩ := List.mem_flatten.1 hv
  obtain ⟨u, _, rfl⟩ := List.mem_map.1 hc
  simp only [R7.cells, List.mem_cons, List.not_mem_nil, or_false] at hv
  rcases hv with rfl | rfl | rfl | rfl | rfl | rfl | rfl <;> rfl
end Go.Proofs.Ythmmplmppchfmaa

namespace Go.Proofs.Ythmmplmppchfmaa
open Go.RowKit Go.Sort

/-- A copy of a whole row into one as long, that was made for it. -/
theorem copy_rowN {P : Program} (w : World) (g n : Nat) (l : List (List Value)) (ao : Option Addr) (cap L : Nat) (rest : List Value) (dT ty elem T : TypeId) (hu : P.underlying dT = some (.slice elem)) (hs : (P.info? elem).map (·.size) = some n) (hL : L = l.length) (h0 : 0 < l.length) (hn : ∀ c ∈ l, c.length = n) (h1 : ∀ v ∈ l.flatten, v.oneCell' = true) (hr : rest.length = L * n) (hg : w.heap[g]? = some (.cells rest.toArray T (0, 0))) (h : RowG w ao n l) :
    ∃ w', (Builtin.copy_ #[dT, dT] ty #[.slice (some ⟨g, 0, none⟩) L L, .slice ao L cap]).run P w = .ok (.int .i64 L) w' ∧ w'.heap[g]? = some (.cells l.flatten.toArray T (0, 0)) ∧ (∀ B w0, Below B w0 w → B ≤ g → Below B w0 w') ∧ w'.heap.size = w.heap.size := by
  obtain ⟨b, off, rfl, _, _⟩ := h 0 h0
  have hfl := flatG_len l hn
  have := run_copy_rowN (P := P) w dT dT ty elem n L g 0 L L ⟨b, off, none⟩ L cap rest.toArray T l.flatten hu hs hg (Nat.min_self _).symm (by rw [hfl, hL]) (row_flat hn h) (by rw [hfl]; simp [hr, hL]) h1
  refine ⟨_, this, ?_, fun B w0 hb hB => hb.trans ⟨rfl, rfl, rfl, by simp [World.setRow], fun k hk => setRow_other w g k _ (by omega)⟩, by simp [World.setRow]⟩
  rw [setRow_heap w g _ _ T _ hg]
  simp [hfl, hr, hL]

theorem szUid : (Try.prog.info? 28).map (·.size) = some 2 := by kernel_rfl
theorem inUid : (Try.prog.info? 28).map (fun i => (i.zero.isSome, i.size, i.bytes)) = some (true, 2, 32) := by kernel_rfl
theorem szAttr : (Try.prog.info? 51).map (·.size) = some 8 := by kernel_rfl
theorem inAttr : (Try.prog.info? 51).map (fun i => (i.zero.isSome, i.size, i.bytes)) = some (true, 8, 112) := by kernel_rfl
theorem szValue : (Try.prog.info? 49).map (·.size) = some 7 := by kernel_rfl
theorem inValue : (Try.prog.info? 49).map (fun i => (i.zero.isSome, i.size, i.bytes)) = some (true, 7, 96) := by kernel_rfl
end Go.Proofs.Ythmmplmppchfmaa
