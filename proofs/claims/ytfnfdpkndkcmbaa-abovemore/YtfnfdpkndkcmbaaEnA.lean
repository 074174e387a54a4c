/-
  Uids, attributes, entities in memory; what a row of things is told (no program in it).
-/
import Derived.Test.YtfnfdpkndkcmbaaR7A
namespace Go.Proofs.Ytfnfdpkndkcmbaa
open Go.RowKit Go.Sort

/-- A uid's two fields. -/
structure U2 where
  t : ByteArray
  i : ByteArray
deriving DecidableEq
def U2.cells (u : U2) : List Value := [.string u.t, .string u.i]
def U2.val (u : U2) : Value := .agg #[.string u.t, .string u.i]
/-- An attribute's eight. -/
structure A8 where
  nm : ByteArray
  v : R7
def A8.cells (a : A8) : List Value := [.string a.nm, .int .i64 a.v.k, .bool a.v.b, .int .i64 a.v.n, .string a.v.s, .string a.v.t, .string a.v.i, .slice a.v.lo a.v.ll a.v.lc]
def A8.val (a : A8) : Value := .agg #[.string a.nm, .int .i64 a.v.k, .bool a.v.b, .int .i64 a.v.n, .string a.v.s, .string a.v.t, .string a.v.i, .slice a.v.lo a.v.ll a.v.lc]
/-- An entity's four. -/
structure E4 where
  t : ByteArray
  i : ByteArray
  po : Option Addr
  pl : Nat
  pc : Nat
  ao : Option Addr
  al : Nat
  ac : Nat
def E4.cells (e : E4) : List Value := [.string e.t, .string e.i, .slice e.po e.pl e.pc, .slice e.ao e.al e.ac]
def E4.val (e : E4) : Value := .agg #[.string e.t, .string e.i, .slice e.po e.pl e.pc, .slice e.ao e.al e.ac]

/-- The cells of a slice, n to an element. -/
def RowG (w : World) (ao : Option Addr) (n : Nat) (l : List (List Value)) : Prop :=
  ∀ j (hj : j < l.length), ∃ b off, ao = some ⟨b, off, none⟩ ∧ b < w.heap.size ∧ ∀ c v, l[j][c]? = some v → w.cell? ⟨b, off + j * n + c, none⟩ = some v
theorem RowG.below {w w' : World} {ao : Option Addr} {n : Nat} {l : List (List Value)} (h : RowG w ao n l) (hb : Below w.heap.size w w') : RowG w' ao n l := by
  intro j hj
  obtain ⟨b, off, e, hlt, hc⟩ := h j hj
  have := hb.size
  exact ⟨b, off, e, by omega, fun c v hv => (hb.cell (p := ⟨b, off + j * n + c, none⟩) hlt).trans (hc c v hv)⟩
theorem rowG_at {α : Type} {f : α → List Value} {w wr : World} {ao : Option Addr} {n : Nat} {l : List α} (h : RowG w ao n (l.map f)) (hbw : Below w.heap.size w wr) {j : Nat} (hj : j < l.length) :
    ∃ b off, ao = some ⟨b, off, none⟩ ∧ b < w.heap.size ∧ ∀ c v, (f l[j])[c]? = some v → wr.cell? ⟨b, off + j * n + c, none⟩ = some v := by
  obtain ⟨b, off, e, hb, hc⟩ := h j (by simpa using hj)
  refine ⟨b, off, e, hb, fun c v hv => (hbw.cell (p := ⟨b, off + j * n + c, none⟩) hb).trans (hc c v ?_)⟩
  simpa using hv
theorem rowG_nil (w : World) (ao : Option Addr) (n : Nat) : RowG w ao n [] := fun _ hj => absurd hj (Nat.not_lt_zero _)

/-- An element's cells in a world, and in every world that a region may be in. -/
structure AtE2 (w : World) (b o : Nat) (u : U2) : Prop where
  c0 : w.cell? ⟨b, o, none⟩ = some (.string u.t)
  c1 : w.cell? ⟨b, o + 1, none⟩ = some (.string u.i)
structure AtE2G (w : World) (b o : Nat) (u : U2) : Prop where
  c0 : ∀ d os, (grow (redrawn w d) os).cell? ⟨b, o, none⟩ = some (.string u.t)
  c1 : ∀ d os, (grow (redrawn w d) os).cell? ⟨b, o + 1, none⟩ = some (.string u.i)
theorem AtE2.of {w : World} {b o : Nat} {u : U2} (h : ∀ c v, u.cells[c]? = some v → w.cell? ⟨b, o + c, none⟩ = some v) : AtE2 w b o u := ⟨h 0 _ rfl, h 1 _ rfl⟩
theorem AtE2.below {w w' : World} {b o B : Nat} {u : U2} (h : AtE2 w b o u) (hb : Below B w w') (hlt : b < B) : AtE2 w' b o u := ⟨(hb.cell (p := ⟨b, o, none⟩) hlt).trans h.c0, (hb.cell (p := ⟨b, o + 1, none⟩) hlt).trans h.c1⟩
theorem AtE2.up {w : World} {b o : Nat} {u : U2} (h : AtE2 w b o u) : AtE2G w b o u := ⟨cell_regrown h.c0, cell_regrown h.c1⟩
structure AtE4 (w : World) (b o : Nat) (e : E4) : Prop where
  c0 : w.cell? ⟨b, o, none⟩ = some (.string e.t)
  c1 : w.cell? ⟨b, o + 1, none⟩ = some (.string e.i)
  c2 : w.cell? ⟨b, o + 2, none⟩ = some (.slice e.po e.pl e.pc)
  c3 : w.cell? ⟨b, o + 3, none⟩ = some (.slice e.ao e.al e.ac)
structure AtE4G (w : World) (b o : Nat) (e : E4) : Prop where
  c0 : ∀ d os, (grow (redrawn w d) os).cell? ⟨b, o, none⟩ = some (.string e.t)
  c1 : ∀ d os, (grow (redrawn w d) os).cell? ⟨b, o + 1, none⟩ = some (.string e.i)
  c2 : ∀ d os, (grow (redrawn w d) os).cell? ⟨b, o + 2, none⟩ = some (.slice e.po e.pl e.pc)
  c3 : ∀ d os, (grow (redrawn w d) os).cell? ⟨b, o + 3, none⟩ = some (.slice e.ao e.al e.ac)
theorem AtE4.of {w : World} {b o : Nat} {e : E4} (h : ∀ c v, e.cells[c]? = some v → w.cell? ⟨b, o + c, none⟩ = some v) : AtE4 w b o e := ⟨h 0 _ rfl, h 1 _ rfl, h 2 _ rfl, h 3 _ rfl⟩
theorem AtE4.below {w w' : World} {b o B : Nat} {e : E4} (h : AtE4 w b o e) (hb : Below B w w') (hlt : b < B) : AtE4 w' b o e := ⟨(hb.cell (p := ⟨b, o, none⟩) hlt).trans h.c0, (hb.cell (p := ⟨b, o + 1, none⟩) hlt).trans h.c1, (hb.cell (p := ⟨b, o + 2, none⟩) hlt).trans h.c2, (hb.cell (p := ⟨b, o + 3, none⟩) hlt).trans h.c3⟩
theorem AtE4.up {w : World} {b o : Nat} {e : E4} (h : AtE4 w b o e) : AtE4G w b o e := ⟨cell_regrown h.c0, cell_regrown h.c1, cell_regrown h.c2, cell_regrown h.c3⟩
structure AtE8 (w : World) (b o : Nat) (a : A8) : Prop where
  c0 : w.cell? ⟨b, o, none⟩ = some (.string a.nm)
  c1 : w.cell? ⟨b, o + 1, none⟩ = some (.int .i64 a.v.k)
  c2 : w.cell? ⟨b, o + 2, none⟩ = some (.bool a.v.b)
  c3 : w.cell? ⟨b, o + 3, none⟩ = some (.int .i64 a.v.n)
  c4 : w.cell? ⟨b, o + 4, none⟩ = some (.string a.v.s)
  c5 : w.cell? ⟨b, o + 5, none⟩ = some (.string a.v.t)
  c6 : w.cell? ⟨b, o + 6, none⟩ = some (.string a.v.i)
  c7 : w.cell? ⟨b, o + 7, none⟩ = some (.slice a.v.lo a.v.ll a.v.lc)
structure AtE8G (w : World) (b o : Nat) (a : A8) : Prop where
  c0 : ∀ d os, (grow (redrawn w d) os).cell? ⟨b, o, none⟩ = some (.string a.nm)
  c1 : ∀ d os, (grow (redrawn w d) os).cell? ⟨b, o + 1, none⟩ = some (.int .i64 a.v.k)
  c2 : ∀ d os, (grow (redrawn w d) os).cell? ⟨b, o + 2, none⟩ = some (.bool a.v.b)
  c3 : ∀ d os, (grow (redrawn w d) os).cell? ⟨b, o + 3, none⟩ = some (.int .i64 a.v.n)
  c4 : ∀ d os, (grow (redrawn w d) os).cell? ⟨b, o + 4, none⟩ = some (.string a.v.s)
  c5 : ∀ d os, (grow (redrawn w d) os).cell? ⟨b, o + 5, none⟩ = some (.string a.v.t)
  c6 : ∀ d os, (grow (redrawn w d) os).cell? ⟨b, o + 6, none⟩ = some (.string a.v.i)
  c7 : ∀ d os, (grow (redrawn w d) os).cell? ⟨b, o + 7, none⟩ = some (.slice a.v.lo a.v.ll a.v.lc)
theorem AtE8.of {w : World} {b o : Nat} {a : A8} (h : ∀ c v, a.cells[c]? = some v → w.cell? ⟨b, o + c, none⟩ = some v) : AtE8 w b o a := ⟨h 0 _ rfl, h 1 _ rfl, h 2 _ rfl, h 3 _ rfl, h 4 _ rfl, h 5 _ rfl, h 6 _ rfl, h 7 _ rfl⟩
theorem AtE8.below {w w' : World} {b o B : Nat} {a : A8} (h : AtE8 w b o a) (hb : Below B w w') (hlt : b < B) : AtE8 w' b o a := ⟨(hb.cell (p := ⟨b, o, none⟩) hlt).trans h.c0, (hb.cell (p := ⟨b, o + 1, none⟩) hlt).trans h.c1, (hb.cell (p := ⟨b, o + 2, none⟩) hlt).trans h.c2, (hb.cell (p := ⟨b, o + 3, none⟩) hlt).trans h.c3, (hb.cell (p := ⟨b, o + 4, none⟩) hlt).trans h.c4, (hb.cell (p := ⟨b, o + 5, none⟩) hlt).trans h.c5, (hb.cell (p := ⟨b, o + 6, none⟩) hlt).trans h.c6, (hb.cell (p := ⟨b, o + 7, none⟩) hlt).trans h.c7⟩
theorem AtE8.up {w : World} {b o : Nat} {a : A8} (h : AtE8 w b o a) : AtE8G w b o a := ⟨cell_regrown h.c0, cell_regrown h.c1, cell_regrown h.c2, cell_regrown h.c3, cell_regrown h.c4, cell_regrown h.c5, cell_regrown h.c6, cell_regrown h.c7⟩

/-! ## What a row is told. -/

section
variable {α : Type} (chk : α → Int) (less : α → α → Bool)
def prevO : Option α → α → Bool
  | none, _ => true
  | some p, e => less p e
/-- Each by itself, then behind the one ahead. -/
def rowGo : Option α → List α → Int
  | _, [] => 0
  | prev, e :: t => if chk e ≠ 0 then chk e else if prevO less prev e = false then 1 else rowGo (some e) t
def rowE (most : Nat) (l : List α) : Int := if most < l.length then 4 else rowGo chk less none l
theorem rowGo_cons (prev : Option α) (e : α) (t : List α) : rowGo chk less prev (e :: t) = if chk e ≠ 0 then chk e else if prevO less prev e = false then 1 else rowGo chk less (some e) t := by
  cases prev <;> rfl
structure RowInvE (l : List α) (j : Nat) : Prop where
  le : j ≤ l.length
  rest : rowGo chk less none l = rowGo chk less (if j = 0 then none else l[j - 1]?) (l.drop j)
theorem row_start (l : List α) : RowInvE chk less l 0 := ⟨Nat.zero_le _, rfl⟩
variable {chk less}
theorem row_round {l : List α} {j : Nat} (inv : RowInvE chk less l j) (hj : j < l.length) :
    (chk l[j] ≠ 0 → rowGo chk less none l = chk l[j]) ∧
    (chk l[j] = 0 → (j = 0 ∨ ∃ h : j - 1 < l.length, less l[j - 1] l[j] = true) → RowInvE chk less l (j + 1)) ∧
    (chk l[j] = 0 → 0 < j → (∀ h : j - 1 < l.length, less l[j - 1] l[j] = false) → rowGo chk less none l = 1) := by
  have hd : l.drop j = l[j] :: l.drop (j + 1) := List.drop_eq_getElem_cons hj
  have hr := inv.rest
  rw [hd, rowGo_cons] at hr
  refine ⟨fun h => ?_, fun h h2 => ⟨hj, ?_⟩, fun h h0 h2 => ?_⟩
  · rw [hr, if_pos h]
  · rw [if_neg (fun hn => hn h)] at hr
    have hp : prevO less (if j = 0 then none else l[j - 1]?) l[j] = true := by
      rcases h2 with rfl | ⟨hl, h2⟩
      · rfl
      · by_cases h0 : j = 0
        · rw [if_pos h0]
          rfl
        · rw [if_neg h0, List.getElem?_eq_getElem hl]
          exact h2
    rw [if_neg (by rw [hp]; decide)] at hr
    rw [hr, if_neg (Nat.succ_ne_zero j)]
    congr 1
    simp [hj]
  · rw [if_neg (fun hn => hn h)] at hr
    have hl : j - 1 < l.length := by omega
    have hp : prevO less (if j = 0 then none else l[j - 1]?) l[j] = false := by
      rw [if_neg (by omega), List.getElem?_eq_getElem hl]
      exact h2 hl
    rw [if_pos hp] at hr
    exact hr
theorem row_end {l : List α} {j : Nat} (inv : RowInvE chk less l j) (hj : ¬ j < l.length) : rowGo chk less none l = 0 := by
  have hd : l.drop j = [] := List.drop_eq_nil_of_le (by omega)
  rw [inv.rest, hd]
  cases (if j = 0 then none else l[j - 1]?) <;> rfl
end
end Go.Proofs.Ytfnfdpkndkcmbaa
