/-
 Schemas as plain data, and in memory; what a schema is told (no program in it).
-/
import Derived.Test.YtagnbpobcijakaaEnA
import Derived.Test.YtagnbpobcijakaaNamesPW
namespace Go.Proofs.Ytagnbpobcijakaa
open Go.RowKit Go.Sort

theorem blw1 (w : World) (o : Obj) : Below w.heap.size w (w.alloc o) := (Below.refl _ w).alloc (Nat.le_refl _) o
theorem blw2 (w : World) (o o' : Obj) : Below w.heap.size w ((w.alloc o).alloc o') := (blw1 w o).alloc (by simp) o'
/-- A field's four. -/
structure F4 where
 nm : ByteArray
 k : Int
 o : Int
 tn : ByteArray
deriving DecidableEq
def F4.cells (f : F4) : List Value := [.string f.nm, .int .i64 f.k, .int .i64 f.o, .string f.tn]
def F4.val (f : F4) : Value := .agg #[.string f.nm, .int .i64 f.k, .int .i64 f.o, .string f.tn]
def F4.typ (f : F4) : Value := .agg #[.int .i64 f.k, .int .i64 f.o, .string f.tn]
/-- A name and two slices: a kind, or an action. -/
structure N3 where
 nm : ByteArray
 ao : Option Addr
 al : Nat
 ac : Nat
 bo : Option Addr
 bl : Nat
 bc : Nat
def N3.cells (x : N3) : List Value := [.string x.nm, .slice x.ao x.al x.ac, .slice x.bo x.bl x.bc]
def N3.val (x : N3) : Value := .agg #[.string x.nm, .slice x.ao x.al x.ac, .slice x.bo x.bl x.bc]
/-- A text's one cell. -/
def strC (s : ByteArray) : List Value := [.string s]

/-- Kinds, actions, schemas. -/
structure KP where
 nm : ByteArray
 ps : List ByteArray
 fs : List F4
deriving DecidableEq
structure AP where
 nm : ByteArray
 pr : List ByteArray
 re : List ByteArray
deriving DecidableEq
structure SP where
 ks : List KP
 ac : List AP
deriving DecidableEq
def SP.names (s : SP) : List ByteArray := s.ks.map KP.nm
def SP.acts (s : SP) : List ByteArray := s.ac.map AP.nm

/-- Elements of four, of three, of one cell, in a world, and in every world that a region may be in. -/
structure AtF4 (w : World) (b o : Nat) (f : F4) : Prop where
 c0 : w.cell? ⟨b, o, none⟩ = some (.string f.nm)
 c1 : w.cell? ⟨b, o + 1, none⟩ = some (.int .i64 f.k)
 c2 : w.cell? ⟨b, o + 2, none⟩ = some (.int .i64 f.o)
 c3 : w.cell? ⟨b, o + 3, none⟩ = some (.string f.tn)
structure AtF4G (w : World) (b o : Nat) (f : F4) : Prop where
 c0 : ∀ d os, (grow (redrawn w d) os).cell? ⟨b, o, none⟩ = some (.string f.nm)
 c1 : ∀ d os, (grow (redrawn w d) os).cell? ⟨b, o + 1, none⟩ = some (.int .i64 f.k)
 c2 : ∀ d os, (grow (redrawn w d) os).cell? ⟨b, o + 2, none⟩ = some (.int .i64 f.o)
 c3 : ∀ d os, (grow (redrawn w d) os).cell? ⟨b, o + 3, none⟩ = some (.string f.tn)
theorem AtF4.of {w : World} {b o : Nat} {f : F4} (h : ∀ c v, f.cells[c]? = some v → w.cell? ⟨b, o + c, none⟩ = some v) : AtF4 w b o f := ⟨h 0 _ rfl, h 1 _ rfl, h 2 _ rfl, h 3 _ rfl⟩
theorem AtF4.below {w w' : World} {b o B : Nat} {f : F4} (h : AtF4 w b o f) (hb : Below B w w') (hlt : b < B) : AtF4 w' b o f := ⟨(hb.cell (p := ⟨b, o, none⟩) hlt).trans h.c0, (hb.cell (p := ⟨b, o + 1, none⟩) hlt).trans h.c1, (hb.cell (p := ⟨b, o + 2, none⟩) hlt).trans h.c2, (hb.cell (p := ⟨b, o + 3, none⟩) hlt).trans h.c3⟩
theorem AtF4.up {w : World} {b o : Nat} {f : F4} (h : AtF4 w b o f) : AtF4G w b o f := ⟨cell_regrown h.c0, cell_regrown h.c1, cell_regrown h.c2, cell_regrown h.c3⟩
structure AtN3 (w : World) (b o : Nat) (x : N3) : Prop where
 c0 : w.cell? ⟨b, o, none⟩ = some (.string x.nm)
 c1 : w.cell? ⟨b, o + 1, none⟩ = some (.slice x.ao x.al x.ac)
 c2 : w.cell? ⟨b, o + 2, none⟩ = some (.slice x.bo x.bl x.bc)
structure AtN3G (w : World) (b o : Nat) (x : N3) : Prop where
 c0 : ∀ d os, (grow (redrawn w d) os).cell? ⟨b, o, none⟩ = some (.string x.nm)
 c1 : ∀ d os, (grow (redrawn w d) os).cell? ⟨b, o + 1, none⟩ = some (.slice x.ao x.al x.ac)
 c2 : ∀ d os, (grow (redrawn w d) os).cell? ⟨b, o + 2, none⟩ = some (.slice x.bo x.bl x.bc)
theorem AtN3.of {w : World} {b o : Nat} {x : N3} (h : ∀ c v, x.cells[c]? = some v → w.cell? ⟨b, o + c, none⟩ = some v) : AtN3 w b o x := ⟨h 0 _ rfl, h 1 _ rfl, h 2 _ rfl⟩
theorem AtN3.below {w w' : World} {b o B : Nat} {x : N3} (h : AtN3 w b o x) (hb : Below B w w') (hlt : b < B) : AtN3 w' b o x := ⟨(hb.cell (p := ⟨b, o, none⟩) hlt).trans h.c0, (hb.cell (p := ⟨b, o + 1, none⟩) hlt).trans h.c1, (hb.cell (p := ⟨b, o + 2, none⟩) hlt).trans h.c2⟩
theorem AtN3.up {w : World} {b o : Nat} {x : N3} (h : AtN3 w b o x) : AtN3G w b o x := ⟨cell_regrown h.c0, cell_regrown h.c1, cell_regrown h.c2⟩

/-- A row of texts, a row of fields. -/
def RowS (w : World) (ao : Option Addr) (l : List ByteArray) : Prop := RowG w ao 1 (l.map strC)
def RowF (w : World) (ao : Option Addr) (l : List F4) : Prop := RowG w ao 4 (l.map F4.cells)
theorem RowS.below {w w' : World} {ao : Option Addr} {l : List ByteArray} (h : RowS w ao l) (hb : Below w.heap.size w w') : RowS w' ao l := RowG.below h hb
theorem RowF.below {w w' : World} {ao : Option Addr} {l : List F4} (h : RowF w ao l) (hb : Below w.heap.size w w') : RowF w' ao l := RowG.below h hb
theorem RowS.get {w wr : World} {ao : Option Addr} {l : List ByteArray} (h : RowS w ao l) (hbw : Below w.heap.size w wr) {j : Nat} (hj : j < l.length) : ∃ b off, ao = some ⟨b, off, none⟩ ∧ b < w.heap.size ∧ wr.cell? ⟨b, off + j, none⟩ = some (.string l[j]) := by
 obtain ⟨b, off, e, hb, hc⟩ := rowG_at h hbw hj
 have := hc 0 _ rfl
 rw [Nat.mul_one, Nat.add_zero] at this
 exact ⟨b, off, e, hb, this⟩
theorem RowF.get {w wr : World} {ao : Option Addr} {l : List F4} (h : RowF w ao l) (hbw : Below w.heap.size w wr) {j : Nat} (hj : j < l.length) : ∃ b off, ao = some ⟨b, off, none⟩ ∧ b < w.heap.size ∧ AtF4 wr b (off + j * 4) l[j] := by
 obtain ⟨b, off, e, hb, hc⟩ := rowG_at h hbw hj
 exact ⟨b, off, e, hb, AtF4.of hc⟩

/-- A kind in memory, an action in memory. -/
structure IsK (w : World) (x : N3) (k : KP) : Prop where
 nm : x.nm = k.nm
 al : x.al = k.ps.length
 a : RowS w x.ao k.ps
 bl : x.bl = k.fs.length
 b : RowF w x.bo k.fs
structure IsA (w : World) (x : N3) (k : AP) : Prop where
 nm : x.nm = k.nm
 al : x.al = k.pr.length
 a : RowS w x.ao k.pr
 bl : x.bl = k.re.length
 b : RowS w x.bo k.re
theorem IsK.below {w w' : World} {x : N3} {k : KP} (h : IsK w x k) (hb : Below w.heap.size w w') : IsK w' x k := ⟨h.nm, h.al, h.a.below hb, h.bl, h.b.below hb⟩
theorem IsA.below {w w' : World} {x : N3} {k : AP} (h : IsA w x k) (hb : Below w.heap.size w w') : IsA w' x k := ⟨h.nm, h.al, h.a.below hb, h.bl, h.b.below hb⟩
/-- Rows of them. -/
structure IsKs (w : World) (ao : Option Addr) (ks : List KP) : Prop where
 mk ::
 ex : ∃ xs : List N3, xs.length = ks.length ∧ RowG w ao 3 (xs.map N3.cells) ∧ ∀ j (h : j < xs.length) (h' : j < ks.length), IsK w xs[j] ks[j]
structure IsAs (w : World) (ao : Option Addr) (ks : List AP) : Prop where
 mk ::
 ex : ∃ xs : List N3, xs.length = ks.length ∧ RowG w ao 3 (xs.map N3.cells) ∧ ∀ j (h : j < xs.length) (h' : j < ks.length), IsA w xs[j] ks[j]
theorem IsKs.below {w w' : World} {ao : Option Addr} {ks : List KP} (h : IsKs w ao ks) (hb : Below w.heap.size w w') : IsKs w' ao ks := by
 obtain ⟨xs, h1, h2, h3⟩ := h.ex
 exact ⟨⟨xs, h1, h2.below hb, fun j a b => (h3 j a b).below hb⟩⟩
theorem IsAs.below {w w' : World} {ao : Option Addr} {ks : List AP} (h : IsAs w ao ks) (hb : Below w.heap.size w w') : IsAs w' ao ks := by
 obtain ⟨xs, h1, h2, h3⟩ := h.ex
 exact ⟨⟨xs, h1, h2.below hb, fun j a b => (h3 j a b).below hb⟩⟩
theorem IsKs.get {w wr : World} {ao : Option Addr} {ks : List KP} (h : IsKs w ao ks) (hbw : Below w.heap.size w wr) {j : Nat} (hj : j < ks.length) : ∃ x b off, ao = some ⟨b, off, none⟩ ∧ b < w.heap.size ∧ AtN3 wr b (off + j * 3) x ∧ IsK wr x ks[j] := by
 obtain ⟨xs, h1, h2, h3⟩ := h.ex
 have hx : j < xs.length := by omega
 obtain ⟨b, off, e, hb, hc⟩ := rowG_at h2 hbw hx
 exact ⟨xs[j], b, off, e, hb, AtN3.of hc, (h3 j hx hj).below hbw⟩
theorem IsAs.get {w wr : World} {ao : Option Addr} {ks : List AP} (h : IsAs w ao ks) (hbw : Below w.heap.size w wr) {j : Nat} (hj : j < ks.length) : ∃ x b off, ao = some ⟨b, off, none⟩ ∧ b < w.heap.size ∧ AtN3 wr b (off + j * 3) x ∧ IsA wr x ks[j] := by
 obtain ⟨xs, h1, h2, h3⟩ := h.ex
 have hx : j < xs.length := by omega
 obtain ⟨b, off, e, hb, hc⟩ := rowG_at h2 hbw hx
 exact ⟨xs[j], b, off, e, hb, AtN3.of hc, (h3 j hx hj).below hbw⟩
/-- A schema in memory: its value, what it says. -/
structure IsS (w : World) (v : Value) (s : SP) : Prop where
 mk ::
 ex : ∃ ko kc ao ac, v = .agg #[.slice ko s.ks.length kc, .slice ao s.ac.length ac] ∧ IsKs w ko s.ks ∧ IsAs w ao s.ac
theorem IsS.below {w w' : World} {v : Value} {s : SP} (h : IsS w v s) (hb : Below w.heap.size w w') : IsS w' v s := by
 obtain ⟨ko, kc, ao, ac, e, h1, h2⟩ := h.ex
 exact ⟨⟨ko, kc, ao, ac, e, h1.below hb, h2.below hb⟩⟩

/-! ## What a schema is told. -/

/-- Where the first one of a name stands. -/
def Place (l : List ByteArray) (n : ByteArray) (z : Int) : Prop := (z = -1 ∧ n ∉ l) ∨ ∃ i : Nat, z = i ∧ ∃ h : i < l.length, l[i] = n ∧ ∀ j (hj : j < l.length), j < i → l[j] ≠ n
def noneB (l : List ByteArray) (n : ByteArray) : Bool := !(l.any fun x => decide (x = n))
theorem noneB_true {l : List ByteArray} {n : ByteArray} (h : n ∉ l) : noneB l n = true := by
 unfold noneB
 have : (l.any fun x => decide (x = n)) = false := by
  rw [List.any_eq_false]
  intro x hx hd
  exact h ((of_decide_eq_true hd) ▸ hx)
 rw [this]
 rfl
theorem noneB_false {l : List ByteArray} {n : ByteArray} (h : n ∈ l) : noneB l n = false := by
 unfold noneB
 have : (l.any fun x => decide (x = n)) = true := List.any_eq_true.2 ⟨n, h, by simp⟩
 rw [this]
 rfl
theorem Place.neg {l : List ByteArray} {n : ByteArray} {z : Int} (h : Place l n z) : decide (z < 0) = noneB l n := by
 rcases h with ⟨rfl, h⟩ | ⟨i, rfl, hi, e, _⟩
 ·rw [noneB_true h]
  rfl
 ·rw [noneB_false (e ▸ List.getElem_mem hi)]
  simp
def leB (nm ahead : ByteArray) : Bool := Op.bytesLess nm.data.toList ahead.data.toList || nm.data.toList == ahead.data.toList
def nameC (nm ahead : ByteArray) : Int := if nameB nm.data.toList then (if leB nm ahead then 7 else 0) else 15
def typeNC (l : List ByteArray) (q : Int) (tn : ByteArray) : Int := if q = 4 then (if noneB l tn then 2 else 0) else if tn = ⟨#[]⟩ then 0 else 1
def typeC (l : List ByteArray) (f : F4) : Int := if f.k = 1 ∨ f.k = 2 ∨ f.k = 3 ∨ f.k = 4 then (if f.o = 0 then typeNC l f.k f.tn else 1) else if f.k = 5 then (if 1 ≤ f.o ∧ f.o ≤ 4 then typeNC l f.o f.tn else 3) else 3
def areC (l : List ByteArray) : List ByteArray → Int
 | [] => 0
 | p :: t => if noneB l p then 2 else areC l t
def fieldsC (l : List ByteArray) : ByteArray → List F4 → Int
 | _, [] => 0
 | ahead, f :: t => if nameC f.nm ahead ≠ 0 then nameC f.nm ahead else if typeC l f ≠ 0 then typeC l f else fieldsC l f.nm t
def kindC (l : List ByteArray) (k : KP) : Int := if 5 < k.fs.length ∨ 4 < k.ps.length then 4 else if areC l k.ps ≠ 0 then areC l k.ps else fieldsC l ⟨#[]⟩ k.fs
def takenB (n : ByteArray) : Bool := decide (n = ⟨#[65, 99, 116, 105, 111, 110]⟩ ∨ n = ⟨#[66, 111, 111, 108]⟩ ∨ n = ⟨#[76, 111, 110, 103]⟩ ∨ n = ⟨#[83, 116, 114, 105, 110, 103]⟩ ∨ n = ⟨#[83, 101, 116]⟩)
def kindsC (l : List ByteArray) : ByteArray → List KP → Int
 | _, [] => 0
 | ahead, k :: t => if takenB k.nm then 15 else if nameC k.nm ahead ≠ 0 then nameC k.nm ahead else if kindC l k ≠ 0 then kindC l k else kindsC l k.nm t
def actC (l : List ByteArray) (a : AP) : Int := if a.pr.length = 0 ∨ a.re.length = 0 then 13 else if 6 < a.pr.length ∨ 6 < a.re.length then 4 else if areC l a.pr ≠ 0 then areC l a.pr else areC l a.re
def actsC (l : List ByteArray) : ByteArray → List AP → Int
 | _, [] => 0
 | ahead, a :: t => if nameC a.nm ahead ≠ 0 then nameC a.nm ahead else if actC l a ≠ 0 then actC l a else actsC l a.nm t
def checkS (s : SP) : Int := if 6 < s.ks.length ∨ 6 < s.ac.length then 4 else if kindsC s.names ⟨#[]⟩ s.ks ≠ 0 then kindsC s.names ⟨#[]⟩ s.ks else actsC s.names ⟨#[]⟩ s.ac
end Go.Proofs.Ytagnbpobcijakaa
