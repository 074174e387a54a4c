/-
  Plain: trees, and how tokens are read as one (no program in it).
  Trees in memory (no program in it).
-/
import Derived.Test.YtckjafmnaffggaaLexP
import Derived.Test.YtckjafmnaffggaaR7A
import Derived.Test.YtckjafmnaffggaaWorlds
namespace Go.Proofs.Ytckjafmnaffggaa
open Go

/-- A tree: its operation, truth, number, text, uid, kids. -/
inductive Ex where
  | mk (k : Int) (b : Bool) (n : Int) (s t i : List UInt8) (l : List Ex)

abbrev Rs (α : Type) := Option (α × List Tok)
abbrev Pr (α : Type) := List Tok → Rs α

def tok0 : Tok := ⟨0, [], 0, 0⟩
def hd (ts : List Tok) (j : Nat) : Tok := ts.getD j tok0
/-- Does this token stand there? -/
def isT (k : Int) (x : List UInt8) (ts : List Tok) : Bool := decide ((hd ts 0).k = k) && decide ((hd ts 0).s = x)
def sg (x : List UInt8) (ts : List Tok) : Bool := isT 4 x ts
def wd (x : List UInt8) (ts : List Tok) : Bool := isT 1 x ts
def needS (x : List UInt8) (ts : List Tok) : Option (List Tok) := if sg x ts then some ts.tail else none
def needW (x : List UInt8) (ts : List Tok) : Option (List Tok) := if wd x ts then some ts.tail else none
def need (k : Int) : Pr Tok := fun ts => if (hd ts 0).k = k then some (hd ts 0, ts.tail) else none
def atUid (ts : List Tok) : Bool := decide ((hd ts 0).k = 1) && (decide ((hd ts 1).k = 4) && decide ((hd ts 1).s = [58, 58]))

def eLong (n : Int) : Ex := .mk 2 false n [] [] [] []
def eStr (s : List UInt8) : Ex := .mk 3 false 0 s [] [] []
def eBool (b : Bool) : Ex := .mk 1 b 0 [] [] [] []
def eVar (s : List UInt8) : Ex := .mk 5 false 0 s [] [] []
def eUid (t i : List UInt8) : Ex := .mk 4 false 0 [] t i []
def eOp (k : Int) (l : List Ex) : Ex := .mk k false 0 [] [] [] l
def eTx (k : Int) (s : List UInt8) (l : List Ex) : Ex := .mk k false 0 s [] [] l

def cTrue : List UInt8 := [116, 114, 117, 101]
def cFalse : List UInt8 := [102, 97, 108, 115, 101]
def cPrincipal : List UInt8 := [112, 114, 105, 110, 99, 105, 112, 97, 108]
def cAction : List UInt8 := [97, 99, 116, 105, 111, 110]
def cResource : List UInt8 := [114, 101, 115, 111, 117, 114, 99, 101]
def cContains : List UInt8 := [99, 111, 110, 116, 97, 105, 110, 115]
def cHas : List UInt8 := [104, 97, 115]
def cLike : List UInt8 := [108, 105, 107, 101]
def cIf : List UInt8 := [105, 102]
def cThen : List UInt8 := [116, 104, 101, 110]
def cElse : List UInt8 := [101, 108, 115, 101]
def cIn : List UInt8 := [105, 110]
def isVar (s : List UInt8) : Bool := decide (s = cPrincipal) || (decide (s = cAction) || decide (s = cResource))

def uidP : Pr (List UInt8 × List UInt8) := fun ts =>
  (need 1 ts).bind fun a => (needS [58, 58] a.2).bind fun r => (need 3 r).map fun b => ((a.1.s, b.1.s), b.2)

def wordOf (a : List UInt8) (r : List Tok) : Rs Ex := if a = cTrue then some (eBool true, r) else if a = cFalse then some (eBool false, r) else if isVar a then some (eVar a, r) else none
def wordedP : Pr Ex := fun ts => (need 1 ts).bind fun a => wordOf a.1.s a.2
def leafP : Pr Ex := fun ts =>
  if (hd ts 0).k = 2 then some (eLong (hd ts 0).n, ts.tail) else if (hd ts 0).k = 3 then some (eStr (hd ts 0).s, ts.tail) else wordedP ts

def listL {α : Type} (E : Pr α) : Nat → List α → Pr (List α)
  | 0, _, _ => none
  | n + 1, acc, ts => if sg [44] ts then (E ts.tail).bind fun p => listL E n (acc ++ [p.1]) p.2 else some (acc, ts)
def listOfP {α : Type} (E : Pr α) : Pr (List α) := fun ts => (E ts).bind fun p => listL E (p.2.length + 1) [p.1] p.2
def listUpP {α : Type} (E : Pr α) (z : List UInt8) : Pr (List α) := fun ts =>
  if sg z ts then some ([], ts.tail) else (listOfP E ts).bind fun p => (needS z p.2).map fun r => (p.1, r)

def primP (E : Pr Ex) : Pr Ex := fun ts =>
  if atUid ts then (uidP ts).map fun u => (eUid u.1.1 u.1.2, u.2)
  else if sg [40] ts then (E ts.tail).bind fun p => (needS [41] p.2).map fun r => (p.1, r)
  else if sg [91] ts then (listUpP E [93] ts.tail).map fun p => (eOp 6 p.1, p.2)
  else leafP ts

/-- What stands behind a dot. -/
def memberP (E : Pr Ex) (of : Ex) : Pr Ex := fun ts =>
  (need 1 ts).bind fun a => if sg [40] a.2 then (if a.1.s = cContains then (E a.2.tail).bind fun p => (needS [41] p.2).map fun r => (eOp 9 [of, p.1], r) else none) else some (eTx 7 a.1.s [of], a.2)
def memL (E : Pr Ex) : Nat → Ex → Pr Ex
  | 0, _, _ => none
  | n + 1, x, ts => if sg [46] ts then (memberP E x ts.tail).bind fun p => memL E n p.1 p.2 else some (x, ts)
def memP (E : Pr Ex) : Pr Ex := fun ts => (primP E ts).bind fun p => memL E (p.2.length + 1) p.1 p.2

def op1 (k : Int) (o : Rs Ex) : Rs Ex := o.map fun p => (eOp k [p.1], p.2)
def unN (E : Pr Ex) : Nat → Pr Ex
  | 0, _ => none
  | n + 1, ts => if sg [33] ts then op1 11 (unN E n ts.tail) else if sg [45] ts then op1 12 (unN E n ts.tail) else memP E ts
def unP (E : Pr Ex) : Pr Ex := fun ts => unN E (ts.length + 1) ts

/-- Which of these signs stands there: its operation. -/
def pickT : List (Int × List UInt8 × Int) → List Tok → Option Int
  | [], _ => none
  | (k, x, op) :: l, ts => if isT k x ts then some op else pickT l ts
/-- Two of a level, and more, leaning to the left. -/
def binL (l : List (Int × List UInt8 × Int)) (E : Pr Ex) : Nat → Ex → Pr Ex
  | 0, _, _ => none
  | n + 1, x, ts => match pickT l ts with
    | none => some (x, ts)
    | some op => (E ts.tail).bind fun p => binL l E n (eOp op [x, p.1]) p.2
def binP (l : List (Int × List UInt8 × Int)) (E : Pr Ex) : Pr Ex := fun ts => (E ts).bind fun p => binL l E (p.2.length + 1) p.1 p.2

def sMul : List (Int × List UInt8 × Int) := [(4, [42], 13)]
def sAdd : List (Int × List UInt8 × Int) := [(4, [43], 14), (4, [45], 15)]
def sAnd : List (Int × List UInt8 × Int) := [(4, [38, 38], 23)]
def sOr : List (Int × List UInt8 × Int) := [(4, [124, 124], 24)]
def sCmp : List (Int × List UInt8 × Int) := [(4, [61, 61], 20), (4, [33, 61], 21), (4, [60], 16), (4, [60, 61], 17), (4, [62], 18), (4, [62, 61], 19), (1, cIn, 22)]

def mulP (E : Pr Ex) : Pr Ex := binP sMul (unP E)
def addP (E : Pr Ex) : Pr Ex := binP sAdd (mulP E)
def op2 (k : Int) (x : Ex) (o : Rs Ex) : Rs Ex := o.map fun p => (eOp k [x, p.1], p.2)
/-- What may stand behind a sum. -/
def relT (E : Pr Ex) (x : Ex) : Pr Ex := fun ts =>
  match pickT sCmp ts with
  | some op => op2 op x (addP E ts.tail)
  | none => if wd cHas ts then (need 1 ts.tail).map fun a => (eTx 8 a.1.s [x], a.2)
    else if wd cLike ts then (need 3 ts.tail).map fun a => (eTx 10 a.1.s [x], a.2)
    else some (x, ts)
def relP (E : Pr Ex) : Pr Ex := fun ts => (addP E ts).bind fun p => relT E p.1 p.2
def andP (E : Pr Ex) : Pr Ex := binP sAnd (relP E)
def orP (E : Pr Ex) : Pr Ex := binP sOr (andP E)
def ifP (E : Pr Ex) : Pr Ex := fun ts =>
  (E ts).bind fun a => (needW cThen a.2).bind fun r => (E r).bind fun b => (needW cElse b.2).bind fun r => (E r).map fun c => (eOp 25 [a.1, b.1, c.1], c.2)
def exprP (E : Pr Ex) : Pr Ex := fun ts => if atUid ts || !wd cIf ts then orP E ts else ifP E ts.tail
def exprN : Nat → Pr Ex
  | 0 => fun _ => none
  | n + 1 => exprP (exprN n)

/-! ## How deep, and whether it may be. -/

mutual
def depE : Ex → Nat
  | .mk _ _ _ _ _ _ l => depL l + 1
def depL : List Ex → Nat
  | [] => 0
  | e :: l => max (depE e) (depL l)
end

/-- How many kids; -1: any; -2: no such operation. -/
def ary (k : Int) : Int :=
  if k = 6 then -1 else if k = 25 then 3 else if 1 ≤ k ∧ k ≤ 5 then 0 else if k = 7 ∨ k = 8 ∨ k = 10 ∨ k = 11 ∨ k = 12 then 1 else if 9 ≤ k ∧ k ≤ 24 then 2 else -2
def txOp (k : Int) : Bool := decide (k = 3 ∨ k = 5 ∨ k = 7 ∨ k = 8 ∨ k = 10)
/-- Is there more in it than its operation's own? -/
def moreE (k : Int) (b : Bool) (n : Int) (s t i : List UInt8) : Bool :=
  (!decide (k = 1) && b) || (!decide (k = 2) && !decide (n = 0)) || (!txOp k && !decide (s = [])) || (!decide (k = 4) && (!decide (t = []) || !decide (i = []))) || decide (n < 0)
def txtE (s : List UInt8) : Int := if okL s then (if 30 < (runes s).length then 5 else 0) else 11
def uidE (t i : List UInt8) : Int := if nameB t then txtE i else 15
def ownE (k : Int) (s t i : List UInt8) (m : Nat) : Int :=
  if k = 3 ∨ k = 10 then txtE s else if k = 4 then uidE t i else if k = 5 then (if isVar s then 0 else 15) else if k = 7 ∨ k = 8 then (if nameB s then 0 else 15) else if k = 6 then (if 8 < m then 4 else 0) else 0
def nodeE (k : Int) (b : Bool) (n : Int) (s t i : List UInt8) (m : Nat) : Int :=
  if ary k = -2 then 3 else if ary k ≠ -1 ∧ ary k ≠ m then 13 else if moreE k b n s t i then 1 else ownE k s t i m
mutual
def nodesE : Ex → Int
  | .mk k b n s t i l => if nodeE k b n s t i l.length = 0 then nodesL l else nodeE k b n s t i l.length
def nodesL : List Ex → Int
  | [] => 0
  | e :: l => if nodesE e = 0 then nodesL l else nodesE e
end
def checkE (e : Ex) : Int := if nodesE e = 0 then (if 10 < depE e then 14 else 0) else nodesE e

def noE : Ex := .mk 0 false 0 [] [] [] []
/-- parse.Expr, plain. -/
def parseT (ts : List Tok) : Ex × Int :=
  match exprN (ts.length + 1) ts with
  | some (x, []) => if checkE x = 0 then (x, 0) else (noE, checkE x)
  | _ => (noE, 13)
def parseE (s : List UInt8) : Ex × Int := if (toks s).2 = 0 then parseT (toks s).1 else (noE, (toks s).2)

/-! ## Nothing is read twice. -/

def Short {α : Type} (E : Pr α) : Prop := ∀ ts x r, E ts = some (x, r) → r.length ≤ ts.length
theorem tail_le (ts : List Tok) : ts.tail.length ≤ ts.length := by simp
theorem needS_short {x : List UInt8} {ts r : List Tok} (h : needS x ts = some r) : r.length ≤ ts.length := by
  unfold needS at h
  split at h
  · cases h; exact tail_le ts
  · cases h
theorem needW_short {x : List UInt8} {ts r : List Tok} (h : needW x ts = some r) : r.length ≤ ts.length := by
  unfold needW at h
  split at h
  · cases h; exact tail_le ts
  · cases h
theorem need_short (k : Int) : Short (need k) := by
  intro ts x r h
  unfold need at h
  split at h
  · cases h; exact tail_le ts
  · cases h
end Go.Proofs.Ytckjafmnaffggaa

namespace Go.Proofs.Ytckjafmnaffggaa
open Go.RowKit

/-! ## Trees. -/

mutual
/-- The seven cells r say the tree e; what hangs on them lies in blocks of which P holds. -/
def IsE (w : World) (P : Nat → Prop) : R7 → Ex → Prop
  | r, .mk k b n s t i l => r.k = k ∧ r.b = b ∧ r.n = n ∧ r.s = ba s ∧ r.t = ba t ∧ r.i = ba i ∧ r.ll = l.length ∧ IsEs w P r.lo 0 l
def IsEs (w : World) (P : Nat → Prop) : Option Addr → Nat → List Ex → Prop
  | _, _, [] => True
  | lo, j, e :: l => (∃ r b off, lo = some ⟨b, off, none⟩ ∧ P b ∧ b < w.heap.size ∧ At7 w b (off + j * 7) r ∧ IsE w P r e) ∧ IsEs w P lo (j + 1) l
end

theorem At7.same {w w' : World} {b o : Nat} {r : R7} (h : At7 w b o r) (hb : w'.heap[b]? = w.heap[b]?) : At7 w' b o r := by
  have hc : ∀ o, w'.cell? ⟨b, o, none⟩ = w.cell? ⟨b, o, none⟩ := fun o => World.cell?_of_block (w := w) hb
  exact ⟨(hc _).trans h.c0, (hc _).trans h.c1, (hc _).trans h.c2, (hc _).trans h.c3, (hc _).trans h.c4, (hc _).trans h.c5, (hc _).trans h.c6⟩

mutual
theorem IsE.turn {w w' : World} {P P' : Nat → Prop} (hs : w.heap.size ≤ w'.heap.size) (hb : ∀ b, P b → b < w.heap.size → w'.heap[b]? = w.heap[b]? ∧ P' b) : ∀ (r : R7) (e : Ex), IsE w P r e → IsE w' P' r e
  | r, .mk _ _ _ _ _ _ l, h => by
    unfold IsE at h ⊢
    obtain ⟨h1, h2, h3, h4, h5, h6, h7, h8⟩ := h
    exact ⟨h1, h2, h3, h4, h5, h6, h7, IsEs.turn hs hb r.lo 0 l h8⟩
theorem IsEs.turn {w w' : World} {P P' : Nat → Prop} (hs : w.heap.size ≤ w'.heap.size) (hb : ∀ b, P b → b < w.heap.size → w'.heap[b]? = w.heap[b]? ∧ P' b) : ∀ (lo : Option Addr) (j : Nat) (l : List Ex), IsEs w P lo j l → IsEs w' P' lo j l
  | _, _, [], _ => by unfold IsEs; trivial
  | lo, j, e :: l, h => by
    unfold IsEs at h ⊢
    obtain ⟨⟨r, b, off, h1, h2, h3, h4, h5⟩, h6⟩ := h
    obtain ⟨k1, k2⟩ := hb b h2 h3
    exact ⟨⟨r, b, off, h1, k2, by omega, h4.same k1, IsE.turn hs hb r e h5⟩, IsEs.turn hs hb lo (j + 1) l h6⟩
end
theorem blk7 {w : World} {b : Nat} {v0 v1 v2 v3 v4 v5 v6 : Value} {T : TypeId} (h : w.heap[b]? = some (.cells #[v0, v1, v2, v3, v4, v5, v6] T (0, 0))) :
    w.cell? ⟨b, 0, none⟩ = some v0 ∧ w.cell? ⟨b, 1, none⟩ = some v1 ∧ w.cell? ⟨b, 2, none⟩ = some v2 ∧ w.cell? ⟨b, 3, none⟩ = some v3 ∧ w.cell? ⟨b, 4, none⟩ = some v4 ∧ w.cell? ⟨b, 5, none⟩ = some v5 ∧ w.cell? ⟨b, 6, none⟩ = some v6 ∧ ∀ o, w.frozen? ⟨b, o, none⟩ = false :=
  ⟨by rw [Lib.cell_of_heap h]; rfl, by rw [Lib.cell_of_heap h]; rfl, by rw [Lib.cell_of_heap h]; rfl, by rw [Lib.cell_of_heap h]; rfl, by rw [Lib.cell_of_heap h]; rfl, by rw [Lib.cell_of_heap h]; rfl, by rw [Lib.cell_of_heap h]; rfl, fun o => Lib.frozen_of_heap h o⟩
theorem IsEs.get {w : World} {P : Nat → Prop} {lo : Option Addr} : ∀ (l : List Ex) (j0 j : Nat) (hj : j < l.length), IsEs w P lo j0 l → ∃ r b off, lo = some ⟨b, off, none⟩ ∧ b < w.heap.size ∧ At7 w b (off + (j0 + j) * 7) r ∧ IsE w P r l[j]
  | [], _, j, hj, _ => by simp at hj
  | e :: l, j0, 0, _, h => by
    unfold IsEs at h
    obtain ⟨⟨r, b, off, h1, _, h3, h4, h5⟩, _⟩ := h
    exact ⟨r, b, off, h1, h3, h4, h5⟩
  | e :: l, j0, j + 1, hj, h => by
    unfold IsEs at h
    obtain ⟨r, b, off, h1, h2, h3, h4⟩ := IsEs.get l (j0 + 1) j (by simpa using hj) h.2
    exact ⟨r, b, off, h1, h2, by rw [show j0 + (j + 1) = j0 + 1 + j by omega]; exact h3, h4⟩
theorem depL_get : ∀ (l : List Ex) (j : Nat) (h : j < l.length), depE l[j] ≤ depL l
  | [], j, h => by simp at h
  | e :: l, 0, _ => by
    show depE e ≤ depL (e :: l)
    unfold depL
    exact Nat.le_max_left _ _
  | e :: l, j + 1, hj => by
    have := depL_get l j (by simpa using hj)
    show depE (l[j]'(by simpa using hj)) ≤ depL (e :: l)
    unfold depL
    exact Nat.le_trans this (Nat.le_max_right _ _)
theorem kid0 {w : World} {P : Nat → Prop} {r : R7} {k : Int} {b : Bool} {n : Int} {s t i : List UInt8} {x : Ex} {l : List Ex} (h : IsE w P r (.mk k b n s t i (x :: l))) : ∃ r' g off, r.lo = some ⟨g, off, none⟩ ∧ g < w.heap.size ∧ At7 w g off r' ∧ IsE w P r' x := by
  unfold IsE IsEs at h
  obtain ⟨_, _, _, _, _, _, _, ⟨r', g, off, h1, _, h3, h4, h5⟩, _⟩ := h
  exact ⟨r', g, off, h1, h3, by simpa using h4, h5⟩
theorem kid1 {w : World} {P : Nat → Prop} {r : R7} {k : Int} {b : Bool} {n : Int} {s t i : List UInt8} {y x : Ex} {l : List Ex} (h : IsE w P r (.mk k b n s t i (y :: x :: l))) : ∃ r' g off, r.lo = some ⟨g, off, none⟩ ∧ g < w.heap.size ∧ At7 w g (off + 7) r' ∧ IsE w P r' x := by
  unfold IsE IsEs at h
  obtain ⟨_, _, _, _, _, _, _, _, h⟩ := h
  unfold IsEs at h
  obtain ⟨⟨r', g, off, h1, _, h3, h4, h5⟩, _⟩ := h
  exact ⟨r', g, off, h1, h3, by simpa using h4, h5⟩
theorem top {w : World} {P : Nat → Prop} {r : R7} {k : Int} {b : Bool} {n : Int} {s t i : List UInt8} {l : List Ex} (h : IsE w P r (.mk k b n s t i l)) : r.k = k ∧ r.n = n ∧ r.ll = l.length := by
  unfold IsE at h
  exact ⟨h.1, h.2.2.1, h.2.2.2.2.2.2.1⟩

theorem newS (w : World) (o : Obj) : Below w.heap.size w (w.alloc o) := (Below.refl _ w).alloc (Nat.le_refl _) o
end Go.Proofs.Ytckjafmnaffggaa
