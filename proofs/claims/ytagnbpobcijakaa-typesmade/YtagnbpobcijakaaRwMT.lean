/-
 chancellaw5.leaf: what it returns.
 chancellaw5.Tree: how a node's row of kids grows (no walk in it).
 chancellaw5.Tree: what it returns.
 chancellaw5.Tree of a node.
 chancellaw5.Tree of nodes with a name, a text, a row.
 chancellaw5.Tree of a set; of any raw.
-/
import Derived.Test.YtagnbpobcijakaaRwAL
import Derived.Test.YtagnbpobcijakaaTyRK
import Derived.Test.YtagnbpobcijakaaVeKN
namespace Go.Proofs.Ytagnbpobcijakaa
open Go.RowKit Go.Sort

def vr3 : List (List UInt8) := [[112, 114, 105, 110, 99, 105, 112, 97, 108], [97, 99, 116, 105, 111, 110], [114, 101, 115, 111, 117, 114, 99, 101]]
def vrI (n : Int) : List UInt8 := vr3.getD (n % 3).toNat []
/-- A leaf, as the law makes it. -/
def leafR (k : Int) (n : Int) (s : List Int) : R7 :=
 if k = 0 then ⟨1, n.tmod 2 == 0, 0, ⟨#[]⟩, ⟨#[]⟩, ⟨#[]⟩, none, 0, 0⟩ else if k = 1 then ⟨2, false, n % 4611686018427387904, ⟨#[]⟩, ⟨#[]⟩, ⟨#[]⟩, none, 0, 0⟩ else if k = 2 then ⟨3, false, 0, ba (idt5 s), ⟨#[]⟩, ⟨#[]⟩, none, 0, 0⟩ else if k = 3 then ⟨4, false, 0, ⟨#[]⟩, ba (tyI5 n), ba (idt5 s), none, 0, 0⟩ else if k = 4 then ⟨5, false, 0, ba (vrI n), ⟨#[]⟩, ⟨#[]⟩, none, 0, 0⟩ else ⟨6, false, 0, ⟨#[]⟩, ⟨#[]⟩, ⟨#[]⟩, none, 0, 0⟩
def leafX (k : Int) (n : Int) (s : List Int) : Ex :=
 if k = 0 then eBool (n.tmod 2 == 0) else if k = 1 then eLong (n % 4611686018427387904) else if k = 2 then eStr (idt5 s) else if k = 3 then eUid (tyI5 n) (idt5 s) else if k = 4 then eVar (vrI n) else eOp 6 []
end Go.Proofs.Ytagnbpobcijakaa

namespace Go.Proofs.Ytagnbpobcijakaa
open Go.RowKit Go.Sort

def exObj (k : Int) (S : ByteArray) (lv : Value) : Obj := .cells #[.int .i64 k, .bool false, .int .i64 0, .string S, .string ⟨#[]⟩, .string ⟨#[]⟩, lv] 39 (0, 0)
/-- What lies in memory while a node is made: the raw, the answer's cells, the node with its list lc, the row v. -/
structure RowInv (w w' : World) (raw ans : Obj) (k : Int) (S : ByteArray) (lc v : Value) (rs : List R7) (xs : List Ex) : Prop where
 below : Below w.heap.size w w'
 pr : w'.heap[w.heap.size]? = some raw
 pq : w'.heap[w.heap.size + 1]? = some ans
 pe : w'.heap[w.heap.size + 2]? = some (exObj k S lc)
 own : w'.ownsRow (w.heap.size + 3) 39 7 v rs.length (cellsE rs)
 all : AllE w' (fun b => w.heap.size + 3 ≤ b ∧ some b ≠ v.ownBlock) rs xs
theorem RowInv.base {w w' : World} {raw ans : Obj} {k : Int} {S : ByteArray} {lc v : Value} {rs : List R7} {xs : List Ex} (h : RowInv w w' raw ans k S lc v rs xs) : w.heap.size + 3 ≤ w'.heap.size := (Array.getElem?_eq_some_iff.1 h.pe).1
theorem ownE_slice {w : World} {B : Nat} {v : Value} {n : Nat} {xs : List Value} (h : w.ownsRow B 39 7 v n xs) : ∃ ao cap, v = .slice ao n cap := by
 rcases h.2 with ⟨h0, hz⟩ | ⟨g, cap, cur, hv, _⟩
 ·exact ⟨none, 0, by rw [h0, hz]⟩
 ·exact ⟨_, cap, hv⟩
theorem RowInv.row {w w' : World} {raw ans : Obj} {k : Int} {S : ByteArray} {lc v : Value} {rs : List R7} {xs : List Ex} (h : RowInv w w' raw ans k S lc v rs xs) : ∀ b, v.ownBlock = some b → w.heap.size + 3 ≤ b ∧ b < w'.heap.size := fun b e => h.own.lt b e

/-- The state of the region that makes one more kid and appends it. -/
structure TRw (w wr : World) (raw ans : Obj) (k : Int) (S : ByteArray) (lv : Value) (rs : List R7) (xs : List Ex) (X : Ex) (L : Nat → Bool) (a' : Act) (w' : World) : Prop where
 pre : L 15 = false → Below wr.heap.size wr w'
 k13 : L 13 = true → L 15 = false → ∃ q : R7, a'.tmps.getD 67 undef = q.val ∧ IsE w' (fun b => wr.heap.size ≤ b) q X
 k14 : L 14 = true → L 15 = false → ∃ (q : R7) (blk : Nat), a'.tmps.getD 68 undef = .slice (some ⟨blk, 0, none⟩) 1 1 ∧ wr.heap.size ≤ blk ∧ w'.heap[blk]? = some (.cells #[.int .i64 q.k, .bool q.b, .int .i64 q.n, .string q.s, .string q.t, .string q.i, .slice q.lo q.ll q.lc] 39 (0, 0)) ∧ IsE w' (fun b => wr.heap.size ≤ b) q X
 k15 : L 15 = true → L 17 = false → ∃ (v : Value) (q : R7), a'.tmps.getD 69 undef = v ∧ RowInv w w' raw ans k S lv v (rs ++ [q]) (xs ++ [X])
 k17 : L 17 = true → ∃ (v : Value) (q : R7), RowInv w w' raw ans k S v v (rs ++ [q]) (xs ++ [X])
 d14 : L 14 = true → L 13 = true
 d15 : L 15 = true → L 13 = true ∧ L 14 = true ∧ L 1 = true
 d17 : L 17 = true → L 15 = true

section
variable {w wr : World} {raw ans : Obj} {k : Int} {S : ByteArray} {lv : Value} {rs : List R7} {xs : List Ex} {X : Ex} {L : Nat → Bool} {a' : Act} {w' : World}
theorem TRw.start (a : Act) : TRw w wr raw ans k S lv rs xs X (fun _ => false) a wr.drew :=
 ⟨fun _ => (Below.refl _ wr).drew, fun h => (by cases h), fun h => (by cases h), fun h => (by cases h), fun h => (by cases h), fun h => (by cases h), fun h => (by cases h), fun h => (by cases h)⟩
theorem TRw.n17 (h : TRw w wr raw ans k S lv rs xs X L a' w') (hL : L 15 = false) : L 17 = false := by
 cases e : L 17 with
 | false => rfl
 | true => rw [h.d17 e] at hL; cases hL
theorem TRw.n15 (h : TRw w wr raw ans k S lv rs xs X L a' w') (hL : L 13 = false ∨ L 14 = false ∨ L 1 = false) : L 15 = false := by
 cases e : L 15 with
 | false => rfl
 | true =>
  obtain ⟨h1, h2, h3⟩ := h.d15 e
  rcases hL with hL | hL | hL
  ·rw [h1] at hL; cases hL
  ·rw [h2] at hL; cases hL
  ·rw [h3] at hL; cases hL
theorem TRw.below (h : TRw w wr raw ans k S lv rs xs X L a' w') (h0 : RowInv w wr raw ans k S lv lv rs xs) : Below w.heap.size w w' ∧ w'.heap[w.heap.size]? = some raw := by
 cases e : L 15 with
 | false =>
  have hb := h.pre e
  exact ⟨h0.below.trans (hb.mono h0.below.size), kept_of_below hb h0.pr⟩
 | true =>
  cases e2 : L 17 with
  | false => obtain ⟨v, q, _, h2⟩ := h.k15 e e2; exact ⟨h2.below, h2.pr⟩
  | true => obtain ⟨v, q, h2⟩ := h.k17 e2; exact ⟨h2.below, h2.pr⟩
theorem TRw.other (h : TRw w wr raw ans k S lv rs xs X L a' w') (i d : Nat) (v : Value) (hi : i ≠ 13 ∧ i ≠ 14 ∧ i ≠ 15 ∧ i ≠ 17) (hd : d ≠ 67 ∧ d ≠ 68 ∧ d ≠ 69) : TRw w wr raw ans k S lv rs xs X (fun j => decide (j = i) || L j) (a'.put (some d) v) w' := by
 have e13 : (decide (13 = i) || L 13) = L 13 := by rw [decide_eq_false (fun e => hi.1 e.symm)]; rfl
 have e14 : (decide (14 = i) || L 14) = L 14 := by rw [decide_eq_false (fun e => hi.2.1 e.symm)]; rfl
 have e15 : (decide (15 = i) || L 15) = L 15 := by rw [decide_eq_false (fun e => hi.2.2.1 e.symm)]; rfl
 have e17 : (decide (17 = i) || L 17) = L 17 := by rw [decide_eq_false (fun e => hi.2.2.2 e.symm)]; rfl
 refine ⟨?_, ?_, ?_, ?_, ?_, ?_, ?_, ?_⟩ <;> simp only [e13, e14, e15, e17, put_other _ _ _ _ hd.1, put_other _ _ _ _ hd.2.1, put_other _ _ _ _ hd.2.2]
 ·exact h.pre
 ·exact h.k13
 ·exact h.k14
 ·exact h.k15
 ·exact h.k17
 ·exact h.d14
 ·exact fun e => ⟨(h.d15 e).1, (h.d15 e).2.1, by rw [(h.d15 e).2.2]; simp⟩
 ·exact h.d17
theorem TRw.call (h : TRw w wr raw ans k S lv rs xs X L a' w') (hL : L 13 = false) (hs : 67 < a'.tmps.size) {w'' : World} {q : R7} (hb : Below w'.heap.size w' w'') (hq : IsE w'' (fun b => w'.heap.size ≤ b) q X) : TRw w wr raw ans k S lv rs xs X (fun j => decide (j = 13) || L j) (a'.put (some 67) q.val) w'' := by
 have n15 := h.n15 (.inl hL)
 have n17 := h.n17 n15
 have n14 : L 14 = false := by
  cases e : L 14 with
  | false => rfl
  | true => rw [h.d14 e] at hL; cases hL
 have hp := h.pre n15
 refine ⟨fun _ => hp.trans (hb.mono hp.size), fun _ _ => ⟨q, put_same _ _ _ hs, ?_⟩, fun e _ => ?_, fun e => ?_, fun e => ?_, fun _ => by simp, fun e => ?_, fun e => ?_⟩
 ·exact IsE.turn (Nat.le_refl _) (fun b hb' _ => ⟨rfl, Nat.le_trans hp.size hb'⟩) q X hq
 ·simp [n14] at e
 ·simp [n15] at e
 ·simp [n17] at e
 ·simp [n15] at e
 ·simp [n17] at e
theorem TRw.build (h : TRw w wr raw ans k S lv rs xs X L a' w') (hL : L 14 = false) (h13 : L 13 = true) (hs : 68 < a'.tmps.size) {q : R7} (hq0 : a'.tmps.getD 67 undef = q.val) (hq : IsE w' (fun b => wr.heap.size ≤ b) q X) :
  TRw w wr raw ans k S lv rs xs X (fun j => decide (j = 14) || L j) (a'.put (some 68) (.slice (some ⟨w'.heap.size, 0, none⟩) 1 1)) (w'.alloc (.cells #[.int .i64 q.k, .bool q.b, .int .i64 q.n, .string q.s, .string q.t, .string q.i, .slice q.lo q.ll q.lc] 39)) := by
 have n15 := h.n15 (.inr (.inl hL))
 have n17 := h.n17 n15
 have hp := h.pre n15
 have n := newS w' (.cells #[.int .i64 q.k, .bool q.b, .int .i64 q.n, .string q.s, .string q.t, .string q.i, .slice q.lo q.ll q.lc] 39)
 have hq' := IsE.turn n.size (fun b hb' hb2 => ⟨n.block b hb2, hb'⟩) q X hq
 refine ⟨fun _ => hp.trans (n.mono hp.size), fun _ _ => ⟨q, by rw [put_other _ _ _ _ (by decide)]; exact hq0, hq'⟩, fun _ _ => ⟨q, w'.heap.size, put_same _ _ _ hs, hp.size, alloc_heap _ _, hq'⟩, fun e => ?_, fun e => ?_, fun _ => by simp [h13], fun e => ?_, fun e => ?_⟩
 ·simp [n15] at e
 ·simp [n17] at e
 ·simp [n15] at e
 ·simp [n17] at e
theorem TRw.app (h0 : RowInv w wr raw ans k S lv lv rs xs) (h : TRw w wr raw ans k S lv rs xs X L a' w') (hL : L 15 = false) (h13 : L 13 = true) (h14 : L 14 = true) (h1 : L 1 = true) (hs : 69 < a'.tmps.size) {q : R7} (hq : IsE w' (fun b => wr.heap.size ≤ b) q X)
  {v : Value} {w'' : World} (hown : w''.ownsRow (w.heap.size + 3) 39 7 v (rs.length + 1) (cellsE rs ++ q.cells)) (hg : w'.grownBy w'' lv.ownBlock) (hat : v.ownBlock = lv.ownBlock ∨ v.ownBlock = some w'.heap.size) :
  TRw w wr raw ans k S lv rs xs X (fun j => decide (j = 15) || L j) (a'.put (some 69) v) w'' := by
 have n17 := h.n17 hL
 have hp := h.pre hL
 have hbase := h0.base
 have hsz := hp.size
 have hrow := h0.row
 have hsame : ∀ b, b < w'.heap.size → lv.ownBlock ≠ some b → w''.heap[b]? = w'.heap[b]? := fun b hb hne => hg.block b hb (fun e => hne e.symm)
 have hold : ∀ b, b < w.heap.size + 3 → w''.heap[b]? = wr.heap[b]? := fun b hb => by
  rw [hsame b (by omega) (fun e => by have := (hrow b e).1; omega)]
  exact hp.block b (by omega)
 have hne : ∀ b, b < w'.heap.size → lv.ownBlock ≠ some b → some b ≠ v.ownBlock := by
  intro b hb hbg e
  rcases hat with h1 | h1
  ·rw [h1] at e
   exact hbg e.symm
  ·rw [h1] at e
   have hb3 := Option.some.inj e
   omega
 have hinv : RowInv w w'' raw ans k S lv v (rs ++ [q]) (xs ++ [X]) := by
  refine ⟨?_, (hold _ (by omega)).trans h0.pr, (hold _ (by omega)).trans h0.pq, (hold _ (by omega)).trans h0.pe, ?_, .snoc ?_ ?_⟩
  ·have hb := h0.below.trans (hp.mono h0.below.size)
   exact hb.grown hg hb.size (fun b e => by have := (hrow b e).1; omega)
  ·rw [cellsE_snoc, List.length_append]
   exact hown
  ·refine AllE.turn (by have := hg.size; omega) (fun b hb hb2 => ?_) h0.all
   have hnb : lv.ownBlock ≠ some b := fun e => hb.2 e.symm
   exact ⟨(hsame b (by omega) hnb).trans (hp.block b hb2), hb.1, hne b (by omega) hnb⟩
  ·refine IsE.turn hg.size (fun b hb hb2 => ?_) q X hq
   have hnb : lv.ownBlock ≠ some b := fun e => by have := (hrow b e).2; omega
   exact ⟨hsame b hb2 hnb, by omega, hne b hb2 hnb⟩
 refine ⟨fun e => ?_, fun _ e => ?_, fun _ e => ?_, fun _ _ => ⟨v, q, put_same _ _ _ hs, hinv⟩, fun e => ?_, fun _ => by simp [h13], fun _ => by simp [h13, h14, h1], fun e => ?_⟩
 ·simp at e
 ·simp at e
 ·simp at e
 ·simp [n17] at e
 ·simp [n17] at e
theorem TRw.store (h : TRw w wr raw ans k S lv rs xs X L a' w') (h15 : L 15 = true) (hL : L 17 = false) {v : Value} (hv : a'.tmps.getD 69 undef = v) : TRw w wr raw ans k S lv rs xs X (fun j => decide (j = 17) || L j) a' (w'.setCell ⟨w.heap.size + 2, 6, none⟩ v) := by
 obtain ⟨v', q, hv', hi⟩ := h.k15 h15 hL
 rw [hv] at hv'
 subst hv'
 have hbase := hi.base
 have hold : ∀ b, b ≠ w.heap.size + 2 → (w'.setCell ⟨w.heap.size + 2, 6, none⟩ v).heap[b]? = w'.heap[b]? := fun b hb => Below.heap_setCell _ _ _ _ hb
 have hinv : RowInv w (w'.setCell ⟨w.heap.size + 2, 6, none⟩ v) raw ans k S v v (rs ++ [q]) (xs ++ [X]) := by
  refine ⟨hi.below.setCell (p := ⟨w.heap.size + 2, 6, none⟩) (by show w.heap.size ≤ w.heap.size + 2; omega) _, (hold _ (by omega)).trans hi.pr, (hold _ (by omega)).trans hi.pq, ?_, ?_, ?_⟩
  ·have := hi.pe
   unfold exObj at this ⊢
   simp [World.setCell, Array.getElem?_modify, this]
  ·refine ⟨hi.own.1, ?_⟩
   rcases hi.own.2 with h0 | ⟨g, cap, cur, hv, hbg, hg, rest⟩
   ·exact .inl h0
   ·exact .inr ⟨g, cap, cur, hv, hbg, (hold g (by omega)).trans hg, rest⟩
  ·exact AllE.turn (by simp [World.setCell]) (fun b hb hb2 => ⟨hold b (by omega), hb⟩) hi.all
 refine ⟨fun e => ?_, fun _ e => ?_, fun _ e => ?_, fun _ e => ?_, fun _ => ⟨v, q, hinv⟩, fun _ => ?_, fun _ => ?_, fun _ => by simp [h15]⟩
 ·simp [h15] at e
 ·simp [h15] at e
 ·simp [h15] at e
 ·simp at e
 ·have := h.d15 h15
  simp [this.1]
 ·have := h.d15 h15
  simp [this.1, this.2.1, this.2.2]
end
end Go.Proofs.Ytagnbpobcijakaa

namespace Go.Proofs.Ytagnbpobcijakaa
open Go.RowKit Go.Sort

/-- How many kids the law gives an operation. -/
def arN (k : Int) (n : Nat) : Nat := if k = 6 then min n 8 else if k = 7 ∨ k = 8 ∨ k = 10 ∨ k = 11 ∨ k = 12 then 1 else if k = 25 then 3 else 2
def arS (k n : Int) (s : List Int) : List UInt8 := if k = 7 ∨ k = 8 then nmI n else if k = 10 then idt5 s else []
/-- A tree, as the law makes it. -/
def treeX : Nat → Rw → Ex
 | 0, .mk op n s _ => leafX (op % 6) n s
 | d + 1, .mk op n s l => if d = 0 ∨ l.length = 0 then leafX (op % 6) n s else
   .mk (6 + op % 20) false 0 (arS (6 + op % 20) n s) [] [] ((List.range (arN (6 + op % 20) l.length)).map fun i => treeX d (l.getD (i % l.length) (.mk 0 0 [] [])))

def kidsX (d : Nat) (l : List Rw) (j : Nat) : List Ex := (List.range j).map fun i => treeX d (l.getD (i % l.length) (.mk 0 0 [] []))
end Go.Proofs.Ytagnbpobcijakaa

namespace Go.Proofs.Ytagnbpobcijakaa
open Go.RowKit Go.Sort

/-- What each slot of the region holds. -/
def trSp (pr pe j d m g off : Nat) (lv kv : Value) (rk : R4) (ln : Nat) : Nat → Value → World → Prop
 | 0, v, _ => v = .pointer (some ⟨pe, 6, none⟩)
 | 1, v, _ => v = lv
 | 2, v, _ => v = .pointer (some ⟨pr, 3, none⟩)
 | 3, v, _ => v = kv
 | 4, v, _ => v = .int .i64 j
 | 5, v, _ => v = .pointer (some ⟨pr, 3, none⟩)
 | 6, v, _ => v = kv
 | 7, v, _ => v = .int .i64 ln
 | 8, v, _ => v = .int .i64 m
 | 9, v, _ => v = .pointer (some ⟨g, off + m * 4, none⟩)
 | 10, v, _ => v = rk.val
 | 11, v, _ => v = .int .i64 ((d : Int) + 1)
 | 12, v, _ => v = .int .i64 d
 | 16, v, _ => v = .pointer (some ⟨pe, 6, none⟩)
 | _, _, _ => True

end Go.Proofs.Ytagnbpobcijakaa

namespace Go.Proofs.Ytagnbpobcijakaa
open Go.RowKit Go.Sort

end Go.Proofs.Ytagnbpobcijakaa

namespace Go.Proofs.Ytagnbpobcijakaa
open Go.RowKit Go.Sort

end Go.Proofs.Ytagnbpobcijakaa
