/-
  Plain: chains of dots and signs, and their texts.
-/
import Derived.Test.YtpblalklenebhaaDoorShK
namespace Go.Proofs.YtpblalklenebhaaDoor
open Go.RowKit

def chB (ls : Bool) : Ex := if ls then eOp 14 [eLong 1, eLong 2] else eVar cPrincipal
def chG (ls : Bool) : Nat → Ex
  | 0 => chB ls
  | k + 1 => eTx 7 [97] [chG ls k]
def chN (ls : Bool) (a : Nat) : Nat → Ex
  | 0 => chG ls a
  | k + 1 => eOp (11 + ((k % 2 : Nat) : Int)) [chN ls a k]
def tB (ls : Bool) : List UInt8 := if ls then [40, 49, 32, 43, 32, 50, 41] else cPrincipal
def tG (ls : Bool) : Nat → List UInt8
  | 0 => tB ls
  | k + 1 => tG ls k ++ [46, 97]
def tN (ls : Bool) (a : Nat) : Nat → List UInt8
  | 0 => tG ls a
  | k + 1 => (if k % 2 = 0 then [33] else [45]) ++ tN ls a k
def tAll (ls : Bool) (a m : Nat) : List UInt8 := if ls = true ∧ a = 0 ∧ m = 0 then [49, 32, 43, 32, 50] else tN ls a m
theorem ch_text : ∀ (ls : Bool) (a m : Fin 4), showE (chN ls a m) = tAll ls a m ∧ okS (chN ls a m) = true ∧ depE (chN ls a m) ≤ 20 ∧ (tAll ls a m).length ≤ 100 := by decide +kernel
theorem tG_len (ls : Bool) : ∀ k, (tG ls k).length ≤ 9 + 2 * k
  | 0 => by cases ls <;> decide
  | k + 1 => by
    have := tG_len ls k
    unfold tG
    simp
    omega
theorem tN_len (ls : Bool) (a : Nat) : ∀ k, (tN ls a k).length ≤ 9 + 2 * a + k
  | 0 => by
    have := tG_len ls a
    unfold tN
    omega
  | k + 1 => by
    have := tN_len ls a k
    unfold tN
    split <;> simp <;> omega

def set7S (w : World) (b : Nat) (v0 v1 v2 v3 v4 v5 v6 : Value) : World :=
  ((((((w.setCell ⟨b, 0, none⟩ v0).setCell ⟨b, 1, none⟩ v1).setCell ⟨b, 2, none⟩ v2).setCell ⟨b, 3, none⟩ v3).setCell ⟨b, 4, none⟩ v4).setCell ⟨b, 5, none⟩ v5).setCell ⟨b, 6, none⟩ v6
theorem set7S_heap (w : World) (b k : Nat) (v0 v1 v2 v3 v4 v5 v6 : Value) (h : k ≠ b) : (set7S w b v0 v1 v2 v3 v4 v5 v6).heap[k]? = w.heap[k]? := by
  unfold set7S
  rw [Below.heap_setCell _ _ _ _ h, Below.heap_setCell _ _ _ _ h, Below.heap_setCell _ _ _ _ h, Below.heap_setCell _ _ _ _ h, Below.heap_setCell _ _ _ _ h, Below.heap_setCell _ _ _ _ h, Below.heap_setCell _ _ _ _ h]
theorem set7S_at {w : World} {b : Nat} {u0 u1 u2 u3 u4 u5 u6 : Value} {T : TypeId} (h : w.heap[b]? = some (.cells #[u0, u1, u2, u3, u4, u5, u6] T (0, 0))) (v0 v1 v2 v3 v4 v5 v6 : Value) :
    (set7S w b v0 v1 v2 v3 v4 v5 v6).heap[b]? = some (.cells #[v0, v1, v2, v3, v4, v5, v6] T (0, 0)) := by
  simp [set7S, World.setCell, Array.getElem?_modify, h]
theorem set7S_size (w : World) (b : Nat) (v0 v1 v2 v3 v4 v5 v6 : Value) : (set7S w b v0 v1 v2 v3 v4 v5 v6).heap.size = w.heap.size := by
  simp [set7S, World.setCell]
theorem set7S_below {B b : Nat} {a w : World} (h : Below B a w) (hb : B ≤ b) (v0 v1 v2 v3 v4 v5 v6 : Value) : Below B a (set7S w b v0 v1 v2 v3 v4 v5 v6) :=
  ((((((h.setCell (p := ⟨b, 0, none⟩) hb _).setCell (p := ⟨b, 1, none⟩) hb _).setCell (p := ⟨b, 2, none⟩) hb _).setCell (p := ⟨b, 3, none⟩) hb _).setCell (p := ⟨b, 4, none⟩) hb _).setCell (p := ⟨b, 5, none⟩) hb _).setCell (p := ⟨b, 6, none⟩) hb _

/-- The tree in its variable, a block that none of its parts lies in. -/
structure Holds (w wr : World) (p : Nat) (x : Ex) : Prop where
  below : Below w.heap.size w wr
  lt : w.heap.size ≤ p
  at' : ∃ r : R7, wr.heap[p]? = some (.cells #[.int .i64 r.k, .bool r.b, .int .i64 r.n, .string r.s, .string r.t, .string r.i, .slice r.lo r.ll r.lc] 32 (0, 0)) ∧ IsE wr (fun b => b ≠ p) r x

/-- One more about it. -/
theorem Holds.more {w wr : World} {p : Nat} {x : Ex} {r : R7} (hb : Below w.heap.size w wr) (hp : w.heap.size ≤ p) (h : wr.heap[p]? = some (.cells #[.int .i64 r.k, .bool r.b, .int .i64 r.n, .string r.s, .string r.t, .string r.i, .slice r.lo r.ll r.lc] 32 (0, 0))) (hx : IsE wr (fun b => b ≠ p) r x) (k : Int) (s : List UInt8) :
    Holds w ((set7S wr p (.int .i64 k) (.bool false) (.int .i64 0) (.string (ba s)) (.string ⟨#[]⟩) (.string ⟨#[]⟩) (.slice (some ⟨wr.heap.size, 0, none⟩) 1 1)).alloc (.cells #[.int .i64 r.k, .bool r.b, .int .i64 r.n, .string r.s, .string r.t, .string r.i, .slice r.lo r.ll r.lc] 32)) p (eTx k s [x]) := by
  have hpl := (Array.getElem?_eq_some_iff.1 h).1
  have hz := set7S_size wr p (.int .i64 k) (.bool false) (.int .i64 0) (.string (ba s)) (.string ⟨#[]⟩) (.string ⟨#[]⟩) (.slice (some ⟨wr.heap.size, 0, none⟩) 1 1)
  have h1 := set7S_at h (.int .i64 k) (.bool false) (.int .i64 0) (.string (ba s)) (.string ⟨#[]⟩) (.string ⟨#[]⟩) (.slice (some ⟨wr.heap.size, 0, none⟩) 1 1)
  have hb1 := set7S_below hb hp (.int .i64 k) (.bool false) (.int .i64 0) (.string (ba s)) (.string ⟨#[]⟩) (.string ⟨#[]⟩) (.slice (some ⟨wr.heap.size, 0, none⟩) 1 1)
  have hold : ∀ b, b ≠ p → (set7S wr p (.int .i64 k) (.bool false) (.int .i64 0) (.string (ba s)) (.string ⟨#[]⟩) (.string ⟨#[]⟩) (.slice (some ⟨wr.heap.size, 0, none⟩) 1 1)).heap[b]? = wr.heap[b]? := fun b hb => set7S_heap _ _ _ _ _ _ _ _ _ _ hb
  generalize set7S wr p (.int .i64 k) (.bool false) (.int .i64 0) (.string (ba s)) (.string ⟨#[]⟩) (.string ⟨#[]⟩) (.slice (some ⟨wr.heap.size, 0, none⟩) 1 1) = w1 at *
  have n2 := newS w1 (.cells #[.int .i64 r.k, .bool r.b, .int .i64 r.n, .string r.s, .string r.t, .string r.i, .slice r.lo r.ll r.lc] 32)
  have Z2 : (w1.alloc (.cells #[.int .i64 r.k, .bool r.b, .int .i64 r.n, .string r.s, .string r.t, .string r.i, .slice r.lo r.ll r.lc] 32)).heap[wr.heap.size]? = _ := hz ▸ alloc_heap w1 _
  refine ⟨hb1.trans (n2.mono hb1.size), hp, ⟨k, false, 0, ba s, ⟨#[]⟩, ⟨#[]⟩, some ⟨wr.heap.size, 0, none⟩, 1, 1⟩, kept_of_below n2 h1, ?_⟩
  unfold eTx IsE
  refine ⟨rfl, rfl, rfl, rfl, rfl, rfl, rfl, ?_⟩
  unfold IsEs
  refine ⟨⟨r, wr.heap.size, 0, rfl, by omega, (Array.getElem?_eq_some_iff.1 Z2).1, at7_blk Z2 0 r rfl rfl rfl rfl rfl rfl rfl, ?_⟩, ?_⟩
  · exact IsE.turn (by have := n2.size; omega) (fun b hb hb2 => ⟨(n2.block b (by omega)).trans (hold b hb), hb⟩) r x hx
  · unfold IsEs
    trivial
end Go.Proofs.YtpblalklenebhaaDoor
