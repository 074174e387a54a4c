/-
  pack's writer: put.
-/
import Derived.Test.YtkeljejddfpnmaaDoorPkA
import Derived.Test.YtkeljejddfpnmaaDoorVeM
import Derived.Laws.CopyOwn
import Derived.Deep.Cut
import Derived.Laws.Rows
namespace Go.Proofs.YtkeljejddfpnmaaDoor
open Go.RowKit Go.Sort

/-! ## A call that turns no old block but two. -/

structure Keep2 (x y : Nat) (w w' : World) : Prop where
  os : w'.os = w.os
  tape : w'.tape = w.tape
  output : w'.output = w.output
  size : w.heap.size ≤ w'.heap.size
  block : ∀ k, k < w.heap.size → k ≠ x → k ≠ y → w'.heap[k]? = w.heap[k]?
theorem Keep2.refl (x y : Nat) (w : World) : Keep2 x y w w := ⟨rfl, rfl, rfl, Nat.le_refl _, fun _ _ _ _ => rfl⟩
theorem Keep2.trans {x y : Nat} {a b c : World} (h : Keep2 x y a b) (k : Keep2 x y b c) : Keep2 x y a c :=
  ⟨k.os.trans h.os, k.tape.trans h.tape, k.output.trans h.output, Nat.le_trans h.size k.size, fun i hi hx hy => (k.block i (Nat.lt_of_lt_of_le hi h.size) hx hy).trans (h.block i hi hx hy)⟩
theorem Keep2.of_below {x y : Nat} {w w' : World} (h : Below w.heap.size w w') : Keep2 x y w w' := ⟨h.os, h.tape, h.output, h.size, fun k hk _ _ => h.block k hk⟩
theorem Keep2.below {x y B : Nat} {a w w' : World} (h : Keep2 x y w w') (b : Below B a w) (hx : B ≤ x) (hy : B ≤ y) (hs : B ≤ w.heap.size) : Below B a w' :=
  b.trans ⟨h.os, h.tape, h.output, h.size, fun k hk => h.block k (by omega) (by omega) (by omega)⟩
theorem Keep2.setCell {x y : Nat} {a w : World} (h : Keep2 x y a w) {p : Addr} (hp : p.block = x ∨ p.block = y) (u : Value) : Keep2 x y a (w.setCell p u) :=
  ⟨h.os, h.tape, h.output, by have := h.size; simp only [World.setCell, Array.size_modify]; exact this, fun k hk hx hy => by
    rw [Below.heap_setCell _ _ _ _ (by rcases hp with hp | hp <;> omega)]
    exact h.block k hk hx hy⟩
theorem Keep2.drew {x y : Nat} {a w : World} (h : Keep2 x y a w) : Keep2 x y a w.drew := ⟨h.os, h.tape, h.output, h.size, h.block⟩

/-- Bytes in memory, and not in this block. -/
def BRowN (w : World) (x : Nat) (ao : Option Addr) (l : List UInt8) : Prop :=
  l = [] ∨ ∃ g off, ao = some ⟨g, off, none⟩ ∧ g < w.heap.size ∧ g ≠ x ∧ ∀ j (hj : j < l.length), w.cell? ⟨g, off + j, none⟩ = some (.int .u8 (l[j].toNat : Int))
theorem BRow.apart {w : World} {ao : Option Addr} {l : List UInt8} (h : BRow w ao l) {x : Nat} (hx : w.heap.size ≤ x) : BRowN w x ao l := by
  rcases h with h | ⟨g, off, e, hg, h⟩
  · exact .inl h
  · exact .inr ⟨g, off, e, hg, by omega, h⟩
theorem BRowN.row {w : World} {x : Nat} {ao : Option Addr} {l : List UInt8} (h : BRowN w x ao l) : BRow w ao l := by
  rcases h with h | ⟨g, off, e, hg, _, h⟩
  · exact .inl h
  · exact .inr ⟨g, off, e, hg, h⟩
theorem BRowN.same {w w' : World} {x : Nat} {ao : Option Addr} {l : List UInt8} (h : BRowN w x ao l) (hs : w.heap.size ≤ w'.heap.size) (hk : ∀ k, k < w.heap.size → k ≠ x → w'.heap[k]? = w.heap[k]?) : BRowN w' x ao l := by
  rcases h with h | ⟨g, off, e, hg, hx, h⟩
  · exact .inl h
  · exact .inr ⟨g, off, e, by omega, hx, fun j hj => (World.cell?_of_block (w := w) (hk g hg hx)).trans (h j hj)⟩

/-! ## copy, as one step. -/

theorem wp_copy_any {P : Program} {o : Oper} {a : Act} {w : World} {K : Act → World → Prop} {Q : Exit → Act → World → Prop} (d s : Operand) (dT sT : TypeId)
    (ho : o.op = .call { callee := .builtin .copy, args := #[d, s], argTypes := #[dT, sT] }) (elem : TypeId) (hu : P.underlying dT = some (.slice elem)) (hsz : (P.info? elem).map (·.size) = some 1)
    (dp sp : Option Addr) (dLen dCap sLen sCap : Nat) (hd : a.eval d = .slice dp dLen dCap) (hs : a.eval s = .slice sp sLen sCap)
    (g off : Nat) (cur : List Value) (t : TypeId) (hg : w.heap[g]? = some (.cells cur.toArray t (0, 0))) (cs : List Value) (hn : cs.length = Nat.min sLen dLen)
    (hpos : 0 < cs.length → dp = some ⟨g, off, none⟩ ∧ ∃ ad, sp = some ad ∧ ∀ j v, cs[j]? = some v → w.cell? (ad.add j) = some v)
    (hfit : off + cs.length ≤ cur.length) (h1 : ∀ v ∈ cs, v.oneCell' = true)
    (h : ∀ w', w'.heap[g]? = some (.cells (splice cur off cs).toArray t (0, 0)) → w'.os = w.os → w'.tape = w.tape → w'.output = w.output → w'.heap.size = w.heap.size → (∀ k, k ≠ g → w'.heap[k]? = w.heap[k]?) → K (a.put o.dst (goInt cs.length)) w') :
    Oper.wp P o a w K Q := by
  by_cases h0 : cs.length = 0
  · obtain rfl : cs = [] := List.eq_nil_of_length_eq_zero h0
    have hrun := run_copy_none (P := P) w dT sT o.type elem dp sp dLen dCap sLen sCap hu hsz (by simpa using hn.symm)
    unfold Oper.wp
    simp [execOp, ho, resolve, invoke, builtin, hd, hs, hrun, Result.andThen]
    exact h w (by simpa [splice] using hg) rfl rfl rfl rfl fun _ _ => rfl
  · obtain ⟨rfl, ad, rfl, hsrc⟩ := hpos (by omega)
    have hrun := run_copy_row (P := P) w dT sT o.type elem g off dLen dCap ad sLen sCap cur.toArray t cs hu hsz hg hn hsrc (by simpa using hfit) h1
    unfold Oper.wp
    simp [execOp, ho, resolve, invoke, builtin, hd, hs, hrun, Result.andThen]
    exact h _ (by simpa [splice] using setRow_heap w g _ _ t _ hg) rfl rfl rfl (by simp [World.setRow]) fun k hk => setRow_other w g k _ hk

/-! ## The room, and the writer. -/

def u8s (l : List UInt8) : List Value := l.map fun b => .int .u8 (b.toNat : Int)
theorem u8s_len (l : List UInt8) : (u8s l).length = l.length := by simp [u8s]
theorem u8s_append (l m : List UInt8) : u8s (l ++ m) = u8s l ++ u8s m := by simp [u8s]
theorem u8s_get {l : List UInt8} {j : Nat} (h : j < l.length) : (u8s l)[j]? = some (.int .u8 (l[j].toNat : Int)) := by simp [u8s, h]
def roomObj (l : List UInt8) (rest : List Value) : Obj := .cells (u8s l ++ rest).toArray 5 (0, 0)
def wrObj (g off n : Nat) : Obj := .cells #[.slice (some ⟨g, off, none⟩) n n] 51 (0, 0)
def Room (w : World) (g total : Nat) (T : List UInt8) : Prop := ∃ rest, rest.length = total - T.length ∧ w.heap[g]? = some (roomObj (T.take total) rest)
structure WrAt (w : World) (rb g total : Nat) (T : List UInt8) : Prop where
  wr : ∃ off, w.heap[rb]? = some (wrObj g off (total - T.length)) ∧ (T.length < total → off = T.length)
  room : Room w g total T
  ne : rb ≠ g
theorem WrAt.same {w w' : World} {rb g total : Nat} {T : List UInt8} (h : WrAt w rb g total T) (h1 : w'.heap[rb]? = w.heap[rb]?) (h2 : w'.heap[g]? = w.heap[g]?) : WrAt w' rb g total T := by
  obtain ⟨⟨off, h3, h4⟩, ⟨rest, h5, h6⟩, h7⟩ := h
  exact ⟨⟨off, h1.trans h3, h4⟩, ⟨rest, h5, h2.trans h6⟩, h7⟩
theorem WrAt.lt {w : World} {rb g total : Nat} {T : List UInt8} (h : WrAt w rb g total T) : rb < w.heap.size ∧ g < w.heap.size := by
  obtain ⟨⟨off, h3, h4⟩, ⟨rest, h5, h6⟩, h7⟩ := h
  exact ⟨(Array.getElem?_eq_some_iff.1 h3).1, (Array.getElem?_eq_some_iff.1 h6).1⟩
theorem WrAt.below {w w' : World} {rb g total : Nat} {T : List UInt8} (h : WrAt w rb g total T) (hb : Below w.heap.size w w') : WrAt w' rb g total T :=
  h.same (hb.block _ h.lt.1) (hb.block _ h.lt.2)
/-- All is written. -/
theorem Room.full {w : World} {g total : Nat} {T : List UInt8} (h : Room w g total T) (hT : T.length = total) : w.heap[g]? = some (.cells (u8s T).toArray 5 (0, 0)) := by
  obtain ⟨rest, h1, h2⟩ := h
  obtain rfl : rest = [] := List.eq_nil_of_length_eq_zero (by omega)
  rw [h2, roomObj, List.take_of_length_le (by omega), List.append_nil]

/-- What is left behind k elements, in memory. -/
theorem sliceB (g off n k : Nat) (hk : k ≤ n) : ∃ off', (k < n → off' = off + k) ∧ ∀ W, (Instr.slice 24 (.slice (some ⟨g, off, none⟩) n n) (some (.int .i64 k)) none none).run Tryd.prog W = .ok (.slice (some ⟨g, off', none⟩) (n - k) (n - k)) W := by
  have key : ∀ W, (Instr.slice 24 (.slice (some ⟨g, off, none⟩) n n) (some (.int .i64 k)) none none).run Tryd.prog W = .ok (sliced (some ⟨g, off, none⟩) k n n 1) W := fun W => by
    rw [run_slice_l (P := Tryd.prog) (w := W) 24 (some ⟨g, off, none⟩) n n (by kernel_rfl) .i64 k (by omega) (by omega)]
    rw [show (sizeOf (Tryd.prog.elem 24)).run Tryd.prog W = .ok 1 W by kernel_rfl]
    rfl
  by_cases hc : n = k
  · refine ⟨off, fun h => by omega, fun W => ?_⟩
    rw [key W]
    unfold sliced
    rw [if_pos hc]
  · refine ⟨off + k, fun _ => rfl, fun W => ?_⟩
    rw [key W]
    unfold sliced
    rw [if_neg hc]
    simp [Addr.add]

theorem infoB : (Tryd.prog.info? 5).map (·.size) = some 1 := by kernel_rfl

def putSp (g rb off off' n k : Nat) (sv : Value) (A : List UInt8) : Nat → Value → World → Prop
  | 0, v, _ => v = .pointer (some ⟨rb, 0, none⟩)
  | 1, v, _ => v = .pointer (some ⟨rb, 0, none⟩)
  | 2, v, _ => v = .pointer (some ⟨rb, 0, none⟩)
  | 3, v, _ => v = .pointer (some ⟨rb, 0, none⟩)
  | 4, v, _ => v = .slice (some ⟨g, off, none⟩) n n
  | 5, v, _ => v = .pointer (some ⟨rb, 0, none⟩)
  | 6, v, _ => v = .pointer (some ⟨rb, 0, none⟩)
  | 7, v, _ => v = .pointer (some ⟨rb, 0, none⟩)
  | 8, v, _ => v = .slice (some ⟨g, off, none⟩) n n
  | 9, v, _ => v = sv
  | 10, v, w => v = .int .i64 k ∧ ∃ rest, rest.length = n - k ∧ w.heap[g]? = some (roomObj A rest)
  | 11, v, _ => v = .slice (some ⟨g, off', none⟩) (n - k) (n - k)
  | 12, v, _ => v = .pointer (some ⟨rb, 0, none⟩)
  | 13, v, _ => v = .pointer (some ⟨rb, 0, none⟩)
  | _, _, _ => True
theorem putSp_up {g rb off off' n k : Nat} {sv : Value} {A : List UInt8} {w w' : World} (h : ∃ rest, rest.length = n - k ∧ w'.heap[g]? = some (roomObj A rest)) : ∀ j u, putSp g rb off off' n k sv A j u w → putSp g rb off off' n k sv A j u w'
  | 0, _, h => h
  | 1, _, h => h
  | 2, _, h => h
  | 3, _, h => h
  | 4, _, h => h
  | 5, _, h => h
  | 6, _, h => h
  | 7, _, h => h
  | 8, _, h => h
  | 9, _, h => h
  | 10, _, ⟨h1, _⟩ => ⟨h1, h⟩
  | 11, _, h => h
  | 12, _, h => h
  | 13, _, h => h
  | _ + 14, _, _ => trivial
structure PutR (w : World) (g rb n : Nat) (T : List UInt8) (w' : World) : Prop where
  os : w'.os = w.os
  tape : w'.tape = w.tape
  output : w'.output = w.output
  size : w'.heap.size = w.heap.size
  block : ∀ k, k ≠ g → w'.heap[k]? = w.heap[k]?
  room : ∃ rest, rest.length = n ∧ w'.heap[g]? = some (roomObj T rest)

end Go.Proofs.YtkeljejddfpnmaaDoor
