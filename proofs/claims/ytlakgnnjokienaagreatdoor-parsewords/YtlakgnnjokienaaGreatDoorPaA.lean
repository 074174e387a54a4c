/-
  The reader in memory, and trees in memory (no program in it but two types' numbers).
-/
import Derived.Test.YtlakgnnjokienaaGreatDoorPlainAll
import Derived.Test.YtlakgnnjokienaaGreatDoorExA
import Derived.Test.YtlakgnnjokienaaGreatDoorLexF
import Derived.Test.YtlakgnnjokienaaGreatDoorValAll
namespace Go.Proofs.YtlakgnnjokienaaGreatDoor
open Go.RowKit

/-! ## A call that turns no old block but one. -/

structure Keep (rb : Nat) (w w' : World) : Prop where
  os : w'.os = w.os
  tape : w'.tape = w.tape
  output : w'.output = w.output
  size : w.heap.size ≤ w'.heap.size
  block : ∀ k, k < w.heap.size → k ≠ rb → w'.heap[k]? = w.heap[k]?

theorem Keep.refl (rb : Nat) (w : World) : Keep rb w w := ⟨rfl, rfl, rfl, Nat.le_refl _, fun _ _ _ => rfl⟩
theorem Keep.trans {rb : Nat} {a b c : World} (h : Keep rb a b) (k : Keep rb b c) : Keep rb a c :=
  ⟨k.os.trans h.os, k.tape.trans h.tape, k.output.trans h.output, Nat.le_trans h.size k.size, fun i hi hr => (k.block i (Nat.lt_of_lt_of_le hi h.size) hr).trans (h.block i hi hr)⟩
theorem Keep.of_below {rb : Nat} {w w' : World} (h : Below w.heap.size w w') : Keep rb w w' := ⟨h.os, h.tape, h.output, h.size, fun k hk _ => h.block k hk⟩
theorem Keep.below {rb B : Nat} {a w w' : World} (h : Keep rb w w') (b : Below B a w) (hB : B ≤ rb) (hs : B ≤ w.heap.size) : Below B a w' :=
  b.trans ⟨h.os, h.tape, h.output, h.size, fun k hk => h.block k (by omega) (by omega)⟩
theorem Keep.cell {rb : Nat} {w w' : World} (h : Keep rb w w') {p : Addr} (hp : p.block < w.heap.size) (hr : p.block ≠ rb) : w'.cell? p = w.cell? p := World.cell?_of_block (w := w) (h.block p.block hp hr)
theorem Keep.frozen {rb : Nat} {w w' : World} (h : Keep rb w w') {p : Addr} (hp : p.block < w.heap.size) (hr : p.block ≠ rb) : w'.frozen? p = w.frozen? p := World.frozen?_of_block (w := w) (h.block p.block hp hr)
theorem Keep.kept {rb : Nat} {w w' : World} (h : Keep rb w w') {k : Nat} {o : Obj} (hr : k ≠ rb) (ho : w.heap[k]? = some o) : w'.heap[k]? = some o :=
  (h.block k (Array.getElem?_eq_some_iff.1 ho).1 hr).trans ho
theorem Keep.drew {rb : Nat} {a w : World} (h : Keep rb a w) : Keep rb a w.drew := ⟨h.os, h.tape, h.output, h.size, h.block⟩
theorem Keep.alloc {rb : Nat} {a w : World} (h : Keep rb a w) (o : Obj) : Keep rb a (w.alloc o) := h.trans (.of_below (new1 w o))
/-- A store into the one block, or into one that is new. -/
theorem Keep.setCell {rb : Nat} {a w : World} (h : Keep rb a w) {p : Addr} (hp : p.block = rb ∨ a.heap.size ≤ p.block) (u : Value) : Keep rb a (w.setCell p u) :=
  ⟨h.os, h.tape, h.output, by have := h.size; simp only [World.setCell, Array.size_modify]; exact this, fun k hk hr => by
    rw [Below.heap_setCell _ _ _ _ (by rcases hp with hp | hp <;> omega)]
    exact h.block k hk hr⟩
theorem Keep.signs {rb : Nat} {w w' : World} (h : Keep rb w w') (hr : 0 ≠ rb) (hS : Signs w) : Signs w' := by
  obtain ⟨t, fr, hh⟩ := hS
  exact ⟨t, fr, h.kept hr hh⟩

/-! ## The reader. -/

abbrev St := Option (List Tok)
def stLen : St → Nat
  | none => 0
  | some ts => ts.length

/-- Tokens in memory, in a block ahead of rb. -/
def RowK (w : World) (rb : Nat) (ao : Option Addr) (ts : List Tok) : Prop :=
  ∀ j (hj : j < ts.length), ∃ g off, ao = some ⟨g, off, none⟩ ∧ g < rb ∧ At4 w g (off + j * 4) ts[j].k ⟨ts[j].s.toArray⟩ ts[j].n ts[j].p
theorem At4.same {w w' : World} {b o : Nat} {k n p : Int} {y : ByteArray} (h : At4 w b o k y n p) (hb : w'.heap[b]? = w.heap[b]?) : At4 w' b o k y n p := by
  have hc : ∀ o, w'.cell? ⟨b, o, none⟩ = w.cell? ⟨b, o, none⟩ := fun o => World.cell?_of_block (w := w) hb
  exact ⟨(hc _).trans h.c0, (hc _).trans h.c1, (hc _).trans h.c2, (hc _).trans h.c3⟩
theorem RowK.same {w w' : World} {rb : Nat} {ao : Option Addr} {ts : List Tok} (h : RowK w rb ao ts) (hb : ∀ k, k < rb → w'.heap[k]? = w.heap[k]?) : RowK w' rb ao ts := by
  intro j hj
  obtain ⟨g, off, e, hg, hc⟩ := h j hj
  exact ⟨g, off, e, hg, hc.same (hb g hg)⟩
theorem RowK.tail {w : World} {rb g off : Nat} {ts : List Tok} (h : RowK w rb (some ⟨g, off, none⟩) ts) : RowK w rb (some ⟨g, off + 4, none⟩) ts.tail := by
  intro j hj
  have hj' : j + 1 < ts.length := by simp at hj; omega
  obtain ⟨g', off', e, hg, hc⟩ := h (j + 1) hj'
  cases e
  refine ⟨g, off + 4, rfl, hg, ?_⟩
  rw [show off + (j + 1) * 4 = off + 4 + j * 4 by omega] at hc
  simpa using hc

def rdObj (ao : Option Addr) (n c : Nat) (b : Bool) : Obj := .cells #[.slice ao n c, .bool b] 59 (0, 0)
/-- The reader's block: what is left, or nothing and stuck. -/
def Rd0 (w : World) (rb : Nat) : St → Prop
  | none => w.heap[rb]? = some (rdObj none 0 0 true)
  | some ts => ∃ ao cap, w.heap[rb]? = some (rdObj ao ts.length cap false) ∧ ts.length ≤ cap ∧ ts.length ≤ 1048576 ∧ RowK w rb ao ts
theorem Rd0.lt {w : World} {rb : Nat} {st : St} (h : Rd0 w rb st) : rb < w.heap.size := by
  cases st with
  | none => exact (Array.getElem?_eq_some_iff.1 h).1
  | some ts => obtain ⟨_, _, h, _⟩ := h; exact (Array.getElem?_eq_some_iff.1 h).1
theorem Rd0.same {w w' : World} {rb : Nat} {st : St} (h : Rd0 w rb st) (hb : ∀ k, k ≤ rb → w'.heap[k]? = w.heap[k]?) : Rd0 w' rb st := by
  cases st with
  | none => exact (hb rb (Nat.le_refl _)).trans h
  | some ts =>
    obtain ⟨ao, cap, h1, h2, h3, h4⟩ := h
    exact ⟨ao, cap, (hb rb (Nat.le_refl _)).trans h1, h2, h3, h4.same fun k hk => hb k (by omega)⟩

def cmpA : Array Value := #[.int .i64 4, .string ⟨#[61, 61]⟩, .int .i64 20, .int .i64 4, .string ⟨#[33, 61]⟩, .int .i64 21, .int .i64 4, .string ⟨#[60]⟩, .int .i64 16, .int .i64 4, .string ⟨#[60, 61]⟩, .int .i64 17, .int .i64 4, .string ⟨#[62]⟩, .int .i64 18, .int .i64 4, .string ⟨#[62, 61]⟩, .int .i64 19, .int .i64 1, .string ⟨#[105, 110]⟩, .int .i64 22]
/-- The table of comparisons lies where the program's text lays it, ahead of the reader. -/
def Cmps (w : World) (rb : Nat) : Prop := 1 < rb ∧ ∃ t fr, w.heap[1]? = some (.cells cmpA t fr)
def RdAt (w : World) (rb : Nat) (st : St) : Prop := Rd0 w rb st ∧ Cmps w rb
theorem RdAt.lt {w : World} {rb : Nat} {st : St} (h : RdAt w rb st) : rb < w.heap.size := h.1.lt
theorem Cmps.same {w w' : World} {rb : Nat} (h : Cmps w rb) (hb : ∀ k, k < rb → w'.heap[k]? = w.heap[k]?) : Cmps w' rb := by
  obtain ⟨h1, t, fr, h2⟩ := h
  exact ⟨h1, t, fr, (hb _ h1).trans h2⟩
theorem RdAt.same {w w' : World} {rb : Nat} {st : St} (h : RdAt w rb st) (hb : ∀ k, k ≤ rb → w'.heap[k]? = w.heap[k]?) : RdAt w' rb st := ⟨h.1.same hb, h.2.same fun k hk => hb k (by omega)⟩
/-- It stays behind what turns no old block. -/
theorem RdAt.below {w w' : World} {rb : Nat} {st : St} (h : RdAt w rb st) (hb : Below w.heap.size w w') : RdAt w' rb st :=
  h.same fun k hk => hb.block k (by have := h.lt; omega)
theorem RdAt.setCell {w : World} {rb : Nat} {st : St} (h : RdAt w rb st) {p : Addr} (hp : rb < p.block) (u : Value) : RdAt (w.setCell p u) rb st :=
  h.same fun k hk => Below.heap_setCell _ _ _ _ (by omega)
theorem RdAt.drew {w : World} {rb : Nat} {st : St} (h : RdAt w rb st) : RdAt w.drew rb st := h.same fun _ _ => rfl
theorem rd_cell {w : World} {rb : Nat} {ao : Option Addr} {n c : Nat} {b : Bool} (h : w.heap[rb]? = some (rdObj ao n c b)) : w.cell? ⟨rb, 0, none⟩ = some (.slice ao n c) ∧ w.cell? ⟨rb, 1, none⟩ = some (.bool b) ∧ ∀ o, w.frozen? ⟨rb, o, none⟩ = false :=
  ⟨by rw [Lib.cell_of_heap h]; rfl, by rw [Lib.cell_of_heap h]; rfl, fun o => Lib.frozen_of_heap h o⟩
/-- How many tokens are left, by the world. -/
def leftN (w : World) (rb : Nat) : Nat := match w.cell? ⟨rb, 0, none⟩ with
  | some (.slice _ n _) => n
  | _ => 0
theorem RdAt.left {w : World} {rb : Nat} {st : St} (h : RdAt w rb st) : leftN w rb = stLen st := by
  obtain ⟨h, _⟩ := h
  cases st with
  | none => unfold leftN; rw [(rd_cell h).1]; rfl
  | some ts => obtain ⟨ao, cap, h1, _⟩ := h; unfold leftN; rw [(rd_cell h1).1]; rfl
end Go.Proofs.YtlakgnnjokienaaGreatDoor
