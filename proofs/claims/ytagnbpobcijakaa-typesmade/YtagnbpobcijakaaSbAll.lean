/-
 chancellaw10.SchemaBounds: letters, rows that are owned, what the schemas are told (no walk in it).
 chancellaw10.SchemaBounds: the walk, case 0.
 chancellaw10.SchemaBounds: the walk, case 1.
 chancellaw10.SchemaBounds: the walk, case 4.
 A row that is held in a block's cell grows by one: the state of a region that does it, in whatever order (no walk in it).
-/
import Derived.Test.YtagnbpobcijakaaScJ
import Derived.Test.YtagnbpobcijakaaEcA
import Derived.OwnWalk
import Derived.Deep.Cut
import Derived.Test.YtagnbpobcijakaaVeKN
namespace Go.Proofs.Ytagnbpobcijakaa
open Go.RowKit Go.Sort

def letQ (k : Nat) : ByteArray := ⟨#[UInt8.ofNat (97 + k)]⟩
theorem own_belowS {w w' : World} {base : Nat} {e : TypeId} {k : Nat} {v : Value} {n : Nat} {xs : List Value} (h : w.ownsRow base e k v n xs) (hb : Below w.heap.size w w') : w'.ownsRow base e k v n xs :=
 h.kept (row := none) ⟨hb.os, hb.tape, hb.output, hb.size, fun j hj _ => hb.block j hj⟩ (by cases v.ownBlock <;> simp)
theorem rowG_ownS {w : World} {B n : Nat} {T : TypeId} {v : Value} {l : List (List Value)} (hn : ∀ c ∈ l, c.length = n) (h : w.ownsRow B T n v l.length l.flatten) : ∃ ao cap, v = .slice ao l.length cap ∧ RowG w ao n l ∧ l.length ≤ cap := by
 rcases h.2 with ⟨hv, h0⟩ | ⟨g, cap, cur, hv, _, hg, hcap, _, _, hxs⟩
 ·exact ⟨none, 0, by rw [hv, h0], fun j hj => by omega, by omega⟩
 ·refine ⟨_, cap, hv, fun j hj => ⟨g, 0, rfl, (Array.getElem?_eq_some_iff.1 hg).1, fun c u hu => ?_⟩, hcap⟩
  have hc : c < n := by
   have := (List.getElem?_eq_some_iff.1 hu).1
   rwa [hn _ (List.getElem_mem hj)] at this
  rw [Lib.cell_of_heap hg, Nat.zero_add]
  rw [← flat_get l hn j c hj hc, ← hxs, List.getElem?_take] at hu
  split at hu
  ·simpa using hu
  ·cases hu
/-- Rows by letters: kinds, actions, fields. -/
def kL (k : Nat) : N3 := ⟨letQ k, none, 0, 0, none, 0, 0⟩
def kLs (n : Nat) : List N3 := (List.range n).map kL
def fL (k : Nat) : F4 := ⟨letQ k, 1, 0, ⟨#[]⟩⟩
def fLs (n : Nat) : List F4 := (List.range n).map fL
def pLs (n : Nat) : List ByteArray := List.replicate n ⟨#[65]⟩
def kA : KP := ⟨⟨#[65]⟩, [], []⟩
def s0 (m : Nat) : SP := ⟨(List.range (5 + m)).map fun k => ⟨letQ k, [], []⟩, []⟩
def s1 (m : Nat) : SP := ⟨[kA], (List.range (5 + m)).map fun k => ⟨letQ k, [⟨#[65]⟩], [⟨#[65]⟩]⟩⟩
def s2 (m : Nat) : SP := ⟨[⟨⟨#[65]⟩, [], fLs (4 + m)⟩], []⟩
def s3 (m : Nat) : SP := ⟨[⟨⟨#[65]⟩, pLs (3 + m), []⟩], []⟩
def s4 (m : Nat) : SP := ⟨[kA], [⟨⟨#[120]⟩, pLs (5 + m), [⟨#[65]⟩]⟩]⟩
theorem infoKind : (Try.prog.info? 80).map (fun i => (i.zero, i.size, i.bytes)) = some (some (.agg #[.string ⟨#[]⟩, .slice none 0 0, .slice none 0 0]), 3, 64) := by kernel_rfl
theorem infoAction : (Try.prog.info? 83).map (fun i => (i.zero, i.size, i.bytes)) = some (some (.agg #[.string ⟨#[]⟩, .slice none 0 0, .slice none 0 0]), 3, 64) := by kernel_rfl
theorem infoField : (Try.prog.info? 109).map (fun i => (i.zero, i.size, i.bytes)) = some (some (.agg #[.string ⟨#[]⟩, .int .i64 0, .int .i64 0, .string ⟨#[]⟩]), 4, 48) := by kernel_rfl
theorem infoStr : (Try.prog.info? 9).map (fun i => (i.zero, i.size, i.bytes)) = some (some (.string ⟨#[]⟩), 1, 16) := by kernel_rfl
end Go.Proofs.Ytagnbpobcijakaa

namespace Go.Proofs.Ytagnbpobcijakaa
open Go.RowKit Go.Sort
end Go.Proofs.Ytagnbpobcijakaa

namespace Go.Proofs.Ytagnbpobcijakaa
open Go.RowKit Go.Sort
/-- A block that holds the text A. -/
def ABlk (w : World) (p : Nat) : Prop := w.heap[p]? = some (.cells #[.string ⟨#[65]⟩] 9 (0, 0))
/-- An action by its letter, in memory. -/
def ActAt (w : World) (x : N3) (j : Nat) : Prop := x.nm = letQ j ∧ ∃ p q, x.ao = some ⟨p, 0, none⟩ ∧ x.al = 1 ∧ x.bo = some ⟨q, 0, none⟩ ∧ x.bl = 1 ∧ ABlk w p ∧ ABlk w q
theorem ActAt.up {w w' : World} {x : N3} {j : Nat} (h : ActAt w x j) (hu : ∀ p, ABlk w p → ABlk w' p) : ActAt w' x j := by
 obtain ⟨h0, p, q, h1, h2, h3, h4, h5, h6⟩ := h
 exact ⟨h0, p, q, h1, h2, h3, h4, hu p h5, hu q h6⟩
theorem own_ty {w : World} {B n k : Nat} {T : TypeId} {v : Value} {xs : List Value} {g : Nat} (h : w.ownsRow B T n v k xs) (hg : v.ownBlock = some g) : ∃ cur fz, w.heap[g]? = some (.cells cur T fz) := by
 rcases h.2 with ⟨hv, _⟩ | ⟨g', cap, cur, hv, _, h3, _⟩
 ·rw [hv] at hg
  cases hg
 ·rw [hv] at hg
  cases hg
  exact ⟨_, _, h3⟩
theorem rowS_A {w : World} {p : Nat} (h : ABlk w p) : RowS w (some ⟨p, 0, none⟩) [⟨#[65]⟩] := rowG_block _ h rfl (fun x hx => by rw [List.mem_singleton.1 hx]; rfl)
theorem ActAt.is {w : World} {x : N3} {j : Nat} (h : ActAt w x j) : IsA w x ⟨letQ j, [⟨#[65]⟩], [⟨#[65]⟩]⟩ := by
 obtain ⟨h0, p, q, h1, h2, h3, h4, h5, h6⟩ := h
 exact ⟨h0, h2, by rw [h1]; exact rowS_A h5, h4, by rw [h3]; exact rowS_A h6⟩
def KBlk (w : World) (K : Nat) : Prop := w.heap[K]? = some (.cells #[.string ⟨#[65]⟩, .slice none 0 0, .slice none 0 0] 80 (0, 0))
end Go.Proofs.Ytagnbpobcijakaa

namespace Go.Proofs.Ytagnbpobcijakaa
open Go.RowKit Go.Sort
end Go.Proofs.Ytagnbpobcijakaa

namespace Go.Proofs.Ytagnbpobcijakaa
open Go.RowKit Go.Sort

/-- Where the row lies, what is new, which operations make, append, store, and into which slots. -/
structure ARp where
 w : World
 wr : World
 B : Nat
 Kb : Nat
 T : TypeId
 sz : Nat
 KC : Value → Array Value
 KT : TypeId
 lv : Value
 k : Nat
 xs : List Value
 new : List Value
 iR : Nat
 iN : Nat
 iA : Nat
 iS : Nat
 dN : Nat
 dA : Nat
structure AR (p : ARp) (L : Nat → Bool) (a' : Act) (w' : World) : Prop where
 below : Below p.w.heap.size p.w w'
 size : p.wr.heap.size ≤ w'.heap.size
 keep : ∀ b, b < p.wr.heap.size → b ≠ p.Kb → p.lv.ownBlock ≠ some b → w'.heap[b]? = p.wr.heap[b]?
 kb : L p.iS = false → w'.heap[p.Kb]? = some (.cells (p.KC p.lv) p.KT (0, 0))
 row : L p.iA = false → w'.ownsRow p.B p.T p.sz p.lv p.k p.xs
 new : L p.iN = true → L p.iA = false → ∃ b, a'.tmps.getD p.dN undef = .slice (some ⟨b, 0, none⟩) 1 1 ∧ w'.heap[b]? = some (.cells p.new.toArray p.T (0, 0))
 app : L p.iA = true → ∃ ao n c, a'.tmps.getD p.dA undef = .slice ao n c ∧ w'.ownsRow p.B p.T p.sz (.slice ao n c) (p.k + 1) (p.xs ++ p.new) ∧ (L p.iS = true → w'.heap[p.Kb]? = some (.cells (p.KC (.slice ao n c)) p.KT (0, 0)))
 ord : L p.iS = true → L p.iA = true
 rd : L p.iA = true → L p.iR = true ∧ L p.iN = true

section
variable {p : ARp} {L : Nat → Bool} {a' : Act} {w' : World}
theorem AR.start (a : Act) (hb : Below p.w.heap.size p.w p.wr) (hk : p.wr.heap[p.Kb]? = some (.cells (p.KC p.lv) p.KT (0, 0))) (hr : p.wr.ownsRow p.B p.T p.sz p.lv p.k p.xs) : AR p (fun _ => false) a p.wr.drew :=
 ⟨hb.drew, Nat.le_refl _, fun _ _ _ _ => rfl, fun _ => hk, fun _ => own_belowS hr (Below.refl _ _).drew, fun h => (by cases h), fun h => (by cases h), fun h => (by cases h), fun h => (by cases h)⟩
theorem AR.noA (h : AR p L a' w') (hL : L p.iR = false ∨ L p.iN = false) : L p.iA = false := by
 cases e : L p.iA with
 | false => rfl
 | true =>
  obtain ⟨h1, h2⟩ := h.rd e
  rcases hL with hL | hL
  ·rw [h1] at hL; cases hL
  ·rw [h2] at hL; cases hL
theorem AR.noS (h : AR p L a' w') (hL : L p.iA = false) : L p.iS = false := by
 cases e : L p.iS with
 | false => rfl
 | true => rw [h.ord e] at hL; cases hL
/-- What lies below the row's base stays. -/
theorem AR.old (h : AR p L a' w') (hr : p.wr.ownsRow p.B p.T p.sz p.lv p.k p.xs) (hBs : p.B ≤ p.wr.heap.size) (b : Nat) (hb : b < p.B) (hk : b ≠ p.Kb) : w'.heap[b]? = p.wr.heap[b]? := h.keep b (by omega) hk (fun e => by have := (hr.lt b e).1; omega)
/-- An operation that has nothing to do with it, and leaves what is there. -/
theorem AR.grow (h : AR p L a' w') (i d : Nat) (v : Value) (hi : i ≠ p.iN ∧ i ≠ p.iA ∧ i ≠ p.iS) (hd : d ≠ p.dN ∧ d ≠ p.dA) {w'' : World} (hb : Below w'.heap.size w' w'') : AR p (fun j => decide (j = i) || L j) (a'.put (some d) v) w'' := by
 have eN : (decide (p.iN = i) || L p.iN) = L p.iN := by rw [decide_eq_false (fun e => hi.1 e.symm)]; rfl
 have eA : (decide (p.iA = i) || L p.iA) = L p.iA := by rw [decide_eq_false (fun e => hi.2.1 e.symm)]; rfl
 have eS : (decide (p.iS = i) || L p.iS) = L p.iS := by rw [decide_eq_false (fun e => hi.2.2 e.symm)]; rfl
 have hsz := h.size
 refine ⟨h.below.trans (hb.mono h.below.size), Nat.le_trans hsz hb.size, fun b h1 h2 h3 => (hb.block b (by omega)).trans (h.keep b h1 h2 h3), ?_, ?_, ?_, ?_, ?_, ?_⟩ <;> simp only [eN, eA, eS, put_other _ _ _ _ hd.1, put_other _ _ _ _ hd.2]
 ·exact fun e => kept_of_below hb (h.kb e)
 ·exact fun e => own_belowS (h.row e) hb
 ·exact fun e1 e2 => by
   obtain ⟨b, h1, h2⟩ := h.new e1 e2
   exact ⟨b, h1, kept_of_below hb h2⟩
 ·exact fun e => by
   obtain ⟨ao, n, c, h1, h2, h3⟩ := h.app e
   exact ⟨ao, n, c, h1, own_belowS h2 hb, fun e' => kept_of_below hb (h3 e')⟩
 ·exact h.ord
 ·exact fun e => ⟨by rw [(h.rd e).1]; simp, (h.rd e).2⟩
theorem AR.alloc (h : AR p L a' w') (hL : L p.iN = false) (hd : p.dN < a'.tmps.size) (hne : p.iA ≠ p.iN) (hne' : p.iS ≠ p.iN) : AR p (fun j => decide (j = p.iN) || L j) (a'.put (some p.dN) (.slice (some ⟨w'.heap.size, 0, none⟩) 1 1)) (w'.alloc (.cells p.new.toArray p.T)) := by
 have hLA := h.noA (.inr hL)
 have hb := blw1 w' (.cells p.new.toArray p.T)
 have eA : (decide (p.iA = p.iN) || L p.iA) = L p.iA := by rw [decide_eq_false hne]; rfl
 have eS : (decide (p.iS = p.iN) || L p.iS) = L p.iS := by rw [decide_eq_false hne']; rfl
 have hsz := h.size
 refine ⟨h.below.trans (hb.mono h.below.size), Nat.le_trans hsz hb.size, fun b h1 h2 h3 => (hb.block b (by omega)).trans (h.keep b h1 h2 h3), ?_, ?_, ?_, ?_, ?_, ?_⟩ <;> simp only [eA, eS]
 ·exact fun e => kept_of_below hb (h.kb e)
 ·exact fun e => own_belowS (h.row e) hb
 ·exact fun _ _ => ⟨_, put_same _ _ _ hd, alloc_heap _ _⟩
 ·exact fun e => by rw [hLA] at e; cases e
 ·exact h.ord
 ·exact fun e => by rw [hLA] at e; cases e
theorem AR.appd (h : AR p L a' w') (hL : L p.iA = false) (hLR : L p.iR = true) (hLN : L p.iN = true) (hd : p.dA < a'.tmps.size) (hne' : p.iS ≠ p.iA) (hBs : p.B ≤ p.wr.heap.size) (hKb : p.Kb < p.B) (hwB : p.w.heap.size ≤ p.B) {v : Value} {w'' : World} (hown : w''.ownsRow p.B p.T p.sz v (p.k + 1) (p.xs ++ p.new)) (hg : w'.grownBy w'' p.lv.ownBlock) : AR p (fun j => decide (j = p.iA) || L j) (a'.put (some p.dA) v) w'' := by
 have hrow := (h.row hL).lt
 have hsz := h.size
 have n := h.noS hL
 have eS : (decide (p.iS = p.iA) || L p.iS) = L p.iS := by rw [decide_eq_false hne']; rfl
 obtain ⟨ao, m, c, rfl⟩ : ∃ a n c, v = .slice a n c := by
  rcases hown.2 with ⟨h, _⟩ | ⟨g, cap, cur, h, _⟩
  ·exact ⟨_, _, _, h⟩
  ·exact ⟨_, _, _, h⟩
 have blk : ∀ b, b < p.wr.heap.size → p.lv.ownBlock ≠ some b → w''.heap[b]? = w'.heap[b]? := fun b hb hne => hg.block b (by omega) (fun e => hne e.symm)
 refine ⟨h.below.grown hg h.below.size (fun j hj => by have := (hrow j hj).1; omega), Nat.le_trans hsz hg.size, fun b h1 h2 h3 => (blk b h1 h3).trans (h.keep b h1 h2 h3), fun _ => (blk _ (by omega) (fun e => by have := (hrow _ e).1; omega)).trans (h.kb n), fun e => ?_, fun _ e => ?_, fun _ => ⟨ao, m, c, put_same _ _ _ hd, hown, fun e => ?_⟩, fun e => ?_, fun _ => ⟨by rw [hLR]; simp, by rw [hLN]; simp⟩⟩
 ·simp at e
 ·simp at e
 ·simp only [eS] at e
  rw [n] at e
  cases e
 ·simp
theorem AR.stor (h : AR p L a' w') (hL : L p.iS = false) (hA : L p.iA = true) (hne : p.iN ≠ p.iS) (hne' : p.iA ≠ p.iS) (hwK : p.w.heap.size ≤ p.Kb) (hKb : p.Kb < p.B) (f : Nat) (hset : ∀ v, (p.KC p.lv).setIfInBounds f v = p.KC v) : ∃ ao n c, a'.tmps.getD p.dA undef = .slice ao n c ∧ AR p (fun j => decide (j = p.iS) || L j) a' (w'.setCell ⟨p.Kb, f, none⟩ (.slice ao n c)) := by
 obtain ⟨ao, n, c, h1, h2, _⟩ := h.app hA
 have eN : (decide (p.iN = p.iS) || L p.iN) = L p.iN := by rw [decide_eq_false hne]; rfl
 have eA : (decide (p.iA = p.iS) || L p.iA) = L p.iA := by rw [decide_eq_false hne']; rfl
 have hk := heap_setCell_same w' p.Kb f _ _ (.slice ao n c) (h.kb hL)
 rw [hset] at hk
 refine ⟨ao, n, c, h1, h.below.setCell (p := ⟨p.Kb, f, none⟩) hwK _, by rw [World.size_setCell]; exact h.size, fun b hb hne hno => ?_, fun e => ?_, fun e => ?_, fun _ e => ?_, fun _ => ⟨ao, n, c, h1, ?_, fun _ => hk⟩, fun _ => by simp only [eA]; exact hA, fun e => ?_⟩
 ·exact (Below.heap_setCell w' ⟨p.Kb, f, none⟩ _ b hne).trans (h.keep b hb hne hno)
 ·simp at e
 ·simp only [eA] at e
  rw [hA] at e
  cases e
 ·simp only [eA] at e
  rw [hA] at e
  cases e
 ·refine ⟨h2.1, h2.2.imp id fun ⟨g, cap, cur, q1, q2, q3, q4⟩ => ⟨g, cap, cur, q1, q2, ?_, q4⟩⟩
  rw [Below.heap_setCell w' ⟨p.Kb, f, none⟩ _ g (by show g ≠ p.Kb; omega)]
  exact q3
 ·have := h.rd hA
  exact ⟨by rw [this.1]; simp, by rw [this.2]; simp⟩
end
end Go.Proofs.Ytagnbpobcijakaa
