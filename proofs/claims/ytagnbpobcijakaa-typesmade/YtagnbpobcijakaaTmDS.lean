/-
 chancellaw11.build: how a set's row of kids grows (no walk in it).
 chancellaw11.build: a set: what it returns.
-/
import Derived.Test.YtagnbpobcijakaaTmCB
namespace Go.Proofs.Ytagnbpobcijakaa
open Go.RowKit Go.Sort

/-- What lies in memory while a set is made: the node, with its list lc, in the block behind w3; the row v. -/
structure SI (w3 w' : World) (lc v : Value) (rs : List R7) (xs : List Ex) : Prop where
 below : Below w3.heap.size w3 w'
 ve : w'.heap[w3.heap.size]? = some (exObj 6 ⟨#[]⟩ lc)
 own : w'.ownsRow (w3.heap.size + 1) 39 7 v rs.length (cellsE rs)
 all : AllE w' (fun b => w3.heap.size + 1 ≤ b ∧ some b ≠ v.ownBlock) rs xs
theorem SI.base {w3 w' : World} {lc v : Value} {rs : List R7} {xs : List Ex} (h : SI w3 w' lc v rs xs) : w3.heap.size + 1 ≤ w'.heap.size := (Array.getElem?_eq_some_iff.1 h.ve).1
theorem SI.row {w3 w' : World} {lc v : Value} {rs : List R7} {xs : List Ex} (h : SI w3 w' lc v rs xs) : ∀ b, v.ownBlock = some b → w3.heap.size + 1 ≤ b ∧ b < w'.heap.size := fun b e => h.own.lt b e
/-- The state of the region that makes one more kid and appends it. -/
structure TS (w3 wr : World) (lv : Value) (Pl : Ex → Prop) (rs : List R7) (xs : List Ex) (L : Nat → Bool) (a' : Act) (w' : World) : Prop where
 pre : L 13 = false → Below wr.heap.size wr w'
 k10 : L 10 = true → L 11 = false → ∃ (r : R4) (y : Rw), a'.tmps.getD 174 undef = .agg #[.int .i64 r.op, .int .i64 r.n, .slice r.so r.sl r.sc, .slice r.lo r.ll r.lc] ∧ IsR w' r y
 k11 : L 11 = true → L 13 = false → ∃ (q : R7) (X : Ex), a'.tmps.getD 175 undef = .agg #[.int .i64 q.k, .bool q.b, .int .i64 q.n, .string q.s, .string q.t, .string q.i, .slice q.lo q.ll q.lc] ∧ IsE w' (fun b => wr.heap.size ≤ b) q X ∧ Pl X
 k12 : L 12 = true → L 13 = false → ∃ (q : R7) (X : Ex) (blk : Nat), a'.tmps.getD 176 undef = .slice (some ⟨blk, 0, none⟩) 1 1 ∧ wr.heap.size ≤ blk ∧ w'.heap[blk]? = some (.cells #[.int .i64 q.k, .bool q.b, .int .i64 q.n, .string q.s, .string q.t, .string q.i, .slice q.lo q.ll q.lc] 39 (0, 0)) ∧ IsE w' (fun b => wr.heap.size ≤ b) q X ∧ Pl X
 k13 : L 13 = true → L 15 = false → ∃ (v : Value) (q : R7) (X : Ex), a'.tmps.getD 177 undef = v ∧ SI w3 w' lv v (rs ++ [q]) (xs ++ [X]) ∧ Pl X
 k15 : L 15 = true → ∃ (v : Value) (q : R7) (X : Ex), SI w3 w' v v (rs ++ [q]) (xs ++ [X]) ∧ Pl X
 d11 : L 11 = true → L 10 = true
 d12 : L 12 = true → L 11 = true
 d13 : L 13 = true → L 11 = true ∧ L 12 = true ∧ L 1 = true
 d15 : L 15 = true → L 13 = true
section
variable {w3 wr : World} {lv : Value} {Pl : Ex → Prop} {rs : List R7} {xs : List Ex} {L : Nat → Bool} {a' : Act} {w' : World}
theorem TS.start (a : Act) : TS w3 wr lv Pl rs xs (fun _ => false) a wr.drew :=
 ⟨fun _ => (Below.refl _ wr).drew, fun h => (by cases h), fun h => (by cases h), fun h => (by cases h), fun h => (by cases h), fun h => (by cases h), fun h => (by cases h), fun h => (by cases h), fun h => (by cases h), fun h => (by cases h)⟩
theorem TS.n11 (h : TS w3 wr lv Pl rs xs L a' w') (hL : L 10 = false) : L 11 = false := by
 cases e : L 11 with
 | false => rfl
 | true => rw [h.d11 e] at hL; cases hL
theorem TS.n13 (h : TS w3 wr lv Pl rs xs L a' w') (hL : L 11 = false ∨ L 12 = false ∨ L 1 = false) : L 13 = false := by
 cases e : L 13 with
 | false => rfl
 | true =>
  obtain ⟨h1, h2, h3⟩ := h.d13 e
  rcases hL with hL | hL | hL
  ·rw [h1] at hL; cases hL
  ·rw [h2] at hL; cases hL
  ·rw [h3] at hL; cases hL
theorem TS.n12 (h : TS w3 wr lv Pl rs xs L a' w') (hL : L 11 = false) : L 12 = false := by
 cases e : L 12 with
 | false => rfl
 | true => rw [h.d12 e] at hL; cases hL
theorem TS.n15 (h : TS w3 wr lv Pl rs xs L a' w') (hL : L 13 = false) : L 15 = false := by
 cases e : L 15 with
 | false => rfl
 | true => rw [h.d15 e] at hL; cases hL
theorem TS.below (h : TS w3 wr lv Pl rs xs L a' w') (h0 : SI w3 wr lv lv rs xs) : Below w3.heap.size w3 w' := by
 cases e : L 13 with
 | false =>
  have hb := h.pre e
  exact h0.below.trans (hb.mono h0.below.size)
 | true =>
  cases e2 : L 15 with
  | false => obtain ⟨v, q, X, _, h2, _⟩ := h.k13 e e2; exact h2.below
  | true => obtain ⟨v, q, X, h2, _⟩ := h.k15 e2; exact h2.below
theorem TS.other (h : TS w3 wr lv Pl rs xs L a' w') (i d : Nat) (v : Value) (hi : i ≠ 10 ∧ i ≠ 11 ∧ i ≠ 12 ∧ i ≠ 13 ∧ i ≠ 15) (hd : d ≠ 174 ∧ d ≠ 175 ∧ d ≠ 176 ∧ d ≠ 177) : TS w3 wr lv Pl rs xs (fun j => decide (j = i) || L j) (a'.put (some d) v) w' := by
 have e10 : (decide (10 = i) || L 10) = L 10 := by rw [decide_eq_false (fun e => hi.1 e.symm)]; rfl
 have e11 : (decide (11 = i) || L 11) = L 11 := by rw [decide_eq_false (fun e => hi.2.1 e.symm)]; rfl
 have e12 : (decide (12 = i) || L 12) = L 12 := by rw [decide_eq_false (fun e => hi.2.2.1 e.symm)]; rfl
 have e13 : (decide (13 = i) || L 13) = L 13 := by rw [decide_eq_false (fun e => hi.2.2.2.1 e.symm)]; rfl
 have e15 : (decide (15 = i) || L 15) = L 15 := by rw [decide_eq_false (fun e => hi.2.2.2.2 e.symm)]; rfl
 refine ⟨?_, ?_, ?_, ?_, ?_, ?_, ?_, ?_, ?_, ?_⟩ <;> simp only [e10, e11, e12, e13, e15, put_other _ _ _ _ hd.1, put_other _ _ _ _ hd.2.1, put_other _ _ _ _ hd.2.2.1, put_other _ _ _ _ hd.2.2.2]
 ·exact h.pre
 ·exact h.k10
 ·exact h.k11
 ·exact h.k12
 ·exact h.k13
 ·exact h.k15
 ·exact h.d11
 ·exact h.d12
 ·exact fun e => ⟨(h.d13 e).1, (h.d13 e).2.1, by rw [(h.d13 e).2.2]; simp⟩
 ·exact h.d15
theorem TS.kid (h : TS w3 wr lv Pl rs xs L a' w') (hL : L 10 = false) (hs : 174 < a'.tmps.size) {w'' : World} {r : R4} {y : Rw} (hb : Below w'.heap.size w' w'') (hr : IsR w'' r y) : TS w3 wr lv Pl rs xs (fun j => decide (j = 10) || L j) (a'.put (some 174) (.agg #[.int .i64 r.op, .int .i64 r.n, .slice r.so r.sl r.sc, .slice r.lo r.ll r.lc])) w'' := by
 have n11 := h.n11 hL
 have n12 := h.n12 n11
 have n13 := h.n13 (.inl n11)
 have n15 := h.n15 n13
 have hp := h.pre n13
 refine ⟨fun _ => hp.trans (hb.mono hp.size), fun _ _ => ⟨r, y, put_same _ _ _ hs, hr⟩, fun e _ => ?_, fun e _ => ?_, fun e => ?_, fun e => ?_, fun e => ?_, fun e => ?_, fun e => ?_, fun e => ?_⟩
 ·simp [n11] at e
 ·simp [n12] at e
 ·simp [n13] at e
 ·simp [n15] at e
 ·simp [n11] at e
 ·simp [n12] at e
 ·simp [n13] at e
 ·simp [n15] at e
theorem TS.call (h : TS w3 wr lv Pl rs xs L a' w') (hL : L 11 = false) (h10 : L 10 = true) (hs : 175 < a'.tmps.size) {w'' : World} {q : R7} {X : Ex} (hb : Below w'.heap.size w' w'') (hq : IsE w'' (fun b => w'.heap.size ≤ b) q X) (hX : Pl X) : TS w3 wr lv Pl rs xs (fun j => decide (j = 11) || L j) (a'.put (some 175) (.agg #[.int .i64 q.k, .bool q.b, .int .i64 q.n, .string q.s, .string q.t, .string q.i, .slice q.lo q.ll q.lc])) w'' := by
 have n12 := h.n12 hL
 have n13 := h.n13 (.inl hL)
 have n15 := h.n15 n13
 have hp := h.pre n13
 refine ⟨fun _ => hp.trans (hb.mono hp.size), fun _ e => ?_, fun _ _ => ⟨q, X, put_same _ _ _ hs, ?_, hX⟩, fun e _ => ?_, fun e => ?_, fun e => ?_, fun _ => by simp [h10], fun e => ?_, fun e => ?_, fun e => ?_⟩
 ·simp at e
 ·exact IsE.turn (Nat.le_refl _) (fun b hb' _ => ⟨rfl, Nat.le_trans hp.size hb'⟩) q X hq
 ·simp [n12] at e
 ·simp [n13] at e
 ·simp [n15] at e
 ·simp [n12] at e
 ·simp [n13] at e
 ·simp [n15] at e
theorem TS.build (h : TS w3 wr lv Pl rs xs L a' w') (hL : L 12 = false) (h11 : L 11 = true) (hs : 176 < a'.tmps.size) {q : R7} {X : Ex} (hq0 : a'.tmps.getD 175 undef = .agg #[.int .i64 q.k, .bool q.b, .int .i64 q.n, .string q.s, .string q.t, .string q.i, .slice q.lo q.ll q.lc]) (hq : IsE w' (fun b => wr.heap.size ≤ b) q X) (hX : Pl X) :
  TS w3 wr lv Pl rs xs (fun j => decide (j = 12) || L j) (a'.put (some 176) (.slice (some ⟨w'.heap.size, 0, none⟩) 1 1)) (w'.alloc (.cells #[.int .i64 q.k, .bool q.b, .int .i64 q.n, .string q.s, .string q.t, .string q.i, .slice q.lo q.ll q.lc] 39)) := by
 have n13 := h.n13 (.inr (.inl hL))
 have n15 := h.n15 n13
 have hp := h.pre n13
 have n := newS w' (.cells #[.int .i64 q.k, .bool q.b, .int .i64 q.n, .string q.s, .string q.t, .string q.i, .slice q.lo q.ll q.lc] 39)
 have hq' := IsE.turn n.size (fun b hb' hb2 => ⟨n.block b hb2, hb'⟩) q X hq
 refine ⟨fun _ => hp.trans (n.mono hp.size), fun _ e => ?_, fun _ _ => ⟨q, X, by rw [put_other _ _ _ _ (by decide)]; exact hq0, hq', hX⟩, fun _ _ => ⟨q, X, w'.heap.size, put_same _ _ _ hs, hp.size, alloc_heap _ _, hq', hX⟩, fun e => ?_, fun e => ?_, fun _ => by simp [h.d11 h11], fun _ => by simp [h11], fun e => ?_, fun e => ?_⟩
 ·simp [h11] at e
 ·simp [n13] at e
 ·simp [n15] at e
 ·simp [n13] at e
 ·simp [n15] at e
theorem TS.app (h0 : SI w3 wr lv lv rs xs) (h : TS w3 wr lv Pl rs xs L a' w') (hL : L 13 = false) (h11 : L 11 = true) (h12 : L 12 = true) (h1 : L 1 = true) (hs : 177 < a'.tmps.size) {q : R7} {X : Ex} (hq : IsE w' (fun b => wr.heap.size ≤ b) q X) (hX : Pl X)
  {v : Value} {w'' : World} (hown : w''.ownsRow (w3.heap.size + 1) 39 7 v (rs.length + 1) (cellsE rs ++ q.cells)) (hg : w'.grownBy w'' lv.ownBlock) (hat : v.ownBlock = lv.ownBlock ∨ v.ownBlock = some w'.heap.size) :
  TS w3 wr lv Pl rs xs (fun j => decide (j = 13) || L j) (a'.put (some 177) v) w'' := by
 have n15 := h.n15 hL
 have hp := h.pre hL
 have hbase := h0.base
 have hsz := hp.size
 have hrow := h0.row
 have hsame : ∀ b, b < w'.heap.size → lv.ownBlock ≠ some b → w''.heap[b]? = w'.heap[b]? := fun b hb hne => hg.block b hb (fun e => hne e.symm)
 have hold : ∀ b, b < w3.heap.size + 1 → w''.heap[b]? = wr.heap[b]? := fun b hb => by
  rw [hsame b (by omega) (fun e => by have := (hrow b e).1; omega)]
  exact hp.block b (by omega)
 have hne : ∀ b, b < w'.heap.size → lv.ownBlock ≠ some b → some b ≠ v.ownBlock := by
  intro b hb hbg e
  rcases hat with h1 | h1
  ·rw [h1] at e
   exact hbg e.symm
  ·rw [h1] at e
   have hb3 := Option.some.inj e
   omega
 have hinv : SI w3 w'' lv v (rs ++ [q]) (xs ++ [X]) := by
  refine ⟨?_, (hold _ (by omega)).trans h0.ve, ?_, .snoc ?_ ?_⟩
  ·have hb := h0.below.trans (hp.mono h0.below.size)
   exact hb.grown hg hb.size (fun b e => by have := (hrow b e).1; omega)
  ·rw [cellsE_snoc, List.length_append]
   exact hown
  ·refine AllE.turn (by have := hg.size; omega) (fun b hb hb2 => ?_) h0.all
   have hnb : lv.ownBlock ≠ some b := fun e => hb.2 e.symm
   exact ⟨(hsame b (by omega) hnb).trans (hp.block b hb2), hb.1, hne b (by omega) hnb⟩
  ·refine IsE.turn hg.size (fun b hb hb2 => ?_) q X hq
   have hnb : lv.ownBlock ≠ some b := fun e => by have := (hrow b e).2; omega
   exact ⟨hsame b hb2 hnb, by omega, hne b hb2 hnb⟩
 refine ⟨fun e => ?_, fun _ e => ?_, fun _ e => ?_, fun _ e => ?_, fun _ _ => ⟨v, q, X, put_same _ _ _ hs, hinv, hX⟩, fun e => ?_, fun _ => by simp [h.d11 h11], fun _ => by simp [h11], fun _ => by simp [h11, h12, h1], fun e => ?_⟩
 ·simp at e
 ·simp [h11] at e
 ·simp at e
 ·simp at e
 ·simp [n15] at e
 ·simp [n15] at e
theorem TS.store (h : TS w3 wr lv Pl rs xs L a' w') (h13 : L 13 = true) (hL : L 15 = false) {v : Value} (hv : a'.tmps.getD 177 undef = v) : TS w3 wr lv Pl rs xs (fun j => decide (j = 15) || L j) a' (w'.setCell ⟨w3.heap.size, 6, none⟩ v) := by
 obtain ⟨v', q, X, hv', hi, hX⟩ := h.k13 h13 hL
 rw [hv] at hv'
 subst hv'
 have hbase := hi.base
 have hold : ∀ b, b ≠ w3.heap.size → (w'.setCell ⟨w3.heap.size, 6, none⟩ v).heap[b]? = w'.heap[b]? := fun b hb => Below.heap_setCell _ _ _ _ hb
 have hinv : SI w3 (w'.setCell ⟨w3.heap.size, 6, none⟩ v) v v (rs ++ [q]) (xs ++ [X]) := by
  refine ⟨hi.below.setCell (p := ⟨w3.heap.size, 6, none⟩) (Nat.le_refl _) _, ?_, ?_, ?_⟩
  ·have := hi.ve
   unfold exObj at this ⊢
   simp [World.setCell, Array.getElem?_modify, this]
  ·refine ⟨hi.own.1, ?_⟩
   rcases hi.own.2 with h0 | ⟨g, cap, cur, hv, hbg, hg, rest⟩
   ·exact .inl h0
   ·exact .inr ⟨g, cap, cur, hv, hbg, (hold g (by omega)).trans hg, rest⟩
  ·exact AllE.turn (by simp [World.setCell]) (fun b hb hb2 => ⟨hold b (by omega), hb⟩) hi.all
 have d := h.d13 h13
 refine ⟨fun e => ?_, fun _ e => ?_, fun _ e => ?_, fun _ e => ?_, fun _ e => ?_, fun _ => ⟨v, q, X, hinv, hX⟩, fun _ => by simp [h.d11 d.1], fun _ => by simp [d.1], fun _ => by simp [d.1, d.2.1, d.2.2], fun _ => by simp [h13]⟩
 ·simp [h13] at e
 ·simp [d.1] at e
 ·simp [h13] at e
 ·simp [h13] at e
 ·simp at e
end
/-- A kid of a set. -/
def PlE (s : SP) (p r : ByteArray) (t : T3) (n : Nat) (X : Ex) : Prop := okT X ∧ slE X = true ∧ depE X ≤ n ∧ typE s p r X = (t, 0)
theorem typL_same {s : SP} {p r : ByteArray} {t : T3} {n : Nat} : ∀ (xs : List Ex) (acc : List T3), (∀ x ∈ xs, PlE s p r t n x) → typL s p r acc xs = .inl (acc ++ List.replicate xs.length t)
 | [], acc, _ => by rw [typL]; simp
 | x :: xs, acc, h => by
  have hx := h x (by simp)
  rw [typL, if_pos (by rw [hx.2.2.2]), typL_same xs _ (fun y hy => h y (by simp [hy])), hx.2.2.2, List.append_assoc]
  rfl
/-- A set of kids, laid into the place of the answer. -/
theorem set_end {s : SP} {p r : ByteArray} {o : Int} {tn : ByteArray} {n : Nat} {w3 wr : World} {lv : Value} {rs : List R7} {xs : List Ex} {VV : Nat} (h : SI w3 wr lv lv rs xs) (hp : 0 < rs.length) (hlen : rs.length ≤ 10) (ho : o ≠ 5) (hall : ∀ x ∈ xs, PlE s p r ⟨o, 0, tn⟩ n x) (hV : VV < w3.heap.size) (v0 v1 v2 v3 v4 v5 v6 : Value) :
  ∃ (g cap : Nat), lv = .slice (some ⟨g, 0, none⟩) rs.length cap ∧ MadeE w3.heap.size s p r ⟨5, o, tn⟩ (n + 1) (set7S wr VV v0 v1 v2 v3 v4 v5 v6) ⟨6, false, 0, ba [], ba [], ba [], some ⟨g, 0, none⟩, rs.length, cap⟩ (.mk 6 false 0 [] [] [] xs) := by
 obtain ⟨g, cap, e, hB, hg, hrow⟩ := ownsE_at h.own hp
 refine ⟨g, cap, e, ?_⟩
 have hz := set7S_size wr VV v0 v1 v2 v3 v4 v5 v6
 have ha := AllE.turn (w' := set7S wr VV v0 v1 v2 v3 v4 v5 v6) (P' := fun b => w3.heap.size ≤ b) (by rw [hz]; exact Nat.le_refl _) (fun b hb _ => ⟨set7S_heap _ _ _ _ _ _ _ _ _ _ (by omega), by omega⟩) h.all
 have hlx := h.all.len
 refine ⟨?_, ?_, ?_, ?_, ?_⟩
 ·unfold IsE
  exact ⟨rfl, rfl, rfl, rfl, rfl, rfl, hlx, ha.row (by omega) (by rw [hz]; exact hg) fun j hj => (hrow j hj).same (set7S_heap _ _ _ _ _ _ _ _ _ _ (by omega))⟩
 ·unfold okT
  exact ⟨by decide, fun h => absurd rfl h, fun h => absurd h (by decide), okTs_of xs fun x hx => (hall x hx).1⟩
 ·unfold slE
  rw [decide_eq_true (by omega), slL_of xs fun x hx => (hall x hx).2.1]
  rfl
 ·unfold depE
  have := depL_leT xs n fun x hx => (hall x hx).2.2.1
  omega
 ·rw [typE_mk, typL_same xs [] hall, List.nil_append]
  obtain ⟨k, hk⟩ : ∃ k, xs.length = k + 1 := ⟨xs.length - 1, by omega⟩
  rw [hk]
  exact set_typ ho k
end Go.Proofs.Ytagnbpobcijakaa

namespace Go.Proofs.Ytagnbpobcijakaa
open Go.RowKit Go.Sort

/-- What operations answer, where it is told. -/
def SpQ (l : List (Option Value)) : Nat → Value → World → Prop := fun q v _ => ∀ u, l.getD q none = some u → v = u
theorem spq_eq {l : List (Option Value)} {q : Nat} {v : Value} {w : World} (h : l.getD q none = some v) : SpQ l q v w := fun u hu => by rw [h] at hu; exact Option.some.inj hu
theorem spq_any {l : List (Option Value)} {q : Nat} {v : Value} {w : World} (h : l.getD q none = none) : SpQ l q v w := fun u hu => by rw [h] at hu; cases hu
set_option maxHeartbeats 8000000 in
set_option maxRecDepth 1000000 in
theorem build11_set (s : SP) (ko ao : Option Addr) (kc acp : Nat) (p ac r : ByteArray) (dq dp : Int) (n : Nat) (d : R4) (x : Rw) (to_ : Int) (tn : ByteArray) (ho : to_ ≠ 5) (hge : GTy s ⟨to_, 0, tn⟩) (h0 : 4 ≤ d.op % 12) (w : World) (hdp : IntKind.i64.wrap (dq - 1) = dp) (hx : IsR w d x) (COF : ∀ (w' : World) (t : T3) (d : R4) (x : Rw), Below w.heap.size w w' → GTy s t → IsR w' d x → Calls Try.prog 14 #[.agg #[.slice ko s.ks.length kc, .slice ao s.ac.length acp, .string p, .string ac, .string r, .int .i64 dp], .agg #[.int .i64 t.k, .int .i64 t.o, .string t.n], .agg #[.int .i64 d.op, .int .i64 d.n, .slice d.so d.sl d.sc, .slice d.lo d.ll d.lc]] w' fun e w9 => MakesT s p r t n w' e w9) : Calls Try.prog 45 #[.agg #[.slice ko s.ks.length kc, .slice ao s.ac.length acp], .agg #[.string p, .string ac, .string r], .agg #[.int .i64 5, .int .i64 to_, .string tn], .agg #[.int .i64 d.op, .int .i64 d.n, .slice d.so d.sl d.sc, .slice d.lo d.ll d.lc], .int .i64 dq] w fun e w' => MakesT s p r ⟨5, to_, tn⟩ (n + 1) w e w' := by
 obtain ⟨bX, zX, k1, k2, k3, k4, k5⟩ := alloc5 w (.cells #[.slice ko s.ks.length kc, .slice ao s.ac.length acp] 33) (.cells #[.string p, .string ac, .string r] 42) (.cells #[.int .i64 5, .int .i64 to_, .string tn] 54) (.cells #[.int .i64 d.op, .int .i64 d.n, .slice d.so d.sl d.sc, .slice d.lo d.ll d.lc] 49) (.cells #[.int .i64 0, .bool false, .int .i64 0, .string ⟨#[]⟩, .string ⟨#[]⟩, .string ⟨#[]⟩, .slice none 0 0] 39)
 obtain ⟨m, hm⟩ : ∃ m : Int, m = d.op % 12 := ⟨_, rfl⟩
 have hm12 : 0 ≤ m ∧ m < 12 := by omega
 have CW := fun w' => within11_any d.op 12 (by decide) (by decide) w'
 rw [← hm] at CW
 have Hm := hide hm
 clear hm
 have HX := hide hx
 have hg1 : GTy s ⟨1, 0, ⟨#[]⟩⟩ := .inl ⟨.inl rfl, rfl, rfl⟩
 have hg2 : GTy s ⟨2, 0, ⟨#[]⟩⟩ := .inl ⟨.inr (.inl rfl), rfl, rfl⟩
 clear hx
 go_enter Try.func45, Try.ntmps45
 go_upto_region 1 with fail
 generalize ((((w.alloc _).alloc _).alloc _).alloc _).alloc _ = w1 at *
 clear zX
 obtain ⟨cs0, cs1⟩ := bl2_ k1
 obtain ⟨cn0, cn1, cn2⟩ := bl3_ k2
 have b2 := blw1 w1 (.cells #[.slice ko s.ks.length kc, .slice ao s.ac.length acp, .string p, .string ac, .string r, .int .i64 dp] 52)
 have k6 := alloc_heap w1 (.cells #[.slice ko s.ks.length kc, .slice ao s.ac.length acp, .string p, .string ac, .string r, .int .i64 dp] 52)
 go_upto_region 2 with fail
 clear cs0 cs1 cn0 cn1 cn2
 have bX := bX.trans (b2.mono bX.size)
 have k1 := kept_of_below b2 k1
 have k2 := kept_of_below b2 k2
 have k3 := kept_of_below b2 k3
 have k4 := kept_of_below b2 k4
 have k5 := kept_of_below b2 k5
 generalize w1.alloc _ = w2 at *
 clear b2
 obtain ⟨bY, zY, k7, k8⟩ := alloc2 w2 (.cells #[.int .i64 2, .int .i64 0, .string ⟨#[]⟩] 54) (.cells #[.int .i64 1, .int .i64 0, .string ⟨#[]⟩] 54)
 go_upto_region 3 with fail
 have bX := bX.trans (bY.mono bX.size)
 have k1 := kept_of_below bY k1
 have k2 := kept_of_below bY k2
 have k3 := kept_of_below bY k3
 have k4 := kept_of_below bY k4
 have k5 := kept_of_below bY k5
 have k6 := kept_of_below bY k6
 generalize (w2.alloc _).alloc _ = w3 at *
 clear bY zY
 have rr0 : w3.cell? ⟨w.heap.size + 3, 0, none⟩ = some (.int .i64 d.op) := lc_ k4 rfl
 go_wp2_with fail
 refine (CW _).mono ?_
 clear CW rr0
 rintro e9 w9 ⟨rfl, hw9⟩
 have hw9 := hw9.symm
 subst hw9
 have hVlt : w.heap.size + 4 < w3.heap.size := (Array.getElem?_eq_some_iff.1 k5).1
 have hw3 : w.heap.size ≤ w3.heap.size := bX.size
 have CK := fun (i : Int) (h1 : 0 ≤ i ∧ i ≤ 10) w' (hb : Below w3.heap.size w3 w') => kid11_any d x i w' h1 (IsR.below (bX.trans (hb.mono bX.size)) d x (unhide HX))
 have CO := fun (t : T3) (ht : GTy s t) w' (hb : Below w3.heap.size w3 w') (d' : R4) (x' : Rw) (hx' : IsR w' d' x') => COF w' t d' x' (bX.trans (hb.mono bX.size)) ht hx'
 clear COF hdp
 obtain ⟨tt0, tt1, tt2⟩ := bl3_ k3
 obtain ⟨rr0, rr1, rr2, rr3⟩ := bl4_ k4
 obtain ⟨mk0, mk1, mk2, mk3, mk4, mk5⟩ := bl6_ k6
 have hm4 : 4 ≤ m := by rw [unhide Hm]; exact h0
 have gm0 : (m == 0) = false := by simpa using (show ¬ m = 0 by omega)
 have gm1 : ¬ m ≤ 3 := by omega
 obtain ⟨N, hN⟩ : ∃ N : Nat, (N : Int) = 1 + d.n % 3 := ⟨(1 + d.n % 3).toNat, by omega⟩
 have hN3 : 1 ≤ N ∧ N ≤ 3 := by omega
 have CW2 := fun w' => within11_any d.n 3 (by decide) (by decide) w'
 rw [show d.n % 3 = (N : Int) - 1 by omega] at CW2
 have ewN : IntKind.i64.wrap (1 + ((N : Int) - 1)) = (N : Int) := by rw [IntKind.wrap_i64]; omega
 have Ho := hide ho
 clear h0 hm12 hm4 hg1 hg2 hN ho
 have b4 := blw1 w3 (.cells #[.int .i64 6, .bool false, .int .i64 0, .string ⟨#[]⟩, .string ⟨#[]⟩, .string ⟨#[]⟩, .slice none 0 0] 39)
 have h4 := alloc_heap w3 (.cells #[.int .i64 6, .bool false, .int .i64 0, .string ⟨#[]⟩, .string ⟨#[]⟩, .string ⟨#[]⟩, .slice none 0 0] 39)
 go_upto_region 24 with fail
 have HI4 := hide (show SI w3 (w3.alloc (.cells #[.int .i64 6, .bool false, .int .i64 0, .string ⟨#[]⟩, .string ⟨#[]⟩, .string ⟨#[]⟩, .slice none 0 0] 39)) (.slice none 0 0) (.slice none 0 0) [] [] from ⟨b4, h4, ⟨rfl, .inl ⟨rfl, rfl⟩⟩, .nil⟩)
 generalize w3.alloc _ = w4 at *
 clear b4 h4
 clear tt0 tt1 tt2 rr0 rr1 rr2 rr3 mk0 mk1 mk2 mk3 mk4 mk5
 go_wp2_with fail
 go_loopw [19] (fun iv wr => ∃ (j : Nat) (lv : Value) (rs : List R7) (xs : List Ex), iv = .int .i64 j ∧ j ≤ N ∧ rs.length = j ∧ SI w3 wr lv lv rs xs ∧ ∀ x ∈ xs, PlE s p r ⟨to_, 0, tn⟩ n x) (fun iv _ => N - (intOf iv).toNat)
 case atStart => exact ⟨0, _, [], [], by go_num, Nat.zero_le _, rfl, unhide HI4, fun x hx => absurd hx List.not_mem_nil⟩
 case round =>
  obtain ⟨j, lv, rs, xs, rfl, hjl, hrl, hSI, hall⟩ := hrel
  obtain ⟨lo, lc, rfl⟩ := ownE_slice hSI.own
  have HSI := hide hSI
  have Hall := hide hall
  have Hrl := hide hrl
  have Hlen := hide (show rs.length ≤ 10 by omega)
  have hbr := hSI.below
  have k4r := kept_of_below hbr k4
  have rr1 : wr.cell? ⟨w.heap.size + 3, 1, none⟩ = some (.int .i64 d.n) := lc_ k4r rfl
  clear hSI hall hrl
  go_wp2_with fail
  refine (CW2 _).mono ?_
  rintro e9 w9 ⟨rfl, hw9⟩
  have hw9 := hw9.symm
  subst hw9
  clear rr1
  by_cases hlt : j < N
  ·have i1 : (j : Int) < (N : Int) := by omega
   have CKj := fun w' (hb : Below w3.heap.size w3 w') => CK (j : Int) ⟨by omega, by omega⟩ w' hb
   go_upto_region 27 with fail
   refine wp_specsD (SpQ [some (.pointer (some ⟨w3.heap.size, 6, none⟩)), some (.slice lo rs.length lc), some (.agg #[.slice ko s.ks.length kc, .slice ao s.ac.length acp, .string p, .string ac, .string r, .int .i64 dp]), some (.pointer (some ⟨w.heap.size + 2, 1, none⟩)), some (.int .i64 to_), some (.pointer (some ⟨w.heap.size + 2, 2, none⟩)), some (.string tn), some (.agg #[.int .i64 to_, .int .i64 0, .string tn]), some (.agg #[.int .i64 d.op, .int .i64 d.n, .slice d.so d.sl d.sc, .slice d.lo d.ll d.lc]), some (.int .i64 j), none, none, none, none, some (.pointer (some ⟨w3.heap.size, 6, none⟩)), none]) (TS w3 wr (.slice lo rs.length lc) (PlE s p r ⟨to_, 0, tn⟩ n) rs xs) (by kernel_rfl) (by kernel_rfl) (by kernel_rfl) (TS.start _) ?_ ?_ ?_
   ·intro q o dd_ ho hd L a' w' hL hw hRR hdep hslot hsz K hK
    have hqN : q < 16 := dstOf_lt hd
    have hB := hRR.below (unhide HSI)
    have m3 := kept_of_below hB k3
    have m4 := kept_of_below hB k4
    have m6 := kept_of_below hB k6
    obtain ⟨rr0, rr1, rr2, rr3⟩ := bl4_ m4
    obtain ⟨mk0, mk1, mk2, mk3, mk4, mk5⟩ := bl6_ m6
    have tt1 : w'.cell? ⟨w.heap.size + 2, 1, none⟩ = some (.int .i64 to_) := lc_ m3 rfl
    have tt2 : w'.cell? ⟨w.heap.size + 2, 2, none⟩ = some (.string tn) := lc_ m3 rfl
    clear m3 m4 m6
    have hs18 : a'.tmps.getD 18 undef = .pointer (some ⟨w3.heap.size, 0, none⟩) := hslot 18 (fun q h => by have hl := dstOf_lt h; match q, hl with | 0, _ => cases h | 1, _ => cases h | 2, _ => cases h | 3, _ => cases h | 4, _ => cases h | 5, _ => cases h | 6, _ => cases h | 7, _ => cases h | 8, _ => cases h | 9, _ => cases h | 10, _ => cases h | 11, _ => cases h | 12, _ => cases h | 13, _ => cases h | 14, _ => cases h | 15, _ => cases h)
    have hs11 : a'.tmps.getD 11 undef = .pointer (some ⟨w1.heap.size, 0, none⟩) := hslot 11 (fun q h => by have hl := dstOf_lt h; match q, hl with | 0, _ => cases h | 1, _ => cases h | 2, _ => cases h | 3, _ => cases h | 4, _ => cases h | 5, _ => cases h | 6, _ => cases h | 7, _ => cases h | 8, _ => cases h | 9, _ => cases h | 10, _ => cases h | 11, _ => cases h | 12, _ => cases h | 13, _ => cases h | 14, _ => cases h | 15, _ => cases h)
    have hs7 : a'.tmps.getD 7 undef = .pointer (some ⟨w.heap.size + 2, 0, none⟩) := hslot 7 (fun q h => by have hl := dstOf_lt h; match q, hl with | 0, _ => cases h | 1, _ => cases h | 2, _ => cases h | 3, _ => cases h | 4, _ => cases h | 5, _ => cases h | 6, _ => cases h | 7, _ => cases h | 8, _ => cases h | 9, _ => cases h | 10, _ => cases h | 11, _ => cases h | 12, _ => cases h | 13, _ => cases h | 14, _ => cases h | 15, _ => cases h)
    have hs8 : a'.tmps.getD 8 undef = .pointer (some ⟨w.heap.size + 3, 0, none⟩) := hslot 8 (fun q h => by have hl := dstOf_lt h; match q, hl with | 0, _ => cases h | 1, _ => cases h | 2, _ => cases h | 3, _ => cases h | 4, _ => cases h | 5, _ => cases h | 6, _ => cases h | 7, _ => cases h | 8, _ => cases h | 9, _ => cases h | 10, _ => cases h | 11, _ => cases h | 12, _ => cases h | 13, _ => cases h | 14, _ => cases h | 15, _ => cases h)
    have hs19 : a'.tmps.getD 19 undef = .int .i64 j := hslot 19 (fun q h => by have hl := dstOf_lt h; match q, hl with | 0, _ => cases h | 1, _ => cases h | 2, _ => cases h | 3, _ => cases h | 4, _ => cases h | 5, _ => cases h | 6, _ => cases h | 7, _ => cases h | 8, _ => cases h | 9, _ => cases h | 10, _ => cases h | 11, _ => cases h | 12, _ => cases h | 13, _ => cases h | 14, _ => cases h | 15, _ => cases h)
    have hc : q = 0 ∨ q = 1 ∨ q = 2 ∨ q = 3 ∨ q = 4 ∨ q = 5 ∨ q = 6 ∨ q = 7 ∨ q = 8 ∨ q = 9 ∨ q = 10 ∨ q = 11 ∨ q = 12 ∨ q = 13 ∨ q = 14 ∨ q = 15 := by omega
    rcases hc with rfl | rfl | rfl | rfl | rfl | rfl | rfl | rfl | rfl | rfl | rfl | rfl | rfl | rfl | rfl | rfl
    ·cases ho
     cases hd
     have e0 := hs18
     clear mk0 mk1 mk2 mk3 mk4 mk5 rr0 rr1 rr2 rr3 tt1 tt2
     unfold Oper.wp
     go_simp
     exact hK _ _ (spq_eq rfl) (hRR.other 0 164 _ (by decide) (by decide)) (fun _ _ h => h)
    ·cases ho
     cases hd
     have e0 : a'.tmps.getD 164 undef = .pointer (some ⟨w3.heap.size, 6, none⟩) := hdep 0 164 rfl (by kernel_rfl) _ rfl
     have e0' := gd_ e0
     have hp := hRR.pre (hRR.n13 (.inr (.inr hL)))
     have hve := kept_of_below hp (unhide HSI).ve
     have y6 : w'.cell? ⟨w3.heap.size, 6, none⟩ = some (.slice lo rs.length lc) := lc_ hve rfl
     clear hve
     clear mk0 mk1 mk2 mk3 mk4 mk5 rr0 rr1 rr2 rr3 tt1 tt2
     unfold Oper.wp
     go_simp
     exact hK _ _ (spq_eq rfl) (hRR.other 1 165 _ (by decide) (by decide)) (fun _ _ h => h)
    ·cases ho
     cases hd
     have e0 := hs11
     clear rr0 rr1 rr2 rr3 tt1 tt2
     unfold Oper.wp
     go_simp
     exact hK _ _ (spq_eq rfl) (hRR.other 2 166 _ (by decide) (by decide)) (fun _ _ h => h)
    ·cases ho
     cases hd
     have e0 := hs7
     clear mk0 mk1 mk2 mk3 mk4 mk5 rr0 rr1 rr2 rr3 tt1 tt2
     unfold Oper.wp
     go_simp
     exact hK _ _ (spq_eq rfl) (hRR.other 3 167 _ (by decide) (by decide)) (fun _ _ h => h)
    ·cases ho
     cases hd
     have e0 : a'.tmps.getD 167 undef = .pointer (some ⟨w.heap.size + 2, 1, none⟩) := hdep 3 167 rfl (by kernel_rfl) _ rfl
     have e0' := gd_ e0
     clear mk0 mk1 mk2 mk3 mk4 mk5 rr0 rr1 rr2 rr3 tt2
     unfold Oper.wp
     go_simp
     exact hK _ _ (spq_eq rfl) (hRR.other 4 168 _ (by decide) (by decide)) (fun _ _ h => h)
    ·cases ho
     cases hd
     have e0 := hs7
     clear mk0 mk1 mk2 mk3 mk4 mk5 rr0 rr1 rr2 rr3 tt1 tt2
     unfold Oper.wp
     go_simp
     exact hK _ _ (spq_eq rfl) (hRR.other 5 169 _ (by decide) (by decide)) (fun _ _ h => h)
    ·cases ho
     cases hd
     have e0 : a'.tmps.getD 169 undef = .pointer (some ⟨w.heap.size + 2, 2, none⟩) := hdep 5 169 rfl (by kernel_rfl) _ rfl
     have e0' := gd_ e0
     clear mk0 mk1 mk2 mk3 mk4 mk5 rr0 rr1 rr2 rr3 tt1
     unfold Oper.wp
     go_simp
     exact hK _ _ (spq_eq rfl) (hRR.other 6 170 _ (by decide) (by decide)) (fun _ _ h => h)
    ·cases ho
     cases hd
     have e0 : a'.tmps.getD 168 undef = .int .i64 to_ := hdep 4 168 rfl (by kernel_rfl) _ rfl
     have e0' := gd_ e0
     have e1 : a'.tmps.getD 170 undef = .string tn := hdep 6 170 rfl (by kernel_rfl) _ rfl
     have e1' := gd_ e1
     clear hsz
     clear mk0 mk1 mk2 mk3 mk4 mk5 rr0 rr1 rr2 rr3 tt1 tt2
     unfold Oper.wp
     go_simp
     exact hK _ _ (spq_eq rfl) (hRR.other 7 171 _ (by decide) (by decide)) (fun _ _ h => h)
    ·cases ho
     cases hd
     have e0 := hs8
     clear mk0 mk1 mk2 mk3 mk4 mk5 tt1 tt2
     unfold Oper.wp
     go_simp
     exact hK _ _ (spq_eq rfl) (hRR.other 8 172 _ (by decide) (by decide)) (fun _ _ h => h)
    ·cases ho
     cases hd
     have e0 := hs19
     clear mk0 mk1 mk2 mk3 mk4 mk5 rr0 rr1 rr2 rr3 tt1 tt2
     unfold Oper.wp
     go_simp
     exact hK _ _ (spq_eq rfl) (hRR.other 9 173 _ (by decide) (by decide)) (fun _ _ h => h)
    ·cases ho
     cases hd
     have e0 : a'.tmps.getD 172 undef = .agg #[.int .i64 d.op, .int .i64 d.n, .slice d.so d.sl d.sc, .slice d.lo d.ll d.lc] := hdep 8 172 rfl (by kernel_rfl) _ rfl
     have e0' := gd_ e0
     have e1 : a'.tmps.getD 173 undef = .int .i64 j := hdep 9 173 rfl (by kernel_rfl) _ rfl
     have e1' := gd_ e1
     clear mk0 mk1 mk2 mk3 mk4 mk5 rr0 rr1 rr2 rr3 tt1 tt2
     unfold Oper.wp
     go_simp
     refine (CKj w' hB).mono ?_
     rintro e w9 ⟨⟨r9, y9, rfl, h9⟩, b9⟩
     exact hK _ _ (spq_any rfl) (hRR.kid hL (by rw [hsz]; exact Nat.le_of_ble_eq_true rfl) b9 h9) (fun _ _ h => h)
    ·cases ho
     cases hd
     have e0 : a'.tmps.getD 166 undef = .agg #[.slice ko s.ks.length kc, .slice ao s.ac.length acp, .string p, .string ac, .string r, .int .i64 dp] := hdep 2 166 rfl (by kernel_rfl) _ rfl
     have e0' := gd_ e0
     have e1 : a'.tmps.getD 171 undef = .agg #[.int .i64 to_, .int .i64 0, .string tn] := hdep 7 171 rfl (by kernel_rfl) _ rfl
     have e1' := gd_ e1
     obtain ⟨r9, y9, e2, hr9⟩ := hRR.k10 (hw 10 (by kernel_rfl)) hL
     have e2' := gd_ e2
     have Hr9 := hide hr9
     clear hr9
     clear mk0 mk1 mk2 mk3 mk4 mk5 rr0 rr1 rr2 rr3 tt1 tt2
     unfold Oper.wp
     go_simp
     refine (CO ⟨to_, 0, tn⟩ hge w' hB r9 y9 (unhide Hr9)).mono ?_
     rintro e w9 ⟨q9, rfl, b9, X9, hM⟩
     exact hK _ _ (spq_any rfl) (hRR.call hL (hw 10 (by kernel_rfl)) (by rw [hsz]; exact Nat.le_of_ble_eq_true rfl) b9 hM.is ⟨hM.ok, hM.sl, hM.dep, hM.typ⟩) (fun _ _ h => h)
    ·cases ho
     cases hd
     have n13 := hRR.n13 (.inr (.inl hL))
     obtain ⟨q9, X9, e0, hq9, hX9⟩ := hRR.k11 (hw 11 (by kernel_rfl)) n13
     have e0' := gd_ e0
     have Hq9 := hide (And.intro hq9 hX9)
     have H176 := hide (show 176 < a'.tmps.size from (by rw [hsz]; exact Nat.le_of_ble_eq_true rfl))
     clear hq9 hX9 hsz
     clear mk0 mk1 mk2 mk3 mk4 mk5 rr0 rr1 rr2 rr3 tt1 tt2
     unfold Oper.wp
     go_simp
     exact hK _ _ (spq_any rfl) (hRR.build hL (hw 11 (by kernel_rfl)) (unhide H176) e0 (unhide Hq9).1 (unhide Hq9).2) (fun _ _ h => h)
    ·cases ho
     cases hd
     have e0 : a'.tmps.getD 165 undef = .slice lo rs.length lc := hdep 1 165 rfl (by kernel_rfl) _ rfl
     have e0' := gd_ e0
     obtain ⟨q9, X9, blk, e1, hbl, hob, hq9, hX9⟩ := hRR.k12 (hw 12 (by kernel_rfl)) hL
     clear mk0 mk1 mk2 mk3 mk4 mk5 rr0 rr1 rr2 rr3 tt1 tt2
     obtain ⟨iE, hiE, hzE0, hzE1, hzE2⟩ := info_parts infoExpr
     have hp := hRR.pre hL
     have hbs := (unhide HSI).base
     obtain ⟨v', w'', hrun, hown', hgr, _, hat⟩ := run_append_own_at (P := Try.prog) w' (w3.heap.size + 1) 37 37 39 iE _ 7 96 Try.underlying37 hiE hzE0 hzE1 hzE2 rfl (by decide) (.slice lo rs.length lc) rs.length (cellsE rs) (owns_below hp (unhide HSI).own) ⟨blk, 0, none⟩ 1 1 q9.cells rfl (fun c u hu => by
      rw [Addr.add_lit, Nat.zero_add, Lib.cell_of_heap hob]
      simpa [R7.cells] using hu) (cellE_one q9) (by have := unhide Hlen; unfold maxLen; omega) (by have := unhide Hlen; omega) (by have := hp.size; omega)
     have hRN := hRR.app (unhide HSI) hL (hRR.d12 (hw 12 (by kernel_rfl))) (hw 12 (by kernel_rfl)) (hw 1 (by kernel_rfl)) (by rw [hsz]; exact Nat.le_of_ble_eq_true rfl) hq9 hX9 hown' hgr hat
     unfold Oper.wp execOp
     simp only [resolve, invoke, builtin, Sem.run_bind, Sem.run_pure, Result.andThen_ok, List.map_toArray, List.map_cons, List.map_nil, Act.eval, e0, e1, hrun]
     exact hK _ _ (spq_any rfl) hRN (fun _ _ h => h)
    ·cases ho
     cases hd
     have e0 := hs18
     clear mk0 mk1 mk2 mk3 mk4 mk5 rr0 rr1 rr2 rr3 tt1 tt2
     unfold Oper.wp
     go_simp
     exact hK _ _ (spq_eq rfl) (hRR.other 14 178 _ (by decide) (by decide)) (fun _ _ h => h)
    ·cases hd
   ·intro q o ho hd L a' w' hL hw hRR hdep K hK
    have hqN : q < 16 := (List.getElem?_eq_some_iff.1 ho).1
    have hB := hRR.below (unhide HSI)
    have m3 := kept_of_below hB k3
    have m4 := kept_of_below hB k4
    have m6 := kept_of_below hB k6
    obtain ⟨rr0, rr1, rr2, rr3⟩ := bl4_ m4
    obtain ⟨mk0, mk1, mk2, mk3, mk4, mk5⟩ := bl6_ m6
    have tt1 : w'.cell? ⟨w.heap.size + 2, 1, none⟩ = some (.int .i64 to_) := lc_ m3 rfl
    have tt2 : w'.cell? ⟨w.heap.size + 2, 2, none⟩ = some (.string tn) := lc_ m3 rfl
    clear m3 m4 m6
    have hc : q = 0 ∨ q = 1 ∨ q = 2 ∨ q = 3 ∨ q = 4 ∨ q = 5 ∨ q = 6 ∨ q = 7 ∨ q = 8 ∨ q = 9 ∨ q = 10 ∨ q = 11 ∨ q = 12 ∨ q = 13 ∨ q = 14 ∨ q = 15 := by omega
    rcases hc with rfl | rfl | rfl | rfl | rfl | rfl | rfl | rfl | rfl | rfl | rfl | rfl | rfl | rfl | rfl | rfl
    ·cases hd
    ·cases hd
    ·cases hd
    ·cases hd
    ·cases hd
    ·cases hd
    ·cases hd
    ·cases hd
    ·cases hd
    ·cases hd
    ·cases hd
    ·cases hd
    ·cases hd
    ·cases hd
    ·cases hd
    ·cases ho
     have e0 : a'.tmps.getD 178 undef = .pointer (some ⟨w3.heap.size, 6, none⟩) := hdep 14 178 rfl (by kernel_rfl) _ rfl
     have e0' := gd_ e0
     obtain ⟨v9, q9, X9, e1, hSI9, _⟩ := hRR.k13 (hw 13 (by kernel_rfl)) hL
     have HP := hide (hRR.store (hw 13 (by kernel_rfl)) hL e1)
     have hve := hSI9.ve
     obtain ⟨a9, c9, rfl⟩ := ownE_slice hSI9.own
     have y6 : w'.cell? ⟨w3.heap.size, 6, none⟩ = some (.slice lo rs.length lc) := lc_ hve rfl
     have yf : ∀ o, w'.frozen? ⟨w3.heap.size, o, none⟩ = false := fun o => Lib.frozen_of_heap hve o
     have e1' := gd_ e1
     clear hve hSI9
     generalize (rs ++ [q9]).length = l9 at *
     clear mk0 mk1 mk2 mk3 mk4 mk5 rr0 rr1 rr2 rr3 tt1 tt2
     unfold Oper.wp
     go_simp
     exact hK _ (unhide HP) (fun _ _ h => h) undef
   ·intro v L w' hLa hRR hv
    obtain ⟨v9, q9, X9, hSI9, hX9⟩ := hRR.k15 (hLa 15 (by decide))
    have f0 : v 0 = .pointer (some ⟨w3.heap.size, 6, none⟩) := (hv 0 164 rfl).1 _ rfl
    have f1 : v 1 = .slice lo rs.length lc := (hv 1 165 rfl).1 _ rfl
    have f2 : v 2 = .agg #[.slice ko s.ks.length kc, .slice ao s.ac.length acp, .string p, .string ac, .string r, .int .i64 dp] := (hv 2 166 rfl).1 _ rfl
    have f3 : v 3 = .pointer (some ⟨w.heap.size + 2, 1, none⟩) := (hv 3 167 rfl).1 _ rfl
    have f4 : v 4 = .int .i64 to_ := (hv 4 168 rfl).1 _ rfl
    have f5 : v 5 = .pointer (some ⟨w.heap.size + 2, 2, none⟩) := (hv 5 169 rfl).1 _ rfl
    have f6 : v 6 = .string tn := (hv 6 170 rfl).1 _ rfl
    have f7 : v 7 = .agg #[.int .i64 to_, .int .i64 0, .string tn] := (hv 7 171 rfl).1 _ rfl
    have f8 : v 8 = .agg #[.int .i64 d.op, .int .i64 d.n, .slice d.so d.sl d.sc, .slice d.lo d.ll d.lc] := (hv 8 172 rfl).1 _ rfl
    have f9 : v 9 = .int .i64 j := (hv 9 173 rfl).1 _ rfl
    have f14 : v 14 = .pointer (some ⟨w3.heap.size, 6, none⟩) := (hv 14 178 rfl).1 _ rfl
    have H9 := hide (And.intro hSI9 hX9)
    clear hRR hv hLa hSI9 hX9
    simp only [putAll, dstOf, List.getElem?_cons_zero, List.getElem?_cons_succ, Option.bind_some, List.length_cons, List.length_nil, f0, f1, f2, f3, f4, f5, f6, f7, f8, f9, f14]
    clear f0 f1 f2 f3 f4 f5 f6 f7 f8 f9 f14
    simp only [Act.put, List.setIfInBounds_toArray, List.set_cons_succ, List.set_cons_zero]
    generalize v 10 = vv10
    generalize v 11 = vv11
    generalize v 12 = vv12
    generalize v 13 = vv13
    generalize v 15 = vv15
    go_wp2
    go_roundw
    case rel => exact ⟨j + 1, v9, rs ++ [q9], xs ++ [X9], by go_num, by omega, by rw [List.length_append, unhide Hrl]; rfl, (unhide H9).1, fun x hx => by
     rcases List.mem_append.1 hx with h | h
     ·exact unhide Hall x h
     ·rw [List.mem_singleton] at h
      rw [h]
      exact (unhide H9).2⟩
    case measure =>
     simp only [intOf]
     omega
  ·have i1 : ¬ (j : Int) < (N : Int) := by omega
   have hve := (unhide HSI).ve
   unfold exObj at hve
   obtain ⟨v0, v1, v2, v3, v4, v5, v6⟩ := bl7_ hve
   have hV := kept_of_below hbr k5
   obtain ⟨y0, y1, y2, y3, y4, y5, y6, yf⟩ := blk7 hV
   have HB := hide (bX.trans (hbr.mono bX.size))
   have hpos : 0 < rs.length := by have := unhide Hrl; omega
   have HE := hide (fun (v0 v1 v2 v3 v4 v5 v6 : Value) => set_end (VV := w.heap.size + 4) (unhide HSI) hpos (unhide Hlen) (unhide Ho) (unhide Hall) hVlt v0 v1 v2 v3 v4 v5 v6)
   obtain ⟨g, cap, hgv, _⟩ := unhide HE undef undef undef undef undef undef undef
   injection hgv with g1 g2 g3
   subst g1 g3
   clear g2 hve hV CW2 CK CO hpos
   go_wp2
   obtain ⟨g', cap', hgv, hM⟩ := unhide HE (.int .i64 6) (.bool false) (.int .i64 0) (.string ⟨#[]⟩) (.string ⟨#[]⟩) (.string ⟨#[]⟩) (.slice (some ⟨g, 0, none⟩) rs.length lc)
   injection hgv with g1 g2 g3
   have g4 := (Option.some.inj g1)
   injection g4 with g5 g6 g7
   subst g5 g3
   exact bodyPost_ret (v := .agg #[.int .i64 6, .bool false, .int .i64 0, .string ⟨#[]⟩, .string ⟨#[]⟩, .string ⟨#[]⟩, .slice (some ⟨g, 0, none⟩) rs.length lc]) (by simp [results, Try.results45, go_sem, y0, y1, y2, y3, y4, y5, y6]) rfl ⟨⟨6, false, 0, ⟨#[]⟩, ⟨#[]⟩, ⟨#[]⟩, some ⟨g, 0, none⟩, rs.length, lc⟩, rfl, set7S_below (unhide HB) (Nat.le_add_right _ 4) _ _ _ _ _ _ _, _, hM.weak hw3 (Nat.le_refl _)⟩
end Go.Proofs.Ytagnbpobcijakaa
