/-
  slices.BinarySearchFunc over a rising row of plain values, by value.compare.
  slices.Insert of one value into a row of the call's own.
  slices.Insert of one value into a row of the call's own: in the midst.
  slices.Insert of one value into a row of the call's own: in the midst, where there is no room; and all roads together.
  value.mayStandBy; the contents' value: what they return.
  value.Set: where a kind is not the first one's, or a set's.
  Plain facts: a set grows by one in its place; the cells of a row of plain values.
  value.Set of plain values of one kind.
  Values such as may be, in memory (no walk in it).
-/
import Derived.Test.YthmmplmppchfmaaVcAD
import Derived.Test.YthmmplmppchfmaaValX
import Derived.OwnWalk
import Derived.Carry
import Derived.Laws.CopyOwn
import Derived.Lib.Overlaps
import Derived.Lib.AppendZerosOnto
import Derived.Laws.Externs
import Derived.Test.YthmmplmppchfmaaVcK
import Derived.Test.YthmmplmppchfmaaR7A
namespace Go.Proofs.Ythmmplmppchfmaa
open Go.RowKit Go.Sort

theorem rowAt {w2 wr : World} {ao : Option Addr} {l : List PV} (h : RowP w2 ao l) (hbw : Below w2.heap.size w2 wr) {j : Nat} (hj : j < l.length) :
    ∃ b off a0 c0 k bb n s t i, ao = some ⟨b, off, none⟩ ∧ valP l[j] (.slice a0 0 c0) = .agg #[.int .i64 k, .bool bb, .int .i64 n, .string s, .string t, .string i, .slice a0 0 c0] ∧
      (∀ d os, (grow (redrawn wr d) os).cell? ⟨b, off + j * 7, none⟩ = some (.int .i64 k)) ∧ (∀ d os, (grow (redrawn wr d) os).cell? ⟨b, off + j * 7 + 1, none⟩ = some (.bool bb)) ∧ (∀ d os, (grow (redrawn wr d) os).cell? ⟨b, off + j * 7 + 2, none⟩ = some (.int .i64 n)) ∧
      (∀ d os, (grow (redrawn wr d) os).cell? ⟨b, off + j * 7 + 3, none⟩ = some (.string s)) ∧ (∀ d os, (grow (redrawn wr d) os).cell? ⟨b, off + j * 7 + 4, none⟩ = some (.string t)) ∧ (∀ d os, (grow (redrawn wr d) os).cell? ⟨b, off + j * 7 + 5, none⟩ = some (.string i)) ∧ (∀ d os, (grow (redrawn wr d) os).cell? ⟨b, off + j * 7 + 6, none⟩ = some (.slice a0 0 c0)) := by
  obtain ⟨b, off, a0, c0, e, hb, hc⟩ := h j hj
  generalize l[j] = p at *
  obtain ⟨k, bb, n, s, t, i, hp, hcs⟩ : ∃ k bb n s t i, valP p (.slice a0 0 c0) = val7 k bb n s t i (.slice a0 0 c0) ∧ cellsP p (.slice a0 0 c0) = [.int .i64 k, .bool bb, .int .i64 n, .string s, .string t, .string i, .slice a0 0 c0] := by
    cases p <;> exact ⟨_, _, _, _, _, _, rfl, rfl⟩
  rw [hcs] at hc
  have up : ∀ {a : Addr} {v : Value}, a.block < w2.heap.size → w2.cell? a = some v → ∀ d os, (grow (redrawn wr d) os).cell? a = some v := fun h1 h2 d os => cell_regrown ((hbw.cell h1).trans h2) d os
  exact ⟨b, off, a0, c0, k, bb, n, s, t, i, e, hp, up (a := ⟨b, off + j * 7 + 0, none⟩) hb (hc 0 _ rfl), up (a := ⟨b, off + j * 7 + 1, none⟩) hb (hc 1 _ rfl), up (a := ⟨b, off + j * 7 + 2, none⟩) hb (hc 2 _ rfl), up (a := ⟨b, off + j * 7 + 3, none⟩) hb (hc 3 _ rfl),
    up (a := ⟨b, off + j * 7 + 4, none⟩) hb (hc 4 _ rfl), up (a := ⟨b, off + j * 7 + 5, none⟩) hb (hc 5 _ rfl), up (a := ⟨b, off + j * 7 + 6, none⟩) hb (hc 6 _ rfl)⟩

/-- Where q belongs in a rising row. -/
structure Cutp (l : List PV) (q : PV) (i : Nat) : Prop where
  le : i ≤ l.length
  lo : ∀ k (h : k < l.length), k < i → lessP l[k] q = true
  hi : ∀ k (h : k < l.length), i ≤ k → lessP l[k] q = false

theorem Cutp.mem {l : List PV} {q : PV} {i : Nat} (c : Cutp l q i) (hr : Rising lessP l) : q ∈ l ↔ ∃ h : i < l.length, l[i] = q := by
  constructor
  · intro hq
    obtain ⟨k, hk, e⟩ := List.getElem_of_mem hq
    have h1 : ¬ k < i := fun h => by
      have := c.lo k hk h
      rw [e, sto_lessP.irr] at this
      cases this
    have hil : i < l.length := by omega
    refine ⟨hil, ?_⟩
    by_cases hki : k = i
    · subst hki
      exact e
    · have := List.pairwise_iff_getElem.1 hr i k hil hk (by omega)
      rw [e] at this
      have h2 := c.hi i hil (Nat.le_refl _)
      rw [this] at h2
      cases h2
  · rintro ⟨h, e⟩
    rw [← e]
    exact List.getElem_mem h

theorem below_drewN (w : World) (n : Nat) : Below w.heap.size w (w.drewN n) := ⟨rfl, rfl, rfl, Nat.le_refl _, fun _ _ => rfl⟩
theorem half (i j : Nat) (h : i < j) : i ≤ (i + j) / 2 ∧ (i + j) / 2 < j := by omega

end Go.Proofs.Ythmmplmppchfmaa

namespace Go.Proofs.Ythmmplmppchfmaa
open Go.RowKit Go.Sort

theorem infoValue : (Try.prog.info? 49).map (fun i => (i.zero, i.size, i.bytes)) = some (some (.agg #[.int .i64 0, .bool false, .int .i64 0, .string ⟨#[]⟩, .string ⟨#[]⟩, .string ⟨#[]⟩, .slice none 0 0]), 7, 96) := by kernel_rfl

theorem run_copy_k {P : Program} (w : World) (dT sT ty elem : TypeId) (k : Nat) (g o dLen dCap : Nat) (a : Addr) (sLen sCap : Nat) (cur : Array Value) (t : TypeId) (cs : List Value)
    (hu : P.underlying dT = some (.slice elem)) (hs : (P.info? elem).map (·.size) = some k)
    (hg : w.heap[g]? = some (.cells cur t (0, 0))) (hn : cs.length = Nat.min sLen dLen * k)
    (hsrc : ∀ j v, cs[j]? = some v → w.cell? (a.add j) = some v) (hfit : o + cs.length ≤ cur.size) (h1 : ∀ v ∈ cs, v.oneCell' = true) :
    (Builtin.copy_ #[dT, sT] ty #[.slice (some ⟨g, o, none⟩) dLen dCap, .slice (some a) sLen sCap]).run P w =
      .ok (goInt (Nat.min sLen dLen)) (w.setRow g (cur.toList.take o ++ cs ++ cur.toList.drop (o + cs.length)).toArray) := by
  have hl := run_loadCells_list (P := P) w a cs hsrc
  have hst := run_storeCells_at P g o t cs 0 cur w hg (by simpa using hfit) h1
  cases hq : P.info? elem with
  | none => simp [hq] at hs
  | some i =>
    have hi : i.size = k := by simpa [hq] using hs
    simp [Builtin.copy_, run_underlying hu, Builtin.lenOf, Builtin.firstCells, sizeOf, typeInfo, hq, hi, ← hn, hl, hst]

theorem wp_copy_run {P : Program} (w : World) {ops : Array Oper} {rest : List Oper} {o : Oper} {a : Act} {Q : Exit → Act → World → Prop} (hgd : o.guard = none) (d s : Operand) (t t' : TypeId)
    (ho : o.op = .call { callee := .builtin .copy, args := #[d, s], argTypes := #[t, t'] }) (v u : Value) (hd : a.eval d = v) (hs : a.eval s = u) {v' : Value} {w' : World}
    (hr : (Builtin.copy_ #[t, t'] o.type #[v, u]).run P w = .ok v' w') (h : wpList P ops Q rest (a.put o.dst v') w') : wpList P ops Q (o :: rest) a w :=
  wpList_plain hgd fun K hK => by
    unfold Oper.wp execOp
    simp only [ho, resolve, invoke, builtin, Sem.run_bind, Sem.run_pure, Result.andThen_ok, List.map_toArray, List.map_cons, List.map_nil, hd, hs, hr]
    exact hK _ _ h

end Go.Proofs.Ythmmplmppchfmaa

namespace Go.Proofs.Ythmmplmppchfmaa
open Go.RowKit Go.Sort

theorem cell_of_block {w : World} {g : Nat} {cur : Array Value} {t : TypeId} {fz : Nat × Nat} (h : w.heap[g]? = some (.cells cur t fz)) (j : Nat) : w.cell? ⟨g, j, none⟩ = cur[j]? := by
  simp [World.cell?, h]

theorem fz_of_block {w : World} {g : Nat} {cur : Array Value} {t : TypeId} (h : w.heap[g]? = some (.cells cur t (0, 0))) (j : Nat) : w.frozen? ⟨g, j, none⟩ = false := by
  simp [World.frozen?, h]

theorem shape_of_block {w : World} {g : Nat} {cur : Array Value} {t : TypeId} (h : w.heap[g]? = some (.cells cur t (0, 0))) : w.shape? g = some (t, cur.size) := by
  simp [World.shape?, h]

end Go.Proofs.Ythmmplmppchfmaa

namespace Go.Proofs.Ythmmplmppchfmaa
open Go.RowKit Go.Sort

theorem zero_size (z : Array Value) (k : Nat) : (Builtin.zeroCells z k).size = k * z.size := by simp [Builtin.zeroCells]

theorem wp_append_eq {P : Program} (w : World) {ops : Array Oper} {rest : List Oper} {o : Oper} {a : Act} {Q : Exit → Act → World → Prop} (hgd : o.guard = none) (d s : Operand) (t t' : TypeId)
    (ho : o.op = .call { callee := .builtin .append, args := #[d, s], argTypes := #[t, t'] }) (v u : Value) (hd : a.eval d = v) (hs : a.eval s = u) {v' : Value} {w' : World}
    (hr : (Builtin.append_ #[t, t'] o.type #[v, u]).run P w = .ok v' w') (h : wpList P ops Q rest (a.put o.dst v') w') : wpList P ops Q (o :: rest) a w :=
  wpList_plain hgd fun K hK => by
    unfold Oper.wp execOp
    simp only [ho, resolve, invoke, builtin, Sem.run_bind, Sem.run_pure, Result.andThen_ok, List.map_toArray, List.map_cons, List.map_nil, hd, hs, hr]
    exact hK _ _ h

end Go.Proofs.Ythmmplmppchfmaa

namespace Go.Proofs.Ythmmplmppchfmaa
open Go.RowKit Go.Sort

def mayB (k k' : Int) : Bool := decide (k ≠ 5) && decide (k = k')

theorem size1 (w : World) (o : Obj) : (w.alloc o).heap.size = w.heap.size + 1 := by simp

end Go.Proofs.Ythmmplmppchfmaa

namespace Go.Proofs.Ythmmplmppchfmaa
open Go.RowKit Go.Sort

theorem at7_new (w : World) (r : R7) : At7 (w.alloc (.cells #[.int .i64 r.k, .bool r.b, .int .i64 r.n, .string r.s, .string r.t, .string r.i, .slice r.lo r.ll r.lc] 49)) w.heap.size 0 r :=
  ⟨by simp, by simp, by simp, by simp, by simp, by simp, by simp⟩

theorem set7_below {B b : Nat} {a w : World} (h : Below B a w) (hb : B ≤ b) (v0 v1 v2 v3 v4 v5 v6 : Value) :
    Below B a (((((((w.setCell ⟨b, 0, none⟩ v0).setCell ⟨b, 1, none⟩ v1).setCell ⟨b, 2, none⟩ v2).setCell ⟨b, 3, none⟩ v3).setCell ⟨b, 4, none⟩ v4).setCell ⟨b, 5, none⟩ v5).setCell ⟨b, 6, none⟩ v6) :=
  ((((((h.setCell (p := ⟨b, 0, none⟩) hb _).setCell (p := ⟨b, 1, none⟩) hb _).setCell (p := ⟨b, 2, none⟩) hb _).setCell (p := ⟨b, 3, none⟩) hb _).setCell (p := ⟨b, 4, none⟩) hb _).setCell (p := ⟨b, 5, none⟩) hb _).setCell (p := ⟨b, 6, none⟩) hb _

def zero7 : R7 := ⟨0, false, 0, ba [], ba [], ba [], none, 0, 0⟩

end Go.Proofs.Ythmmplmppchfmaa

namespace Go.Proofs.Ythmmplmppchfmaa
open Go.RowKit Go.Sort

def cellsOf (l : List PV) : List Value := l.flatMap fun p => (ofP p).cells

theorem cells_len (r : R7) : r.cells.length = 7 := rfl
theorem cellsOf_len : ∀ l : List PV, (cellsOf l).length = l.length * 7
  | [] => rfl
  | p :: l => by
    rw [cellsOf, List.flatMap_cons, List.length_append, cells_len, List.length_cons]
    have := cellsOf_len l
    rw [cellsOf] at this
    omega
theorem cellsOf_append (a b : List PV) : cellsOf (a ++ b) = cellsOf a ++ cellsOf b := by rw [cellsOf, List.flatMap_append]; rfl
theorem cellsOf_cons (p : PV) (l : List PV) : cellsOf (p :: l) = (ofP p).cells ++ cellsOf l := by rw [cellsOf, List.flatMap_cons]; rfl
theorem cellsOf_take (l : List PV) (i : Nat) (h : i ≤ l.length) : (cellsOf l).take (i * 7) = cellsOf (l.take i) := by
  conv => lhs; rw [← List.take_append_drop i l, cellsOf_append]
  exact List.take_left' (by rw [cellsOf_len, List.length_take, Nat.min_eq_left h])
theorem cellsOf_drop (l : List PV) (i : Nat) (h : i ≤ l.length) : (cellsOf l).drop (i * 7) = cellsOf (l.drop i) := by
  conv => lhs; rw [← List.take_append_drop i l, cellsOf_append]
  exact List.drop_left' (by rw [cellsOf_len, List.length_take, Nat.min_eq_left h])
theorem cellsOf_one (l : List PV) : ∀ u ∈ cellsOf l, u.oneCell' = true := by
  intro u hu
  obtain ⟨p, _, hp⟩ := List.mem_flatMap.1 hu
  cases p <;> simp [ofP, R7.cells] at hp <;> rcases hp with rfl | rfl | rfl | rfl | rfl | rfl | rfl <;> rfl
theorem cells_one (r : R7) : ∀ u ∈ r.cells, u.oneCell' = true := by
  intro u hu
  simp [R7.cells] at hu
  rcases hu with rfl | rfl | rfl | rfl | rfl | rfl | rfl <;> rfl
theorem cellsOf_at (l : List PV) (j c : Nat) (hj : j < l.length) (hc : c < 7) : (cellsOf l)[j * 7 + c]? = (ofP l[j]).cells[c]? := by
  conv => lhs; rw [← List.take_append_drop j l, cellsOf_append]
  rw [List.getElem?_append_right (by rw [cellsOf_len, List.length_take]; omega), cellsOf_len, List.length_take, Nat.min_eq_left (by omega), Nat.add_sub_cancel_left, List.drop_eq_getElem_cons hj, cellsOf_cons, List.getElem?_append_left (by rw [cells_len]; exact hc)]

theorem cellsP_of (p : PV) : cellsP p (.slice none 0 0) = (ofP p).cells := by cases p <;> rfl

/-- A row of one's own can be read. -/
theorem rowP_own {w : World} {B : Nat} {v : Value} {l : List PV} (h : w.ownsRow B 49 7 v l.length (cellsOf l)) : ∃ ao cap, v = .slice ao l.length cap ∧ RowP w ao l := by
  rcases h.2 with ⟨hv, h0⟩ | ⟨g, cap, cur, hv, _, hg, _, _, hcs, hxs⟩
  · exact ⟨none, 0, by rw [hv, h0], fun j hj => by omega⟩
  · refine ⟨_, cap, hv, fun j hj => ⟨g, 0, none, 0, rfl, (Array.getElem?_eq_some_iff.1 hg).1, fun c u hu => ?_⟩⟩
    rw [cellsP_of] at hu
    have hc : c < 7 := by
      have := (List.getElem?_eq_some_iff.1 hu).1
      rwa [cells_len] at this
    rw [cell_of_block hg, Nat.zero_add]
    rw [← cellsOf_at l j c hj hc, ← hxs, List.getElem?_take] at hu
    split at hu
    · simpa using hu
    · cases hu

theorem rowV_own {w : World} {B : Nat} {v : Value} {l : List PV} (h : w.ownsRow B 49 7 v l.length (cellsOf l)) : ∃ ao cap, v = .slice ao l.length cap ∧ RowV w ao (l.map ofP) := by
  rcases h.2 with ⟨hv, h0⟩ | ⟨g, cap, cur, hv, _, hg, _, _, hcs, hxs⟩
  · exact ⟨none, 0, by rw [hv, h0], fun j hj => by rw [List.length_map] at hj; omega⟩
  · refine ⟨_, cap, hv, fun j hj => ⟨g, 0, rfl, (Array.getElem?_eq_some_iff.1 hg).1, fun c u hu => ?_⟩⟩
    rw [List.getElem_map] at hu
    rw [List.length_map] at hj
    have hc : c < 7 := by
      have := (List.getElem?_eq_some_iff.1 hu).1
      rwa [cells_len] at this
    rw [cell_of_block hg, Nat.zero_add]
    rw [← cellsOf_at l j c hj hc, ← hxs, List.getElem?_take] at hu
    split at hu
    · simpa using hu
    · cases hu

theorem ins_mem {q : PV} : ∀ (S : List PV), Rising lessP S → q ∈ S → ins lessP q S = S
  | y :: S, hr, hq => by
    have hr' := List.pairwise_cons.1 hr
    unfold ins
    rcases List.mem_cons.1 hq with e | e
    · subst e
      rw [sto_lessP.irr]
      rfl
    · rw [if_pos (hr'.1 q e), ins_mem S hr'.2 e]

theorem ins_cut {q : PV} : ∀ (S : List PV) (i : Nat), Cutp S q i → q ∉ S → ins lessP q S = S.take i ++ q :: S.drop i
  | [], i, c, _ => by
    have := c.le
    rw [List.take_nil, List.drop_nil]
    rfl
  | y :: S, 0, c, hq => by
    have h1 := c.hi 0 (by simp) (Nat.le_refl _)
    have h1' : lessP y q = false := h1
    have h2 : lessP q y = true := by
      rcases sto_lessP.tri q y with e | e | e
      · exact e
      · exact absurd (by rw [e]; simp) hq
      · rw [h1'] at e
        cases e
    unfold ins
    rw [h1', h2]
    rfl
  | y :: S, i + 1, c, hq => by
    have h1 : lessP y q = true := c.lo 0 (by simp) (by omega)
    have c' : Cutp S q i := ⟨by have := c.le; simpa using this, fun k h hk => by have := c.lo (k + 1) (by simpa using h) (by omega); simpa using this, fun k h hk => by have := c.hi (k + 1) (by simpa using h) (by omega); simpa using this⟩
    unfold ins
    rw [if_pos h1, ins_cut S i c' (fun h => hq (List.mem_cons_of_mem _ h))]
    rfl

theorem setOf_snoc (l : List PV) (j : Nat) (hj : j < l.length) : setOf lessP (l.take (j + 1)) = ins lessP l[j] (setOf lessP (l.take j)) := by
  rw [List.take_succ_eq_append_getElem hj, setOf, List.foldl_append]
  rfl

theorem len_ins (q : PV) : ∀ S : List PV, S.length ≤ (ins lessP q S).length
  | [] => Nat.zero_le _
  | y :: S => by
    unfold ins
    split
    · have := len_ins q S
      simp only [List.length_cons]
      omega
    · split
      · simp only [List.length_cons]
        omega
      · exact Nat.le_refl _

theorem len_fold : ∀ (l S : List PV), S.length ≤ (l.foldl (fun acc x => ins lessP x acc) S).length
  | [], _ => Nat.le_refl _
  | x :: l, S => Nat.le_trans (len_ins x S) (len_fold l (ins lessP x S))

theorem len_setOf (l : List PV) (j : Nat) : (setOf lessP (l.take j)).length ≤ (setOf lessP l).length := by
  conv => rhs; rw [← List.take_append_drop j l, setOf, List.foldl_append]
  exact len_fold _ _

theorem len_ins_new {q : PV} {S : List PV} {i : Nat} (c : Cutp S q i) (hq : q ∉ S) : (ins lessP q S).length = S.length + 1 := by
  rw [ins_cut S i c hq]
  have := c.le
  simp only [List.length_append, List.length_take, List.length_cons, List.length_drop]
  omega

end Go.Proofs.Ythmmplmppchfmaa

namespace Go.Proofs.Ythmmplmppchfmaa
open Go.RowKit Go.Sort

/-- A set as the program holds it. -/
def setR (ao : Option Addr) (n c : Nat) : R7 := ⟨5, false, 0, ba [], ba [], ba [], ao, n, c⟩

def SetPost (l : List PV) (w : World) (e : Ending) (w' : World) : Prop :=
  Below w.heap.size w w' ∧ (((setOf lessP l).length ≤ 8 ∧ ∃ ao c, e = .returned (.tuple #[(setR ao (setOf lessP l).length c).val, .int .i64 0]) ∧ w'.ownsRow w.heap.size 49 7 (.slice ao (setOf lessP l).length c) (setOf lessP l).length (cellsOf (setOf lessP l))) ∨ (8 < (setOf lessP l).length ∧ e = .returned (.tuple #[zero7.val, .int .i64 4])))

theorem own_below {w w' : World} {base : Nat} {e : TypeId} {k : Nat} {v : Value} {n : Nat} {xs : List Value} (h : w.ownsRow base e k v n xs) (hb : Below w.heap.size w w') : w'.ownsRow base e k v n xs :=
  h.kept (row := none) ⟨hb.os, hb.tape, hb.output, hb.size, fun j hj _ => hb.block j hj⟩ (by cases v.ownBlock <;> simp)

theorem own_mono {w : World} {base base' : Nat} {e : TypeId} {k : Nat} {v : Value} {n : Nat} {xs : List Value} (h : w.ownsRow base e k v n xs) (hb : base' ≤ base) : w.ownsRow base' e k v n xs :=
  ⟨h.1, h.2.imp id fun ⟨g, cap, cur, h1, h2, h3⟩ => ⟨g, cap, cur, h1, Nat.le_trans hb h2, h3⟩⟩

theorem own_set7 {w : World} {base b : Nat} {e : TypeId} {v : Value} {n : Nat} {xs : List Value} (h : w.ownsRow base e 7 v n xs) (hb : b < base) (v0 v1 v2 v3 v4 v5 v6 : Value) :
    (((((((w.setCell ⟨b, 0, none⟩ v0).setCell ⟨b, 1, none⟩ v1).setCell ⟨b, 2, none⟩ v2).setCell ⟨b, 3, none⟩ v3).setCell ⟨b, 4, none⟩ v4).setCell ⟨b, 5, none⟩ v5).setCell ⟨b, 6, none⟩ v6).ownsRow base e 7 v n xs :=
  ownsRow_setCell_below (ownsRow_setCell_below (ownsRow_setCell_below (ownsRow_setCell_below (ownsRow_setCell_below (ownsRow_setCell_below (ownsRow_setCell_below h (a := ⟨b, 0, none⟩) hb _) (a := ⟨b, 1, none⟩) hb _) (a := ⟨b, 2, none⟩) hb _) (a := ⟨b, 3, none⟩) hb _) (a := ⟨b, 4, none⟩) hb _) (a := ⟨b, 5, none⟩) hb _) (a := ⟨b, 6, none⟩) hb _

end Go.Proofs.Ythmmplmppchfmaa

namespace Go.Proofs.Ythmmplmppchfmaa
open Go.RowKit Go.Sort

/-- A value as the program holds it. -/
def IsG (w : World) : GV → R7 → Prop
  | .pl p, R => R = ofP p
  | .set l, R => ∃ ao c, R = setR ao l.length c ∧ RowV w ao (l.map ofP) ∧ ∀ ad, ao = some ad → ad.off = 0

theorem IsG.below {w w' : World} {g : GV} {R : R7} (h : IsG w g R) (hb : Below w.heap.size w w') : IsG w' g R := by
  cases g with
  | pl p => exact h
  | set l =>
    obtain ⟨ao, c, e, hr, ho⟩ := h
    exact ⟨ao, c, e, hr.below hb, ho⟩
end Go.Proofs.Ythmmplmppchfmaa
