/-
 chancellaw5.Schema: the states of its loops (no walk in it).
 chancellaw5.Schema: the states of its second half, actions (no walk in it).
-/
import Derived.Test.YtagnbpobcijakaaSeA
import Derived.Deep.CutBlock
import Derived.Maps.AppendAt
namespace Go.Proofs.Ytagnbpobcijakaa
open Go.RowKit Go.Sort

/-- While kinds are laid one behind the other: the answer's place, the schema's, the row, what each says. -/
structure St1 (w wr : World) (ks : List LK) (lv : Value) (i : Nat) (xs : List N3) : Prop where
 below : Below w.heap.size w wr
 r : wr.heap[w.heap.size]? = some (.cells #[.slice none 0 0, .slice none 0 0] 33 (0, 0))
 s : wr.heap[w.heap.size + 1]? = some (.cells #[lv, .slice none 0 0] 33 (0, 0))
 own : wr.ownsRow (w.heap.size + 2) 80 3 lv i (xs.map N3.cells).flatten
 len : xs.length = i
 all : ∀ j (h : j < xs.length) (h' : j < ks.length), IsKT wr xs[j] (kindS ks[j])
/-- While a kind is made: all that was there but its own place stays; a row of its own grows. -/
structure St2 (w w4 wr : World) (K : Nat) (KC : Value → Array Value) (T : TypeId) (sz : Nat) (pv : Value) (j : Nat) (xs : List Value) : Prop where
 below : Below w.heap.size w wr
 size : w4.heap.size ≤ wr.heap.size
 old : ∀ b, b < w4.heap.size → b ≠ K → wr.heap[b]? = w4.heap[b]?
 k : wr.heap[K]? = some (.cells (KC pv) 80 (0, 0))
 own : wr.ownsRow w4.heap.size T sz pv j xs
theorem St2.next {w w4 wr w5 : World} {K : Nat} {KC : Value → Array Value} {T : TypeId} {sz : Nat} {pv v7 : Value} {j : Nat} {xs xs' : List Value} (h : St2 w w4 wr K KC T sz pv j xs) (q1 : Below w.heap.size w w5) (q2 : wr.heap.size ≤ w5.heap.size) (q3 : ∀ b, b < wr.heap.size → b ≠ K → pv.ownBlock ≠ some b → w5.heap[b]? = wr.heap[b]?) (q4 : w5.heap[K]? = some (.cells (KC v7) 80 (0, 0))) (q5 : w5.ownsRow w4.heap.size T sz v7 (j + 1) xs') : St2 w w4 w5 K KC T sz v7 (j + 1) xs' :=
 ⟨q1, Nat.le_trans h.size q2, fun b hb hk => by
  have := h.size
  rw [q3 b (by omega) hk (fun e => by have := (h.own.lt b e).1; omega)]
  exact h.old b hb hk, q4, q5⟩
theorem St2.up {w w4 wr wt : World} {K : Nat} {KC : Value → Array Value} {T : TypeId} {sz : Nat} {pv : Value} {j : Nat} {xs : List Value} (h : St2 w w4 wr K KC T sz pv j xs) (hb : Below wr.heap.size wr wt) : St2 w w4 wt K KC T sz pv j xs :=
 ⟨h.below.trans (hb.mono h.below.size), Nat.le_trans h.size hb.size, fun b h1 h2 => by
  have := h.size
  exact (hb.block b (by omega)).trans (h.old b h1 h2), kept_of_below hb h.k, own_belowS h.own hb⟩
theorem lk_get {w wr : World} {ao : Option Addr} {ks : List LK} (h : IsLKs w ao ks) (hbw : Below w.heap.size w wr) {j : Nat} (hj : j < ks.length) : ∃ x b off, ao = some ⟨b, off, none⟩ ∧ b < w.heap.size ∧ (wr.cell? ⟨b, off + j * 3, none⟩ = some (.int .i64 x.nm) ∧ wr.cell? ⟨b, off + j * 3 + 1, none⟩ = some (.slice x.ao x.al x.ac) ∧ wr.cell? ⟨b, off + j * 3 + 2, none⟩ = some (.slice x.bo x.bl x.bc)) ∧ IsLK w x ks[j] := by
 obtain ⟨xs, h1, h2, h3⟩ := h
 have hx : j < xs.length := by omega
 obtain ⟨b, off, e, hb, hc⟩ := rowG_at h2 hbw hx
 exact ⟨xs[j], b, off, e, hb, ⟨hc 0 _ rfl, hc 1 _ rfl, hc 2 _ rfl⟩, h3 j hx hj⟩
theorem take_out {α : Type} (l : List α) {j m : Nat} (h : j ≤ l.length) (hm : j ≤ m) (he : ¬ j < m ∨ ¬ j < l.length) : min m l.length = j ∧ l.take m = l.take j := by
 rcases he with he | he
 ·have : j = m := by omega
  subst this
  exact ⟨by omega, rfl⟩
 ·have : j = l.length := by omega
  subst this
  exact ⟨by omega, by rw [List.take_of_length_le hm, List.take_of_length_le (Nat.le_refl _)]⟩
/-- What the operations of a region answer that appends a text to a row in a cell. -/
def seSp (K f : Nat) (lv ov : Value) (i : Nat) (g o1 o2 pg po pl pc j : Nat) (n : Int) (s : ByteArray) : Nat → Value → World → Prop
 | 0, v, _ => v = .pointer (some ⟨K, f, none⟩)
 | 1, v, _ => v = lv
 | 2, v, _ => v = ov
 | 3, v, _ => v = .int .i64 i
 | 4, v, _ => v = .pointer (some ⟨g, o1, none⟩)
 | 5, v, _ => v = .pointer (some ⟨g, o2, none⟩)
 | 6, v, _ => v = .slice (some ⟨pg, po, none⟩) pl pc
 | 7, v, _ => v = .int .i64 j
 | 8, v, _ => v = .pointer (some ⟨pg, po + j, none⟩)
 | 9, v, _ => v = .int .i64 n
 | 10, v, _ => v = .string s
 | 13, v, _ => v = .pointer (some ⟨K, f, none⟩)
 | _, _, _ => True
theorem seSp_up {K f : Nat} {lv ov : Value} {i g o1 o2 pg po pl pc j : Nat} {n : Int} {s : ByteArray} {w w' : World} : ∀ q u, seSp K f lv ov i g o1 o2 pg po pl pc j n s q u w → seSp K f lv ov i g o1 o2 pg po pl pc j n s q u w' := fun q u h => by
 match q, h with
 | 0, h | 1, h | 2, h | 3, h | 4, h | 5, h | 6, h | 7, h | 8, h | 9, h | 10, h | 11, h | 12, h | 13, h => exact h
 | _ + 14, _ => exact trivial
/-- What the operations of the region answer that appends a field. -/
def sfSp (K F : Nat) (lv : Value) (n : Int) (s : ByteArray) (kv o : Int) (tn : ByteArray) : Nat → Value → World → Prop
 | 0, v, _ => v = .pointer (some ⟨K, 2, none⟩)
 | 1, v, _ => v = lv
 | 2, v, _ => v = .pointer (some ⟨F, 0, none⟩)
 | 3, v, _ => v = .int .i64 n
 | 4, v, _ => v = .string s
 | 5, v, _ => v = .agg #[.int .i64 kv, .int .i64 o, .string tn]
 | 6, v, _ => v = .agg #[.string s, .int .i64 kv, .int .i64 o, .string tn]
 | 9, v, _ => v = .pointer (some ⟨K, 2, none⟩)
 | _, _, _ => True
theorem sfSp_up {K F : Nat} {lv : Value} {n : Int} {s : ByteArray} {kv o : Int} {tn : ByteArray} {w w' : World} : ∀ q u, sfSp K F lv n s kv o tn q u w → sfSp K F lv n s kv o tn q u w' := fun q u h => by
 match q, h with
 | 0, h | 1, h | 2, h | 3, h | 4, h | 5, h | 6, h | 7, h | 8, h | 9, h => exact h
 | _ + 10, _ => exact trivial
theorem field_cells (f : LF) : (fieldS f).cells = [.string (nmS f.nm), .int .i64 (1 + f.k % 5), .int .i64 (ofLF f), .string (if 1 + f.k % 5 = 4 ∨ ofLF f = 4 then knS f.to else ⟨#[]⟩)] := rfl
/-- A row that is owned, in a world where its block stays. -/
theorem own_turn {w w' : World} {B n k : Nat} {T : TypeId} {v : Value} {xs : List Value} (h : w.ownsRow B T n v k xs) (hk : ∀ b, v.ownBlock = some b → w'.heap[b]? = w.heap[b]?) : w'.ownsRow B T n v k xs := by
 refine ⟨h.1, ?_⟩
 rcases h.2 with h0 | ⟨g, cap, cur, hv, hB, hg, hr⟩
 ·exact .inl h0
 ·exact .inr ⟨g, cap, cur, hv, hB, (hk g (by rw [hv]; rfl)).trans hg, hr⟩
theorem keepSF_of {w w' : World} (hs : w.heap.size ≤ w'.heap.size) (h : ∀ b, b < w.heap.size → w'.heap[b]? = w.heap[b]?) : KeepSF w w' := ⟨hs, fun b _ _ _ _ hb => (h b (Array.getElem?_eq_some_iff.1 hb).1).trans hb⟩
theorem lenS (x : ByteArray) : (strC x).length = 1 := rfl
theorem lenF (x : F4) : (F4.cells x).length = 4 := rfl
theorem kind_done {w wr w3 w4 wc wd : World} {k : LK} {nm : ByteArray} {pvo fvo : Option Addr} {pvn pvc fvn fvc : Nat} (b3 : Below wr.heap.size wr w3) (b34 : Below w3.heap.size w3 w4) (z4 : w4.heap.size = w3.heap.size + 1)
  (h2 : St2 w w4 wc w3.heap.size (fun v => #[.string nm, v, .slice none 0 0]) 9 1 (.slice pvo pvn pvc) (min 3 k.ps.length) (((k.ps.take 3).map knS).map strC).flatten)
  (h3 : St2 w wc wd w3.heap.size (fun v => #[.string nm, .slice pvo pvn pvc, v]) 109 4 (.slice fvo fvn fvc) (min 4 k.fs.length) (((k.fs.take 4).map fieldS).map F4.cells).flatten) (hnm : nm = knS k.nm) :
  (∀ b, b < wr.heap.size → wd.heap[b]? = wr.heap[b]?) ∧ wr.heap.size ≤ wd.heap.size ∧ IsKT wd ⟨nm, pvo, pvn, pvc, fvo, fvn, fvc⟩ (kindS k) := by
 have s1 := b3.size
 have s2 := h2.size
 have s3 := h3.size
 refine ⟨fun b hb => ?_, by omega, ?_⟩
 ·rw [h3.old b (by omega) (by omega), h2.old b (by omega) (by omega), b34.block b (by omega), b3.block b hb]
 ·have o2 : wd.ownsRow w4.heap.size 9 1 (.slice pvo pvn pvc) (((k.ps.take 3).map knS)).length (((k.ps.take 3).map knS).map strC).flatten := by
   have e : ((k.ps.take 3).map knS).length = min 3 k.ps.length := by rw [List.length_map, List.length_take]
   rw [e]
   exact own_turn h2.own fun b hb => by
    have := h2.own.lt b hb
    exact h3.old b (by omega) (by omega)
  have o3 : wd.ownsRow wc.heap.size 109 4 (.slice fvo fvn fvc) (((k.fs.take 4).map fieldS)).length (((k.fs.take 4).map fieldS).map F4.cells).flatten := by
   have e : ((k.fs.take 4).map fieldS).length = min 4 k.fs.length := by rw [List.length_map, List.length_take]
   rw [e]
   exact h3.own
  obtain ⟨a2, c2, e2, r2, t2, _⟩ := own_row lenS o2
  obtain ⟨a3, c3, e3, r3, t3, _⟩ := own_row lenF o3
  injection e2 with e21 e22 e23
  injection e3 with e31 e32 e33
  subst e21 e23 e31 e33
  exact ⟨⟨hnm, e22, r2, e32, r3⟩, t2, t3⟩
theorem flat_app (xs : List N3) (x : N3) : ((xs ++ [x]).map N3.cells).flatten = (xs.map N3.cells).flatten ++ x.cells := by simp
theorem St1.next {w wr wd wk w6 : World} {ks : List LK} {lv : Value} {i : Nat} {xs : List N3} {x : N3} {v6 : Value} (h1 : St1 w wr ks lv i xs) (hi : i < ks.length) (hd : ∀ b, b < wr.heap.size → wd.heap[b]? = wr.heap[b]?) (hs : wr.heap.size ≤ wd.heap.size) (hx : IsKT wd x (kindS ks[i])) (hbk : Below wd.heap.size wd wk) (bw : Below w.heap.size w w6)
  (hown : w6.ownsRow (w.heap.size + 2) 80 3 v6 (i + 1) ((xs.map N3.cells).flatten ++ x.cells)) (hg : wk.grownBy w6 lv.ownBlock) : St1 w (w6.setCell ⟨w.heap.size + 1, 0, none⟩ v6) ks v6 (i + 1) (xs ++ [x]) := by
 have hrow := h1.own.lt
 have zk := hbk.size
 have zr : w.heap.size + 1 < wr.heap.size := (Array.getElem?_eq_some_iff.1 h1.s).1
 have keep : ∀ b, b < wd.heap.size → lv.ownBlock ≠ some b → w6.heap[b]? = wd.heap[b]? := fun b hb hne => (hg.block b (by omega) (fun e => hne e.symm)).trans (hbk.block b hb)
 have low : ∀ b, b < w.heap.size + 2 → w6.heap[b]? = wr.heap[b]? := fun b hb => (keep b (by omega) (fun e => by have := (hrow b e).1; omega)).trans (hd b (by omega))
 have kd : KeepSF wr wd := keepSF_of hs hd
 have ownd : wd.ownsRow (w.heap.size + 2) 80 3 lv i (xs.map N3.cells).flatten := own_turn h1.own fun b hb => hd b (hrow b hb).2
 have k7 : KeepSF wd (w6.setCell ⟨w.heap.size + 1, 0, none⟩ v6) := by
  refine ⟨by rw [World.size_setCell]; exact Nat.le_trans zk hg.size, fun b cur T fz hT hb => ?_⟩
  have hbl := (Array.getElem?_eq_some_iff.1 hb).1
  have hnS : b ≠ w.heap.size + 1 := fun e => by
   have h2 := (hd (w.heap.size + 1) zr).trans h1.s
   rw [← e, hb] at h2
   injection h2 with h2
   injection h2 with _ h3
   rcases hT with hT | hT <;> (rw [hT] at h3; exact absurd h3 (by decide))
  have hnG : lv.ownBlock ≠ some b := fun e => by
   obtain ⟨cu, f, h2⟩ := own_ty ownd e
   rw [hb] at h2
   injection h2 with h2
   injection h2 with _ h3
   rcases hT with hT | hT <;> (rw [hT] at h3; exact absurd h3 (by decide))
  rw [Below.heap_setCell w6 ⟨w.heap.size + 1, 0, none⟩ v6 b hnS, keep b hbl hnG]
  exact hb
 refine ⟨bw.setCell (p := ⟨w.heap.size + 1, 0, none⟩) (by show w.heap.size ≤ w.heap.size + 1; omega) _, ?_, ?_, ?_, by rw [List.length_append, h1.len]; rfl, fun j hj hj' => ?_⟩
 ·rw [Below.heap_setCell w6 ⟨w.heap.size + 1, 0, none⟩ v6 _ (by show w.heap.size ≠ w.heap.size + 1; omega), low _ (by omega)]
  exact h1.r
 ·have := heap_setCell_same w6 (w.heap.size + 1) 0 _ _ v6 ((low _ (by omega)).trans h1.s)
  exact this
 ·rw [flat_app]
  exact own_turn hown fun b hb => Below.heap_setCell w6 ⟨w.heap.size + 1, 0, none⟩ v6 b (by have := (hown.lt b hb).1; show b ≠ w.heap.size + 1; omega)
 ·by_cases hjl : j < xs.length
  ·rw [List.getElem_append_left hjl]
   exact (h1.all j hjl hj').turn (kd.trans k7)
  ·have hjk : j = i := by
    have h2 : j < xs.length + 1 := by simpa using hj
    have := h1.len
    omega
   subst hjk
   rw [List.getElem_append_right (by have := h1.len; omega)]
   simp only [h1.len, Nat.sub_self, List.getElem_cons_zero]
   exact hx.turn k7
end Go.Proofs.Ytagnbpobcijakaa

namespace Go.Proofs.Ytagnbpobcijakaa
open Go.RowKit Go.Sort

/-- A row that is held in a cell of another type's block grows by one; where it lies. -/
structure BR (p : ARp) (L : Nat → Bool) (a' : Act) (w' : World) : Prop where
 below : Below p.w.heap.size p.w w'
 size : p.wr.heap.size ≤ w'.heap.size
 keep : ∀ b, b < p.wr.heap.size → b ≠ p.Kb → p.lv.ownBlock ≠ some b → w'.heap[b]? = p.wr.heap[b]?
 kb : L p.iS = false → w'.heap[p.Kb]? = some (.cells (p.KC p.lv) p.KT (0, 0))
 row : L p.iA = false → w'.ownsRow p.B p.T p.sz p.lv p.k p.xs
 new : L p.iN = true → L p.iA = false → ∃ b, a'.tmps.getD p.dN undef = .slice (some ⟨b, 0, none⟩) 1 1 ∧ w'.heap[b]? = some (.cells p.new.toArray p.T (0, 0))
 app : L p.iA = true → ∃ ao n c, a'.tmps.getD p.dA undef = .slice ao n c ∧ w'.ownsRow p.B p.T p.sz (.slice ao n c) (p.k + 1) (p.xs ++ p.new) ∧ (L p.iS = true → w'.heap[p.Kb]? = some (.cells (p.KC (.slice ao n c)) p.KT (0, 0))) ∧ ((Value.slice ao n c).ownBlock = p.lv.ownBlock ∨ ∃ g, (Value.slice ao n c).ownBlock = some g ∧ p.wr.heap.size ≤ g)
 ord : L p.iS = true → L p.iA = true
 rd : L p.iA = true → L p.iR = true ∧ L p.iN = true

section
variable {p : ARp} {L : Nat → Bool} {a' : Act} {w' : World}
theorem BR.start (a : Act) (hb : Below p.w.heap.size p.w p.wr) (hk : p.wr.heap[p.Kb]? = some (.cells (p.KC p.lv) p.KT (0, 0))) (hr : p.wr.ownsRow p.B p.T p.sz p.lv p.k p.xs) : BR p (fun _ => false) a p.wr.drew :=
 ⟨hb.drew, Nat.le_refl _, fun _ _ _ _ => rfl, fun _ => hk, fun _ => own_belowS hr (Below.refl _ _).drew, fun h => (by cases h), fun h => (by cases h), fun h => (by cases h), fun h => (by cases h)⟩
theorem BR.noA (h : BR p L a' w') (hL : L p.iR = false ∨ L p.iN = false) : L p.iA = false := by
 cases e : L p.iA with
 | false => rfl
 | true =>
  obtain ⟨h1, h2⟩ := h.rd e
  rcases hL with hL | hL
  ·rw [h1] at hL; cases hL
  ·rw [h2] at hL; cases hL
theorem BR.noS (h : BR p L a' w') (hL : L p.iA = false) : L p.iS = false := by
 cases e : L p.iS with
 | false => rfl
 | true => rw [h.ord e] at hL; cases hL
theorem BR.grow (h : BR p L a' w') (i d : Nat) (v : Value) (hi : i ≠ p.iN ∧ i ≠ p.iA ∧ i ≠ p.iS) (hd : d ≠ p.dN ∧ d ≠ p.dA) {w'' : World} (hb : Below w'.heap.size w' w'') : BR p (fun j => decide (j = i) || L j) (a'.put (some d) v) w'' := by
 have eN : (decide (p.iN = i) || L p.iN) = L p.iN := by rw [decide_eq_false (fun e => hi.1 e.symm)]; rfl
 have eA : (decide (p.iA = i) || L p.iA) = L p.iA := by rw [decide_eq_false (fun e => hi.2.1 e.symm)]; rfl
 have eS : (decide (p.iS = i) || L p.iS) = L p.iS := by rw [decide_eq_false (fun e => hi.2.2 e.symm)]; rfl
 have hsz := h.size
 refine ⟨h.below.trans (hb.mono h.below.size), Nat.le_trans hsz hb.size, fun b h1 h2 h3 => (hb.block b (by omega)).trans (h.keep b h1 h2 h3), ?_, ?_, ?_, ?_, ?_, ?_⟩ <;> simp only [eN, eA, eS, put_other _ _ _ _ hd.1, put_other _ _ _ _ hd.2]
 ·exact fun e => kept_of_below hb (h.kb e)
 ·exact fun e => own_belowS (h.row e) hb
 ·exact fun e1 e2 => by
   obtain ⟨b, h1, h2⟩ := h.new e1 e2
   exact ⟨b, h1, kept_of_below hb h2⟩
 ·exact fun e => by
   obtain ⟨ao, n, c, h1, h2, h3, h4⟩ := h.app e
   exact ⟨ao, n, c, h1, own_belowS h2 hb, fun e' => kept_of_below hb (h3 e'), h4⟩
 ·exact h.ord
 ·exact fun e => ⟨by rw [(h.rd e).1]; simp, (h.rd e).2⟩
theorem BR.alloc (h : BR p L a' w') (hL : L p.iN = false) (hd : p.dN < a'.tmps.size) (hne : p.iA ≠ p.iN) (hne' : p.iS ≠ p.iN) : BR p (fun j => decide (j = p.iN) || L j) (a'.put (some p.dN) (.slice (some ⟨w'.heap.size, 0, none⟩) 1 1)) (w'.alloc (.cells p.new.toArray p.T)) := by
 have hLA := h.noA (.inr hL)
 have hb := blw1 w' (.cells p.new.toArray p.T)
 have eA : (decide (p.iA = p.iN) || L p.iA) = L p.iA := by rw [decide_eq_false hne]; rfl
 have eS : (decide (p.iS = p.iN) || L p.iS) = L p.iS := by rw [decide_eq_false hne']; rfl
 have hsz := h.size
 refine ⟨h.below.trans (hb.mono h.below.size), Nat.le_trans hsz hb.size, fun b h1 h2 h3 => (hb.block b (by omega)).trans (h.keep b h1 h2 h3), ?_, ?_, ?_, ?_, ?_, ?_⟩ <;> simp only [eA, eS]
 ·exact fun e => kept_of_below hb (h.kb e)
 ·exact fun e => own_belowS (h.row e) hb
 ·exact fun _ _ => ⟨_, put_same _ _ _ hd, alloc_heap _ _⟩
 ·exact fun e => by rw [hLA] at e; cases e
 ·exact h.ord
 ·exact fun e => by rw [hLA] at e; cases e
/-- A row's block is not one of another type. -/
theorem own_apart {w : World} {B n k Kb : Nat} {T KT : TypeId} {v : Value} {xs : List Value} {cs : Array Value} {fz : Nat × Nat} (hT : T ≠ KT) (h : w.ownsRow B T n v k xs) (hk : w.heap[Kb]? = some (.cells cs KT fz)) : v.ownBlock ≠ some Kb := fun e => by
 obtain ⟨cu, f, h2⟩ := own_ty h e
 rw [hk] at h2
 injection h2 with h2
 injection h2 with _ h3
 exact hT h3.symm
theorem BR.appd (h : BR p L a' w') (hL : L p.iA = false) (hLR : L p.iR = true) (hLN : L p.iN = true) (hd : p.dA < a'.tmps.size) (hne' : p.iS ≠ p.iA) (hT : p.T ≠ p.KT) (hKb : p.Kb < p.wr.heap.size) (hwB : p.w.heap.size ≤ p.B) {v : Value} {w'' : World} (hown : w''.ownsRow p.B p.T p.sz v (p.k + 1) (p.xs ++ p.new)) (hg : w'.grownBy w'' p.lv.ownBlock) (hat : v.ownBlock = p.lv.ownBlock ∨ v.ownBlock = some w'.heap.size) : BR p (fun j => decide (j = p.iA) || L j) (a'.put (some p.dA) v) w'' := by
 have hrow := (h.row hL).lt
 have hsz := h.size
 have n := h.noS hL
 have eS : (decide (p.iS = p.iA) || L p.iS) = L p.iS := by rw [decide_eq_false hne']; rfl
 have hap := own_apart hT (h.row hL) (h.kb n)
 obtain ⟨ao, m, c, rfl⟩ : ∃ a n c, v = .slice a n c := by
  rcases hown.2 with ⟨h, _⟩ | ⟨g, cap, cur, h, _⟩
  ·exact ⟨_, _, _, h⟩
  ·exact ⟨_, _, _, h⟩
 have blk : ∀ b, b < p.wr.heap.size → p.lv.ownBlock ≠ some b → w''.heap[b]? = w'.heap[b]? := fun b hb hne => hg.block b (by omega) (fun e => hne e.symm)
 refine ⟨h.below.grown hg h.below.size (fun j hj => by have := (hrow j hj).1; omega), Nat.le_trans hsz hg.size, fun b h1 h2 h3 => (blk b h1 h3).trans (h.keep b h1 h2 h3), fun _ => (blk _ hKb hap).trans (h.kb n), fun e => ?_, fun _ e => ?_, fun _ => ⟨ao, m, c, put_same _ _ _ hd, hown, fun e => ?_, hat.imp id fun e => ⟨_, e, hsz⟩⟩, fun e => ?_, fun _ => ⟨by rw [hLR]; simp, by rw [hLN]; simp⟩⟩
 ·simp at e
 ·simp at e
 ·simp only [eS] at e
  rw [n] at e
  cases e
 ·simp
theorem BR.stor (h : BR p L a' w') (hL : L p.iS = false) (hA : L p.iA = true) (hne : p.iN ≠ p.iS) (hne' : p.iA ≠ p.iS) (hwK : p.w.heap.size ≤ p.Kb) (hT : p.T ≠ p.KT) (f : Nat) (hset : ∀ v, (p.KC p.lv).setIfInBounds f v = p.KC v) : ∃ ao n c, a'.tmps.getD p.dA undef = .slice ao n c ∧ BR p (fun j => decide (j = p.iS) || L j) a' (w'.setCell ⟨p.Kb, f, none⟩ (.slice ao n c)) := by
 obtain ⟨ao, n, c, h1, h2, _, h4⟩ := h.app hA
 have eN : (decide (p.iN = p.iS) || L p.iN) = L p.iN := by rw [decide_eq_false hne]; rfl
 have eA : (decide (p.iA = p.iS) || L p.iA) = L p.iA := by rw [decide_eq_false hne']; rfl
 have hap := own_apart hT h2 (h.kb hL)
 have hk := heap_setCell_same w' p.Kb f _ _ (.slice ao n c) (h.kb hL)
 rw [hset] at hk
 refine ⟨ao, n, c, h1, h.below.setCell (p := ⟨p.Kb, f, none⟩) hwK _, by rw [World.size_setCell]; exact h.size, fun b hb hne hno => ?_, fun e => ?_, fun e => ?_, fun _ e => ?_, fun _ => ⟨ao, n, c, h1, ?_, fun _ => hk, h4⟩, fun _ => by simp only [eA]; exact hA, fun e => ?_⟩
 ·exact (Below.heap_setCell w' ⟨p.Kb, f, none⟩ _ b hne).trans (h.keep b hb hne hno)
 ·simp at e
 ·simp only [eA] at e
  rw [hA] at e
  cases e
 ·simp only [eA] at e
  rw [hA] at e
  cases e
 ·exact own_turn h2 fun b hb => Below.heap_setCell w' ⟨p.Kb, f, none⟩ _ b (fun e => hap (by have e : b = p.Kb := e; rw [← e]; exact hb))
 ·have := h.rd hA
  exact ⟨by rw [this.1]; simp, by rw [this.2]; simp⟩
end

/-- While an action is made: a row of its own grows, out of the block P. -/
structure St5 (w w4 wr : World) (B K P : Nat) (KC : Value → Array Value) (pv : Value) (n : Nat) (xs : List Value) : Prop where
 below : Below w.heap.size w wr
 size : w4.heap.size ≤ wr.heap.size
 old : ∀ b, b < w4.heap.size → b ≠ K → b ≠ P → wr.heap[b]? = w4.heap[b]?
 k : wr.heap[K]? = some (.cells (KC pv) 83 (0, 0))
 own : wr.ownsRow B 9 1 pv n xs
 loc : pv.ownBlock = some P ∨ ∃ g, pv.ownBlock = some g ∧ w4.heap.size ≤ g
theorem St5.next {w w4 wr w5 : World} {B K P : Nat} {KC : Value → Array Value} {pv v7 : Value} {j : Nat} {xs xs' : List Value} (h : St5 w w4 wr B K P KC pv j xs) (q1 : Below w.heap.size w w5) (q2 : wr.heap.size ≤ w5.heap.size) (q3 : ∀ b, b < wr.heap.size → b ≠ K → pv.ownBlock ≠ some b → w5.heap[b]? = wr.heap[b]?) (q4 : w5.heap[K]? = some (.cells (KC v7) 83 (0, 0))) (q5 : w5.ownsRow B 9 1 v7 (j + 1) xs') (q6 : v7.ownBlock = pv.ownBlock ∨ ∃ g, v7.ownBlock = some g ∧ wr.heap.size ≤ g) : St5 w w4 w5 B K P KC v7 (j + 1) xs' :=
 ⟨q1, Nat.le_trans h.size q2, fun b hb hk hp => by
  have := h.size
  rw [q3 b (by omega) hk (fun e => by
   rcases h.loc with h1 | ⟨g, h1, h2⟩
   ·rw [h1] at e; injection e with e; exact hp e.symm
   ·rw [h1] at e; injection e with e; omega)]
  exact h.old b hb hk hp, q4, q5, by
  have := h.size
  rcases q6 with e | ⟨g, e, hg⟩
  ·rw [e]; exact h.loc
  ·exact .inr ⟨g, e, by omega⟩⟩
theorem la_get {w wr : World} {ao : Option Addr} {ks : List LA} (h : IsLAs w ao ks) (hbw : Below w.heap.size w wr) {j : Nat} (hj : j < ks.length) : ∃ x b off, ao = some ⟨b, off, none⟩ ∧ b < w.heap.size ∧ (wr.cell? ⟨b, off + j * 3, none⟩ = some (.int .i64 x.nm) ∧ wr.cell? ⟨b, off + j * 3 + 1, none⟩ = some (.slice x.ao x.al x.ac) ∧ wr.cell? ⟨b, off + j * 3 + 2, none⟩ = some (.slice x.bo x.bl x.bc)) ∧ IsLA w x ks[j] := by
 obtain ⟨xs, h1, h2, h3⟩ := h
 have hx : j < xs.length := by omega
 obtain ⟨b, off, e, hb, hc⟩ := rowG_at h2 hbw hx
 exact ⟨xs[j], b, off, e, hb, ⟨hc 0 _ rfl, hc 1 _ rfl, hc 2 _ rfl⟩, h3 j hx hj⟩
/-- While actions are laid one behind the other, behind the kinds. -/
structure St4 (w wc wr : World) (KV : Value) (as_ : List LA) (lv : Value) (i : Nat) (xs : List N3) : Prop where
 below : Below w.heap.size w wr
 size : wc.heap.size ≤ wr.heap.size
 keep : ∀ b, b < wc.heap.size → b ≠ w.heap.size + 1 → wr.heap[b]? = wc.heap[b]?
 s : wr.heap[w.heap.size + 1]? = some (.cells #[KV, lv] 33 (0, 0))
 own : wr.ownsRow wc.heap.size 83 3 lv i (xs.map N3.cells).flatten
 len : xs.length = i
 all : ∀ j (h : j < xs.length) (h' : j < as_.length), IsAT wr xs[j] (actS as_[j])
def userB : ByteArray := ⟨#[85, 115, 101, 114]⟩
def docB : ByteArray := ⟨#[68, 111, 99]⟩
def actRow (u : ByteArray) (l : List Int) (j : Nat) : List ByteArray := u :: (l.take j).map knS
theorem actRow_len3 (u : ByteArray) (l : List Int) : (actRow u l 3).length = min 3 l.length + 1 := by
 unfold actRow
 rw [List.length_cons, List.length_map, List.length_take]
theorem actRow_next (u : ByteArray) (l : List Int) (j : Nat) (h : j < l.length) : ((actRow u l (j + 1)).map strC).flatten = ((actRow u l j).map strC).flatten ++ [.string (knS l[j])] := by
 unfold actRow
 rw [List.take_succ_eq_append_getElem h, List.map_append, ← List.cons_append, List.map_append, List.flatten_append]
 rfl
/-- A row of one text, made anew. -/
theorem own_one {w : World} {B g : Nat} {s : ByteArray} (hB : B ≤ g) (h : w.heap[g]? = some (.cells #[.string s] 9 (0, 0))) : w.ownsRow B 9 1 (.slice (some ⟨g, 0, none⟩) 1 1) 1 [.string s] :=
 ⟨rfl, .inr ⟨g, 1, _, rfl, hB, h, Nat.le_refl _, by unfold maxLen; omega, rfl, rfl⟩⟩
theorem act_done {w wr w4 wp wd : World} {a : LA} {nm : ByteArray} {K P R : Nat} {pvo fvo : Option Addr} {pvn pvc fvn fvc m m' : Nat} {kc kc' : Value → Array Value} (hK : wr.heap.size ≤ K) (hP : wr.heap.size ≤ P) (hR : wr.heap.size ≤ R) (hRP : R ≠ P) (hR4 : R < w4.heap.size) (hP4 : P < w4.heap.size) (b4 : ∀ b, b < wr.heap.size → w4.heap[b]? = wr.heap[b]?) (_z4 : wr.heap.size ≤ w4.heap.size)
  (h2 : St5 w w4 wp P K P kc (.slice pvo pvn pvc) m ((actRow userB a.p 3).map strC).flatten) (hm : m = (actRow userB a.p 3).length)
  (h3 : St5 w wp wd R K R kc' (.slice fvo fvn fvc) m' ((actRow docB a.r 3).map strC).flatten) (hm' : m' = (actRow docB a.r 3).length) (hnm : nm = acS a.nm) :
  (∀ b, b < wr.heap.size → wd.heap[b]? = wr.heap[b]?) ∧ wr.heap.size ≤ wd.heap.size ∧ IsAT wd ⟨nm, pvo, pvn, pvc, fvo, fvn, fvc⟩ (actS a) := by
 have s2 := h2.size
 have s3 := h3.size
 refine ⟨fun b hb => ?_, by omega, ?_⟩
 ·rw [h3.old b (by omega) (by omega) (by omega), h2.old b (by omega) (by omega) (by omega), b4 b hb]
 ·have o2 : wd.ownsRow P 9 1 (.slice pvo pvn pvc) ((actRow userB a.p 3)).length ((actRow userB a.p 3).map strC).flatten := by
   rw [← hm]
   exact own_turn h2.own fun b hb => by
    have hlt := h2.own.lt b hb
    have hnK := own_apart (show 9 ≠ 83 by decide) h2.own h2.k
    refine h3.old b (by omega) (fun e => hnK (by rw [← e]; exact hb)) (fun e => ?_)
    rcases h2.loc with h1 | ⟨g, h1, h4⟩
    ·rw [h1] at hb; injection hb with hb; omega
    ·rw [h1] at hb; injection hb with hb; omega
  have o3 : wd.ownsRow R 9 1 (.slice fvo fvn fvc) ((actRow docB a.r 3)).length ((actRow docB a.r 3).map strC).flatten := by
   rw [← hm']
   exact h3.own
  obtain ⟨a2, c2, e2, r2, t2, _⟩ := own_row lenS o2
  obtain ⟨a3, c3, e3, r3, t3, _⟩ := own_row lenS o3
  injection e2 with e21 e22 e23
  injection e3 with e31 e32 e33
  subst e21 e23 e31 e33
  exact ⟨⟨hnm, e22, r2, e32, r3⟩, t2, t3⟩
theorem St4.next {w wc wr wd wk w6 : World} {KV : Value} {as_ : List LA} {lv : Value} {i : Nat} {xs : List N3} {x : N3} {v6 : Value} (h1 : St4 w wc wr KV as_ lv i xs) (hwc : w.heap.size + 2 ≤ wc.heap.size) (hi : i < as_.length) (hd : ∀ b, b < wr.heap.size → wd.heap[b]? = wr.heap[b]?) (hs : wr.heap.size ≤ wd.heap.size) (hx : IsAT wd x (actS as_[i])) (hbk : Below wd.heap.size wd wk) (bw : Below w.heap.size w w6)
  (hown : w6.ownsRow wc.heap.size 83 3 v6 (i + 1) ((xs.map N3.cells).flatten ++ x.cells)) (hg : wk.grownBy w6 lv.ownBlock) : St4 w wc (w6.setCell ⟨w.heap.size + 1, 1, none⟩ v6) KV as_ v6 (i + 1) (xs ++ [x]) := by
 have hrow := h1.own.lt
 have zk := hbk.size
 have zc := h1.size
 have keep : ∀ b, b < wd.heap.size → lv.ownBlock ≠ some b → w6.heap[b]? = wd.heap[b]? := fun b hb hne => (hg.block b (by omega) (fun e => hne e.symm)).trans (hbk.block b hb)
 have low : ∀ b, b < wc.heap.size → w6.heap[b]? = wr.heap[b]? := fun b hb => (keep b (by omega) (fun e => by have := (hrow b e).1; omega)).trans (hd b (by omega))
 have kd : KeepSF wr wd := keepSF_of hs hd
 have ownd : wd.ownsRow wc.heap.size 83 3 lv i (xs.map N3.cells).flatten := own_turn h1.own fun b hb => hd b (hrow b hb).2
 have k7 : KeepSF wd (w6.setCell ⟨w.heap.size + 1, 1, none⟩ v6) := by
  refine ⟨by rw [World.size_setCell]; exact Nat.le_trans zk hg.size, fun b cur T fz hT hb => ?_⟩
  have hbl := (Array.getElem?_eq_some_iff.1 hb).1
  have hnS : b ≠ w.heap.size + 1 := fun e => by
   have h2 := (hd (w.heap.size + 1) (by omega)).trans h1.s
   rw [← e, hb] at h2
   injection h2 with h2
   injection h2 with _ h3
   rcases hT with hT | hT <;> (rw [hT] at h3; exact absurd h3 (by decide))
  have hnG : lv.ownBlock ≠ some b := fun e => by
   obtain ⟨cu, f, h2⟩ := own_ty ownd e
   rw [hb] at h2
   injection h2 with h2
   injection h2 with _ h3
   rcases hT with hT | hT <;> (rw [hT] at h3; exact absurd h3 (by decide))
  rw [Below.heap_setCell w6 ⟨w.heap.size + 1, 1, none⟩ v6 b hnS, keep b hbl hnG]
  exact hb
 refine ⟨bw.setCell (p := ⟨w.heap.size + 1, 1, none⟩) (by show w.heap.size ≤ w.heap.size + 1; omega) _, by rw [World.size_setCell]; have := hg.size; omega, fun b hb hne => ?_, ?_, ?_, by rw [List.length_append, h1.len]; rfl, fun j hj hj' => ?_⟩
 ·rw [Below.heap_setCell w6 ⟨w.heap.size + 1, 1, none⟩ v6 b hne, low b hb]
  exact h1.keep b hb hne
 ·have := heap_setCell_same w6 (w.heap.size + 1) 1 _ _ v6 ((low _ (by omega)).trans h1.s)
  exact this
 ·rw [flat_app]
  exact own_turn hown fun b hb => Below.heap_setCell w6 ⟨w.heap.size + 1, 1, none⟩ v6 b (by have := (hown.lt b hb).1; show b ≠ w.heap.size + 1; omega)
 ·by_cases hjl : j < xs.length
  ·rw [List.getElem_append_left hjl]
   exact (h1.all j hjl hj').turn (kd.trans k7)
  ·have hjk : j = i := by
    have h2 : j < xs.length + 1 := by simpa using hj
    have := h1.len
    omega
   subst hjk
   rw [List.getElem_append_right (by have := h1.len; omega)]
   simp only [h1.len, Nat.sub_self, List.getElem_cons_zero]
   exact hx.turn k7
theorem lenN (x : N3) : (N3.cells x).length = 3 := rfl
theorem getMT {α β : Type} (f : α → β) (l : List α) (n j : Nat) (h : j < ((l.take n).map f).length) (h' : j < l.length) : ((l.take n).map f)[j] = f l[j] := by simp
def acCs : Array Value := #[.string ⟨#[114, 101, 97, 100]⟩, .string ⟨#[119, 114, 105, 116, 101]⟩, .string ⟨#[111, 119, 110]⟩]
theorem ac_cells (m : Nat) (hm : m < 3) : acCs[m]? = some (.string (ac3s.getD m ⟨#[]⟩)) := by
 match m, hm with
 | 0, _ | 1, _ | 2, _ => rfl
theorem acS_of (n : Int) (m : Nat) (h : (m : Int) = n % 3) : acS n = ac3s.getD m ⟨#[]⟩ := by unfold acS; rw [← h]; rfl
/-- Three blocks made one behind the other. -/
theorem alloc3 (w : World) (o1 o2 o3 : Obj) : Below w.heap.size w (((w.alloc o1).alloc o2).alloc o3) ∧ (((w.alloc o1).alloc o2).alloc o3).heap.size = w.heap.size + 3 ∧ (((w.alloc o1).alloc o2).alloc o3).heap[w.heap.size]? = some o1 ∧ (((w.alloc o1).alloc o2).alloc o3).heap[w.heap.size + 1]? = some o2 ∧ (((w.alloc o1).alloc o2).alloc o3).heap[w.heap.size + 2]? = some o3 := by
 have b1 := blw1 w o1
 have b2 := blw1 (w.alloc o1) o2
 have b3 := blw1 ((w.alloc o1).alloc o2) o3
 have z1 : (w.alloc o1).heap.size = w.heap.size + 1 := by simp
 have z2 : ((w.alloc o1).alloc o2).heap.size = w.heap.size + 2 := by simp
 have z3 : (((w.alloc o1).alloc o2).alloc o3).heap.size = w.heap.size + 3 := by simp
 have h1 := alloc_heap w o1
 have h2 := alloc_heap (w.alloc o1) o2
 have h3 := alloc_heap ((w.alloc o1).alloc o2) o3
 rw [z1] at h2
 rw [z2] at h3
 refine ⟨(blw2 w o1 o2).trans (b3.mono (by omega)), z3, ?_, ?_, h3⟩
 ·rw [b3.block _ (by omega), b2.block _ (by omega)]
  exact h1
 ·rw [b3.block _ (by omega)]
  exact h2
/-- A schema in memory, each row of texts and of fields in a block of its type. -/
structure IsST (w : World) (v : Value) (s : SP) : Prop where
 mk ::
 ex : ∃ (ko : Option Addr) (kc : Nat) (ao : Option Addr) (ac : Nat) (xk xs : List N3), v = .agg #[.slice ko s.ks.length kc, .slice ao s.ac.length ac] ∧ xk.length = s.ks.length ∧ RowG w ko 3 (xk.map N3.cells) ∧ (∀ j (h : j < xk.length) (h' : j < s.ks.length), IsKT w xk[j] s.ks[j]) ∧ xs.length = s.ac.length ∧ RowG w ao 3 (xs.map N3.cells) ∧ ∀ j (h : j < xs.length) (h' : j < s.ac.length), IsAT w xs[j] s.ac[j]
theorem IsST.is {w : World} {v : Value} {s : SP} (h : IsST w v s) : IsS w v s := by
 obtain ⟨ko, kc, ao, ac, xk, xs, e, h1, h2, h3, h4, h5, h6⟩ := h.ex
 exact ⟨⟨ko, kc, ao, ac, e, ⟨⟨xk, h1, h2, fun j a b => (h3 j a b).is⟩⟩, ⟨⟨xs, h4, h5, fun j a b => (h6 j a b).is⟩⟩⟩⟩
theorem IsST.below {w w' : World} {v : Value} {s : SP} (h : IsST w v s) (hb : Below w.heap.size w w') : IsST w' v s := by
 obtain ⟨ko, kc, ao, ac, xk, xs, e, h1, h2, h3, h4, h5, h6⟩ := h.ex
 exact ⟨⟨ko, kc, ao, ac, xk, xs, e, h1, h2.below hb, fun j a b => (h3 j a b).turn (.of_below hb), h4, h5.below hb, fun j a b => (h6 j a b).turn (.of_below hb)⟩⟩
/-- All is laid: the schema that they say. -/
theorem schema_done {w wc we : World} {ks : List LK} {as_ : List LA} {lk lv : Value} {xk xs : List N3} (h1 : St1 w wc ks lk (min 5 ks.length) xk) (h4 : St4 w wc we lk as_ lv (min 5 as_.length) xs) : ∃ ko kc ao ac, lk = .slice ko (min 5 ks.length) kc ∧ lv = .slice ao (min 5 as_.length) ac ∧ we.heap[w.heap.size]? = some (.cells #[.slice none 0 0, .slice none 0 0] 33 (0, 0)) ∧ ∀ wf : World, we.heap.size ≤ wf.heap.size → (∀ b, b < we.heap.size → b ≠ w.heap.size → wf.heap[b]? = we.heap[b]?) → IsST wf (.agg #[lk, lv]) (schemaS ks as_) := by
 have zc : w.heap.size + 1 < wc.heap.size := (Array.getElem?_eq_some_iff.1 h1.s).1
 have hre := (h4.keep w.heap.size (by omega) (by omega)).trans h1.r
 have kk : KeepSF wc we := by
  refine ⟨h4.size, fun b cur T fz hT hb => ?_⟩
  refine (h4.keep b (Array.getElem?_eq_some_iff.1 hb).1 (fun e => ?_)).trans hb
  have h2 := h1.s
  rw [← e, hb] at h2
  injection h2 with h2
  injection h2 with _ h3
  rcases hT with hT | hT <;> (rw [hT] at h3; exact absurd h3 (by decide))
 have ok : we.ownsRow (w.heap.size + 2) 80 3 lk xk.length (xk.map N3.cells).flatten := by
  rw [h1.len]
  exact own_turn h1.own fun b hb => by
   have := h1.own.lt b hb
   exact h4.keep b (by omega) (by omega)
 have oa : we.ownsRow wc.heap.size 83 3 lv xs.length (xs.map N3.cells).flatten := by rw [h4.len]; exact h4.own
 obtain ⟨ko, kc, e1, _, _⟩ := own_row lenN ok
 obtain ⟨ao, ac, e2, _, _⟩ := own_row lenN oa
 rw [h1.len] at e1
 rw [h4.len] at e2
 refine ⟨ko, kc, ao, ac, e1, e2, hre, fun wf hz hf => ?_⟩
 have kf : KeepSF we wf := by
  refine ⟨hz, fun b cur T fz hT hb => ?_⟩
  refine (hf b (Array.getElem?_eq_some_iff.1 hb).1 (fun e => ?_)).trans hb
  have h2 := hre
  rw [← e, hb] at h2
  injection h2 with h2
  injection h2 with _ h3
  rcases hT with hT | hT <;> (rw [hT] at h3; exact absurd h3 (by decide))
 have ok := own_turn (w' := wf) ok fun b hb => by
  have := ok.lt b hb
  exact hf b (by omega) (by omega)
 have oa := own_turn (w' := wf) oa fun b hb => by
  have := oa.lt b hb
  exact hf b (by omega) (by omega)
 obtain ⟨ko', kc', e1', r1, _⟩ := own_row lenN ok
 obtain ⟨ao', ac', e2', r2, _⟩ := own_row lenN oa
 rw [h1.len] at e1'
 rw [h4.len] at e2'
 have l1 := h1.len
 have l2 := h4.len
 have n1 : (schemaS ks as_).ks.length = min 5 ks.length := by unfold schemaS; simp
 have n2 : (schemaS ks as_).ac.length = min 5 as_.length := by unfold schemaS; simp
 refine ⟨⟨ko', kc', ao', ac', xk, xs, by rw [e1', e2', n1, n2], by omega, r1, fun j hj hj' => ?_, by omega, r2, fun j hj hj' => ?_⟩⟩
 ·have hjk : j < ks.length := by omega
  have := ((h1.all j hj hjk).turn kk).turn kf
  have e : (schemaS ks as_).ks[j] = kindS ks[j] := getMT kindS ks 5 j hj' hjk
  rw [e]
  exact this
 ·have hjk : j < as_.length := by omega
  have := (h4.all j hj hjk).turn kf
  have e : (schemaS ks as_).ac[j] = actS as_[j] := getMT actS as_ 5 j hj' hjk
  rw [e]
  exact this
end Go.Proofs.Ytagnbpobcijakaa
