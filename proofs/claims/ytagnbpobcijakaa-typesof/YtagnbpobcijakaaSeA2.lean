/-
  chancellaw5.Schema: the states of its loops (no walk in it).
-/
import Derived.Test.YtagnbpobcijakaaSeA
import Derived.Deep.CutBlock
import Derived.Maps.AppendAt
namespace Go.Proofs.Ytagnbpobcijakaa
open Go.RowKit Go.Sort

/-- While kinds are laid one behind the other: the answer's place, the schema's, the row, what each says. -/
structure St1 (w wr : World) (ks : List LK) (lv : Value) (i : Nat) (xs : List N3) : Prop where
  below : Below w.heap.size w wr
  r : wr.heap[w.heap.size]? = some (.cells #[.slice none 0 0, .slice none 0 0] 33 (0, 0))
  s : wr.heap[w.heap.size + 1]? = some (.cells #[lv, .slice none 0 0] 33 (0, 0))
  own : wr.ownsRow (w.heap.size + 2) 80 3 lv i (xs.map N3.cells).flatten
  len : xs.length = i
  all : ∀ j (h : j < xs.length) (h' : j < ks.length), IsKT wr xs[j] (kindS ks[j])
/-- While a kind is made: all that was there but its own place stays; a row of its own grows. -/
structure St2 (w w4 wr : World) (K : Nat) (KC : Value → Array Value) (T : TypeId) (sz : Nat) (pv : Value) (j : Nat) (xs : List Value) : Prop where
  below : Below w.heap.size w wr
  size : w4.heap.size ≤ wr.heap.size
  old : ∀ b, b < w4.heap.size → b ≠ K → wr.heap[b]? = w4.heap[b]?
  k : wr.heap[K]? = some (.cells (KC pv) 80 (0, 0))
  own : wr.ownsRow w4.heap.size T sz pv j xs
theorem St2.next {w w4 wr w5 : World} {K : Nat} {KC : Value → Array Value} {T : TypeId} {sz : Nat} {pv v7 : Value} {j : Nat} {xs xs' : List Value} (h : St2 w w4 wr K KC T sz pv j xs) (q1 : Below w.heap.size w w5) (q2 : wr.heap.size ≤ w5.heap.size) (q3 : ∀ b, b < wr.heap.size → b ≠ K → pv.ownBlock ≠ some b → w5.heap[b]? = wr.heap[b]?) (q4 : w5.heap[K]? = some (.cells (KC v7) 80 (0, 0))) (q5 : w5.ownsRow w4.heap.size T sz v7 (j + 1) xs') : St2 w w4 w5 K KC T sz v7 (j + 1) xs' :=
  ⟨q1, Nat.le_trans h.size q2, fun b hb hk => by
    have := h.size
    rw [q3 b (by omega) hk (fun e => by have := (h.own.lt b e).1; omega)]
    exact h.old b hb hk, q4, q5⟩
theorem St2.up {w w4 wr wt : World} {K : Nat} {KC : Value → Array Value} {T : TypeId} {sz : Nat} {pv : Value} {j : Nat} {xs : List Value} (h : St2 w w4 wr K KC T sz pv j xs) (hb : Below wr.heap.size wr wt) : St2 w w4 wt K KC T sz pv j xs :=
  ⟨h.below.trans (hb.mono h.below.size), Nat.le_trans h.size hb.size, fun b h1 h2 => by
    have := h.size
    exact (hb.block b (by omega)).trans (h.old b h1 h2), kept_of_below hb h.k, own_belowS h.own hb⟩
theorem lk_get {w wr : World} {ao : Option Addr} {ks : List LK} (h : IsLKs w ao ks) (hbw : Below w.heap.size w wr) {j : Nat} (hj : j < ks.length) : ∃ x b off, ao = some ⟨b, off, none⟩ ∧ b < w.heap.size ∧ (wr.cell? ⟨b, off + j * 3, none⟩ = some (.int .i64 x.nm) ∧ wr.cell? ⟨b, off + j * 3 + 1, none⟩ = some (.slice x.ao x.al x.ac) ∧ wr.cell? ⟨b, off + j * 3 + 2, none⟩ = some (.slice x.bo x.bl x.bc)) ∧ IsLK w x ks[j] := by
  obtain ⟨xs, h1, h2, h3⟩ := h
  have hx : j < xs.length := by omega
  obtain ⟨b, off, e, hb, hc⟩ := rowG_at h2 hbw hx
  exact ⟨xs[j], b, off, e, hb, ⟨hc 0 _ rfl, hc 1 _ rfl, hc 2 _ rfl⟩, h3 j hx hj⟩
theorem take_out {α : Type} (l : List α) {j m : Nat} (h : j ≤ l.length) (hm : j ≤ m) (he : ¬ j < m ∨ ¬ j < l.length) : min m l.length = j ∧ l.take m = l.take j := by
  rcases he with he | he
  · have : j = m := by omega
    subst this
    exact ⟨by omega, rfl⟩
  · have : j = l.length := by omega
    subst this
    exact ⟨by omega, by rw [List.take_of_length_le hm, List.take_of_length_le (Nat.le_refl _)]⟩
/-- What the operations of a region answer that appends a text to a row in a cell. -/
def seSp (K f : Nat) (lv ov : Value) (i : Nat) (g o1 o2 pg po pl pc j : Nat) (n : Int) (s : ByteArray) : Nat → Value → World → Prop
  | 0, v, _ => v = .pointer (some ⟨K, f, none⟩)
  | 1, v, _ => v = lv
  | 2, v, _ => v = ov
  | 3, v, _ => v = .int .i64 i
  | 4, v, _ => v = .pointer (some ⟨g, o1, none⟩)
  | 5, v, _ => v = .pointer (some ⟨g, o2, none⟩)
  | 6, v, _ => v = .slice (some ⟨pg, po, none⟩) pl pc
  | 7, v, _ => v = .int .i64 j
  | 8, v, _ => v = .pointer (some ⟨pg, po + j, none⟩)
  | 9, v, _ => v = .int .i64 n
  | 10, v, _ => v = .string s
  | 13, v, _ => v = .pointer (some ⟨K, f, none⟩)
  | _, _, _ => True
theorem seSp_up {K f : Nat} {lv ov : Value} {i g o1 o2 pg po pl pc j : Nat} {n : Int} {s : ByteArray} {w w' : World} : ∀ q u, seSp K f lv ov i g o1 o2 pg po pl pc j n s q u w → seSp K f lv ov i g o1 o2 pg po pl pc j n s q u w' := fun q u h => by
  match q, h with
  | 0, h | 1, h | 2, h | 3, h | 4, h | 5, h | 6, h | 7, h | 8, h | 9, h | 10, h | 11, h | 12, h | 13, h => exact h
  | _ + 14, _ => exact trivial
/-- What the operations of the region answer that appends a field. -/
def sfSp (K F : Nat) (lv : Value) (n : Int) (s : ByteArray) (kv o : Int) (tn : ByteArray) : Nat → Value → World → Prop
  | 0, v, _ => v = .pointer (some ⟨K, 2, none⟩)
  | 1, v, _ => v = lv
  | 2, v, _ => v = .pointer (some ⟨F, 0, none⟩)
  | 3, v, _ => v = .int .i64 n
  | 4, v, _ => v = .string s
  | 5, v, _ => v = .agg #[.int .i64 kv, .int .i64 o, .string tn]
  | 6, v, _ => v = .agg #[.string s, .int .i64 kv, .int .i64 o, .string tn]
  | 9, v, _ => v = .pointer (some ⟨K, 2, none⟩)
  | _, _, _ => True
theorem sfSp_up {K F : Nat} {lv : Value} {n : Int} {s : ByteArray} {kv o : Int} {tn : ByteArray} {w w' : World} : ∀ q u, sfSp K F lv n s kv o tn q u w → sfSp K F lv n s kv o tn q u w' := fun q u h => by
  match q, h with
  | 0, h | 1, h | 2, h | 3, h | 4, h | 5, h | 6, h | 7, h | 8, h | 9, h => exact h
  | _ + 10, _ => exact trivial
theorem field_cells (f : LF) : (fieldS f).cells = [.string (nmS f.nm), .int .i64 (1 + f.k % 5), .int .i64 (ofLF f), .string (if 1 + f.k % 5 = 4 ∨ ofLF f = 4 then knS f.to else ⟨#[]⟩)] := rfl
/-- A row that is owned, in a world where its block stays. -/
theorem own_turn {w w' : World} {B n k : Nat} {T : TypeId} {v : Value} {xs : List Value} (h : w.ownsRow B T n v k xs) (hk : ∀ b, v.ownBlock = some b → w'.heap[b]? = w.heap[b]?) : w'.ownsRow B T n v k xs := by
  refine ⟨h.1, ?_⟩
  rcases h.2 with h0 | ⟨g, cap, cur, hv, hB, hg, hr⟩
  · exact .inl h0
  · exact .inr ⟨g, cap, cur, hv, hB, (hk g (by rw [hv]; rfl)).trans hg, hr⟩
theorem keepSF_of {w w' : World} (hs : w.heap.size ≤ w'.heap.size) (h : ∀ b, b < w.heap.size → w'.heap[b]? = w.heap[b]?) : KeepSF w w' := ⟨hs, fun b _ _ _ _ hb => (h b (Array.getElem?_eq_some_iff.1 hb).1).trans hb⟩
theorem lenS (x : ByteArray) : (strC x).length = 1 := rfl
theorem lenF (x : F4) : (F4.cells x).length = 4 := rfl
theorem kind_done {w wr w3 w4 wc wd : World} {k : LK} {nm : ByteArray} {pvo fvo : Option Addr} {pvn pvc fvn fvc : Nat} (b3 : Below wr.heap.size wr w3) (b34 : Below w3.heap.size w3 w4) (z4 : w4.heap.size = w3.heap.size + 1)
    (h2 : St2 w w4 wc w3.heap.size (fun v => #[.string nm, v, .slice none 0 0]) 9 1 (.slice pvo pvn pvc) (min 3 k.ps.length) (((k.ps.take 3).map knS).map strC).flatten)
    (h3 : St2 w wc wd w3.heap.size (fun v => #[.string nm, .slice pvo pvn pvc, v]) 109 4 (.slice fvo fvn fvc) (min 4 k.fs.length) (((k.fs.take 4).map fieldS).map F4.cells).flatten) (hnm : nm = knS k.nm) :
    (∀ b, b < wr.heap.size → wd.heap[b]? = wr.heap[b]?) ∧ wr.heap.size ≤ wd.heap.size ∧ IsKT wd ⟨nm, pvo, pvn, pvc, fvo, fvn, fvc⟩ (kindS k) := by
  have s1 := b3.size
  have s2 := h2.size
  have s3 := h3.size
  refine ⟨fun b hb => ?_, by omega, ?_⟩
  · rw [h3.old b (by omega) (by omega), h2.old b (by omega) (by omega), b34.block b (by omega), b3.block b hb]
  · have o2 : wd.ownsRow w4.heap.size 9 1 (.slice pvo pvn pvc) (((k.ps.take 3).map knS)).length (((k.ps.take 3).map knS).map strC).flatten := by
      have e : ((k.ps.take 3).map knS).length = min 3 k.ps.length := by rw [List.length_map, List.length_take]
      rw [e]
      exact own_turn h2.own fun b hb => by
        have := h2.own.lt b hb
        exact h3.old b (by omega) (by omega)
    have o3 : wd.ownsRow wc.heap.size 109 4 (.slice fvo fvn fvc) (((k.fs.take 4).map fieldS)).length (((k.fs.take 4).map fieldS).map F4.cells).flatten := by
      have e : ((k.fs.take 4).map fieldS).length = min 4 k.fs.length := by rw [List.length_map, List.length_take]
      rw [e]
      exact h3.own
    obtain ⟨a2, c2, e2, r2, t2, _⟩ := own_row lenS o2
    obtain ⟨a3, c3, e3, r3, t3, _⟩ := own_row lenF o3
    injection e2 with e21 e22 e23
    injection e3 with e31 e32 e33
    subst e21 e23 e31 e33
    exact ⟨⟨hnm, e22, r2, e32, r3⟩, t2, t3⟩
theorem flat_app (xs : List N3) (x : N3) : ((xs ++ [x]).map N3.cells).flatten = (xs.map N3.cells).flatten ++ x.cells := by simp
theorem St1.next {w wr wd wk w6 : World} {ks : List LK} {lv : Value} {i : Nat} {xs : List N3} {x : N3} {v6 : Value} (h1 : St1 w wr ks lv i xs) (hi : i < ks.length) (hd : ∀ b, b < wr.heap.size → wd.heap[b]? = wr.heap[b]?) (hs : wr.heap.size ≤ wd.heap.size) (hx : IsKT wd x (kindS ks[i])) (hbk : Below wd.heap.size wd wk) (bw : Below w.heap.size w w6)
    (hown : w6.ownsRow (w.heap.size + 2) 80 3 v6 (i + 1) ((xs.map N3.cells).flatten ++ x.cells)) (hg : wk.grownBy w6 lv.ownBlock) : St1 w (w6.setCell ⟨w.heap.size + 1, 0, none⟩ v6) ks v6 (i + 1) (xs ++ [x]) := by
  have hrow := h1.own.lt
  have zk := hbk.size
  have zr : w.heap.size + 1 < wr.heap.size := (Array.getElem?_eq_some_iff.1 h1.s).1
  have keep : ∀ b, b < wd.heap.size → lv.ownBlock ≠ some b → w6.heap[b]? = wd.heap[b]? := fun b hb hne => (hg.block b (by omega) (fun e => hne e.symm)).trans (hbk.block b hb)
  have low : ∀ b, b < w.heap.size + 2 → w6.heap[b]? = wr.heap[b]? := fun b hb => (keep b (by omega) (fun e => by have := (hrow b e).1; omega)).trans (hd b (by omega))
  have kd : KeepSF wr wd := keepSF_of hs hd
  have ownd : wd.ownsRow (w.heap.size + 2) 80 3 lv i (xs.map N3.cells).flatten := own_turn h1.own fun b hb => hd b (hrow b hb).2
  have k7 : KeepSF wd (w6.setCell ⟨w.heap.size + 1, 0, none⟩ v6) := by
    refine ⟨by rw [World.size_setCell]; exact Nat.le_trans zk hg.size, fun b cur T fz hT hb => ?_⟩
    have hbl := (Array.getElem?_eq_some_iff.1 hb).1
    have hnS : b ≠ w.heap.size + 1 := fun e => by
      have h2 := (hd (w.heap.size + 1) zr).trans h1.s
      rw [← e, hb] at h2
      injection h2 with h2
      injection h2 with _ h3
      rcases hT with hT | hT <;> (rw [hT] at h3; exact absurd h3 (by decide))
    have hnG : lv.ownBlock ≠ some b := fun e => by
      obtain ⟨cu, f, h2⟩ := own_ty ownd e
      rw [hb] at h2
      injection h2 with h2
      injection h2 with _ h3
      rcases hT with hT | hT <;> (rw [hT] at h3; exact absurd h3 (by decide))
    rw [Below.heap_setCell w6 ⟨w.heap.size + 1, 0, none⟩ v6 b hnS, keep b hbl hnG]
    exact hb
  refine ⟨bw.setCell (p := ⟨w.heap.size + 1, 0, none⟩) (by show w.heap.size ≤ w.heap.size + 1; omega) _, ?_, ?_, ?_, by rw [List.length_append, h1.len]; rfl, fun j hj hj' => ?_⟩
  · rw [Below.heap_setCell w6 ⟨w.heap.size + 1, 0, none⟩ v6 _ (by show w.heap.size ≠ w.heap.size + 1; omega), low _ (by omega)]
    exact h1.r
  · have := heap_setCell_same w6 (w.heap.size + 1) 0 _ _ v6 ((low _ (by omega)).trans h1.s)
    exact this
  · rw [flat_app]
    exact own_turn hown fun b hb => Below.heap_setCell w6 ⟨w.heap.size + 1, 0, none⟩ v6 b (by have := (hown.lt b hb).1; show b ≠ w.heap.size + 1; omega)
  · by_cases hjl : j < xs.length
    · rw [List.getElem_append_left hjl]
      exact (h1.all j hjl hj').turn (kd.trans k7)
    · have hjk : j = i := by
        have h2 : j < xs.length + 1 := by simpa using hj
        have := h1.len
        omega
      subst hjk
      rw [List.getElem_append_right (by have := h1.len; omega)]
      simp only [h1.len, Nat.sub_self, List.getElem_cons_zero]
      exact hx.turn k7
end Go.Proofs.Ytagnbpobcijakaa
