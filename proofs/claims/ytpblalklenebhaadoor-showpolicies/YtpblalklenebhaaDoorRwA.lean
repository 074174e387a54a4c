/-
  Raws of chancellaw5: as plain data, in memory, and as arguments.
-/
import Derived.Test.YtpblalklenebhaaDoorLawOf
import Derived.Lib.SmallJoins
import Derived.Deep.Slices
import Derived.OpenShut
import Derived.Stop.Joined
import Derived.ProofKit
namespace Go.Proofs.YtpblalklenebhaaDoor
open Go.ChangeShapes Go.WideShapes Go.ChangeAt Go.WideMaps Go.WideElems Go.RowKit

/-- What a tree is made of. -/
inductive Rw where
  | mk (op n : Int) (s : List Int) (l : List Rw)
structure R4 where
  op : Int
  n : Int
  so : Option Addr
  sl : Nat
  sc : Nat
  lo : Option Addr
  ll : Nat
  lc : Nat
def R4.cells (r : R4) : List Value := [.int .i64 r.op, .int .i64 r.n, .slice r.so r.sl r.sc, .slice r.lo r.ll r.lc]
def R4.val (r : R4) : Value := .agg #[.int .i64 r.op, .int .i64 r.n, .slice r.so r.sl r.sc, .slice r.lo r.ll r.lc]
structure AtR (w : World) (b o : Nat) (r : R4) : Prop where
  c0 : w.cell? ⟨b, o, none⟩ = some (.int .i64 r.op)
  c1 : w.cell? ⟨b, o + 1, none⟩ = some (.int .i64 r.n)
  c2 : w.cell? ⟨b, o + 2, none⟩ = some (.slice r.so r.sl r.sc)
  c3 : w.cell? ⟨b, o + 3, none⟩ = some (.slice r.lo r.ll r.lc)
theorem AtR.below {w w' : World} {b o B : Nat} {r : R4} (h : AtR w b o r) (hb : Below B w w') (hlt : b < B) : AtR w' b o r :=
  ⟨(hb.cell (p := ⟨b, o, none⟩) hlt).trans h.c0, (hb.cell (p := ⟨b, o + 1, none⟩) hlt).trans h.c1, (hb.cell (p := ⟨b, o + 2, none⟩) hlt).trans h.c2, (hb.cell (p := ⟨b, o + 3, none⟩) hlt).trans h.c3⟩
mutual
/-- The four cells r say the raw x. -/
def IsR (w : World) : R4 → Rw → Prop
  | r, .mk op n s l => r.op = op ∧ r.n = n ∧ r.sl = s.length ∧ s.length ≤ 9223372036854775807 ∧ s.length ≤ r.sc ∧ IntsAt w r.so s ∧ r.ll = l.length ∧ l.length ≤ 9223372036854775807 ∧ IsRs w r.lo 0 l
def IsRs (w : World) : Option Addr → Nat → List Rw → Prop
  | _, _, [] => True
  | lo, j, x :: l => (∃ r b off, lo = some ⟨b, off, none⟩ ∧ b < w.heap.size ∧ AtR w b (off + j * 4) r ∧ IsR w r x) ∧ IsRs w lo (j + 1) l
end
mutual
theorem IsR.below {w w' : World} (hb : Below w.heap.size w w') : ∀ (r : R4) (x : Rw), IsR w r x → IsR w' r x
  | r, .mk _ _ _ l, h => by
    unfold IsR at h ⊢
    obtain ⟨h1, h2, h3, h4, h5, h6, h7, h8, h9⟩ := h
    exact ⟨h1, h2, h3, h4, h5, h6.below hb, h7, h8, IsRs.below hb r.lo 0 l h9⟩
theorem IsRs.below {w w' : World} (hb : Below w.heap.size w w') : ∀ (lo : Option Addr) (j : Nat) (l : List Rw), IsRs w lo j l → IsRs w' lo j l
  | _, _, [], _ => by unfold IsRs; trivial
  | lo, j, x :: l, h => by
    unfold IsRs at h ⊢
    obtain ⟨⟨r, b, off, h1, h3, h4, h5⟩, h6⟩ := h
    exact ⟨⟨r, b, off, h1, Nat.lt_of_lt_of_le h3 hb.size, h4.below hb h3, IsR.below hb r x h5⟩, IsRs.below hb lo (j + 1) l h6⟩
end
theorem IsRs.get {w : World} {lo : Option Addr} : ∀ (l : List Rw) (j0 j : Nat) (hj : j < l.length), IsRs w lo j0 l → ∃ r b off, lo = some ⟨b, off, none⟩ ∧ b < w.heap.size ∧ AtR w b (off + (j0 + j) * 4) r ∧ IsR w r l[j]
  | [], _, j, hj, _ => by simp at hj
  | e :: l, j0, 0, _, h => by
    unfold IsRs at h
    obtain ⟨⟨r, b, off, h1, h3, h4, h5⟩, _⟩ := h
    exact ⟨r, b, off, h1, h3, h4, h5⟩
  | e :: l, j0, j + 1, hj, h => by
    unfold IsRs at h
    obtain ⟨r, b, off, h1, h2, h3, h4⟩ := IsRs.get l (j0 + 1) j (by simpa using hj) h.2
    exact ⟨r, b, off, h1, h2, by rw [show j0 + (j + 1) = j0 + 1 + j by omega]; exact h3, h4⟩
theorem IsRs.mk {w : World} {b off : Nat} (hb : b < w.heap.size) : ∀ (l : List Rw) (j : Nat), (∀ i (hi : i < l.length), ∃ r, AtR w b (off + (j + i) * 4) r ∧ IsR w r l[i]) → IsRs w (some ⟨b, off, none⟩) j l
  | [], _, _ => by unfold IsRs; trivial
  | x :: l, j, h => by
    unfold IsRs
    refine ⟨?_, IsRs.mk hb l (j + 1) fun i hi => ?_⟩
    · obtain ⟨r, h1, h2⟩ := h 0 (by simp)
      exact ⟨r, b, off, rfl, hb, by simpa using h1, h2⟩
    · obtain ⟨r, h1, h2⟩ := h (i + 1) (by simpa using hi)
      exact ⟨r, by rw [show j + 1 + i = j + (i + 1) by omega]; exact h1, h2⟩

theorem c_raw5 : Tryd.prog.cellsOf 25 = 4 := by kernel_rfl
theorem c_int5 : Tryd.prog.cellsOf 3 = 1 := by kernel_rfl
theorem cell_lt5 {w : World} {b o : Nat} {v : Value} (h : w.cell? ⟨b, o, none⟩ = some v) : b < w.heap.size := by
  rcases Nat.lt_or_ge b w.heap.size with hl | hl
  · exact hl
  · unfold World.cell? at h
    rw [Array.getElem?_eq_none hl] at h
    cases h

set_option maxRecDepth 100000 in
theorem open_ints5 {H : Type} {enc : TypeId × Value → H} {W : World} {fuel : Nat} {v : Value} {x : DataW H × List MemPlace} (h : DataW.trod enc Tryd.prog W 0 (fun _ => true) true fuel 22 [v] = some x) :
    ∃ (ao : Option Addr) (xs : List Int) (cap : Nat), v = .slice ao xs.length cap ∧ xs.length ≤ 9223372036854775807 ∧ xs.length ≤ cap ∧ IntsAt W ao xs := by
  rcases open_ints Tryd.underlying22 Tryd.underlying3 c_int5 h with ⟨hcs, _⟩ | ⟨a, len', cap', zs, hcs, _, hl, hm, hz, _, hcell, hwz⟩
  · cases hcs
    exact ⟨none, [], 0, rfl, by simp, by simp, fun j hj => by simp at hj⟩
  · cases hcs
    simp only [if_true] at hz
    have hlen : (zs.take len').length = len' := by rw [List.length_take]; omega
    refine ⟨some a, zs.take len', cap', by rw [hlen], by rw [hlen]; unfold maxLen at hm; omega, by omega, fun j hj => ?_⟩
    obtain ⟨b, off, rfl, h2⟩ := ints_at hcell (by omega)
    have h3 := h2 j (by omega)
    refine ⟨b, off, rfl, cell_lt5 h3, ?_⟩
    rw [h3, List.getElem_take, List.getD, List.getElem?_eq_getElem (by omega)]
    rfl

theorem mem_size {H : Type} (l r : List (DataW H)) {d : DataW H} (h : d ∈ l) : SizeOf.sizeOf d < SizeOf.sizeOf (DataW.slice l r : DataW H) := by
  have := List.sizeOf_lt_of_mem h
  simp only [DataW.slice.sizeOf_spec]
  omega
theorem agg_size {H : Type} (a b c d : DataW H) : SizeOf.sizeOf d < SizeOf.sizeOf (DataW.agg [a, b, c, d] : DataW H) := by
  simp only [DataW.agg.sizeOf_spec, List.cons.sizeOf_spec]
  omega

set_option maxRecDepth 100000 in
/-- A raw, and a slice of raws, read. -/
theorem raw5_all {H : Type} {enc : TypeId × Value → H} {W : World} : ∀ (k : Nat), (∀ {n : Nat} {cs : List Value} {x : DataW H × List MemPlace}, SizeOf.sizeOf x.1 < k → DataW.trod enc Tryd.prog W 0 (fun _ => true) true n 25 cs = some x → ∃ (r : R4) (y : Rw), cs = r.cells ∧ IsR W r y) ∧
    (∀ {n : Nat} {v : Value} {x : DataW H × List MemPlace}, SizeOf.sizeOf x.1 < k → DataW.trod enc Tryd.prog W 0 (fun _ => true) true n 23 [v] = some x → ∃ (lo : Option Addr) (l : List Rw) (lc : Nat), v = .slice lo l.length lc ∧ l.length ≤ 9223372036854775807 ∧ IsRs W lo 0 l) := by
  intro k
  induction k with
  | zero => exact ⟨fun h => absurd h (Nat.not_lt_zero _), fun h => absurd h (Nat.not_lt_zero _)⟩
  | succ k ih =>
    constructor
    · intro n cs x hk h
      obtain ⟨y0, y1, y2, y3, m, hm, hlen, h0, h1, h2, h3⟩ := Joins.trod_struct4 Tryd.underlying25 h
      rw [c_raw5] at hlen
      have hsz : SizeOf.sizeOf y3.1 < k := by
        rw [hm] at hk
        have := agg_size y0.1 y1.1 y2.1 y3.1
        simp only at hk
        omega
      match cs, hlen with
      | [a, b, c, d], _ =>
        have e3 : Tryd.prog.cellsOf 22 = 1 := by kernel_rfl
        have e4 : Tryd.prog.cellsOf 23 = 1 := by kernel_rfl
        simp only [c_int5] at h0 h1
        simp only [e3] at h2
        simp only [e4] at h3
        obtain ⟨k', hk', _⟩ := DataW.trod_int Tryd.underlying3 h0
        obtain ⟨n', hn, _⟩ := DataW.trod_int Tryd.underlying3 h1
        obtain ⟨so, xs, sc, hs, hl, hc, hi⟩ := open_ints5 h2
        obtain ⟨lo, l, lc, hd, hll, hrs⟩ := ih.2 hsz h3
        simp at hk' hn
        subst hk' hn hs hd
        refine ⟨⟨k', n', so, xs.length, sc, lo, l.length, lc⟩, .mk k' n' xs l, rfl, ?_⟩
        unfold IsR
        exact ⟨rfl, rfl, rfl, hl, hc, hi, rfl, hll, hrs⟩
    · intro n v x hk h
      rcases Deep.open_slice Tryd.underlying23 h with ⟨hcs, _⟩ | ⟨a, len, cap, m', n', D, Pl, hcs, _, hl, hm, hmm, hz, hx⟩
      · cases hcs
        exact ⟨none, [], 0, rfl, by simp, by unfold IsRs; trivial⟩
      · cases hcs
        have hmm' : m' = cap := by simpa using hmm
        subst hmm'
        have hmax : len ≤ 9223372036854775807 := by unfold maxLen at hm; omega
        rcases Nat.eq_zero_or_pos len with h0 | hpos
        · subst h0
          exact ⟨some a, [], m', rfl, by simp, by unfold IsRs; trivial⟩
        have HH : ∀ i : Fin len, ∃ y : Rw, ∃ r : R4, IsR W r y ∧ ∀ c u, r.cells[c]? = some u → W.cell? ((a.add (i.1 * 4)).add c) = some u := fun i => by
          obtain ⟨cs', hcells, ht⟩ := hx i.1 (by have := i.2; omega)
          rw [c_raw5] at hcells
          obtain ⟨_, hl4, hc⟩ := World.cells?_some hcells
          have hsz : SizeOf.sizeOf (D i.1) < k := by
            rw [hz] at hk
            have := mem_size (List.map D (List.range len)) (List.map (fun j => D (len + j)) (List.range (m' - len))) (d := D i.1) (List.mem_map.2 ⟨i.1, List.mem_range.2 i.2, rfl⟩)
            simp only at hk
            omega
          obtain ⟨r, y, rfl, hy⟩ := ih.1 hsz ht
          exact ⟨y, r, hy, fun c u hu => (hc c (by have := (List.getElem?_eq_some_iff.1 hu).1; simpa [R4.cells] using this)).trans hu⟩
        obtain ⟨f, hf⟩ := Classical.axiomOfChoice HH
        obtain ⟨b, off, sp⟩ := a
        obtain ⟨r0, _, hc0⟩ := hf ⟨0, hpos⟩
        have hsp : sp = none := by simpa [Addr.add] using World.cell?_spot (hc0 0 _ rfl)
        subst hsp
        have hb : b < W.heap.size := by
          have := hc0 0 _ rfl
          simp only [Addr.add_lit, Nat.zero_mul, Nat.add_zero] at this
          exact cell_lt5 this
        refine ⟨some ⟨b, off, none⟩, List.ofFn f, m', by rw [List.length_ofFn], by rw [List.length_ofFn]; exact hmax, IsRs.mk hb _ 0 fun i hi => ?_⟩
        rw [List.length_ofFn] at hi
        rw [List.getElem_ofFn]
        obtain ⟨r, hr, hc⟩ := hf ⟨i, hi⟩
        have k0 := hc 0 _ rfl
        have k1 := hc 1 _ rfl
        have k2 := hc 2 _ rfl
        have k3 := hc 3 _ rfl
        simp only [Addr.add_lit, Nat.add_zero] at k0 k1 k2 k3
        refine ⟨r, ⟨?_, ?_, ?_, ?_⟩, hr⟩
        · simpa using k0
        · simpa using k1
        · simpa using k2
        · simpa using k3

set_option maxRecDepth 100000 in
theorem open_raw5 {H : Type} {enc : TypeId × Value → H} {W : World} {b0 : Nat} {v : Value} {d : DataW H} {ps : List MemPlace}
    (hv : Value.okWide Tryd.prog W .any b0 25 v) (hd : DataW.Trod enc Tryd.prog W 0 (fun _ => true) true 25 v d ps) :
    ∃ (r : R4) (y : Rw), v = r.val ∧ IsR W r y := by
  obtain ⟨cs, rfl, hsz⟩ := okWide_struct Tryd.underlying25 hv
  obtain ⟨fuel, hf⟩ := hd
  obtain ⟨r, y, hcs, hr⟩ := (raw5_all (SizeOf.sizeOf d + 1)).1 (x := (d, ps)) (Nat.lt_succ_self _) hf
  refine ⟨r, y, ?_, hr⟩
  have : cs.toList = _ := hcs
  unfold R4.val
  congr 1
  exact Array.toList_inj.1 (by rw [this]; rfl)
end Go.Proofs.YtpblalklenebhaaDoor
