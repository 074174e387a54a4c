/-
  Values and entities in memory, and what is kept of them where other blocks turn (no walk in it).
-/
import Derived.Test.YtnbbimcooilmdaaGreatEcB
import Derived.Test.YtnbbimcooilmdaaGreatVcIM
namespace Go.Proofs.YtnbbimcooilmdaaGreat
open Go.RowKit Go.Sort

theorem cell_same {w w' : World} {b o : Nat} (h : w'.heap[b]? = w.heap[b]?) : w'.cell? ⟨b, o, none⟩ = w.cell? ⟨b, o, none⟩ := by
  unfold World.cell?
  simp only [h]
theorem rowG_V {w : World} {ao : Option Addr} {l : List R7} : RowV w ao l ↔ RowG w ao 7 (l.map R7.cells) := by
  constructor
  · intro h j hj
    obtain ⟨b, off, e, hb, hc⟩ := h j (by simpa using hj)
    exact ⟨b, off, e, hb, fun c v hv => hc c v (by simpa using hv)⟩
  · intro h j hj
    obtain ⟨b, off, e, hb, hc⟩ := h j (by simpa using hj)
    exact ⟨b, off, e, hb, fun c v hv => hc c v (by simpa using hv)⟩
theorem RowG.turn {w w' : World} {ao : Option Addr} {n : Nat} {l : List (List Value)} (h : RowG w ao n l) (hs : w.heap.size ≤ w'.heap.size) (hk : ∀ ad, ao = some ad → l ≠ [] → ad.block < w.heap.size → w'.heap[ad.block]? = w.heap[ad.block]?) : RowG w' ao n l := by
  intro j hj
  obtain ⟨b, off, e, hb, hc⟩ := h j hj
  have hne : l ≠ [] := fun h => by rw [h] at hj; exact absurd hj (Nat.not_lt_zero _)
  exact ⟨b, off, e, by omega, fun c v hv => (cell_same (hk _ e hne hb)).trans (hc c v hv)⟩

/-- A value, its list in a block of a kind. -/
def IsGP (w : World) (P : Nat → Prop) (g : GV) (R : R7) : Prop := IsG w g R ∧ ∀ ad, R.lo = some ad → R.ll ≠ 0 → P ad.block
theorem IsGP.turn {w w' : World} {P P' : Nat → Prop} {g : GV} {R : R7} (hs : w.heap.size ≤ w'.heap.size) (hk : ∀ b, P b → b < w.heap.size → w'.heap[b]? = w.heap[b]? ∧ P' b) (h : IsGP w P g R) : IsGP w' P' g R := by
  obtain ⟨h1, h2⟩ := h
  cases g with
  | pl p =>
    refine ⟨h1, fun ad e hl => ?_⟩
    have : R = ofP p := h1
    rw [this] at hl
    cases p <;> exact absurd rfl hl
  | set l =>
    obtain ⟨ao, c, rfl, hr, ho⟩ := h1
    have hr' := rowG_V.1 hr
    have hlt : ∀ ad, ao = some ad → l.length ≠ 0 → ad.block < w.heap.size := fun ad e hl => by
      obtain ⟨b, off, e', hb, _⟩ := hr 0 (by simp; omega)
      rw [e] at e'
      cases e'
      exact hb
    refine ⟨⟨ao, c, rfl, rowG_V.2 (hr'.turn hs fun ad e hne hb => (hk _ (h2 ad e (fun h0 => hne ?_)) hb).1), ho⟩, fun ad e hl => (hk _ (h2 ad e hl) (hlt ad e hl)).2⟩
    have : l = [] := List.eq_nil_of_length_eq_zero h0
    rw [this]
    rfl
theorem IsGP.below {w w' : World} {P : Nat → Prop} {g : GV} {R : R7} (h : IsGP w P g R) (hb : Below w.heap.size w w') : IsGP w' P g R := h.turn hb.size fun b hp hl => ⟨hb.block b hl, hp⟩
theorem IsGP.of {w : World} {g : GV} {R : R7} (h : IsG w g R) : IsGP w (fun _ => True) g R := ⟨h, fun _ _ _ => trivial⟩
/-- How many a set has. -/
def GV.len : GV → Nat
  | .pl _ => 0
  | .set l => l.length

/-- An entity, as plain data. -/
structure EntP where
  u : U2
  ps : List U2
  ats : List (ByteArray × GV)
/-- Not too great. -/
def EntP.fits (p : EntP) : Prop := p.ps.length ≤ 1048576 ∧ p.ats.length ≤ 1048576 ∧ ∀ a ∈ p.ats, a.2.len ≤ 1048576
def IsAs (w : World) (P : Nat → Nat → Prop) (rs : List A8) (l : List (ByteArray × GV)) : Prop :=
  rs.length = l.length ∧ ∀ j (h : j < rs.length) (h' : j < l.length), rs[j].nm = l[j].1 ∧ IsGP w (P j) l[j].2 rs[j].v
theorem IsAs.turn {w w' : World} {P P' : Nat → Nat → Prop} {rs : List A8} {l : List (ByteArray × GV)} (hs : w.heap.size ≤ w'.heap.size) (hk : ∀ j b, P j b → b < w.heap.size → w'.heap[b]? = w.heap[b]? ∧ P' j b) (h : IsAs w P rs l) : IsAs w' P' rs l :=
  ⟨h.1, fun j h1 h2 => ⟨(h.2 j h1 h2).1, (h.2 j h1 h2).2.turn hs (hk j)⟩⟩
structure IsEnt (w : World) (P : Nat → Prop) (e : E4) (p : EntP) : Prop where
  u : (⟨e.t, e.i⟩ : U2) = p.u
  pl : e.pl = p.ps.length
  rowU : RowG w e.po 2 (p.ps.map U2.cells)
  pU : ∀ ad, e.po = some ad → p.ps ≠ [] → P ad.block
  ats : ∃ rs : List A8, e.al = rs.length ∧ RowG w e.ao 8 (rs.map A8.cells) ∧ (∀ ad, e.ao = some ad → rs ≠ [] → P ad.block) ∧ IsAs w (fun _ => P) rs p.ats
theorem IsEnt.turn {w w' : World} {P P' : Nat → Prop} {e : E4} {p : EntP} (hs : w.heap.size ≤ w'.heap.size) (hk : ∀ b, P b → b < w.heap.size → w'.heap[b]? = w.heap[b]? ∧ P' b) (h : IsEnt w P e p) : IsEnt w' P' e p := by
  obtain ⟨rs, h1, h2, h3, h4⟩ := h.ats
  have lt2 : ∀ ad, e.po = some ad → p.ps ≠ [] → ad.block < w.heap.size := fun ad e1 hne => by
    obtain ⟨b, off, e', hb, _⟩ := h.rowU 0 (by simpa using List.length_pos_iff.2 hne)
    rw [e1] at e'
    cases e'
    exact hb
  have lt3 : ∀ ad, e.ao = some ad → rs ≠ [] → ad.block < w.heap.size := fun ad e1 hne => by
    obtain ⟨b, off, e', hb, _⟩ := h2 0 (by simpa using List.length_pos_iff.2 hne)
    rw [e1] at e'
    cases e'
    exact hb
  exact ⟨h.u, h.pl, h.rowU.turn hs fun ad e1 hne hb => (hk _ (h.pU ad e1 (fun h0 => hne (by rw [h0]; rfl))) hb).1, fun ad e1 hne => (hk _ (h.pU ad e1 hne) (lt2 ad e1 hne)).2,
    rs, h1, h2.turn hs fun ad e1 hne hb => (hk _ (h3 ad e1 (fun h0 => hne (by rw [h0]; rfl))) hb).1, fun ad e1 hne => (hk _ (h3 ad e1 hne) (lt3 ad e1 hne)).2, h4.turn hs fun _ => hk⟩
theorem IsEnt.below {w w' : World} {P : Nat → Prop} {e : E4} {p : EntP} (h : IsEnt w P e p) (hb : Below w.heap.size w w') : IsEnt w' P e p := h.turn hb.size fun b hp hl => ⟨hb.block b hl, hp⟩
theorem IsEnt.weak {w : World} {P P' : Nat → Prop} {e : E4} {p : EntP} (h : IsEnt w P e p) (hP : ∀ b, P b → P' b) : IsEnt w P' e p := h.turn (Nat.le_refl _) fun b hp _ => ⟨rfl, hP b hp⟩
/-- What lies in memory lies in blocks that are there. -/
theorem IsEnt.old {w : World} {P : Nat → Prop} {e : E4} {p : EntP} (h : IsEnt w P e p) : IsEnt w (fun b => b < w.heap.size) e p := by
  obtain ⟨rs, h1, h2, h3, h4⟩ := h.ats
  refine ⟨h.u, h.pl, h.rowU, fun ad e1 hne => ?_, rs, h1, h2, fun ad e1 hne => ?_, h4.1, fun j hj hj' => ⟨(h4.2 j hj hj').1, (h4.2 j hj hj').2.1, fun ad e1 hl => ?_⟩⟩
  · obtain ⟨b, off, e', hb, _⟩ := h.rowU 0 (by simpa using List.length_pos_iff.2 hne)
    rw [e1] at e'
    cases e'
    exact hb
  · obtain ⟨b, off, e', hb, _⟩ := h2 0 (by simpa using List.length_pos_iff.2 hne)
    rw [e1] at e'
    cases e'
    exact hb
  · have hg := (h4.2 j hj hj').2.1
    cases hgv : p.ats[j].2 with
    | pl q =>
      rw [hgv] at hg
      have : rs[j].v = ofP q := hg
      rw [this] at hl
      cases q <;> exact absurd rfl hl
    | set l =>
      rw [hgv] at hg
      obtain ⟨ao, c, e2, hr, _⟩ := hg
      rw [e2] at e1 hl
      have e1' : ao = some ad := e1
      have hl' : l.length ≠ 0 := hl
      obtain ⟨b, off, e', hb, _⟩ := hr 0 (by simp; omega)
      rw [e1'] at e'
      cases e'
      exact hb

/-! ## Cells set one by one. -/

theorem belowSetCells {B b : Nat} {a : World} : ∀ (vs : List Value) (o : Nat) (w : World), Below B a w → B ≤ b → Below B a (w.setCells b o vs)
  | [], _, _, h, _ => h
  | v :: vs, o, _, h, hb => belowSetCells vs (o + 1) _ (h.setCell (p := ⟨b, o, none⟩) hb v) hb
theorem heap_setCells {b k : Nat} (hk : k ≠ b) : ∀ (vs : List Value) (o : Nat) (w : World), (w.setCells b o vs).heap[k]? = w.heap[k]?
  | [], _, _ => rfl
  | v :: vs, o, w => (heap_setCells hk vs (o + 1) _).trans (Below.heap_setCell w ⟨b, o, none⟩ v k hk)
theorem size_setCells {b : Nat} : ∀ (vs : List Value) (o : Nat) (w : World), (w.setCells b o vs).heap.size = w.heap.size
  | [], _, _ => rfl
  | v :: vs, o, w => (size_setCells vs (o + 1) _).trans (by simp)
/-- A row in whose j-th element the cells from c on are set. -/
theorem rowG_set {w : World} {g n j c : Nat} {l : List (List Value)} {x vs : List Value} (hn : ∀ y ∈ l, y.length = n) (h : RowG w (some ⟨g, 0, none⟩) n l) (hj : j < l.length) (hc : c + vs.length = n) (h0 : ∀ k, k < c → x[k]? = (l[j])[k]?) (h1 : ∀ k, x[c + k]? = vs[k]?) :
    RowG (w.setCells g (j * n + c) vs) (some ⟨g, 0, none⟩) n (l.set j x) := by
  have hlj : (l[j]).length = n := hn _ (List.getElem_mem hj)
  obtain ⟨b, off, e, hb, hcell⟩ := h j hj
  cases e
  have hsome : ∀ k, k < vs.length → (w.cell? ⟨g, j * n + c + k, none⟩).isSome = true := fun k hk => by
    have hck : c + k < (l[j]).length := by omega
    have := hcell (c + k) _ (List.getElem?_eq_getElem hck)
    rw [show 0 + j * n + (c + k) = j * n + c + k by omega] at this
    rw [this]
    rfl
  intro i hi
  have hi' : i < l.length := by simpa using hi
  refine ⟨g, 0, rfl, by rw [size_setCells]; exact hb, fun d v hv => ?_⟩
  rw [Nat.zero_add]
  by_cases hij : j = i
  · subst hij
    rw [List.getElem_set_self] at hv
    rcases Nat.lt_or_ge d c with hd | hd
    · rw [World.cell?_setCells_out g vs _ w _ (fun _ _ => .inl (by show j * n + d < j * n + c; omega))]
      have := hcell d v ((h0 d hd).symm.trans hv)
      rwa [Nat.zero_add] at this
    · obtain ⟨k, rfl⟩ : ∃ k, d = c + k := ⟨d - c, by omega⟩
      rw [h1] at hv
      obtain ⟨hk, rfl⟩ := List.getElem?_eq_some_iff.1 hv
      rw [← Nat.add_assoc]
      exact World.cell?_setCells_in g vs _ w hsome k hk
  · rw [List.getElem_set_ne hij] at hv
    obtain ⟨b', off', e', _, hcell'⟩ := h i hi'
    cases e'
    have hd : d < n := by
      have := (List.getElem?_eq_some_iff.1 hv).1
      rwa [hn _ (List.getElem_mem hi')] at this
    have := hcell' d v hv
    rw [Nat.zero_add] at this
    rw [← this]
    refine World.cell?_setCells_out g vs _ w _ (fun _ _ => ?_)
    show i * n + d < j * n + c ∨ j * n + c + vs.length ≤ i * n + d
    rcases Nat.lt_or_ge i j with h2 | h2
    · have := Nat.mul_le_mul_right n (Nat.succ_le_of_lt h2)
      rw [Nat.succ_mul] at this
      omega
    · have := Nat.mul_le_mul_right n (Nat.succ_le_of_lt (Nat.lt_of_le_of_ne h2 hij))
      rw [Nat.succ_mul] at this
      omega
end Go.Proofs.YtnbbimcooilmdaaGreat
