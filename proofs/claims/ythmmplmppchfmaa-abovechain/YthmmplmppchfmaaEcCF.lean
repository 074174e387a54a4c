/-
  Values and entities in memory, and what is kept of them where other blocks turn (no walk in it).
  ents.copyValue: what it returns.
  ents.copyEntity: what it returns.
  ents.copyRow: what it returns.
-/
import Derived.Test.YthmmplmppchfmaaEnEc
import Derived.Test.YthmmplmppchfmaaVcEM
import Derived.Test.YthmmplmppchfmaaVeK
import Derived.Deep.Cut
namespace Go.Proofs.Ythmmplmppchfmaa
open Go.RowKit Go.Sort

theorem cell_same {w w' : World} {b o : Nat} (h : w'.heap[b]? = w.heap[b]?) : w'.cell? ⟨b, o, none⟩ = w.cell? ⟨b, o, none⟩ := by
  unfold World.cell?
  simp only [h]
theorem rowG_V {w : World} {ao : Option Addr} {l : List R7} : RowV w ao l ↔ RowG w ao 7 (l.map R7.cells) := by
  constructor
  · intro h j hj
    obtain ⟨b, off, e, hb, hc⟩ := h j (by simpa using hj)
    exact ⟨b, off, e, hb, fun c v hv => hc c v (by simpa using hv)⟩
  · intro h j hj
    obtain ⟨b, off, e, hb, hc⟩ := h j (by simpa using hj)
    exact ⟨b, off, e, hb, fun c v hv => hc c v (by simpa using hv)⟩
theorem RowG.turn {w w' : World} {ao : Option Addr} {n : Nat} {l : List (List Value)} (h : RowG w ao n l) (hs : w.heap.size ≤ w'.heap.size) (hk : ∀ ad, ao = some ad → l ≠ [] → ad.block < w.heap.size → w'.heap[ad.block]? = w.heap[ad.block]?) : RowG w' ao n l := by
  intro j hj
  obtain ⟨b, off, e, hb, hc⟩ := h j hj
  have hne : l ≠ [] := fun h => by rw [h] at hj; exact absurd hj (Nat.not_lt_zero _)
  exact ⟨b, off, e, by omega, fun c v hv => (cell_same (hk _ e hne hb)).trans (hc c v hv)⟩

/-- A value, its list in a block of a kind. -/
def IsGP (w : World) (P : Nat → Prop) (g : GV) (R : R7) : Prop := IsG w g R ∧ ∀ ad, R.lo = some ad → R.ll ≠ 0 → P ad.block
theorem IsGP.turn {w w' : World} {P P' : Nat → Prop} {g : GV} {R : R7} (hs : w.heap.size ≤ w'.heap.size) (hk : ∀ b, P b → b < w.heap.size → w'.heap[b]? = w.heap[b]? ∧ P' b) (h : IsGP w P g R) : IsGP w' P' g R := by
  obtain ⟨h1, h2⟩ := h
  cases g with
  | pl p =>
    refine ⟨h1, fun ad e hl => ?_⟩
    have : R = ofP p := h1
    rw [this] at hl
    cases p <;> exact absurd rfl hl
  | set l =>
    obtain ⟨ao, c, rfl, hr, ho⟩ := h1
    have hr' := rowG_V.1 hr
    have hlt : ∀ ad, ao = some ad → l.length ≠ 0 → ad.block < w.heap.size := fun ad e hl => by
      obtain ⟨b, off, e', hb, _⟩ := hr 0 (by simp; omega)
      rw [e] at e'
      cases e'
      exact hb
    refine ⟨⟨ao, c, rfl, rowG_V.2 (hr'.turn hs fun ad e hne hb => (hk _ (h2 ad e (fun h0 => hne ?_)) hb).1), ho⟩, fun ad e hl => (hk _ (h2 ad e hl) (hlt ad e hl)).2⟩
    have : l = [] := List.eq_nil_of_length_eq_zero h0
    rw [this]
    rfl
theorem IsGP.below {w w' : World} {P : Nat → Prop} {g : GV} {R : R7} (h : IsGP w P g R) (hb : Below w.heap.size w w') : IsGP w' P g R := h.turn hb.size fun b hp hl => ⟨hb.block b hl, hp⟩
theorem IsGP.of {w : World} {g : GV} {R : R7} (h : IsG w g R) : IsGP w (fun _ => True) g R := ⟨h, fun _ _ _ => trivial⟩
/-- How many a set has. -/
def GV.len : GV → Nat
  | .pl _ => 0
  | .set l => l.length

/-- An entity, as plain data. -/
structure EntP where
  u : U2
  ps : List U2
  ats : List (ByteArray × GV)
/-- Not too great. -/
def EntP.fits (p : EntP) : Prop := p.ps.length ≤ 1048576 ∧ p.ats.length ≤ 1048576 ∧ ∀ a ∈ p.ats, a.2.len ≤ 1048576
def IsAs (w : World) (P : Nat → Nat → Prop) (rs : List A8) (l : List (ByteArray × GV)) : Prop :=
  rs.length = l.length ∧ ∀ j (h : j < rs.length) (h' : j < l.length), rs[j].nm = l[j].1 ∧ IsGP w (P j) l[j].2 rs[j].v
theorem IsAs.turn {w w' : World} {P P' : Nat → Nat → Prop} {rs : List A8} {l : List (ByteArray × GV)} (hs : w.heap.size ≤ w'.heap.size) (hk : ∀ j b, P j b → b < w.heap.size → w'.heap[b]? = w.heap[b]? ∧ P' j b) (h : IsAs w P rs l) : IsAs w' P' rs l :=
  ⟨h.1, fun j h1 h2 => ⟨(h.2 j h1 h2).1, (h.2 j h1 h2).2.turn hs (hk j)⟩⟩
structure IsEnt (w : World) (P : Nat → Prop) (e : E4) (p : EntP) : Prop where
  u : (⟨e.t, e.i⟩ : U2) = p.u
  pl : e.pl = p.ps.length
  rowU : RowG w e.po 2 (p.ps.map U2.cells)
  pU : ∀ ad, e.po = some ad → p.ps ≠ [] → P ad.block
  ats : ∃ rs : List A8, e.al = rs.length ∧ RowG w e.ao 8 (rs.map A8.cells) ∧ (∀ ad, e.ao = some ad → rs ≠ [] → P ad.block) ∧ IsAs w (fun _ => P) rs p.ats
theorem IsEnt.turn {w w' : World} {P P' : Nat → Prop} {e : E4} {p : EntP} (hs : w.heap.size ≤ w'.heap.size) (hk : ∀ b, P b → b < w.heap.size → w'.heap[b]? = w.heap[b]? ∧ P' b) (h : IsEnt w P e p) : IsEnt w' P' e p := by
  obtain ⟨rs, h1, h2, h3, h4⟩ := h.ats
  have lt2 : ∀ ad, e.po = some ad → p.ps ≠ [] → ad.block < w.heap.size := fun ad e1 hne => by
    obtain ⟨b, off, e', hb, _⟩ := h.rowU 0 (by simpa using List.length_pos_iff.2 hne)
    rw [e1] at e'
    cases e'
    exact hb
  have lt3 : ∀ ad, e.ao = some ad → rs ≠ [] → ad.block < w.heap.size := fun ad e1 hne => by
    obtain ⟨b, off, e', hb, _⟩ := h2 0 (by simpa using List.length_pos_iff.2 hne)
    rw [e1] at e'
    cases e'
    exact hb
  exact ⟨h.u, h.pl, h.rowU.turn hs fun ad e1 hne hb => (hk _ (h.pU ad e1 (fun h0 => hne (by rw [h0]; rfl))) hb).1, fun ad e1 hne => (hk _ (h.pU ad e1 hne) (lt2 ad e1 hne)).2,
    rs, h1, h2.turn hs fun ad e1 hne hb => (hk _ (h3 ad e1 (fun h0 => hne (by rw [h0]; rfl))) hb).1, fun ad e1 hne => (hk _ (h3 ad e1 hne) (lt3 ad e1 hne)).2, h4.turn hs fun _ => hk⟩
theorem IsEnt.below {w w' : World} {P : Nat → Prop} {e : E4} {p : EntP} (h : IsEnt w P e p) (hb : Below w.heap.size w w') : IsEnt w' P e p := h.turn hb.size fun b hp hl => ⟨hb.block b hl, hp⟩
theorem IsEnt.weak {w : World} {P P' : Nat → Prop} {e : E4} {p : EntP} (h : IsEnt w P e p) (hP : ∀ b, P b → P' b) : IsEnt w P' e p := h.turn (Nat.le_refl _) fun b hp _ => ⟨rfl, hP b hp⟩
/-- What lies in memory lies in blocks that are there. -/
theorem IsEnt.old {w : World} {P : Nat → Prop} {e : E4} {p : EntP} (h : IsEnt w P e p) : IsEnt w (fun b => b < w.heap.size) e p := by
  obtain ⟨rs, h1, h2, h3, h4⟩ := h.ats
  refine ⟨h.u, h.pl, h.rowU, fun ad e1 hne => ?_, rs, h1, h2, fun ad e1 hne => ?_, h4.1, fun j hj hj' => ⟨(h4.2 j hj hj').1, (h4.2 j hj hj').2.1, fun ad e1 hl => ?_⟩⟩
  · obtain ⟨b, off, e', hb, _⟩ := h.rowU 0 (by simpa using List.length_pos_iff.2 hne)
    rw [e1] at e'
    cases e'
    exact hb
  · obtain ⟨b, off, e', hb, _⟩ := h2 0 (by simpa using List.length_pos_iff.2 hne)
    rw [e1] at e'
    cases e'
    exact hb
  · have hg := (h4.2 j hj hj').2.1
    cases hgv : p.ats[j].2 with
    | pl q =>
      rw [hgv] at hg
      have : rs[j].v = ofP q := hg
      rw [this] at hl
      cases q <;> exact absurd rfl hl
    | set l =>
      rw [hgv] at hg
      obtain ⟨ao, c, e2, hr, _⟩ := hg
      rw [e2] at e1 hl
      have e1' : ao = some ad := e1
      have hl' : l.length ≠ 0 := hl
      obtain ⟨b, off, e', hb, _⟩ := hr 0 (by simp; omega)
      rw [e1'] at e'
      cases e'
      exact hb

/-! ## Cells set one by one. -/

theorem belowSetCells {B b : Nat} {a : World} : ∀ (vs : List Value) (o : Nat) (w : World), Below B a w → B ≤ b → Below B a (w.setCells b o vs)
  | [], _, _, h, _ => h
  | v :: vs, o, _, h, hb => belowSetCells vs (o + 1) _ (h.setCell (p := ⟨b, o, none⟩) hb v) hb
theorem heap_setCells {b k : Nat} (hk : k ≠ b) : ∀ (vs : List Value) (o : Nat) (w : World), (w.setCells b o vs).heap[k]? = w.heap[k]?
  | [], _, _ => rfl
  | v :: vs, o, w => (heap_setCells hk vs (o + 1) _).trans (Below.heap_setCell w ⟨b, o, none⟩ v k hk)
theorem size_setCells {b : Nat} : ∀ (vs : List Value) (o : Nat) (w : World), (w.setCells b o vs).heap.size = w.heap.size
  | [], _, _ => rfl
  | v :: vs, o, w => (size_setCells vs (o + 1) _).trans (by simp)
/-- A row in whose j-th element the cells from c on are set. -/
theorem rowG_set {w : World} {g n j c : Nat} {l : List (List Value)} {x vs : List Value} (hn : ∀ y ∈ l, y.length = n) (h : RowG w (some ⟨g, 0, none⟩) n l) (hj : j < l.length) (hc : c + vs.length = n) (h0 : ∀ k, k < c → x[k]? = (l[j])[k]?) (h1 : ∀ k, x[c + k]? = vs[k]?) :
    RowG (w.setCells g (j * n + c) vs) (some ⟨g, 0, none⟩) n (l.set j x) := by
  have hlj : (l[j]).length = n := hn _ (List.getElem_mem hj)
  obtain ⟨b, off, e, hb, hcell⟩ := h j hj
  cases e
  have hsome : ∀ k, k < vs.length → (w.cell? ⟨g, j * n + c + k, none⟩).isSome = true := fun k hk => by
    have hck : c + k < (l[j]).length := by omega
    have := hcell (c + k) _ (List.getElem?_eq_getElem hck)
    rw [show 0 + j * n + (c + k) = j * n + c + k by omega] at this
    rw [this]
    rfl
  intro i hi
  have hi' : i < l.length := by simpa using hi
  refine ⟨g, 0, rfl, by rw [size_setCells]; exact hb, fun d v hv => ?_⟩
  rw [Nat.zero_add]
  by_cases hij : j = i
  · subst hij
    rw [List.getElem_set_self] at hv
    rcases Nat.lt_or_ge d c with hd | hd
    · rw [World.cell?_setCells_out g vs _ w _ (fun _ _ => .inl (by show j * n + d < j * n + c; omega))]
      have := hcell d v ((h0 d hd).symm.trans hv)
      rwa [Nat.zero_add] at this
    · obtain ⟨k, rfl⟩ : ∃ k, d = c + k := ⟨d - c, by omega⟩
      rw [h1] at hv
      obtain ⟨hk, rfl⟩ := List.getElem?_eq_some_iff.1 hv
      rw [← Nat.add_assoc]
      exact World.cell?_setCells_in g vs _ w hsome k hk
  · rw [List.getElem_set_ne hij] at hv
    obtain ⟨b', off', e', _, hcell'⟩ := h i hi'
    cases e'
    have hd : d < n := by
      have := (List.getElem?_eq_some_iff.1 hv).1
      rwa [hn _ (List.getElem_mem hi')] at this
    have := hcell' d v hv
    rw [Nat.zero_add] at this
    rw [← this]
    refine World.cell?_setCells_out g vs _ w _ (fun _ _ => ?_)
    show i * n + d < j * n + c ∨ j * n + c + vs.length ≤ i * n + d
    rcases Nat.lt_or_ge i j with h2 | h2
    · have := Nat.mul_le_mul_right n (Nat.succ_le_of_lt h2)
      rw [Nat.succ_mul] at this
      omega
    · have := Nat.mul_le_mul_right n (Nat.succ_le_of_lt (Nat.lt_of_le_of_ne h2 hij))
      rw [Nat.succ_mul] at this
      omega
end Go.Proofs.Ythmmplmppchfmaa

namespace Go.Proofs.Ythmmplmppchfmaa
open Go.RowKit Go.Sort

/-- What each slot of the region holds. -/
def cvSp (B g n j : Nat) (x : R7) : Nat → Value → World → Prop
  | 0, v, _ => v = .pointer (some ⟨B, 6, none⟩)
  | 1, v, _ => v = .slice (some ⟨g, 0, none⟩) n n
  | 2, v, _ => v = .int .i64 j
  | 3, v, _ => v = .agg #[.int .i64 x.k, .bool x.b, .int .i64 x.n, .string x.s, .string x.t, .string x.i, .slice x.lo x.ll x.lc]
  | 4, v, _ => v = .agg #[.int .i64 x.k, .bool x.b, .int .i64 x.n, .string x.s, .string x.t, .string x.i, .slice x.lo x.ll x.lc]
  | 5, v, _ => v = .pointer (some ⟨g, j * 7, none⟩)
  | _ + 6, _, _ => True
theorem cvSp_up {B g n j : Nat} {x : R7} {w w' : World} : ∀ i u, cvSp B g n j x i u w → cvSp B g n j x i u w'
  | 0, _, h | 1, _, h | 2, _, h | 3, _, h | 4, _, h | 5, _, h => h
  | _ + 6, _, _ => trivial

/-- What a copy of a list is: none, or in new memory. -/
def Fresh (w' : World) (B : Nat) (ao : Option Addr) (n : Nat) (l : List (List Value)) : Prop :=
  RowG w' ao n l ∧ (l = [] → ao = none) ∧ ∀ ad, ao = some ad → ad.off = 0 ∧ B ≤ ad.block

end Go.Proofs.Ythmmplmppchfmaa

namespace Go.Proofs.Ythmmplmppchfmaa
open Go.RowKit Go.Sort

/-- What each slot of the region holds. -/
def ceSp (B E g n j W5 : Nat) (x : R7) (G : GV) : Nat → Value → World → Prop
  | 0, v, _ => v = .pointer (some ⟨B, 3, none⟩)
  | 1, v, _ => v = .slice (some ⟨g, 0, none⟩) n n
  | 2, v, _ => v = .int .i64 j
  | 3, v, _ => v = .pointer (some ⟨E, 1, none⟩)
  | 4, v, _ => v = .agg #[.int .i64 x.k, .bool x.b, .int .i64 x.n, .string x.s, .string x.t, .string x.i, .slice x.lo x.ll x.lc]
  | 5, v, w => ∃ y : R7, v = .agg #[.int .i64 y.k, .bool y.b, .int .i64 y.n, .string y.s, .string y.t, .string y.i, .slice y.lo y.ll y.lc] ∧ IsGP w (fun b => W5 ≤ b) G y
  | 6, v, _ => v = .pointer (some ⟨g, j * 8, none⟩)
  | 7, v, _ => v = .pointer (some ⟨g, j * 8 + 1, none⟩)
  | _ + 8, _, _ => True
theorem ceSp_up {B E g n j W5 : Nat} {x : R7} {G : GV} {w w' : World} (hb : Below w.heap.size w w') : ∀ i u, ceSp B E g n j W5 x G i u w → ceSp B E g n j W5 x G i u w'
  | 0, _, h | 1, _, h | 2, _, h | 3, _, h | 4, _, h | 6, _, h | 7, _, h => h
  | 5, _, ⟨y, e, h⟩ => ⟨y, e, h.below hb⟩
  | _ + 8, _, _ => trivial

/-- What the loop keeps. -/
structure CeInv (w : World) (B3 : Nat) (t i : ByteArray) (po ao : Option Addr) (m n : Nat) (p : EntP) (j : Nat) (wr : World) (rs : List A8) : Prop where
  below : Below w.heap.size w wr
  size : B3 ≤ wr.heap.size
  h1 : wr.heap[w.heap.size]? = some (.cells #[.string t, .string i, .slice po m m, .slice ao n n] 40 (0, 0))
  h2 : wr.heap[w.heap.size + 1]? = some (.cells #[.string ⟨#[]⟩, .string ⟨#[]⟩, .slice none 0 0, .slice none 0 0] 40 (0, 0))
  rowU : RowG wr po 2 (p.ps.map U2.cells)
  rowA : RowG wr ao 8 (rs.map A8.cells)
  fz : ∀ ad, ao = some ad → ∀ o, wr.frozen? ⟨ad.block, o, none⟩ = false
  len : rs.length = n
  at_ : IsAs wr (fun k b => (∀ ad, ao = some ad → b ≠ ad.block) ∧ (k < j → w.heap.size + 2 ≤ b)) rs p.ats

theorem ceInv_step {w : World} {B3 : Nat} {t i : ByteArray} {po : Option Addr} {m n g : Nat} {p : EntP} {j W5 : Nat} {wr w' : World} {rs : List A8} {y : R7} (h : CeInv w B3 t i po (some ⟨g, 0, none⟩) m n p j wr rs)
    (hj : j < rs.length) (hj' : j < p.ats.length) (hg : w.heap.size + 2 ≤ g) (hgw : g < wr.heap.size) (hpo : ∀ ad, po = some ad → ad.block ≠ g) (hW : wr.heap.size ≤ W5) (b6 : Below wr.heap.size wr w') (hy : IsGP w' (fun b => W5 ≤ b) p.ats[j].2 y) :
    CeInv w B3 t i po (some ⟨g, 0, none⟩) m n p (j + 1) (w'.setCells g (j * 8 + 1) y.cells) (rs.set j ⟨rs[j].nm, y⟩) := by
  have h1' := kept_of_below b6 h.h1
  have h2' := kept_of_below b6 h.h2
  have hs : (w'.setCells g (j * 8 + 1) y.cells).heap.size = w'.heap.size := size_setCells _ _ _
  refine ⟨belowSetCells _ _ _ (h.below.trans (b6.mono h.below.size)) (by omega), by rw [hs]; exact Nat.le_trans h.size b6.size, (heap_setCells (by omega) _ _ _).trans h1', (heap_setCells (by omega) _ _ _).trans h2', ?_, ?_, ?_, by simpa using h.len, ?_⟩
  · exact (h.rowU.below b6).turn (by rw [hs]; exact Nat.le_refl _) fun ad e _ _ => heap_setCells (hpo ad e) _ _ _
  · rw [List.map_set]
    exact rowG_set (lenA rs) (h.rowA.below b6) (by simpa using hj) rfl (fun k hk => by
      obtain rfl : k = 0 := by omega
      simp [A8.cells]) (fun k => by rw [Nat.add_comm]; rfl)
  · intro ad e o
    cases e
    rw [World.frozen?_setCells]
    exact (b6.frozen (p := ⟨g, o, none⟩) hgw).trans (h.fz _ rfl o)
  · have hlen := h.at_.1
    refine ⟨by simpa using hlen, fun k hk hk' => ?_⟩
    have hk1 : k < rs.length := by simpa using hk
    by_cases e : j = k
    · subst e
      rw [List.getElem_set_self]
      refine ⟨(h.at_.2 j hj hk').1, hy.turn (by rw [hs]; exact Nat.le_refl _) fun b hb hb2 => ⟨heap_setCells (by omega) _ _ _, fun ad e => ?_, fun _ => by omega⟩⟩
      cases e
      show b ≠ g
      omega
    · rw [List.getElem_set_ne e]
      obtain ⟨e1, h1⟩ := h.at_.2 k hk1 hk'
      refine ⟨e1, h1.turn (by rw [hs]; exact b6.size) fun b hb hb2 => ⟨(heap_setCells (hb.1 _ rfl) _ _ _).trans (b6.block b hb2), hb.1, fun hkj => hb.2 (by omega)⟩⟩

end Go.Proofs.Ythmmplmppchfmaa

namespace Go.Proofs.Ythmmplmppchfmaa
open Go.RowKit Go.Sort

/-- Entities, one by one. -/
def AllEnt (w : World) (P : Nat → Prop) (es : List E4) (ps : List EntP) : Prop := es.length = ps.length ∧ ∀ j (h : j < es.length) (h' : j < ps.length), IsEnt w P es[j] ps[j]
theorem AllEnt.turn {w w' : World} {P P' : Nat → Prop} {es : List E4} {ps : List EntP} (hs : w.heap.size ≤ w'.heap.size) (hk : ∀ b, P b → b < w.heap.size → w'.heap[b]? = w.heap[b]? ∧ P' b) (h : AllEnt w P es ps) : AllEnt w' P' es ps :=
  ⟨h.1, fun j h1 h2 => (h.2 j h1 h2).turn hs hk⟩
theorem AllEnt.below {w w' : World} {P : Nat → Prop} {es : List E4} {ps : List EntP} (h : AllEnt w P es ps) (hb : Below w.heap.size w w') : AllEnt w' P es ps := h.turn hb.size fun b hp hl => ⟨hb.block b hl, hp⟩
theorem AllEnt.old {w : World} {P : Nat → Prop} {es : List E4} {ps : List EntP} (h : AllEnt w P es ps) : AllEnt w (fun b => b < w.heap.size) es ps := ⟨h.1, fun j h1 h2 => (h.2 j h1 h2).old⟩

/-- A slice of entities. -/
structure RowD where
  ao : Option Addr
  cap : Nat
  es : List E4
def allE (rows : List RowD) : List E4 := (rows.map RowD.es).flatten
theorem allE_take (rows : List RowD) (k : Nat) (h : k < rows.length) : allE (rows.take (k + 1)) = allE (rows.take k) ++ rows[k].es := by
  unfold allE
  rw [List.take_succ_eq_append_getElem h, List.map_append, List.flatten_append]
  simp
theorem allE_le (rows : List RowD) (k : Nat) : (allE (rows.take k)).length ≤ (allE rows).length := by
  have h : allE rows = allE (rows.take k) ++ allE (rows.drop k) := by
    unfold allE
    rw [← List.flatten_append, ← List.map_append, List.take_append_drop]
  rw [h, List.length_append]
  omega
/-- The slices, in memory. -/
def RowsAt (w : World) (vo : Option Addr) (rows : List RowD) : Prop :=
  ∀ k (h : k < rows.length), ∃ b off, vo = some ⟨b, off, none⟩ ∧ b < w.heap.size ∧ w.cell? ⟨b, off + k, none⟩ = some (.slice rows[k].ao rows[k].es.length rows[k].cap)

theorem sizeEnts (W : World) : (sizeOf (Try.prog.elem 25)).run Try.prog W = .ok 4 W := by kernel_rfl
theorem run_cutE_l (ao : Option Addr) (n cap k : Nat) (hk : k ≤ n) : ∃ ao', ao' = (if cap = k then ao else ao.map (·.add (k * 4))) ∧ ∀ W, (Instr.slice 25 (.slice ao n cap) (some (.int .i64 k)) none none).run Try.prog W = .ok (.slice ao' (n - k) (cap - k)) W := by
  refine ⟨_, rfl, fun W => ?_⟩
  rw [run_slice_l (P := Try.prog) (w := W) 25 ao n cap (by kernel_rfl) .i64 k (by omega) (by omega)]
  rw [sizeEnts]
  simp [sliced, Result.andThen]
theorem run_cutE_h (ao : Option Addr) (n cap k : Nat) (hk : k ≤ cap) (W : World) : (Instr.slice 25 (.slice ao n cap) none (some (.int .i64 k)) none).run Try.prog W = .ok (.slice ao k cap) W := by
  rw [run_slice_h (P := Try.prog) (w := W) 25 ao n cap (by kernel_rfl) .i64 k (by omega) (by omega)]
  rw [sizeEnts]
  have e0 : ∀ a : Addr, a.add 0 = a := fun a => by unfold Addr.add; simp
  cases ao <;> simp [sliced, Result.andThen, e0]
theorem szEntity : (Try.prog.info? 40).map (·.size) = some 4 := by kernel_rfl
theorem inEntity : (Try.prog.info? 40).map (fun i => (i.zero.isSome, i.size, i.bytes)) = some (true, 4, 80) := by kernel_rfl

/-- The room, s entities of which are laid. -/
structure RoomE (w wr : World) (G total off : Nat) (es : List E4) : Prop where
  below : Below w.heap.size w wr
  size : wr.heap.size = G + 1
  le : es.length ≤ total
  room : ∃ rest : List Value, rest.length = (total - es.length) * 4 ∧ wr.heap[G]? = some (.cells ((es.map E4.cells).flatten ++ rest).toArray 40 (0, 0))
  off : es.length < total → off = es.length * 4
set_option maxRecDepth 100000 in
theorem roomE_step {w wr : World} {G total off : Nat} {es es' : List E4} (h : RoomE w wr G total off es) (hG : G = w.heap.size) (ao : Option Addr) (cap : Nat) (hle : es.length + es'.length ≤ total) (hr : RowG w ao 4 (es'.map E4.cells)) :
    ∃ w' off', (Builtin.copy_ #[25, 25] 3 #[.slice (some ⟨G, off, none⟩) (total - es.length) (total - es.length), .slice ao es'.length cap]).run Try.prog wr = .ok (.int .i64 es'.length) w' ∧ RoomE w w' G total off' (es ++ es') ∧
      (∀ W, (Instr.slice 25 (.slice (some ⟨G, off, none⟩) (total - es.length) (total - es.length)) (some (.int .i64 es'.length)) none none).run Try.prog W = .ok (.slice (some ⟨G, off', none⟩) (total - (es ++ es').length) (total - (es ++ es').length)) W) := by
  have hlen : (es ++ es').length = es.length + es'.length := List.length_append
  obtain ⟨ao', hao, hsl⟩ := run_cutE_l (some ⟨G, off, none⟩) (total - es.length) (total - es.length) es'.length (by omega)
  rw [show total - es.length - es'.length = total - (es ++ es').length by omega] at hsl
  obtain ⟨rest, hrl, hblk⟩ := h.room
  by_cases h0 : es'.length = 0
  · obtain rfl : es' = [] := List.eq_nil_of_length_eq_zero h0
    have ha : ao' = some ⟨G, off, none⟩ := by
      rw [hao]
      split
      · rfl
      · simp [Addr.add]
    refine ⟨wr, off, ?_, ?_, ?_⟩
    · exact run_copy_noneN (P := Try.prog) wr 25 25 3 40 4 _ _ _ _ _ _ Try.underlying25 szEntity (by simp)
    · rw [List.append_nil]
      exact h
    · intro W
      rw [hsl W, ha]
  · have hoff := h.off (by omega)
    obtain ⟨b, o, rfl, hb, _⟩ := hr 0 (by simp; omega)
    have hfl := flatG_len (es.map E4.cells) (lenE _)
    have hfl' := flatG_len (es'.map E4.cells) (lenE _)
    rw [List.length_map] at hfl hfl'
    have hcp := run_copy_rowN (P := Try.prog) wr 25 25 3 40 4 es'.length G off (total - es.length) (total - es.length) ⟨b, o, none⟩ es'.length cap _ 40 (es'.map E4.cells).flatten Try.underlying25 szEntity hblk (by show es'.length = min es'.length (total - es.length); omega) hfl' (row_flat (lenE _) (hr.below h.below)) (by simp only [List.size_toArray, List.length_append]; rw [hfl, hfl', hrl, hoff]; omega) (oneE _)
    refine ⟨_, (if total - es.length = es'.length then off else off + es'.length * 4), hcp, ⟨?_, by simpa [World.setRow] using h.size, by omega, ?_, ?_⟩, ?_⟩
    · exact h.below.trans ⟨rfl, rfl, rfl, by simp [World.setRow], fun k hk => setRow_other wr G k _ (by omega)⟩
    · refine ⟨rest.drop (es'.length * 4), by rw [List.length_drop, hrl, hlen]; omega, ?_⟩
      rw [setRow_heap wr G _ _ 40 _ hblk, hoff, List.map_append, List.flatten_append]
      congr 3
      have e1 : ((es.map E4.cells).flatten ++ rest).take (es.length * 4) = (es.map E4.cells).flatten := by rw [← hfl]; simp
      have e2 : ((es.map E4.cells).flatten ++ rest).drop (es.length * 4 + (es'.map E4.cells).flatten.length) = rest.drop (es'.length * 4) := by
        rw [← hfl, List.drop_append, hfl', List.drop_eq_nil_of_le (by omega), List.nil_append]
        congr 1
        omega
      simp only [e1, e2]
    · intro hlt
      rw [if_neg (by omega), hoff, hlen]
      omega
    · intro W
      rw [hsl W, hao]
      split
      · rfl
      · simp [Addr.add]
        omega

/-- The row whose entities are copied one by one. -/
structure DeepE (w wr : World) (G : Nat) (es : List E4) (ps : List EntP) : Prop where
  below : Below w.heap.size w wr
  lt : G < wr.heap.size
  row : RowG wr (some ⟨G, 0, none⟩) 4 (es.map E4.cells)
  fz : ∀ o, wr.frozen? ⟨G, o, none⟩ = false
  all : AllEnt wr (fun b => b ≠ G) es ps
theorem deepE_step {w wr w6 : World} {G j W5 : Nat} {es : List E4} {ps : List EntP} {e' : E4} (h : DeepE w wr G es ps) (hG : w.heap.size ≤ G) (hj : j < es.length) (hj' : j < ps.length) (hW : G < W5) (b6 : Below wr.heap.size wr w6) (he : IsEnt w6 (fun b => W5 ≤ b) e' ps[j]) :
    DeepE w (w6.setCells G (j * 4) e'.cells) G (es.set j e') ps := by
  have hs : (w6.setCells G (j * 4) e'.cells).heap.size = w6.heap.size := size_setCells _ _ _
  refine ⟨belowSetCells _ _ _ (h.below.trans (b6.mono h.below.size)) hG, by rw [hs]; exact Nat.lt_of_lt_of_le h.lt b6.size, ?_, fun o => ?_, by simpa using h.all.1, fun k hk hk' => ?_⟩
  · rw [List.map_set]
    have := rowG_set (vs := e'.cells) (x := e'.cells) (c := 0) (lenE es) (h.row.below b6) (j := j) (by simpa using hj) rfl (fun k hk => absurd hk (Nat.not_lt_zero _)) (fun k => by rw [Nat.zero_add])
    rwa [Nat.add_zero] at this
  · rw [World.frozen?_setCells]
    exact (b6.frozen (p := ⟨G, o, none⟩) h.lt).trans (h.fz o)
  · have hk1 : k < es.length := by simpa using hk
    by_cases e : j = k
    · subst e
      rw [List.getElem_set_self]
      exact he.turn (by rw [hs]; exact Nat.le_refl _) fun b hb _ => ⟨heap_setCells (by omega) _ _ _, by omega⟩
    · rw [List.getElem_set_ne e]
      exact (h.all.2 k hk1 hk').turn (by rw [hs]; exact b6.size) fun b hb hb2 => ⟨(heap_setCells hb _ _ _).trans (b6.block b hb2), hb⟩

/-- A new row of entities. -/
def RowPost (w : World) (ps : List EntP) (n : Nat) (x : Ending) (w' : World) : Prop :=
  Below w.heap.size w w' ∧ ∃ (G : Nat) (es : List E4), x = .returned (.slice (some ⟨G, 0, none⟩) n n) ∧ RowG w' (some ⟨G, 0, none⟩) 4 (es.map E4.cells) ∧ AllEnt w' (fun _ => True) es ps ∧ w.heap.size ≤ G

end Go.Proofs.Ythmmplmppchfmaa
