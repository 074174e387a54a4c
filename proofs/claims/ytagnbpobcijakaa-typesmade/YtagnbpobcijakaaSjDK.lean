/-
 Rows of texts, of fields, held against one another: slices.Equal, chancelref10.texts.
 schema.sameKind, sameAction, slices.EqualFunc of them, schema.Same: what they return.
 chancelref10.in, Fits: what they return.
 chancelref10.Same: what it returns.
 chancellaw10.SchemaAsks: what is told of a name; a call's answer laid into a place of its own (no walk in it).
 An append of a whole row of texts, at the builtin.
 chancellaw10.SchemaAsks: schemas of one kind and one action; a type laid into a place of its own (no walk in it).
-/
import Derived.Test.YtagnbpobcijakaaSjAC
import Derived.BigGuardPart
import Derived.Test.YtagnbpobcijakaaSgD
import Derived.Deep.Upon
namespace Go.Proofs.Ytagnbpobcijakaa
open Go.RowKit Go.Sort

end Go.Proofs.Ytagnbpobcijakaa

namespace Go.Proofs.Ytagnbpobcijakaa
open Go.RowKit Go.Sort

end Go.Proofs.Ytagnbpobcijakaa

namespace Go.Proofs.Ytagnbpobcijakaa
open Go.RowKit Go.Sort

/-- What is found of an action's name, in short. -/
def FitsOfS (s : SP) (n : ByteArray) (is : Bool) (A : AP) : Prop := (is = true ∧ actOf s n = some A) ∨ (is = false ∧ actOf s n = none)
end Go.Proofs.Ytagnbpobcijakaa

namespace Go.Proofs.Ytagnbpobcijakaa
open Go.RowKit Go.Sort

/-- Two places are made, and each is filled: what has been done of it. -/
structure PP (w0 : World) (T : TypeId) (sa sb : Nat) (ca cb : Array Value) (L : Nat → Bool) (a' : Act) (w' : World) : Prop where
 below : Below w0.heap.size w0 w'
 A : L 10 = true → ∃ V, a'.tmps.getD sa undef = .pointer (some ⟨V, 0, none⟩) ∧ w0.heap.size ≤ V ∧ V < w'.heap.size ∧ w'.heap[V]? = some (.cells (if L 12 = true then ca else #[.string ⟨#[]⟩, .slice none 0 0, .slice none 0 0]) T (0, 0))
 B : L 11 = true → ∃ V, a'.tmps.getD sb undef = .pointer (some ⟨V, 0, none⟩) ∧ w0.heap.size ≤ V ∧ V < w'.heap.size ∧ w'.heap[V]? = some (.cells (if L 13 = true then cb else #[.string ⟨#[]⟩, .slice none 0 0, .slice none 0 0]) T (0, 0))
 ne : L 10 = true → L 11 = true → a'.tmps.getD sa undef ≠ a'.tmps.getD sb undef
 oA : L 12 = true → L 10 = true
 oB : L 13 = true → L 11 = true
section
variable {w0 : World} {T : TypeId} {sa sb : Nat} {ca cb : Array Value} {L : Nat → Bool} {a' : Act} {w' w'' : World}
theorem PP.start (a : Act) (w0 : World) : PP w0 T sa sb ca cb (fun _ => false) a w0.drew := ⟨(Below.refl _ _).drew, fun h => (by cases h), fun h => (by cases h), fun h => (by cases h), fun h => (by cases h), fun h => (by cases h)⟩
theorem PP.step (h : PP w0 T sa sb ca cb L a' w') (hb : Below w'.heap.size w' w'') (i d : Nat) (v : Value) (h10 : i ≠ 10) (h11 : i ≠ 11) (h12 : i ≠ 12) (h13 : i ≠ 13) (hda : d ≠ sa) (hdb : d ≠ sb) : PP w0 T sa sb ca cb (fun j => decide (j = i) || L j) (a'.put (some d) v) w'' := by
 have e10 : (decide (10 = i) || L 10) = L 10 := by simp [Ne.symm h10]
 have e11 : (decide (11 = i) || L 11) = L 11 := by simp [Ne.symm h11]
 have e12 : (decide (12 = i) || L 12) = L 12 := by simp [Ne.symm h12]
 have e13 : (decide (13 = i) || L 13) = L 13 := by simp [Ne.symm h13]
 refine ⟨h.below.trans (hb.mono h.below.size), ?_, ?_, ?_, ?_, ?_⟩ <;> simp only [e10, e11, e12, e13, put_other _ _ _ _ hda, put_other _ _ _ _ hdb]
 ·intro y
  obtain ⟨V, x1, x2, x3, x4⟩ := h.A y
  exact ⟨V, x1, x2, Nat.lt_of_lt_of_le x3 hb.size, kept_of_below hb x4⟩
 ·intro y
  obtain ⟨V, x1, x2, x3, x4⟩ := h.B y
  exact ⟨V, x1, x2, Nat.lt_of_lt_of_le x3 hb.size, kept_of_below hb x4⟩
 ·exact h.ne
 ·exact h.oA
 ·exact h.oB
theorem set3_at (w : World) (V : Nat) (a b c : Value) (h : w.heap[V]? = some (.cells #[.string ⟨#[]⟩, .slice none 0 0, .slice none 0 0] T (0, 0))) : (((w.setCell ⟨V, 0, none⟩ a).setCell ⟨V, 1, none⟩ b).setCell ⟨V, 2, none⟩ c).heap[V]? = some (.cells #[a, b, c] T (0, 0)) := by
 have h1 := heap_setCell_same w V 0 _ _ a h
 have h2 := heap_setCell_same _ V 1 _ _ b h1
 exact heap_setCell_same _ V 2 _ _ c h2
theorem set3_ne (w : World) (V : Nat) (a b c : Value) (k : Nat) (hk : k ≠ V) : (((w.setCell ⟨V, 0, none⟩ a).setCell ⟨V, 1, none⟩ b).setCell ⟨V, 2, none⟩ c).heap[k]? = w.heap[k]? := (Below.heap_setCell _ ⟨V, 2, none⟩ _ k hk).trans ((Below.heap_setCell _ ⟨V, 1, none⟩ _ k hk).trans (Below.heap_setCell _ ⟨V, 0, none⟩ _ k hk))
end
def ppSp (S1 S2 fld : Nat) (xr yr : Value) (i gx o gy o' : Nat) (xv yv : Value) : Nat → Value → World → Prop
 | 0, v, _ => v = .pointer (some ⟨S1, fld, none⟩)
 | 1, v, _ => v = xr
 | 2, v, _ => v = .int .i64 i
 | 3, v, _ => v = .pointer (some ⟨gx, o, none⟩)
 | 4, v, _ => v = xv
 | 5, v, _ => v = .pointer (some ⟨S2, fld, none⟩)
 | 6, v, _ => v = yr
 | 7, v, _ => v = .int .i64 i
 | 8, v, _ => v = .pointer (some ⟨gy, o', none⟩)
 | 9, v, _ => v = yv
 | _ + 10, _, _ => True
end Go.Proofs.Ytagnbpobcijakaa

namespace Go.Proofs.Ytagnbpobcijakaa
open Go.RowKit Go.Sort

def kOf (s : SP) (n : ByteArray) : KP := (s.ks.find? fun k => decide (k.nm = n)).getD ⟨⟨#[]⟩, [], []⟩
def aOf (s : SP) (n : ByteArray) : AP := (s.ac.find? fun k => decide (k.nm = n)).getD ⟨⟨#[]⟩, [], []⟩
theorem find_first {α : Type} (f : α → ByteArray) (n : ByteArray) : ∀ (l : List α) (i : Nat) (hi : i < l.length), f l[i] = n → (∀ j (hj : j < l.length), j < i → f l[j] ≠ n) → l.find? (fun k => decide (f k = n)) = some l[i]
 | [], i, hi, _, _ => absurd hi (Nat.not_lt_zero _)
 | a :: t, 0, _, h, _ => by
  have h : f a = n := h
  simp [h]
 | a :: t, i + 1, hi, h, hl => by
  have h0 : f a ≠ n := hl 0 (by simp) (by omega)
  rw [List.find?_cons_of_neg (by simp [h0])]
  exact find_first f n t i (by simpa using hi) h fun j hj hji => hl (j + 1) (by simpa using hj) (by omega)
theorem find_noneK {α : Type} (f : α → ByteArray) (n : ByteArray) (l : List α) (h : n ∉ l.map f) : l.find? (fun k => decide (f k = n)) = none := by
 rw [List.find?_eq_none]
 intro x hx he
 exact h (List.mem_map.2 ⟨x, hx, of_decide_eq_true he⟩)
def YV (y : N3) : Value := .agg #[.string y.nm, .slice y.ao y.al y.ac, .slice y.bo y.bl y.bc]
theorem found_k {s : SP} {n : ByteArray} {e : Ending} {w : World} (h : FoundKT s n e w) : ∃ y : N3, e = .returned (.tuple #[.agg #[.string y.nm, .slice y.ao y.al y.ac, .slice y.bo y.bl y.bc], .bool (!noneB s.names n)]) ∧ IsKT w y (kOf s n) := by
 rcases h with ⟨h1, h2⟩ | ⟨i, hi, x, h1, h3, h4⟩
 ·refine ⟨zN3, by rw [noneB_true h1]; exact h2, ?_⟩
  have : kOf s n = ⟨⟨#[]⟩, [], []⟩ := by unfold kOf; rw [find_noneK KP.nm n s.ks h1]; rfl
  rw [this]
  exact ⟨⟨rfl, rfl, rowG_nil _ _ _, rfl, rowG_nil _ _ _⟩, fun _ _ h => absurd rfl h, fun _ _ h => absurd rfl h⟩
 ·refine ⟨x, by rw [place_is h1]; exact h4, ?_⟩
  rcases h1 with ⟨h1, _⟩ | ⟨j, ej, hj, e1, e2⟩
  ·omega
  ·have : i = j := by omega
   subst this
   have hf := find_first KP.nm n s.ks i hi (by simpa [SP.names] using e1) (fun j hj hji => by have := e2 j (by simpa [SP.names] using hj) hji; simpa [SP.names] using this)
   have : kOf s n = s.ks[i] := by unfold kOf; rw [hf]; rfl
   rw [this]
   exact h3
theorem found_a {s : SP} {n : ByteArray} {e : Ending} {w : World} (h : FoundAT s n e w) : ∃ y : N3, e = .returned (.tuple #[.agg #[.string y.nm, .slice y.ao y.al y.ac, .slice y.bo y.bl y.bc], .bool (!noneB s.acts n)]) ∧ IsAT w y (aOf s n) := by
 rcases h with ⟨h1, h2⟩ | ⟨i, hi, x, h1, h3, h4⟩
 ·refine ⟨zN3, by rw [noneB_true h1]; exact h2, ?_⟩
  have : aOf s n = ⟨⟨#[]⟩, [], []⟩ := by unfold aOf; rw [find_noneK AP.nm n s.ac h1]; rfl
  rw [this]
  exact ⟨⟨rfl, rfl, rowG_nil _ _ _, rfl, rowG_nil _ _ _⟩, fun _ _ h => absurd rfl h, fun _ _ h => absurd rfl h⟩
 ·refine ⟨x, by rw [place_is h1]; exact h4, ?_⟩
  rcases h1 with ⟨h1, _⟩ | ⟨j, ej, hj, e1, e2⟩
  ·omega
  ·have : i = j := by omega
   subst this
   have hf := find_first AP.nm n s.ac i hi (by simpa [SP.acts] using e1) (fun j hj hji => by have := e2 j (by simpa [SP.acts] using hj) hji; simpa [SP.acts] using this)
   have : aOf s n = s.ac[i] := by unfold aOf; rw [hf]; rfl
   rw [this]
   exact h3
/-- A place is made, and an answer laid into it: what has been done of it. -/
structure GK (s : Nat) (w0 : World) (T : TypeId) (Q : World → N3 → Prop) (L : Nat → Bool) (a' : Act) (w' : World) : Prop where
 below : Below w0.heap.size w0 w'
 made : L 9 = true → L 10 = false → ∃ V, a'.tmps.getD s undef = .pointer (some ⟨V, 0, none⟩) ∧ w0.heap.size ≤ V ∧ w'.heap[V]? = some (.cells #[.string ⟨#[]⟩, .slice none 0 0, .slice none 0 0] T (0, 0))
 full : L 10 = true → ∃ (V : Nat) (y : N3), a'.tmps.getD s undef = .pointer (some ⟨V, 0, none⟩) ∧ w0.heap.size ≤ V ∧ w'.heap[V]? = some (.cells #[.string y.nm, .slice y.ao y.al y.ac, .slice y.bo y.bl y.bc] T (0, 0)) ∧ Q w' y
 ord : L 10 = true → L 9 = true
section
variable {s : Nat} {w0 : World} {T : TypeId} {Q : World → N3 → Prop} {L : Nat → Bool} {a' : Act} {w' w'' : World}
theorem GK.start (a : Act) (w0 : World) : GK s w0 T Q (fun _ => false) a w0.drew := ⟨(Below.refl _ _).drew, fun h => (by cases h), fun h => (by cases h), fun h => (by cases h)⟩
theorem GK.step (hQ : ∀ w w' y, KeepSF w w' → Q w y → Q w' y) (h : GK s w0 T Q L a' w') (hb : Below w'.heap.size w' w'') (i d : Nat) (v : Value) (h9 : i ≠ 9) (h10 : i ≠ 10) (hd : d ≠ s) : GK s w0 T Q (fun j => decide (j = i) || L j) (a'.put (some d) v) w'' := by
 have e9 : (decide (9 = i) || L 9) = L 9 := by simp [Ne.symm h9]
 have e10 : (decide (10 = i) || L 10) = L 10 := by simp [Ne.symm h10]
 refine ⟨h.below.trans (hb.mono h.below.size), ?_, ?_, ?_⟩ <;> simp only [e9, e10, put_other _ _ _ _ hd]
 ·intro x y
  obtain ⟨V, x1, x2, x3⟩ := h.made x y
  exact ⟨V, x1, x2, kept_of_below hb x3⟩
 ·intro x
  obtain ⟨V, y, x1, x2, x3, x4⟩ := h.full x
  exact ⟨V, y, x1, x2, kept_of_below hb x3, hQ _ _ _ (.of_below hb) x4⟩
 ·exact h.ord
theorem GK.alloc (h : GK s w0 T Q L a' w') (hL : L 9 = false) (hs : s < a'.tmps.size) : GK s w0 T Q (fun j => decide (j = 9) || L j) (a'.put (some s) (.pointer (some ⟨w'.heap.size, 0, none⟩))) (w'.alloc (.cells #[.string ⟨#[]⟩, .slice none 0 0, .slice none 0 0] T)) := by
 have e10 : (decide (10 = 9) || L 10) = L 10 := by simp
 have no : L 10 = true → False := fun x => by
  have := h.ord x
  rw [hL] at this
  cases this
 refine ⟨h.below.alloc h.below.size _, fun _ _ => ⟨w'.heap.size, put_same _ _ _ hs, h.below.size, alloc_heap _ _⟩, fun x => (no (e10.symm.trans x)).elim, fun x => (no (e10.symm.trans x)).elim⟩
theorem GK.store (hT : T = 80 ∨ T = 83) (hQ : ∀ w w' y, KeepSF w w' → Q w y → Q w' y) (h : GK s w0 T Q L a' w') (hA : L 9 = true) (hL : L 10 = false) (y : N3) (hy : Q w' y) :
  ∃ V, a'.tmps.getD s undef = .pointer (some ⟨V, 0, none⟩) ∧ w'.heap[V]? = some (.cells #[.string ⟨#[]⟩, .slice none 0 0, .slice none 0 0] T (0, 0)) ∧ GK s w0 T Q (fun j => decide (j = 10) || L j) a' (((w'.setCell ⟨V, 0, none⟩ (.string y.nm)).setCell ⟨V, 1, none⟩ (.slice y.ao y.al y.ac)).setCell ⟨V, 2, none⟩ (.slice y.bo y.bl y.bc)) ∧ KeepSF w' (((w'.setCell ⟨V, 0, none⟩ (.string y.nm)).setCell ⟨V, 1, none⟩ (.slice y.ao y.al y.ac)).setCell ⟨V, 2, none⟩ (.slice y.bo y.bl y.bc)) := by
 obtain ⟨V, x1, x2, x3⟩ := h.made hA hL
 have kf : KeepSF w' (((w'.setCell ⟨V, 0, none⟩ (.string y.nm)).setCell ⟨V, 1, none⟩ (.slice y.ao y.al y.ac)).setCell ⟨V, 2, none⟩ (.slice y.bo y.bl y.bc)) := ⟨by simp, fun b cur T' fz hT' hb => (set3_ne w' V _ _ _ b (fun e => by
  rw [e] at hb
  have := not_typed hb x3
  rcases hT with hT | hT
  ·exact sf_ne hT' (.inr (.inl rfl)) (this.trans hT)
  ·exact sf_ne hT' (.inr (.inr rfl)) (this.trans hT))).trans hb⟩
 refine ⟨V, x1, x3, ⟨((h.below.setCell (p := ⟨V, 0, none⟩) x2 _).setCell (p := ⟨V, 1, none⟩) x2 _).setCell (p := ⟨V, 2, none⟩) x2 _, fun _ q => ?_, fun _ => ⟨V, y, x1, x2, set3_at w' V _ _ _ x3, hQ _ _ _ kf hy⟩, fun _ => by simp [hA]⟩, kf⟩
 simp at q
end
def skSp (sv rv : Value) (i b off : Nat) (x : ByteArray) (is : Bool) (Q : World → N3 → Prop) : Nat → Value → World → Prop
 | 0, v, _ => v = sv
 | 1, v, _ => v = rv
 | 2, v, _ => v = .int .i64 i
 | 3, v, _ => v = .pointer (some ⟨b, off + i, none⟩)
 | 4, v, _ => v = .string x
 | 5, v, w => ∃ y : N3, v = .tuple #[.agg #[.string y.nm, .slice y.ao y.al y.ac, .slice y.bo y.bl y.bc], .bool is] ∧ Q w y
 | 6, v, w => ∃ y : N3, v = .tuple #[.agg #[.string y.nm, .slice y.ao y.al y.ac, .slice y.bo y.bl y.bc], .bool is] ∧ Q w y
 | 7, v, w => ∃ y : N3, v = .agg #[.string y.nm, .slice y.ao y.al y.ac, .slice y.bo y.bl y.bc] ∧ Q w y
 | 8, v, _ => v = .bool is
 | 11, v, _ => v = .bool is
 | 9, _, _ => True
 | 10, _, _ => True
 | _ + 12, _, _ => True
end Go.Proofs.Ytagnbpobcijakaa

namespace Go.Proofs.Ytagnbpobcijakaa
open Go.RowKit Go.Sort

def nine9 : List ByteArray := [⟨#[85, 115, 101, 114]⟩, ⟨#[71, 114, 111, 117, 112]⟩, ⟨#[68, 111, 99]⟩, ⟨#[84, 101, 97, 109]⟩, ⟨#[114, 101, 97, 100]⟩, ⟨#[111, 119, 110]⟩, ⟨#[97]⟩, ⟨#[97, 103, 101]⟩, ⟨#[]⟩]
end Go.Proofs.Ytagnbpobcijakaa

namespace Go.Proofs.Ytagnbpobcijakaa
open Go.RowKit Go.Sort

theorem alloc4 (w : World) (o1 o2 o3 o4 : Obj) : Below w.heap.size w ((((w.alloc o1).alloc o2).alloc o3).alloc o4) ∧ w.heap.size + 4 ≤ ((((w.alloc o1).alloc o2).alloc o3).alloc o4).heap.size ∧ ((((w.alloc o1).alloc o2).alloc o3).alloc o4).heap[w.heap.size]? = some o1 ∧ ((((w.alloc o1).alloc o2).alloc o3).alloc o4).heap[w.heap.size + 1]? = some o2 ∧ ((((w.alloc o1).alloc o2).alloc o3).alloc o4).heap[w.heap.size + 2]? = some o3 ∧ ((((w.alloc o1).alloc o2).alloc o3).alloc o4).heap[w.heap.size + 3]? = some o4 := by
 obtain ⟨b3, z3, h1, h2, h3⟩ := alloc3 w o1 o2 o3
 have b4 := blw1 (((w.alloc o1).alloc o2).alloc o3) o4
 have h4 := alloc_heap (((w.alloc o1).alloc o2).alloc o3) o4
 rw [z3] at h4
 exact ⟨b3.trans (b4.mono b3.size), by simp, kept_of_below b4 h1, kept_of_below b4 h2, kept_of_below b4 h3, h4⟩
theorem kOf_mem (s : SP) (n : ByteArray) : kOf s n ∈ s.ks ∨ kOf s n = ⟨⟨#[]⟩, [], []⟩ := by
 unfold kOf
 cases h : s.ks.find? fun k => decide (k.nm = n) with
 | none => exact .inr rfl
 | some k => exact .inl (List.mem_of_find?_eq_some h)
/-- A place is made, and a type laid into it. -/
structure GT (s : Nat) (w0 : World) (fk fo : Int) (tn : ByteArray) (L : Nat → Bool) (a' : Act) (w' : World) : Prop where
 below : Below w0.heap.size w0 w'
 made : L 13 = true → L 14 = false → ∃ V, a'.tmps.getD s undef = .pointer (some ⟨V, 0, none⟩) ∧ w0.heap.size ≤ V ∧ w'.heap[V]? = some (.cells #[.int .i64 0, .int .i64 0, .string ⟨#[]⟩] 54 (0, 0))
 full : L 14 = true → ∃ V, a'.tmps.getD s undef = .pointer (some ⟨V, 0, none⟩) ∧ w0.heap.size ≤ V ∧ w'.heap[V]? = some (.cells #[.int .i64 fk, .int .i64 fo, .string tn] 54 (0, 0))
 ord : L 14 = true → L 13 = true
section
variable {s : Nat} {w0 : World} {fk fo : Int} {tn : ByteArray} {L : Nat → Bool} {a' : Act} {w' w'' : World}
theorem GT.start (a : Act) (w0 : World) : GT s w0 fk fo tn (fun _ => false) a w0.drew := ⟨(Below.refl _ _).drew, fun h => (by cases h), fun h => (by cases h), fun h => (by cases h)⟩
theorem GT.step (h : GT s w0 fk fo tn L a' w') (hb : Below w'.heap.size w' w'') (i d : Nat) (v : Value) (h9 : i ≠ 13) (h10 : i ≠ 14) (hd : d ≠ s) : GT s w0 fk fo tn (fun j => decide (j = i) || L j) (a'.put (some d) v) w'' := by
 have e9 : (decide (13 = i) || L 13) = L 13 := by simp [Ne.symm h9]
 have e10 : (decide (14 = i) || L 14) = L 14 := by simp [Ne.symm h10]
 refine ⟨h.below.trans (hb.mono h.below.size), ?_, ?_, ?_⟩ <;> simp only [e9, e10, put_other _ _ _ _ hd]
 ·intro x y
  obtain ⟨V, x1, x2, x3⟩ := h.made x y
  exact ⟨V, x1, x2, kept_of_below hb x3⟩
 ·intro x
  obtain ⟨V, x1, x2, x3⟩ := h.full x
  exact ⟨V, x1, x2, kept_of_below hb x3⟩
 ·exact h.ord
theorem GT.alloc (h : GT s w0 fk fo tn L a' w') (hL : L 13 = false) (hs : s < a'.tmps.size) : GT s w0 fk fo tn (fun j => decide (j = 13) || L j) (a'.put (some s) (.pointer (some ⟨w'.heap.size, 0, none⟩))) (w'.alloc (.cells #[.int .i64 0, .int .i64 0, .string ⟨#[]⟩] 54)) := by
 have e10 : (decide (14 = 13) || L 14) = L 14 := by simp
 have no : L 14 = true → False := fun x => by
  have := h.ord x
  rw [hL] at this
  cases this
 exact ⟨h.below.alloc h.below.size _, fun _ _ => ⟨w'.heap.size, put_same _ _ _ hs, h.below.size, alloc_heap _ _⟩, fun x => (no (e10.symm.trans x)).elim, fun x => (no (e10.symm.trans x)).elim⟩
theorem GT.store (h : GT s w0 fk fo tn L a' w') (hA : L 13 = true) (hL : L 14 = false) : ∃ V, a'.tmps.getD s undef = .pointer (some ⟨V, 0, none⟩) ∧ w'.heap[V]? = some (.cells #[.int .i64 0, .int .i64 0, .string ⟨#[]⟩] 54 (0, 0)) ∧ GT s w0 fk fo tn (fun j => decide (j = 14) || L j) a' (((w'.setCell ⟨V, 0, none⟩ (.int .i64 fk)).setCell ⟨V, 1, none⟩ (.int .i64 fo)).setCell ⟨V, 2, none⟩ (.string tn)) := by
 obtain ⟨V, x1, x2, x3⟩ := h.made hA hL
 have s1 := heap_setCell_same w' V 0 _ _ (.int .i64 fk) x3
 have s2 := heap_setCell_same _ V 1 _ _ (.int .i64 fo) s1
 have s3 := heap_setCell_same _ V 2 _ _ (.string tn) s2
 refine ⟨V, x1, x3, ((h.below.setCell (p := ⟨V, 0, none⟩) x2 _).setCell (p := ⟨V, 1, none⟩) x2 _).setCell (p := ⟨V, 2, none⟩) x2 _, fun _ q => ?_, fun _ => ⟨V, x1, x2, s3⟩, fun _ => by simp [hA]⟩
 simp at q
end
def stSp (S : Nat) (rw_ : Value) (j kb ko : Nat) (kv av : Value) (i g off : Nat) (x : ByteArray) (tv ty : Value) (b : Bool) : Nat → Value → World → Prop
 | 0, v, _ => v = .pointer (some ⟨S, 0, none⟩)
 | 1, v, _ => v = rw_
 | 2, v, _ => v = .int .i64 j
 | 3, v, _ => v = .pointer (some ⟨kb, ko + j * 3, none⟩)
 | 4, v, _ => v = kv
 | 5, v, _ => v = av
 | 6, v, _ => v = .int .i64 i
 | 7, v, _ => v = .pointer (some ⟨g, off + i, none⟩)
 | 8, v, _ => v = .string x
 | 9, v, _ => v = tv
 | 10, v, _ => v = tv
 | 11, v, _ => v = ty
 | 12, v, _ => v = .bool b
 | 13, _, _ => True
 | 14, _, _ => True
 | 15, v, _ => v = .bool b
 | _ + 16, _, _ => True
end Go.Proofs.Ytagnbpobcijakaa
