/-
  chancellaw10.those, kind, Good: what they say, as plain data; a place made and filled in a region (no walk in it).
-/
import Derived.Test.YtagnbpobcijakaaSfA
import Derived.Test.YtagnbpobcijakaaSdA
import Derived.Test.YtagnbpobcijakaaVeN
namespace Go.Proofs.Ytagnbpobcijakaa
open Go.RowKit Go.Sort

def thoseL (n l : List ByteArray) : List ByteArray := l.filter fun x => !noneB n x
theorem thoseL_next (n l : List ByteArray) (i : Nat) (h : i < l.length) : thoseL n (l.take (i + 1)) = thoseL n (l.take i) ++ (if noneB n l[i] then [] else [l[i]]) := by
  unfold thoseL
  rw [List.take_succ_eq_append_getElem h, List.filter_append]
  cases e : noneB n l[i] <;> simp [e]
theorem thoseL_len (n l : List ByteArray) : (thoseL n l).length ≤ l.length := List.length_filter_le _ _

/-- A kind's place is made and filled: what has been done of it. -/
def KR (s i1 i2 : Nat) (w0 : World) (L : Nat → Bool) (a' : Act) (w' : World) : Prop :=
  Below w0.heap.size w0 w' ∧ (L i1 = true → L i2 = false → ∃ V, a'.tmps.getD s undef = .pointer (some ⟨V, 0, none⟩) ∧ w0.heap.size ≤ V ∧ w'.heap[V]? = some (.cells #[.string ⟨#[]⟩, .slice none 0 0, .slice none 0 0] 80 (0, 0))) ∧ (L i2 = true → L i1 = true)
theorem KR.start (s i1 i2 : Nat) (a : Act) (w0 : World) : KR s i1 i2 w0 (fun _ => false) a w0.drew := ⟨(Below.refl _ _).drew, fun h => (by cases h), fun h => (by cases h)⟩
theorem KR.step {s i1 i2 : Nat} {w0 w' w'' : World} {L : Nat → Bool} {a' : Act} (h : KR s i1 i2 w0 L a' w') (hb : Below w'.heap.size w' w'') (i d : Nat) (v : Value) (hi1 : i ≠ i1) (hi2 : i ≠ i2) (hd : d ≠ s) : KR s i1 i2 w0 (fun j => decide (j = i) || L j) (a'.put (some d) v) w'' := by
  obtain ⟨h1, h2, h3⟩ := h
  have e1 : (decide (i1 = i) || L i1) = L i1 := by simp [Ne.symm hi1]
  have e2 : (decide (i2 = i) || L i2) = L i2 := by simp [Ne.symm hi2]
  refine ⟨h1.trans (hb.mono h1.size), fun x y => ?_, fun x => e1.trans (h3 (e2.symm.trans x))⟩
  obtain ⟨V, x1, x2, x3⟩ := h2 (e1.symm.trans x) (e2.symm.trans y)
  exact ⟨V, (put_other _ _ _ _ hd).trans x1, x2, kept_of_below hb x3⟩
theorem KR.alloc {s i1 i2 : Nat} {w0 w' : World} {L : Nat → Bool} {a' : Act} (h : KR s i1 i2 w0 L a' w') (hL : L i1 = false) (hs : s < a'.tmps.size) (hi : i2 ≠ i1) : KR s i1 i2 w0 (fun j => decide (j = i1) || L j) (a'.put (some s) (.pointer (some ⟨w'.heap.size, 0, none⟩))) (w'.alloc (.cells #[.string ⟨#[]⟩, .slice none 0 0, .slice none 0 0] 80)) := by
  obtain ⟨h1, h2, h3⟩ := h
  refine ⟨h1.alloc h1.size _, fun _ _ => ⟨w'.heap.size, put_same _ _ _ hs, h1.size, alloc_heap _ _⟩, fun x => ?_⟩
  have e2 : (decide (i2 = i1) || L i2) = L i2 := by simp [hi]
  have := h3 (e2.symm.trans x)
  rw [hL] at this
  cases this
theorem KR.store {s i1 i2 : Nat} {w0 w' : World} {L : Nat → Bool} {a' : Act} (h : KR s i1 i2 w0 L a' w') (hL : L i1 = true) (hL2 : L i2 = false) (hi : i1 ≠ i2) (x y z : Value) :
    ∃ V, a'.tmps.getD s undef = .pointer (some ⟨V, 0, none⟩) ∧ w'.heap[V]? = some (.cells #[.string ⟨#[]⟩, .slice none 0 0, .slice none 0 0] 80 (0, 0)) ∧ KR s i1 i2 w0 (fun j => decide (j = i2) || L j) a' (((w'.setCell ⟨V, 0, none⟩ x).setCell ⟨V, 1, none⟩ y).setCell ⟨V, 2, none⟩ z) := by
  obtain ⟨h1, h2, h3⟩ := h
  obtain ⟨V, x1, x2, x3⟩ := h2 hL hL2
  refine ⟨V, x1, x3, ((h1.setCell (p := ⟨V, 0, none⟩) x2 _).setCell (p := ⟨V, 1, none⟩) x2 _).setCell (p := ⟨V, 2, none⟩) x2 _, fun _ y => ?_, fun _ => ?_⟩
  · simp at y
  · have : (decide (i1 = i2) || L i1) = L i1 := by simp [hi]
    exact this.trans hL
/-- What the operations of the region answer that asks for a name. -/
def thSp (sv rv : Value) (i b off : Nat) (x : ByteArray) (is : Bool) : Nat → Value → World → Prop
  | 0, v, _ => v = sv
  | 1, v, _ => v = rv
  | 2, v, _ => v = .int .i64 i
  | 3, v, _ => v = .pointer (some ⟨b, off + i, none⟩)
  | 4, v, _ => v = .string x
  | 5, v, _ => ∃ y : N3, v = .tuple #[.agg #[.string y.nm, .slice y.ao y.al y.ac, .slice y.bo y.bl y.bc], .bool is]
  | 6, v, _ => ∃ y : N3, v = .tuple #[.agg #[.string y.nm, .slice y.ao y.al y.ac, .slice y.bo y.bl y.bc], .bool is]
  | 7, v, _ => ∃ y : N3, v = .agg #[.string y.nm, .slice y.ao y.al y.ac, .slice y.bo y.bl y.bc]
  | 8, v, _ => v = .bool is
  | 11, v, _ => v = .bool is
  | _, _, _ => True
theorem thSp_up {sv rv : Value} {i b off : Nat} {x : ByteArray} {is : Bool} {w w' : World} : ∀ q u, thSp sv rv i b off x is q u w → thSp sv rv i b off x is q u w' := fun q u h => by
  match q, h with
  | 0, h | 1, h | 2, h | 3, h | 4, h | 5, h | 6, h | 7, h | 8, h | 9, h | 10, h | 11, h => exact h
  | _ + 12, _ => exact trivial
theorem place_is {l : List ByteArray} {n : ByteArray} {i : Nat} (h : Place l n i) : noneB l n = false := by
  rcases h with ⟨h, _⟩ | ⟨j, _, hj, e, _⟩
  · omega
  · exact noneB_false (e ▸ List.getElem_mem hj)
/-- What is asked of a name, in short: a kind, and whether there is one. -/
theorem found_is {s : SP} {n : ByteArray} {e : Ending} {w : World} (h : FoundK s n e w) : ∃ y : N3, e = .returned (.tuple #[.agg #[.string y.nm, .slice y.ao y.al y.ac, .slice y.bo y.bl y.bc], .bool (!noneB s.names n)]) := by
  rcases h with ⟨h1, h2⟩ | ⟨i, hi, x, h1, _, h3⟩
  · exact ⟨zN3, by rw [noneB_true h1]; exact h2⟩
  · exact ⟨x, by rw [place_is h1]; exact h3⟩
/-- While names are gathered. -/
structure TH (w wr : World) (sv : Array Value) (n l : List ByteArray) (lv : Value) (i : Nat) : Prop where
  below : Below w.heap.size w wr
  box : wr.heap[w.heap.size]? = some (.cells sv 33 (0, 0))
  own : wr.ownsRow (w.heap.size + 1) 9 1 lv (thoseL n (l.take i)).length ((thoseL n (l.take i)).map strC).flatten
theorem TH.up {w wr wt : World} {sv : Array Value} {n l : List ByteArray} {lv : Value} {i : Nat} (h : TH w wr sv n l lv i) (hb : Below wr.heap.size wr wt) : TH w wt sv n l lv i := ⟨h.below.trans (hb.mono h.below.size), kept_of_below hb h.box, own_belowS h.own hb⟩
theorem strC_flat (l : List ByteArray) (x : ByteArray) : ((l ++ [x]).map strC).flatten = (l.map strC).flatten ++ [.string x] := by simp [strC]
end Go.Proofs.Ytagnbpobcijakaa
