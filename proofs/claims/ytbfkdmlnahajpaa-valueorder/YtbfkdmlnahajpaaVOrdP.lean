/-
  chancellaw3.ValueOrder: what its slots hold.
-/
import Derived.Test.YtbfkdmlnahajpaaVfE
import Derived.Test.YtbfkdmlnahajpaaVcU
namespace Go.Proofs.Ytbfkdmlnahajpaa
open Go.RowKit Go.Sort

theorem put_getO (a : Act) (d s : Nat) (v : Value) : (a.put (some d) v).tmps.getD s undef = a.tmps.getD s undef ∨ (s = d ∧ (a.put (some d) v).tmps.getD s undef = v) := by
  by_cases h : d = s
  · subst h
    by_cases hs : d < a.tmps.size
    · exact .inr ⟨rfl, put_same a d v hs⟩
    · left
      simp [Act.put, hs]
  · exact .inl (put_other a d s v h)

/-- Slots that hold blocks of their own. -/
structure News (ss : List Nat) (w0 : World) (a : Act) (w : World) : Prop where
  below : Below w0.heap.size w0 w
  lt : ∀ s ∈ ss, ∀ b, a.tmps.getD s undef = .pointer (some ⟨b, 0, none⟩) → b < w.heap.size
  ne : ∀ s ∈ ss, ∀ t ∈ ss, s ≠ t → ∀ b, a.tmps.getD s undef = .pointer (some ⟨b, 0, none⟩) → a.tmps.getD t undef = .pointer (some ⟨b, 0, none⟩) → False

theorem News.other {ss : List Nat} {w0 : World} {a : Act} {w w' : World} (h : News ss w0 a w) (hb : Below w.heap.size w w') (d : Nat) (v : Value) (hd : d ∉ ss) : News ss w0 (a.put (some d) v) w' := by
  have z := hb.size
  have e : ∀ s ∈ ss, (a.put (some d) v).tmps.getD s undef = a.tmps.getD s undef := fun s hs => put_other _ _ _ _ (fun e => hd (e ▸ hs))
  refine ⟨h.below.trans (hb.mono h.below.size), fun s hs b hb => ?_, fun s hs t ht hst b h1 h2 => ?_⟩
  · rw [e s hs] at hb
    have := h.lt s hs b hb
    omega
  · rw [e s hs] at h1
    rw [e t ht] at h2
    exact h.ne s hs t ht hst b h1 h2

theorem ptr_inj {b c : Nat} (h : (Value.pointer (some ⟨b, 0, none⟩)) = .pointer (some ⟨c, 0, none⟩)) : b = c := by
  injection h with h
  injection h with h
  injection h with h

theorem News.new {ss : List Nat} {w0 : World} {a : Act} {w : World} (h : News ss w0 a w) (d : Nat) (o : Obj) : News ss w0 (a.put (some d) (.pointer (some ⟨w.heap.size, 0, none⟩))) (w.alloc o) := by
  have z := size1 w o
  refine ⟨h.below.alloc h.below.size _, fun s hs b hb => ?_, fun s hs t ht hst b h1 h2 => ?_⟩
  · rcases put_getO a d s (.pointer (some ⟨w.heap.size, 0, none⟩)) with e | ⟨_, e⟩
    · rw [e] at hb
      have := h.lt s hs b hb
      omega
    · rw [e] at hb
      have := ptr_inj hb
      omega
  · rcases put_getO a d s (.pointer (some ⟨w.heap.size, 0, none⟩)) with e | ⟨es, e⟩
    · rw [e] at h1
      rcases put_getO a d t (.pointer (some ⟨w.heap.size, 0, none⟩)) with e' | ⟨_, e'⟩
      · rw [e'] at h2
        exact h.ne s hs t ht hst b h1 h2
      · rw [e'] at h2
        have := ptr_inj h2
        have := h.lt s hs b h1
        omega
    · rw [e] at h1
      have h1' := ptr_inj h1
      rcases put_getO a d t (.pointer (some ⟨w.heap.size, 0, none⟩)) with e' | ⟨et, _⟩
      · rw [e'] at h2
        have := h.lt t ht b h2
        omega
      · exact hst (es.trans et.symm)

/-- A block of a Value that was laid here: its cells are there, and can be written. -/
structure FreshO (B : Nat) (w : World) (b : Nat) : Prop where
  ge : B ≤ b
  lt : b < w.heap.size
  cells : At7 w b 0 zero7
  free : ∀ o, w.frozen? ⟨b, o, none⟩ = false

theorem FreshO.below {B : Nat} {w w' : World} {b : Nat} (h : FreshO B w b) (hb : Below w.heap.size w w') : FreshO B w' b :=
  ⟨h.ge, Nat.lt_of_lt_of_le h.lt hb.size, h.cells.below hb h.lt, fun o => (hb.frozen (p := ⟨b, o, none⟩) h.lt).trans (h.free o)⟩

theorem freshO_new {B : Nat} (w : World) (hB : B ≤ w.heap.size) : FreshO B (w.alloc (.cells #[.int .i64 0, .bool false, .int .i64 0, .string ⟨#[]⟩, .string ⟨#[]⟩, .string ⟨#[]⟩, .slice none 0 0] 31)) w.heap.size :=
  ⟨hB, by simp, at7_new w zero7, fun o => by simp⟩

/-- What each slot of the region holds. -/
def ordSp (B : Nat) (r0 r1 r2 : Value) (g0 g1 g2 : GV) : Nat → Value → World → Prop
  | 0, v, _ => v = r0
  | 1, v, w => ∃ R : R7, v = R.val ∧ IsG w g0 R
  | 2, v, _ => v = r1
  | 3, v, w => ∃ R : R7, v = R.val ∧ IsG w g1 R
  | 4, v, _ => v = r2
  | 5, v, w => ∃ R : R7, v = R.val ∧ IsG w g2 R
  | 6, v, w => ∃ b, v = .pointer (some ⟨b, 0, none⟩) ∧ FreshO B w b
  | 7, v, w => ∃ b, v = .pointer (some ⟨b, 0, none⟩) ∧ FreshO B w b
  | 8, v, w => ∃ b, v = .pointer (some ⟨b, 0, none⟩) ∧ FreshO B w b
  | _, _, _ => True

theorem ordSp_up {B : Nat} {r0 r1 r2 : Value} {g0 g1 g2 : GV} {w w' : World} (hb : Below w.heap.size w w') : ∀ j u, ordSp B r0 r1 r2 g0 g1 g2 j u w → ordSp B r0 r1 r2 g0 g1 g2 j u w'
  | 0, _, h | 2, _, h | 4, _, h => h
  | 1, _, ⟨R, e, h⟩ | 3, _, ⟨R, e, h⟩ | 5, _, ⟨R, e, h⟩ => ⟨R, e, h.below hb⟩
  | 6, _, ⟨b, e, h⟩ | 7, _, ⟨b, e, h⟩ | 8, _, ⟨b, e, h⟩ => ⟨b, e, h.below hb⟩
  | _ + 9, _, _ => trivial

/-- Seven cells that were written: what else lies in the world. -/
def set7 (w : World) (b : Nat) (r : R7) : World := (((((((w.setCell ⟨b, 0, none⟩ (.int .i64 r.k)).setCell ⟨b, 1, none⟩ (.bool r.b)).setCell ⟨b, 2, none⟩ (.int .i64 r.n)).setCell ⟨b, 3, none⟩ (.string r.s)).setCell ⟨b, 4, none⟩ (.string r.t)).setCell ⟨b, 5, none⟩ (.string r.i)).setCell ⟨b, 6, none⟩ (.slice r.lo r.ll r.lc))

theorem at7_setO {w : World} {b : Nat} {r0 : R7} (h : At7 w b 0 r0) (r : R7) : At7 (set7 w b r) b 0 r := by
  unfold set7
  obtain ⟨a0, a1, a2, a3, a4, a5, a6⟩ := h
  simp only [Nat.zero_add] at a1 a2 a3 a4 a5 a6
  exact ⟨by simp [go_sem, a0], by simp [go_sem, a1], by simp [go_sem, a2], by simp [go_sem, a3], by simp [go_sem, a4], by simp [go_sem, a5], by simp [go_sem, a6]⟩

theorem at7_otherO {w : World} {b c : Nat} {r0 : R7} (h : At7 w b 0 r0) (hne : c ≠ b) (r : R7) : At7 (set7 w c r) b 0 r0 := by
  unfold set7
  obtain ⟨a0, a1, a2, a3, a4, a5, a6⟩ := h
  simp only [Nat.zero_add] at a1 a2 a3 a4 a5 a6
  exact ⟨by simp [go_sem, a0], by simp [go_sem, a1], by simp [go_sem, a2], by simp [go_sem, a3], by simp [go_sem, a4], by simp [go_sem, a5], by simp [go_sem, a6]⟩

theorem FreshO.set7 {B : Nat} {w : World} {b c : Nat} (h : FreshO B w b) (hne : c ≠ b) (r : R7) : FreshO B (Proofs.Ytbfkdmlnahajpaa.set7 w c r) b := by
  refine ⟨h.ge, ?_, at7_otherO h.cells hne r, fun o => ?_⟩
  · have := (set7_below (Below.refl c w) (Nat.le_refl c) (.int .i64 r.k) (.bool r.b) (.int .i64 r.n) (.string r.s) (.string r.t) (.string r.i) (.slice r.lo r.ll r.lc)).size
    exact Nat.lt_of_lt_of_le h.lt this
  · rw [← h.free o]
    unfold Proofs.Ytbfkdmlnahajpaa.set7
    simp

/-- A value whose elements lie elsewhere stays what it is. -/
theorem IsG.set7 {w : World} {g : GV} {R : R7} (h : IsG w g R) {B b : Nat} (hf : FreshO B w b) (r : R7) : IsG (Proofs.Ytbfkdmlnahajpaa.set7 w b r) g R := by
  cases g with
  | pl p =>
    have h' : R = ofP p := h
    show R = ofP p
    exact h'
  | set l =>
    obtain ⟨ao, c, e, hr, ho⟩ := h
    show ∃ ao c, R = setR ao l.length c ∧ RowV (Proofs.Ytbfkdmlnahajpaa.set7 w b r) ao (l.map ofP) ∧ ∀ ad, ao = some ad → ad.off = 0
    refine ⟨ao, c, e, fun j hj => ?_, ho⟩
    obtain ⟨b', off, e', hlt, hc⟩ := hr j hj
    have h0 : 0 < (l.map ofP).length := by omega
    obtain ⟨b0, off0, e0, _, hc0⟩ := hr 0 h0
    have eo := ho _ e0
    simp only at eo
    subst eo
    rw [e'] at e0
    cases e0
    have hne : b ≠ b' := fun hb => by
      subst hb
      have h1 := hc0 0 _ rfl
      have h2 := hf.cells.c0
      simp only [Nat.zero_mul, Nat.add_zero] at h1
      rw [h2] at h1
      have h3 : (0 : Int) = ((l.map ofP)[0]).k := by
        injection h1 with h1
        injection h1
      rw [List.getElem_map, ofP_k] at h3
      cases hl : l[0]'(by simpa using h0) <;> rw [hl] at h3 <;> simp [PV.kind] at h3
    refine ⟨b', 0, e', ?_, fun c v hv => ?_⟩
    · have := (set7_below (Below.refl b w) (Nat.le_refl b) (.int .i64 r.k) (.bool r.b) (.int .i64 r.n) (.string r.s) (.string r.t) (.string r.i) (.slice r.lo r.ll r.lc)).size
      exact Nat.lt_of_lt_of_le hlt this
    · rw [← hc c v hv]
      unfold Proofs.Ytbfkdmlnahajpaa.set7
      simp [World.cell?_setCell_other]
end Go.Proofs.Ytbfkdmlnahajpaa
