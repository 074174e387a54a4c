/-
  chancelref3.Same and Less of sets of plain values: what they return.
  chancelref3.Same of the same value; chancelref8.Get: what they return.
  Values that are laid into places of their own, in a region that draws its order.
-/
import Derived.Test.YtbbongdnnmanlaaGreatValX
import Derived.Test.YtbbongdnnmanlaaGreatEcGB
import Derived.Test.YtbbongdnnmanlaaGreatVfAl
namespace Go.Proofs.YtbbongdnnmanlaaGreat
open Go.RowKit Go.Sort

/-- Seven cells in a row, in whatever world the region may be in. -/
def Seven (wr : World) (b o : Nat) (k : Int) (bb : Bool) (n : Int) (s t i : ByteArray) (lv : Value) : Prop :=
  (∀ d os, (grow (redrawn wr d) os).cell? ⟨b, o, none⟩ = some (.int .i64 k)) ∧ (∀ d os, (grow (redrawn wr d) os).cell? ⟨b, o + 1, none⟩ = some (.bool bb)) ∧ (∀ d os, (grow (redrawn wr d) os).cell? ⟨b, o + 2, none⟩ = some (.int .i64 n)) ∧
  (∀ d os, (grow (redrawn wr d) os).cell? ⟨b, o + 3, none⟩ = some (.string s)) ∧ (∀ d os, (grow (redrawn wr d) os).cell? ⟨b, o + 4, none⟩ = some (.string t)) ∧ (∀ d os, (grow (redrawn wr d) os).cell? ⟨b, o + 5, none⟩ = some (.string i)) ∧ (∀ d os, (grow (redrawn wr d) os).cell? ⟨b, o + 6, none⟩ = some lv)

/-- An element of a row, as the walk wants it. -/
theorem rowP_at {w2 wr : World} {ao : Option Addr} {l : List PV} (h : RowP w2 ao l) (hbw : Below w2.heap.size w2 wr) {j : Nat} (hj : j < l.length) :
    ∃ b off a0 c0 k bb n s t i, ao = some ⟨b, off, none⟩ ∧ valP l[j] (.slice a0 0 c0) = .agg #[.int .i64 k, .bool bb, .int .i64 n, .string s, .string t, .string i, .slice a0 0 c0] ∧ Seven wr b (off + j * 7) k bb n s t i (.slice a0 0 c0) := by
  obtain ⟨b, off, a0, c0, e, hb, hc⟩ := h j hj
  generalize l[j] = p at *
  obtain ⟨k, bb, n, s, t, i, hp, hcs⟩ : ∃ k bb n s t i, valP p (.slice a0 0 c0) = val7 k bb n s t i (.slice a0 0 c0) ∧ cellsP p (.slice a0 0 c0) = [.int .i64 k, .bool bb, .int .i64 n, .string s, .string t, .string i, .slice a0 0 c0] := by
    cases p <;> exact ⟨_, _, _, _, _, _, rfl, rfl⟩
  rw [hcs] at hc
  have up : ∀ {a : Addr} {v : Value}, a.block < w2.heap.size → w2.cell? a = some v → ∀ d os, (grow (redrawn wr d) os).cell? a = some v := fun h1 h2 d os => cell_regrown ((hbw.cell h1).trans h2) d os
  exact ⟨b, off, a0, c0, k, bb, n, s, t, i, e, hp, up (a := ⟨b, off + j * 7 + 0, none⟩) hb (hc 0 _ rfl), up (a := ⟨b, off + j * 7 + 1, none⟩) hb (hc 1 _ rfl), up (a := ⟨b, off + j * 7 + 2, none⟩) hb (hc 2 _ rfl), up (a := ⟨b, off + j * 7 + 3, none⟩) hb (hc 3 _ rfl),
    up (a := ⟨b, off + j * 7 + 4, none⟩) hb (hc 4 _ rfl), up (a := ⟨b, off + j * 7 + 5, none⟩) hb (hc 5 _ rfl), up (a := ⟨b, off + j * 7 + 6, none⟩) hb (hc 6 _ rfl)⟩

/-- A set as the program holds it. -/
def valS (lv : Value) : Value := val7 5 false 0 (ba []) (ba []) (ba []) lv

theorem two_worlds (w : World) (v v' : Value) : ∃ w2, (w.alloc (.cells #[.int .i64 5, .bool false, .int .i64 0, .string (ba []), .string (ba []), .string (ba []), v] 31)).alloc (.cells #[.int .i64 5, .bool false, .int .i64 0, .string (ba []), .string (ba []), .string (ba []), v'] 31) = w2 ∧ w2.heap.size = w.heap.size + 2 ∧
    Below w.heap.size w w2 ∧ w2.cell? ⟨w.heap.size, 6, none⟩ = some v ∧ w2.cell? ⟨w.heap.size + 1, 6, none⟩ = some v' := by
  refine ⟨_, rfl, by simp, below2 _ _ _, by simp, by simp⟩

set_option maxHeartbeats 1000000 in
theorem r3same_len (l m : Nat) (ao bo : Option Addr) (ca cb : Nat) (h : l ≠ m) (w : World) :
    Calls Tryz.prog 8 #[valS (.slice ao l ca), valS (.slice bo m cb)] w fun e w' => e = .returned (.bool false) ∧ Below w.heap.size w w' := by
  have hb : ((l : Int) == (m : Int)) = false := by simpa using (show (l : Int) ≠ m by omega)
  unfold valS val7
  go_enter Tryz.func8, Tryz.ntmps8
  go_wp2
  go_ret
  exact ⟨rfl, below2 _ _ _⟩

set_option maxHeartbeats 1000000 in
theorem r3same_set (l m : List PV) (ao bo : Option Addr) (ca cb : Nat) (w : World) (hl : l.length ≤ 1048576) (hr : RowP w ao l) (hs : RowP w bo m) :
    Calls Tryz.prog 8 #[valS (.slice ao l.length ca), valS (.slice bo m.length cb)] w fun e w' => e = .returned (.bool (decide (l = m))) ∧ Below w.heap.size w w' := by
  by_cases hlen : l.length = m.length
  case neg =>
    rw [decide_eq_false (fun e => hlen (by rw [e]))]
    exact r3same_len _ _ _ _ _ _ hlen w
  have HL := hide hlen
  have hb0 : ((l.length : Int) == (m.length : Int)) = true := by simpa using (show (l.length : Int) = m.length by omega)
  have hb1 : ((l.length : Int) != (m.length : Int)) = false := by rw [bne, hb0]; rfl
  clear hlen
  unfold valS val7
  go_enter Tryz.func8, Tryz.ntmps8
  go_wp2
  clear hb0 hb1
  obtain ⟨w2, ew, z2, b02, c6, d6⟩ := two_worlds w (.slice ao l.length ca) (.slice bo m.length cb)
  rw [ew]
  have hr2 := hr.below b02
  have hs2 := hs.below b02
  clear ew hr hs
  go_loopw [5] (fun iv wr => ∃ i : Nat, iv = .int .i64 i ∧ i ≤ l.length ∧ Below w2.heap.size w2 wr ∧ (l = m ↔ l.drop i = m.drop i)) (fun iv _ => l.length - (intOf iv).toNat)
  case atStart => exact ⟨0, by go_num, Nat.zero_le _, Below.refl _ _, by simp⟩
  case round =>
    obtain ⟨j, rfl, hj, hbw, hacc⟩ := hrel
    have Hacc := hide hacc
    clear hacc
    have e6 := (hbw.cell (p := ⟨w.heap.size, 6, none⟩) (by show w.heap.size < _; omega)).trans c6
    by_cases hlt : j < l.length
    · have hlt2 : j < m.length := by rw [← unhide HL]; exact hlt
      have i1 : (j : Int) < (l.length : Int) := by omega
      have i2 : (j : Int) < (m.length : Int) := by omega
      have i0 : (0 : Int) ≤ (j : Int) := by omega
      obtain ⟨b, off, a0, c0, k, bb, n, s, t, i, rfl, hv, F0, F1, F2, F3, F4, F5, F6⟩ := rowP_at hr2 hbw hlt
      obtain ⟨b', off', a0', c0', k', bb', n', s', t', i', rfl, hv', G0, G1, G2, G3, G4, G5, G6⟩ := rowP_at hs2 hbw hlt2
      have SM := r3same_plain l[j] m[j] a0 a0' c0 c0'
      rw [hv, hv'] at SM
      have HS := hide (show l.drop j = m.drop j ↔ l[j] = m[j] ∧ l.drop (j + 1) = m.drop (j + 1) by rw [List.drop_eq_getElem_cons hlt, List.drop_eq_getElem_cons hlt2, List.cons.injEq])
      generalize l[j] = p at *
      generalize m[j] = q at *
      have E6 := fun d os => cell_regrown e6 d os
      have D6 := fun d os => cell_regrown ((hbw.cell (p := ⟨w.heap.size + 1, 6, none⟩) (by show w.heap.size + 1 < _; omega)).trans d6) d os
      have cS := fun d os => Calls.regrown_of (w := wr) (d := d) (os := os) (SM (grow (redrawn wr d) os))
      clear hv hv' SM c6 d6 hr2 hs2
      go_wp2_with fail
      refine wp_region_quiet_below (by kernel_rfl) (by kernel_rfl) ?_
      repeat (quiet_step (exact cS _ _))
      refine wpQuiet_nil ?_
      intro _ hw'
      obtain ⟨⟨dq, osq⟩, hw''⟩ := hw'
      subst hw''
      have hbw3 : Below w2.heap.size w2 (grow (redrawn wr dq) osq) := hbw.trans ((below_regrown wr dq osq).mono hbw.size)
      by_cases hpq : p = q
      · have hd : decide (p = q) = true := decide_eq_true hpq
        rw [hd]
        go_wp2
        go_roundw
        case rel =>
          refine ⟨j + 1, by go_num, by omega, hbw3, ?_⟩
          rw [unhide Hacc, unhide HS]
          exact ⟨fun h => h.2, fun h => ⟨hpq, h⟩⟩
        case measure =>
          simp only [intOf]
          omega
      · have hd : decide (p = q) = false := decide_eq_false hpq
        rw [hd]
        go_wp2
        go_ret
        exact ⟨ret_bool (decide_eq_false (fun h => hpq ((unhide HS).1 ((unhide Hacc).1 h)).1)).symm, b02.trans (hbw3.mono b02.size)⟩
    · have i1 : ¬ (j : Int) < (l.length : Int) := by omega
      go_wp2
      go_ret
      refine ⟨ret_bool (decide_eq_true ?_).symm, b02.trans (hbw.mono b02.size)⟩
      rw [unhide Hacc, List.drop_eq_nil_of_le (by omega), List.drop_eq_nil_of_le (by have := unhide HL; omega)]
end Go.Proofs.YtbbongdnnmanlaaGreat

namespace Go.Proofs.YtbbongdnnmanlaaGreat
open Go.RowKit Go.Sort

theorem cellsP_ofP (p : PV) : cellsP p (.slice none 0 0) = (ofP p).cells := by cases p <;> rfl
theorem rowP_V {w : World} {ao : Option Addr} {l : List PV} (h : RowV w ao (l.map ofP)) : RowP w ao l := fun j hj => by
  obtain ⟨b, off, e, hb, hc⟩ := h j (by simpa using hj)
  refine ⟨b, off, none, 0, e, hb, fun c v hv => hc c v ?_⟩
  rw [cellsP_ofP] at hv
  simpa using hv
theorem r3sameG_true (G : GV) (R R' : R7) (w : World) (h : IsG w G R) (h' : IsG w G R') (hl : G.len ≤ 1048576) :
    Calls Tryz.prog 8 #[R.val, R'.val] w fun e w' => e = .returned (.bool true) ∧ Below w.heap.size w w' := by
  cases G with
  | pl p =>
    obtain rfl : R = ofP p := h
    obtain rfl : R' = ofP p := h'
    have := r3same_plain p p none none 0 0 w
    rw [decide_eq_true rfl, ← ofP_val] at this
    exact this
  | set l =>
    obtain ⟨ao, c, rfl, hr, _⟩ := h
    obtain ⟨ao', c', rfl, hr', _⟩ := h'
    have := r3same_set l l ao ao' c c' w hl (rowP_V hr) (rowP_V hr')
    rw [decide_eq_true rfl] at this
    exact this
theorem r3same_zero (w : World) : Calls Tryz.prog 8 #[zero7.val, zero7.val] w fun e w' => e = .returned (.bool true) ∧ Below w.heap.size w w' := r3same_flat _ _ _ _ _ _ _ _ _ _ w

end Go.Proofs.YtbbongdnnmanlaaGreat

namespace Go.Proofs.YtbbongdnnmanlaaGreat
open Go.RowKit Go.Sort

theorem put_getO (a : Act) (d s : Nat) (v : Value) : (a.put (some d) v).tmps.getD s undef = a.tmps.getD s undef ∨ (s = d ∧ (a.put (some d) v).tmps.getD s undef = v) := by
  by_cases h : d = s
  · subst h
    by_cases hs : d < a.tmps.size
    · exact .inr ⟨rfl, put_same a d v hs⟩
    · left
      simp [Act.put, hs]
  · exact .inl (put_other a d s v h)

/-- Slots that hold blocks of their own. -/
structure News (ss : List Nat) (w0 : World) (a : Act) (w : World) : Prop where
  below : Below w0.heap.size w0 w
  lt : ∀ s ∈ ss, ∀ b, a.tmps.getD s undef = .pointer (some ⟨b, 0, none⟩) → b < w.heap.size
  ne : ∀ s ∈ ss, ∀ t ∈ ss, s ≠ t → ∀ b, a.tmps.getD s undef = .pointer (some ⟨b, 0, none⟩) → a.tmps.getD t undef = .pointer (some ⟨b, 0, none⟩) → False

theorem News.other {ss : List Nat} {w0 : World} {a : Act} {w w' : World} (h : News ss w0 a w) (hb : Below w.heap.size w w') (d : Nat) (v : Value) (hd : d ∉ ss) : News ss w0 (a.put (some d) v) w' := by
  have z := hb.size
  have e : ∀ s ∈ ss, (a.put (some d) v).tmps.getD s undef = a.tmps.getD s undef := fun s hs => put_other _ _ _ _ (fun e => hd (e ▸ hs))
  refine ⟨h.below.trans (hb.mono h.below.size), fun s hs b hb => ?_, fun s hs t ht hst b h1 h2 => ?_⟩
  · rw [e s hs] at hb
    have := h.lt s hs b hb
    omega
  · rw [e s hs] at h1
    rw [e t ht] at h2
    exact h.ne s hs t ht hst b h1 h2

theorem ptr_inj {b c : Nat} (h : (Value.pointer (some ⟨b, 0, none⟩)) = .pointer (some ⟨c, 0, none⟩)) : b = c := by
  injection h with h
  injection h with h
  injection h with h

theorem News.new {ss : List Nat} {w0 : World} {a : Act} {w : World} (h : News ss w0 a w) (d : Nat) (o : Obj) : News ss w0 (a.put (some d) (.pointer (some ⟨w.heap.size, 0, none⟩))) (w.alloc o) := by
  have z := size1 w o
  refine ⟨h.below.alloc h.below.size _, fun s hs b hb => ?_, fun s hs t ht hst b h1 h2 => ?_⟩
  · rcases put_getO a d s (.pointer (some ⟨w.heap.size, 0, none⟩)) with e | ⟨_, e⟩
    · rw [e] at hb
      have := h.lt s hs b hb
      omega
    · rw [e] at hb
      have := ptr_inj hb
      omega
  · rcases put_getO a d s (.pointer (some ⟨w.heap.size, 0, none⟩)) with e | ⟨es, e⟩
    · rw [e] at h1
      rcases put_getO a d t (.pointer (some ⟨w.heap.size, 0, none⟩)) with e' | ⟨_, e'⟩
      · rw [e'] at h2
        exact h.ne s hs t ht hst b h1 h2
      · rw [e'] at h2
        have := ptr_inj h2
        have := h.lt s hs b h1
        omega
    · rw [e] at h1
      have h1' := ptr_inj h1
      rcases put_getO a d t (.pointer (some ⟨w.heap.size, 0, none⟩)) with e' | ⟨et, _⟩
      · rw [e'] at h2
        have := h.lt t ht b h2
        omega
      · exact hst (es.trans et.symm)

/-- A block of a Value that was laid here: its cells are there, and can be written. -/
structure FreshO (B : Nat) (w : World) (b : Nat) : Prop where
  ge : B ≤ b
  lt : b < w.heap.size
  cells : At7 w b 0 zero7
  free : ∀ o, w.frozen? ⟨b, o, none⟩ = false

theorem FreshO.below {B : Nat} {w w' : World} {b : Nat} (h : FreshO B w b) (hb : Below w.heap.size w w') : FreshO B w' b :=
  ⟨h.ge, Nat.lt_of_lt_of_le h.lt hb.size, h.cells.below hb h.lt, fun o => (hb.frozen (p := ⟨b, o, none⟩) h.lt).trans (h.free o)⟩

theorem freshO_new {B : Nat} (w : World) (hB : B ≤ w.heap.size) : FreshO B (w.alloc (.cells #[.int .i64 0, .bool false, .int .i64 0, .string ⟨#[]⟩, .string ⟨#[]⟩, .string ⟨#[]⟩, .slice none 0 0] 31)) w.heap.size :=
  ⟨hB, by simp, at7_new w zero7, fun o => by simp⟩

/-- Seven cells that were written: what else lies in the world. -/
def set7 (w : World) (b : Nat) (r : R7) : World := (((((((w.setCell ⟨b, 0, none⟩ (.int .i64 r.k)).setCell ⟨b, 1, none⟩ (.bool r.b)).setCell ⟨b, 2, none⟩ (.int .i64 r.n)).setCell ⟨b, 3, none⟩ (.string r.s)).setCell ⟨b, 4, none⟩ (.string r.t)).setCell ⟨b, 5, none⟩ (.string r.i)).setCell ⟨b, 6, none⟩ (.slice r.lo r.ll r.lc))

theorem at7_setO {w : World} {b : Nat} {r0 : R7} (h : At7 w b 0 r0) (r : R7) : At7 (set7 w b r) b 0 r := by
  unfold set7
  obtain ⟨a0, a1, a2, a3, a4, a5, a6⟩ := h
  simp only [Nat.zero_add] at a1 a2 a3 a4 a5 a6
  exact ⟨by simp [go_sem, a0], by simp [go_sem, a1], by simp [go_sem, a2], by simp [go_sem, a3], by simp [go_sem, a4], by simp [go_sem, a5], by simp [go_sem, a6]⟩

theorem at7_otherO {w : World} {b c : Nat} {r0 : R7} (h : At7 w b 0 r0) (hne : c ≠ b) (r : R7) : At7 (set7 w c r) b 0 r0 := by
  unfold set7
  obtain ⟨a0, a1, a2, a3, a4, a5, a6⟩ := h
  simp only [Nat.zero_add] at a1 a2 a3 a4 a5 a6
  exact ⟨by simp [go_sem, a0], by simp [go_sem, a1], by simp [go_sem, a2], by simp [go_sem, a3], by simp [go_sem, a4], by simp [go_sem, a5], by simp [go_sem, a6]⟩

theorem FreshO.set7 {B : Nat} {w : World} {b c : Nat} (h : FreshO B w b) (hne : c ≠ b) (r : R7) : FreshO B (Proofs.YtbbongdnnmanlaaGreat.set7 w c r) b := by
  refine ⟨h.ge, ?_, at7_otherO h.cells hne r, fun o => ?_⟩
  · have := (set7_below (Below.refl c w) (Nat.le_refl c) (.int .i64 r.k) (.bool r.b) (.int .i64 r.n) (.string r.s) (.string r.t) (.string r.i) (.slice r.lo r.ll r.lc)).size
    exact Nat.lt_of_lt_of_le h.lt this
  · rw [← h.free o]
    unfold Proofs.YtbbongdnnmanlaaGreat.set7
    simp

/-- A value whose elements lie elsewhere stays what it is. -/
theorem IsG.set7 {w : World} {g : GV} {R : R7} (h : IsG w g R) {B b : Nat} (hf : FreshO B w b) (r : R7) : IsG (Proofs.YtbbongdnnmanlaaGreat.set7 w b r) g R := by
  cases g with
  | pl p =>
    have h' : R = ofP p := h
    show R = ofP p
    exact h'
  | set l =>
    obtain ⟨ao, c, e, hr, ho⟩ := h
    show ∃ ao c, R = setR ao l.length c ∧ RowV (Proofs.YtbbongdnnmanlaaGreat.set7 w b r) ao (l.map ofP) ∧ ∀ ad, ao = some ad → ad.off = 0
    refine ⟨ao, c, e, fun j hj => ?_, ho⟩
    obtain ⟨b', off, e', hlt, hc⟩ := hr j hj
    have h0 : 0 < (l.map ofP).length := by omega
    obtain ⟨b0, off0, e0, _, hc0⟩ := hr 0 h0
    have eo := ho _ e0
    simp only at eo
    subst eo
    rw [e'] at e0
    cases e0
    have hne : b ≠ b' := fun hb => by
      subst hb
      have h1 := hc0 0 _ rfl
      have h2 := hf.cells.c0
      simp only [Nat.zero_mul, Nat.add_zero] at h1
      rw [h2] at h1
      have h3 : (0 : Int) = ((l.map ofP)[0]).k := by
        injection h1 with h1
        injection h1
      rw [List.getElem_map, ofP_k] at h3
      cases hl : l[0]'(by simpa using h0) <;> rw [hl] at h3 <;> simp [PV.kind] at h3
    refine ⟨b', 0, e', ?_, fun c v hv => ?_⟩
    · have := (set7_below (Below.refl b w) (Nat.le_refl b) (.int .i64 r.k) (.bool r.b) (.int .i64 r.n) (.string r.s) (.string r.t) (.string r.i) (.slice r.lo r.ll r.lc)).size
      exact Nat.lt_of_lt_of_le hlt this
    · rw [← hc c v hv]
      unfold Proofs.YtbbongdnnmanlaaGreat.set7
      simp [World.cell?_setCell_other]
end Go.Proofs.YtbbongdnnmanlaaGreat
