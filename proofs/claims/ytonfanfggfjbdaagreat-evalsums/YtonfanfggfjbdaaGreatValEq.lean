/-
  chancelref3.Same and Less of sets of plain values: what they return.
  chancelref3.Same of the same value; chancelref8.Get: what they return.
-/
import Derived.Test.YtonfanfggfjbdaaGreatValX
import Derived.Test.YtonfanfggfjbdaaGreatEcGB
namespace Go.Proofs.YtonfanfggfjbdaaGreat
open Go.RowKit Go.Sort

/-- Seven cells in a row, in whatever world the region may be in. -/
def Seven (wr : World) (b o : Nat) (k : Int) (bb : Bool) (n : Int) (s t i : ByteArray) (lv : Value) : Prop :=
  (∀ d os, (grow (redrawn wr d) os).cell? ⟨b, o, none⟩ = some (.int .i64 k)) ∧ (∀ d os, (grow (redrawn wr d) os).cell? ⟨b, o + 1, none⟩ = some (.bool bb)) ∧ (∀ d os, (grow (redrawn wr d) os).cell? ⟨b, o + 2, none⟩ = some (.int .i64 n)) ∧
  (∀ d os, (grow (redrawn wr d) os).cell? ⟨b, o + 3, none⟩ = some (.string s)) ∧ (∀ d os, (grow (redrawn wr d) os).cell? ⟨b, o + 4, none⟩ = some (.string t)) ∧ (∀ d os, (grow (redrawn wr d) os).cell? ⟨b, o + 5, none⟩ = some (.string i)) ∧ (∀ d os, (grow (redrawn wr d) os).cell? ⟨b, o + 6, none⟩ = some lv)

/-- An element of a row, as the walk wants it. -/
theorem rowP_at {w2 wr : World} {ao : Option Addr} {l : List PV} (h : RowP w2 ao l) (hbw : Below w2.heap.size w2 wr) {j : Nat} (hj : j < l.length) :
    ∃ b off a0 c0 k bb n s t i, ao = some ⟨b, off, none⟩ ∧ valP l[j] (.slice a0 0 c0) = .agg #[.int .i64 k, .bool bb, .int .i64 n, .string s, .string t, .string i, .slice a0 0 c0] ∧ Seven wr b (off + j * 7) k bb n s t i (.slice a0 0 c0) := by
  obtain ⟨b, off, a0, c0, e, hb, hc⟩ := h j hj
  generalize l[j] = p at *
  obtain ⟨k, bb, n, s, t, i, hp, hcs⟩ : ∃ k bb n s t i, valP p (.slice a0 0 c0) = val7 k bb n s t i (.slice a0 0 c0) ∧ cellsP p (.slice a0 0 c0) = [.int .i64 k, .bool bb, .int .i64 n, .string s, .string t, .string i, .slice a0 0 c0] := by
    cases p <;> exact ⟨_, _, _, _, _, _, rfl, rfl⟩
  rw [hcs] at hc
  have up : ∀ {a : Addr} {v : Value}, a.block < w2.heap.size → w2.cell? a = some v → ∀ d os, (grow (redrawn wr d) os).cell? a = some v := fun h1 h2 d os => cell_regrown ((hbw.cell h1).trans h2) d os
  exact ⟨b, off, a0, c0, k, bb, n, s, t, i, e, hp, up (a := ⟨b, off + j * 7 + 0, none⟩) hb (hc 0 _ rfl), up (a := ⟨b, off + j * 7 + 1, none⟩) hb (hc 1 _ rfl), up (a := ⟨b, off + j * 7 + 2, none⟩) hb (hc 2 _ rfl), up (a := ⟨b, off + j * 7 + 3, none⟩) hb (hc 3 _ rfl),
    up (a := ⟨b, off + j * 7 + 4, none⟩) hb (hc 4 _ rfl), up (a := ⟨b, off + j * 7 + 5, none⟩) hb (hc 5 _ rfl), up (a := ⟨b, off + j * 7 + 6, none⟩) hb (hc 6 _ rfl)⟩

/-- A set as the program holds it. -/
def valS (lv : Value) : Value := val7 5 false 0 (ba []) (ba []) (ba []) lv

theorem two_worlds (w : World) (v v' : Value) : ∃ w2, (w.alloc (.cells #[.int .i64 5, .bool false, .int .i64 0, .string (ba []), .string (ba []), .string (ba []), v] 46)).alloc (.cells #[.int .i64 5, .bool false, .int .i64 0, .string (ba []), .string (ba []), .string (ba []), v'] 46) = w2 ∧ w2.heap.size = w.heap.size + 2 ∧
    Below w.heap.size w w2 ∧ w2.cell? ⟨w.heap.size, 6, none⟩ = some v ∧ w2.cell? ⟨w.heap.size + 1, 6, none⟩ = some v' := by
  refine ⟨_, rfl, by simp, below2 _ _ _, by simp, by simp⟩

set_option maxHeartbeats 1000000 in
theorem r3same_len (l m : Nat) (ao bo : Option Addr) (ca cb : Nat) (h : l ≠ m) (w : World) :
    Calls Tryz.prog 16 #[valS (.slice ao l ca), valS (.slice bo m cb)] w fun e w' => e = .returned (.bool false) ∧ Below w.heap.size w w' := by
  have hb : ((l : Int) == (m : Int)) = false := by simpa using (show (l : Int) ≠ m by omega)
  unfold valS val7
  go_enter Tryz.func16, Tryz.ntmps16
  go_wp2
  go_ret
  exact ⟨rfl, below2 _ _ _⟩

set_option maxHeartbeats 1000000 in
theorem r3same_set (l m : List PV) (ao bo : Option Addr) (ca cb : Nat) (w : World) (hl : l.length ≤ 1048576) (hr : RowP w ao l) (hs : RowP w bo m) :
    Calls Tryz.prog 16 #[valS (.slice ao l.length ca), valS (.slice bo m.length cb)] w fun e w' => e = .returned (.bool (decide (l = m))) ∧ Below w.heap.size w w' := by
  by_cases hlen : l.length = m.length
  case neg =>
    rw [decide_eq_false (fun e => hlen (by rw [e]))]
    exact r3same_len _ _ _ _ _ _ hlen w
  have HL := hide hlen
  have hb0 : ((l.length : Int) == (m.length : Int)) = true := by simpa using (show (l.length : Int) = m.length by omega)
  have hb1 : ((l.length : Int) != (m.length : Int)) = false := by rw [bne, hb0]; rfl
  clear hlen
  unfold valS val7
  go_enter Tryz.func16, Tryz.ntmps16
  go_wp2
  clear hb0 hb1
  obtain ⟨w2, ew, z2, b02, c6, d6⟩ := two_worlds w (.slice ao l.length ca) (.slice bo m.length cb)
  rw [ew]
  have hr2 := hr.below b02
  have hs2 := hs.below b02
  clear ew hr hs
  go_loopw [5] (fun iv wr => ∃ i : Nat, iv = .int .i64 i ∧ i ≤ l.length ∧ Below w2.heap.size w2 wr ∧ (l = m ↔ l.drop i = m.drop i)) (fun iv _ => l.length - (intOf iv).toNat)
  case atStart => exact ⟨0, by go_num, Nat.zero_le _, Below.refl _ _, by simp⟩
  case round =>
    obtain ⟨j, rfl, hj, hbw, hacc⟩ := hrel
    have Hacc := hide hacc
    clear hacc
    have e6 := (hbw.cell (p := ⟨w.heap.size, 6, none⟩) (by show w.heap.size < _; omega)).trans c6
    by_cases hlt : j < l.length
    · have hlt2 : j < m.length := by rw [← unhide HL]; exact hlt
      have i1 : (j : Int) < (l.length : Int) := by omega
      have i2 : (j : Int) < (m.length : Int) := by omega
      have i0 : (0 : Int) ≤ (j : Int) := by omega
      obtain ⟨b, off, a0, c0, k, bb, n, s, t, i, rfl, hv, F0, F1, F2, F3, F4, F5, F6⟩ := rowP_at hr2 hbw hlt
      obtain ⟨b', off', a0', c0', k', bb', n', s', t', i', rfl, hv', G0, G1, G2, G3, G4, G5, G6⟩ := rowP_at hs2 hbw hlt2
      have SM := r3same_plain l[j] m[j] a0 a0' c0 c0'
      rw [hv, hv'] at SM
      have HS := hide (show l.drop j = m.drop j ↔ l[j] = m[j] ∧ l.drop (j + 1) = m.drop (j + 1) by rw [List.drop_eq_getElem_cons hlt, List.drop_eq_getElem_cons hlt2, List.cons.injEq])
      generalize l[j] = p at *
      generalize m[j] = q at *
      have E6 := fun d os => cell_regrown e6 d os
      have D6 := fun d os => cell_regrown ((hbw.cell (p := ⟨w.heap.size + 1, 6, none⟩) (by show w.heap.size + 1 < _; omega)).trans d6) d os
      have cS := fun d os => Calls.regrown_of (w := wr) (d := d) (os := os) (SM (grow (redrawn wr d) os))
      clear hv hv' SM c6 d6 hr2 hs2
      go_wp2_with fail
      refine wp_region_quiet_below (by kernel_rfl) (by kernel_rfl) ?_
      repeat (quiet_step (exact cS _ _))
      refine wpQuiet_nil ?_
      intro _ hw'
      obtain ⟨⟨dq, osq⟩, hw''⟩ := hw'
      subst hw''
      have hbw3 : Below w2.heap.size w2 (grow (redrawn wr dq) osq) := hbw.trans ((below_regrown wr dq osq).mono hbw.size)
      by_cases hpq : p = q
      · have hd : decide (p = q) = true := decide_eq_true hpq
        rw [hd]
        go_wp2
        go_roundw
        case rel =>
          refine ⟨j + 1, by go_num, by omega, hbw3, ?_⟩
          rw [unhide Hacc, unhide HS]
          exact ⟨fun h => h.2, fun h => ⟨hpq, h⟩⟩
        case measure =>
          simp only [intOf]
          omega
      · have hd : decide (p = q) = false := decide_eq_false hpq
        rw [hd]
        go_wp2
        go_ret
        exact ⟨ret_bool (decide_eq_false (fun h => hpq ((unhide HS).1 ((unhide Hacc).1 h)).1)).symm, b02.trans (hbw3.mono b02.size)⟩
    · have i1 : ¬ (j : Int) < (l.length : Int) := by omega
      go_wp2
      go_ret
      refine ⟨ret_bool (decide_eq_true ?_).symm, b02.trans (hbw.mono b02.size)⟩
      rw [unhide Hacc, List.drop_eq_nil_of_le (by omega), List.drop_eq_nil_of_le (by have := unhide HL; omega)]
end Go.Proofs.YtonfanfggfjbdaaGreat

namespace Go.Proofs.YtonfanfggfjbdaaGreat
open Go.RowKit Go.Sort

theorem cellsP_ofP (p : PV) : cellsP p (.slice none 0 0) = (ofP p).cells := by cases p <;> rfl
theorem rowP_V {w : World} {ao : Option Addr} {l : List PV} (h : RowV w ao (l.map ofP)) : RowP w ao l := fun j hj => by
  obtain ⟨b, off, e, hb, hc⟩ := h j (by simpa using hj)
  refine ⟨b, off, none, 0, e, hb, fun c v hv => hc c v ?_⟩
  rw [cellsP_ofP] at hv
  simpa using hv
theorem r3sameG_true (G : GV) (R R' : R7) (w : World) (h : IsG w G R) (h' : IsG w G R') (hl : G.len ≤ 1048576) :
    Calls Tryz.prog 16 #[R.val, R'.val] w fun e w' => e = .returned (.bool true) ∧ Below w.heap.size w w' := by
  cases G with
  | pl p =>
    obtain rfl : R = ofP p := h
    obtain rfl : R' = ofP p := h'
    have := r3same_plain p p none none 0 0 w
    rw [decide_eq_true rfl, ← ofP_val] at this
    exact this
  | set l =>
    obtain ⟨ao, c, rfl, hr, _⟩ := h
    obtain ⟨ao', c', rfl, hr', _⟩ := h'
    have := r3same_set l l ao ao' c c' w hl (rowP_V hr) (rowP_V hr')
    rw [decide_eq_true rfl] at this
    exact this
theorem r3same_zero (w : World) : Calls Tryz.prog 16 #[zero7.val, zero7.val] w fun e w' => e = .returned (.bool true) ∧ Below w.heap.size w w' := r3same_flat _ _ _ _ _ _ _ _ _ _ w

set_option maxHeartbeats 4000000 in
set_option maxRecDepth 1000000 in
theorem r8get_any (e : E4) (p : EntP) (nm : ByteArray) (P : Nat → Prop) (w : World) (H : IsEnt w P e p) (hf : p.fits) :
    Calls Tryz.prog 52 #[e.val, .string nm] w fun x w' => Below w.heap.size w w' ∧ GetPost 0 (getP p.ats nm) x w' := by
  obtain ⟨et, ei, po, m, pc, ao, n, ac⟩ := e
  obtain ⟨rs, hal, hrA, hdrop, hAs⟩ := H.ats
  simp only at hal hrA
  have hn : n ≤ 1048576 := by rw [hal, hAs.1]; exact hf.2.1
  have HAs := hide hAs
  have HAL := hide hal
  have HRA := hide hrA
  clear H hdrop hf hAs hal hrA
  have b2 := below2 w (.cells #[.string et, .string ei, .slice po m pc, .slice ao n ac] 60) (.cells #[.int .i64 0, .bool false, .int .i64 0, .string ⟨#[]⟩, .string ⟨#[]⟩, .string ⟨#[]⟩, .slice none 0 0] 46)
  unfold E4.val
  simp only
  go_enter Tryz.func52, Tryz.ntmps52
  go_wp2
  have cA : ((w.alloc (.cells #[.string et, .string ei, .slice po m pc, .slice ao n ac] 60)).alloc (.cells #[.int .i64 0, .bool false, .int .i64 0, .string ⟨#[]⟩, .string ⟨#[]⟩, .string ⟨#[]⟩, .slice none 0 0] 46)).cell? ⟨w.heap.size, 3, none⟩ = some (.slice ao n ac) := by simp
  generalize hw2 : (w.alloc _).alloc _ = w2 at *
  have z2 : w2.heap.size = w.heap.size + 2 := by rw [← hw2]; simp
  have H2 : w2.heap[w.heap.size + 1]? = some (.cells #[.int .i64 0, .bool false, .int .i64 0, .string ⟨#[]⟩, .string ⟨#[]⟩, .string ⟨#[]⟩, .slice none 0 0] 46 (0, 0)) := by
    rw [← hw2]
    have := alloc_heap (w.alloc (.cells #[.string et, .string ei, .slice po m pc, .slice ao n ac] 60)) (.cells #[.int .i64 0, .bool false, .int .i64 0, .string ⟨#[]⟩, .string ⟨#[]⟩, .string ⟨#[]⟩, .slice none 0 0] 46)
    rwa [size1] at this
  clear hw2
  have d0 : w2.cell? ⟨w.heap.size + 1, 0, none⟩ = some (.int .i64 0) := by rw [Lib.cell_of_heap H2]; rfl
  have d1 : w2.cell? ⟨w.heap.size + 1, 1, none⟩ = some (.bool false) := by rw [Lib.cell_of_heap H2]; rfl
  have d2 : w2.cell? ⟨w.heap.size + 1, 2, none⟩ = some (.int .i64 0) := by rw [Lib.cell_of_heap H2]; rfl
  have d3 : w2.cell? ⟨w.heap.size + 1, 3, none⟩ = some (.string ⟨#[]⟩) := by rw [Lib.cell_of_heap H2]; rfl
  have d4 : w2.cell? ⟨w.heap.size + 1, 4, none⟩ = some (.string ⟨#[]⟩) := by rw [Lib.cell_of_heap H2]; rfl
  have d5 : w2.cell? ⟨w.heap.size + 1, 5, none⟩ = some (.string ⟨#[]⟩) := by rw [Lib.cell_of_heap H2]; rfl
  have d6 : w2.cell? ⟨w.heap.size + 1, 6, none⟩ = some (.slice none 0 0) := by rw [Lib.cell_of_heap H2]; rfl
  have df : ∀ o, w2.frozen? ⟨w.heap.size + 1, o, none⟩ = false := fun o => Lib.frozen_of_heap H2 o
  clear H2
  go_loop [6] (fun iv => ∃ j : Nat, j ≤ n ∧ iv = .int .i64 j ∧ getP p.ats nm = getP (p.ats.drop j) nm) (fun iv => n - (intOf iv).toNat)
  case atStart => exact ⟨0, Nat.zero_le _, rfl, rfl⟩
  case round =>
    obtain ⟨j, hj, rfl, hget⟩ := hrel
    have Hget := hide hget
    clear hget
    by_cases hlt : j < n
    · have i1 : (j : Int) < (n : Int) := by omega
      have k0 : (0 : Int) ≤ (j : Int) := by omega
      have hjr : j < rs.length := by rw [← unhide HAL]; exact hlt
      have hja : j < p.ats.length := by rw [← (unhide HAs).1]; exact hjr
      obtain ⟨g, off, rfl, hg, hcell⟩ := rowG_at (unhide HRA) b2 hjr
      have A := AtE8.of hcell
      obtain ⟨hnm, hIG⟩ := (unhide HAs).2 j hjr hja
      have hdr : p.ats.drop j = p.ats[j] :: p.ats.drop (j + 1) := List.drop_eq_getElem_cons hja
      obtain ⟨x, hx⟩ : ∃ x, x = rs[j] := ⟨_, rfl⟩
      rw [← hx] at A hnm hIG
      have HIG := hide hIG.1
      have Hnm := hide hnm
      have Hdr := hide hdr
      clear hcell hx hIG hnm hdr
      obtain ⟨xn, y⟩ := x
      obtain ⟨a0, a1, a2, a3, a4, a5, a6, a7⟩ := A
      simp only at a0 a1 a2 a3 a4 a5 a6 a7
      by_cases hq : xn = nm
      · subst hq
        have HG : Hid (getP p.ats xn = some p.ats[j]) := hide (by
          rw [unhide Hget, unhide Hdr, getP, List.find?_cons]
          have : decide (p.ats[j].1 = xn) = true := decide_eq_true (unhide Hnm).symm
          rw [this])
        have Hb := hide (belowSetCells (b := w.heap.size + 1) y.cells 0 w2 b2 (Nat.le_succ _))
        have hold : IsGP w (fun b => b < w.heap.size) p.ats[j].2 y := by
          refine ⟨unhide HIG, fun ad e hl => ?_⟩
          have hG := unhide HIG
          cases hgv : p.ats[j].2 with
          | pl q =>
            rw [hgv] at hG
            have : y = ofP q := hG
            rw [this] at hl
            cases q <;> exact absurd rfl hl
          | set l =>
            rw [hgv] at hG
            obtain ⟨ao1, c1, rfl, hr1, _⟩ := hG
            have e1 : ao1 = some ad := e
            have hl' : l.length ≠ 0 := hl
            obtain ⟨b', off', e', hb', _⟩ := hr1 0 (by simp; omega)
            rw [e1] at e'
            cases e'
            exact hb'
        have Hy := hide (hold.turn (w' := w2.setCells (w.heap.size + 1) 0 y.cells) (P' := fun b => 0 ≤ b) (by rw [size_setCells]; exact b2.size) (fun b hb _ => ⟨(heap_setCells (by omega) _ _ _).trans (b2.block b hb), Nat.zero_le _⟩))
        clear hold
        go_wp2
        refine bodyPost_ret (v := .tuple #[.agg #[.int .i64 y.k, .bool y.b, .int .i64 y.n, .string y.s, .string y.t, .string y.i, .slice y.lo y.ll y.lc], .bool true]) (by simp [results, Tryz.results52, go_sem, d0, d1, d2, d3, d4, d5, d6]) rfl ⟨unhide Hb, ?_⟩
        unfold GetPost
        rw [unhide HG]
        exact ⟨y, rfl, unhide Hy⟩
      · have hb : (xn.toList == nm.toList) = false := bytes_ne hq
        have HG : Hid (getP p.ats nm = getP (p.ats.drop (j + 1)) nm) := hide (by
          rw [unhide Hget, unhide Hdr, getP, List.find?_cons]
          have : decide (p.ats[j].1 = nm) = false := decide_eq_false (by rw [← unhide Hnm]; exact hq)
          rw [this]
          rfl)
        clear hq
        go_wp2
        go_round
        case rel => exact ⟨j + 1, by omega, by go_num, unhide HG⟩
        case measure =>
          simp only [intOf]
          omega
    · obtain rfl : j = n := by omega
      have i1 : ¬ (j : Int) < (j : Int) := by omega
      have HG : Hid (getP p.ats nm = none) := hide (by
        rw [unhide Hget, List.drop_eq_nil_of_le (by rw [← (unhide HAs).1, ← unhide HAL]; exact Nat.le_refl _)]
        rfl)
      have Hb := hide (belowSetCells (b := w.heap.size + 1) zero7.cells 0 w2 b2 (Nat.le_succ _))
      go_wp2
      refine bodyPost_ret (v := .tuple #[.agg #[.int .i64 0, .bool false, .int .i64 0, .string ⟨#[]⟩, .string ⟨#[]⟩, .string ⟨#[]⟩, .slice none 0 0], .bool false]) (by simp [results, Tryz.results52, go_sem, d0, d1, d2, d3, d4, d5, d6]) rfl ⟨unhide Hb, ?_⟩
      unfold GetPost
      rw [unhide HG]
      rfl
end Go.Proofs.YtonfanfggfjbdaaGreat
