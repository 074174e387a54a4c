/-
  slices.BinarySearchFunc over a rising row of plain values, by value.compare.
-/
import Derived.Test.YtgeibceijlaoaaaGreatVcD
import Derived.Test.YtgeibceijlaoaaaGreatValX
namespace Go.Proofs.YtgeibceijlaoaaaGreat
open Go.RowKit Go.Sort

theorem rowAt {w2 wr : World} {ao : Option Addr} {l : List PV} (h : RowP w2 ao l) (hbw : Below w2.heap.size w2 wr) {j : Nat} (hj : j < l.length) :
    ∃ b off a0 c0 k bb n s t i, ao = some ⟨b, off, none⟩ ∧ valP l[j] (.slice a0 0 c0) = .agg #[.int .i64 k, .bool bb, .int .i64 n, .string s, .string t, .string i, .slice a0 0 c0] ∧
      (∀ d os, (grow (redrawn wr d) os).cell? ⟨b, off + j * 7, none⟩ = some (.int .i64 k)) ∧ (∀ d os, (grow (redrawn wr d) os).cell? ⟨b, off + j * 7 + 1, none⟩ = some (.bool bb)) ∧ (∀ d os, (grow (redrawn wr d) os).cell? ⟨b, off + j * 7 + 2, none⟩ = some (.int .i64 n)) ∧
      (∀ d os, (grow (redrawn wr d) os).cell? ⟨b, off + j * 7 + 3, none⟩ = some (.string s)) ∧ (∀ d os, (grow (redrawn wr d) os).cell? ⟨b, off + j * 7 + 4, none⟩ = some (.string t)) ∧ (∀ d os, (grow (redrawn wr d) os).cell? ⟨b, off + j * 7 + 5, none⟩ = some (.string i)) ∧ (∀ d os, (grow (redrawn wr d) os).cell? ⟨b, off + j * 7 + 6, none⟩ = some (.slice a0 0 c0)) := by
  obtain ⟨b, off, a0, c0, e, hb, hc⟩ := h j hj
  generalize l[j] = p at *
  obtain ⟨k, bb, n, s, t, i, hp, hcs⟩ : ∃ k bb n s t i, valP p (.slice a0 0 c0) = val7 k bb n s t i (.slice a0 0 c0) ∧ cellsP p (.slice a0 0 c0) = [.int .i64 k, .bool bb, .int .i64 n, .string s, .string t, .string i, .slice a0 0 c0] := by
    cases p <;> exact ⟨_, _, _, _, _, _, rfl, rfl⟩
  rw [hcs] at hc
  have up : ∀ {a : Addr} {v : Value}, a.block < w2.heap.size → w2.cell? a = some v → ∀ d os, (grow (redrawn wr d) os).cell? a = some v := fun h1 h2 d os => cell_regrown ((hbw.cell h1).trans h2) d os
  exact ⟨b, off, a0, c0, k, bb, n, s, t, i, e, hp, up (a := ⟨b, off + j * 7 + 0, none⟩) hb (hc 0 _ rfl), up (a := ⟨b, off + j * 7 + 1, none⟩) hb (hc 1 _ rfl), up (a := ⟨b, off + j * 7 + 2, none⟩) hb (hc 2 _ rfl), up (a := ⟨b, off + j * 7 + 3, none⟩) hb (hc 3 _ rfl),
    up (a := ⟨b, off + j * 7 + 4, none⟩) hb (hc 4 _ rfl), up (a := ⟨b, off + j * 7 + 5, none⟩) hb (hc 5 _ rfl), up (a := ⟨b, off + j * 7 + 6, none⟩) hb (hc 6 _ rfl)⟩

/-- Where q belongs in a rising row. -/
structure Cutp (l : List PV) (q : PV) (i : Nat) : Prop where
  le : i ≤ l.length
  lo : ∀ k (h : k < l.length), k < i → lessP l[k] q = true
  hi : ∀ k (h : k < l.length), i ≤ k → lessP l[k] q = false

theorem Cutp.mem {l : List PV} {q : PV} {i : Nat} (c : Cutp l q i) (hr : Rising lessP l) : q ∈ l ↔ ∃ h : i < l.length, l[i] = q := by
  constructor
  · intro hq
    obtain ⟨k, hk, e⟩ := List.getElem_of_mem hq
    have h1 : ¬ k < i := fun h => by
      have := c.lo k hk h
      rw [e, sto_lessP.irr] at this
      cases this
    have hil : i < l.length := by omega
    refine ⟨hil, ?_⟩
    by_cases hki : k = i
    · subst hki
      exact e
    · have := List.pairwise_iff_getElem.1 hr i k hil hk (by omega)
      rw [e] at this
      have h2 := c.hi i hil (Nat.le_refl _)
      rw [this] at h2
      cases h2
  · rintro ⟨h, e⟩
    rw [← e]
    exact List.getElem_mem h

theorem below_drewN (w : World) (n : Nat) : Below w.heap.size w (w.drewN n) := ⟨rfl, rfl, rfl, Nat.le_refl _, fun _ _ => rfl⟩
theorem half (i j : Nat) (h : i < j) : i ≤ (i + j) / 2 ∧ (i + j) / 2 < j := by omega

set_option maxHeartbeats 2000000 in
set_option maxRecDepth 100000 in
theorem binSearch (l : List PV) (q : PV) (ao bo : Option Addr) (ca cb : Nat) (w : World) (hl : l.length ≤ 1048576) (hr : RowP w ao l) (hri : Rising lessP l) :
    Calls Tryz.prog 44 #[.slice ao l.length ca, valP q (.slice bo 0 cb), .func (.func 35) #[] #[]] w fun e w' => ∃ i : Nat, Cutp l q i ∧ e = .returned (.tuple #[.int .i64 i, .bool (decide (q ∈ l))]) ∧ Below w.heap.size w w' := by
  obtain ⟨k, bb, n, s, t, i, hq⟩ : ∃ k bb n s t i, valP q (.slice bo 0 cb) = val7 k bb n s t i (.slice bo 0 cb) := by
    cases q <;> exact ⟨_, _, _, _, _, _, rfl⟩
  have HQ := hide hq
  rw [hq]
  clear hq
  unfold val7
  go_enter Tryz.func44, Tryz.ntmps44
  go_wp2
  generalize hw2 : w.alloc (.cells #[.int .i64 k, .bool bb, .int .i64 n, .string s, .string t, .string i, .slice bo 0 cb] 26) = w2
  have b02 : Below w.heap.size w w2 := by rw [← hw2]; exact below1 _ _
  have z2 : w2.heap.size = w.heap.size + 1 := by rw [← hw2]; simp
  have d0 : w2.cell? ⟨w.heap.size, 0, none⟩ = some (.int .i64 k) := by rw [← hw2]; simp
  have d1 : w2.cell? ⟨w.heap.size, 1, none⟩ = some (.bool bb) := by rw [← hw2]; simp
  have d2 : w2.cell? ⟨w.heap.size, 2, none⟩ = some (.int .i64 n) := by rw [← hw2]; simp
  have d3 : w2.cell? ⟨w.heap.size, 3, none⟩ = some (.string s) := by rw [← hw2]; simp
  have d4 : w2.cell? ⟨w.heap.size, 4, none⟩ = some (.string t) := by rw [← hw2]; simp
  have d5 : w2.cell? ⟨w.heap.size, 5, none⟩ = some (.string i) := by rw [← hw2]; simp
  have d6 : w2.cell? ⟨w.heap.size, 6, none⟩ = some (.slice bo 0 cb) := by rw [← hw2]; simp
  have hr2 := hr.below b02
  clear hw2 hr
  go_loopw [9, 10] (fun iv jv wr => ∃ i j : Nat, iv = .int .i64 i ∧ jv = .int .i64 j ∧ i ≤ j ∧ j ≤ l.length ∧ Below w2.heap.size w2 wr ∧ (∀ k (h : k < l.length), k < i → lessP l[k] q = true) ∧ (∀ k (h : k < l.length), j ≤ k → lessP l[k] q = false)) (fun iv jv _ => (intOf jv).toNat - (intOf iv).toNat)
  case atStart => exact ⟨0, l.length, by go_num, rfl, Nat.zero_le _, Nat.le_refl _, Below.refl _ _, fun k _ h => absurd h (Nat.not_lt_zero _), fun k h h' => absurd h (by omega)⟩
  case round =>
    obtain ⟨x, y, rfl, rfl, hxy, hyl, hbw, hlo, hhi⟩ := hrel
    have Hlo := hide hlo
    have Hhi := hide hhi
    clear hlo hhi
    have up : ∀ {a : Addr} {v : Value}, a.block < w2.heap.size → w2.cell? a = some v → ∀ d os, (grow (redrawn wr d) os).cell? a = some v := fun h1 h2 d os => cell_regrown ((hbw.cell h1).trans h2) d os
    have D0 := up (a := ⟨w.heap.size, 0, none⟩) (by show w.heap.size < _; omega) d0
    have D1 := up (a := ⟨w.heap.size, 1, none⟩) (by show w.heap.size < _; omega) d1
    have D2 := up (a := ⟨w.heap.size, 2, none⟩) (by show w.heap.size < _; omega) d2
    have D3 := up (a := ⟨w.heap.size, 3, none⟩) (by show w.heap.size < _; omega) d3
    have D4 := up (a := ⟨w.heap.size, 4, none⟩) (by show w.heap.size < _; omega) d4
    have D5 := up (a := ⟨w.heap.size, 5, none⟩) (by show w.heap.size < _; omega) d5
    have D6 := up (a := ⟨w.heap.size, 6, none⟩) (by show w.heap.size < _; omega) d6
    by_cases hlt : x < y
    · have i1 : (x : Int) < (y : Int) := by omega
      go_wp2_with fail
      obtain ⟨m, hm⟩ : ∃ m, m = (x + y) / 2 := ⟨_, rfl⟩
      have hm1 : x ≤ m := by omega
      have hm2 : m < y := by omega
      have eh : ((x : Int) + (y : Int)) / 2 = ((m : Nat) : Int) := by omega
      have hml : m < l.length := by omega
      rw [eh]
      clear eh hm
      obtain ⟨b, off, a0, c0, k1, bb1, n1, s1, t1, i2, rfl, hv, F0, F1, F2, F3, F4, F5, F6⟩ := rowAt hr2 hbw hml
      have SM := compare_plain l[m] q a0 bo 0 c0 0 cb
      rw [hv, unhide HQ] at SM
      unfold val7 at SM
      have HX := hide (less_cmp l[m] q)
      generalize cmpP l[m] q = r at *
      have j1 : (m : Int) < (l.length : Int) := by omega
      have j0 : (0 : Int) ≤ (m : Int) := by omega
      have cS := fun d os => Calls.regrown_of (w := wr) (d := d) (os := os) (SM (grow (redrawn wr d) os))
      clear hv SM up d0 d1 d2 d3 d4 d5 d6 HQ
      have R2 := hide hr2
      clear hr2
      refine wp_region_quiet_below (by kernel_rfl) (by kernel_rfl) ?_
      repeat (quiet_step (exact cS _ _))
      refine wpQuiet_nil ?_
      intro _ hw'
      obtain ⟨⟨dq, osq⟩, hw''⟩ := hw'
      subst hw''
      have hbw3 : Below w2.heap.size w2 (grow (redrawn wr dq) osq) := hbw.trans ((below_regrown wr dq osq).mono hbw.size)
      by_cases hrn : r < 0
      · have hx := unhide HX
        rw [decide_eq_true hrn] at hx
        have Hx := hide hx
        clear hx HX
        go_wp2
        go_roundw
        case rel =>
          refine ⟨m + 1, y, by go_num, rfl, by omega, by omega, hbw3, fun k hk hk' => ?_, unhide Hhi⟩
          by_cases e : k < m
          · by_cases e2 : k < x
            · exact unhide Hlo k hk e2
            · exact sto_lessP.trans _ _ _ (List.pairwise_iff_getElem.1 hri k m hk hml e) (unhide Hx).symm
          · have : k = m := by omega
            subst this
            exact (unhide Hx).symm
        case measure =>
          simp only [intOf]
          omega
      · have hx := unhide HX
        rw [decide_eq_false hrn] at hx
        have Hx := hide hx
        clear hx HX
        go_wp2
        go_roundw
        case rel =>
          refine ⟨x, m, rfl, rfl, by omega, by omega, hbw3, unhide Hlo, fun k hk hk' => ?_⟩
          by_cases e : k = m
          · subst e
            exact (unhide Hx).symm
          · have h1 := List.pairwise_iff_getElem.1 hri m k hml hk (by omega)
            cases h2 : lessP l[k] q
            · rfl
            · have h3 := sto_lessP.trans _ _ _ h1 h2
              have h4 := (unhide Hx).symm
              rw [h3] at h4
              cases h4
        case measure =>
          simp only [intOf]
          omega
    · have i1 : ¬ (x : Int) < (y : Int) := by omega
      have exy : y = x := by omega
      subst exy
      have C : Cutp l q y := ⟨hyl, unhide Hlo, unhide Hhi⟩
      by_cases hil : y < l.length
      · have j1 : (y : Int) < (l.length : Int) := by omega
        have j0 : (0 : Int) ≤ (y : Int) := by omega
        have hg : decide ((y : Int) < (l.length : Int)) = true := decide_eq_true j1
        obtain ⟨b, off, a0, c0, k1, bb1, n1, s1, t1, i2, rfl, hv, F0, F1, F2, F3, F4, F5, F6⟩ := rowAt hr2 hbw hil
        have SM := compare_plain l[y] q a0 bo 0 c0 0 cb
        rw [hv, unhide HQ] at SM
        unfold val7 at SM
        have HX := hide (same_cmp l[y] q)
        generalize cmpP l[y] q = r at *
        have cS := fun d os => Calls.regrown_of (w := wr) (d := d) (os := os) (SM (grow (redrawn wr d) os))
        have HC := hide C
        clear hv SM up d0 d1 d2 d3 d4 d5 d6 HQ C
        have R2 := hide hr2
        clear hr2
        go_wp2_with fail
        refine wp_region_quiet_below (by kernel_rfl) (by kernel_rfl) ?_
        repeat (quiet_step (exact cS _ _))
        refine wpQuiet_nil ?_
        intro _ hw'
        obtain ⟨⟨dq, osq⟩, hw''⟩ := hw'
        subst hw''
        have hbw3 : Below w2.heap.size w2 (grow (redrawn wr dq) osq) := hbw.trans ((below_regrown wr dq osq).mono hbw.size)
        go_wp2
        go_ret2
        refine ⟨y, unhide HC, ?_, b02.trans (hbw3.mono b02.size)⟩
        rw [show (decide (q ∈ l)) = (r == 0) by
          rw [unhide HX]
          exact decide_eq_decide.2 ⟨fun h => ((unhide HC).mem hri |>.1 h).2, fun h => (unhide HC).mem hri |>.2 ⟨hil, h⟩⟩]
        rfl
      · have j1 : ¬ (y : Int) < (l.length : Int) := by omega
        have hg : decide ((y : Int) < (l.length : Int)) = false := decide_eq_false j1
        have HC := hide C
        clear HQ C up d0 d1 d2 d3 d4 d5 d6
        have R2 := hide hr2
        clear hr2
        go_wp2_with fail
        go_quiet (fail)
        have hbw3 : Below w2.heap.size w2 (wr.drewN nq) := hbw.trans ((below_drewN wr nq).mono hbw.size)
        go_wp2
        go_ret2
        refine ⟨y, unhide HC, ?_, b02.trans (hbw3.mono b02.size)⟩
        rw [decide_eq_false (fun h => hil ((unhide HC).mem hri |>.1 h).1)]
        rfl
end Go.Proofs.YtgeibceijlaoaaaGreat
