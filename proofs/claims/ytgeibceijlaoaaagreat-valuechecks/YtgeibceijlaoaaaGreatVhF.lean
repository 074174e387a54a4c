/-
  chancellaw3.few: what it returns.
-/
import Derived.Test.YtgeibceijlaoaaaGreatVhE
import Derived.Lib.QuietBelow
import Derived.BigQuiet
import Derived.Deep.QuietTactic
namespace Go.Proofs.YtgeibceijlaoaaaGreat
open Go.RowKit Go.Sort

def fewR (r : R7) : Prop := r.s.size ≤ 300 ∧ r.t.size ≤ 100 ∧ r.i.size ≤ 300

/-- What few tells: whether all is short. -/
def FewPost (r : R7) (es : List R7) (w : World) (e : Ending) (w' : World) : Prop := ∃ b, e = .returned (.bool b) ∧ Below w.heap.size w w' ∧ (b = true → fewR r ∧ es.length ≤ 20 ∧ ∀ e ∈ es, fewR e)
theorem fewPost_no {r : R7} {es : List R7} {w w' : World} (h : Below w.heap.size w w') : FewPost r es w (.returned (.bool false)) w' := ⟨false, rfl, h, fun h => by cases h⟩
theorem fewPost_yes {r : R7} {es : List R7} {w w' : World} (h : Below w.heap.size w w') (h2 : fewR r ∧ es.length ≤ 20 ∧ ∀ e ∈ es, fewR e) : FewPost r es w (.returned (.bool true)) w' := ⟨true, rfl, h, fun _ => h2⟩

set_option maxHeartbeats 8000000 in
set_option maxRecDepth 1000000 in
theorem few_any (r : R7) (es : List R7) (w : World) (h : Val3 w r es) :
    Calls Tryz.prog 8 #[r.val] w (FewPost r es w) := by
  have A := at7_new w r
  have b1 := below1 w (.cells #[.int .i64 r.k, .bool r.b, .int .i64 r.n, .string r.s, .string r.t, .string r.i, .slice r.lo r.ll r.lc] 26)
  have z1 := size1 w (.cells #[.int .i64 r.k, .bool r.b, .int .i64 r.n, .string r.s, .string r.t, .string r.i, .slice r.lo r.ll r.lc] 26)
  obtain ⟨hll, _, hrow, hsub⟩ := h
  have hrow1 := hrow.below b1
  have hsub1 : ∀ e ∈ es, ∃ ds : List R7, e.ll = ds.length ∧ RowV (w.alloc (.cells #[.int .i64 r.k, .bool r.b, .int .i64 r.n, .string r.s, .string r.t, .string r.i, .slice r.lo r.ll r.lc] 26)) e.lo ds := fun e he => by
    obtain ⟨ds, h1, _, h3⟩ := hsub e he
    exact ⟨ds, h1, h3.below b1⟩
  have Hsub := hide hsub1
  clear hsub1 hsub hrow
  obtain ⟨k, b, n, s, t, i, lo, ll, lc⟩ := r
  simp only at hll A b1 z1 hrow1
  subst hll
  unfold R7.val
  simp only
  by_cases c0 : 300 < s.size
  · have j0 : (300 : Int) < (s.size : Int) := by omega
    go_enter Tryz.func8, Tryz.ntmps8
    go_wp2
    go_ret
    exact fewPost_no (b1)
  have j0 : ¬ (300 : Int) < (s.size : Int) := by omega
  by_cases c1 : 100 < t.size
  · have j1 : (100 : Int) < (t.size : Int) := by omega
    go_enter Tryz.func8, Tryz.ntmps8
    go_wp2
    go_ret
    exact fewPost_no (b1)
  have j1 : ¬ (100 : Int) < (t.size : Int) := by omega
  by_cases c2 : 300 < i.size
  · have j2 : (300 : Int) < (i.size : Int) := by omega
    go_enter Tryz.func8, Tryz.ntmps8
    go_wp2
    go_ret
    exact fewPost_no (b1)
  have j2 : ¬ (300 : Int) < (i.size : Int) := by omega
  by_cases c3 : 20 < es.length
  · have j3 : (20 : Int) < (es.length : Int) := by omega
    go_enter Tryz.func8, Tryz.ntmps8
    go_wp2
    go_ret
    exact fewPost_no (b1)
  have j3 : ¬ (20 : Int) < (es.length : Int) := by omega
  go_enter Tryz.func8, Tryz.ntmps8
  go_wp2
  generalize hw1 : w.alloc _ = w1 at *
  have hB1 : w.heap.size < w1.heap.size := by omega
  clear hw1
  go_loopw [3] (fun iv wr => ∃ q : Nat, q ≤ es.length ∧ iv = .int .i64 q ∧ Below w1.heap.size w1 wr ∧ ∀ m (hm : m < es.length), m < q → fewR es[m]) (fun iv _ => es.length - (intOf iv).toNat)
  case atStart => exact ⟨0, Nat.zero_le _, rfl, Below.refl _ _, fun m _ h => by omega⟩
  case round =>
    obtain ⟨q, hq, rfl, hbw, hfew⟩ := hrel
    have Hfew := hide hfew
    clear hfew
    have A3 := A.below hbw hB1
    by_cases hlt : q < es.length
    · have iq : (q : Int) < (es.length : Int) := by omega
      obtain ⟨bb, off, rfl, E, hbb⟩ := rowV_at hrow1 hbw hlt
      obtain ⟨ds, hdl, hdr⟩ := unhide Hsub es[q] (List.getElem_mem _)
      have hmem : ∀ m (hm : m < es.length), m < q + 1 → fewR es[q] → fewR es[m] := fun m hm hmq hf => by
        by_cases e : m = q
        · subst e
          exact hf
        · exact unhide Hfew m hm (by omega)
      have Hmem := hide hmem
      clear hmem
      obtain ⟨e1, ee⟩ : ∃ e1, e1 = es[q] := ⟨_, rfl⟩
      rw [← ee] at E hdl hdr Hmem
      clear ee
      have Ek := hide E
      have A3k := hide A3
      obtain ⟨k1, b', n1, s1, t1, i1, lo1, ll1, lc1⟩ := e1
      simp only at hdl
      subst hdl
      obtain ⟨y0, y1, y2, y3, y4, y5, y6⟩ := E
      obtain ⟨x0, x1, x2, x3, x4, x5, x6⟩ := A3
      simp only [Nat.zero_add] at x1 x2 x3 x4 x5 x6
      have bw1 := b1.trans (hbw.mono b1.size)
      by_cases d0 : 300 < s1.size
      · have v0 : (300 : Int) < (s1.size : Int) := by omega
        go_wp2
        go_ret
        exact fewPost_no (bw1)
      have v0 : ¬ (300 : Int) < (s1.size : Int) := by omega
      by_cases d1 : 100 < t1.size
      · have v1 : (100 : Int) < (t1.size : Int) := by omega
        go_wp2
        go_ret
        exact fewPost_no (bw1)
      have v1 : ¬ (100 : Int) < (t1.size : Int) := by omega
      by_cases d2 : 300 < i1.size
      · have v2 : (300 : Int) < (i1.size : Int) := by omega
        go_wp2
        go_ret
        exact fewPost_no (bw1)
      have v2 : ¬ (300 : Int) < (i1.size : Int) := by omega
      by_cases d3 : 5 < ds.length
      · have v3 : (5 : Int) < (ds.length : Int) := by omega
        go_wp2
        go_ret
        exact fewPost_no (bw1)
      have v3 : ¬ (5 : Int) < (ds.length : Int) := by omega
      have hfe : fewR ⟨k1, b', n1, s1, t1, i1, lo1, ds.length, lc1⟩ := ⟨by show s1.size ≤ 300; omega, by show t1.size ≤ 100; omega, by show i1.size ≤ 300; omega⟩
      have Hfe := hide hfe
      clear hfe
      go_wp2
      clear x0 x1 x2 x3 x4 x5 x6 y0 y1 y2 y3 y4 y5 y6
      generalize wr = w2 at *
      have hB2 : w.heap.size < w2.heap.size := by have := hbw.size; omega
      have hbb2 : bb < w2.heap.size := by have := hbw.size; omega
      have hdr2 := hdr.below hbw
      go_loopw [4] (fun iv wr => ∃ m : Nat, m ≤ ds.length ∧ iv = .int .i64 m ∧ Below w2.heap.size w2 wr) (fun iv _ => ds.length - (intOf iv).toNat)
      case atStart => exact ⟨0, Nat.zero_le _, rfl, Below.refl _ _⟩
      case round =>
        obtain ⟨m, hm, rfl, hb2⟩ := hrel
        have A5 := (unhide A3k).below hb2 hB2
        have E5 := (unhide Ek).below hb2 hbb2
        have x6 := A5.c6
        have y6 := E5.c6
        simp only [Nat.zero_add] at x6
        have bw2 := bw1.trans (hb2.mono bw1.size)
        by_cases hml : m < ds.length
        · have im : (m : Int) < (ds.length : Int) := by omega
          obtain ⟨db, doff, rfl, D, hdb⟩ := rowV_at hdr2 hb2 hml
          obtain ⟨d1, ed⟩ : ∃ d1, d1 = ds[m] := ⟨_, rfl⟩
          rw [← ed] at D
          clear ed
          have D5 := D.up
          have x6u := A5.up.c6
          have y6u := E5.up.c6
          simp only [Nat.zero_add] at x6u
          obtain ⟨z0, z1', z2, z3, z4, z5, z6⟩ := D5
          clear D
          by_cases hd0 : 0 < d1.ll
          · have g0 : decide ((0 : Int) < (d1.ll : Int)) = true := decide_eq_true (by omega)
            have g0' : (0 : Int) < (d1.ll : Int) := by omega
            go_wp2_with fail
            clear x6 y6
            refine wp_region_quiet_below (by kernel_rfl) (by kernel_rfl) ?_
            repeat (go_big_quiet_step (fail))
            refine wpQuiet_nil ?_
            intro _ hw'
            obtain ⟨⟨dq, osq⟩, hw''⟩ := hw'
            subst hw''
            have b4 : Below w2.heap.size w2 (grow (redrawn wr dq) osq) := hb2.trans ((below_regrown wr dq osq).mono hb2.size)
            generalize grow (redrawn wr dq) osq = w4 at *
            clear x6u y6u z0 z1' z2 z3 z4 z5 z6
            go_wp2
            go_ret
            exact fewPost_no (bw1.trans (b4.mono bw1.size))
          · have g0 : decide ((0 : Int) < (d1.ll : Int)) = false := decide_eq_false (by omega)
            have g0' : ¬ (0 : Int) < (d1.ll : Int) := by omega
            go_wp2_with fail
            clear x6 y6
            refine wp_region_quiet_below (by kernel_rfl) (by kernel_rfl) ?_
            repeat (quiet_step (fail))
            refine wpQuiet_nil ?_
            intro _ hw'
            obtain ⟨⟨dq, osq⟩, hw''⟩ := hw'
            subst hw''
            have b4 : Below w2.heap.size w2 (grow (redrawn wr dq) osq) := hb2.trans ((below_regrown wr dq osq).mono hb2.size)
            generalize grow (redrawn wr dq) osq = w4 at *
            clear x6u y6u z0 z1' z2 z3 z4 z5 z6
            go_wp2
            · go_ret
              exact fewPost_no (bw1.trans (b4.mono bw1.size))
            · go_roundw
              case rel => exact ⟨m + 1, by omega, by go_num, b4⟩
              case measure =>
                simp only [intOf]
                omega
        · have im : ¬ (m : Int) < (ds.length : Int) := by omega
          go_wp2
          go_roundw
          case rel => exact ⟨q + 1, by omega, by go_num, hbw.trans (hb2.mono hbw.size), fun m' hm' hmq => unhide Hmem m' hm' hmq (unhide Hfe)⟩
          case measure =>
            simp only [intOf]
            omega
    · have iq : ¬ (q : Int) < (es.length : Int) := by omega
      obtain ⟨x0, x1, x2, x3, x4, x5, x6⟩ := A3
      simp only [Nat.zero_add] at x1 x2 x3 x4 x5 x6
      go_wp2
      go_ret
      refine fewPost_yes (b1.trans (hbw.mono b1.size)) ⟨⟨by show s.size ≤ 300; omega, by show t.size ≤ 100; omega, by show i.size ≤ 300; omega⟩, by omega, fun e he => ?_⟩
      obtain ⟨m, hm, rfl⟩ := List.getElem_of_mem he
      exact unhide Hfew m hm (by omega)
end Go.Proofs.YtgeibceijlaoaaaGreat
