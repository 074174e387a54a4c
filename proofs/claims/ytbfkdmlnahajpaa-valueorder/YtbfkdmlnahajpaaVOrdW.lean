/-
  chancellaw3.ValueOrder: the walk.
-/
import Derived.Test.YtbfkdmlnahajpaaVOrdP
import Derived.Deep.Cut
namespace Go.Proofs.Ytbfkdmlnahajpaa
open Go.RowKit Go.Sort

set_option maxHeartbeats 4000000 in
set_option maxRecDepth 1000000 in
theorem order_walk (r0 r1 r2 : RawE) (lo0 lo1 lo2 : Option Addr) (es0 es1 es2 : List RawE) (lc0 lc1 lc2 : Nat) (w : World) (hr0 : r0.Ok w) (hr1 : r1.Ok w) (hr2 : r2.Ok w) (hl0 : es0.length ≤ 9223372036854775807) (hl1 : es1.length ≤ 9223372036854775807) (hl2 : es2.length ≤ 9223372036854775807) (hs0 : RowRaw w lo0 es0) (hs1 : RowRaw w lo1 es1) (hs2 : RowRaw w lo2 es2) :
    Calls Try.prog 3 #[.agg #[.int .i64 r0.k, .int .i64 r0.n, .slice r0.so r0.xs.length r0.sc, .slice lo0 es0.length lc0], .agg #[.int .i64 r1.k, .int .i64 r1.n, .slice r1.so r1.xs.length r1.sc, .slice lo1 es1.length lc1], .agg #[.int .i64 r2.k, .int .i64 r2.n, .slice r2.so r2.xs.length r2.sc, .slice lo2 es2.length lc2]] w fun e w' => e = .returned (.bool true) ∧ Below w.heap.size w w' := by
  have K := known3_any
  have GD0 : ∀ w', Below w.heap.size w w' → Calls Try.prog 6 #[.agg #[.int .i64 r0.k, .int .i64 r0.n, .slice r0.so r0.xs.length r0.sc, .slice lo0 es0.length lc0]] w' fun e w'' => Below w'.heap.size w' w'' ∧ ∃ R, e = .returned R.val ∧ IsG w'' (goodG r0 es0) R := fun w' hb => good3_any r0 lo0 es0 lc0 w' (hr0.below hb) hl0 (hs0.below hb)
  have GD1 : ∀ w', Below w.heap.size w w' → Calls Try.prog 6 #[.agg #[.int .i64 r1.k, .int .i64 r1.n, .slice r1.so r1.xs.length r1.sc, .slice lo1 es1.length lc1]] w' fun e w'' => Below w'.heap.size w' w'' ∧ ∃ R, e = .returned R.val ∧ IsG w'' (goodG r1 es1) R := fun w' hb => good3_any r1 lo1 es1 lc1 w' (hr1.below hb) hl1 (hs1.below hb)
  have GD2 : ∀ w', Below w.heap.size w w' → Calls Try.prog 6 #[.agg #[.int .i64 r2.k, .int .i64 r2.n, .slice r2.so r2.xs.length r2.sc, .slice lo2 es2.length lc2]] w' fun e w'' => Below w'.heap.size w' w'' ∧ ∃ R, e = .returned R.val ∧ IsG w'' (goodG r2 es2) R := fun w' hb => good3_any r2 lo2 es2 lc2 w' (hr2.below hb) hl2 (hs2.below hb)
  have sg0 := smallG_good r0 es0
  have sg1 := smallG_good r1 es1
  have sg2 := smallG_good r2 es2
  generalize goodG r0 es0 = g0 at *
  generalize goodG r1 es1 = g1 at *
  generalize goodG r2 es2 = g2 at *
  clear hr0 hr1 hr2 hl0 hl1 hl2 hs0 hs1 hs2
  go_enter Try.func3, Try.ntmps3
  go_wp2_with fail
  have b3 := (below2 w (.cells #[.int .i64 r0.k, .int .i64 r0.n, .slice r0.so r0.xs.length r0.sc, .slice lo0 es0.length lc0] 25) (.cells #[.int .i64 r1.k, .int .i64 r1.n, .slice r1.so r1.xs.length r1.sc, .slice lo1 es1.length lc1] 25)).alloc (by simp; omega) (.cells #[.int .i64 r2.k, .int .i64 r2.n, .slice r2.so r2.xs.length r2.sc, .slice lo2 es2.length lc2] 25)
  generalize hw3 : ((w.alloc (.cells #[.int .i64 r0.k, .int .i64 r0.n, .slice r0.so r0.xs.length r0.sc, .slice lo0 es0.length lc0] 25)).alloc (.cells #[.int .i64 r1.k, .int .i64 r1.n, .slice r1.so r1.xs.length r1.sc, .slice lo1 es1.length lc1] 25)).alloc (.cells #[.int .i64 r2.k, .int .i64 r2.n, .slice r2.so r2.xs.length r2.sc, .slice lo2 es2.length lc2] 25) = w3 at *
  have Z3 := hide (show w3.heap.size = w.heap.size + 3 by rw [← hw3]; simp)
  have x00 : w3.cell? ⟨w.heap.size, 0, none⟩ = some (.int .i64 r0.k) := by rw [← hw3]; simp [go_sem]
  have x01 : w3.cell? ⟨w.heap.size, 1, none⟩ = some (.int .i64 r0.n) := by rw [← hw3]; simp [go_sem]
  have x02 : w3.cell? ⟨w.heap.size, 2, none⟩ = some (.slice r0.so r0.xs.length r0.sc) := by rw [← hw3]; simp [go_sem]
  have x03 : w3.cell? ⟨w.heap.size, 3, none⟩ = some (.slice lo0 es0.length lc0) := by rw [← hw3]; simp [go_sem]
  have x10 : w3.cell? ⟨w.heap.size + 1, 0, none⟩ = some (.int .i64 r1.k) := by rw [← hw3]; simp [go_sem]
  have x11 : w3.cell? ⟨w.heap.size + 1, 1, none⟩ = some (.int .i64 r1.n) := by rw [← hw3]; simp [go_sem]
  have x12 : w3.cell? ⟨w.heap.size + 1, 2, none⟩ = some (.slice r1.so r1.xs.length r1.sc) := by rw [← hw3]; simp [go_sem]
  have x13 : w3.cell? ⟨w.heap.size + 1, 3, none⟩ = some (.slice lo1 es1.length lc1) := by rw [← hw3]; simp [go_sem]
  have x20 : w3.cell? ⟨w.heap.size + 2, 0, none⟩ = some (.int .i64 r2.k) := by rw [← hw3]; simp [go_sem]
  have x21 : w3.cell? ⟨w.heap.size + 2, 1, none⟩ = some (.int .i64 r2.n) := by rw [← hw3]; simp [go_sem]
  have x22 : w3.cell? ⟨w.heap.size + 2, 2, none⟩ = some (.slice r2.so r2.xs.length r2.sc) := by rw [← hw3]; simp [go_sem]
  have x23 : w3.cell? ⟨w.heap.size + 2, 3, none⟩ = some (.slice lo2 es2.length lc2) := by rw [← hw3]; simp [go_sem]
  clear hw3
  refine (K _).mono ?_
  rintro e w4 ⟨rfl, b34⟩
  clear K
  have L3 : w.heap.size + 2 < w3.heap.size := by have := unhide Z3; omega
  have b4 := b3.trans (b34.mono b3.size)
  go_wp2_with fail
  refine wp_specsA_put 9 (ordSp w.heap.size (.agg #[.int .i64 r0.k, .int .i64 r0.n, .slice r0.so r0.xs.length r0.sc, .slice lo0 es0.length lc0]) (.agg #[.int .i64 r1.k, .int .i64 r1.n, .slice r1.so r1.xs.length r1.sc, .slice lo1 es1.length lc1]) (.agg #[.int .i64 r2.k, .int .i64 r2.n, .slice r2.so r2.xs.length r2.sc, .slice lo2 es2.length lc2]) g0 g1 g2) (News [7, 8, 9] w4) (by kernel_rfl) (by kernel_rfl) ⟨(Below.refl _ w4).drew, fun s hs b hb => ?_, fun s hs t ht hst b hb => ?_⟩ ?_ ?_
  · simp only [List.mem_cons, List.not_mem_nil, or_false] at hs
    rcases hs with rfl | rfl | rfl <;> cases hb
  · simp only [List.mem_cons, List.not_mem_nil, or_false] at hs
    rcases hs with rfl | rfl | rfl <;> cases hb
  · intro i o hi ho a' w' hR hdep hslot K hK
    have hcell : ∀ b o, b < w3.heap.size → w'.cell? ⟨b, o, none⟩ = w3.cell? ⟨b, o, none⟩ := fun b o hb => by
      have z := b34.size
      rw [hR.below.cell (p := ⟨b, o, none⟩) (by show b < _; omega), b34.cell (p := ⟨b, o, none⟩) hb]
    match i, hi with
    | 0, _ =>
      cases ho
      have e : a'.tmps.getD 3 undef = .pointer (some ⟨w.heap.size, 0, none⟩) := hslot 3 (by decide)
      have c0 := (hcell _ 0 (by omega)).trans x00
      have c1 := (hcell _ 1 (by omega)).trans x01
      have c2 := (hcell _ 2 (by omega)).trans x02
      have c3 := (hcell _ 3 (by omega)).trans x03
      unfold Oper.wp
      go_simp
      exact hK _ _ rfl (hR.other (Below.refl _ _) _ _ (by decide)) (fun _ _ h => h)
    | 1, _ =>
      cases ho
      have e1 : a'.tmps.getD 12 undef = _ := hdep 0 (by kernel_rfl)
      have PW := GD0 w' (b4.trans (hR.below.mono b4.size))
      clear GD0 GD1 GD2
      unfold Oper.wp
      go_simp
      refine PW.mono ?_
      rintro e w5 ⟨b5, R, rfl, hg⟩
      exact hK _ _ ⟨R, rfl, hg⟩ (hR.other b5 _ _ (by decide)) (ordSp_up b5)
    | 2, _ =>
      cases ho
      have e : a'.tmps.getD 4 undef = .pointer (some ⟨w.heap.size + 1, 0, none⟩) := hslot 4 (by decide)
      have c0 := (hcell _ 0 (by omega)).trans x10
      have c1 := (hcell _ 1 (by omega)).trans x11
      have c2 := (hcell _ 2 (by omega)).trans x12
      have c3 := (hcell _ 3 (by omega)).trans x13
      unfold Oper.wp
      go_simp
      exact hK _ _ rfl (hR.other (Below.refl _ _) _ _ (by decide)) (fun _ _ h => h)
    | 3, _ =>
      cases ho
      have e1 : a'.tmps.getD 14 undef = _ := hdep 2 (by kernel_rfl)
      have PW := GD1 w' (b4.trans (hR.below.mono b4.size))
      clear GD0 GD1 GD2
      unfold Oper.wp
      go_simp
      refine PW.mono ?_
      rintro e w5 ⟨b5, R, rfl, hg⟩
      exact hK _ _ ⟨R, rfl, hg⟩ (hR.other b5 _ _ (by decide)) (ordSp_up b5)
    | 4, _ =>
      cases ho
      have e : a'.tmps.getD 5 undef = .pointer (some ⟨w.heap.size + 2, 0, none⟩) := hslot 5 (by decide)
      have c0 := (hcell _ 0 (by omega)).trans x20
      have c1 := (hcell _ 1 (by omega)).trans x21
      have c2 := (hcell _ 2 (by omega)).trans x22
      have c3 := (hcell _ 3 (by omega)).trans x23
      unfold Oper.wp
      go_simp
      exact hK _ _ rfl (hR.other (Below.refl _ _) _ _ (by decide)) (fun _ _ h => h)
    | 5, _ =>
      cases ho
      have e1 : a'.tmps.getD 16 undef = _ := hdep 4 (by kernel_rfl)
      have PW := GD2 w' (b4.trans (hR.below.mono b4.size))
      clear GD0 GD1 GD2
      unfold Oper.wp
      go_simp
      refine PW.mono ?_
      rintro e w5 ⟨b5, R, rfl, hg⟩
      exact hK _ _ ⟨R, rfl, hg⟩ (hR.other b5 _ _ (by decide)) (ordSp_up b5)
    | 6, _ =>
      cases ho
      unfold Oper.wp
      go_simp
      exact hK _ _ ⟨_, rfl, freshO_new w' (Nat.le_trans b4.size hR.below.size)⟩ (hR.new _ _) (ordSp_up (below1 _ _))
    | 7, _ =>
      cases ho
      unfold Oper.wp
      go_simp
      exact hK _ _ ⟨_, rfl, freshO_new w' (Nat.le_trans b4.size hR.below.size)⟩ (hR.new _ _) (ordSp_up (below1 _ _))
    | 8, _ =>
      cases ho
      unfold Oper.wp
      go_simp
      exact hK _ _ ⟨_, rfl, freshO_new w' (Nat.le_trans b4.size hR.below.size)⟩ (hR.new _ _) (ordSp_up (below1 _ _))
  · intro v w5 hR hall
    have f0 : v 0 = _ := hall 0 (by decide)
    have f2 : v 2 = _ := hall 2 (by decide)
    have f4 : v 4 = _ := hall 4 (by decide)
    obtain ⟨R0, f1, q0⟩ : ∃ R : R7, v 1 = R.val ∧ IsG w5 g0 R := hall 1 (by decide)
    obtain ⟨R1, f3, q1⟩ : ∃ R : R7, v 3 = R.val ∧ IsG w5 g1 R := hall 3 (by decide)
    obtain ⟨R2, f5, q2⟩ : ∃ R : R7, v 5 = R.val ∧ IsG w5 g2 R := hall 5 (by decide)
    obtain ⟨c0, f6, F0⟩ : ∃ b, v 6 = .pointer (some ⟨b, 0, none⟩) ∧ FreshO w.heap.size w5 b := hall 6 (by decide)
    obtain ⟨c1, f7, F1⟩ : ∃ b, v 7 = .pointer (some ⟨b, 0, none⟩) ∧ FreshO w.heap.size w5 b := hall 7 (by decide)
    obtain ⟨c2, f8, F2⟩ : ∃ b, v 8 = .pointer (some ⟨b, 0, none⟩) ∧ FreshO w.heap.size w5 b := hall 8 (by decide)
    have n01 : c0 ≠ c1 := fun e => hR.ne 7 (by decide) 8 (by decide) (by decide) c0 ((show _ = v 6 from by kernel_rfl).trans f6) ((show _ = v 7 from by kernel_rfl).trans (by rw [e]; exact f7))
    have n02 : c0 ≠ c2 := fun e => hR.ne 7 (by decide) 9 (by decide) (by decide) c0 ((show _ = v 6 from by kernel_rfl).trans f6) ((show _ = v 8 from by kernel_rfl).trans (by rw [e]; exact f8))
    have n12 : c1 ≠ c2 := fun e => hR.ne 8 (by decide) 9 (by decide) (by decide) c1 ((show _ = v 7 from by kernel_rfl).trans f7) ((show _ = v 8 from by kernel_rfl).trans (by rw [e]; exact f8))
    have b5 := b4.trans (hR.below.mono b4.size)
    clear hR hall GD0 GD1 GD2
    simp only [putAll, dstOf, List.getElem?_cons_zero, List.getElem?_cons_succ, Option.bind_some, List.drop_succ_cons, List.drop_zero, f0, f1, f2, f3, f4, f5, f6, f7, f8]
    clear f0 f1 f2 f3 f4 f5 f6 f7 f8
    have E0 := F0.cells
    have E1 := F1.cells
    have E2 := F2.cells
    have G0 := F0.free
    have G1 := F1.free
    have G2 := F2.free
    have bW := set7_below (set7_below (set7_below b5 F0.ge (.int .i64 R0.k) (.bool R0.b) (.int .i64 R0.n) (.string R0.s) (.string R0.t) (.string R0.i) (.slice R0.lo R0.ll R0.lc)) F1.ge (.int .i64 R1.k) (.bool R1.b) (.int .i64 R1.n) (.string R1.s) (.string R1.t) (.string R1.i) (.slice R1.lo R1.ll R1.lc)) F2.ge (.int .i64 R2.k) (.bool R2.b) (.int .i64 R2.n) (.string R2.s) (.string R2.t) (.string R2.i) (.slice R2.lo R2.ll R2.lc)
    have F1a := F1.set7 n01 R0
    have F2a := (F2.set7 n02 R0).set7 n12 R1
    have p0 := ((q0.set7 F0 R0).set7 F1a R1).set7 F2a R2
    have p1 := ((q1.set7 F0 R0).set7 F1a R1).set7 F2a R2
    have p2 := ((q2.set7 F0 R0).set7 F1a R1).set7 F2a R2
    have A0 := at7_otherO (at7_otherO (at7_setO F0.cells R0) (Ne.symm n01) R1) (Ne.symm n02) R2
    have A1 := at7_otherO (at7_setO F1a.cells R1) (Ne.symm n12) R2
    have A2 := at7_setO F2a.cells R2
    clear F0 F1 F2 F1a F2a q0 q1 q2 b5
    unfold set7 at p0 p1 p2 A0 A1 A2
    unfold R7.val
    obtain ⟨a0, a1, a2, a3, a4, a5, a6⟩ := E0
    obtain ⟨d0, d1, d2, d3, d4, d5, d6⟩ := E1
    obtain ⟨k0, k1, k2, k3, k4, k5, k6⟩ := E2
    simp only [Nat.zero_add] at a1 a2 a3 a4 a5 a6 d1 d2 d3 d4 d5 d6 k1 k2 k3 k4 k5 k6
    go_upto_region 4 with fail
    generalize hW : (World.setCell (World.setCell (World.setCell (World.setCell (World.setCell (World.setCell (World.setCell (World.setCell (World.setCell (World.setCell (World.setCell (World.setCell (World.setCell (World.setCell (World.setCell (World.setCell (World.setCell (World.setCell (World.setCell (World.setCell (World.setCell w5 _ _) _ _) _ _) _ _) _ _) _ _) _ _) _ _) _ _) _ _) _ _) _ _) _ _) _ _) _ _) _ _) _ _) _ _) _ _) _ _) _ _) = W at *
    clear hW a0 a1 a2 a3 a4 a5 a6 d0 d1 d2 d3 d4 d5 d6 k0 k1 k2 k3 k4 k5 k6 G0 G1 G2
    have l0 := cell_lt7 A0.c0
    have l1 := cell_lt7 A1.c0
    have l2 := cell_lt7 A2.c0
    have asym : ∀ {x y : GV}, lessG x y = true → lessG y x = false := fun {x y} h => by
      cases h' : lessG y x
      · rfl
      · have := sto_lessG.trans _ _ _ h h'
        rw [sto_lessG.irr] at this
        cases this
    have unlike : ∀ {x y : GV}, x ≠ y → sameG x y = false := fun {x y} h => by
      cases h' : sameG x y
      · rfl
      · exact absurd ((sameG_iff x y).1 h') h
    have neq : ∀ {x y : GV}, lessG x y = true → x ≠ y := fun h e => by rw [e, sto_lessG.irr] at h; cases h
    rcases sto_lessG.tri g0 g1 with h | h | h
    · have h10 := asym h
      have s01 := unlike (neq h)
      cases h12 : lessG g1 g2
      · clear asym unlike neq
        have C := less_G g0 g1 R0 R1 W (p0.below (Below.refl W.heap.size W)) (p1.below (Below.refl W.heap.size W)) sg0 sg1
        rw [h] at C
        unfold R7.val at C
        obtain ⟨a0, a1, a2, a3, a4, a5, a6⟩ := A0.below (Below.refl W.heap.size W) l0
        obtain ⟨d0, d1, d2, d3, d4, d5, d6⟩ := A1.below (Below.refl W.heap.size W) l1
        simp only [Nat.zero_add] at a1 a2 a3 a4 a5 a6 d1 d2 d3 d4 d5 d6
        go_wp2_with fail
        refine C.mono ?_
        clear C a0 a1 a2 a3 a4 a5 a6 d0 d1 d2 d3 d4 d5 d6
        rintro e y1 ⟨rfl, cy1⟩
        have by1 := (Below.refl W.heap.size W).trans (cy1.mono (Below.refl W.heap.size W).size)
        clear cy1
        have C := less_G g1 g0 R1 R0 y1 (p1.below by1) (p0.below by1) sg1 sg0
        rw [h10] at C
        unfold R7.val at C
        obtain ⟨a0, a1, a2, a3, a4, a5, a6⟩ := A1.below by1 l1
        obtain ⟨d0, d1, d2, d3, d4, d5, d6⟩ := A0.below by1 l0
        simp only [Nat.zero_add] at a1 a2 a3 a4 a5 a6 d1 d2 d3 d4 d5 d6
        go_wp2_with fail
        refine C.mono ?_
        clear C a0 a1 a2 a3 a4 a5 a6 d0 d1 d2 d3 d4 d5 d6
        rintro e y2 ⟨rfl, cy2⟩
        have by2 := by1.trans (cy2.mono by1.size)
        clear cy2
        have C := same_G g0 g1 R0 R1 y2 (p0.below by2) (p1.below by2) sg0 sg1
        rw [s01] at C
        unfold R7.val at C
        obtain ⟨a0, a1, a2, a3, a4, a5, a6⟩ := A0.below by2 l0
        obtain ⟨d0, d1, d2, d3, d4, d5, d6⟩ := A1.below by2 l1
        simp only [Nat.zero_add] at a1 a2 a3 a4 a5 a6 d1 d2 d3 d4 d5 d6
        go_wp2_with fail
        refine C.mono ?_
        clear C a0 a1 a2 a3 a4 a5 a6 d0 d1 d2 d3 d4 d5 d6
        rintro e y3 ⟨rfl, cy3⟩
        have by3 := by2.trans (cy3.mono by2.size)
        clear cy3
        have C := less_G g0 g1 R0 R1 y3 (p0.below by3) (p1.below by3) sg0 sg1
        rw [h] at C
        unfold R7.val at C
        obtain ⟨a0, a1, a2, a3, a4, a5, a6⟩ := A0.below by3 l0
        obtain ⟨d0, d1, d2, d3, d4, d5, d6⟩ := A1.below by3 l1
        simp only [Nat.zero_add] at a1 a2 a3 a4 a5 a6 d1 d2 d3 d4 d5 d6
        go_wp2_with fail
        refine C.mono ?_
        clear C a0 a1 a2 a3 a4 a5 a6 d0 d1 d2 d3 d4 d5 d6
        rintro e y4 ⟨rfl, cy4⟩
        have by4 := by3.trans (cy4.mono by3.size)
        clear cy4
        have C := less_G g0 g1 R0 R1 y4 (p0.below by4) (p1.below by4) sg0 sg1
        rw [h] at C
        unfold R7.val at C
        obtain ⟨a0, a1, a2, a3, a4, a5, a6⟩ := A0.below by4 l0
        obtain ⟨d0, d1, d2, d3, d4, d5, d6⟩ := A1.below by4 l1
        simp only [Nat.zero_add] at a1 a2 a3 a4 a5 a6 d1 d2 d3 d4 d5 d6
        go_wp2_with fail
        refine C.mono ?_
        clear C a0 a1 a2 a3 a4 a5 a6 d0 d1 d2 d3 d4 d5 d6
        rintro e y5 ⟨rfl, cy5⟩
        have by5 := by4.trans (cy5.mono by4.size)
        clear cy5
        have C := less_G g1 g2 R1 R2 y5 (p1.below by5) (p2.below by5) sg1 sg2
        rw [h12] at C
        unfold R7.val at C
        obtain ⟨a0, a1, a2, a3, a4, a5, a6⟩ := A1.below by5 l1
        obtain ⟨d0, d1, d2, d3, d4, d5, d6⟩ := A2.below by5 l2
        simp only [Nat.zero_add] at a1 a2 a3 a4 a5 a6 d1 d2 d3 d4 d5 d6
        go_wp2_with fail
        refine C.mono ?_
        clear C a0 a1 a2 a3 a4 a5 a6 d0 d1 d2 d3 d4 d5 d6
        rintro e y6 ⟨rfl, cy6⟩
        have by6 := by5.trans (cy6.mono by5.size)
        clear cy6
        go_wp2
        go_ret
        exact ⟨rfl, bW.trans (by6.mono bW.size)⟩
      · have h02 := sto_lessG.trans _ _ _ h h12
        clear asym unlike neq
        have C := less_G g0 g1 R0 R1 W (p0.below (Below.refl W.heap.size W)) (p1.below (Below.refl W.heap.size W)) sg0 sg1
        rw [h] at C
        unfold R7.val at C
        obtain ⟨a0, a1, a2, a3, a4, a5, a6⟩ := A0.below (Below.refl W.heap.size W) l0
        obtain ⟨d0, d1, d2, d3, d4, d5, d6⟩ := A1.below (Below.refl W.heap.size W) l1
        simp only [Nat.zero_add] at a1 a2 a3 a4 a5 a6 d1 d2 d3 d4 d5 d6
        go_wp2_with fail
        refine C.mono ?_
        clear C a0 a1 a2 a3 a4 a5 a6 d0 d1 d2 d3 d4 d5 d6
        rintro e y7 ⟨rfl, cy7⟩
        have by7 := (Below.refl W.heap.size W).trans (cy7.mono (Below.refl W.heap.size W).size)
        clear cy7
        have C := less_G g1 g0 R1 R0 y7 (p1.below by7) (p0.below by7) sg1 sg0
        rw [h10] at C
        unfold R7.val at C
        obtain ⟨a0, a1, a2, a3, a4, a5, a6⟩ := A1.below by7 l1
        obtain ⟨d0, d1, d2, d3, d4, d5, d6⟩ := A0.below by7 l0
        simp only [Nat.zero_add] at a1 a2 a3 a4 a5 a6 d1 d2 d3 d4 d5 d6
        go_wp2_with fail
        refine C.mono ?_
        clear C a0 a1 a2 a3 a4 a5 a6 d0 d1 d2 d3 d4 d5 d6
        rintro e y8 ⟨rfl, cy8⟩
        have by8 := by7.trans (cy8.mono by7.size)
        clear cy8
        have C := same_G g0 g1 R0 R1 y8 (p0.below by8) (p1.below by8) sg0 sg1
        rw [s01] at C
        unfold R7.val at C
        obtain ⟨a0, a1, a2, a3, a4, a5, a6⟩ := A0.below by8 l0
        obtain ⟨d0, d1, d2, d3, d4, d5, d6⟩ := A1.below by8 l1
        simp only [Nat.zero_add] at a1 a2 a3 a4 a5 a6 d1 d2 d3 d4 d5 d6
        go_wp2_with fail
        refine C.mono ?_
        clear C a0 a1 a2 a3 a4 a5 a6 d0 d1 d2 d3 d4 d5 d6
        rintro e y9 ⟨rfl, cy9⟩
        have by9 := by8.trans (cy9.mono by8.size)
        clear cy9
        have C := less_G g0 g1 R0 R1 y9 (p0.below by9) (p1.below by9) sg0 sg1
        rw [h] at C
        unfold R7.val at C
        obtain ⟨a0, a1, a2, a3, a4, a5, a6⟩ := A0.below by9 l0
        obtain ⟨d0, d1, d2, d3, d4, d5, d6⟩ := A1.below by9 l1
        simp only [Nat.zero_add] at a1 a2 a3 a4 a5 a6 d1 d2 d3 d4 d5 d6
        go_wp2_with fail
        refine C.mono ?_
        clear C a0 a1 a2 a3 a4 a5 a6 d0 d1 d2 d3 d4 d5 d6
        rintro e y10 ⟨rfl, cy10⟩
        have by10 := by9.trans (cy10.mono by9.size)
        clear cy10
        have C := less_G g0 g1 R0 R1 y10 (p0.below by10) (p1.below by10) sg0 sg1
        rw [h] at C
        unfold R7.val at C
        obtain ⟨a0, a1, a2, a3, a4, a5, a6⟩ := A0.below by10 l0
        obtain ⟨d0, d1, d2, d3, d4, d5, d6⟩ := A1.below by10 l1
        simp only [Nat.zero_add] at a1 a2 a3 a4 a5 a6 d1 d2 d3 d4 d5 d6
        go_wp2_with fail
        refine C.mono ?_
        clear C a0 a1 a2 a3 a4 a5 a6 d0 d1 d2 d3 d4 d5 d6
        rintro e y11 ⟨rfl, cy11⟩
        have by11 := by10.trans (cy11.mono by10.size)
        clear cy11
        have C := less_G g1 g2 R1 R2 y11 (p1.below by11) (p2.below by11) sg1 sg2
        rw [h12] at C
        unfold R7.val at C
        obtain ⟨a0, a1, a2, a3, a4, a5, a6⟩ := A1.below by11 l1
        obtain ⟨d0, d1, d2, d3, d4, d5, d6⟩ := A2.below by11 l2
        simp only [Nat.zero_add] at a1 a2 a3 a4 a5 a6 d1 d2 d3 d4 d5 d6
        go_wp2_with fail
        refine C.mono ?_
        clear C a0 a1 a2 a3 a4 a5 a6 d0 d1 d2 d3 d4 d5 d6
        rintro e y12 ⟨rfl, cy12⟩
        have by12 := by11.trans (cy12.mono by11.size)
        clear cy12
        have C := less_G g0 g2 R0 R2 y12 (p0.below by12) (p2.below by12) sg0 sg2
        rw [h02] at C
        unfold R7.val at C
        obtain ⟨a0, a1, a2, a3, a4, a5, a6⟩ := A0.below by12 l0
        obtain ⟨d0, d1, d2, d3, d4, d5, d6⟩ := A2.below by12 l2
        simp only [Nat.zero_add] at a1 a2 a3 a4 a5 a6 d1 d2 d3 d4 d5 d6
        go_wp2_with fail
        refine C.mono ?_
        clear C a0 a1 a2 a3 a4 a5 a6 d0 d1 d2 d3 d4 d5 d6
        rintro e y13 ⟨rfl, cy13⟩
        have by13 := by12.trans (cy13.mono by12.size)
        clear cy13
        go_wp2
        go_ret
        exact ⟨rfl, bW.trans (by13.mono bW.size)⟩
    · have h01 : lessG g0 g1 = false := by rw [h, sto_lessG.irr]
      have s01 : sameG g0 g1 = true := (sameG_iff g0 g1).2 h
      clear asym unlike neq h
      have C := less_G g0 g1 R0 R1 W (p0.below (Below.refl W.heap.size W)) (p1.below (Below.refl W.heap.size W)) sg0 sg1
      rw [h01] at C
      unfold R7.val at C
      obtain ⟨a0, a1, a2, a3, a4, a5, a6⟩ := A0.below (Below.refl W.heap.size W) l0
      obtain ⟨d0, d1, d2, d3, d4, d5, d6⟩ := A1.below (Below.refl W.heap.size W) l1
      simp only [Nat.zero_add] at a1 a2 a3 a4 a5 a6 d1 d2 d3 d4 d5 d6
      go_wp2_with fail
      refine C.mono ?_
      clear C a0 a1 a2 a3 a4 a5 a6 d0 d1 d2 d3 d4 d5 d6
      rintro e y14 ⟨rfl, cy14⟩
      have by14 := (Below.refl W.heap.size W).trans (cy14.mono (Below.refl W.heap.size W).size)
      clear cy14
      have C := same_G g0 g1 R0 R1 y14 (p0.below by14) (p1.below by14) sg0 sg1
      rw [s01] at C
      unfold R7.val at C
      obtain ⟨a0, a1, a2, a3, a4, a5, a6⟩ := A0.below by14 l0
      obtain ⟨d0, d1, d2, d3, d4, d5, d6⟩ := A1.below by14 l1
      simp only [Nat.zero_add] at a1 a2 a3 a4 a5 a6 d1 d2 d3 d4 d5 d6
      go_wp2_with fail
      refine C.mono ?_
      clear C a0 a1 a2 a3 a4 a5 a6 d0 d1 d2 d3 d4 d5 d6
      rintro e y15 ⟨rfl, cy15⟩
      have by15 := by14.trans (cy15.mono by14.size)
      clear cy15
      have C := less_G g0 g1 R0 R1 y15 (p0.below by15) (p1.below by15) sg0 sg1
      rw [h01] at C
      unfold R7.val at C
      obtain ⟨a0, a1, a2, a3, a4, a5, a6⟩ := A0.below by15 l0
      obtain ⟨d0, d1, d2, d3, d4, d5, d6⟩ := A1.below by15 l1
      simp only [Nat.zero_add] at a1 a2 a3 a4 a5 a6 d1 d2 d3 d4 d5 d6
      go_wp2_with fail
      refine C.mono ?_
      clear C a0 a1 a2 a3 a4 a5 a6 d0 d1 d2 d3 d4 d5 d6
      rintro e y16 ⟨rfl, cy16⟩
      have by16 := by15.trans (cy16.mono by15.size)
      clear cy16
      go_wp2
      go_ret
      exact ⟨rfl, bW.trans (by16.mono bW.size)⟩
    · have h01 := asym h
      have s01 := unlike (neq h).symm
      clear asym unlike neq
      have C := less_G g0 g1 R0 R1 W (p0.below (Below.refl W.heap.size W)) (p1.below (Below.refl W.heap.size W)) sg0 sg1
      rw [h01] at C
      unfold R7.val at C
      obtain ⟨a0, a1, a2, a3, a4, a5, a6⟩ := A0.below (Below.refl W.heap.size W) l0
      obtain ⟨d0, d1, d2, d3, d4, d5, d6⟩ := A1.below (Below.refl W.heap.size W) l1
      simp only [Nat.zero_add] at a1 a2 a3 a4 a5 a6 d1 d2 d3 d4 d5 d6
      go_wp2_with fail
      refine C.mono ?_
      clear C a0 a1 a2 a3 a4 a5 a6 d0 d1 d2 d3 d4 d5 d6
      rintro e y17 ⟨rfl, cy17⟩
      have by17 := (Below.refl W.heap.size W).trans (cy17.mono (Below.refl W.heap.size W).size)
      clear cy17
      have C := same_G g0 g1 R0 R1 y17 (p0.below by17) (p1.below by17) sg0 sg1
      rw [s01] at C
      unfold R7.val at C
      obtain ⟨a0, a1, a2, a3, a4, a5, a6⟩ := A0.below by17 l0
      obtain ⟨d0, d1, d2, d3, d4, d5, d6⟩ := A1.below by17 l1
      simp only [Nat.zero_add] at a1 a2 a3 a4 a5 a6 d1 d2 d3 d4 d5 d6
      go_wp2_with fail
      refine C.mono ?_
      clear C a0 a1 a2 a3 a4 a5 a6 d0 d1 d2 d3 d4 d5 d6
      rintro e y18 ⟨rfl, cy18⟩
      have by18 := by17.trans (cy18.mono by17.size)
      clear cy18
      have C := less_G g0 g1 R0 R1 y18 (p0.below by18) (p1.below by18) sg0 sg1
      rw [h01] at C
      unfold R7.val at C
      obtain ⟨a0, a1, a2, a3, a4, a5, a6⟩ := A0.below by18 l0
      obtain ⟨d0, d1, d2, d3, d4, d5, d6⟩ := A1.below by18 l1
      simp only [Nat.zero_add] at a1 a2 a3 a4 a5 a6 d1 d2 d3 d4 d5 d6
      go_wp2_with fail
      refine C.mono ?_
      clear C a0 a1 a2 a3 a4 a5 a6 d0 d1 d2 d3 d4 d5 d6
      rintro e y19 ⟨rfl, cy19⟩
      have by19 := by18.trans (cy19.mono by18.size)
      clear cy19
      have C := less_G g1 g0 R1 R0 y19 (p1.below by19) (p0.below by19) sg1 sg0
      rw [h] at C
      unfold R7.val at C
      obtain ⟨a0, a1, a2, a3, a4, a5, a6⟩ := A1.below by19 l1
      obtain ⟨d0, d1, d2, d3, d4, d5, d6⟩ := A0.below by19 l0
      simp only [Nat.zero_add] at a1 a2 a3 a4 a5 a6 d1 d2 d3 d4 d5 d6
      go_wp2_with fail
      refine C.mono ?_
      clear C a0 a1 a2 a3 a4 a5 a6 d0 d1 d2 d3 d4 d5 d6
      rintro e y20 ⟨rfl, cy20⟩
      have by20 := by19.trans (cy20.mono by19.size)
      clear cy20
      have C := less_G g0 g1 R0 R1 y20 (p0.below by20) (p1.below by20) sg0 sg1
      rw [h01] at C
      unfold R7.val at C
      obtain ⟨a0, a1, a2, a3, a4, a5, a6⟩ := A0.below by20 l0
      obtain ⟨d0, d1, d2, d3, d4, d5, d6⟩ := A1.below by20 l1
      simp only [Nat.zero_add] at a1 a2 a3 a4 a5 a6 d1 d2 d3 d4 d5 d6
      go_wp2_with fail
      refine C.mono ?_
      clear C a0 a1 a2 a3 a4 a5 a6 d0 d1 d2 d3 d4 d5 d6
      rintro e y21 ⟨rfl, cy21⟩
      have by21 := by20.trans (cy21.mono by20.size)
      clear cy21
      go_wp2
      go_ret
      exact ⟨rfl, bW.trans (by21.mono bW.size)⟩
end Go.Proofs.Ytbfkdmlnahajpaa
