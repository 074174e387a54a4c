/-
  chancellaw13.EvalSames: the walk.
-/
import Derived.Test.YtbbongdnnmanlaaGreatEmPL
import Derived.Test.YtbbongdnnmanlaaGreatVOEq
namespace Go.Proofs.YtbbongdnnmanlaaGreat
open Go.RowKit Go.Sort

def smSp (B : Nat) (r0 r1 : Value) (g0 g1 : GV) : Nat → Value → World → Prop
  | 0, v, _ => v = r0
  | 1, v, w => ∃ R : R7, v = R.val ∧ IsG w g0 R
  | 2, v, _ => v = r1
  | 3, v, w => ∃ R : R7, v = R.val ∧ IsG w g1 R
  | 4, v, w => ∃ b, v = .pointer (some ⟨b, 0, none⟩) ∧ FreshO B w b
  | 5, v, w => ∃ b, v = .pointer (some ⟨b, 0, none⟩) ∧ FreshO B w b
  | _, _, _ => True
theorem smSp_up {B : Nat} {r0 r1 : Value} {g0 g1 : GV} {w w' : World} (hb : Below w.heap.size w w') : ∀ j u, smSp B r0 r1 g0 g1 j u w → smSp B r0 r1 g0 g1 j u w'
  | 0, _, h | 2, _, h => h
  | 1, _, ⟨R, e, h⟩ | 3, _, ⟨R, e, h⟩ => ⟨R, e, h.below hb⟩
  | 4, _, ⟨b, e, h⟩ | 5, _, ⟨b, e, h⟩ => ⟨b, e, h.below hb⟩
  | _ + 6, _, _ => trivial
theorem wf_inRm {n : Int} (h : (Lit.int .i64 n).wf = true) : InR n := by
  have h : (decide (IntKind.i64.min ≤ n) && decide (n ≤ IntKind.i64.max)) = true := h
  simp only [Bool.and_eq_true, decide_eq_true_eq] at h
  have e1 : IntKind.i64.min = -9223372036854775808 := by decide
  have e2 : IntKind.i64.max = 9223372036854775807 := by decide
  unfold InR
  omega
theorem lit13_any (g : GV) (R : R7) (w : World) (hl : g.len ≤ 8) (hg : IsG w g R) : Calls Tryz.prog 6 #[R.val] w fun e w' => RetL w' g e ∧ Below w.heap.size w w' := by
  cases g with
  | pl p =>
    obtain rfl : R = ofP p := hg
    refine (lit13_plain p w).mono ?_
    rintro e w' ⟨rfl, hb⟩
    exact ⟨⟨ofP p, rfl, fun _ => isE_p w' p⟩, hb⟩
  | set l =>
    obtain ⟨ao, c, rfl, hr, _⟩ := hg
    exact lit13_set l ao c w hl hr
theorem okLit_len {g : GV} (h : okLit g) : g.len ≤ 8 := by
  cases g with
  | pl p => exact Nat.zero_le _
  | set l => exact h.1.len

set_option maxHeartbeats 16000000 in
set_option maxRecDepth 1000000 in
theorem esames_walk (r0 r1 : RawE) (lo0 lo1 : Option Addr) (es0 es1 : List RawE) (lc0 lc1 : Nat) (w : World) (hr0 : r0.Ok w) (hr1 : r1.Ok w) (hl0 : es0.length ≤ 9223372036854775807) (hl1 : es1.length ≤ 9223372036854775807) (hs0 : RowRaw w lo0 es0) (hs1 : RowRaw w lo1 es1) (hf : FitL w) :
    Calls Tryz.prog 3 #[.agg #[.int .i64 r0.k, .int .i64 r0.n, .slice r0.so r0.xs.length r0.sc, .slice lo0 es0.length lc0], .agg #[.int .i64 r1.k, .int .i64 r1.n, .slice r1.so r1.xs.length r1.sc, .slice lo1 es1.length lc1]] w fun e w' => e = .returned (.bool true) ∧ Below w.heap.size w w' := by
  have HO0 := hide (okLit_good r0 es0 (wf_inRm hr0.inr) (fun e he => by
    obtain ⟨j, hj, rfl⟩ := List.getElem_of_mem he
    exact wf_inRm (hs0 j hj).1.inr))
  have HO1 := hide (okLit_good r1 es1 (wf_inRm hr1.inr) (fun e he => by
    obtain ⟨j, hj, rfl⟩ := List.getElem_of_mem he
    exact wf_inRm (hs1 j hj).1.inr))
  have GD0 := hide (fun w' (hb : Below w.heap.size w w') => good3_any r0 lo0 es0 lc0 w' (hr0.below hb) hl0 (hs0.below hb))
  have GD1 := hide (fun w' (hb : Below w.heap.size w w') => good3_any r1 lo1 es1 lc1 w' (hr1.below hb) hl1 (hs1.below hb))
  generalize goodG r0 es0 = g0 at *
  generalize goodG r1 es1 = g1 at *
  have HL0 := hide (okLit_len (unhide HO0))
  have HL1 := hide (okLit_len (unhide HO1))
  have HF := hide hf
  have C0 := fun w' (hb : Below w.heap.size w w') => known13_any w' (hf.below hb)
  clear hr0 hr1 hl0 hl1 hs0 hs1 hf
  generalize r0.xs.length = xl0 at *
  generalize r1.xs.length = xl1 at *
  generalize es0.length = el0 at *
  generalize es1.length = el1 at *
  obtain ⟨b2, z2, kA, kB⟩ := ev2 w (.cells #[.int .i64 r0.k, .int .i64 r0.n, .slice r0.so xl0 r0.sc, .slice lo0 el0 lc0] 25) (.cells #[.int .i64 r1.k, .int .i64 r1.n, .slice r1.so xl1 r1.sc, .slice lo1 el1 lc1] 25)
  clear z2
  have C := C0 _ b2
  clear C0
  go_enter Tryz.func3, Tryz.ntmps3
  go_upto_region 1 with fail
  generalize (w.alloc _).alloc _ = w2 at *
  go_wp2_with fail
  refine C.mono ?_
  clear C
  rintro e9 w4 ⟨rfl, b3⟩
  have b4 := b2.trans (b3.mono b2.size)
  have kA := kept_of_below b3 kA
  have kB := kept_of_below b3 kB
  have l0 := (Array.getElem?_eq_some_iff.1 kA).1
  have l1 := (Array.getElem?_eq_some_iff.1 kB).1
  have x00 : w4.cell? ⟨w.heap.size, 0, none⟩ = some (.int .i64 r0.k) := by rw [Lib.cell_of_heap kA]; rfl
  have x01 : w4.cell? ⟨w.heap.size, 1, none⟩ = some (.int .i64 r0.n) := by rw [Lib.cell_of_heap kA]; rfl
  have x02 : w4.cell? ⟨w.heap.size, 2, none⟩ = some (.slice r0.so xl0 r0.sc) := by rw [Lib.cell_of_heap kA]; rfl
  have x03 : w4.cell? ⟨w.heap.size, 3, none⟩ = some (.slice lo0 el0 lc0) := by rw [Lib.cell_of_heap kA]; rfl
  have x10 : w4.cell? ⟨(w.heap.size + 1), 0, none⟩ = some (.int .i64 r1.k) := by rw [Lib.cell_of_heap kB]; rfl
  have x11 : w4.cell? ⟨(w.heap.size + 1), 1, none⟩ = some (.int .i64 r1.n) := by rw [Lib.cell_of_heap kB]; rfl
  have x12 : w4.cell? ⟨(w.heap.size + 1), 2, none⟩ = some (.slice r1.so xl1 r1.sc) := by rw [Lib.cell_of_heap kB]; rfl
  have x13 : w4.cell? ⟨(w.heap.size + 1), 3, none⟩ = some (.slice lo1 el1 lc1) := by rw [Lib.cell_of_heap kB]; rfl
  clear kA kB b3 b2
  go_upto_region 3 with fail
  refine wp_specsA_put 6 (smSp w.heap.size (.agg #[.int .i64 r0.k, .int .i64 r0.n, .slice r0.so xl0 r0.sc, .slice lo0 el0 lc0]) (.agg #[.int .i64 r1.k, .int .i64 r1.n, .slice r1.so xl1 r1.sc, .slice lo1 el1 lc1]) g0 g1) (News [5, 6] w4) (by kernel_rfl) (by kernel_rfl) ⟨(Below.refl _ w4).drew, fun s hs b hb => ?_, fun s hs t ht hst b hb => ?_⟩ ?_ ?_
  · simp only [List.mem_cons, List.not_mem_nil, or_false] at hs
    rcases hs with rfl | rfl <;> cases hb
  · simp only [List.mem_cons, List.not_mem_nil, or_false] at hs
    rcases hs with rfl | rfl <;> cases hb
  · intro i o hi ho a' w' hR hdep hslot K hK
    have hcell : ∀ b o, b < w4.heap.size → w'.cell? ⟨b, o, none⟩ = w4.cell? ⟨b, o, none⟩ := fun b o hb => hR.below.cell (p := ⟨b, o, none⟩) hb
    match i, hi with
    | 0, _ =>
      cases ho
      have e : a'.tmps.getD 2 undef = .pointer (some ⟨w.heap.size, 0, none⟩) := hslot 2 (by decide)
      have y0 := (hcell _ 0 l0).trans x00
      have y1 := (hcell _ 1 l0).trans x01
      have y2 := (hcell _ 2 l0).trans x02
      have y3 := (hcell _ 3 l0).trans x03
      unfold Oper.wp
      go_simp
      exact hK _ _ rfl (hR.other (Below.refl _ _) _ _ (by decide)) (fun _ _ h => h)
    | 1, _ =>
      cases ho
      have e1 : a'.tmps.getD 21 undef = .agg #[.int .i64 r0.k, .int .i64 r0.n, .slice r0.so xl0 r0.sc, .slice lo0 el0 lc0] := hdep 0 (by kernel_rfl)
      have PW := unhide GD0 w' (b4.trans (hR.below.mono b4.size))
      unfold Oper.wp
      go_simp
      refine PW.mono ?_
      rintro e w5 ⟨b5, R, rfl, hg⟩
      exact hK _ _ ⟨R, rfl, hg⟩ (hR.other b5 _ _ (by decide)) (smSp_up b5)
    | 2, _ =>
      cases ho
      have e : a'.tmps.getD 3 undef = .pointer (some ⟨w.heap.size + 1, 0, none⟩) := hslot 3 (by decide)
      have y0 := (hcell _ 0 l1).trans x10
      have y1 := (hcell _ 1 l1).trans x11
      have y2 := (hcell _ 2 l1).trans x12
      have y3 := (hcell _ 3 l1).trans x13
      unfold Oper.wp
      go_simp
      exact hK _ _ rfl (hR.other (Below.refl _ _) _ _ (by decide)) (fun _ _ h => h)
    | 3, _ =>
      cases ho
      have e1 : a'.tmps.getD 23 undef = .agg #[.int .i64 r1.k, .int .i64 r1.n, .slice r1.so xl1 r1.sc, .slice lo1 el1 lc1] := hdep 2 (by kernel_rfl)
      have PW := unhide GD1 w' (b4.trans (hR.below.mono b4.size))
      unfold Oper.wp
      go_simp
      refine PW.mono ?_
      rintro e w5 ⟨b5, R, rfl, hg⟩
      exact hK _ _ ⟨R, rfl, hg⟩ (hR.other b5 _ _ (by decide)) (smSp_up b5)
    | 4, _ =>
      cases ho
      unfold Oper.wp
      go_simp
      exact hK _ _ ⟨_, rfl, freshO_new w' (Nat.le_trans b4.size hR.below.size)⟩ (hR.new _ _) (smSp_up (below1 _ _))
    | 5, _ =>
      cases ho
      unfold Oper.wp
      go_simp
      exact hK _ _ ⟨_, rfl, freshO_new w' (Nat.le_trans b4.size hR.below.size)⟩ (hR.new _ _) (smSp_up (below1 _ _))
  · intro v w5 hR hall
    have f0 : v 0 = _ := hall 0 (by decide)
    have f2 : v 2 = _ := hall 2 (by decide)
    obtain ⟨R0, f1, q0⟩ : ∃ R : R7, v 1 = R.val ∧ IsG w5 g0 R := hall 1 (by decide)
    obtain ⟨R1, f3, q1⟩ : ∃ R : R7, v 3 = R.val ∧ IsG w5 g1 R := hall 3 (by decide)
    obtain ⟨X, f4, F0⟩ : ∃ b, v 4 = .pointer (some ⟨b, 0, none⟩) ∧ FreshO w.heap.size w5 b := hall 4 (by decide)
    obtain ⟨Y, f5, F1⟩ : ∃ b, v 5 = .pointer (some ⟨b, 0, none⟩) ∧ FreshO w.heap.size w5 b := hall 5 (by decide)
    have n01 : X ≠ Y := fun e => hR.ne 5 (by decide) 6 (by decide) (by decide) X ((show _ = v 4 from by kernel_rfl).trans f4) ((show _ = v 5 from by kernel_rfl).trans (by rw [e]; exact f5))
    have b5 := b4.trans (hR.below.mono b4.size)
    clear hR hall GD0 GD1 x00 x01 x02 x03 x10 x11 x12 x13
    simp only [putAll, dstOf, List.getElem?_cons_zero, List.getElem?_cons_succ, Option.bind_some, List.drop_succ_cons, List.drop_zero, f0, f1, f2, f3, f4, f5]
    clear f0 f1 f2 f3 f4 f5
    have E0 := F0.cells
    have E1 := F1.cells
    have G0 := F0.free
    have G1 := F1.free
    have bW := hide (set7_below (set7_below b5 F0.ge (.int .i64 R0.k) (.bool R0.b) (.int .i64 R0.n) (.string R0.s) (.string R0.t) (.string R0.i) (.slice R0.lo R0.ll R0.lc)) F1.ge (.int .i64 R1.k) (.bool R1.b) (.int .i64 R1.n) (.string R1.s) (.string R1.t) (.string R1.i) (.slice R1.lo R1.ll R1.lc))
    have F1a := F1.set7 n01 R0
    have p0 := hide ((q0.set7 F0 R0).set7 F1a R1)
    have p1 := hide ((q1.set7 F0 R0).set7 F1a R1)
    have A0 := hide (at7_otherO (at7_setO F0.cells R0) (Ne.symm n01) R1)
    have A1 := hide (at7_setO F1a.cells R1)
    clear F0 F1 F1a q0 q1 b5
    obtain ⟨a0, a1, a2, a3, a4, a5, a6⟩ := E0
    obtain ⟨d0, d1, d2, d3, d4, d5, d6⟩ := E1
    simp only [Nat.zero_add] at a1 a2 a3 a4 a5 a6 d1 d2 d3 d4 d5 d6
    unfold R7.val
    go_upto_region 4 with fail
    obtain ⟨wW, hwW⟩ : ∃ wW, wW = set7 (set7 w5 X R0) Y R1 := ⟨_, rfl⟩
    have HB := hide (show Below w.heap.size w (set7 (set7 w5 X R0) Y R1) from unhide bW)
    have HG0 := hide (show IsG (set7 (set7 w5 X R0) Y R1) g0 R0 from unhide p0)
    have HG1 := hide (show IsG (set7 (set7 w5 X R0) Y R1) g1 R1 from unhide p1)
    have HX := hide (show At7 (set7 (set7 w5 X R0) Y R1) X 0 R0 from unhide A0)
    have HY := hide (show At7 (set7 (set7 w5 X R0) Y R1) Y 0 R1 from unhide A1)
    change Code.wp _ _ _ _ (set7 (set7 w5 X R0) Y R1)
    rw [← hwW] at HB HG0 HG1 HX HY ⊢
    clear hwW bW p0 p1 A0 A1 n01 a0 a1 a2 a3 a4 a5 a6 d0 d1 d2 d3 d4 d5 d6 G0 G1
    have C := lit13_any g0 R0 wW (unhide HL0) (unhide HG0)
    unfold R7.val at C
    obtain ⟨c0, c1, c2, c3, c4, c5, c6⟩ := unhide HX
    simp only [Nat.zero_add] at c1 c2 c3 c4 c5 c6
    go_wp2_with fail
    refine C.mono ?_
    clear C c0 c1 c2 c3 c4 c5 c6
    rintro e9 wm ⟨⟨q0, rfl, hq⟩, bm⟩
    have bv := ev1 wm (.cells #[.int .i64 q0.k, .bool q0.b, .int .i64 q0.n, .string q0.s, .string q0.t, .string q0.i, .slice q0.lo q0.ll q0.lc] 35)
    have HP := hide (alloc_heap wm (.cells #[.int .i64 q0.k, .bool q0.b, .int .i64 q0.n, .string q0.s, .string q0.t, .string q0.i, .slice q0.lo q0.ll q0.lc] 35))
    have bb := bm.trans (bv.mono bm.size)
    have HE0 := hide (fun (h : litGok g0 = true) => liftX (hq h) bv)
    obtain ⟨P, hP⟩ : ∃ V, V = wm.heap.size := ⟨_, rfl⟩
    have HB2 := hide ((unhide HB).trans ((bb).mono (unhide HB).size))
    have HG02 := hide ((unhide HG0).below (bb))
    have HG12 := hide ((unhide HG1).below (bb))
    have HX2 := hide ((unhide HX).below (bb) (cell_lt7 (unhide HX).c0))
    have HY2 := hide ((unhide HY).below (bb) (cell_lt7 (unhide HY).c0))
    clear hq bv bm bb
    clear HB HG0 HG1 HX HY
    have HB := HB2
    clear HB2
    have HG0 := HG02
    clear HG02
    have HG1 := HG12
    clear HG12
    have HX := HX2
    clear HX2
    have HY := HY2
    clear HY2
    generalize hk0 : litGok g0 = ok0 at *
    have HK0 := hide hk0
    clear hk0
    go_upto_region 5 with fail
    generalize wm.alloc _ = wX at *
    rw [← hP] at HP ⊢
    clear hP
    have C := lit13_any g1 R1 wX (unhide HL1) (unhide HG1)
    unfold R7.val at C
    obtain ⟨c0, c1, c2, c3, c4, c5, c6⟩ := unhide HY
    simp only [Nat.zero_add] at c1 c2 c3 c4 c5 c6
    go_wp2_with fail
    refine C.mono ?_
    clear C c0 c1 c2 c3 c4 c5 c6
    rintro e9 wm ⟨⟨q1, rfl, hq⟩, bm⟩
    have bv := ev1 wm (.cells #[.int .i64 q1.k, .bool q1.b, .int .i64 q1.n, .string q1.s, .string q1.t, .string q1.i, .slice q1.lo q1.ll q1.lc] 35)
    have HQ := hide (alloc_heap wm (.cells #[.int .i64 q1.k, .bool q1.b, .int .i64 q1.n, .string q1.s, .string q1.t, .string q1.i, .slice q1.lo q1.ll q1.lc] 35))
    have bb := bm.trans (bv.mono bm.size)
    have HE1 := hide (fun (h : litGok g1 = true) => liftX (hq h) bv)
    obtain ⟨Q, hQ⟩ : ∃ V, V = wm.heap.size := ⟨_, rfl⟩
    have HB2 := hide ((unhide HB).trans ((bb).mono (unhide HB).size))
    have HG02 := hide ((unhide HG0).below (bb))
    have HG12 := hide ((unhide HG1).below (bb))
    have HX2 := hide ((unhide HX).below (bb) (cell_lt7 (unhide HX).c0))
    have HY2 := hide ((unhide HY).below (bb) (cell_lt7 (unhide HY).c0))
    have HP2 := hide (kept_of_below (bb) (unhide HP))
    have HE02 := hide (fun (h : ok0 = true) => liftX (unhide HE0 h) bb)
    clear HE0
    clear hq bv bm bb
    clear HB HG0 HG1 HX HY HP
    have HB := HB2
    clear HB2
    have HG0 := HG02
    clear HG02
    have HG1 := HG12
    clear HG12
    have HX := HX2
    clear HX2
    have HY := HY2
    clear HY2
    have HP := HP2
    clear HP2
    have HE0 := HE02
    clear HE02
    generalize hk1 : litGok g1 = ok1 at *
    have HK1 := hide hk1
    clear hk1
    go_upto_region 6 with fail
    generalize wm.alloc _ = wY at *
    rw [← hQ] at HQ ⊢
    clear hQ
    cases ok0 with
    | false =>
      go_wp2
      go_ret
      exact ⟨rfl, unhide HB⟩
    | true =>
    cases ok1 with
    | false =>
      go_wp2
      go_ret
      exact ⟨rfl, unhide HB⟩
    | true =>
    go_upto_region 8 with fail
    have HE02 := hide (unhide HE0 rfl)
    have HE12 := hide (unhide HE1 rfl)
    clear HE0 HE1
    have HE0 := HE02
    have HE1 := HE12
    clear HE02 HE12
    have p0 : wY.cell? ⟨P, 0, none⟩ = some (.int .i64 q0.k) := by rw [Lib.cell_of_heap (unhide HP)]; rfl
    have p1 : wY.cell? ⟨P, 1, none⟩ = some (.bool q0.b) := by rw [Lib.cell_of_heap (unhide HP)]; rfl
    have p2 : wY.cell? ⟨P, 2, none⟩ = some (.int .i64 q0.n) := by rw [Lib.cell_of_heap (unhide HP)]; rfl
    have p3 : wY.cell? ⟨P, 3, none⟩ = some (.string q0.s) := by rw [Lib.cell_of_heap (unhide HP)]; rfl
    have p4 : wY.cell? ⟨P, 4, none⟩ = some (.string q0.t) := by rw [Lib.cell_of_heap (unhide HP)]; rfl
    have p5 : wY.cell? ⟨P, 5, none⟩ = some (.string q0.i) := by rw [Lib.cell_of_heap (unhide HP)]; rfl
    have p6 : wY.cell? ⟨P, 6, none⟩ = some (.slice q0.lo q0.ll q0.lc) := by rw [Lib.cell_of_heap (unhide HP)]; rfl
    have t0 : wY.cell? ⟨Q, 0, none⟩ = some (.int .i64 q1.k) := by rw [Lib.cell_of_heap (unhide HQ)]; rfl
    have t1 : wY.cell? ⟨Q, 1, none⟩ = some (.bool q1.b) := by rw [Lib.cell_of_heap (unhide HQ)]; rfl
    have t2 : wY.cell? ⟨Q, 2, none⟩ = some (.int .i64 q1.n) := by rw [Lib.cell_of_heap (unhide HQ)]; rfl
    have t3 : wY.cell? ⟨Q, 3, none⟩ = some (.string q1.s) := by rw [Lib.cell_of_heap (unhide HQ)]; rfl
    have t4 : wY.cell? ⟨Q, 4, none⟩ = some (.string q1.t) := by rw [Lib.cell_of_heap (unhide HQ)]; rfl
    have t5 : wY.cell? ⟨Q, 5, none⟩ = some (.string q1.i) := by rw [Lib.cell_of_heap (unhide HQ)]; rfl
    have t6 : wY.cell? ⟨Q, 6, none⟩ = some (.slice q1.lo q1.ll q1.lc) := by rw [Lib.cell_of_heap (unhide HQ)]; rfl
    have hbk := ev1 wY (.cells #[.int .i64 q0.k, .bool q0.b, .int .i64 q0.n, .string q0.s, .string q0.t, .string q0.i, .slice q0.lo q0.ll q0.lc, .int .i64 q1.k, .bool q1.b, .int .i64 q1.n, .string q1.s, .string q1.t, .string q1.i, .slice q1.lo q1.ll q1.lc] 35)
    have hkk := alloc_heap wY (.cells #[.int .i64 q0.k, .bool q0.b, .int .i64 q0.n, .string q0.s, .string q0.t, .string q0.i, .slice q0.lo q0.ll q0.lc, .int .i64 q1.k, .bool q1.b, .int .i64 q1.n, .string q1.s, .string q1.t, .string q1.i, .slice q1.lo q1.ll q1.lc] 35)
    have CO := expr13_pl (noD zU zU zU) none [] 0 0 (twoT 20 (litG g0) (litG g1)) ⟨20, false, 0, ⟨#[]⟩, ⟨#[]⟩, ⟨#[]⟩, some ⟨wY.heap.size, 0, none⟩, 2, 2⟩ _ rfl (ew_nil _ ((unhide HF).below ((unhide HB).trans (hbk.mono (unhide HB).size))) _ _ _) (isE_node (s := []) (t := []) (i := []) rfl (isEs_block [⟨q0.k, q0.b, q0.n, q0.s, q0.t, q0.i, q0.lo, q0.ll, q0.lc⟩, ⟨q1.k, q1.b, q1.n, q1.s, q1.t, q1.i, q1.lo, q1.ll, q1.lc⟩] [litG g0, litG g1] hkk rfl (.cons (liftX (unhide HE0) hbk) (.cons (liftX (unhide HE1) hbk) .nil)))) (okEv_two (okEv_lit (unhide HO0)) (okEv_lit (unhide HO1))) (show _ = Sum.inl (GV.pl (.bool (sameG g0 g1))) from (eval_two (noD zU zU zU) 20 g0 g1 (by decide) (unhide HO0) (unhide HO1)))
    rw [show (ofP (.bool (sameG g0 g1))).val = .agg #[.int .i64 1, .bool (sameG g0 g1), .int .i64 0, .string ⟨#[]⟩, .string ⟨#[]⟩, .string ⟨#[]⟩, .slice none 0 0] from rfl] at CO
    simp only [noD, zU] at CO
    clear hkk
    go_wp2_with fail
    generalize wY.alloc _ = wk at *
    refine CO.mono ?_
    clear CO p0 p1 p2 p3 p4 p5 p6 t0 t1 t2 t3 t4 t5 t6
    rintro _ wm ⟨rfl, bm⟩
    have bv := ev1 wm (.cells #[.int .i64 1, .bool (sameG g0 g1), .int .i64 0, .string ⟨#[]⟩, .string ⟨#[]⟩, .string ⟨#[]⟩, .slice none 0 0] 31)
    have HU := hide (alloc_heap wm (.cells #[.int .i64 1, .bool (sameG g0 g1), .int .i64 0, .string ⟨#[]⟩, .string ⟨#[]⟩, .string ⟨#[]⟩, .slice none 0 0] 31))
    have bb := hbk.trans ((bm.trans (bv.mono bm.size)).mono hbk.size)
    obtain ⟨U, hU⟩ : ∃ V, V = wm.heap.size := ⟨_, rfl⟩
    have HB2 := hide ((unhide HB).trans ((bb).mono (unhide HB).size))
    have HG02 := hide ((unhide HG0).below (bb))
    have HG12 := hide ((unhide HG1).below (bb))
    have HX2 := hide ((unhide HX).below (bb) (cell_lt7 (unhide HX).c0))
    have HY2 := hide ((unhide HY).below (bb) (cell_lt7 (unhide HY).c0))
    have HP2 := hide (kept_of_below (bb) (unhide HP))
    have HQ2 := hide (kept_of_below (bb) (unhide HQ))
    have HE02 := hide (liftX (unhide HE0) (bb))
    have HE12 := hide (liftX (unhide HE1) (bb))
    clear bv bm bb hbk
    clear HB HG0 HG1 HX HY HP HQ HE0 HE1
    have HB := HB2
    clear HB2
    have HG0 := HG02
    clear HG02
    have HG1 := HG12
    clear HG12
    have HX := HX2
    clear HX2
    have HY := HY2
    clear HY2
    have HP := HP2
    clear HP2
    have HQ := HQ2
    clear HQ2
    have HE0 := HE02
    clear HE02
    have HE1 := HE12
    clear HE12
    go_upto_region 9 with fail
    generalize wm.alloc _ = wA at *
    rw [← hU] at HU ⊢
    clear hU
    have p0 : wA.cell? ⟨P, 0, none⟩ = some (.int .i64 q0.k) := by rw [Lib.cell_of_heap (unhide HP)]; rfl
    have p1 : wA.cell? ⟨P, 1, none⟩ = some (.bool q0.b) := by rw [Lib.cell_of_heap (unhide HP)]; rfl
    have p2 : wA.cell? ⟨P, 2, none⟩ = some (.int .i64 q0.n) := by rw [Lib.cell_of_heap (unhide HP)]; rfl
    have p3 : wA.cell? ⟨P, 3, none⟩ = some (.string q0.s) := by rw [Lib.cell_of_heap (unhide HP)]; rfl
    have p4 : wA.cell? ⟨P, 4, none⟩ = some (.string q0.t) := by rw [Lib.cell_of_heap (unhide HP)]; rfl
    have p5 : wA.cell? ⟨P, 5, none⟩ = some (.string q0.i) := by rw [Lib.cell_of_heap (unhide HP)]; rfl
    have p6 : wA.cell? ⟨P, 6, none⟩ = some (.slice q0.lo q0.ll q0.lc) := by rw [Lib.cell_of_heap (unhide HP)]; rfl
    have t0 : wA.cell? ⟨Q, 0, none⟩ = some (.int .i64 q1.k) := by rw [Lib.cell_of_heap (unhide HQ)]; rfl
    have t1 : wA.cell? ⟨Q, 1, none⟩ = some (.bool q1.b) := by rw [Lib.cell_of_heap (unhide HQ)]; rfl
    have t2 : wA.cell? ⟨Q, 2, none⟩ = some (.int .i64 q1.n) := by rw [Lib.cell_of_heap (unhide HQ)]; rfl
    have t3 : wA.cell? ⟨Q, 3, none⟩ = some (.string q1.s) := by rw [Lib.cell_of_heap (unhide HQ)]; rfl
    have t4 : wA.cell? ⟨Q, 4, none⟩ = some (.string q1.t) := by rw [Lib.cell_of_heap (unhide HQ)]; rfl
    have t5 : wA.cell? ⟨Q, 5, none⟩ = some (.string q1.i) := by rw [Lib.cell_of_heap (unhide HQ)]; rfl
    have t6 : wA.cell? ⟨Q, 6, none⟩ = some (.slice q1.lo q1.ll q1.lc) := by rw [Lib.cell_of_heap (unhide HQ)]; rfl
    have hbk := ev1 wA (.cells #[.int .i64 q0.k, .bool q0.b, .int .i64 q0.n, .string q0.s, .string q0.t, .string q0.i, .slice q0.lo q0.ll q0.lc, .int .i64 q1.k, .bool q1.b, .int .i64 q1.n, .string q1.s, .string q1.t, .string q1.i, .slice q1.lo q1.ll q1.lc] 35)
    have hkk := alloc_heap wA (.cells #[.int .i64 q0.k, .bool q0.b, .int .i64 q0.n, .string q0.s, .string q0.t, .string q0.i, .slice q0.lo q0.ll q0.lc, .int .i64 q1.k, .bool q1.b, .int .i64 q1.n, .string q1.s, .string q1.t, .string q1.i, .slice q1.lo q1.ll q1.lc] 35)
    have CO := expr13_pl (noD zU zU zU) none [] 0 0 (twoT 21 (litG g0) (litG g1)) ⟨21, false, 0, ⟨#[]⟩, ⟨#[]⟩, ⟨#[]⟩, some ⟨wA.heap.size, 0, none⟩, 2, 2⟩ _ rfl (ew_nil _ ((unhide HF).below ((unhide HB).trans (hbk.mono (unhide HB).size))) _ _ _) (isE_node (s := []) (t := []) (i := []) rfl (isEs_block [⟨q0.k, q0.b, q0.n, q0.s, q0.t, q0.i, q0.lo, q0.ll, q0.lc⟩, ⟨q1.k, q1.b, q1.n, q1.s, q1.t, q1.i, q1.lo, q1.ll, q1.lc⟩] [litG g0, litG g1] hkk rfl (.cons (liftX (unhide HE0) hbk) (.cons (liftX (unhide HE1) hbk) .nil)))) (okEv_two (okEv_lit (unhide HO0)) (okEv_lit (unhide HO1))) (show _ = Sum.inl (GV.pl (.bool (!sameG g0 g1))) from (eval_two (noD zU zU zU) 21 g0 g1 (by decide) (unhide HO0) (unhide HO1)))
    rw [show (ofP (.bool (!sameG g0 g1))).val = .agg #[.int .i64 1, .bool (!sameG g0 g1), .int .i64 0, .string ⟨#[]⟩, .string ⟨#[]⟩, .string ⟨#[]⟩, .slice none 0 0] from rfl] at CO
    simp only [noD, zU] at CO
    clear hkk
    go_wp2_with fail
    generalize wA.alloc _ = wk at *
    refine CO.mono ?_
    clear CO p0 p1 p2 p3 p4 p5 p6 t0 t1 t2 t3 t4 t5 t6
    rintro _ wm ⟨rfl, bm⟩
    have bv := ev1 wm (.cells #[.int .i64 1, .bool (!sameG g0 g1), .int .i64 0, .string ⟨#[]⟩, .string ⟨#[]⟩, .string ⟨#[]⟩, .slice none 0 0] 31)
    have HV := hide (alloc_heap wm (.cells #[.int .i64 1, .bool (!sameG g0 g1), .int .i64 0, .string ⟨#[]⟩, .string ⟨#[]⟩, .string ⟨#[]⟩, .slice none 0 0] 31))
    have bb := hbk.trans ((bm.trans (bv.mono bm.size)).mono hbk.size)
    obtain ⟨V, hV⟩ : ∃ V, V = wm.heap.size := ⟨_, rfl⟩
    have HB2 := hide ((unhide HB).trans ((bb).mono (unhide HB).size))
    have HG02 := hide ((unhide HG0).below (bb))
    have HG12 := hide ((unhide HG1).below (bb))
    have HX2 := hide ((unhide HX).below (bb) (cell_lt7 (unhide HX).c0))
    have HY2 := hide ((unhide HY).below (bb) (cell_lt7 (unhide HY).c0))
    have HP2 := hide (kept_of_below (bb) (unhide HP))
    have HQ2 := hide (kept_of_below (bb) (unhide HQ))
    have HE02 := hide (liftX (unhide HE0) (bb))
    have HE12 := hide (liftX (unhide HE1) (bb))
    have HU2 := hide (kept_of_below (bb) (unhide HU))
    clear bv bm bb hbk
    clear HB HG0 HG1 HX HY HP HQ HE0 HE1 HU
    have HB := HB2
    clear HB2
    have HG0 := HG02
    clear HG02
    have HG1 := HG12
    clear HG12
    have HX := HX2
    clear HX2
    have HY := HY2
    clear HY2
    have HP := HP2
    clear HP2
    have HQ := HQ2
    clear HQ2
    have HE0 := HE02
    clear HE02
    have HE1 := HE12
    clear HE12
    have HU := HU2
    clear HU2
    go_upto_region 10 with fail
    generalize wm.alloc _ = wB at *
    rw [← hV] at HV ⊢
    clear hV
    have p0 : wB.cell? ⟨P, 0, none⟩ = some (.int .i64 q0.k) := by rw [Lib.cell_of_heap (unhide HP)]; rfl
    have p1 : wB.cell? ⟨P, 1, none⟩ = some (.bool q0.b) := by rw [Lib.cell_of_heap (unhide HP)]; rfl
    have p2 : wB.cell? ⟨P, 2, none⟩ = some (.int .i64 q0.n) := by rw [Lib.cell_of_heap (unhide HP)]; rfl
    have p3 : wB.cell? ⟨P, 3, none⟩ = some (.string q0.s) := by rw [Lib.cell_of_heap (unhide HP)]; rfl
    have p4 : wB.cell? ⟨P, 4, none⟩ = some (.string q0.t) := by rw [Lib.cell_of_heap (unhide HP)]; rfl
    have p5 : wB.cell? ⟨P, 5, none⟩ = some (.string q0.i) := by rw [Lib.cell_of_heap (unhide HP)]; rfl
    have p6 : wB.cell? ⟨P, 6, none⟩ = some (.slice q0.lo q0.ll q0.lc) := by rw [Lib.cell_of_heap (unhide HP)]; rfl
    have t0 : wB.cell? ⟨Q, 0, none⟩ = some (.int .i64 q1.k) := by rw [Lib.cell_of_heap (unhide HQ)]; rfl
    have t1 : wB.cell? ⟨Q, 1, none⟩ = some (.bool q1.b) := by rw [Lib.cell_of_heap (unhide HQ)]; rfl
    have t2 : wB.cell? ⟨Q, 2, none⟩ = some (.int .i64 q1.n) := by rw [Lib.cell_of_heap (unhide HQ)]; rfl
    have t3 : wB.cell? ⟨Q, 3, none⟩ = some (.string q1.s) := by rw [Lib.cell_of_heap (unhide HQ)]; rfl
    have t4 : wB.cell? ⟨Q, 4, none⟩ = some (.string q1.t) := by rw [Lib.cell_of_heap (unhide HQ)]; rfl
    have t5 : wB.cell? ⟨Q, 5, none⟩ = some (.string q1.i) := by rw [Lib.cell_of_heap (unhide HQ)]; rfl
    have t6 : wB.cell? ⟨Q, 6, none⟩ = some (.slice q1.lo q1.ll q1.lc) := by rw [Lib.cell_of_heap (unhide HQ)]; rfl
    have hbk := ev1 wB (.cells #[.int .i64 q0.k, .bool q0.b, .int .i64 q0.n, .string q0.s, .string q0.t, .string q0.i, .slice q0.lo q0.ll q0.lc, .int .i64 q1.k, .bool q1.b, .int .i64 q1.n, .string q1.s, .string q1.t, .string q1.i, .slice q1.lo q1.ll q1.lc] 35)
    have hkk := alloc_heap wB (.cells #[.int .i64 q0.k, .bool q0.b, .int .i64 q0.n, .string q0.s, .string q0.t, .string q0.i, .slice q0.lo q0.ll q0.lc, .int .i64 q1.k, .bool q1.b, .int .i64 q1.n, .string q1.s, .string q1.t, .string q1.i, .slice q1.lo q1.ll q1.lc] 35)
    have CO := expr13_any none [] 0 0 (noD zU zU zU) (twoT 9 (litG g0) (litG g1)) ⟨9, false, 0, ⟨#[]⟩, ⟨#[]⟩, ⟨#[]⟩, some ⟨wB.heap.size, 0, none⟩, 2, 2⟩ _ rfl (ew_nil _ ((unhide HF).below ((unhide HB).trans (hbk.mono (unhide HB).size))) _ _ _) (isE_node (s := []) (t := []) (i := []) rfl (isEs_block [⟨q0.k, q0.b, q0.n, q0.s, q0.t, q0.i, q0.lo, q0.ll, q0.lc⟩, ⟨q1.k, q1.b, q1.n, q1.s, q1.t, q1.i, q1.lo, q1.ll, q1.lc⟩] [litG g0, litG g1] hkk rfl (.cons (liftX (unhide HE0) hbk) (.cons (liftX (unhide HE1) hbk) .nil)))) (okEv_two (okEv_lit (unhide HO0)) (okEv_lit (unhide HO1)))
    rw [(eval_two (noD zU zU zU) 9 g0 g1 (by decide) (unhide HO0) (unhide HO1))] at CO
    simp only [noD, zU] at CO
    clear hkk
    go_wp2_with fail
    generalize wB.alloc _ = wk at *
    refine CO.mono ?_
    clear CO p0 p1 p2 p3 p4 p5 p6 t0 t1 t2 t3 t4 t5 t6
    rintro _ wm ⟨⟨RH, kH, rfl, hm⟩, bm⟩
    have HMH := hide (show MatE wm (twoC (noD zU zU zU) 9 g0 g1) RH kH from hm)
    clear hm
    have bv := ev1 wm (.cells #[.int .i64 RH.k, .bool RH.b, .int .i64 RH.n, .string RH.s, .string RH.t, .string RH.i, .slice RH.lo RH.ll RH.lc] 31)
    have HH := hide (alloc_heap wm (.cells #[.int .i64 RH.k, .bool RH.b, .int .i64 RH.n, .string RH.s, .string RH.t, .string RH.i, .slice RH.lo RH.ll RH.lc] 31))
    have bb := hbk.trans ((bm.trans (bv.mono bm.size)).mono hbk.size)
    obtain ⟨H, hH⟩ : ∃ V, V = wm.heap.size := ⟨_, rfl⟩
    have HB2 := hide ((unhide HB).trans ((bb).mono (unhide HB).size))
    have HG02 := hide ((unhide HG0).below (bb))
    have HG12 := hide ((unhide HG1).below (bb))
    have HX2 := hide ((unhide HX).below (bb) (cell_lt7 (unhide HX).c0))
    have HY2 := hide ((unhide HY).below (bb) (cell_lt7 (unhide HY).c0))
    have HP2 := hide (kept_of_below (bb) (unhide HP))
    have HQ2 := hide (kept_of_below (bb) (unhide HQ))
    have HE02 := hide (liftX (unhide HE0) (bb))
    have HE12 := hide (liftX (unhide HE1) (bb))
    have HU2 := hide (kept_of_below (bb) (unhide HU))
    have HV2 := hide (kept_of_below (bb) (unhide HV))
    have HMH2 := hide ((unhide HMH).below bv)
    clear HMH
    have HMH := HMH2
    clear HMH2
    clear bv bm bb hbk
    clear HB HG0 HG1 HX HY HP HQ HE0 HE1 HU HV
    have HB := HB2
    clear HB2
    have HG0 := HG02
    clear HG02
    have HG1 := HG12
    clear HG12
    have HX := HX2
    clear HX2
    have HY := HY2
    clear HY2
    have HP := HP2
    clear HP2
    have HQ := HQ2
    clear HQ2
    have HE0 := HE02
    clear HE02
    have HE1 := HE12
    clear HE12
    have HU := HU2
    clear HU2
    have HV := HV2
    clear HV2
    go_upto_region 11 with fail
    generalize wm.alloc _ = wC at *
    rw [← hH] at HH ⊢
    clear hH
    have p0 : wC.cell? ⟨P, 0, none⟩ = some (.int .i64 q0.k) := by rw [Lib.cell_of_heap (unhide HP)]; rfl
    have p1 : wC.cell? ⟨P, 1, none⟩ = some (.bool q0.b) := by rw [Lib.cell_of_heap (unhide HP)]; rfl
    have p2 : wC.cell? ⟨P, 2, none⟩ = some (.int .i64 q0.n) := by rw [Lib.cell_of_heap (unhide HP)]; rfl
    have p3 : wC.cell? ⟨P, 3, none⟩ = some (.string q0.s) := by rw [Lib.cell_of_heap (unhide HP)]; rfl
    have p4 : wC.cell? ⟨P, 4, none⟩ = some (.string q0.t) := by rw [Lib.cell_of_heap (unhide HP)]; rfl
    have p5 : wC.cell? ⟨P, 5, none⟩ = some (.string q0.i) := by rw [Lib.cell_of_heap (unhide HP)]; rfl
    have p6 : wC.cell? ⟨P, 6, none⟩ = some (.slice q0.lo q0.ll q0.lc) := by rw [Lib.cell_of_heap (unhide HP)]; rfl
    have hbk := Below.refl wC.heap.size wC
    have CO := expr13_any none [] 0 0 (noD zU zU zU) (litG g0) ⟨q0.k, q0.b, q0.n, q0.s, q0.t, q0.i, q0.lo, q0.ll, q0.lc⟩ _ rfl (ew_nil _ ((unhide HF).below (unhide HB)) _ _ _) (unhide HE0) (okEv_lit (unhide HO0))
    rw [(eval_litG (noD zU zU zU) g0 (unhide HO0))] at CO
    simp only [noD, zU] at CO
    go_wp2_with fail
    refine CO.mono ?_
    clear CO p0 p1 p2 p3 p4 p5 p6
    rintro _ wm ⟨⟨RZ, kZ, rfl, hm⟩, bm⟩
    have HMZ := hide (show MatE wm (Sum.inl g0) RZ kZ from hm)
    clear hm
    have bv := ev1 wm (.cells #[.int .i64 RZ.k, .bool RZ.b, .int .i64 RZ.n, .string RZ.s, .string RZ.t, .string RZ.i, .slice RZ.lo RZ.ll RZ.lc] 31)
    have HZ := hide (alloc_heap wm (.cells #[.int .i64 RZ.k, .bool RZ.b, .int .i64 RZ.n, .string RZ.s, .string RZ.t, .string RZ.i, .slice RZ.lo RZ.ll RZ.lc] 31))
    have bb := hbk.trans ((bm.trans (bv.mono bm.size)).mono hbk.size)
    obtain ⟨Z, hZ⟩ : ∃ V, V = wm.heap.size := ⟨_, rfl⟩
    have HB2 := hide ((unhide HB).trans ((bb).mono (unhide HB).size))
    have HG02 := hide ((unhide HG0).below (bb))
    have HG12 := hide ((unhide HG1).below (bb))
    have HX2 := hide ((unhide HX).below (bb) (cell_lt7 (unhide HX).c0))
    have HY2 := hide ((unhide HY).below (bb) (cell_lt7 (unhide HY).c0))
    have HP2 := hide (kept_of_below (bb) (unhide HP))
    have HQ2 := hide (kept_of_below (bb) (unhide HQ))
    have HE02 := hide (liftX (unhide HE0) (bb))
    have HE12 := hide (liftX (unhide HE1) (bb))
    have HU2 := hide (kept_of_below (bb) (unhide HU))
    have HV2 := hide (kept_of_below (bb) (unhide HV))
    have HH2 := hide (kept_of_below (bb) (unhide HH))
    have HMH2 := hide ((unhide HMH).below (bb))
    have HMZ2 := hide ((unhide HMZ).below bv)
    clear HMZ
    have HMZ := HMZ2
    clear HMZ2
    clear bv bm bb hbk
    clear HB HG0 HG1 HX HY HP HQ HE0 HE1 HU HV HH HMH
    have HB := HB2
    clear HB2
    have HG0 := HG02
    clear HG02
    have HG1 := HG12
    clear HG12
    have HX := HX2
    clear HX2
    have HY := HY2
    clear HY2
    have HP := HP2
    clear HP2
    have HQ := HQ2
    clear HQ2
    have HE0 := HE02
    clear HE02
    have HE1 := HE12
    clear HE12
    have HU := HU2
    clear HU2
    have HV := HV2
    clear HV2
    have HH := HH2
    clear HH2
    have HMH := HMH2
    clear HMH2
    go_upto_region 12 with fail
    generalize wm.alloc _ = wD at *
    rw [← hZ] at HZ ⊢
    clear hZ
    obtain ⟨eZ, hgz, _⟩ : kZ = 0 ∧ IsG wD g0 RZ ∧ okEG g0 := unhide HMZ
    subst eZ
    have HGZ := hide hgz
    clear hgz
    cases hsm : sameG g0 g1 with
    | true =>
      rw [hsm] at HU HV
      have HSM := hide hsm
      clear hsm
      obtain ⟨c0, c1, c2, c3, c4, c5, c6⟩ := unhide HX
      simp only [Nat.zero_add] at c1 c2 c3 c4 c5 c6
      obtain ⟨d0, d1, d2, d3, d4, d5, d6⟩ := unhide HY
      simp only [Nat.zero_add] at d1 d2 d3 d4 d5 d6
      have u1 : wD.cell? ⟨U, 1, none⟩ = some (.bool true) := by rw [Lib.cell_of_heap (unhide HU)]; rfl
      have v1 : wD.cell? ⟨V, 1, none⟩ = some (.bool false) := by rw [Lib.cell_of_heap (unhide HV)]; rfl
      have z0 : wD.cell? ⟨Z, 0, none⟩ = some (.int .i64 RZ.k) := by rw [Lib.cell_of_heap (unhide HZ)]; rfl
      have z1 : wD.cell? ⟨Z, 1, none⟩ = some (.bool RZ.b) := by rw [Lib.cell_of_heap (unhide HZ)]; rfl
      have z2 : wD.cell? ⟨Z, 2, none⟩ = some (.int .i64 RZ.n) := by rw [Lib.cell_of_heap (unhide HZ)]; rfl
      have z3 : wD.cell? ⟨Z, 3, none⟩ = some (.string RZ.s) := by rw [Lib.cell_of_heap (unhide HZ)]; rfl
      have z4 : wD.cell? ⟨Z, 4, none⟩ = some (.string RZ.t) := by rw [Lib.cell_of_heap (unhide HZ)]; rfl
      have z5 : wD.cell? ⟨Z, 5, none⟩ = some (.string RZ.i) := by rw [Lib.cell_of_heap (unhide HZ)]; rfl
      have z6 : wD.cell? ⟨Z, 6, none⟩ = some (.slice RZ.lo RZ.ll RZ.lc) := by rw [Lib.cell_of_heap (unhide HZ)]; rfl
      have c0 := cell_regrown c0
      have c1 := cell_regrown c1
      have c2 := cell_regrown c2
      have c3 := cell_regrown c3
      have c4 := cell_regrown c4
      have c5 := cell_regrown c5
      have c6 := cell_regrown c6
      have d0 := cell_regrown d0
      have d1 := cell_regrown d1
      have d2 := cell_regrown d2
      have d3 := cell_regrown d3
      have d4 := cell_regrown d4
      have d5 := cell_regrown d5
      have d6 := cell_regrown d6
      have u1 := cell_regrown u1
      have v1 := cell_regrown v1
      have z0 := cell_regrown z0
      have z1 := cell_regrown z1
      have z2 := cell_regrown z2
      have z3 := cell_regrown z3
      have z4 := cell_regrown z4
      have z5 := cell_regrown z5
      have z6 := cell_regrown z6
      have S1 := fun w' (hb : Below wD.heap.size wD w') => r3sameS_any g0 g1 R0 R1 w' ((unhide HG0).below hb) ((unhide HG1).below hb) (Nat.le_trans (unhide HL0) (by decide))
      have S2 := fun w' (hb : Below wD.heap.size wD w') => r3sameG_true g0 RZ R0 w' ((unhide HGZ).below hb) ((unhide HG0).below hb) (Nat.le_trans (unhide HL0) (by decide))
      rw [unhide HSM] at S1
      unfold R7.val at S1 S2
      have cS := fun d os => Calls.regrown_of (w := wD) (d := d) (os := os) (S1 (grow (redrawn wD d) os) (below_regrown wD d os))
      have cT := fun d os => Calls.regrown_of (w := wD) (d := d) (os := os) (S2 (grow (redrawn wD d) os) (below_regrown wD d os))
      clear S1 S2
      go_wp2_with fail
      refine wp_region_quiet_below (by kernel_rfl) (by kernel_rfl) ?_
      iterate 13 (quiet_step (exact cS _ _))
      repeat (quiet_step (exact cT _ _))
      refine wpQuiet_nil ?_
      intro _ hw'
      obtain ⟨⟨dq, osq⟩, hw''⟩ := hw'
      subst hw''
      have bq := below_regrown wD dq osq
      clear c0 c1 c2 c3 c4 c5 c6 d0 d1 d2 d3 d4 d5 d6 u1 v1 z0 z1 z2 z3 z4 z5 z6 cS cT
      have HB2 := hide ((unhide HB).trans ((bq).mono (unhide HB).size))
      have HG02 := hide ((unhide HG0).below (bq))
      have HG12 := hide ((unhide HG1).below (bq))
      have HX2 := hide ((unhide HX).below (bq) (cell_lt7 (unhide HX).c0))
      have HY2 := hide ((unhide HY).below (bq) (cell_lt7 (unhide HY).c0))
      have HH2 := hide (kept_of_below (bq) (unhide HH))
      have HMH2 := hide ((unhide HMH).below (bq))
      clear HP HQ HE0 HE1 HU HV HZ HMZ HGZ bq
      clear HB HG0 HG1 HX HY HH HMH
      have HB := HB2
      clear HB2
      have HG0 := HG02
      clear HG02
      have HG1 := HG12
      clear HG12
      have HX := HX2
      clear HX2
      have HY := HY2
      clear HY2
      have HH := HH2
      clear HH2
      have HMH := HMH2
      clear HMH2
      generalize grow (redrawn wD dq) osq = wE at *
      cases g0 with
      | pl p =>
        obtain rfl : R0 = ofP p := unhide HG0
        obtain ⟨e16, _, _⟩ : kH = 16 ∧ (16 : Int) ≠ 0 ∧ RH = zero7 := unhide HMH
        subst e16
        have k5 : ((ofP p).k == (5 : Int)) = false := by
          rw [beq_eq_false_iff_ne]
          exact ofP_k5 p
        have c0 := (unhide HX).c0
        generalize (ofP p).k = kk at *
        go_wp2
        go_ret
        exact ⟨rfl, unhide HB⟩
      | set l =>
        obtain ⟨ao, c, rfl, hr, _⟩ := unhide HG0
        obtain ⟨e0, hgh, _⟩ : kH = 0 ∧ IsG wE (.pl (.bool (hasG l g1))) RH ∧ okEG (.pl (.bool (hasG l g1))) := unhide HMH
        subst e0
        obtain rfl : RH = ofP (.bool (hasG l g1)) := hgh
        have S := fun w' (hb : Below wE.heap.size wE w') => r3holdsG_any l g1 R1 ao c w' (Nat.le_trans (show l.length ≤ 8 from unhide HL0) (by decide)) (hr.below hb) ((unhide HG1).below hb)
        unfold R7.val at S
        have hv := unhide HH
        have h1 : wE.cell? ⟨H, 1, none⟩ = some (.bool (hasG l g1)) := by rw [Lib.cell_of_heap hv]; rfl
        generalize hasG l g1 = hs at *
        simp only [setR] at S HX
        obtain ⟨c0, c1, c2, c3, c4, c5, c6⟩ := unhide HX
        simp only [Nat.zero_add] at c1 c2 c3 c4 c5 c6
        obtain ⟨d0, d1, d2, d3, d4, d5, d6⟩ := unhide HY
        simp only [Nat.zero_add] at d1 d2 d3 d4 d5 d6
        simp only at c0 c1 c2 c3 c4 c5 c6
        clear hv hr
        go_upto_region 16 with fail
        have c0 := cell_regrown c0
        have c1 := cell_regrown c1
        have c2 := cell_regrown c2
        have c3 := cell_regrown c3
        have c4 := cell_regrown c4
        have c5 := cell_regrown c5
        have c6 := cell_regrown c6
        have d0 := cell_regrown d0
        have d1 := cell_regrown d1
        have d2 := cell_regrown d2
        have d3 := cell_regrown d3
        have d4 := cell_regrown d4
        have d5 := cell_regrown d5
        have d6 := cell_regrown d6
        have h1 := cell_regrown h1
        have cS := fun d os => Calls.regrown_of (w := wE) (d := d) (os := os) (S (grow (redrawn wE d) os) (below_regrown wE d os))
        clear S
        refine wp_region_quiet_below (by kernel_rfl) (by kernel_rfl) ?_
        repeat (quiet_step (exact cS _ _))
        refine wpQuiet_nil ?_
        intro _ hw'
        obtain ⟨⟨dr, osr⟩, hw''⟩ := hw'
        subst hw''
        have br := below_regrown wE dr osr
        go_wp2
        go_ret
        exact ⟨ret_bool (by simp), (unhide HB).trans (br.mono (unhide HB).size)⟩
    | false =>
      rw [hsm] at HU HV
      have HSM := hide hsm
      clear hsm
      obtain ⟨c0, c1, c2, c3, c4, c5, c6⟩ := unhide HX
      simp only [Nat.zero_add] at c1 c2 c3 c4 c5 c6
      obtain ⟨d0, d1, d2, d3, d4, d5, d6⟩ := unhide HY
      simp only [Nat.zero_add] at d1 d2 d3 d4 d5 d6
      have u1 : wD.cell? ⟨U, 1, none⟩ = some (.bool false) := by rw [Lib.cell_of_heap (unhide HU)]; rfl
      have v1 : wD.cell? ⟨V, 1, none⟩ = some (.bool true) := by rw [Lib.cell_of_heap (unhide HV)]; rfl
      have z0 : wD.cell? ⟨Z, 0, none⟩ = some (.int .i64 RZ.k) := by rw [Lib.cell_of_heap (unhide HZ)]; rfl
      have z1 : wD.cell? ⟨Z, 1, none⟩ = some (.bool RZ.b) := by rw [Lib.cell_of_heap (unhide HZ)]; rfl
      have z2 : wD.cell? ⟨Z, 2, none⟩ = some (.int .i64 RZ.n) := by rw [Lib.cell_of_heap (unhide HZ)]; rfl
      have z3 : wD.cell? ⟨Z, 3, none⟩ = some (.string RZ.s) := by rw [Lib.cell_of_heap (unhide HZ)]; rfl
      have z4 : wD.cell? ⟨Z, 4, none⟩ = some (.string RZ.t) := by rw [Lib.cell_of_heap (unhide HZ)]; rfl
      have z5 : wD.cell? ⟨Z, 5, none⟩ = some (.string RZ.i) := by rw [Lib.cell_of_heap (unhide HZ)]; rfl
      have z6 : wD.cell? ⟨Z, 6, none⟩ = some (.slice RZ.lo RZ.ll RZ.lc) := by rw [Lib.cell_of_heap (unhide HZ)]; rfl
      have c0 := cell_regrown c0
      have c1 := cell_regrown c1
      have c2 := cell_regrown c2
      have c3 := cell_regrown c3
      have c4 := cell_regrown c4
      have c5 := cell_regrown c5
      have c6 := cell_regrown c6
      have d0 := cell_regrown d0
      have d1 := cell_regrown d1
      have d2 := cell_regrown d2
      have d3 := cell_regrown d3
      have d4 := cell_regrown d4
      have d5 := cell_regrown d5
      have d6 := cell_regrown d6
      have u1 := cell_regrown u1
      have v1 := cell_regrown v1
      have z0 := cell_regrown z0
      have z1 := cell_regrown z1
      have z2 := cell_regrown z2
      have z3 := cell_regrown z3
      have z4 := cell_regrown z4
      have z5 := cell_regrown z5
      have z6 := cell_regrown z6
      have S1 := fun w' (hb : Below wD.heap.size wD w') => r3sameS_any g0 g1 R0 R1 w' ((unhide HG0).below hb) ((unhide HG1).below hb) (Nat.le_trans (unhide HL0) (by decide))
      have S2 := fun w' (hb : Below wD.heap.size wD w') => r3sameG_true g0 RZ R0 w' ((unhide HGZ).below hb) ((unhide HG0).below hb) (Nat.le_trans (unhide HL0) (by decide))
      rw [unhide HSM] at S1
      unfold R7.val at S1 S2
      have cS := fun d os => Calls.regrown_of (w := wD) (d := d) (os := os) (S1 (grow (redrawn wD d) os) (below_regrown wD d os))
      have cT := fun d os => Calls.regrown_of (w := wD) (d := d) (os := os) (S2 (grow (redrawn wD d) os) (below_regrown wD d os))
      clear S1 S2
      go_wp2_with fail
      refine wp_region_quiet_below (by kernel_rfl) (by kernel_rfl) ?_
      iterate 13 (quiet_step (exact cS _ _))
      repeat (quiet_step (exact cT _ _))
      refine wpQuiet_nil ?_
      intro _ hw'
      obtain ⟨⟨dq, osq⟩, hw''⟩ := hw'
      subst hw''
      have bq := below_regrown wD dq osq
      clear c0 c1 c2 c3 c4 c5 c6 d0 d1 d2 d3 d4 d5 d6 u1 v1 z0 z1 z2 z3 z4 z5 z6 cS cT
      have HB2 := hide ((unhide HB).trans ((bq).mono (unhide HB).size))
      have HG02 := hide ((unhide HG0).below (bq))
      have HG12 := hide ((unhide HG1).below (bq))
      have HX2 := hide ((unhide HX).below (bq) (cell_lt7 (unhide HX).c0))
      have HY2 := hide ((unhide HY).below (bq) (cell_lt7 (unhide HY).c0))
      have HH2 := hide (kept_of_below (bq) (unhide HH))
      have HMH2 := hide ((unhide HMH).below (bq))
      clear HP HQ HE0 HE1 HU HV HZ HMZ HGZ bq
      clear HB HG0 HG1 HX HY HH HMH
      have HB := HB2
      clear HB2
      have HG0 := HG02
      clear HG02
      have HG1 := HG12
      clear HG12
      have HX := HX2
      clear HX2
      have HY := HY2
      clear HY2
      have HH := HH2
      clear HH2
      have HMH := HMH2
      clear HMH2
      generalize grow (redrawn wD dq) osq = wE at *
      cases g0 with
      | pl p =>
        obtain rfl : R0 = ofP p := unhide HG0
        obtain ⟨e16, _, _⟩ : kH = 16 ∧ (16 : Int) ≠ 0 ∧ RH = zero7 := unhide HMH
        subst e16
        have k5 : ((ofP p).k == (5 : Int)) = false := by
          rw [beq_eq_false_iff_ne]
          exact ofP_k5 p
        have c0 := (unhide HX).c0
        generalize (ofP p).k = kk at *
        go_wp2
        go_ret
        exact ⟨rfl, unhide HB⟩
      | set l =>
        obtain ⟨ao, c, rfl, hr, _⟩ := unhide HG0
        obtain ⟨e0, hgh, _⟩ : kH = 0 ∧ IsG wE (.pl (.bool (hasG l g1))) RH ∧ okEG (.pl (.bool (hasG l g1))) := unhide HMH
        subst e0
        obtain rfl : RH = ofP (.bool (hasG l g1)) := hgh
        have S := fun w' (hb : Below wE.heap.size wE w') => r3holdsG_any l g1 R1 ao c w' (Nat.le_trans (show l.length ≤ 8 from unhide HL0) (by decide)) (hr.below hb) ((unhide HG1).below hb)
        unfold R7.val at S
        have hv := unhide HH
        have h1 : wE.cell? ⟨H, 1, none⟩ = some (.bool (hasG l g1)) := by rw [Lib.cell_of_heap hv]; rfl
        generalize hasG l g1 = hs at *
        simp only [setR] at S HX
        obtain ⟨c0, c1, c2, c3, c4, c5, c6⟩ := unhide HX
        simp only [Nat.zero_add] at c1 c2 c3 c4 c5 c6
        obtain ⟨d0, d1, d2, d3, d4, d5, d6⟩ := unhide HY
        simp only [Nat.zero_add] at d1 d2 d3 d4 d5 d6
        simp only at c0 c1 c2 c3 c4 c5 c6
        clear hv hr
        go_upto_region 16 with fail
        have c0 := cell_regrown c0
        have c1 := cell_regrown c1
        have c2 := cell_regrown c2
        have c3 := cell_regrown c3
        have c4 := cell_regrown c4
        have c5 := cell_regrown c5
        have c6 := cell_regrown c6
        have d0 := cell_regrown d0
        have d1 := cell_regrown d1
        have d2 := cell_regrown d2
        have d3 := cell_regrown d3
        have d4 := cell_regrown d4
        have d5 := cell_regrown d5
        have d6 := cell_regrown d6
        have h1 := cell_regrown h1
        have cS := fun d os => Calls.regrown_of (w := wE) (d := d) (os := os) (S (grow (redrawn wE d) os) (below_regrown wE d os))
        clear S
        refine wp_region_quiet_below (by kernel_rfl) (by kernel_rfl) ?_
        repeat (quiet_step (exact cS _ _))
        refine wpQuiet_nil ?_
        intro _ hw'
        obtain ⟨⟨dr, osr⟩, hw''⟩ := hw'
        subst hw''
        have br := below_regrown wE dr osr
        go_wp2
        go_ret
        exact ⟨ret_bool (by simp), (unhide HB).trans (br.mono (unhide HB).size)⟩
end Go.Proofs.YtbbongdnnmanlaaGreat
