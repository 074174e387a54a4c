/-
  chancellaw3.ValueMixed: the walk.
-/
import Derived.Test.YtppincbcaijcbabVMixQ
import Derived.Deep.Cut
namespace Go.Proofs.Ytppincbcaijcbab
open Go.RowKit Go.Sort

theorem kind_of4 (x : Int) : ∃ p : Nat, 1 ≤ p ∧ p ≤ 4 ∧ 1 + x % 4 = (p : Int) := by
  have h0 := Int.emod_nonneg x (show (4 : Int) ≠ 0 by decide)
  have h1 := Int.emod_lt_of_pos x (show (0 : Int) < 4 by decide)
  exact ⟨(1 + x % 4).toNat, by omega, by omega, by omega⟩

theorem plainV_kind (p : Nat) (h1 : 1 ≤ p) (h4 : p ≤ 4) (n : Int) (xs : List Int) : (plainV p n xs).kind = p := by
  match p, h1, h4 with
  | 1, _, _ | 2, _, _ | 3, _, _ | 4, _, _ => rfl

set_option maxHeartbeats 4000000 in
set_option maxRecDepth 1000000 in
theorem mixed_walk (r r' : RawE) (lo lo' : Option Addr) (ll ll' lc lc' : Nat) (kinds : Int) (w : World) (hr : r.Ok w) (hr' : r'.Ok w) :
    Calls Try.prog 4 #[.agg #[.int .i64 r.k, .int .i64 r.n, .slice r.so r.xs.length r.sc, .slice lo ll lc], .agg #[.int .i64 r'.k, .int .i64 r'.n, .slice r'.so r'.xs.length r'.sc, .slice lo' ll' lc'], .int .i64 kinds] w fun e w' => e = .returned (.bool true) ∧ Below w.heap.size w w' := by
  have K := known3_any
  have W1 := within3_any kinds 4 (by decide) (by decide)
  have W2 := within3_any (wrap64 (kinds.tdiv 4)) 4 (by decide) (by decide)
  obtain ⟨p, hp1, hp4, hp⟩ := kind_of4 kinds
  obtain ⟨q, hq1, hq4, hq⟩ := kind_of4 (wrap64 (kinds.tdiv 4))
  go_enter Try.func4, Try.ntmps4
  go_wp2_with fail
  have b2 := below2 w (.cells #[.int .i64 r.k, .int .i64 r.n, .slice r.so r.xs.length r.sc, .slice lo ll lc] 38) (.cells #[.int .i64 r'.k, .int .i64 r'.n, .slice r'.so r'.xs.length r'.sc, .slice lo' ll' lc'] 38)
  generalize hw2 : (w.alloc (.cells #[.int .i64 r.k, .int .i64 r.n, .slice r.so r.xs.length r.sc, .slice lo ll lc] 38)).alloc (.cells #[.int .i64 r'.k, .int .i64 r'.n, .slice r'.so r'.xs.length r'.sc, .slice lo' ll' lc'] 38) = w2 at *
  have Z2 := hide (show w2.heap.size = w.heap.size + 2 by rw [← hw2]; simp)
  have x0 : w2.cell? ⟨w.heap.size, 0, none⟩ = some (.int .i64 r.k) := by rw [← hw2]; simp
  have x1 : w2.cell? ⟨w.heap.size, 1, none⟩ = some (.int .i64 r.n) := by rw [← hw2]; simp
  have x2 : w2.cell? ⟨w.heap.size, 2, none⟩ = some (.slice r.so r.xs.length r.sc) := by rw [← hw2]; simp
  have x3 : w2.cell? ⟨w.heap.size, 3, none⟩ = some (.slice lo ll lc) := by rw [← hw2]; simp
  have y0 : w2.cell? ⟨w.heap.size + 1, 0, none⟩ = some (.int .i64 r'.k) := by rw [← hw2]; simp
  have y1 : w2.cell? ⟨w.heap.size + 1, 1, none⟩ = some (.int .i64 r'.n) := by rw [← hw2]; simp
  have y2 : w2.cell? ⟨w.heap.size + 1, 2, none⟩ = some (.slice r'.so r'.xs.length r'.sc) := by rw [← hw2]; simp
  have y3 : w2.cell? ⟨w.heap.size + 1, 3, none⟩ = some (.slice lo' ll' lc') := by rw [← hw2]; simp
  clear hw2
  refine (K _).mono ?_
  rintro e w3 ⟨rfl, b23⟩
  go_wp2_with fail
  refine (W1 _).mono ?_
  rintro e w3' ⟨rfl, rfl⟩
  go_wp2_with fail
  refine (W2 _).mono ?_
  rintro e w3'' ⟨rfl, rfl⟩
  clear K W1 W2
  go_wp2_with fail
  have L2 : w.heap.size + 1 < w2.heap.size := by have := unhide Z2; omega
  have b3 := b2.trans (b23.mono b2.size)
  have PL : ∀ w', Below w3''.heap.size w3'' w' → Calls Try.prog 9 #[.agg #[.int .i64 r.k, .int .i64 r.n, .slice r.so r.xs.length r.sc, .slice lo ll lc], .int .i64 p] w' fun e w'' => e = .returned (ofP (plainV p r.n r.xs)).val ∧ Below w'.heap.size w' w'' := fun w' hb => plain3_any p hp1 hp4 _ _ _ _ _ _ _ _ w' hr.len hr.cap ((hr.ints.below b3).below hb)
  have PL' : ∀ w', Below w3''.heap.size w3'' w' → Calls Try.prog 9 #[.agg #[.int .i64 r'.k, .int .i64 r'.n, .slice r'.so r'.xs.length r'.sc, .slice lo' ll' lc'], .int .i64 q] w' fun e w'' => e = .returned (ofP (plainV q r'.n r'.xs)).val ∧ Below w'.heap.size w' w'' := fun w' hb => plain3_any q hq1 hq4 _ _ _ _ _ _ _ _ w' hr'.len hr'.cap ((hr'.ints.below b3).below hb)
  have X : plainV p r.n r.xs = plainV p r.n r.xs := rfl
  obtain ⟨x, hx⟩ : ∃ x, x = plainV p r.n r.xs := ⟨_, rfl⟩
  obtain ⟨y, hy⟩ : ∃ y, y = plainV q r'.n r'.xs := ⟨_, rfl⟩
  rw [← hx] at PL
  rw [← hy] at PL'
  clear X
  refine wp_specsA_put 8 (mixSp w.heap.size (.agg #[.int .i64 r.k, .int .i64 r.n, .slice r.so r.xs.length r.sc, .slice lo ll lc]) (.agg #[.int .i64 r'.k, .int .i64 r'.n, .slice r'.so r'.xs.length r'.sc, .slice lo' ll' lc']) p q (ofP x).val (ofP y).val) (TwoNew 9 10 w3'') (by kernel_rfl) (by kernel_rfl) ⟨(Below.refl _ w3'').drew, fun b hb => (by cases hb), fun b hb => (by cases hb), fun b c hb => (by cases hb)⟩ ?_ ?_
  · intro i o hi ho a' w' hR hdep hslot K hK
    have hcell : ∀ b o, b < w2.heap.size → w'.cell? ⟨b, o, none⟩ = w2.cell? ⟨b, o, none⟩ := fun b o hb => by
      have z := b23.size
      rw [hR.below.cell (p := ⟨b, o, none⟩) (by show b < _; omega), b23.cell (p := ⟨b, o, none⟩) hb]
    match i, hi with
    | 0, _ =>
      cases ho
      have e : a'.tmps.getD 3 undef = .pointer (some ⟨w.heap.size, 0, none⟩) := hslot 3 (by decide)
      have c0 := (hcell _ 0 (by omega)).trans x0
      have c1 := (hcell _ 1 (by omega)).trans x1
      have c2 := (hcell _ 2 (by omega)).trans x2
      have c3 := (hcell _ 3 (by omega)).trans x3
      unfold Oper.wp
      go_simp
      exact hK _ _ rfl (hR.other (Below.refl _ _) _ _ (by decide) (by decide)) (fun _ _ h => h)
    | 1, _ =>
      cases ho
      have e : a'.tmps.getD 7 undef = .int .i64 p := hslot 7 (by decide)
      unfold Oper.wp
      go_simp
      exact hK _ _ rfl (hR.other (Below.refl _ _) _ _ (by decide) (by decide)) (fun _ _ h => h)
    | 2, _ =>
      cases ho
      have e1 : a'.tmps.getD 28 undef = _ := hdep 0 (by kernel_rfl)
      have e2 : a'.tmps.getD 29 undef = _ := hdep 1 (by kernel_rfl)
      have PW := PL w' hR.below
      clear PL PL'
      unfold Oper.wp
      go_simp
      refine PW.mono ?_
      rintro e w3 ⟨rfl, b3⟩
      exact hK _ _ rfl (hR.other b3 _ _ (by decide) (by decide)) (mixSp_up b3)
    | 3, _ =>
      cases ho
      have e : a'.tmps.getD 4 undef = .pointer (some ⟨w.heap.size + 1, 0, none⟩) := hslot 4 (by decide)
      have c0 := (hcell _ 0 (by omega)).trans y0
      have c1 := (hcell _ 1 (by omega)).trans y1
      have c2 := (hcell _ 2 (by omega)).trans y2
      have c3 := (hcell _ 3 (by omega)).trans y3
      unfold Oper.wp
      go_simp
      exact hK _ _ rfl (hR.other (Below.refl _ _) _ _ (by decide) (by decide)) (fun _ _ h => h)
    | 4, _ =>
      cases ho
      have e : a'.tmps.getD 8 undef = .int .i64 q := hslot 8 (by decide)
      unfold Oper.wp
      go_simp
      exact hK _ _ rfl (hR.other (Below.refl _ _) _ _ (by decide) (by decide)) (fun _ _ h => h)
    | 5, _ =>
      cases ho
      have e1 : a'.tmps.getD 31 undef = _ := hdep 3 (by kernel_rfl)
      have e2 : a'.tmps.getD 32 undef = _ := hdep 4 (by kernel_rfl)
      have PW := PL' w' hR.below
      clear PL PL'
      unfold Oper.wp
      go_simp
      refine PW.mono ?_
      rintro e w3 ⟨rfl, b3⟩
      exact hK _ _ rfl (hR.other b3 _ _ (by decide) (by decide)) (mixSp_up b3)
    | 6, _ =>
      cases ho
      unfold Oper.wp
      go_simp
      exact hK _ _ ⟨_, rfl, fresh7_new w' (Nat.le_trans b3.size hR.below.size)⟩ (hR.first (by decide) _) (mixSp_up (below1 _ _))
    | 7, _ =>
      cases ho
      unfold Oper.wp
      go_simp
      exact hK _ _ ⟨_, rfl, fresh7_new w' (Nat.le_trans b3.size hR.below.size)⟩ (hR.second (by decide) _) (mixSp_up (below1 _ _))
  · intro v w4 hR hall
    have e0 : v 0 = _ := hall 0 (by decide)
    have e1 : v 1 = _ := hall 1 (by decide)
    have e2 : v 2 = _ := hall 2 (by decide)
    have e3 : v 3 = _ := hall 3 (by decide)
    have e4 : v 4 = _ := hall 4 (by decide)
    have e5 : v 5 = _ := hall 5 (by decide)
    obtain ⟨c1, e6, F1⟩ : ∃ b, v 6 = .pointer (some ⟨b, 0, none⟩) ∧ Fresh7 w.heap.size w4 b := hall 6 (by decide)
    obtain ⟨c2, e7, F2⟩ : ∃ b, v 7 = .pointer (some ⟨b, 0, none⟩) ∧ Fresh7 w.heap.size w4 b := hall 7 (by decide)
    have hne : c1 ≠ c2 := hR.ne c1 c2 ((show _ = v 6 from by kernel_rfl).trans e6) ((show _ = v 7 from by kernel_rfl).trans e7)
    have b4 := b3.trans (hR.below.mono b3.size)
    clear hR hall PL PL' x0 x1 x2 x3 y0 y1 y2 y3 L2 Z2 b23 b2 b3
    have hpk : x.kind = p := by rw [hx]; exact plainV_kind p hp1 hp4 _ _
    have hqk : y.kind = q := by rw [hy]; exact plainV_kind q hq1 hq4 _ _
    clear hx hy hr hr' hp hq
    simp only [putAll, dstOf, List.getElem?_cons_zero, List.getElem?_cons_succ, Option.bind_some, List.drop_succ_cons, List.drop_zero, e0, e1, e2, e3, e4, e5, e6, e7]
    clear e0 e1 e2 e3 e4 e5 e6 e7
    have U1 := at7_set F1.cells (ofP x)
    have V1 := at7_other F2.cells hne (.int .i64 (ofP x).k) (.bool (ofP x).b) (.int .i64 (ofP x).n) (.string (ofP x).s) (.string (ofP x).t) (.string (ofP x).i) (.slice (ofP x).lo (ofP x).ll (ofP x).lc)
    have U2 := at7_other U1 (Ne.symm hne) (.int .i64 (ofP y).k) (.bool (ofP y).b) (.int .i64 (ofP y).n) (.string (ofP y).s) (.string (ofP y).t) (.string (ofP y).i) (.slice (ofP y).lo (ofP y).ll (ofP y).lc)
    have V2 := at7_set V1 (ofP y)
    have b5 := set7_below (set7_below b4 F1.ge (.int .i64 (ofP x).k) (.bool (ofP x).b) (.int .i64 (ofP x).n) (.string (ofP x).s) (.string (ofP x).t) (.string (ofP x).i) (.slice (ofP x).lo (ofP x).ll (ofP x).lc)) F2.ge (.int .i64 (ofP y).k) (.bool (ofP y).b) (.int .i64 (ofP y).n) (.string (ofP y).s) (.string (ofP y).t) (.string (ofP y).i) (.slice (ofP y).lo (ofP y).ll (ofP y).lc)
    have G1 := F1.free
    have G2 := F2.free
    have g1 := F1.ge
    have g2 := F2.ge
    have A1 := F1.cells
    have A2 := F2.cells
    clear F1 F2 V1 U1
    obtain ⟨R1, hR1⟩ : ∃ R, R = ofP x := ⟨_, rfl⟩
    obtain ⟨R2, hR2⟩ : ∃ R, R = ofP y := ⟨_, rfl⟩
    rw [← hR1, ← hR2] at U2 V2 b5 ⊢
    have H1 := hide hR1
    have H2 := hide hR2
    have Hp := hide hpk
    have Hq := hide hqk
    clear hR1 hR2 hpk hqk
    unfold R7.val
    obtain ⟨a0, a1, a2, a3, a4, a5, a6⟩ := A1
    obtain ⟨d0, d1, d2, d3, d4, d5, d6⟩ := A2
    simp only [Nat.zero_add] at a1 a2 a3 a4 a5 a6 d1 d2 d3 d4 d5 d6
    go_upto_region 5 with fail
    generalize hw5 : (World.setCell (World.setCell (World.setCell (World.setCell (World.setCell (World.setCell (World.setCell (World.setCell (World.setCell (World.setCell (World.setCell (World.setCell (World.setCell (World.setCell w4 _ _) _ _) _ _) _ _) _ _) _ _) _ _) _ _) _ _) _ _) _ _) _ _) _ _) _ _) = w5 at *
    clear hw5 a0 a1 a2 a3 a4 a5 a6 d0 d1 d2 d3 d4 d5 d6 G1 G2 b4 g1 g2
    have l1 := cell_lt U2.c0
    have l2 := cell_lt V2.c0
    have S1 := set_two x y (some ⟨w5.heap.size, 0, none⟩) 2 _ (by rw [← unhide H1, ← unhide H2]; exact row2 w5 R1 R2)
    have b56 := below1 w5 (.cells #[.int .i64 R1.k, .bool R1.b, .int .i64 R1.n, .string R1.s, .string R1.t, .string R1.i, .slice R1.lo R1.ll R1.lc, .int .i64 R2.k, .bool R2.b, .int .i64 R2.n, .string R2.s, .string R2.t, .string R2.i, .slice R2.lo R2.ll R2.lc] 28)
    have A1 := U2
    have A2 := V2
    obtain ⟨a0, a1, a2, a3, a4, a5, a6⟩ := A1
    obtain ⟨d0, d1, d2, d3, d4, d5, d6⟩ := A2
    simp only [Nat.zero_add] at a1 a2 a3 a4 a5 a6 d1 d2 d3 d4 d5 d6
    go_wp2_with fail
    have HE : ∃ E : Int, E = (if x.kind = y.kind then 0 else 16) := ⟨_, rfl⟩
    obtain ⟨E, hE⟩ := HE
    rw [← hE] at S1
    have HE := hide hE
    clear hE
    refine S1.mono ?_
    clear S1 a0 a1 a2 a3 a4 a5 a6 d0 d1 d2 d3 d4 d5 d6
    rintro e w6 ⟨b6, R3, rfl, M3, L3⟩
    have b05 := b5.trans (b56.mono b5.size)
    have b06 := b05.trans (b6.mono b05.size)
    have l16 : c1 < w6.heap.size := by have := b6.size; rw [size1] at this; omega
    have l26 : c2 < w6.heap.size := by have := b6.size; rw [size1] at this; omega
    have U6 := (U2.below b56 l1).below b6 (by rw [size1]; omega)
    have V6 := (V2.below b56 l2).below b6 (by rw [size1]; omega)
    clear b05 b56 b5 U2 V2 l1 l2 b6
    unfold R7.val
    go_upto_region 6 with fail
    have b67 := below1 w6 (.cells #[.int .i64 R3.k, .bool R3.b, .int .i64 R3.n, .string R3.s, .string R3.t, .string R3.i, .slice R3.lo R3.ll R3.lc] 28)
    have U7 := U6.below b67 l16
    have V7 := V6.below b67 l26
    have X7 := at7_new w6 R3
    have M7 := fun h => (M3 h).below b67
    have L7 := hide L3
    have b07 := b06.trans (b67.mono b06.size)
    have l37 : w6.heap.size < (w6.alloc (.cells #[.int .i64 R3.k, .bool R3.b, .int .i64 R3.n, .string R3.s, .string R3.t, .string R3.i, .slice R3.lo R3.ll R3.lc] 28)).heap.size := by simp
    generalize w6.alloc _ = w7 at *
    have l17 : c1 < w7.heap.size := by omega
    have l27 : c2 < w7.heap.size := by omega
    have hc3 : ∃ c3, c3 = w6.heap.size := ⟨_, rfl⟩
    obtain ⟨c3, hc3⟩ := hc3
    rw [← hc3] at X7 l37 ⊢
    clear l16 l26 b67 U6 V6 M3 L3 b06 hc3
    have S2 := set_few [x] (some ⟨w7.heap.size, 0, none⟩) 1 _ (by simp) (by rw [List.map_cons, List.map_nil, ← unhide H1]; exact row1 w7 R1) (by simp)
    have b78 := below1 w7 (.cells #[.int .i64 R1.k, .bool R1.b, .int .i64 R1.n, .string R1.s, .string R1.t, .string R1.i, .slice R1.lo R1.ll R1.lc] 28)
    have A1 := U7
    obtain ⟨a0, a1, a2, a3, a4, a5, a6⟩ := A1
    simp only [Nat.zero_add] at a1 a2 a3 a4 a5 a6
    have HM7 := hide M7
    clear M7
    go_wp2_with fail
    refine S2.mono ?_
    clear S2 a0 a1 a2 a3 a4 a5 a6
    rintro e w8 ⟨b8, R4, rfl, M4⟩
    have H4 := hide M4.k
    have b07' := b07.trans (b78.mono b07.size)
    have b08 := b07'.trans (b8.mono b07'.size)
    have z8 : w7.heap.size < w8.heap.size := by have := b8.size; rw [size1] at this; omega
    have U8 := (U7.below b78 l17).below b8 (by rw [size1]; omega)
    have V8 := (V7.below b78 l27).below b8 (by rw [size1]; omega)
    have X8 := (X7.below b78 l37).below b8 (by rw [size1]; omega)
    have M8 := fun h => ((unhide HM7 h).below b78).below b8
    have Z8 := hide z8
    have HM8 := hide M8
    clear b07' b78 b07 b8 U7 V7 X7 HM7 M4 M8 z8
    unfold R7.val
    go_upto_region 7 with fail
    have b89 := below1 w8 (.cells #[.int .i64 R4.k, .bool R4.b, .int .i64 R4.n, .string R4.s, .string R4.t, .string R4.i, .slice R4.lo R4.ll R4.lc] 28)
    have z8 := unhide Z8
    have U9 := U8.below b89 (by omega)
    have V9 := V8.below b89 (by omega)
    have X9 := X8.below b89 (by omega)
    have Y9 := at7_new w8 R4
    have HM9 := hide (fun h => ((unhide HM8) h).below b89)
    have b09 := b08.trans (b89.mono b08.size)
    have l49 : w8.heap.size < (w8.alloc (.cells #[.int .i64 R4.k, .bool R4.b, .int .i64 R4.n, .string R4.s, .string R4.t, .string R4.i, .slice R4.lo R4.ll R4.lc] 28)).heap.size := by simp
    generalize w8.alloc _ = w9 at *
    have l19 : c1 < w9.heap.size := by omega
    have l29 : c2 < w9.heap.size := by omega
    have l39 : c3 < w9.heap.size := by omega
    have hc4 : ∃ c4, c4 = w8.heap.size := ⟨_, rfl⟩
    obtain ⟨c4, hc4⟩ := hc4
    rw [← hc4] at Y9 l49 ⊢
    clear l17 l27 l37 b89 U8 V8 X8 HM8 b08 hc4 Z8 z8
    have S3 := set_nested R4 R4 (some ⟨w9.heap.size, 0, none⟩) 2 _ (row2 w9 R4 R4) (unhide H4)
    have b910 := below1 w9 (.cells #[.int .i64 R4.k, .bool R4.b, .int .i64 R4.n, .string R4.s, .string R4.t, .string R4.i, .slice R4.lo R4.ll R4.lc, .int .i64 R4.k, .bool R4.b, .int .i64 R4.n, .string R4.s, .string R4.t, .string R4.i, .slice R4.lo R4.ll R4.lc] 28)
    have A1 := Y9
    obtain ⟨a0, a1, a2, a3, a4, a5, a6⟩ := A1
    simp only [Nat.zero_add] at a1 a2 a3 a4 a5 a6
    go_wp2_with fail
    refine S3.mono ?_
    clear S3 a0 a1 a2 a3 a4 a5 a6
    rintro e w10 ⟨rfl, b10⟩
    have b09' := b09.trans (b910.mono b09.size)
    have b010 := b09'.trans (b10.mono b09'.size)
    have z10 : w9.heap.size < w10.heap.size := by have := b10.size; rw [size1] at this; omega
    have U10 := (U9.below b910 l19).below b10 (by rw [size1]; omega)
    have V10 := (V9.below b910 l29).below b10 (by rw [size1]; omega)
    have X10 := (X9.below b910 l39).below b10 (by rw [size1]; omega)
    have Y10 := (Y9.below b910 l49).below b10 (by rw [size1]; omega)
    have HM10 := hide (fun h => ((unhide HM9 h).below b910).below b10)
    have Z10 := hide z10
    clear b09' b910 b09 b10 U9 V9 X9 Y9 HM9 z10
    unfold zero7 R7.val
    simp only
    go_upto_region 8 with fail
    have b1011 := below1 w10 (.cells #[.int .i64 0, .bool false, .int .i64 0, .string (ba []), .string (ba []), .string (ba []), .slice none 0 0] 28)
    have z10 := unhide Z10
    have U11 := U10.below b1011 (by omega)
    have V11 := V10.below b1011 (by omega)
    have X11 := X10.below b1011 (by omega)
    have Y11 := Y10.below b1011 (by omega)
    have HM11 := hide (fun h => ((unhide HM10) h).below b1011)
    have b011 := b010.trans (b1011.mono b010.size)
    generalize w10.alloc _ = w11 at *
    have z1011 := b1011.size
    have l111 : c1 < w11.heap.size := by omega
    have l211 : c2 < w11.heap.size := by omega
    have l311 : c3 < w11.heap.size := by omega
    have l411 : c4 < w11.heap.size := by omega
    clear U10 V10 X10 Y10 HM10 b010 Z10 z10 b1011 z1011 l19 l29 l39 l49
    have S4 := set_nested R1 R4 (some ⟨w11.heap.size, 0, none⟩) 2 _ (row2 w11 R1 R4) (unhide H4)
    have b1112 := below1 w11 (.cells #[.int .i64 R1.k, .bool R1.b, .int .i64 R1.n, .string R1.s, .string R1.t, .string R1.i, .slice R1.lo R1.ll R1.lc, .int .i64 R4.k, .bool R4.b, .int .i64 R4.n, .string R4.s, .string R4.t, .string R4.i, .slice R4.lo R4.ll R4.lc] 28)
    have A1 := U11
    have A2 := Y11
    obtain ⟨a0, a1, a2, a3, a4, a5, a6⟩ := A1
    obtain ⟨d0, d1, d2, d3, d4, d5, d6⟩ := A2
    simp only [Nat.zero_add] at a1 a2 a3 a4 a5 a6 d1 d2 d3 d4 d5 d6
    go_wp2_with fail
    refine S4.mono ?_
    clear S4 a0 a1 a2 a3 a4 a5 a6 d0 d1 d2 d3 d4 d5 d6
    rintro e w12 ⟨rfl, b12⟩
    have b011' := b011.trans (b1112.mono b011.size)
    have b012 := b011'.trans (b12.mono b011'.size)
    have z12 : w11.heap.size < w12.heap.size := by have := b12.size; rw [size1] at this; omega
    have U12 := (U11.below b1112 l111).below b12 (by rw [size1]; omega)
    have V12 := (V11.below b1112 l211).below b12 (by rw [size1]; omega)
    have X12 := (X11.below b1112 l311).below b12 (by rw [size1]; omega)
    have HM12 := hide (fun h => ((unhide HM11 h).below b1112).below b12)
    have Z12 := hide z12
    clear b011' b1112 b011 b12 U11 V11 X11 Y11 HM11 z12
    unfold zero7 R7.val
    simp only
    go_upto_region 9 with fail
    have b1213 := below1 w12 (.cells #[.int .i64 0, .bool false, .int .i64 0, .string (ba []), .string (ba []), .string (ba []), .slice none 0 0] 28)
    have z12 := unhide Z12
    have U13 := U12.below b1213 (by omega)
    have V13 := V12.below b1213 (by omega)
    have X13 := X12.below b1213 (by omega)
    have HM13 := hide (fun h => ((unhide HM12) h).below b1213)
    have b013 := b012.trans (b1213.mono b012.size)
    generalize w12.alloc _ = w13 at *
    have z1213 := b1213.size
    have l1 : c1 < w13.heap.size := by omega
    have l2 : c2 < w13.heap.size := by omega
    have l3 : c3 < w13.heap.size := by omega
    clear U12 V12 X12 HM12 b012 Z12 z12 b1213 z1213 l111 l211 l311 l411
    by_cases hpq : p = q
    · subst hpq
      have hk : x.kind = y.kind := (unhide Hp).trans (unhide Hq).symm
      have hE : E = 0 := by rw [unhide HE, if_pos hk]
      have M := unhide HM13 hk
      subst hE
      have Q1 := fun w' hb => holds_made [x, y] R3 x w' (M.below hb) (by simp) (by simp)
      have Q2 := fun w' hb => holds_made [x, y] R3 y w' (M.below hb) (by simp) (by simp)
      have Q3 := holds_flat x R1
      rw [← unhide H1] at Q1 Q3
      rw [← unhide H2] at Q2
      have HM := hide M
      have HK := hide hk
      clear M hk
      unfold R7.val at Q1 Q2 Q3
      have A1 := U13
      have A3 := X13
      obtain ⟨a0, a1, a2, a3, a4, a5, a6⟩ := A1
      obtain ⟨d0, d1, d2, d3, d4, d5, d6⟩ := A3
      simp only [Nat.zero_add] at a1 a2 a3 a4 a5 a6 d1 d2 d3 d4 d5 d6
      have Q1' := Q1 w13 (Below.refl _ _)
      clear Q1
      go_wp2_with fail
      refine Q1'.mono ?_
      clear Q1' a0 a1 a2 a3 a4 a5 a6 d0 d1 d2 d3 d4 d5 d6
      rintro e w14 ⟨rfl, b14⟩
      have A1 := V13.below b14 l2
      have A3 := X13.below b14 l3
      obtain ⟨a0, a1, a2, a3, a4, a5, a6⟩ := A1
      obtain ⟨d0, d1, d2, d3, d4, d5, d6⟩ := A3
      simp only [Nat.zero_add] at a1 a2 a3 a4 a5 a6 d1 d2 d3 d4 d5 d6
      have Q2' := Q2 w14 b14
      clear Q2
      go_wp2_with fail
      refine Q2'.mono ?_
      clear Q2' a0 a1 a2 a3 a4 a5 a6 d0 d1 d2 d3 d4 d5 d6
      rintro e w15 ⟨rfl, b15⟩
      have b015 := b14.trans (b15.mono b14.size)
      have A1 := U13.below b015 l1
      obtain ⟨a0, a1, a2, a3, a4, a5, a6⟩ := A1
      simp only [Nat.zero_add] at a1 a2 a3 a4 a5 a6
      have Q3' := Q3 w15
      clear Q3
      go_wp2_with fail
      refine Q3'.mono ?_
      rintro e w16 ⟨rfl, b16⟩
      have b1 := b013.trans (b015.mono b013.size)
      clear Q3' a0 a1 a2 a3 a4 a5 a6
      go_wp2
      go_ret
      exact ⟨rfl, b1.trans (b16.mono b1.size)⟩
    · have hk : x.kind ≠ y.kind := fun h => hpq ((unhide Hp).symm.trans (h.trans (unhide Hq)))
      have hE : E = 16 := by rw [unhide HE, if_neg hk]
      subst hE
      have h3 := unhide L7 hk
      have A6 := X13.c6
      rw [h3] at A6
      simp only [Nat.zero_add] at A6
      have hpq' : ¬ (p : Int) = (q : Int) := by omega
      clear h3 hk
      go_wp2
      go_ret
      exact ⟨rfl, b013⟩
end Go.Proofs.Ytppincbcaijcbab
