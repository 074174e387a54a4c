/-
  chancellaw5.ParseBinds: the walk.
-/
import Derived.Test.YtachdibhieoelabGreatDoorPbA
import Derived.Lib.QuietBelow
import Derived.BigQuiet
import Derived.Deep.Cut
import Derived.Deep.QuietTactic
namespace Go.Proofs.YtachdibhieoelabGreatDoor
open Go.RowKit Go.Sort

theorem cells3 {w : World} {b : Nat} {x : ByteArray} {k c : Int} (h : w.heap[b]? = some (cell3 x k c)) : w.cell? ⟨b, 0, none⟩ = some (.string x) ∧ w.cell? ⟨b, 1, none⟩ = some (.int .i64 k) ∧ w.cell? ⟨b, 2, none⟩ = some (.int .i64 c) ∧ ∀ o, w.frozen? ⟨b, o, none⟩ = false := by
  unfold cell3 at h
  exact ⟨by rw [Lib.cell_of_heap h]; rfl, by rw [Lib.cell_of_heap h]; rfl, by rw [Lib.cell_of_heap h]; rfl, fun o => Lib.frozen_of_heap h o⟩

set_option maxHeartbeats 4000000 in
set_option maxRecDepth 1000000 in
theorem binds_walk (a b : Int) (w : World) (hT : Tabs w) : Calls Tryz.prog 4 #[.int .i64 a, .int .i64 b] w fun e w' => e = .returned (.bool true) ∧ Below w.heap.size w w' := by
  have K := known5_any w hT
  obtain ⟨i, hi⟩ : ∃ i : Nat, (i : Int) = a % 5 := ⟨(a % 5).toNat, by omega⟩
  obtain ⟨j, hj⟩ : ∃ j : Nat, (j : Int) = b % 5 := ⟨(b % 5).toNat, by omega⟩
  have hi5 : i < 5 := by omega
  have hj5 : j < 5 := by omega
  have WA := fun w' => within5_any a 5 (by decide) (by decide) w'
  have WB := fun w' => within5_any b 5 (by decide) (by decide) w'
  rw [← hi] at WA
  rw [← hj] at WB
  clear hi hj
  go_enter Tryz.func4, Tryz.ntmps4
  go_wp2_with fail
  refine K.mono ?_
  rintro e w1 ⟨rfl, b1⟩
  clear K
  go_wp2_with fail
  refine (ops5_any w1).mono ?_
  rintro e w2 ⟨rfl, b12, Z2⟩
  go_upto_region 4 with fail
  have b2 := b1.trans (b12.mono b1.size)
  obtain ⟨x0, x1, x2⟩ := ops5_cells Z2 i hi5
  obtain ⟨y0, y1, y2⟩ := ops5_cells Z2 j hj5
  have hgl : w1.heap.size < w2.heap.size := (Array.getElem?_eq_some_iff.1 Z2).1
  generalize w1.heap.size = g at *
  obtain ⟨X, hX⟩ : ∃ X : ByteArray, X = ⟨(bs5 i).toArray⟩ := ⟨_, rfl⟩
  obtain ⟨Y, hY⟩ : ∃ Y : ByteArray, Y = ⟨(bs5 j).toArray⟩ := ⟨_, rfl⟩
  obtain ⟨pk, hpk⟩ : ∃ k, k = bo5 i := ⟨_, rfl⟩
  obtain ⟨qk, hqk⟩ : ∃ k, k = bo5 j := ⟨_, rfl⟩
  obtain ⟨pb, hpb⟩ : ∃ k, k = bb5 i := ⟨_, rfl⟩
  obtain ⟨qb, hqb⟩ : ∃ k, k = bb5 j := ⟨_, rfl⟩
  rw [← hX] at x0
  rw [← hY] at y0
  rw [← hpk] at x1
  rw [← hqk] at y1
  rw [← hpb] at x2
  rw [← hqb] at y2
  have HX := hide hX
  have HY := hide hY
  have HPK := hide hpk
  have HQK := hide hqk
  have HPB := hide hpb
  have HQB := hide hqb
  have i1 : (i : Int) < 5 := by omega
  have i2 : (j : Int) < 5 := by omega
  clear hX hY hpk hqk hpb hqb Z2 b12
  refine wp_specsB 12 (bSp w2 g a b i j (.agg #[.string X, .int .i64 pk, .int .i64 pb]) (.agg #[.string Y, .int .i64 qk, .int .i64 qb])) (BR w2 (cell3 X pk pb) (cell3 Y qk qb)) (by kernel_rfl) (by kernel_rfl) (by kernel_rfl) ⟨(Below.refl _ w2).drew, fun h => (by cases h), fun h => (by cases h), fun h => (by cases h), fun h => (by cases h), fun h => (by cases h)⟩ ?_ ?_ ?_
  · intro k o hk ho L a' w' hL hw hR hdep hslot hsz K hK
    have hcell : ∀ o, w'.cell? ⟨g, o, none⟩ = w2.cell? ⟨g, o, none⟩ := fun o => hR.below.cell (p := ⟨g, o, none⟩) hgl
    match k, hk with
    | 0, _ =>
      cases ho
      have e := hslot 5 (by decide)
      have e : a'.tmps.getD 5 undef = .slice (some ⟨g, 0, none⟩) 5 5 := e
      unfold Oper.wp
      go_simp
      exact hK _ _ rfl (hR.other 0 13 _ (by decide) (by decide) (by decide)) (fun _ _ h => h)
    | 1, _ =>
      cases ho
      have e : a'.tmps.getD 0 undef = .int .i64 a := hslot 0 (by decide)
      unfold Oper.wp
      go_simp
      exact hK _ _ rfl (hR.other 1 14 _ (by decide) (by decide) (by decide)) (fun _ _ h => h)
    | 2, _ =>
      cases ho
      have e : a'.tmps.getD 14 undef = .int .i64 a := hdep 1 (by decide) (by kernel_rfl)
      unfold Oper.wp
      go_simp
      refine (WA w').mono ?_
      rintro e w3 ⟨rfl, rfl⟩
      exact hK _ _ rfl (hR.other 2 15 _ (by decide) (by decide) (by decide)) (fun _ _ h => h)
    | 3, _ =>
      cases ho
      have e1 : a'.tmps.getD 13 undef = .slice (some ⟨g, 0, none⟩) 5 5 := hdep 0 (by decide) (by kernel_rfl)
      have e2 : a'.tmps.getD 15 undef = .int .i64 i := hdep 2 (by decide) (by kernel_rfl)
      unfold Oper.wp
      go_simp
      exact hK _ _ rfl (hR.other 3 16 _ (by decide) (by decide) (by decide)) (fun _ _ h => h)
    | 4, _ =>
      cases ho
      have e : a'.tmps.getD 16 undef = .pointer (some ⟨g, i * 3, none⟩) := hdep 3 (by decide) (by kernel_rfl)
      have c0 := (hcell (i * 3)).trans x0
      have c1 := (hcell (i * 3 + 1)).trans x1
      have c2 := (hcell (i * 3 + 2)).trans x2
      unfold Oper.wp
      go_simp
      exact hK _ _ rfl (hR.other 4 17 _ (by decide) (by decide) (by decide)) (fun _ _ h => h)
    | 5, _ =>
      cases ho
      have e : a'.tmps.getD 5 undef = .slice (some ⟨g, 0, none⟩) 5 5 := hslot 5 (by decide)
      unfold Oper.wp
      go_simp
      exact hK _ _ rfl (hR.other 5 18 _ (by decide) (by decide) (by decide)) (fun _ _ h => h)
    | 6, _ =>
      cases ho
      have e : a'.tmps.getD 1 undef = .int .i64 b := hslot 1 (by decide)
      unfold Oper.wp
      go_simp
      exact hK _ _ rfl (hR.other 6 19 _ (by decide) (by decide) (by decide)) (fun _ _ h => h)
    | 7, _ =>
      cases ho
      have e : a'.tmps.getD 19 undef = .int .i64 b := hdep 6 (by decide) (by kernel_rfl)
      unfold Oper.wp
      go_simp
      refine (WB w').mono ?_
      rintro e w3 ⟨rfl, rfl⟩
      exact hK _ _ rfl (hR.other 7 20 _ (by decide) (by decide) (by decide)) (fun _ _ h => h)
    | 8, _ =>
      cases ho
      have e1 : a'.tmps.getD 18 undef = .slice (some ⟨g, 0, none⟩) 5 5 := hdep 5 (by decide) (by kernel_rfl)
      have e2 : a'.tmps.getD 20 undef = .int .i64 j := hdep 7 (by decide) (by kernel_rfl)
      unfold Oper.wp
      go_simp
      exact hK _ _ rfl (hR.other 8 21 _ (by decide) (by decide) (by decide)) (fun _ _ h => h)
    | 9, _ =>
      cases ho
      have e : a'.tmps.getD 21 undef = .pointer (some ⟨g, j * 3, none⟩) := hdep 8 (by decide) (by kernel_rfl)
      have c0 := (hcell (j * 3)).trans y0
      have c1 := (hcell (j * 3 + 1)).trans y1
      have c2 := (hcell (j * 3 + 2)).trans y2
      unfold Oper.wp
      go_simp
      exact hK _ _ rfl (hR.other 9 22 _ (by decide) (by decide) (by decide)) (fun _ _ h => h)
    | 10, _ =>
      cases ho
      unfold Oper.wp
      go_simp
      exact hK _ _ ⟨_, rfl, hR.below.size, by simp⟩ (hR.first hL (by rw [hsz]; exact Nat.le_of_ble_eq_true (by kernel_rfl))) (bSp_up (new1 _ _).size)
    | 11, _ =>
      cases ho
      unfold Oper.wp
      go_simp
      exact hK _ _ ⟨_, rfl, hR.below.size, by simp⟩ (hR.second hL (by rw [hsz]; exact Nat.le_of_ble_eq_true (by kernel_rfl))) (bSp_up (new1 _ _).size)
  · intro k o hk ho L a' w' hL hw hR hdep K hK
    have : k = 12 ∨ k = 13 := by
      have h := (List.getElem?_eq_some_iff.1 ho).1
      simp only [List.length_cons, List.length_nil] at h
      omega
    rcases this with rfl | rfl
    · cases ho
      obtain ⟨c, hc, hc1, hc2⟩ : ∃ c, a'.tmps.getD 6 undef = .pointer (some ⟨c, 0, none⟩) ∧ w2.heap.size ≤ c ∧ c < w'.heap.size := hdep 10 (by decide) (by kernel_rfl)
      have e : a'.tmps.getD 17 undef = .agg #[.string X, .int .i64 pk, .int .i64 pb] := hdep 4 (by decide) (by kernel_rfl)
      have z := (hR.p (hw 10 (by kernel_rfl)) c hc).2
      rw [hL] at z
      obtain ⟨z0, z1, z2, zf⟩ := cells3 z
      unfold Oper.wp
      go_simp
      exact hK _ (hR.put1 hL (hw 10 (by kernel_rfl)) hc) (bSp_up (Nat.le_of_eq (set3_size _ _ _ _ _).symm)) undef
    · cases ho
      obtain ⟨c, hc, hc1, hc2⟩ : ∃ c, a'.tmps.getD 7 undef = .pointer (some ⟨c, 0, none⟩) ∧ w2.heap.size ≤ c ∧ c < w'.heap.size := hdep 11 (by decide) (by kernel_rfl)
      have e : a'.tmps.getD 22 undef = .agg #[.string Y, .int .i64 qk, .int .i64 qb] := hdep 9 (by decide) (by kernel_rfl)
      have z := (hR.q (hw 11 (by kernel_rfl)) c hc).2
      rw [hL] at z
      obtain ⟨z0, z1, z2, zf⟩ := cells3 z
      unfold Oper.wp
      go_simp
      exact hK _ (hR.put2 hL (hw 11 (by kernel_rfl)) hc) (bSp_up (Nat.le_of_eq (set3_size _ _ _ _ _).symm)) undef
  · intro v L w4 hall hR hsp
    have e10' := hsp 10 (by decide)
    have e11' := hsp 11 (by decide)
    obtain ⟨c1, e10, _, _⟩ : ∃ c, v 10 = .pointer (some ⟨c, 0, none⟩) ∧ w2.heap.size ≤ c ∧ c < w4.heap.size := e10'
    obtain ⟨c2, e11, _, _⟩ : ∃ c, v 11 = .pointer (some ⟨c, 0, none⟩) ∧ w2.heap.size ≤ c ∧ c < w4.heap.size := e11'
    obtain ⟨_, P1⟩ := hR.p (hall 10 (by decide)) c1 ((show _ = v 10 from by kernel_rfl).trans e10)
    obtain ⟨_, Q1⟩ := hR.q (hall 11 (by decide)) c2 ((show _ = v 11 from by kernel_rfl).trans e11)
    rw [if_pos (hall 12 (by decide))] at P1
    rw [if_pos (hall 13 (by decide))] at Q1
    have e0 : v 0 = _ := hsp 0 (by decide)
    have e1 : v 1 = _ := hsp 1 (by decide)
    have e2 : v 2 = _ := hsp 2 (by decide)
    have e3 : v 3 = _ := hsp 3 (by decide)
    have e4 : v 4 = _ := hsp 4 (by decide)
    have e5 : v 5 = _ := hsp 5 (by decide)
    have e6 : v 6 = _ := hsp 6 (by decide)
    have e7 : v 7 = _ := hsp 7 (by decide)
    have e8 : v 8 = _ := hsp 8 (by decide)
    have e9 : v 9 = _ := hsp 9 (by decide)
    have b4 := b2.trans (hR.below.mono b2.size)
    clear hR hall hsp WA WB x0 x1 x2 y0 y1 y2 hgl i1 i2
    simp only [putAll, dstOf, List.getElem?_cons_zero, List.getElem?_cons_succ, Option.bind_some, e0, e1, e2, e3, e4, e5, e6, e7, e8, e9, e10, e11]
    clear e0 e1 e2 e3 e4 e5 e6 e7 e8 e9 e10 e11
    obtain ⟨p0, p1, p2, pf⟩ := cells3 P1
    obtain ⟨q0, q1, q2, qf⟩ := cells3 Q1
    have hXs : X.size ≤ 2 := by
      rw [unhide HX]
      match i, hi5 with
      | 0, _ | 1, _ | 2, _ | 3, _ | 4, _ => decide
    have hYs : Y.size ≤ 2 := by
      rw [unhide HY]
      match j, hj5 with
      | 0, _ | 1, _ | 2, _ | 3, _ | 4, _ => decide
    have g1 : ¬ 9223372036854775807 < 2 + X.size := by omega
    have g2 : ¬ 9223372036854775807 < 2 + X.size + 3 := by omega
    have g3 : ¬ 9223372036854775807 < 2 + X.size + 3 + Y.size := by omega
    have g4 : ¬ 9223372036854775807 < 2 + X.size + 3 + Y.size + 2 := by omega
    obtain ⟨r1, r2⟩ := binds_plain i j hi5 hj5
    have m1 : (({ data := #[49, 32] } : ByteArray) ++ X ++ { data := #[32, 50, 32] } ++ Y ++ { data := #[32, 51] }).data.toList = cT1 (bs5 i) (bs5 j) := by rw [unhide HX, unhide HY]; simp [cT1, ByteArray.data_append]
    have PE := pexpr_any (({ data := #[49, 32] } : ByteArray) ++ X ++ { data := #[32, 50, 32] } ++ Y ++ { data := #[32, 51] }) w4 (hT.below b4) (by rw [Lib.size_eq, m1]; unfold cT1; simp only [List.length_append, List.length_cons, List.length_nil]; have := bs5_len i hi5; have := bs5_len j hj5; omega) (by rw [m1]; exact mild_of r2)
    rw [m1, r1] at PE
    simp only at PE
    unfold bTree at PE
    rw [← unhide HPB, ← unhide HQB, ← unhide HPK, ← unhide HQK] at PE
    clear hXs hYs r1 r2 m1 HX HY HPK HQK HPB HQB hT hi5 hj5
    have P1h := hide P1
    have Q1h := hide Q1
    clear P1 Q1
    by_cases hb : pb < qb
    · rw [if_pos hb] at PE
      go_wp2_with fail
      refine PE.mono ?_
      rintro e w5 ⟨r, rfl, b5, hE⟩
      clear PE g1 g2 g3 g4 p0 p1 p2 pf q0 q1 q2 qf
      have n6 := new1 w5 (.cells #[.int .i64 r.k, .bool r.b, .int .i64 r.n, .string r.s, .string r.t, .string r.i, .slice r.lo r.ll r.lc] 28)
      have Z6 : (w5.alloc (.cells #[.int .i64 r.k, .bool r.b, .int .i64 r.n, .string r.s, .string r.t, .string r.i, .slice r.lo r.ll r.lc] 28)).heap[w5.heap.size]? = some (.cells #[.int .i64 r.k, .bool r.b, .int .i64 r.n, .string r.s, .string r.t, .string r.i, .slice r.lo r.ll r.lc] 28 (0, 0)) := alloc_heap _ _
      have hE := hide (IsE.turn n6.size (fun b hb hb2 => ⟨n6.block b hb2, hb⟩) r _ hE)
      have b45 := b4.trans (b5.mono b4.size)
      have bb := b5.trans (n6.mono b5.size)
      obtain ⟨p0, p1, p2, pf⟩ := cells3 (kept_of_below bb (unhide P1h))
      obtain ⟨q0, q1, q2, qf⟩ := cells3 (kept_of_below bb (unhide Q1h))
      clear bb b5
      unfold R7.val
      go_upto_region 6 with fail
      generalize w5.alloc _ = w6 at *
      have hE := unhide hE
      have b6 := b45.trans (n6.mono b45.size)
      clear n6
      obtain ⟨x0, _, _, _, _, _, x6, _⟩ := blk7 Z6
      obtain ⟨e1, _, e2⟩ := top hE
      obtain ⟨ra, ga, oa, e3, _, ha, hEa⟩ := kid0 hE
      obtain ⟨rc, gc, oc, e4, _, hc, hEc⟩ := kid1 hE
      rw [e3] at e4
      cases e4
      obtain ⟨_, f1, _⟩ := top hEa
      obtain ⟨f2, _, f3⟩ := top hEc
      obtain ⟨rd, gd, od, f4, _, hd, hEd⟩ := kid0 hEc
      obtain ⟨rf, gf, of, f5, _, hf, hEf⟩ := kid1 hEc
      rw [f4] at f5
      cases f5
      obtain ⟨_, f6, _⟩ := top hEd
      obtain ⟨_, f7, _⟩ := top hEf
      have a2 := ha.c2
      have d0 := hc.c0
      have d6 := hc.c6
      have l2 := hd.c2
      have h2 := hf.c2
      rw [f1] at a2
      rw [f2] at d0
      rw [f3, f4, show oa + 7 + 6 = oa + 13 by omega] at d6
      rw [f6] at l2
      rw [f7, show od + 7 + 2 = od + 9 by omega] at h2
      rw [e1] at x0
      rw [e2, e3] at x6
      have x6 : w6.cell? ⟨w5.heap.size, 6, none⟩ = some (.slice (some ⟨ga, oa, none⟩) 2 r.lc) := x6
      have d6 : w6.cell? ⟨ga, oa + 13, none⟩ = some (.slice (some ⟨gd, od, none⟩) 2 rc.lc) := d6
      clear Z6 hE ha hc hd hf hEa hEc hEd hEf e1 e2 e3 f1 f2 f3 f4 f6 f7
      go_upto_region 9 with fail
      go_quiet (fail)
      go_wp2
      go_ret
      exact ⟨rfl, b6.trans ((below_drewN _ _).mono b6.size)⟩
    · rw [if_neg hb] at PE
      go_wp2_with fail
      refine PE.mono ?_
      rintro e w5 ⟨r, rfl, b5, hE⟩
      clear PE g1 g2 g3 g4 p0 p1 p2 pf q0 q1 q2 qf
      have n6 := new1 w5 (.cells #[.int .i64 r.k, .bool r.b, .int .i64 r.n, .string r.s, .string r.t, .string r.i, .slice r.lo r.ll r.lc] 28)
      have Z6 : (w5.alloc (.cells #[.int .i64 r.k, .bool r.b, .int .i64 r.n, .string r.s, .string r.t, .string r.i, .slice r.lo r.ll r.lc] 28)).heap[w5.heap.size]? = some (.cells #[.int .i64 r.k, .bool r.b, .int .i64 r.n, .string r.s, .string r.t, .string r.i, .slice r.lo r.ll r.lc] 28 (0, 0)) := alloc_heap _ _
      have hE := hide (IsE.turn n6.size (fun b hb hb2 => ⟨n6.block b hb2, hb⟩) r _ hE)
      have b45 := b4.trans (b5.mono b4.size)
      have bb := b5.trans (n6.mono b5.size)
      obtain ⟨p0, p1, p2, pf⟩ := cells3 (kept_of_below bb (unhide P1h))
      obtain ⟨q0, q1, q2, qf⟩ := cells3 (kept_of_below bb (unhide Q1h))
      clear bb b5
      unfold R7.val
      go_upto_region 6 with fail
      generalize w5.alloc _ = w6 at *
      have hE := unhide hE
      have b6 := b45.trans (n6.mono b45.size)
      clear n6
      obtain ⟨x0, _, _, _, _, _, x6, _⟩ := blk7 Z6
      obtain ⟨e1, _, e2⟩ := top hE
      obtain ⟨ra, ga, oa, e3, _, ha, hEa⟩ := kid0 hE
      obtain ⟨rc, gc, oc, e4, _, hc, hEc⟩ := kid1 hE
      rw [e3] at e4
      cases e4
      obtain ⟨f1, _, f2⟩ := top hEa
      obtain ⟨_, f3, _⟩ := top hEc
      obtain ⟨rd, gd, od, f4, _, hd, hEd⟩ := kid0 hEa
      obtain ⟨rf, gf, of, f5, _, hf, hEf⟩ := kid1 hEa
      rw [f4] at f5
      cases f5
      obtain ⟨_, f6, _⟩ := top hEd
      obtain ⟨_, f7, _⟩ := top hEf
      have a2 := hc.c2
      have d0 := ha.c0
      have d6 := ha.c6
      have l2 := hd.c2
      have h2 := hf.c2
      rw [f3, show oa + 7 + 2 = oa + 9 by omega] at a2
      rw [f1] at d0
      rw [f2, f4] at d6
      rw [f6] at l2
      rw [f7, show od + 7 + 2 = od + 9 by omega] at h2
      rw [e1] at x0
      rw [e2, e3] at x6
      have x6 : w6.cell? ⟨w5.heap.size, 6, none⟩ = some (.slice (some ⟨ga, oa, none⟩) 2 r.lc) := x6
      have d6 : w6.cell? ⟨ga, oa + 6, none⟩ = some (.slice (some ⟨gd, od, none⟩) 2 ra.lc) := d6
      clear Z6 hE ha hc hd hf hEa hEc hEd hEf e1 e2 e3 f1 f2 f3 f4 f6 f7
      go_upto_region 10 with fail
      go_quiet (fail)
      go_wp2
      go_ret
      exact ⟨rfl, b6.trans ((below_drewN _ _).mono b6.size)⟩
end Go.Proofs.YtachdibhieoelabGreatDoor
