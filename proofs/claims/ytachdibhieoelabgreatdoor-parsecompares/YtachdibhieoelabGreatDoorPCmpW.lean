/-
  chancellaw5.ParseCompares: the walk.
-/
import Derived.Test.YtachdibhieoelabGreatDoorPlB
import Derived.Lib.QuietBelow
import Derived.BigQuiet
import Derived.Deep.QuietTactic
namespace Go.Proofs.YtachdibhieoelabGreatDoor
open Go.RowKit Go.Sort

set_option maxHeartbeats 4000000 in
set_option maxRecDepth 1000000 in
theorem compares_walk (a b : Int) (w : World) (hT : Tabs w) : Calls Tryz.prog 5 #[.int .i64 a, .int .i64 b] w fun e w' => e = .returned (.bool true) ∧ Below w.heap.size w w' := by
  have K := known5_any w hT
  obtain ⟨i, hi⟩ : ∃ i : Nat, (i : Int) = a % 7 := ⟨(a % 7).toNat, by omega⟩
  obtain ⟨j, hj⟩ : ∃ j : Nat, (j : Int) = b % 7 := ⟨(b % 7).toNat, by omega⟩
  have hi7 : i < 7 := by omega
  have hj7 : j < 7 := by omega
  have WA := fun w' => within5_any a 7 (by decide) (by decide) w'
  have WB := fun w' => within5_any b 7 (by decide) (by decide) w'
  rw [← hi] at WA
  rw [← hj] at WB
  clear hi hj
  go_enter Tryz.func5, Tryz.ntmps5
  go_wp2_with fail
  refine K.mono ?_
  rintro e w1 ⟨rfl, b1⟩
  clear K
  go_upto_region 4 with fail
  have n2 := new1 w1 (.cells #[.string ⟨#[60]⟩, .string ⟨#[60, 61]⟩, .string ⟨#[62]⟩, .string ⟨#[62, 61]⟩, .string ⟨#[61, 61]⟩, .string ⟨#[33, 61]⟩, .string ⟨#[105, 110]⟩] 9)
  have Z2 : (w1.alloc (.cells #[.string ⟨#[60]⟩, .string ⟨#[60, 61]⟩, .string ⟨#[62]⟩, .string ⟨#[62, 61]⟩, .string ⟨#[61, 61]⟩, .string ⟨#[33, 61]⟩, .string ⟨#[105, 110]⟩] 9)).heap[w1.heap.size]? = some (.cells #[.string ⟨#[60]⟩, .string ⟨#[60, 61]⟩, .string ⟨#[62]⟩, .string ⟨#[62, 61]⟩, .string ⟨#[61, 61]⟩, .string ⟨#[33, 61]⟩, .string ⟨#[105, 110]⟩] 9 (0, 0)) := alloc_heap _ _
  have b2 := b1.trans (n2.mono b1.size)
  generalize w1.alloc _ = w2 at *
  obtain ⟨X, hX⟩ : ∃ X : ByteArray, X = ⟨(cs7 i).toArray⟩ := ⟨_, rfl⟩
  obtain ⟨Y, hY⟩ : ∃ Y : ByteArray, Y = ⟨(cs7 j).toArray⟩ := ⟨_, rfl⟩
  have hc : ∀ k, k < 7 → w2.cell? ⟨w1.heap.size, k, none⟩ = some (.string ⟨(cs7 k).toArray⟩) := fun k hk => by
    rw [Lib.cell_of_heap Z2]
    match k, hk with
    | 0, _ | 1, _ | 2, _ | 3, _ | 4, _ | 5, _ | 6, _ => rfl
  have x1 := cell_regrown (hc i hi7)
  have x2 := cell_regrown (hc j hj7)
  rw [← hX] at x1
  rw [← hY] at x2
  have HX := hide hX
  have HY := hide hY
  have i1 : (i : Int) < 7 := by omega
  have i2 : (j : Int) < 7 := by omega
  have cA := fun d os => Calls.regrown_of (w := w2) (d := d) (os := os) ((WA (grow (redrawn w2 d) os)).mono fun e w' h => (⟨h.1, h.2 ▸ Below.refl _ _⟩ : _ ∧ Below (grow (redrawn w2 d) os).heap.size (grow (redrawn w2 d) os) w'))
  have cB := fun d os => Calls.regrown_of (w := w2) (d := d) (os := os) ((WB (grow (redrawn w2 d) os)).mono fun e w' h => (⟨h.1, h.2 ▸ Below.refl _ _⟩ : _ ∧ Below (grow (redrawn w2 d) os).heap.size (grow (redrawn w2 d) os) w'))
  clear hX hY hc Z2 n2
  refine wp_region_quiet_below (by kernel_rfl) (by kernel_rfl) ?_
  iterate 7 (quiet_step (exact cA _ _))
  clear cA
  repeat (quiet_step (exact cB _ _))
  clear cB
  refine wpQuiet_nil ?_
  intro _ hw'
  obtain ⟨⟨dq, osq⟩, hw''⟩ := hw'
  subst hw''
  have b23 := below_regrown w2 dq osq
  have b3 := b2.trans (b23.mono b2.size)
  generalize grow (redrawn w2 dq) osq = w3 at *
  clear x1 x2
  have hXs : X.size ≤ 2 := by
    rw [unhide HX]
    match i, hi7 with
    | 0, _ | 1, _ | 2, _ | 3, _ | 4, _ | 5, _ | 6, _ => decide
  have hYs : Y.size ≤ 2 := by
    rw [unhide HY]
    match j, hj7 with
    | 0, _ | 1, _ | 2, _ | 3, _ | 4, _ | 5, _ | 6, _ => decide
  have g1 : ¬ 9223372036854775807 < 2 + X.size := by omega
  have g2 : ¬ 9223372036854775807 < 2 + X.size + 3 := by omega
  have g3 : ¬ 9223372036854775807 < 2 + X.size + 3 + Y.size := by omega
  have g4 : ¬ 9223372036854775807 < 2 + X.size + 3 + Y.size + 2 := by omega
  have g5 : ¬ 9223372036854775807 < 3 + X.size := by omega
  have g6 : ¬ 9223372036854775807 < 3 + X.size + 4 := by omega
  have g7 : ¬ 9223372036854775807 < 3 + X.size + 4 + Y.size := by omega
  have g8 : ¬ 9223372036854775807 < 3 + X.size + 4 + Y.size + 2 := by omega
  have g9 : ¬ 9223372036854775807 < 6 + X.size := by omega
  have g10 : ¬ 9223372036854775807 < 6 + X.size + 14 := by omega
  obtain ⟨q1, q2, q3, q4⟩ := cmp_plain i j hi7 hj7
  obtain ⟨q5, q6⟩ := cmp_plain3 i hi7
  have m1 : (({ data := #[49, 32] } : ByteArray) ++ X ++ { data := #[32, 50, 32] } ++ Y ++ { data := #[32, 51] }).data.toList = cT1 (cs7 i) (cs7 j) := by rw [unhide HX, unhide HY]; simp [cT1, ByteArray.data_append]
  have m2 : (({ data := #[40, 49, 32] } : ByteArray) ++ X ++ { data := #[32, 50, 41, 32] } ++ Y ++ { data := #[32, 51] }).data.toList = cT2 (cs7 i) (cs7 j) := by rw [unhide HX, unhide HY]; simp [cT2, ByteArray.data_append]
  have m3 : (({ data := #[49, 32, 43, 32, 50, 32] } : ByteArray) ++ X ++ { data := #[32, 51, 32, 42, 32, 52, 32, 38, 38, 32, 116, 114, 117, 101] }).data.toList = cT3 (cs7 i) := by rw [unhide HX]; simp [cT3, ByteArray.data_append]
  have P1 := fun w' hT' => pexpr_any (({ data := #[49, 32] } : ByteArray) ++ X ++ { data := #[32, 50, 32] } ++ Y ++ { data := #[32, 51] }) w' hT' (by rw [Lib.size_eq, m1]; unfold cT1; simp only [List.length_append, List.length_cons, List.length_nil]; have := cs7_len i hi7; have := cs7_len j hj7; omega) (by rw [m1]; exact mild_of q3)
  have P2 := fun w' hT' => pexpr_any (({ data := #[40, 49, 32] } : ByteArray) ++ X ++ { data := #[32, 50, 41, 32] } ++ Y ++ { data := #[32, 51] }) w' hT' (by rw [Lib.size_eq, m2]; unfold cT2; simp only [List.length_append, List.length_cons, List.length_nil]; have := cs7_len i hi7; have := cs7_len j hj7; omega) (by rw [m2]; exact mild_of q4)
  have P3 := fun w' hT' => pexpr_any (({ data := #[49, 32, 43, 32, 50, 32] } : ByteArray) ++ X ++ { data := #[32, 51, 32, 42, 32, 52, 32, 38, 38, 32, 116, 114, 117, 101] }) w' hT' (by rw [Lib.size_eq, m3]; unfold cT3; simp only [List.length_append, List.length_cons, List.length_nil]; have := cs7_len i hi7; omega) (by rw [m3]; exact mild_of q6)
  rw [m1, q1] at P1
  rw [m2, q2] at P2
  rw [m3, q5] at P3
  simp only at P1 P2 P3
  have hT3 := hT.below b3
  have hT3 : Hid (∀ w', Below w.heap.size w w' → Tabs w') := hide fun w' hb => hT.below hb
  clear hXs hYs q1 q2 q3 q4 q5 q6 m1 m2 m3 HX HY hT
  have P1 := P1 _ (unhide hT3 _ b3)
  go_wp2_with fail
  refine P1.mono ?_
  rintro e w4 ⟨ra, rfl, b4, _⟩
  clear P1
  have n5 := new1 w4 (.cells #[.int .i64 ra.k, .bool ra.b, .int .i64 ra.n, .string ra.s, .string ra.t, .string ra.i, .slice ra.lo ra.ll ra.lc] 28)
  have b34 := b3.trans (b4.mono b3.size)
  have b5 := b34.trans (n5.mono b34.size)
  unfold R7.val
  go_upto_region 6 with fail
  generalize w4.alloc _ = w5 at *
  have P2 := P2 _ (unhide hT3 _ b5)
  go_wp2_with fail
  refine P2.mono ?_
  rintro e w6 ⟨rc, rfl, b6, hE6⟩
  clear P2
  have n7 := new1 w6 (.cells #[.int .i64 rc.k, .bool rc.b, .int .i64 rc.n, .string rc.s, .string rc.t, .string rc.i, .slice rc.lo rc.ll rc.lc] 28)
  have Z7 : (w6.alloc (.cells #[.int .i64 rc.k, .bool rc.b, .int .i64 rc.n, .string rc.s, .string rc.t, .string rc.i, .slice rc.lo rc.ll rc.lc] 28)).heap[w6.heap.size]? = some (.cells #[.int .i64 rc.k, .bool rc.b, .int .i64 rc.n, .string rc.s, .string rc.t, .string rc.i, .slice rc.lo rc.ll rc.lc] 28 (0, 0)) := alloc_heap _ _
  have b56 := b5.trans (b6.mono b5.size)
  have b7 := b56.trans (n7.mono b56.size)
  have HE7 := hide (IsE.turn n7.size (fun b hb hb2 => ⟨n7.block b hb2, hb⟩) rc _ hE6)
  clear hE6
  unfold R7.val
  go_upto_region 7 with fail
  generalize w6.alloc _ = w7 at *
  have P3 := P3 _ (unhide hT3 _ b7)
  go_wp2_with fail
  refine P3.mono ?_
  rintro e w8 ⟨rd, rfl, b8, hE8⟩
  clear P3
  have n9 := new1 w8 (.cells #[.int .i64 rd.k, .bool rd.b, .int .i64 rd.n, .string rd.s, .string rd.t, .string rd.i, .slice rd.lo rd.ll rd.lc] 28)
  have Z9 : (w8.alloc (.cells #[.int .i64 rd.k, .bool rd.b, .int .i64 rd.n, .string rd.s, .string rd.t, .string rd.i, .slice rd.lo rd.ll rd.lc] 28)).heap[w8.heap.size]? = some (.cells #[.int .i64 rd.k, .bool rd.b, .int .i64 rd.n, .string rd.s, .string rd.t, .string rd.i, .slice rd.lo rd.ll rd.lc] 28 (0, 0)) := alloc_heap _ _
  have b78 := b7.trans (b8.mono b7.size)
  have b9 := b78.trans (n9.mono b78.size)
  have b79 := b8.trans (n9.mono b8.size)
  have HE9 := hide (IsE.turn n9.size (fun b hb hb2 => ⟨n9.block b hb2, hb⟩) rd _ hE8)
  have HF9 := hide (IsE.turn b79.size (fun b hb hb2 => ⟨b79.block b hb2, hb⟩) rc _ (unhide HE7))
  have Z7 := kept_of_below b79 Z7
  clear hE8 HE7 n9 n7 n5 b79 b8
  unfold R7.val
  go_upto_region 8 with fail
  generalize w8.alloc _ = w9 at *
  clear g1 g2 g3 g4 g5 g6 g7 g8 g9 g10
  obtain ⟨x0, _, _, _, _, _, x6, _⟩ := blk7 Z7
  obtain ⟨y0, _, _, _, _, _, y6, _⟩ := blk7 Z9
  have hF := unhide HF9
  have hE := unhide HE9
  obtain ⟨e1, _, e2⟩ := top hF
  obtain ⟨re, ge, oe, e3, _, he, hEe⟩ := kid0 hF
  obtain ⟨e4, _, _⟩ := top hEe
  obtain ⟨f1, _, f2⟩ := top hE
  obtain ⟨rf, gf, of, f3, _, hf, hEf⟩ := kid0 hE
  obtain ⟨f4, _, f5⟩ := top hEf
  obtain ⟨rg, gg, og, f6, _, hg, hEg⟩ := kid0 hEf
  obtain ⟨rh, gh, oh, f7, _, hh, hEh⟩ := kid1 hEf
  rw [f6] at f7
  cases f7
  obtain ⟨f8, _, _⟩ := top hEg
  obtain ⟨f9, _, _⟩ := top hEh
  have a0 := he.c0
  have c0 := hf.c0
  have c6 := hf.c6
  have d0 := hg.c0
  have d7 := hh.c0
  rw [e4] at a0
  rw [f4] at c0
  rw [f5, f6] at c6
  rw [f8] at d0
  rw [f9] at d7
  rw [e1] at x0
  rw [e2, e3] at x6
  rw [f1] at y0
  rw [f2, f3] at y6
  have x6 : w9.cell? ⟨w6.heap.size, 6, none⟩ = some (.slice (some ⟨ge, oe, none⟩) 2 rc.lc) := x6
  have y6 : w9.cell? ⟨w8.heap.size, 6, none⟩ = some (.slice (some ⟨gf, of, none⟩) 2 rd.lc) := y6
  have c6 : w9.cell? ⟨gf, of + 6, none⟩ = some (.slice (some ⟨gg, og, none⟩) 2 rf.lc) := c6
  clear Z7 Z9 hF hE he hf hg hh hEe hEf hEg hEh e1 e2 e3 e4 f1 f2 f3 f4 f5 f6 f8 f9 HF9 HE9
  go_wp2_with fail
  refine (WA _).mono ?_
  rintro e w9a ⟨rfl, rfl⟩
  go_wp2_with fail
  refine (WB _).mono ?_
  rintro e w9b ⟨rfl, rfl⟩
  clear WA WB
  go_wp2
  go_ret
  exact ⟨rfl, b9⟩
end Go.Proofs.YtachdibhieoelabGreatDoor
