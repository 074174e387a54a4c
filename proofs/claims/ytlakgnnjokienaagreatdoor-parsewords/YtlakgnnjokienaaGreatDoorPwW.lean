/-
  chancellaw5.ParseWords: the walk.
-/
import Derived.Test.YtlakgnnjokienaaGreatDoorPlB
import Derived.Test.YtlakgnnjokienaaGreatDoorPwP
import Derived.Test.YtlakgnnjokienaaGreatDoorPuA
namespace Go.Proofs.YtlakgnnjokienaaGreatDoor
open Go.RowKit Go.Sort

theorem words_at (k : Nat) (h : k < 18) : (#[.string ⟨#[112, 101, 114, 109, 105, 116]⟩, .string ⟨#[102, 111, 114, 98, 105, 100]⟩, .string ⟨#[119, 104, 101, 110]⟩, .string ⟨#[117, 110, 108, 101, 115, 115]⟩, .string ⟨#[105, 102]⟩, .string ⟨#[116, 104, 101, 110]⟩, .string ⟨#[101, 108, 115, 101]⟩, .string ⟨#[116, 114, 117, 101]⟩, .string ⟨#[102, 97, 108, 115, 101]⟩, .string ⟨#[105, 110]⟩, .string ⟨#[104, 97, 115]⟩, .string ⟨#[108, 105, 107, 101]⟩, .string ⟨#[112, 114, 105, 110, 99, 105, 112, 97, 108]⟩, .string ⟨#[97, 99, 116, 105, 111, 110]⟩, .string ⟨#[114, 101, 115, 111, 117, 114, 99, 101]⟩, .string ⟨#[99, 111, 110, 116, 97, 105, 110, 115]⟩, .string ⟨#[83, 101, 116]⟩, .string ⟨#[101, 110, 116, 105, 116, 121]⟩] : Array Value)[k]? = some (.string ⟨(wd18 k).toArray⟩) := by
  have hc : k = 0 ∨ k = 1 ∨ k = 2 ∨ k = 3 ∨ k = 4 ∨ k = 5 ∨ k = 6 ∨ k = 7 ∨ k = 8 ∨ k = 9 ∨ k = 10 ∨ k = 11 ∨ k = 12 ∨ k = 13 ∨ k = 14 ∨ k = 15 ∨ k = 16 ∨ k = 17 := by omega
  rcases hc with rfl | rfl | rfl | rfl | rfl | rfl | rfl | rfl | rfl | rfl | rfl | rfl | rfl | rfl | rfl | rfl | rfl | rfl
  all_goals rfl
theorem top_s {w : World} {P : Nat → Prop} {r : R7} {k : Int} {b : Bool} {n : Int} {s t i : List UInt8} {l : List Ex} (h : IsE w P r (.mk k b n s t i l)) : r.k = k ∧ r.s = ba s ∧ r.t = ba t := by
  unfold IsE at h
  exact ⟨h.1, h.2.2.2.1, h.2.2.2.2.1⟩

set_option maxHeartbeats 4000000 in
set_option maxRecDepth 1000000 in
theorem words_walk (n : Int) (w : World) (hT : Tabs w) : Calls Tryz.prog 5 #[.int .i64 n] w fun e w' => e = .returned (.bool true) ∧ Below w.heap.size w w' := by
  have K := known5_any w hT
  obtain ⟨i, hi⟩ : ∃ i : Nat, (i : Int) = n % 18 := ⟨(n % 18).toNat, by omega⟩
  have hi18 : i < 18 := by omega
  have WA := fun w' => within5_any n 18 (by decide) (by decide) w'
  rw [← hi] at WA
  have HT : Hid (∀ w', Below w.heap.size w w' → Tabs w') := hide fun w' hb => hT.below hb
  clear hi hT
  go_enter Tryz.func5, Tryz.ntmps5
  go_wp2_with fail
  refine K.mono ?_
  rintro e w1 ⟨rfl, b1⟩
  clear K
  have n2 := new1 w1 (.cells #[.string ⟨#[112, 101, 114, 109, 105, 116]⟩, .string ⟨#[102, 111, 114, 98, 105, 100]⟩, .string ⟨#[119, 104, 101, 110]⟩, .string ⟨#[117, 110, 108, 101, 115, 115]⟩, .string ⟨#[105, 102]⟩, .string ⟨#[116, 104, 101, 110]⟩, .string ⟨#[101, 108, 115, 101]⟩, .string ⟨#[116, 114, 117, 101]⟩, .string ⟨#[102, 97, 108, 115, 101]⟩, .string ⟨#[105, 110]⟩, .string ⟨#[104, 97, 115]⟩, .string ⟨#[108, 105, 107, 101]⟩, .string ⟨#[112, 114, 105, 110, 99, 105, 112, 97, 108]⟩, .string ⟨#[97, 99, 116, 105, 111, 110]⟩, .string ⟨#[114, 101, 115, 111, 117, 114, 99, 101]⟩, .string ⟨#[99, 111, 110, 116, 97, 105, 110, 115]⟩, .string ⟨#[83, 101, 116]⟩, .string ⟨#[101, 110, 116, 105, 116, 121]⟩] 9)
  have Z2 : (w1.alloc (.cells #[.string ⟨#[112, 101, 114, 109, 105, 116]⟩, .string ⟨#[102, 111, 114, 98, 105, 100]⟩, .string ⟨#[119, 104, 101, 110]⟩, .string ⟨#[117, 110, 108, 101, 115, 115]⟩, .string ⟨#[105, 102]⟩, .string ⟨#[116, 104, 101, 110]⟩, .string ⟨#[101, 108, 115, 101]⟩, .string ⟨#[116, 114, 117, 101]⟩, .string ⟨#[102, 97, 108, 115, 101]⟩, .string ⟨#[105, 110]⟩, .string ⟨#[104, 97, 115]⟩, .string ⟨#[108, 105, 107, 101]⟩, .string ⟨#[112, 114, 105, 110, 99, 105, 112, 97, 108]⟩, .string ⟨#[97, 99, 116, 105, 111, 110]⟩, .string ⟨#[114, 101, 115, 111, 117, 114, 99, 101]⟩, .string ⟨#[99, 111, 110, 116, 97, 105, 110, 115]⟩, .string ⟨#[83, 101, 116]⟩, .string ⟨#[101, 110, 116, 105, 116, 121]⟩] 9)).heap[w1.heap.size]? = some (.cells #[.string ⟨#[112, 101, 114, 109, 105, 116]⟩, .string ⟨#[102, 111, 114, 98, 105, 100]⟩, .string ⟨#[119, 104, 101, 110]⟩, .string ⟨#[117, 110, 108, 101, 115, 115]⟩, .string ⟨#[105, 102]⟩, .string ⟨#[116, 104, 101, 110]⟩, .string ⟨#[101, 108, 115, 101]⟩, .string ⟨#[116, 114, 117, 101]⟩, .string ⟨#[102, 97, 108, 115, 101]⟩, .string ⟨#[105, 110]⟩, .string ⟨#[104, 97, 115]⟩, .string ⟨#[108, 105, 107, 101]⟩, .string ⟨#[112, 114, 105, 110, 99, 105, 112, 97, 108]⟩, .string ⟨#[97, 99, 116, 105, 111, 110]⟩, .string ⟨#[114, 101, 115, 111, 117, 114, 99, 101]⟩, .string ⟨#[99, 111, 110, 116, 97, 105, 110, 115]⟩, .string ⟨#[83, 101, 116]⟩, .string ⟨#[101, 110, 116, 105, 116, 121]⟩] 9 (0, 0)) := alloc_heap _ _
  have b2 := b1.trans (n2.mono b1.size)
  go_wp2_with fail
  generalize w1.alloc _ = w2 at *
  refine (WA _).mono ?_
  rintro e w2' ⟨rfl, rfl⟩
  clear WA
  have i1 : (i : Int) < 18 := by omega
  obtain ⟨X, hX⟩ : ∃ X : ByteArray, X = ⟨(wd18 i).toArray⟩ := ⟨_, rfl⟩
  have x1 : w2'.cell? ⟨w1.heap.size, i, none⟩ = some (.string X) := by rw [Lib.cell_of_heap Z2, hX]; exact words_at i hi18
  have hXs : X.size ≤ 9 := by rw [hX]; show (wd18 i).toArray.size ≤ 9; simpa using wd18_len i hi18
  have HX := hide hX
  obtain ⟨a1, a2⟩ := words1 i hi18
  obtain ⟨c1, c2⟩ := words2 i hi18
  obtain ⟨d1, d2⟩ := words4 i hi18
  obtain ⟨f1, f2⟩ := words5 i hi18
  have u1 := (words3 i hi18).1
  have m1 : ((⟨#[112, 114, 105, 110, 99, 105, 112, 97, 108, 46]⟩ : ByteArray) ++ X).data.toList = wT1 (wd18 i) := by rw [hX]; simp [wT1, ByteArray.data_append]
  have m2 : (X ++ (⟨#[58, 58, 34, 120, 34]⟩ : ByteArray)).data.toList = wT2 (wd18 i) := by rw [hX]; simp [wT2, ByteArray.data_append]
  have m3 : (X ++ (⟨#[32, 58, 58, 32, 34, 120, 34]⟩ : ByteArray)).data.toList = wT3 (wd18 i) := by rw [hX]; simp [wT3, ByteArray.data_append]
  have m4 : ((⟨#[112, 114, 105, 110, 99, 105, 112, 97, 108, 32, 104, 97, 115, 32]⟩ : ByteArray) ++ X).data.toList = wT4 (wd18 i) := by rw [hX]; simp [wT4, ByteArray.data_append]
  have m5 : ((⟨#[49, 32]⟩ : ByteArray) ++ X ++ ⟨#[32, 50]⟩).data.toList = wT5 (wd18 i) := by rw [hX]; simp [wT5, ByteArray.data_append]
  have P1 := fun w' hT' => pexpr_any ((⟨#[112, 114, 105, 110, 99, 105, 112, 97, 108, 46]⟩ : ByteArray) ++ X) w' hT' (by rw [ByteArray.size_append]; show 10 + X.size ≤ 1099511627776; omega) (by rw [m1]; exact mild_of a2)
  have P2 := fun w' hT' => pexpr_any (X ++ (⟨#[58, 58, 34, 120, 34]⟩ : ByteArray)) w' hT' (by rw [ByteArray.size_append]; show X.size + 5 ≤ 1099511627776; omega) (by rw [m2]; exact mild_of c2)
  have P3 := fun w' hT' => puid_ok (X ++ (⟨#[32, 58, 58, 32, 34, 120, 34]⟩ : ByteArray)) (wTs (wd18 i)) X ⟨#[120]⟩ w' hT' (by rw [ByteArray.size_append]; show X.size + 7 ≤ 1099511627776; omega) (by rw [m3]; exact u1) (by show 3 ≤ 200; decide) (uid3_st _).1 (by rw [(uid3_st _).2.1, ← hX]) (by rw [(uid3_st _).2.2])
  have P4 := fun w' hT' => pexpr_any ((⟨#[112, 114, 105, 110, 99, 105, 112, 97, 108, 32, 104, 97, 115, 32]⟩ : ByteArray) ++ X) w' hT' (by rw [ByteArray.size_append]; show 14 + X.size ≤ 1099511627776; omega) (by rw [m4]; exact mild_of d2)
  have P5 := fun w' hT' => pexpr_any ((⟨#[49, 32]⟩ : ByteArray) ++ X ++ ⟨#[32, 50]⟩) w' hT' (by rw [ByteArray.size_append, ByteArray.size_append]; show 2 + X.size + 2 ≤ 1099511627776; omega) (by rw [m5]; exact mild_of f2)
  rw [m1, a1] at P1
  rw [m2, c1] at P2
  rw [m4, d1] at P4
  rw [m5, f1] at P5
  simp only at P1 P2 P4
  obtain ⟨c5, hc5⟩ : ∃ c : Int, c = if i = 9 then 0 else 13 := ⟨_, rfl⟩
  rw [← hc5] at P5
  have g1 : ¬ 9223372036854775807 < 10 + X.size := by omega
  have g2 : ¬ 9223372036854775807 < X.size + 5 := by omega
  have g3 : ¬ 9223372036854775807 < X.size + 7 := by omega
  have g4 : ¬ 9223372036854775807 < 14 + X.size := by omega
  have g5 : ¬ 9223372036854775807 < 2 + X.size := by omega
  have g6 : ¬ 9223372036854775807 < 2 + X.size + 2 := by omega
  have hin : ((c5 == 13) == !(X.toList == [105, 110])) = true := by
    rw [hX, ByteArray.toList_eq]
    show ((c5 == 13) == !(wd18 i == [105, 110])) = true
    by_cases h9 : i = 9
    · rw [hc5, if_pos h9, h9]
      rfl
    · rw [hc5, if_neg h9, wd18_in i hi18 h9]
      rfl
  have HIN := hide hin
  clear hX a1 a2 c1 c2 d1 d2 f1 f2 u1 m1 m2 m3 m4 m5 hc5 hXs Z2 n2 hin
  have P1 := P1 _ (unhide HT _ b2)
  go_wp2_with fail
  refine P1.mono ?_
  rintro e w3 ⟨ra, rfl, b3, hE3⟩
  clear P1 x1
  have HKA := hide (top_s hE3)
  have b23 := b2.trans (b3.mono b2.size)
  have n4 := new1 w3 (.cells #[.int .i64 ra.k, .bool ra.b, .int .i64 ra.n, .string ra.s, .string ra.t, .string ra.i, .slice ra.lo ra.ll ra.lc] 28)
  have Z4 : (w3.alloc (.cells #[.int .i64 ra.k, .bool ra.b, .int .i64 ra.n, .string ra.s, .string ra.t, .string ra.i, .slice ra.lo ra.ll ra.lc] 28)).heap[w3.heap.size]? = some (.cells #[.int .i64 ra.k, .bool ra.b, .int .i64 ra.n, .string ra.s, .string ra.t, .string ra.i, .slice ra.lo ra.ll ra.lc] 28 (0, 0)) := alloc_heap _ _
  have b4 := b23.trans (n4.mono b23.size)
  unfold R7.val
  go_upto_region 5 with fail
  generalize w3.alloc _ = w4 at *
  clear hE3 b3 b23 n4
  have P2 := P2 _ (unhide HT _ b4)
  go_wp2_with fail
  refine P2.mono ?_
  rintro e w5 ⟨rb, rfl, b5, hE5⟩
  clear P2
  have HKB := hide (top_s hE5)
  have b45 := b4.trans (b5.mono b4.size)
  have n6 := new1 w5 (.cells #[.int .i64 rb.k, .bool rb.b, .int .i64 rb.n, .string rb.s, .string rb.t, .string rb.i, .slice rb.lo rb.ll rb.lc] 28)
  have Z6 : (w5.alloc (.cells #[.int .i64 rb.k, .bool rb.b, .int .i64 rb.n, .string rb.s, .string rb.t, .string rb.i, .slice rb.lo rb.ll rb.lc] 28)).heap[w5.heap.size]? = some (.cells #[.int .i64 rb.k, .bool rb.b, .int .i64 rb.n, .string rb.s, .string rb.t, .string rb.i, .slice rb.lo rb.ll rb.lc] 28 (0, 0)) := alloc_heap _ _
  have b6 := b45.trans (n6.mono b45.size)
  have Z4 := kept_of_below n6 (kept_of_below b5 Z4)
  unfold R7.val
  go_upto_region 6 with fail
  generalize w5.alloc _ = w6 at *
  clear hE5 b5 b45 n6
  have P3 := P3 _ (unhide HT _ b6)
  go_wp2_with fail
  refine P3.mono ?_
  rintro e w7 ⟨rfl, b7⟩
  clear P3
  have b67 := b6.trans (b7.mono b6.size)
  have n8 := new1 w7 (.cells #[.string X, .string ⟨#[120]⟩] 25)
  have Z8 : (w7.alloc (.cells #[.string X, .string ⟨#[120]⟩] 25)).heap[w7.heap.size]? = some (.cells #[.string X, .string ⟨#[120]⟩] 25 (0, 0)) := alloc_heap _ _
  have b8 := b67.trans (n8.mono b67.size)
  have Z4 := kept_of_below n8 (kept_of_below b7 Z4)
  have Z6 := kept_of_below n8 (kept_of_below b7 Z6)
  go_upto_region 7 with fail
  generalize w7.alloc _ = w8 at *
  clear b7 b67 n8
  have P4 := P4 _ (unhide HT _ b8)
  go_wp2_with fail
  refine P4.mono ?_
  rintro e w9 ⟨rc, rfl, b9, hE9⟩
  clear P4
  have HKC := hide (top_s hE9)
  have b89 := b8.trans (b9.mono b8.size)
  have n10 := new1 w9 (.cells #[.int .i64 rc.k, .bool rc.b, .int .i64 rc.n, .string rc.s, .string rc.t, .string rc.i, .slice rc.lo rc.ll rc.lc] 28)
  have Z10 : (w9.alloc (.cells #[.int .i64 rc.k, .bool rc.b, .int .i64 rc.n, .string rc.s, .string rc.t, .string rc.i, .slice rc.lo rc.ll rc.lc] 28)).heap[w9.heap.size]? = some (.cells #[.int .i64 rc.k, .bool rc.b, .int .i64 rc.n, .string rc.s, .string rc.t, .string rc.i, .slice rc.lo rc.ll rc.lc] 28 (0, 0)) := alloc_heap _ _
  have b10 := b89.trans (n10.mono b89.size)
  have Z4 := kept_of_below n10 (kept_of_below b9 Z4)
  have Z6 := kept_of_below n10 (kept_of_below b9 Z6)
  have Z8 := kept_of_below n10 (kept_of_below b9 Z8)
  unfold R7.val
  go_upto_region 8 with fail
  generalize w9.alloc _ = w10 at *
  clear hE9 b9 b89 n10
  have P5 := P5 _ (unhide HT _ b10)
  go_wp2_with fail
  refine P5.mono ?_
  rintro e w11 ⟨rd, rfl, b11, _⟩
  clear P5
  have b1011 := b10.trans (b11.mono b10.size)
  have n12 := new1 w11 (.cells #[.int .i64 rd.k, .bool rd.b, .int .i64 rd.n, .string rd.s, .string rd.t, .string rd.i, .slice rd.lo rd.ll rd.lc] 28)
  have b12 := b1011.trans (n12.mono b1011.size)
  have Z4 := kept_of_below n12 (kept_of_below b11 Z4)
  have Z6 := kept_of_below n12 (kept_of_below b11 Z6)
  have Z8 := kept_of_below n12 (kept_of_below b11 Z8)
  have Z10 := kept_of_below n12 (kept_of_below b11 Z10)
  unfold R7.val
  go_upto_region 9 with fail
  generalize w11.alloc _ = w12 at *
  obtain ⟨p0, _, _, p3, _, _, _, _⟩ := blk7 Z4
  obtain ⟨q0, _, _, _, q4, _, _, _⟩ := blk7 Z6
  obtain ⟨r0, r1, _⟩ := blk2 Z8
  obtain ⟨s0, _, _, s3, _, _, _, _⟩ := blk7 Z10
  rw [(unhide HKA).1] at p0
  rw [(unhide HKA).2.1] at p3
  rw [(unhide HKB).1] at q0
  rw [(unhide HKB).2.2] at q4
  rw [(unhide HKC).1] at s0
  rw [(unhide HKC).2.1] at s3
  have eX : ba (wd18 i) = X := (unhide HX).symm
  rw [eX] at p3 q4 s3
  clear Z4 Z6 Z8 Z10 HKA HKB HKC HX eX g1 g2 g3 g4 g5 g6
  go_wp2
  go_ret
  exact ⟨ret_bool (unhide HIN), b12⟩
end Go.Proofs.YtlakgnnjokienaaGreatDoor
