/-
  chancellaw5.ParseDeep: the walk.
-/
import Derived.Test.YtlakgnnjokienaaGreatDoorPlB
import Derived.Test.YtlakgnnjokienaaGreatDoorPdY
namespace Go.Proofs.YtlakgnnjokienaaGreatDoor
open Go.RowKit Go.Sort

theorem baA (a b : List UInt8) : ba a ++ ba b = ba (a ++ b) := by
  simp [ba, ByteArray.ext_iff, ByteArray.data_append]
theorem baZ (l : List UInt8) : (ba l).size = l.length := by
  show l.toArray.size = _
  simp
theorem ba_data (l : List UInt8) : (ba l).data.toList = l := rfl
theorem dOk_deep {h n m : Nat} (hd : dOk h n m = true) (hn : 10 ≤ n) : Mild (dBr (dText h n) m) ∧ (parseE (dBr (dText h n) m)).2 = 14 := by
  unfold dOk at hd
  rw [if_pos hn] at hd
  simp only [Bool.and_eq_true, decide_eq_true_eq] at hd
  exact ⟨mild_of hd.1, hd.2⟩
theorem dOk_read {h n m : Nat} (hd : dOk h n m = true) (hn : ¬ 10 ≤ n) : Mild (dBr (dText h n) m) ∧ (parseE (dBr (dText h n) m)).2 = 0 ∧ depE (parseE (dBr (dText h n) m)).1 = n + 1 ∧ okB (parseE (dBr (dText h n) m)).1 = true := by
  unfold dOk at hd
  rw [if_neg hn] at hd
  simp only [Bool.and_eq_true, decide_eq_true_eq] at hd
  exact ⟨mild_of hd.1, hd.2.1.1, hd.2.1.2, hd.2.2⟩

set_option maxHeartbeats 4000000 in
set_option maxRecDepth 1000000 in
theorem deep_0 (n how br : Int) (w : World) (hT : Tabs w) (hq : how.tmod 4 = 0) : Calls Tryz.prog 3 #[.int .i64 n, .int .i64 how, .int .i64 br] w fun e w' => e = .returned (.bool true) ∧ Below w.heap.size w w' := by
  have K := known5_any w hT
  obtain ⟨j, hj⟩ : ∃ j : Nat, (j : Int) = n % 13 := ⟨(n % 13).toNat, by omega⟩
  obtain ⟨m, hm⟩ : ∃ m : Nat, (m : Int) = br % 30 := ⟨(br % 30).toNat, by omega⟩
  have hj13 : j < 13 := by omega
  have hm30 : m < 30 := by omega
  have WA := fun w' => within5_any n 13 (by decide) (by decide) w'
  have WB := fun w' => within5_any br 30 (by decide) (by decide) w'
  rw [← hj] at WA
  rw [← hm] at WB
  have HT := hide hT
  clear hj hm hT
  go_enter Tryz.func3, Tryz.ntmps3
  go_wp2_with fail
  refine K.mono ?_
  rintro e w1 ⟨rfl, b1⟩
  clear K
  go_wp2_with fail
  refine (WA _).mono ?_
  rintro e w2 ⟨rfl, rfl⟩
  clear WA
  go_wp2_with fail
  go_loop [7, 8] (fun sv kv => ∃ (k : Nat) (s : ByteArray), k ≤ j ∧ kv = .int .i64 (k + 1 : Nat) ∧ sv = .string s ∧ s.size ≤ 4 + 24 * k ∧ Hid (s = ba (dText 0 k))) (fun _ kv => j + 1 - (intOf kv).toNat)
  case atStart => exact ⟨0, _, Nat.zero_le _, rfl, rfl, by decide, hide rfl⟩
  case round =>
    obtain ⟨k, s, hk, rfl, rfl, hs, HS⟩ := hrel
    by_cases hlt : k < j
    · have i1 : ((k + 1 : Nat) : Int) < 1 + (j : Int) := by omega
      have g0 : ¬ 9223372036854775807 < s.size + 4 := by omega
      go_wp2
      go_round
      case rel => exact ⟨k + 1, _, hlt, by go_num, rfl, by rw [ByteArray.size_append]; show s.size + 4 ≤ 4 + 24 * (k + 1); omega, hide (by rw [unhide HS]; show _ = ba (dStep 0 (dText 0 k)); unfold dStep; simp only [reduceIte, Nat.reduceEqDiff]; simp only [← baA]; rfl)⟩
      case measure =>
        simp only [intOf]
        omega
    · obtain rfl : k = j := by omega
      have i1 : ¬ ((k + 1 : Nat) : Int) < 1 + (k : Int) := by omega
      go_wp2_with fail
      go_loopw [7, 9] (fun sv kv wr => ∃ (i : Nat) (s' : ByteArray), i ≤ m ∧ kv = .int .i64 i ∧ sv = .string s' ∧ s'.size ≤ 4 + 24 * k + 2 * i ∧ wr = w2 ∧ Hid (s' = ba (dBr (dText 0 k) i))) (fun _ kv _ => m - (intOf kv).toNat)
      case atStart => exact ⟨0, s, Nat.zero_le _, rfl, rfl, by omega, rfl, hide (unhide HS)⟩
      case round =>
        obtain ⟨i, s', hi, rfl, rfl, hs', rfl, HS'⟩ := hrel
        by_cases hlt2 : i < m
        · have i2 : (i : Int) < (m : Int) := by omega
          have g5 : ¬ 9223372036854775807 < 1 + s'.size := by omega
          have g6 : ¬ 9223372036854775807 < 1 + s'.size + 1 := by omega
          go_wp2_with fail
          refine (WB _).mono ?_
          rintro e w3 ⟨rfl, rfl⟩
          go_wp2
          go_roundw
          case rel => exact ⟨i + 1, _, hlt2, by go_num, rfl, by rw [ByteArray.size_append, ByteArray.size_append]; show 1 + s'.size + 1 ≤ 4 + 24 * k + 2 * (i + 1); omega, by trivial, hide (by rw [unhide HS']; show _ = ba ([40] ++ dBr (dText 0 k) i ++ [41]); simp only [← baA]; rfl)⟩
          case measure =>
            simp only [intOf]
            omega
        · obtain rfl : i = m := by omega
          have i2 : ¬ (i : Int) < (i : Int) := by omega
          go_wp2_with fail
          refine (WB _).mono ?_
          rintro e w3 ⟨rfl, rfl⟩
          clear WB
          by_cases hneg : how < 0
          · go_wp2
            go_ret
            exact ⟨rfl, b1⟩
          · have hd := dOk_ok 0 k i (by decide) hj13 hm30
            have PX := fun hmild => pexpr_any s' _ ((unhide HT).below b1) (by omega) hmild
            rw [unhide HS', ba_data] at PX
            by_cases h10 : 10 ≤ k
            · obtain ⟨hmild, hc⟩ := dOk_deep hd h10
              have PX := PX hmild
              rw [hc] at PX
              rw [← unhide HS'] at PX
              have i3 : (10 : Int) < 1 + (k : Int) := by omega
              clear hc hmild hd HS' HS
              go_wp2_with fail
              refine PX.mono ?_
              rintro e w4 ⟨r, rfl, b4, _⟩
              clear PX
              have b14 := b1.trans (b4.mono b1.size)
              have n5 := new1 w4 (.cells #[.int .i64 r.k, .bool r.b, .int .i64 r.n, .string r.s, .string r.t, .string r.i, .slice r.lo r.ll r.lc] 28)
              unfold R7.val
              go_wp2
              go_ret
              exact ⟨rfl, b14.trans (n5.mono b14.size)⟩
            · obtain ⟨hmild, hc, hdp, hok⟩ := dOk_read hd h10
              have PX := PX hmild
              rw [hc] at PX
              rw [← unhide HS'] at PX
              have i3 : ¬ (10 : Int) < 1 + (k : Int) := by omega
              generalize (parseE (dBr (dText 0 k) i)).1 = x at *
              have HD := hide hdp
              have HO := hide hok
              clear hc hmild hd HS' HS hdp hok
              go_wp2_with fail
              refine PX.mono ?_
              rintro e w4 ⟨r, rfl, b4, hE⟩
              clear PX
              have b14 := b1.trans (b4.mono b1.size)
              have n5 := new1 w4 (.cells #[.int .i64 r.k, .bool r.b, .int .i64 r.n, .string r.s, .string r.t, .string r.i, .slice r.lo r.ll r.lc] 28)
              have Z5 : (w4.alloc (.cells #[.int .i64 r.k, .bool r.b, .int .i64 r.n, .string r.s, .string r.t, .string r.i, .slice r.lo r.ll r.lc] 28)).heap[w4.heap.size]? = some (.cells #[.int .i64 r.k, .bool r.b, .int .i64 r.n, .string r.s, .string r.t, .string r.i, .slice r.lo r.ll r.lc] 28 (0, 0)) := alloc_heap _ _
              have b15 := b14.trans (n5.mono b14.size)
              have D := depth_any 100 (by decide) x r _ _ (by rw [unhide HD]; omega) (unhide HO) (IsE.turn n5.size (fun b hb hb2 => ⟨n5.block b hb2, hb⟩) r x hE)
              rw [unhide HD] at D
              clear hE n5 b4
              unfold R7.val at D ⊢
              go_upto_region 25 with fail
              generalize w4.alloc _ = w5 at *
              obtain ⟨x0, x1, x2, x3, x4, x5, x6, _⟩ := blk7 Z5
              go_wp2_with fail
              refine D.mono ?_
              rintro e w6 ⟨rfl, b6⟩
              clear x0 x1 x2 x3 x4 x5 x6 D
              go_wp2
              go_ret
              exact ⟨ret_bool (beq_iff_eq.2 (by omega)), b15.trans (b6.mono b15.size)⟩

set_option maxHeartbeats 4000000 in
set_option maxRecDepth 1000000 in
theorem deep_1 (n how br : Int) (w : World) (hT : Tabs w) (hq : how.tmod 4 = 1) : Calls Tryz.prog 3 #[.int .i64 n, .int .i64 how, .int .i64 br] w fun e w' => e = .returned (.bool true) ∧ Below w.heap.size w w' := by
  have K := known5_any w hT
  obtain ⟨j, hj⟩ : ∃ j : Nat, (j : Int) = n % 13 := ⟨(n % 13).toNat, by omega⟩
  obtain ⟨m, hm⟩ : ∃ m : Nat, (m : Int) = br % 30 := ⟨(br % 30).toNat, by omega⟩
  have hj13 : j < 13 := by omega
  have hm30 : m < 30 := by omega
  have WA := fun w' => within5_any n 13 (by decide) (by decide) w'
  have WB := fun w' => within5_any br 30 (by decide) (by decide) w'
  rw [← hj] at WA
  rw [← hm] at WB
  have HT := hide hT
  clear hj hm hT
  go_enter Tryz.func3, Tryz.ntmps3
  go_wp2_with fail
  refine K.mono ?_
  rintro e w1 ⟨rfl, b1⟩
  clear K
  go_wp2_with fail
  refine (WA _).mono ?_
  rintro e w2 ⟨rfl, rfl⟩
  clear WA
  go_wp2_with fail
  go_loop [7, 8] (fun sv kv => ∃ (k : Nat) (s : ByteArray), k ≤ j ∧ kv = .int .i64 (k + 1 : Nat) ∧ sv = .string s ∧ s.size ≤ 4 + 24 * k ∧ Hid (s = ba (dText 1 k))) (fun _ kv => j + 1 - (intOf kv).toNat)
  case atStart => exact ⟨0, _, Nat.zero_le _, rfl, rfl, by decide, hide rfl⟩
  case round =>
    obtain ⟨k, s, hk, rfl, rfl, hs, HS⟩ := hrel
    by_cases hlt : k < j
    · have i1 : ((k + 1 : Nat) : Int) < 1 + (j : Int) := by omega
      have g0 : ¬ 9223372036854775807 < 1 + s.size := by omega
      go_wp2
      go_round
      case rel => exact ⟨k + 1, _, hlt, by go_num, rfl, by rw [ByteArray.size_append]; show 1 + s.size ≤ 4 + 24 * (k + 1); omega, hide (by rw [unhide HS]; show _ = ba (dStep 1 (dText 1 k)); unfold dStep; simp only [reduceIte, Nat.reduceEqDiff]; simp only [← baA]; rfl)⟩
      case measure =>
        simp only [intOf]
        omega
    · obtain rfl : k = j := by omega
      have i1 : ¬ ((k + 1 : Nat) : Int) < 1 + (k : Int) := by omega
      go_wp2_with fail
      go_loopw [7, 9] (fun sv kv wr => ∃ (i : Nat) (s' : ByteArray), i ≤ m ∧ kv = .int .i64 i ∧ sv = .string s' ∧ s'.size ≤ 4 + 24 * k + 2 * i ∧ wr = w2 ∧ Hid (s' = ba (dBr (dText 1 k) i))) (fun _ kv _ => m - (intOf kv).toNat)
      case atStart => exact ⟨0, s, Nat.zero_le _, rfl, rfl, by omega, rfl, hide (unhide HS)⟩
      case round =>
        obtain ⟨i, s', hi, rfl, rfl, hs', rfl, HS'⟩ := hrel
        by_cases hlt2 : i < m
        · have i2 : (i : Int) < (m : Int) := by omega
          have g5 : ¬ 9223372036854775807 < 1 + s'.size := by omega
          have g6 : ¬ 9223372036854775807 < 1 + s'.size + 1 := by omega
          go_wp2_with fail
          refine (WB _).mono ?_
          rintro e w3 ⟨rfl, rfl⟩
          go_wp2
          go_roundw
          case rel => exact ⟨i + 1, _, hlt2, by go_num, rfl, by rw [ByteArray.size_append, ByteArray.size_append]; show 1 + s'.size + 1 ≤ 4 + 24 * k + 2 * (i + 1); omega, by trivial, hide (by rw [unhide HS']; show _ = ba ([40] ++ dBr (dText 1 k) i ++ [41]); simp only [← baA]; rfl)⟩
          case measure =>
            simp only [intOf]
            omega
        · obtain rfl : i = m := by omega
          have i2 : ¬ (i : Int) < (i : Int) := by omega
          go_wp2_with fail
          refine (WB _).mono ?_
          rintro e w3 ⟨rfl, rfl⟩
          clear WB
          by_cases hneg : how < 0
          · go_wp2
            go_ret
            exact ⟨rfl, b1⟩
          · have hd := dOk_ok 1 k i (by decide) hj13 hm30
            have PX := fun hmild => pexpr_any s' _ ((unhide HT).below b1) (by omega) hmild
            rw [unhide HS', ba_data] at PX
            by_cases h10 : 10 ≤ k
            · obtain ⟨hmild, hc⟩ := dOk_deep hd h10
              have PX := PX hmild
              rw [hc] at PX
              rw [← unhide HS'] at PX
              have i3 : (10 : Int) < 1 + (k : Int) := by omega
              clear hc hmild hd HS' HS
              go_wp2_with fail
              refine PX.mono ?_
              rintro e w4 ⟨r, rfl, b4, _⟩
              clear PX
              have b14 := b1.trans (b4.mono b1.size)
              have n5 := new1 w4 (.cells #[.int .i64 r.k, .bool r.b, .int .i64 r.n, .string r.s, .string r.t, .string r.i, .slice r.lo r.ll r.lc] 28)
              unfold R7.val
              go_wp2
              go_ret
              exact ⟨rfl, b14.trans (n5.mono b14.size)⟩
            · obtain ⟨hmild, hc, hdp, hok⟩ := dOk_read hd h10
              have PX := PX hmild
              rw [hc] at PX
              rw [← unhide HS'] at PX
              have i3 : ¬ (10 : Int) < 1 + (k : Int) := by omega
              generalize (parseE (dBr (dText 1 k) i)).1 = x at *
              have HD := hide hdp
              have HO := hide hok
              clear hc hmild hd HS' HS hdp hok
              go_wp2_with fail
              refine PX.mono ?_
              rintro e w4 ⟨r, rfl, b4, hE⟩
              clear PX
              have b14 := b1.trans (b4.mono b1.size)
              have n5 := new1 w4 (.cells #[.int .i64 r.k, .bool r.b, .int .i64 r.n, .string r.s, .string r.t, .string r.i, .slice r.lo r.ll r.lc] 28)
              have Z5 : (w4.alloc (.cells #[.int .i64 r.k, .bool r.b, .int .i64 r.n, .string r.s, .string r.t, .string r.i, .slice r.lo r.ll r.lc] 28)).heap[w4.heap.size]? = some (.cells #[.int .i64 r.k, .bool r.b, .int .i64 r.n, .string r.s, .string r.t, .string r.i, .slice r.lo r.ll r.lc] 28 (0, 0)) := alloc_heap _ _
              have b15 := b14.trans (n5.mono b14.size)
              have D := depth_any 100 (by decide) x r _ _ (by rw [unhide HD]; omega) (unhide HO) (IsE.turn n5.size (fun b hb hb2 => ⟨n5.block b hb2, hb⟩) r x hE)
              rw [unhide HD] at D
              clear hE n5 b4
              unfold R7.val at D ⊢
              go_upto_region 25 with fail
              generalize w4.alloc _ = w5 at *
              obtain ⟨x0, x1, x2, x3, x4, x5, x6, _⟩ := blk7 Z5
              go_wp2_with fail
              refine D.mono ?_
              rintro e w6 ⟨rfl, b6⟩
              clear x0 x1 x2 x3 x4 x5 x6 D
              go_wp2
              go_ret
              exact ⟨ret_bool (beq_iff_eq.2 (by omega)), b15.trans (b6.mono b15.size)⟩

set_option maxHeartbeats 4000000 in
set_option maxRecDepth 1000000 in
theorem deep_2 (n how br : Int) (w : World) (hT : Tabs w) (hq : how.tmod 4 = 2) : Calls Tryz.prog 3 #[.int .i64 n, .int .i64 how, .int .i64 br] w fun e w' => e = .returned (.bool true) ∧ Below w.heap.size w w' := by
  have K := known5_any w hT
  obtain ⟨j, hj⟩ : ∃ j : Nat, (j : Int) = n % 13 := ⟨(n % 13).toNat, by omega⟩
  obtain ⟨m, hm⟩ : ∃ m : Nat, (m : Int) = br % 30 := ⟨(br % 30).toNat, by omega⟩
  have hj13 : j < 13 := by omega
  have hm30 : m < 30 := by omega
  have WA := fun w' => within5_any n 13 (by decide) (by decide) w'
  have WB := fun w' => within5_any br 30 (by decide) (by decide) w'
  rw [← hj] at WA
  rw [← hm] at WB
  have HT := hide hT
  clear hj hm hT
  go_enter Tryz.func3, Tryz.ntmps3
  go_wp2_with fail
  refine K.mono ?_
  rintro e w1 ⟨rfl, b1⟩
  clear K
  go_wp2_with fail
  refine (WA _).mono ?_
  rintro e w2 ⟨rfl, rfl⟩
  clear WA
  go_wp2_with fail
  go_loop [7, 8] (fun sv kv => ∃ (k : Nat) (s : ByteArray), k ≤ j ∧ kv = .int .i64 (k + 1 : Nat) ∧ sv = .string s ∧ s.size ≤ 4 + 24 * k ∧ Hid (s = ba (dText 2 k))) (fun _ kv => j + 1 - (intOf kv).toNat)
  case atStart => exact ⟨0, _, Nat.zero_le _, rfl, rfl, by decide, hide rfl⟩
  case round =>
    obtain ⟨k, s, hk, rfl, rfl, hs, HS⟩ := hrel
    by_cases hlt : k < j
    · have i1 : ((k + 1 : Nat) : Int) < 1 + (j : Int) := by omega
      have g0 : ¬ 9223372036854775807 < 13 + s.size := by omega
      have g1 : ¬ 9223372036854775807 < 13 + s.size + 11 := by omega
      go_wp2
      go_round
      case rel => exact ⟨k + 1, _, hlt, by go_num, rfl, by rw [ByteArray.size_append, ByteArray.size_append]; show 13 + s.size + 11 ≤ 4 + 24 * (k + 1); omega, hide (by rw [unhide HS]; show _ = ba (dStep 2 (dText 2 k)); unfold dStep; simp only [reduceIte, Nat.reduceEqDiff]; simp only [← baA]; rfl)⟩
      case measure =>
        simp only [intOf]
        omega
    · obtain rfl : k = j := by omega
      have i1 : ¬ ((k + 1 : Nat) : Int) < 1 + (k : Int) := by omega
      go_wp2_with fail
      go_loopw [7, 9] (fun sv kv wr => ∃ (i : Nat) (s' : ByteArray), i ≤ m ∧ kv = .int .i64 i ∧ sv = .string s' ∧ s'.size ≤ 4 + 24 * k + 2 * i ∧ wr = w2 ∧ Hid (s' = ba (dBr (dText 2 k) i))) (fun _ kv _ => m - (intOf kv).toNat)
      case atStart => exact ⟨0, s, Nat.zero_le _, rfl, rfl, by omega, rfl, hide (unhide HS)⟩
      case round =>
        obtain ⟨i, s', hi, rfl, rfl, hs', rfl, HS'⟩ := hrel
        by_cases hlt2 : i < m
        · have i2 : (i : Int) < (m : Int) := by omega
          have g5 : ¬ 9223372036854775807 < 1 + s'.size := by omega
          have g6 : ¬ 9223372036854775807 < 1 + s'.size + 1 := by omega
          go_wp2_with fail
          refine (WB _).mono ?_
          rintro e w3 ⟨rfl, rfl⟩
          go_wp2
          go_roundw
          case rel => exact ⟨i + 1, _, hlt2, by go_num, rfl, by rw [ByteArray.size_append, ByteArray.size_append]; show 1 + s'.size + 1 ≤ 4 + 24 * k + 2 * (i + 1); omega, by trivial, hide (by rw [unhide HS']; show _ = ba ([40] ++ dBr (dText 2 k) i ++ [41]); simp only [← baA]; rfl)⟩
          case measure =>
            simp only [intOf]
            omega
        · obtain rfl : i = m := by omega
          have i2 : ¬ (i : Int) < (i : Int) := by omega
          go_wp2_with fail
          refine (WB _).mono ?_
          rintro e w3 ⟨rfl, rfl⟩
          clear WB
          by_cases hneg : how < 0
          · go_wp2
            go_ret
            exact ⟨rfl, b1⟩
          · have hd := dOk_ok 2 k i (by decide) hj13 hm30
            have PX := fun hmild => pexpr_any s' _ ((unhide HT).below b1) (by omega) hmild
            rw [unhide HS', ba_data] at PX
            by_cases h10 : 10 ≤ k
            · obtain ⟨hmild, hc⟩ := dOk_deep hd h10
              have PX := PX hmild
              rw [hc] at PX
              rw [← unhide HS'] at PX
              have i3 : (10 : Int) < 1 + (k : Int) := by omega
              clear hc hmild hd HS' HS
              go_wp2_with fail
              refine PX.mono ?_
              rintro e w4 ⟨r, rfl, b4, _⟩
              clear PX
              have b14 := b1.trans (b4.mono b1.size)
              have n5 := new1 w4 (.cells #[.int .i64 r.k, .bool r.b, .int .i64 r.n, .string r.s, .string r.t, .string r.i, .slice r.lo r.ll r.lc] 28)
              unfold R7.val
              go_wp2
              go_ret
              exact ⟨rfl, b14.trans (n5.mono b14.size)⟩
            · obtain ⟨hmild, hc, hdp, hok⟩ := dOk_read hd h10
              have PX := PX hmild
              rw [hc] at PX
              rw [← unhide HS'] at PX
              have i3 : ¬ (10 : Int) < 1 + (k : Int) := by omega
              generalize (parseE (dBr (dText 2 k) i)).1 = x at *
              have HD := hide hdp
              have HO := hide hok
              clear hc hmild hd HS' HS hdp hok
              go_wp2_with fail
              refine PX.mono ?_
              rintro e w4 ⟨r, rfl, b4, hE⟩
              clear PX
              have b14 := b1.trans (b4.mono b1.size)
              have n5 := new1 w4 (.cells #[.int .i64 r.k, .bool r.b, .int .i64 r.n, .string r.s, .string r.t, .string r.i, .slice r.lo r.ll r.lc] 28)
              have Z5 : (w4.alloc (.cells #[.int .i64 r.k, .bool r.b, .int .i64 r.n, .string r.s, .string r.t, .string r.i, .slice r.lo r.ll r.lc] 28)).heap[w4.heap.size]? = some (.cells #[.int .i64 r.k, .bool r.b, .int .i64 r.n, .string r.s, .string r.t, .string r.i, .slice r.lo r.ll r.lc] 28 (0, 0)) := alloc_heap _ _
              have b15 := b14.trans (n5.mono b14.size)
              have D := depth_any 100 (by decide) x r _ _ (by rw [unhide HD]; omega) (unhide HO) (IsE.turn n5.size (fun b hb hb2 => ⟨n5.block b hb2, hb⟩) r x hE)
              rw [unhide HD] at D
              clear hE n5 b4
              unfold R7.val at D ⊢
              go_upto_region 25 with fail
              generalize w4.alloc _ = w5 at *
              obtain ⟨x0, x1, x2, x3, x4, x5, x6, _⟩ := blk7 Z5
              go_wp2_with fail
              refine D.mono ?_
              rintro e w6 ⟨rfl, b6⟩
              clear x0 x1 x2 x3 x4 x5 x6 D
              go_wp2
              go_ret
              exact ⟨ret_bool (beq_iff_eq.2 (by omega)), b15.trans (b6.mono b15.size)⟩

set_option maxHeartbeats 4000000 in
set_option maxRecDepth 1000000 in
theorem deep_3 (n how br : Int) (w : World) (hT : Tabs w) (q0 : (how.tmod 4 == 0) = false) (q1 : (how.tmod 4 == 1) = false) (q2 : (how.tmod 4 == 2) = false) : Calls Tryz.prog 3 #[.int .i64 n, .int .i64 how, .int .i64 br] w fun e w' => e = .returned (.bool true) ∧ Below w.heap.size w w' := by
  have K := known5_any w hT
  obtain ⟨j, hj⟩ : ∃ j : Nat, (j : Int) = n % 13 := ⟨(n % 13).toNat, by omega⟩
  obtain ⟨m, hm⟩ : ∃ m : Nat, (m : Int) = br % 30 := ⟨(br % 30).toNat, by omega⟩
  have hj13 : j < 13 := by omega
  have hm30 : m < 30 := by omega
  have WA := fun w' => within5_any n 13 (by decide) (by decide) w'
  have WB := fun w' => within5_any br 30 (by decide) (by decide) w'
  rw [← hj] at WA
  rw [← hm] at WB
  have HT := hide hT
  clear hj hm hT
  go_enter Tryz.func3, Tryz.ntmps3
  go_wp2_with fail
  refine K.mono ?_
  rintro e w1 ⟨rfl, b1⟩
  clear K
  go_wp2_with fail
  refine (WA _).mono ?_
  rintro e w2 ⟨rfl, rfl⟩
  clear WA
  go_wp2_with fail
  go_loop [7, 8] (fun sv kv => ∃ (k : Nat) (s : ByteArray), k ≤ j ∧ kv = .int .i64 (k + 1 : Nat) ∧ sv = .string s ∧ s.size ≤ 4 + 24 * k ∧ Hid (s = ba (dText 3 k))) (fun _ kv => j + 1 - (intOf kv).toNat)
  case atStart => exact ⟨0, _, Nat.zero_le _, rfl, rfl, by decide, hide rfl⟩
  case round =>
    obtain ⟨k, s, hk, rfl, rfl, hs, HS⟩ := hrel
    by_cases hlt : k < j
    · have i1 : ((k + 1 : Nat) : Int) < 1 + (j : Int) := by omega
      have g0 : ¬ 9223372036854775807 < 1 + s.size := by omega
      have g1 : ¬ 9223372036854775807 < 1 + s.size + 1 := by omega
      go_wp2
      go_round
      case rel => exact ⟨k + 1, _, hlt, by go_num, rfl, by rw [ByteArray.size_append, ByteArray.size_append]; show 1 + s.size + 1 ≤ 4 + 24 * (k + 1); omega, hide (by rw [unhide HS]; show _ = ba (dStep 3 (dText 3 k)); unfold dStep; simp only [reduceIte, Nat.reduceEqDiff]; simp only [← baA]; rfl)⟩
      case measure =>
        simp only [intOf]
        omega
    · obtain rfl : k = j := by omega
      have i1 : ¬ ((k + 1 : Nat) : Int) < 1 + (k : Int) := by omega
      go_wp2_with fail
      go_loopw [7, 9] (fun sv kv wr => ∃ (i : Nat) (s' : ByteArray), i ≤ m ∧ kv = .int .i64 i ∧ sv = .string s' ∧ s'.size ≤ 4 + 24 * k + 2 * i ∧ wr = w2 ∧ Hid (s' = ba (dBr (dText 3 k) i))) (fun _ kv _ => m - (intOf kv).toNat)
      case atStart => exact ⟨0, s, Nat.zero_le _, rfl, rfl, by omega, rfl, hide (unhide HS)⟩
      case round =>
        obtain ⟨i, s', hi, rfl, rfl, hs', rfl, HS'⟩ := hrel
        by_cases hlt2 : i < m
        · have i2 : (i : Int) < (m : Int) := by omega
          have g5 : ¬ 9223372036854775807 < 1 + s'.size := by omega
          have g6 : ¬ 9223372036854775807 < 1 + s'.size + 1 := by omega
          go_wp2_with fail
          refine (WB _).mono ?_
          rintro e w3 ⟨rfl, rfl⟩
          go_wp2
          go_roundw
          case rel => exact ⟨i + 1, _, hlt2, by go_num, rfl, by rw [ByteArray.size_append, ByteArray.size_append]; show 1 + s'.size + 1 ≤ 4 + 24 * k + 2 * (i + 1); omega, by trivial, hide (by rw [unhide HS']; show _ = ba ([40] ++ dBr (dText 3 k) i ++ [41]); simp only [← baA]; rfl)⟩
          case measure =>
            simp only [intOf]
            omega
        · obtain rfl : i = m := by omega
          have i2 : ¬ (i : Int) < (i : Int) := by omega
          go_wp2_with fail
          refine (WB _).mono ?_
          rintro e w3 ⟨rfl, rfl⟩
          clear WB
          by_cases hneg : how < 0
          · go_wp2
            go_ret
            exact ⟨rfl, b1⟩
          · have hd := dOk_ok 3 k i (by decide) hj13 hm30
            have PX := fun hmild => pexpr_any s' _ ((unhide HT).below b1) (by omega) hmild
            rw [unhide HS', ba_data] at PX
            by_cases h10 : 10 ≤ k
            · obtain ⟨hmild, hc⟩ := dOk_deep hd h10
              have PX := PX hmild
              rw [hc] at PX
              rw [← unhide HS'] at PX
              have i3 : (10 : Int) < 1 + (k : Int) := by omega
              clear hc hmild hd HS' HS
              go_wp2_with fail
              refine PX.mono ?_
              rintro e w4 ⟨r, rfl, b4, _⟩
              clear PX
              have b14 := b1.trans (b4.mono b1.size)
              have n5 := new1 w4 (.cells #[.int .i64 r.k, .bool r.b, .int .i64 r.n, .string r.s, .string r.t, .string r.i, .slice r.lo r.ll r.lc] 28)
              unfold R7.val
              go_wp2
              go_ret
              exact ⟨rfl, b14.trans (n5.mono b14.size)⟩
            · obtain ⟨hmild, hc, hdp, hok⟩ := dOk_read hd h10
              have PX := PX hmild
              rw [hc] at PX
              rw [← unhide HS'] at PX
              have i3 : ¬ (10 : Int) < 1 + (k : Int) := by omega
              generalize (parseE (dBr (dText 3 k) i)).1 = x at *
              have HD := hide hdp
              have HO := hide hok
              clear hc hmild hd HS' HS hdp hok
              go_wp2_with fail
              refine PX.mono ?_
              rintro e w4 ⟨r, rfl, b4, hE⟩
              clear PX
              have b14 := b1.trans (b4.mono b1.size)
              have n5 := new1 w4 (.cells #[.int .i64 r.k, .bool r.b, .int .i64 r.n, .string r.s, .string r.t, .string r.i, .slice r.lo r.ll r.lc] 28)
              have Z5 : (w4.alloc (.cells #[.int .i64 r.k, .bool r.b, .int .i64 r.n, .string r.s, .string r.t, .string r.i, .slice r.lo r.ll r.lc] 28)).heap[w4.heap.size]? = some (.cells #[.int .i64 r.k, .bool r.b, .int .i64 r.n, .string r.s, .string r.t, .string r.i, .slice r.lo r.ll r.lc] 28 (0, 0)) := alloc_heap _ _
              have b15 := b14.trans (n5.mono b14.size)
              have D := depth_any 100 (by decide) x r _ _ (by rw [unhide HD]; omega) (unhide HO) (IsE.turn n5.size (fun b hb hb2 => ⟨n5.block b hb2, hb⟩) r x hE)
              rw [unhide HD] at D
              clear hE n5 b4
              unfold R7.val at D ⊢
              go_upto_region 25 with fail
              generalize w4.alloc _ = w5 at *
              obtain ⟨x0, x1, x2, x3, x4, x5, x6, _⟩ := blk7 Z5
              go_wp2_with fail
              refine D.mono ?_
              rintro e w6 ⟨rfl, b6⟩
              clear x0 x1 x2 x3 x4 x5 x6 D
              go_wp2
              go_ret
              exact ⟨ret_bool (beq_iff_eq.2 (by omega)), b15.trans (b6.mono b15.size)⟩

theorem deep_walk (n how br : Int) (w : World) (hT : Tabs w) : Calls Tryz.prog 3 #[.int .i64 n, .int .i64 how, .int .i64 br] w fun e w' => e = .returned (.bool true) ∧ Below w.heap.size w w' := by
  by_cases h0 : how.tmod 4 = 0
  · exact deep_0 n how br w hT h0
  by_cases h1 : how.tmod 4 = 1
  · exact deep_1 n how br w hT h1
  by_cases h2 : how.tmod 4 = 2
  · exact deep_2 n how br w hT h2
  exact deep_3 n how br w hT (by simpa using h0) (by simpa using h1) (by simpa using h2)
end Go.Proofs.YtlakgnnjokienaaGreatDoor
