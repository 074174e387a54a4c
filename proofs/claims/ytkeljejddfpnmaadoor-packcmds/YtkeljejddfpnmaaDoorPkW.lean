/-
  chancelref7.Cmd of a command such as may be: what it returns.
-/
import Derived.Test.YtkeljejddfpnmaaDoorPkV
namespace Go.Proofs.YtkeljejddfpnmaaDoor
open Go.RowKit Go.Sort

set_option maxHeartbeats 16000000 in
set_option maxRecDepth 1000000 in
theorem rCmd_ok (c : C5) (w : World) (he : errC c = 0) :
    Calls Tryd.prog 8 #[c.val] w fun e w' => ∃ v, e = .returned (.tuple #[v, .int .i64 0]) ∧ Below w.heap.size w w' ∧ Own w' w.heap.size v (cmdB c) := by
  obtain ⟨_, _, hn12, ht600⟩ := errC_zero he
  have n1 := new1 w c.obj
  have z1 := alloc_heap w c.obj
  have C := fun w' => rwrong_any c w'
  rw [he] at C
  have hb1 : IntKind.u8.wrap c.cl = ((byteAt c.cl 0).toNat : Int) := by rw [byteAt_val]; simp
  have hb3 : IntKind.u8.wrap c.kd = ((byteAt c.kd 0).toNat : Int) := by rw [byteAt_val]; simp
  unfold C5.val at C ⊢
  clear he
  go_enter Tryd.func8, Tryd.ntmps8
  go_upto_region 1 with fail
  have ew : w.alloc (.cells #[.int .i64 c.cl, .int .i64 c.sq, .int .i64 c.kd, .string c.nm, .string c.tx] 23) = w.alloc c.obj := rfl
  rw [ew]
  clear ew
  generalize w.alloc c.obj = w1 at *
  obtain ⟨c0, c1, c2, c3, c4, _⟩ := blk5 z1
  go_wp2_with fail
  refine (C w1).mono ?_
  rintro e w2 ⟨rfl, b2⟩
  have z2 := kept_of_below b2 z1
  have bb2 := n1.trans (b2.mono n1.size)
  have lw2 : w.heap.size < w2.heap.size := (Array.getElem?_eq_some_iff.1 z2).1
  clear c0 c1 c2 c3 c4 z1 b2 n1 C
  go_upto_region 3 with fail
  refine wp_specsD (h3Sp w.heap.size c) (fun L a' w' => ChR w2 w2.heap.size 3 13 6 16 11 21 100 100 10 20 [byteAt c.cl 0] ([byteAt c.cl 0] ++ beN 8 c.sq) ([byteAt c.cl 0] ++ beN 8 c.sq ++ [byteAt c.kd 0]) [] [byteAt c.kd 0] L a' w' ∧ TlR 12 4 21 3 11 (fun _ => True) L a' w') (by kernel_rfl) (by kernel_rfl) (by kernel_rfl) ⟨⟨(Below.refl _ w2).drew, Nat.le_refl _, fun h => (by cases h), fun h => (by cases h), fun h => (by cases h), fun h => (by cases h), fun h => (by cases h), fun h => (by cases h), fun h => (by cases h), fun h => (by cases h), fun h => (by cases h), fun h => (by cases h)⟩, ⟨fun h => (by cases h), fun h => (by cases h), fun _ => trivial⟩⟩ ?_ ?_ ?_
  · intro i o d ho hd L a' w' hL hw hR hdep hslot hsz K hK
    have hl := dstOf_lt hd
    have hBw : w2.heap.size ≤ w'.heap.size := hR.1.old
    have hz' := (hR.1.below.block w.heap.size lw2).trans z2
    have hPre : ∀ a b : World, Below a.heap.size a b → True → True := fun _ _ _ h => h
    match i with
    | 0 =>
      cases ho
      cases hd
      have e : a'.tmps.getD 1 undef = .pointer (some ⟨w.heap.size, 0, none⟩) := hslot 1 (fun i h => by have hl := dstOf_lt h; match i, hl with | 0, _ => cases h | 1, _ => cases h | 2, _ => cases h | 3, _ => cases h | 4, _ => cases h | 5, _ => cases h | 6, _ => cases h | 7, _ => cases h | 8, _ => cases h | 9, _ => cases h | 10, _ => cases h | 11, _ => cases h | 12, _ => cases h)
      unfold Oper.wp
      go_simp
      exact hK _ _ rfl ⟨hR.1.other (Below.refl _ w') hBw 0 10 _ (by decide) (by decide), hR.2.put 0 10 _ hL (by decide) (by decide) (by decide) (fun _ _ h => hPre _ _ (Below.refl _ w') h)⟩ (fun _ _ h => h)
    | 1 =>
      cases ho
      cases hd
      have e : a'.tmps.getD 10 undef = .pointer (some ⟨w.heap.size, 0, none⟩) := hdep 0 10 rfl (by kernel_rfl)
      obtain ⟨c0, c1, c2, c3, c4, _⟩ := blk5 hz'
      unfold Oper.wp
      go_simp
      exact hK _ _ rfl ⟨hR.1.other (Below.refl _ w') hBw 1 11 _ (by decide) (by decide), hR.2.put 1 11 _ hL (by decide) (by decide) (by decide) (fun _ _ h => hPre _ _ (Below.refl _ w') h)⟩ (fun _ _ h => h)
    | 2 =>
      cases ho
      cases hd
      have e : a'.tmps.getD 11 undef = .int .i64 c.cl := hdep 1 11 rfl (by kernel_rfl)
      unfold Oper.wp
      go_simp
      exact hK _ _ rfl ⟨hR.1.other (Below.refl _ w') hBw 2 12 _ (by decide) (by decide), hR.2.put 2 12 _ hL (by decide) (by decide) (by decide) (fun _ _ h => hPre _ _ (Below.refl _ w') h)⟩ (fun _ _ h => h)
    | 3 =>
      cases ho
      cases hd
      have e : a'.tmps.getD 12 undef = .int .u8 ((byteAt c.cl 0).toNat : Int) := hdep 2 12 rfl (by kernel_rfl)
      have ow := own_one w' (byteAt c.cl 0)
      have h12 : 12 < a'.tmps.size := by rw [hsz]; exact Nat.le_of_ble_eq_true (by kernel_rfl)
      have e1 : a'.tmps[12] = .int .u8 ((byteAt c.cl 0).toNat : Int) := by simpa [h12] using e
      unfold Oper.wp
      go_simp
      exact hK _ _ trivial ⟨hR.1.stage0 (by decide) (new1 _ _) hBw hL _ (by rw [hsz]; exact Nat.le_of_ble_eq_true (by kernel_rfl)) (own_base ow hBw) (fun b hb => by cases hb; exact .inr (Nat.le_refl _)), hR.2.put 3 13 _ hL (by decide) (by decide) (by decide) (fun _ _ _ => trivial)⟩ h3Sp_up
    | 4 =>
      cases ho
      cases hd
      have e : a'.tmps.getD 1 undef = .pointer (some ⟨w.heap.size, 0, none⟩) := hslot 1 (fun i h => by have hl := dstOf_lt h; match i, hl with | 0, _ => cases h | 1, _ => cases h | 2, _ => cases h | 3, _ => cases h | 4, _ => cases h | 5, _ => cases h | 6, _ => cases h | 7, _ => cases h | 8, _ => cases h | 9, _ => cases h | 10, _ => cases h | 11, _ => cases h | 12, _ => cases h)
      unfold Oper.wp
      go_simp
      exact hK _ _ rfl ⟨hR.1.other (Below.refl _ w') hBw 4 14 _ (by decide) (by decide), hR.2.put 4 14 _ hL (by decide) (by decide) (by decide) (fun _ _ h => hPre _ _ (Below.refl _ w') h)⟩ (fun _ _ h => h)
    | 5 =>
      cases ho
      cases hd
      have e : a'.tmps.getD 14 undef = .pointer (some ⟨w.heap.size, 1, none⟩) := hdep 4 14 rfl (by kernel_rfl)
      obtain ⟨c0, c1, c2, c3, c4, _⟩ := blk5 hz'
      unfold Oper.wp
      go_simp
      exact hK _ _ rfl ⟨hR.1.other (Below.refl _ w') hBw 5 15 _ (by decide) (by decide), hR.2.put 5 15 _ hL (by decide) (by decide) (by decide) (fun _ _ h => hPre _ _ (Below.refl _ w') h)⟩ (fun _ _ h => h)
    | 6 =>
      cases ho
      cases hd
      have l3 : L 3 = true := hw 3 (by kernel_rfl)
      have ow := hR.1.st0 l3 hL
      have e2 : a'.tmps.getD 15 undef = .int .i64 c.sq := hdep 5 15 rfl (by kernel_rfl)
      obtain ⟨v13, e1⟩ : ∃ v, a'.tmps.getD 13 undef = v := ⟨_, rfl⟩
      rw [e1] at ow
      have N := rnum_any c.sq v13 _ _ w' ow (by simp) hBw
      unfold Oper.wp
      go_simp
      refine Calls.mono N ?_
      rintro e w3 ⟨v', rfl, o', s'⟩
      rw [← e1] at s'
      exact hK _ _ trivial ⟨hR.1.stage1 (by decide) hBw hL l3 _ (by rw [hsz]; exact Nat.le_of_ble_eq_true (by kernel_rfl)) o' s', hR.2.put 6 16 _ hL (by decide) (by decide) (by decide) (fun _ _ _ => trivial)⟩ h3Sp_up
    | 7 =>
      cases ho
      cases hd
      have e : a'.tmps.getD 1 undef = .pointer (some ⟨w.heap.size, 0, none⟩) := hslot 1 (fun i h => by have hl := dstOf_lt h; match i, hl with | 0, _ => cases h | 1, _ => cases h | 2, _ => cases h | 3, _ => cases h | 4, _ => cases h | 5, _ => cases h | 6, _ => cases h | 7, _ => cases h | 8, _ => cases h | 9, _ => cases h | 10, _ => cases h | 11, _ => cases h | 12, _ => cases h)
      unfold Oper.wp
      go_simp
      exact hK _ _ rfl ⟨hR.1.other (Below.refl _ w') hBw 7 17 _ (by decide) (by decide), hR.2.put 7 17 _ hL (by decide) (by decide) (by decide) (fun _ _ h => hPre _ _ (Below.refl _ w') h)⟩ (fun _ _ h => h)
    | 8 =>
      cases ho
      cases hd
      have e : a'.tmps.getD 17 undef = .pointer (some ⟨w.heap.size, 2, none⟩) := hdep 7 17 rfl (by kernel_rfl)
      obtain ⟨c0, c1, c2, c3, c4, _⟩ := blk5 hz'
      unfold Oper.wp
      go_simp
      exact hK _ _ rfl ⟨hR.1.other (Below.refl _ w') hBw 8 18 _ (by decide) (by decide), hR.2.put 8 18 _ hL (by decide) (by decide) (by decide) (fun _ _ h => hPre _ _ (Below.refl _ w') h)⟩ (fun _ _ h => h)
    | 9 =>
      cases ho
      cases hd
      have e : a'.tmps.getD 18 undef = .int .i64 c.kd := hdep 8 18 rfl (by kernel_rfl)
      unfold Oper.wp
      go_simp
      exact hK _ _ rfl ⟨hR.1.other (Below.refl _ w') hBw 9 19 _ (by decide) (by decide), hR.2.put 9 19 _ hL (by decide) (by decide) (by decide) (fun _ _ h => hPre _ _ (Below.refl _ w') h)⟩ (fun _ _ h => h)
    | 10 =>
      cases ho
      cases hd
      have e : a'.tmps.getD 19 undef = .int .u8 ((byteAt c.kd 0).toNat : Int) := hdep 9 19 rfl (by kernel_rfl)
      have h19 : 19 < a'.tmps.size := by rw [hsz]; exact Nat.le_of_ble_eq_true (by kernel_rfl)
      have e1 : a'.tmps[19] = .int .u8 ((byteAt c.kd 0).toNat : Int) := by simpa [h19] using e
      have rw' : BRow (w'.alloc (.cells #[.int .u8 ((byteAt c.kd 0).toNat : Int)] 5)) (some ⟨w'.heap.size, 0, none⟩) [byteAt c.kd 0] := row_of_block (T := 5) (fr := (0, 0)) (alloc_heap w' (.cells #[.int .u8 ((byteAt c.kd 0).toNat : Int)] 5))
      unfold Oper.wp
      go_simp
      exact hK _ _ trivial ⟨hR.1.row2 (by decide) (new1 _ _) hBw (.slice (some ⟨w'.heap.size, 0, none⟩) 1 1) (by rw [hsz]; exact Nat.le_of_ble_eq_true (by kernel_rfl)) 1 rfl rw' (by simp), hR.2.put 10 20 _ hL (by decide) (by decide) (by decide) (fun _ _ _ => trivial)⟩ h3Sp_up
    | 11 =>
      cases ho
      cases hd
      have l6 : L 6 = true := hw 6 (by kernel_rfl)
      have l10 : L 10 = true := hw 10 (by kernel_rfl)
      have ow := hR.1.st1 l6 hL
      obtain ⟨g, cap, e2, _, _, hr⟩ := hR.1.rw2 l10 hL
      refine wp_app2 _ _ rfl rfl e2 ow rfl (.inr ⟨_, rfl⟩) hr (by simp [beN_len]) hBw fun v' w3 o' s' => ?_
      exact hK _ _ trivial ⟨hR.1.stage2 (by decide) hBw hL l6 _ (by rw [hsz]; exact Nat.le_of_ble_eq_true (by kernel_rfl)) o' s', hR.2.put 11 21 _ hL (by decide) (by decide) (by decide) (fun _ _ _ => trivial)⟩ h3Sp_up
    | 12 =>
      cases ho
      cases hd
      have l11 : L 11 = true := hw 11 (by kernel_rfl)
      obtain ⟨v21, e⟩ : ∃ v, a'.tmps.getD 21 undef = v := ⟨_, rfl⟩
      have T := hR.2.last v21 e.symm (by decide) (by rw [hsz]; exact Nat.le_of_ble_eq_true (by kernel_rfl)) l11 (hR.1.o1 (hR.1.o2 l11))
      unfold Oper.wp
      go_simp
      exact hK _ _ trivial ⟨hR.1.other (Below.refl _ w') hBw 12 4 _ (by decide) (by decide), T⟩ (fun _ _ h => h)
    | i + 13 => exact absurd hl (by show ¬ i + 13 < 13; omega)
  · intro i o ho hd
    match i with
    | 0 => cases hd
    | 1 => cases hd
    | 2 => cases hd
    | 3 => cases hd
    | 4 => cases hd
    | 5 => cases hd
    | 6 => cases hd
    | 7 => cases hd
    | 8 => cases hd
    | 9 => cases hd
    | 10 => cases hd
    | 11 => cases hd
    | 12 => cases hd
    | i + 13 => cases ho
  · intro v L w' hall hR hv
    have ow := hR.1.st2 (hall 11 (by decide))
    have ev := hR.2.val (hall 12 (by decide))
    rw [(hv 11 21 rfl).2] at ow ev
    rw [(hv 12 4 rfl).2] at ev
    have b3 := hR.1.below
    have s3 := hR.1.old
    have f0 : v 0 = _ := (hv 0 10 rfl).1
    have f1 : v 1 = _ := (hv 1 11 rfl).1
    have f2 : v 2 = _ := (hv 2 12 rfl).1
    have f4 : v 4 = _ := (hv 4 14 rfl).1
    have f5 : v 5 = _ := (hv 5 15 rfl).1
    have f7 : v 7 = _ := (hv 7 17 rfl).1
    have f8 : v 8 = _ := (hv 8 18 rfl).1
    have f9 : v 9 = _ := (hv 9 19 rfl).1
    have z3 := (b3.block w.heap.size lw2).trans z2
    clear hv hR hall
    simp only [putAll, dstOf, List.getElem?_cons_zero, List.getElem?_cons_succ, Option.bind_some, List.length_cons, List.length_nil, f0, f1, f2, f4, f5, f7, f8, f9, ev]
    clear f0 f1 f2 f4 f5 f7 f8 f9 ev
    generalize v 3 = y3
    generalize v 6 = y6
    generalize v 10 = y10
    generalize v 11 = y11 at *
    simp only [Act.put, List.setIfInBounds_toArray, List.set_cons_succ, List.set_cons_zero]
    have OW := ow
    go_upto_region 4 with fail
    refine wp_specsD (h4Sp w.heap.size c) (fun L a' w4 => ChR w' w2.heap.size 0 22 4 26 8 30 3 25 7 29 ([byteAt c.cl 0] ++ beN 8 c.sq ++ [byteAt c.kd 0]) (([byteAt c.cl 0] ++ beN 8 c.sq ++ [byteAt c.kd 0]) ++ (beN 2 ((c.nm.data.toList.length : Nat) : Int) ++ c.nm.data.toList)) ((([byteAt c.cl 0] ++ beN 8 c.sq ++ [byteAt c.kd 0]) ++ (beN 2 ((c.nm.data.toList.length : Nat) : Int) ++ c.nm.data.toList)) ++ (beN 2 ((c.tx.data.toList.length : Nat) : Int) ++ c.tx.data.toList)) c.nm.data.toList c.tx.data.toList L a' w4 ∧ TlR 9 2 30 0 8 (fun w5 => Own w5 w2.heap.size y11 ([byteAt c.cl 0] ++ beN 8 c.sq ++ [byteAt c.kd 0])) L a' w4) (by kernel_rfl) (by kernel_rfl) (by kernel_rfl) ⟨⟨(Below.refl _ w').drew, Nat.le_refl _, fun h => (by cases h), fun h => (by cases h), fun h => (by cases h), fun h => (by cases h), fun h => (by cases h), fun h => (by cases h), fun h => (by cases h), fun h => (by cases h), fun h => (by cases h), fun h => (by cases h)⟩, ⟨fun h => (by cases h), fun h => (by cases h), fun _ => ow⟩⟩ ?_ ?_ ?_
    · intro i o d ho hd L a' w4 hL hw hR hdep hslot hsz K hK
      have hl := dstOf_lt hd
      have hBw : w2.heap.size ≤ w4.heap.size := Nat.le_trans s3 hR.1.old
      have hz' := (hR.1.below.block w.heap.size lw2).trans z3
      have hPre : ∀ a b : World, Below a.heap.size a b → Own a w2.heap.size y11 ([byteAt c.cl 0] ++ beN 8 c.sq ++ [byteAt c.kd 0]) → Own b w2.heap.size y11 ([byteAt c.cl 0] ++ beN 8 c.sq ++ [byteAt c.kd 0]) := fun _ _ hb h => own_step h hb
      match i with
      | 0 =>
        cases ho
        cases hd
        have e : a'.tmps.getD 4 undef = y11 := hslot 4 (fun i h => by have hl := dstOf_lt h; match i, hl with | 0, _ => cases h | 1, _ => cases h | 2, _ => cases h | 3, _ => cases h | 4, _ => cases h | 5, _ => cases h | 6, _ => cases h | 7, _ => cases h | 8, _ => cases h | 9, _ => cases h | 10, _ => cases h)
        have ow := hR.2.pre hL
        unfold Oper.wp
        go_simp
        exact hK _ _ trivial ⟨hR.1.stage0 (by decide) (Below.refl _ w4) hBw hL _ (by rw [hsz]; exact Nat.le_of_ble_eq_true (by kernel_rfl)) ow (fun b hb => .inl (own_block OW b hb).2), hR.2.put 0 22 _ hL (by decide) (by decide) (by decide) (fun h => absurd rfl h)⟩ (fun _ _ h => h)
      | 1 =>
        cases ho
        cases hd
        have e : a'.tmps.getD 1 undef = .pointer (some ⟨w.heap.size, 0, none⟩) := hslot 1 (fun i h => by have hl := dstOf_lt h; match i, hl with | 0, _ => cases h | 1, _ => cases h | 2, _ => cases h | 3, _ => cases h | 4, _ => cases h | 5, _ => cases h | 6, _ => cases h | 7, _ => cases h | 8, _ => cases h | 9, _ => cases h | 10, _ => cases h)
        unfold Oper.wp
        go_simp
        exact hK _ _ rfl ⟨hR.1.other (Below.refl _ w4) hBw 1 23 _ (by decide) (by decide), hR.2.put 1 23 _ hL (by decide) (by decide) (by decide) (fun _ _ h => hPre _ _ (Below.refl _ w4) h)⟩ (fun _ _ h => h)
      | 2 =>
        cases ho
        cases hd
        have e : a'.tmps.getD 23 undef = .pointer (some ⟨w.heap.size, 3, none⟩) := hdep 1 23 rfl (by kernel_rfl)
        obtain ⟨c0, c1, c2, c3, c4, _⟩ := blk5 hz'
        unfold Oper.wp
        go_simp
        exact hK _ _ rfl ⟨hR.1.other (Below.refl _ w4) hBw 2 24 _ (by decide) (by decide), hR.2.put 2 24 _ hL (by decide) (by decide) (by decide) (fun _ _ h => hPre _ _ (Below.refl _ w4) h)⟩ (fun _ _ h => h)
      | 3 =>
        cases ho
        cases hd
        have e : a'.tmps.getD 24 undef = .string c.nm := hdep 2 24 rfl (by kernel_rfl)
        obtain ⟨cp, w5, hcv, hr5, b5, lt5⟩ := bytes_run2 w4 c.nm
        unfold Oper.wp
        go_simp
        exact hK _ _ trivial ⟨hR.1.row1 (by decide) b5 hBw (.slice (some ⟨w4.heap.size, 0, none⟩) c.nm.size cp) (by rw [hsz]; exact Nat.le_of_ble_eq_true (by kernel_rfl)) cp (by rw [Lib.size_eq]) hr5 lt5, hR.2.put 3 25 _ hL (by decide) (by decide) (by decide) (fun _ _ h => hPre _ _ b5 h)⟩ h4Sp_up
      | 4 =>
        cases ho
        cases hd
        have l0 : L 0 = true := hw 0 (by kernel_rfl)
        have l3 : L 3 = true := hw 3 (by kernel_rfl)
        have ow := hR.1.st0 l0 hL
        obtain ⟨g, cp, e2, _, hg, hr⟩ := hR.1.rw1 l3 hL
        have ap := hR.1.ap1 l3 l0 hL
        obtain ⟨vv, e1⟩ : ∃ v, a'.tmps.getD 22 undef = v := ⟨_, rfl⟩
        rw [e1] at ow ap
        have N := rbytes7_any _ (some ⟨g, 0, none⟩) cp _ rfl vv _ _ w4 ow hr (.inr ⟨_, rfl⟩) (fun g' o e' => by cases e'; exact ⟨ap g _ _ e2, hg⟩) (by simp [beN_len]; omega) hBw
        unfold Oper.wp
        go_simp
        refine Calls.mono N ?_
        rintro e w5 ⟨v', rfl, o', s'⟩
        rw [← e1] at s'
        exact hK _ _ trivial ⟨hR.1.stage1 (by decide) hBw hL l0 _ (by rw [hsz]; exact Nat.le_of_ble_eq_true (by kernel_rfl)) o' s', hR.2.put 4 26 _ hL (by decide) (by decide) (by decide) (fun _ h0 _ => by rw [l0] at h0; cases h0)⟩ h4Sp_up
      | 5 =>
        cases ho
        cases hd
        have e : a'.tmps.getD 1 undef = .pointer (some ⟨w.heap.size, 0, none⟩) := hslot 1 (fun i h => by have hl := dstOf_lt h; match i, hl with | 0, _ => cases h | 1, _ => cases h | 2, _ => cases h | 3, _ => cases h | 4, _ => cases h | 5, _ => cases h | 6, _ => cases h | 7, _ => cases h | 8, _ => cases h | 9, _ => cases h | 10, _ => cases h)
        unfold Oper.wp
        go_simp
        exact hK _ _ rfl ⟨hR.1.other (Below.refl _ w4) hBw 5 27 _ (by decide) (by decide), hR.2.put 5 27 _ hL (by decide) (by decide) (by decide) (fun _ _ h => hPre _ _ (Below.refl _ w4) h)⟩ (fun _ _ h => h)
      | 6 =>
        cases ho
        cases hd
        have e : a'.tmps.getD 27 undef = .pointer (some ⟨w.heap.size, 4, none⟩) := hdep 5 27 rfl (by kernel_rfl)
        obtain ⟨c0, c1, c2, c3, c4, _⟩ := blk5 hz'
        unfold Oper.wp
        go_simp
        exact hK _ _ rfl ⟨hR.1.other (Below.refl _ w4) hBw 6 28 _ (by decide) (by decide), hR.2.put 6 28 _ hL (by decide) (by decide) (by decide) (fun _ _ h => hPre _ _ (Below.refl _ w4) h)⟩ (fun _ _ h => h)
      | 7 =>
        cases ho
        cases hd
        have e : a'.tmps.getD 28 undef = .string c.tx := hdep 6 28 rfl (by kernel_rfl)
        obtain ⟨cp, w5, hcv, hr5, b5, lt5⟩ := bytes_run2 w4 c.tx
        unfold Oper.wp
        go_simp
        exact hK _ _ trivial ⟨hR.1.row2 (by decide) b5 hBw (.slice (some ⟨w4.heap.size, 0, none⟩) c.tx.size cp) (by rw [hsz]; exact Nat.le_of_ble_eq_true (by kernel_rfl)) cp (by rw [Lib.size_eq]) hr5 lt5, hR.2.put 7 29 _ hL (by decide) (by decide) (by decide) (fun _ _ h => hPre _ _ b5 h)⟩ h4Sp_up
      | 8 =>
        cases ho
        cases hd
        have l0 : L 4 = true := hw 4 (by kernel_rfl)
        have l3 : L 7 = true := hw 7 (by kernel_rfl)
        have ow := hR.1.st1 l0 hL
        obtain ⟨g, cp, e2, _, hg, hr⟩ := hR.1.rw2 l3 hL
        have ap := hR.1.ap3 l3 l0 hL
        obtain ⟨vv, e1⟩ : ∃ v, a'.tmps.getD 26 undef = v := ⟨_, rfl⟩
        rw [e1] at ow ap
        have N := rbytes7_any _ (some ⟨g, 0, none⟩) cp _ rfl vv _ _ w4 ow hr (.inr ⟨_, rfl⟩) (fun g' o e' => by cases e'; exact ⟨ap g _ _ e2, hg⟩) (by simp [beN_len]; omega) hBw
        unfold Oper.wp
        go_simp
        refine Calls.mono N ?_
        rintro e w5 ⟨v', rfl, o', s'⟩
        rw [← e1] at s'
        exact hK _ _ trivial ⟨hR.1.stage2 (by decide) hBw hL l0 _ (by rw [hsz]; exact Nat.le_of_ble_eq_true (by kernel_rfl)) o' s', hR.2.put 8 30 _ hL (by decide) (by decide) (by decide) (fun _ h0 _ => by rw [hR.1.o1 l0] at h0; cases h0)⟩ h4Sp_up
      | 9 =>
        cases ho
        cases hd
        have l8 : L 8 = true := hw 8 (by kernel_rfl)
        obtain ⟨v30, e⟩ : ∃ v, a'.tmps.getD 30 undef = v := ⟨_, rfl⟩
        have T := hR.2.last v30 e.symm (by decide) (by rw [hsz]; exact Nat.le_of_ble_eq_true (by kernel_rfl)) l8 (hR.1.o1 (hR.1.o2 l8))
        unfold Oper.wp
        go_simp
        exact hK _ _ trivial ⟨hR.1.other (Below.refl _ w4) hBw 9 2 _ (by decide) (by decide), T⟩ (fun _ _ h => h)
      | 10 =>
        cases ho
        cases hd
        unfold Oper.wp
        go_simp
        exact hK _ _ rfl ⟨hR.1.other (Below.refl _ w4) hBw 10 3 _ (by decide) (by decide), hR.2.put 10 3 _ hL (by decide) (by decide) (by decide) (fun _ _ h => hPre _ _ (Below.refl _ w4) h)⟩ (fun _ _ h => h)
      | i + 11 => exact absurd hl (by show ¬ i + 11 < 11; omega)
    · intro i o ho hd
      match i with
      | 0 => cases hd
      | 1 => cases hd
      | 2 => cases hd
      | 3 => cases hd
      | 4 => cases hd
      | 5 => cases hd
      | 6 => cases hd
      | 7 => cases hd
      | 8 => cases hd
      | 9 => cases hd
      | 10 => cases hd
      | i + 11 => cases ho
    · intro v L w4 hall hR hv
      have ow := hR.1.st2 (hall 8 (by decide))
      have ev := hR.2.val (hall 9 (by decide))
      rw [(hv 8 30 rfl).2] at ow ev
      rw [(hv 9 2 rfl).2] at ev
      have b4 := hR.1.below
      have f10 : v 10 = _ := (hv 10 3 rfl).1
      clear hv hR hall
      simp only [putAll, dstOf, List.getElem?_cons_zero, List.getElem?_cons_succ, Option.bind_some, List.length_cons, List.length_nil, f10, ev]
      clear f10 ev
      generalize v 0 = x0
      generalize v 1 = x1
      generalize v 2 = x2
      generalize v 3 = x3
      generalize v 4 = x4
      generalize v 5 = x5
      generalize v 6 = x6
      generalize v 7 = x7
      generalize v 8 = x8 at *
      simp only [Act.put, List.setIfInBounds_toArray, List.set_cons_succ, List.set_cons_zero]
      have b5 := bb2.trans (b3.mono bb2.size)
      have b6 := b5.trans (b4.mono bb2.size)
      have eF : (([byteAt c.cl 0] ++ beN 8 c.sq ++ [byteAt c.kd 0]) ++ (beN 2 ((c.nm.data.toList.length : Nat) : Int) ++ c.nm.data.toList)) ++ (beN 2 ((c.tx.data.toList.length : Nat) : Int) ++ c.tx.data.toList) = cmdB c := by
        rw [← Lib.size_eq, ← Lib.size_eq]
        simp [cmdB, textB, beN]
      rw [eF] at ow
      go_wp2
      go_ret2
      exact ⟨_, rfl, b6, own_base ow bb2.size⟩
end Go.Proofs.YtkeljejddfpnmaaDoor
