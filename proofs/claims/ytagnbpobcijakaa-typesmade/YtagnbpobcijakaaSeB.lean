/-
 chancellaw5.Schema: the walk.
-/
import Derived.Test.YtagnbpobcijakaaSeAS
namespace Go.Proofs.Ytagnbpobcijakaa
open Go.RowKit Go.Sort

set_option maxHeartbeats 16000000 in
set_option maxRecDepth 1000000 in
theorem schema5_any (ks : List LK) (as_ : List LA) (ko ao : Option Addr) (kc ac : Nat) (w : World) (hk : IsLKs w ko ks) (ha : IsLAs w ao as_) (hkp : ∀ j (h : j < ks.length), ks[j].ps.length ≤ 9223372036854775807 ∧ ks[j].fs.length ≤ 9223372036854775807) (hap : ∀ j (h : j < as_.length), as_[j].p.length ≤ 9223372036854775807 ∧ as_[j].r.length ≤ 9223372036854775807) :
  Calls Try.prog 23 #[.slice ko ks.length kc, .slice ao as_.length ac] w fun e w' => Below w.heap.size w w' ∧ ∃ v, e = .returned v ∧ IsST w' v (schemaS ks as_) := by
 obtain ⟨iS, hiS, hzS0, hzS1, hzS2⟩ := info_parts infoStr
 obtain ⟨iF, hiF, hzF0, hzF1, hzF2⟩ := info_parts infoField
 obtain ⟨iK, hiK, hzK0, hzK1, hzK2⟩ := info_parts infoKind
 have HK := hide (And.intro hk hkp)
 have HA := hide (And.intro ha hap)
 clear hk ha hkp hap
 go_enter Try.func23, Try.ntmps23
 go_upto_block 0 with fail
 go_cut [] from 6 (fun wc => ∃ lv xs, St1 w wc ks lv (min 5 ks.length) xs)
 case first =>
  go_wp2_with fail
  go_loopw [6] (fun iv wr => ∃ (i : Nat) (lv : Value) (xs : List N3), iv = .int .i64 i ∧ i ≤ ks.length ∧ i ≤ 5 ∧ St1 w wr ks lv i xs) (fun iv _ => 5 - (intOf iv).toNat)
  case atStart => exact ⟨0, .slice none 0 0, [], by go_num, Nat.zero_le _, by omega, (blw2 w _ _), by rw [Below.heap_alloc _ _ _ (by simp)]; exact alloc_heap _ _, by have := alloc_heap (w.alloc (.cells #[.slice none 0 0, .slice none 0 0] 33)) (.cells #[.slice none 0 0, .slice none 0 0] 33); simpa using this, World.ownsRow_nil _ _ _ _, rfl, fun j hj => absurd hj (Nat.not_lt_zero _)⟩
  case round =>
   obtain ⟨i, lv, xs, rfl, hil, hi5, hst⟩ := hrel
   have HST := hide hst
   have hbr := hst.below
   clear hst
   by_cases hlt : i < ks.length
   ·have i0 : (0 : Int) ≤ (i : Int) := by omega
    have i1 : (i : Int) < (ks.length : Int) := by omega
    by_cases h5 : i < 5
    ·have i2 : (i : Int) < 5 := by omega
     obtain ⟨x, g, off, rfl, hgw, ⟨x0, x1, x2⟩, hx⟩ := lk_get (unhide HK).1 hbr hlt
     obtain ⟨hpl, hfl⟩ := (unhide HK).2 i hlt
     have HKs := hide (rfl : kindS ks[i] = kindS ks[i])
     obtain ⟨k, hke⟩ : ∃ k, k = ks[i] := ⟨_, rfl⟩
     rw [← hke] at hx hpl hfl
     have Hke := hide hke
     clear hke HKs
     obtain ⟨xn, pao, pal, pc, fao, fal, fc⟩ := x
     obtain ⟨k1, k2, k3, k4, k5⟩ := hx
     simp only at k1 k2 k3 k4 k5 x0 x1 x2
     subst k1 k2 k4
     have HP := hide k3
     have HF := hide k5
     clear k3 k5
     have C1 := kindS_any k.nm wr
     obtain ⟨nm, hnm⟩ : ∃ nm, nm = knS k.nm := ⟨_, rfl⟩
     rw [← hnm] at C1
     have Hnm := hide hnm
     clear hnm
     go_wp2_with fail
     refine C1.mono ?_
     clear C1
     rintro e w3 ⟨rfl, b3⟩
     go_upto_block 2 with fail
     have b34 := blw1 w3 (.cells #[.string nm, .slice none 0 0, .slice none 0 0] 80)
     have H4 := alloc_heap w3 (.cells #[.string nm, .slice none 0 0, .slice none 0 0] 80)
     have z4 : (w3.alloc (.cells #[.string nm, .slice none 0 0, .slice none 0 0] 80)).heap.size = w3.heap.size + 1 := by simp
     have b03 := hbr.trans (b3.mono hbr.size)
     have b04 := b03.trans (b34.mono b03.size)
     have z03 := b03.size
     have HB34 := hide (And.intro b3 b34)
     clear b3 b34
     generalize w3.alloc _ = w4 at *
     have y1 := (b04.cell (p := ⟨g, off + i * 3 + 1, none⟩) hgw).trans ((hbr.cell (p := ⟨g, off + i * 3 + 1, none⟩) hgw).symm.trans x1)
     have y2 := (b04.cell (p := ⟨g, off + i * 3 + 2, none⟩) hgw).trans ((hbr.cell (p := ⟨g, off + i * 3 + 2, none⟩) hgw).symm.trans x2)
     have wy1 := (hbr.cell (p := ⟨g, off + i * 3 + 1, none⟩) hgw).symm.trans x1
     have wy2 := (hbr.cell (p := ⟨g, off + i * 3 + 2, none⟩) hgw).symm.trans x2
     clear x0 x1 x2 y1 y2
     go_cut [8] from 16 to 123 (fun _ wc => ∃ pv, St2 w w4 wc w3.heap.size (fun v => #[.string nm, v, .slice none 0 0]) 9 1 pv (min 3 k.ps.length) (((k.ps.take 3).map knS).map strC).flatten)
     case first =>
      go_wp2_with fail
      go_loopw [8] (fun jv wr => ∃ (j : Nat) (pv : Value), jv = .int .i64 j ∧ j ≤ k.ps.length ∧ j ≤ 3 ∧ St2 w w4 wr w3.heap.size (fun v => #[.string nm, v, .slice none 0 0]) 9 1 pv j (((k.ps.take j).map knS).map strC).flatten) (fun jv _ => 3 - (intOf jv).toNat)
      case atStart => exact ⟨0, _, by go_num, Nat.zero_le _, by omega, b04, Nat.le_refl _, fun _ _ _ => rfl, H4, World.ownsRow_nil _ _ _ _⟩
      case round =>
       clear hbr HST
       obtain ⟨j, pv, rfl, hjl, hj3, hst2⟩ := hrel
       have HST2 := hide hst2
       have hbj := hst2.below
       have hAR0 : ∀ (XX : List Value) (s : ByteArray) (a : Act), XX = (((k.ps.take j).map knS).map strC).flatten → AR (⟨w, wr, w4.heap.size, w3.heap.size, 9, 1, fun v => #[.string nm, v, .slice none 0 0], 80, pv, j, XX, [.string s], 1, 11, 12, 14, 58, 59⟩ : ARp) (fun _ => false) a wr.drew := fun XX s a e => AR.start a hst2.below hst2.k (by rw [e]; exact hst2.own)
       have hsz4 := hst2.size
       clear hst2
       have z1 := (hbj.cell (p := ⟨g, off + i * 3 + 1, none⟩) hgw).trans wy1
       by_cases hjt : j < k.ps.length
       ·have j0 : (0 : Int) ≤ (j : Int) := by omega
        have j1 : (j : Int) < (k.ps.length : Int) := by omega
        by_cases hj : j < 3
        ·have j2 : (j : Int) < 3 := by omega
         obtain ⟨pg, poff, rfl, hpgw, hcn⟩ := rowG_at (unhide HP) (Below.refl _ w) hjt
         have cN0 := hcn 0 _ rfl
         simp only [Nat.mul_one, Nat.add_zero] at cN0
         have cP0 := wy1
         have HXs := hide (show (((k.ps.take (j + 1)).map knS).map strC).flatten = (((k.ps.take j).map knS).map strC).flatten ++ [.string (knS k.ps[j])] by
          rw [List.take_succ_eq_append_getElem hjt, List.map_append, List.map_append, List.flatten_append]
          rfl)
         generalize k.ps[j] = n at *
         have CN := fun w' => kindS_any n w'
         generalize knS n = s at *
         obtain ⟨XX, hXX⟩ : ∃ XX, XX = (((k.ps.take j).map knS).map strC).flatten := ⟨_, rfl⟩
         have hAR0 := fun a => hAR0 XX s a hXX
         rw [← hXX] at HXs
         clear hXX hcn
         go_upto_region 9 with fail
         as_aux_lemma =>
          refine wp_specsB 14 (seSp w3.heap.size 1 (pv) (.slice (some ⟨g, off, none⟩) ks.length kc) i g (off + i * 3) (off + i * 3 + 1) pg poff (k.ps.length) pc j n s) (AR (⟨w, wr, w4.heap.size, w3.heap.size, 9, 1, fun v => #[.string nm, v, .slice none 0 0], 80, pv, j, XX, [.string s], 1, 11, 12, 14, 58, 59⟩ : ARp)) (by kernel_rfl) (by kernel_rfl) (by kernel_rfl) (hAR0 _) ?_ ?_ ?_
          ·intro i' o hi' ho L a' w' hL hw hR hdep hslot hsz' K hK
           have hbw' : Below w.heap.size w w' := hR.below
           clear hAR0
           match i', hi' with
           | 0, _ =>
            cases ho
            have e0 : a'.tmps.getD 7 undef = .pointer (some ⟨w3.heap.size, 0, none⟩) := hslot 7 (by decide)
            clear hsz'
            unfold Oper.wp
            go_simp
            exact hK _ _ rfl (hR.grow 0 47 _ (show (0 : Nat) ≠ 11 ∧ (0 : Nat) ≠ 12 ∧ (0 : Nat) ≠ 14 from by decide) (show (47 : Nat) ≠ 58 ∧ (47 : Nat) ≠ 59 from by decide) (Below.refl _ _)) (fun _ _ h => h)
           | 1, _ =>
            cases ho
            have e0 : a'.tmps.getD 47 undef = .pointer (some ⟨w3.heap.size, 1, none⟩) := hdep 0 (by decide) (by kernel_rfl)
            have hK6 := hR.kb (hR.noS (hR.noA (.inl hL)))
            have cK : w'.cell? ⟨w3.heap.size, 1, none⟩ = some (pv) := lc_ hK6 rfl
            clear hK6 hbw'
            clear hsz'
            unfold Oper.wp
            go_simp
            exact hK _ _ rfl (hR.grow 1 48 _ (show (1 : Nat) ≠ 11 ∧ (1 : Nat) ≠ 12 ∧ (1 : Nat) ≠ 14 from by decide) (show (48 : Nat) ≠ 58 ∧ (48 : Nat) ≠ 59 from by decide) (Below.refl _ _)) (fun _ _ h => h)
           | 2, _ =>
            cases ho
            have e0 : a'.tmps.getD 0 undef = .slice (some ⟨g, off, none⟩) ks.length kc := hslot 0 (by decide)
            clear hsz'
            unfold Oper.wp
            go_simp
            exact hK _ _ rfl (hR.grow 2 49 _ (show (2 : Nat) ≠ 11 ∧ (2 : Nat) ≠ 12 ∧ (2 : Nat) ≠ 14 from by decide) (show (49 : Nat) ≠ 58 ∧ (49 : Nat) ≠ 59 from by decide) (Below.refl _ _)) (fun _ _ h => h)
           | 3, _ =>
            cases ho
            have e0 : a'.tmps.getD 6 undef = .int .i64 i := hslot 6 (by decide)
            clear hsz'
            unfold Oper.wp
            go_simp
            exact hK _ _ rfl (hR.grow 3 50 _ (show (3 : Nat) ≠ 11 ∧ (3 : Nat) ≠ 12 ∧ (3 : Nat) ≠ 14 from by decide) (show (50 : Nat) ≠ 58 ∧ (50 : Nat) ≠ 59 from by decide) (Below.refl _ _)) (fun _ _ h => h)
           | 4, _ =>
            cases ho
            have e0 : a'.tmps.getD 49 undef = .slice (some ⟨g, off, none⟩) ks.length kc := hdep 2 (by decide) (by kernel_rfl)
            have e1 : a'.tmps.getD 50 undef = .int .i64 i := hdep 3 (by decide) (by kernel_rfl)
            clear hsz'
            unfold Oper.wp
            go_simp
            exact hK _ _ rfl (hR.grow 4 51 _ (show (4 : Nat) ≠ 11 ∧ (4 : Nat) ≠ 12 ∧ (4 : Nat) ≠ 14 from by decide) (show (51 : Nat) ≠ 58 ∧ (51 : Nat) ≠ 59 from by decide) (Below.refl _ _)) (fun _ _ h => h)
           | 5, _ =>
            cases ho
            have e0 : a'.tmps.getD 51 undef = .pointer (some ⟨g, off + i * 3, none⟩) := hdep 4 (by decide) (by kernel_rfl)
            clear hsz'
            unfold Oper.wp
            go_simp
            exact hK _ _ rfl (hR.grow 5 52 _ (show (5 : Nat) ≠ 11 ∧ (5 : Nat) ≠ 12 ∧ (5 : Nat) ≠ 14 from by decide) (show (52 : Nat) ≠ 58 ∧ (52 : Nat) ≠ 59 from by decide) (Below.refl _ _)) (fun _ _ h => h)
           | 6, _ =>
            cases ho
            have e0 : a'.tmps.getD 52 undef = .pointer (some ⟨g, off + i * 3 + 1, none⟩) := hdep 5 (by decide) (by kernel_rfl)
            have cP := (hbw'.cell (p := ⟨g, off + i * 3 + 1, none⟩) hgw).trans cP0
            clear hbw'
            clear hsz'
            unfold Oper.wp
            go_simp
            exact hK _ _ rfl (hR.grow 6 53 _ (show (6 : Nat) ≠ 11 ∧ (6 : Nat) ≠ 12 ∧ (6 : Nat) ≠ 14 from by decide) (show (53 : Nat) ≠ 58 ∧ (53 : Nat) ≠ 59 from by decide) (Below.refl _ _)) (fun _ _ h => h)
           | 7, _ =>
            cases ho
            have e0 : a'.tmps.getD 8 undef = .int .i64 j := hslot 8 (by decide)
            clear hsz'
            unfold Oper.wp
            go_simp
            exact hK _ _ rfl (hR.grow 7 54 _ (show (7 : Nat) ≠ 11 ∧ (7 : Nat) ≠ 12 ∧ (7 : Nat) ≠ 14 from by decide) (show (54 : Nat) ≠ 58 ∧ (54 : Nat) ≠ 59 from by decide) (Below.refl _ _)) (fun _ _ h => h)
           | 8, _ =>
            cases ho
            have e0 : a'.tmps.getD 53 undef = .slice (some ⟨pg, poff, none⟩) k.ps.length pc := hdep 6 (by decide) (by kernel_rfl)
            have e1 : a'.tmps.getD 54 undef = .int .i64 j := hdep 7 (by decide) (by kernel_rfl)
            clear hsz'
            unfold Oper.wp
            go_simp
            exact hK _ _ rfl (hR.grow 8 55 _ (show (8 : Nat) ≠ 11 ∧ (8 : Nat) ≠ 12 ∧ (8 : Nat) ≠ 14 from by decide) (show (55 : Nat) ≠ 58 ∧ (55 : Nat) ≠ 59 from by decide) (Below.refl _ _)) (fun _ _ h => h)
           | 9, _ =>
            cases ho
            have e0 : a'.tmps.getD 55 undef = .pointer (some ⟨pg, poff + j, none⟩) := hdep 8 (by decide) (by kernel_rfl)
            have cN := (hbw'.cell (p := ⟨pg, poff + j, none⟩) hpgw).trans cN0
            clear hbw'
            clear hsz'
            unfold Oper.wp
            go_simp
            exact hK _ _ rfl (hR.grow 9 56 _ (show (9 : Nat) ≠ 11 ∧ (9 : Nat) ≠ 12 ∧ (9 : Nat) ≠ 14 from by decide) (show (56 : Nat) ≠ 58 ∧ (56 : Nat) ≠ 59 from by decide) (Below.refl _ _)) (fun _ _ h => h)
           | 10, _ =>
            cases ho
            have e0 : a'.tmps.getD 56 undef = .int .i64 n := hdep 9 (by decide) (by kernel_rfl)
            have C := CN w'
            clear hsz' hbw' CN
            unfold Oper.wp
            go_simp
            refine C.mono ?_
            rintro e w3 ⟨rfl, b3⟩
            exact hK _ _ rfl (hR.grow 10 57 _ (show (10 : Nat) ≠ 11 ∧ (10 : Nat) ≠ 12 ∧ (10 : Nat) ≠ 14 from by decide) (show (57 : Nat) ≠ 58 ∧ (57 : Nat) ≠ 59 from by decide) b3) seSp_up
           | 11, _ =>
            cases ho
            have e0 : a'.tmps.getD 57 undef = .string s := hdep 10 (by decide) (by kernel_rfl)
            have e0' := gd_ e0
            have hG := hide (hR.alloc hL (by rw [hsz']; exact Nat.le_of_ble_eq_true (by kernel_rfl)) (show (12 : Nat) ≠ 11 from by decide) (show (14 : Nat) ≠ 11 from by decide))
            clear hsz' hbw'
            unfold Oper.wp
            go_simp
            exact hK _ _ trivial (unhide hG) seSp_up
           | 12, _ =>
            cases ho
            have hLR : L 1 = true := hw 1 (by kernel_rfl)
            have hLN : L 11 = true := hw 11 (by kernel_rfl)
            have e0 : a'.tmps.getD 48 undef = pv := hdep 1 (by decide) (by kernel_rfl)
            obtain ⟨blk, e1, hblk⟩ := hR.new hLN hL
            have hcell : ∀ jj u, ([.string s] : List Value)[jj]? = some u → w'.cell? ((⟨blk, 0, none⟩ : Addr).add jj) = some u := by
             intro jj u hu
             rw [Addr.add_lit, Nat.zero_add, Lib.cell_of_heap hblk]
             simpa using hu
            obtain ⟨v', w'', hr, hown', hgr, _, _⟩ := run_append_own_at (P := Try.prog) w' (w4.heap.size) 77 77 9 iS _ 1 16 Try.underlying77 hiS hzS0 hzS1 hzS2 rfl (by decide) (pv) j XX (hR.row hL) ⟨blk, 0, none⟩ 1 1 [.string s] rfl hcell (by intro u hu; simp at hu; subst hu; rfl) (by unfold maxLen; omega) (by omega) (by have := hR.size; simp only at this; omega)
            have hs : a'.eval (.tmp 48) = pv := e0
            have hx : a'.eval (.tmp 58) = .slice (some ⟨blk, 0, none⟩) 1 1 := e1
            unfold Oper.wp execOp
            simp only [resolve, invoke, builtin, Sem.run_bind, Sem.run_pure, Result.andThen_ok, List.map_toArray, List.map_cons, List.map_nil, hs, hx, hr]
            exact hK _ _ trivial (hR.appd hL hLR hLN (by rw [hsz']; exact Nat.le_of_ble_eq_true (by kernel_rfl)) (show (14 : Nat) ≠ 12 from by decide) (by show w4.heap.size ≤ _; omega) (by show w3.heap.size < w4.heap.size; omega) (by show w.heap.size ≤ w4.heap.size; omega) hown' hgr) seSp_up
           | 13, _ =>
            cases ho
            have e0 : a'.tmps.getD 7 undef = .pointer (some ⟨w3.heap.size, 0, none⟩) := hslot 7 (by decide)
            clear hsz'
            unfold Oper.wp
            go_simp
            exact hK _ _ rfl (hR.grow 13 60 _ (show (13 : Nat) ≠ 11 ∧ (13 : Nat) ≠ 12 ∧ (13 : Nat) ≠ 14 from by decide) (show (60 : Nat) ≠ 58 ∧ (60 : Nat) ≠ 59 from by decide) (Below.refl _ _)) (fun _ _ h => h)
           | i + 14, h => exact absurd h (by omega)
          ·intro i' o hi' ho L a' w' hL hw hR hdep K hK
           have : i' = 14 := by
            have h := (List.getElem?_eq_some_iff.1 ho).1
            simp only [List.length_cons, List.length_nil] at h
            omega
           subst this
           cases ho
           have hA : L 12 = true := hw 12 (by kernel_rfl)
           obtain ⟨ao7, n7, c7, e1, hST⟩ := hR.stor hL hA (show (11 : Nat) ≠ 14 from by decide) (show (12 : Nat) ≠ 14 from by decide) (by show w.heap.size ≤ w3.heap.size; omega) (by show w3.heap.size < w4.heap.size; omega) 1 (fun _ => rfl)
           have hST := hide hST
           have e2 : a'.tmps.getD 60 undef = .pointer (some ⟨w3.heap.size, 1, none⟩) := hdep 13 (by decide) (by kernel_rfl)
           have e1 : a'.tmps.getD 59 undef = .slice ao7 n7 c7 := e1
           have hkb := hR.kb hL
           have x6 : w'.cell? ⟨w3.heap.size, 1, none⟩ = some (pv) := lc_ hkb rfl
           have f6 : w'.frozen? ⟨w3.heap.size, 1, none⟩ = false := Lib.frozen_of_heap hkb 1
           clear hkb hAR0
           unfold Oper.wp
           go_simp
           exact hK _ (unhide hST) seSp_up undef
          ·intro v L w5 hall hR hsp
           obtain ⟨ao7, n7, c7, _, hown7, hk7⟩ := hR.app (hall 12 (by decide))
           have hk7 := hk7 (hall 14 (by decide))
           have b7 : Below w.heap.size w w5 := hR.below
           have HV := hide (And.intro b7 (And.intro hR.size (And.intro hR.keep (And.intro hk7 hown7))))
           clear hk7 hown7 hAR0
           have e0 : v 0 = _ := hsp 0 (by decide)
           have e1 : v 1 = _ := hsp 1 (by decide)
           have e2 : v 2 = _ := hsp 2 (by decide)
           have e3 : v 3 = _ := hsp 3 (by decide)
           have e4 : v 4 = _ := hsp 4 (by decide)
           have e5 : v 5 = _ := hsp 5 (by decide)
           have e6 : v 6 = _ := hsp 6 (by decide)
           have e7 : v 7 = _ := hsp 7 (by decide)
           have e8 : v 8 = _ := hsp 8 (by decide)
           have e9 : v 9 = _ := hsp 9 (by decide)
           have e10 : v 10 = _ := hsp 10 (by decide)
           have e13 : v 13 = _ := hsp 13 (by decide)
           clear hR hall hsp
           simp only [putAll, dstOf, List.getElem?_cons_zero, List.getElem?_cons_succ, Option.bind_some, e0, e1, e2, e3, e4, e5, e6, e7, e8, e9, e10, e13]
           clear e0 e1 e2 e3 e4 e5 e6 e7 e8 e9 e10 e13
           simp only [Act.put, List.setIfInBounds_toArray, List.set_cons_succ, List.set_cons_zero]
           generalize v 11 = v11
           generalize v 12 = v12
           go_wp2
           go_roundw
           case rel =>
            refine ⟨j + 1, .slice ao7 n7 c7, by go_num, by omega, by omega, ?_⟩
            obtain ⟨q1, q2, q3, q4, q5⟩ := unhide HV
            exact St2.next (unhide HST2) q1 q2 q3 q4 (by rw [unhide HXs]; exact q5)
           case measure =>
            simp only [intOf]
            omega
        ·have j2 : ¬ (j : Int) < 3 := by omega
         go_wp2_with fail
         go_meet
         case rel =>
          obtain ⟨t1, t2⟩ := take_out k.ps hjl hj3 (.inl hj)
          exact ⟨pv, by rw [t1, t2]; exact unhide HST2⟩
       ·have j1 : ¬ (j : Int) < (k.ps.length : Int) := by omega
        go_wp2_with fail
        go_meet
        case rel =>
         obtain ⟨t1, t2⟩ := take_out k.ps hjl hj3 (.inr hjt)
         exact ⟨pv, by rw [t1, t2]; exact unhide HST2⟩
     case rest =>
      obtain ⟨pv, hst2⟩ := hcut
      have HST2 := hide hst2
      have bc := hst2.below
      have zc := hst2.size
      have HK6 := hst2.k
      obtain ⟨pvo, pvn, pvc, rfl⟩ : ∃ a n c, pv = .slice a n c := by
       rcases hst2.own.2 with ⟨h, _⟩ | ⟨g, cap, cur, h, _⟩
       ·exact ⟨_, _, _, h⟩
       ·exact ⟨_, _, _, h⟩
      clear hst2
      go_upto_block 4 with fail
      go_cut [9, 10, 11] from 16 to 123 (fun _ _ _ wd => ∃ fv, St2 w wc wd w3.heap.size (fun v => #[.string nm, .slice pvo pvn pvc, v]) 109 4 fv (min 4 k.fs.length) (((k.fs.take 4).map fieldS).map F4.cells).flatten)
      case first =>
       go_wp2_with fail
       go_loopw [9] (fun jv wr => ∃ (j : Nat) (fv : Value), jv = .int .i64 j ∧ j ≤ k.fs.length ∧ j ≤ 4 ∧ St2 w wc wr w3.heap.size (fun v => #[.string nm, .slice pvo pvn pvc, v]) 109 4 fv j (((k.fs.take j).map fieldS).map F4.cells).flatten) (fun jv _ => 4 - (intOf jv).toNat)
       case atStart => exact ⟨0, _, by go_num, Nat.zero_le _, by omega, bc, Nat.le_refl _, fun _ _ _ => rfl, HK6, World.ownsRow_nil _ _ _ _⟩
       case round =>
        clear hbr HST
        obtain ⟨j, fv, rfl, hjl, hj4, hst3⟩ := hrel
        have HST3 := hide hst3
        have hbj := hst3.below
        have hsz4 := hst3.size
        clear hst3
        have z1 := (hbj.cell (p := ⟨g, off + i * 3 + 2, none⟩) hgw).trans wy2
        by_cases hjt : j < k.fs.length
        ·have j0 : (0 : Int) ≤ (j : Int) := by omega
         have j1 : (j : Int) < (k.fs.length : Int) := by omega
         by_cases hj : j < 4
         ·have j2 : (j : Int) < 4 := by omega
          obtain ⟨pg, poff, rfl, hpgw, hcn⟩ := rowG_at (unhide HF) hbj hjt
          have f0 := hcn 0 _ rfl
          have f1 := hcn 1 _ rfl
          have f2 := hcn 2 _ rfl
          have f3 := hcn 3 _ rfl
          have HXs := hide (show (((k.fs.take (j + 1)).map fieldS).map F4.cells).flatten = (((k.fs.take j).map fieldS).map F4.cells).flatten ++ (fieldS k.fs[j]).cells by
           rw [List.take_succ_eq_append_getElem hjt, List.map_append, List.map_append, List.flatten_append]
           simp)
          generalize k.fs[j] = fl at *
          simp only [Nat.add_zero] at f0
          have W1 := fun w' => within5_any fl.k 5 (by decide) (by decide) w'
          have W2 := fun w' => within5_any fl.o 4 (by decide) (by decide) w'
          have CT := fun w' => kindS_any fl.to w'
          obtain ⟨km, hkm⟩ : ∃ km, km = fl.k % 5 := ⟨_, rfl⟩
          obtain ⟨om, hom⟩ : ∃ om, om = fl.o % 4 := ⟨_, rfl⟩
          have HC2 := hide (show (fieldS fl).cells = [.string (nmS fl.nm), .int .i64 (1 + km), .int .i64 (if 1 + km = 5 then 1 + om else 0), .string (if 1 + km = 4 ∨ (if 1 + km = 5 then 1 + om else 0) = 4 then knS fl.to else ⟨#[]⟩)] by rw [hkm, hom]; exact field_cells fl)
          have hk0 : 0 ≤ km := by omega
          have hk5 : km < 5 := by omega
          have ho0 : 0 ≤ om := by omega
          have ho4 : om < 4 := by omega
          rw [← hkm] at W1
          rw [← hom] at W2
          rw [unhide HC2] at HXs
          clear HC2 hkm hom
          by_cases hv5 : km = 4
          ·have HXs := hide ((unhide HXs).trans (by rw [hv5]))
           subst hv5
           go_wp2_with fail
           refine (W1 _).mono ?_
           rintro e wv ⟨rfl, hwv⟩
           subst hwv
           clear W1
           go_wp2_with fail
           refine (W2 _).mono ?_
           rintro e wv ⟨rfl, hwv⟩
           subst hwv
           clear W2
           by_cases hv4 : om = 3
           ·subst hv4
            have HXs := hide (unhide HXs : _ = (((k.fs.take j).map fieldS).map F4.cells).flatten ++ [.string (nmS fl.nm), .int .i64 5, .int .i64 4, .string (knS fl.to)])
            have BT : Below wr.heap.size wr ((wr.alloc (.cells #[.int .i64 fl.nm, .int .i64 fl.k, .int .i64 fl.o, .int .i64 fl.to] 107)).alloc (.cells #[.int .i64 5, .int .i64 4, .string ⟨#[]⟩] 54)) := blw2 _ _ _
            have HFt : ((wr.alloc (.cells #[.int .i64 fl.nm, .int .i64 fl.k, .int .i64 fl.o, .int .i64 fl.to] 107)).alloc (.cells #[.int .i64 5, .int .i64 4, .string ⟨#[]⟩] 54)).heap[wr.heap.size]? = some (.cells #[.int .i64 fl.nm, .int .i64 fl.k, .int .i64 fl.o, .int .i64 fl.to] 107 (0, 0)) := by
             rw [Below.heap_alloc _ _ _ (by simp)]
             exact alloc_heap _ _
            have HTt : ((wr.alloc (.cells #[.int .i64 fl.nm, .int .i64 fl.k, .int .i64 fl.o, .int .i64 fl.to] 107)).alloc (.cells #[.int .i64 5, .int .i64 4, .string ⟨#[]⟩] 54)).heap[wr.heap.size + 1]? = some (.cells #[.int .i64 5, .int .i64 4, .string ⟨#[]⟩] 54 (0, 0)) := by
             have := alloc_heap (wr.alloc (.cells #[.int .i64 fl.nm, .int .i64 fl.k, .int .i64 fl.o, .int .i64 fl.to] 107)) (.cells #[.int .i64 5, .int .i64 4, .string ⟨#[]⟩] 54)
             simpa using this
            have zT : ((wr.alloc (.cells #[.int .i64 fl.nm, .int .i64 fl.k, .int .i64 fl.o, .int .i64 fl.to] 107)).alloc (.cells #[.int .i64 5, .int .i64 4, .string ⟨#[]⟩] 54)).heap.size = wr.heap.size + 2 := by simp
            go_wp2_with fail
            generalize (wr.alloc _).alloc _ = wu at *
            refine (CT wu).mono ?_
            clear CT
            rintro e wx ⟨rfl, bx⟩
            have HTx := kept_of_below bx HTt
            have HFx := kept_of_below bx HFt
            have zx := bx.size
            have tx : wx.cell? ⟨wr.heap.size + 1, 2, none⟩ = some (.string ⟨#[]⟩) := lc_ HTx rfl
            have fx : wx.frozen? ⟨wr.heap.size + 1, 2, none⟩ = false := Lib.frozen_of_heap HTx 2
            generalize knS fl.to = tn at *
            have HTy := heap_setCell_same wx (wr.heap.size + 1) 2 _ _ (.string tn) HTx
            have HFy := (Below.heap_setCell wx ⟨wr.heap.size + 1, 2, none⟩ (.string tn) wr.heap.size (by show wr.heap.size ≠ wr.heap.size + 1; omega)).trans HFx
            have BY : Below wr.heap.size wr (wx.setCell ⟨wr.heap.size + 1, 2, none⟩ (.string tn)) := (BT.trans (bx.mono BT.size)).setCell (p := ⟨wr.heap.size + 1, 2, none⟩) (by show wr.heap.size ≤ wr.heap.size + 1; omega) _
            have zy : (wx.setCell ⟨wr.heap.size + 1, 2, none⟩ (.string tn)).heap.size = wx.heap.size := by simp
            have HH := hide (And.intro HTy (And.intro HFy BY))
            clear HTt HFt BT HTx HFx HTy HFy BY
            go_upto_region 19 with fail
            generalize wx.setCell _ _ = wt at *
            obtain ⟨HTt, HFt, BT⟩ := unhide HH
            have HTt : wt.heap[wr.heap.size + 1]? = some (.cells #[.int .i64 5, .int .i64 4, .string tn] 54 (0, 0)) := HTt
            clear HH
            as_aux_lemma =>
             have ST := hide ((unhide HST3).up BT)
             have hown4 := (unhide HST3).own.lt
             have bwt : Below w.heap.size w wt := hbj.trans (BT.mono hbj.size)
             have zwt := BT.size
             have hAR0 : ∀ (XX : List Value) (s : ByteArray) (a : Act), XX = (((k.fs.take j).map fieldS).map F4.cells).flatten → AR (⟨w, wt, wc.heap.size, w3.heap.size, 109, 4, fun v => #[.string nm, .slice pvo pvn pvc, v], 80, fv, j, XX, [.string s, .int .i64 5, .int .i64 4, .string tn], 1, 7, 8, 10, 115, 116⟩ : ARp) (fun _ => false) a wt.drew := fun XX s a e => AR.start a (unhide ST).below (unhide ST).k (by rw [e]; exact (unhide ST).own)
             have hzK : w3.heap.size < wc.heap.size := by omega
             obtain ⟨XX, hXX⟩ : ∃ XX, XX = (((k.fs.take j).map fieldS).map F4.cells).flatten := ⟨_, rfl⟩
             obtain ⟨s, hsn⟩ : ∃ s, s = nmS fl.nm := ⟨_, rfl⟩
             have CN := fun w' => nameS_any fl.nm w'
             rw [← hsn] at CN HXs
             rw [← hXX] at HXs
             have hAR0 := fun a => hAR0 XX s a hXX
             clear hXX hsn
             refine wp_specsB 10 (sfSp w3.heap.size wr.heap.size fv fl.nm s 5 4 tn) (AR (⟨w, wt, wc.heap.size, w3.heap.size, 109, 4, fun v => #[.string nm, .slice pvo pvn pvc, v], 80, fv, j, XX, [.string s, .int .i64 5, .int .i64 4, .string tn], 1, 7, 8, 10, 115, 116⟩ : ARp)) (by kernel_rfl) (by kernel_rfl) (by kernel_rfl) (hAR0 _) ?_ ?_ ?_
             ·intro i' q hi' ho L a' w' hL hw hR hdep hslot hsz' K hK
              have hF' := (hR.keep wr.heap.size (by show wr.heap.size < wt.heap.size; omega) (by show wr.heap.size ≠ w3.heap.size; omega) (fun e => by have := (hown4 wr.heap.size e).2; omega)).trans HFt
              have hT' := (hR.keep (wr.heap.size + 1) (by show wr.heap.size + 1 < wt.heap.size; omega) (by show wr.heap.size + 1 ≠ w3.heap.size; omega) (fun e => by have := (hown4 (wr.heap.size + 1) e).2; omega)).trans HTt
              clear hAR0
              match i', hi' with
              | 0, _ =>
               cases ho
               have e0 : a'.tmps.getD 7 undef = .pointer (some ⟨w3.heap.size, 0, none⟩) := hslot 7 (by decide)
               clear hsz'
               unfold Oper.wp
               go_simp
               exact hK _ _ rfl (hR.grow 0 108 _ (show (0 : Nat) ≠ 7 ∧ (0 : Nat) ≠ 8 ∧ (0 : Nat) ≠ 10 from by decide) (show (108 : Nat) ≠ 115 ∧ (108 : Nat) ≠ 116 from by decide) (Below.refl _ _)) (fun _ _ h => h)
              | 1, _ =>
               cases ho
               have e0 : a'.tmps.getD 108 undef = .pointer (some ⟨w3.heap.size, 2, none⟩) := hdep 0 (by decide) (by kernel_rfl)
               have hK6 := hR.kb (hR.noS (hR.noA (.inl hL)))
               have cK : w'.cell? ⟨w3.heap.size, 2, none⟩ = some fv := lc_ hK6 rfl
               clear hK6 hF' hT'
               clear hsz'
               unfold Oper.wp
               go_simp
               exact hK _ _ rfl (hR.grow 1 109 _ (show (1 : Nat) ≠ 7 ∧ (1 : Nat) ≠ 8 ∧ (1 : Nat) ≠ 10 from by decide) (show (109 : Nat) ≠ 115 ∧ (109 : Nat) ≠ 116 from by decide) (Below.refl _ _)) (fun _ _ h => h)
              | 2, _ =>
               cases ho
               have e0 : a'.tmps.getD 10 undef = .pointer (some ⟨wr.heap.size, 0, none⟩) := hslot 10 (by decide)
               clear hsz'
               unfold Oper.wp
               go_simp
               exact hK _ _ rfl (hR.grow 2 110 _ (show (2 : Nat) ≠ 7 ∧ (2 : Nat) ≠ 8 ∧ (2 : Nat) ≠ 10 from by decide) (show (110 : Nat) ≠ 115 ∧ (110 : Nat) ≠ 116 from by decide) (Below.refl _ _)) (fun _ _ h => h)
              | 3, _ =>
               cases ho
               have e0 : a'.tmps.getD 110 undef = .pointer (some ⟨wr.heap.size, 0, none⟩) := hdep 2 (by decide) (by kernel_rfl)
               have cF : w'.cell? ⟨wr.heap.size, 0, none⟩ = some (.int .i64 fl.nm) := lc_ hF' rfl
               clear hF' hT'
               clear hsz'
               unfold Oper.wp
               go_simp
               exact hK _ _ rfl (hR.grow 3 111 _ (show (3 : Nat) ≠ 7 ∧ (3 : Nat) ≠ 8 ∧ (3 : Nat) ≠ 10 from by decide) (show (111 : Nat) ≠ 115 ∧ (111 : Nat) ≠ 116 from by decide) (Below.refl _ _)) (fun _ _ h => h)
              | 4, _ =>
               cases ho
               have e0 : a'.tmps.getD 111 undef = .int .i64 fl.nm := hdep 3 (by decide) (by kernel_rfl)
               have C := CN w'
               clear hsz' CN hF' hT'
               unfold Oper.wp
               go_simp
               refine C.mono ?_
               rintro e w8 ⟨rfl, b8⟩
               exact hK _ _ rfl (hR.grow 4 112 _ (show (4 : Nat) ≠ 7 ∧ (4 : Nat) ≠ 8 ∧ (4 : Nat) ≠ 10 from by decide) (show (112 : Nat) ≠ 115 ∧ (112 : Nat) ≠ 116 from by decide) b8) sfSp_up
              | 5, _ =>
               cases ho
               have e0 : a'.tmps.getD 11 undef = .pointer (some ⟨wr.heap.size + 1, 0, none⟩) := hslot 11 (by decide)
               obtain ⟨t0, t1, t2⟩ := bl3_ hT'
               clear hF' hT'
               clear hsz'
               unfold Oper.wp
               go_simp
               exact hK _ _ rfl (hR.grow 5 113 _ (show (5 : Nat) ≠ 7 ∧ (5 : Nat) ≠ 8 ∧ (5 : Nat) ≠ 10 from by decide) (show (113 : Nat) ≠ 115 ∧ (113 : Nat) ≠ 116 from by decide) (Below.refl _ _)) (fun _ _ h => h)
              | 6, _ =>
               cases ho
               have e0 : a'.tmps.getD 112 undef = .string s := hdep 4 (by decide) (by kernel_rfl)
               have e0' := gd_ e0
               have e1 : a'.tmps.getD 113 undef = .agg #[.int .i64 5, .int .i64 4, .string tn] := hdep 5 (by decide) (by kernel_rfl)
               have e1' := gd_ e1
               clear hF' hT'
               clear hsz'
               unfold Oper.wp
               go_simp
               exact hK _ _ rfl (hR.grow 6 114 _ (show (6 : Nat) ≠ 7 ∧ (6 : Nat) ≠ 8 ∧ (6 : Nat) ≠ 10 from by decide) (show (114 : Nat) ≠ 115 ∧ (114 : Nat) ≠ 116 from by decide) (Below.refl _ _)) (fun _ _ h => h)
              | 7, _ =>
               cases ho
               have e0 : a'.tmps.getD 114 undef = .agg #[.string s, .int .i64 5, .int .i64 4, .string tn] := hdep 6 (by decide) (by kernel_rfl)
               have e0' := gd_ e0
               have hG := hide (hR.alloc hL (by rw [hsz']; exact Nat.le_of_ble_eq_true (by kernel_rfl)) (show (8 : Nat) ≠ 7 from by decide) (show (10 : Nat) ≠ 7 from by decide))
               clear hsz' hF' hT'
               unfold Oper.wp
               go_simp
               exact hK _ _ trivial (unhide hG) sfSp_up
              | 8, _ =>
               cases ho
               have hLR : L 1 = true := hw 1 (by kernel_rfl)
               have hLN : L 7 = true := hw 7 (by kernel_rfl)
               have e0 : a'.tmps.getD 109 undef = fv := hdep 1 (by decide) (by kernel_rfl)
               obtain ⟨blk, e1, hblk⟩ := hR.new hLN hL
               have hcell : ∀ jj u, ([.string s, .int .i64 5, .int .i64 4, .string tn] : List Value)[jj]? = some u → w'.cell? ((⟨blk, 0, none⟩ : Addr).add jj) = some u := by
                intro jj u hu
                rw [Addr.add_lit, Nat.zero_add, Lib.cell_of_heap hblk]
                simpa using hu
               obtain ⟨v', w'', hr, hown', hgr, _, _⟩ := run_append_own_at (P := Try.prog) w' (wc.heap.size) 78 78 109 iF _ 4 48 Try.underlying78 hiF hzF0 hzF1 hzF2 rfl (by decide) fv j XX (hR.row hL) ⟨blk, 0, none⟩ 1 1 [.string s, .int .i64 5, .int .i64 4, .string tn] rfl hcell (by intro u hu; simp at hu; rcases hu with rfl | rfl | rfl | rfl <;> rfl) (by unfold maxLen; omega) (by omega) (by have := hR.size; simp only at this; omega)
               have hs : a'.eval (.tmp 109) = fv := e0
               have hx : a'.eval (.tmp 115) = .slice (some ⟨blk, 0, none⟩) 1 1 := e1
               unfold Oper.wp execOp
               simp only [resolve, invoke, builtin, Sem.run_bind, Sem.run_pure, Result.andThen_ok, List.map_toArray, List.map_cons, List.map_nil, hs, hx, hr]
               exact hK _ _ trivial (hR.appd hL hLR hLN (by rw [hsz']; exact Nat.le_of_ble_eq_true (by kernel_rfl)) (show (10 : Nat) ≠ 8 from by decide) (by show wc.heap.size ≤ wt.heap.size; omega) (by show w3.heap.size < wc.heap.size; omega) (by show w.heap.size ≤ wc.heap.size; omega) hown' hgr) sfSp_up
              | 9, _ =>
               cases ho
               have e0 : a'.tmps.getD 7 undef = .pointer (some ⟨w3.heap.size, 0, none⟩) := hslot 7 (by decide)
               clear hsz'
               unfold Oper.wp
               go_simp
               exact hK _ _ rfl (hR.grow 9 117 _ (show (9 : Nat) ≠ 7 ∧ (9 : Nat) ≠ 8 ∧ (9 : Nat) ≠ 10 from by decide) (show (117 : Nat) ≠ 115 ∧ (117 : Nat) ≠ 116 from by decide) (Below.refl _ _)) (fun _ _ h => h)
              | i + 10, h => exact absurd h (by omega)
             ·intro i' q hi' ho L a' w' hL hw hR hdep K hK
              have : i' = 10 := by
               have h := (List.getElem?_eq_some_iff.1 ho).1
               simp only [List.length_cons, List.length_nil] at h
               omega
              subst this
              cases ho
              have hA : L 8 = true := hw 8 (by kernel_rfl)
              obtain ⟨ao7, n7, c7, e1, hST⟩ := hR.stor hL hA (show (7 : Nat) ≠ 10 from by decide) (show (8 : Nat) ≠ 10 from by decide) (by show w.heap.size ≤ w3.heap.size; omega) (by show w3.heap.size < wc.heap.size; omega) 2 (fun _ => rfl)
              have hST := hide hST
              have e2 : a'.tmps.getD 117 undef = .pointer (some ⟨w3.heap.size, 2, none⟩) := hdep 9 (by decide) (by kernel_rfl)
              have e1 : a'.tmps.getD 116 undef = .slice ao7 n7 c7 := e1
              have hkb := hR.kb hL
              have x6 : w'.cell? ⟨w3.heap.size, 2, none⟩ = some fv := lc_ hkb rfl
              have f6 : w'.frozen? ⟨w3.heap.size, 2, none⟩ = false := Lib.frozen_of_heap hkb 2
              clear hkb hAR0
              unfold Oper.wp
              go_simp
              exact hK _ (unhide hST) sfSp_up undef
             ·intro v L w5 hall hR hsp
              obtain ⟨ao7, n7, c7, _, hown7, hk7⟩ := hR.app (hall 8 (by decide))
              have hk7 := hk7 (hall 10 (by decide))
              have b7 : Below w.heap.size w w5 := hR.below
              have HV := hide (And.intro b7 (And.intro hR.size (And.intro hR.keep (And.intro hk7 hown7))))
              clear hk7 hown7 hAR0
              have e0 : v 0 = _ := hsp 0 (by decide)
              have e1 : v 1 = _ := hsp 1 (by decide)
              have e2 : v 2 = _ := hsp 2 (by decide)
              have e3 : v 3 = _ := hsp 3 (by decide)
              have e4 : v 4 = _ := hsp 4 (by decide)
              have e5 : v 5 = _ := hsp 5 (by decide)
              have e6 : v 6 = _ := hsp 6 (by decide)
              have e9 : v 9 = _ := hsp 9 (by decide)
              clear hR hall hsp
              simp only [putAll, dstOf, List.getElem?_cons_zero, List.getElem?_cons_succ, Option.bind_some, e0, e1, e2, e3, e4, e5, e6, e9]
              clear e0 e1 e2 e3 e4 e5 e6 e9
              simp only [Act.put, List.setIfInBounds_toArray, List.set_cons_succ, List.set_cons_zero]
              generalize v 7 = v7
              generalize v 8 = v8
              go_wp2
              go_roundw
              case rel =>
               refine ⟨j + 1, .slice ao7 n7 c7, by go_num, by omega, by omega, ?_⟩
               obtain ⟨q1, q2, q3, q4, q5⟩ := unhide HV
               exact St2.next (unhide ST) q1 q2 q3 q4 (by rw [unhide HXs]; exact q5)
              case measure =>
               simp only [intOf]
               omega
           ·have hv4b : (1 + om == 4) = false := by rw [beq_eq_false_iff_ne]; omega
            have hv4c : ¬ 1 + om = 4 := by omega
            have HXs := hide ((unhide HXs).trans (show _ = (((k.fs.take j).map fieldS).map F4.cells).flatten ++ [.string (nmS fl.nm), .int .i64 5, .int .i64 (1 + om), .string ⟨#[]⟩] by simp [hv4c]))
            clear CT
            have BT : Below wr.heap.size wr ((wr.alloc (.cells #[.int .i64 fl.nm, .int .i64 fl.k, .int .i64 fl.o, .int .i64 fl.to] 107)).alloc (.cells #[.int .i64 5, .int .i64 (1 + om), .string ⟨#[]⟩] 54)) := blw2 _ _ _
            have HFt : ((wr.alloc (.cells #[.int .i64 fl.nm, .int .i64 fl.k, .int .i64 fl.o, .int .i64 fl.to] 107)).alloc (.cells #[.int .i64 5, .int .i64 (1 + om), .string ⟨#[]⟩] 54)).heap[wr.heap.size]? = some (.cells #[.int .i64 fl.nm, .int .i64 fl.k, .int .i64 fl.o, .int .i64 fl.to] 107 (0, 0)) := by
             rw [Below.heap_alloc _ _ _ (by simp)]
             exact alloc_heap _ _
            have HTt : ((wr.alloc (.cells #[.int .i64 fl.nm, .int .i64 fl.k, .int .i64 fl.o, .int .i64 fl.to] 107)).alloc (.cells #[.int .i64 5, .int .i64 (1 + om), .string ⟨#[]⟩] 54)).heap[wr.heap.size + 1]? = some (.cells #[.int .i64 5, .int .i64 (1 + om), .string ⟨#[]⟩] 54 (0, 0)) := by
             have := alloc_heap (wr.alloc (.cells #[.int .i64 fl.nm, .int .i64 fl.k, .int .i64 fl.o, .int .i64 fl.to] 107)) (.cells #[.int .i64 5, .int .i64 (1 + om), .string ⟨#[]⟩] 54)
             simpa using this
            have zT : ((wr.alloc (.cells #[.int .i64 fl.nm, .int .i64 fl.k, .int .i64 fl.o, .int .i64 fl.to] 107)).alloc (.cells #[.int .i64 5, .int .i64 (1 + om), .string ⟨#[]⟩] 54)).heap.size = wr.heap.size + 2 := by simp
            go_upto_region 19 with fail
            generalize (wr.alloc _).alloc _ = wt at *
            as_aux_lemma =>
             have ST := hide ((unhide HST3).up BT)
             have hown4 := (unhide HST3).own.lt
             have bwt : Below w.heap.size w wt := hbj.trans (BT.mono hbj.size)
             have zwt := BT.size
             have hAR0 : ∀ (XX : List Value) (s : ByteArray) (a : Act), XX = (((k.fs.take j).map fieldS).map F4.cells).flatten → AR (⟨w, wt, wc.heap.size, w3.heap.size, 109, 4, fun v => #[.string nm, .slice pvo pvn pvc, v], 80, fv, j, XX, [.string s, .int .i64 5, .int .i64 (1 + om), .string ⟨#[]⟩], 1, 7, 8, 10, 115, 116⟩ : ARp) (fun _ => false) a wt.drew := fun XX s a e => AR.start a (unhide ST).below (unhide ST).k (by rw [e]; exact (unhide ST).own)
             have hzK : w3.heap.size < wc.heap.size := by omega
             obtain ⟨XX, hXX⟩ : ∃ XX, XX = (((k.fs.take j).map fieldS).map F4.cells).flatten := ⟨_, rfl⟩
             obtain ⟨s, hsn⟩ : ∃ s, s = nmS fl.nm := ⟨_, rfl⟩
             have CN := fun w' => nameS_any fl.nm w'
             rw [← hsn] at CN HXs
             rw [← hXX] at HXs
             have hAR0 := fun a => hAR0 XX s a hXX
             clear hXX hsn
             refine wp_specsB 10 (sfSp w3.heap.size wr.heap.size fv fl.nm s 5 (1 + om) ⟨#[]⟩) (AR (⟨w, wt, wc.heap.size, w3.heap.size, 109, 4, fun v => #[.string nm, .slice pvo pvn pvc, v], 80, fv, j, XX, [.string s, .int .i64 5, .int .i64 (1 + om), .string ⟨#[]⟩], 1, 7, 8, 10, 115, 116⟩ : ARp)) (by kernel_rfl) (by kernel_rfl) (by kernel_rfl) (hAR0 _) ?_ ?_ ?_
             ·intro i' q hi' ho L a' w' hL hw hR hdep hslot hsz' K hK
              have hF' := (hR.keep wr.heap.size (by show wr.heap.size < wt.heap.size; omega) (by show wr.heap.size ≠ w3.heap.size; omega) (fun e => by have := (hown4 wr.heap.size e).2; omega)).trans HFt
              have hT' := (hR.keep (wr.heap.size + 1) (by show wr.heap.size + 1 < wt.heap.size; omega) (by show wr.heap.size + 1 ≠ w3.heap.size; omega) (fun e => by have := (hown4 (wr.heap.size + 1) e).2; omega)).trans HTt
              clear hAR0
              match i', hi' with
              | 0, _ =>
               cases ho
               have e0 : a'.tmps.getD 7 undef = .pointer (some ⟨w3.heap.size, 0, none⟩) := hslot 7 (by decide)
               clear hsz'
               unfold Oper.wp
               go_simp
               exact hK _ _ rfl (hR.grow 0 108 _ (show (0 : Nat) ≠ 7 ∧ (0 : Nat) ≠ 8 ∧ (0 : Nat) ≠ 10 from by decide) (show (108 : Nat) ≠ 115 ∧ (108 : Nat) ≠ 116 from by decide) (Below.refl _ _)) (fun _ _ h => h)
              | 1, _ =>
               cases ho
               have e0 : a'.tmps.getD 108 undef = .pointer (some ⟨w3.heap.size, 2, none⟩) := hdep 0 (by decide) (by kernel_rfl)
               have hK6 := hR.kb (hR.noS (hR.noA (.inl hL)))
               have cK : w'.cell? ⟨w3.heap.size, 2, none⟩ = some fv := lc_ hK6 rfl
               clear hK6 hF' hT'
               clear hsz'
               unfold Oper.wp
               go_simp
               exact hK _ _ rfl (hR.grow 1 109 _ (show (1 : Nat) ≠ 7 ∧ (1 : Nat) ≠ 8 ∧ (1 : Nat) ≠ 10 from by decide) (show (109 : Nat) ≠ 115 ∧ (109 : Nat) ≠ 116 from by decide) (Below.refl _ _)) (fun _ _ h => h)
              | 2, _ =>
               cases ho
               have e0 : a'.tmps.getD 10 undef = .pointer (some ⟨wr.heap.size, 0, none⟩) := hslot 10 (by decide)
               clear hsz'
               unfold Oper.wp
               go_simp
               exact hK _ _ rfl (hR.grow 2 110 _ (show (2 : Nat) ≠ 7 ∧ (2 : Nat) ≠ 8 ∧ (2 : Nat) ≠ 10 from by decide) (show (110 : Nat) ≠ 115 ∧ (110 : Nat) ≠ 116 from by decide) (Below.refl _ _)) (fun _ _ h => h)
              | 3, _ =>
               cases ho
               have e0 : a'.tmps.getD 110 undef = .pointer (some ⟨wr.heap.size, 0, none⟩) := hdep 2 (by decide) (by kernel_rfl)
               have cF : w'.cell? ⟨wr.heap.size, 0, none⟩ = some (.int .i64 fl.nm) := lc_ hF' rfl
               clear hF' hT'
               clear hsz'
               unfold Oper.wp
               go_simp
               exact hK _ _ rfl (hR.grow 3 111 _ (show (3 : Nat) ≠ 7 ∧ (3 : Nat) ≠ 8 ∧ (3 : Nat) ≠ 10 from by decide) (show (111 : Nat) ≠ 115 ∧ (111 : Nat) ≠ 116 from by decide) (Below.refl _ _)) (fun _ _ h => h)
              | 4, _ =>
               cases ho
               have e0 : a'.tmps.getD 111 undef = .int .i64 fl.nm := hdep 3 (by decide) (by kernel_rfl)
               have C := CN w'
               clear hsz' CN hF' hT'
               unfold Oper.wp
               go_simp
               refine C.mono ?_
               rintro e w8 ⟨rfl, b8⟩
               exact hK _ _ rfl (hR.grow 4 112 _ (show (4 : Nat) ≠ 7 ∧ (4 : Nat) ≠ 8 ∧ (4 : Nat) ≠ 10 from by decide) (show (112 : Nat) ≠ 115 ∧ (112 : Nat) ≠ 116 from by decide) b8) sfSp_up
              | 5, _ =>
               cases ho
               have e0 : a'.tmps.getD 11 undef = .pointer (some ⟨wr.heap.size + 1, 0, none⟩) := hslot 11 (by decide)
               obtain ⟨t0, t1, t2⟩ := bl3_ hT'
               clear hF' hT'
               clear hsz'
               unfold Oper.wp
               go_simp
               exact hK _ _ rfl (hR.grow 5 113 _ (show (5 : Nat) ≠ 7 ∧ (5 : Nat) ≠ 8 ∧ (5 : Nat) ≠ 10 from by decide) (show (113 : Nat) ≠ 115 ∧ (113 : Nat) ≠ 116 from by decide) (Below.refl _ _)) (fun _ _ h => h)
              | 6, _ =>
               cases ho
               have e0 : a'.tmps.getD 112 undef = .string s := hdep 4 (by decide) (by kernel_rfl)
               have e0' := gd_ e0
               have e1 : a'.tmps.getD 113 undef = .agg #[.int .i64 5, .int .i64 (1 + om), .string ⟨#[]⟩] := hdep 5 (by decide) (by kernel_rfl)
               have e1' := gd_ e1
               clear hF' hT'
               clear hsz'
               unfold Oper.wp
               go_simp
               exact hK _ _ rfl (hR.grow 6 114 _ (show (6 : Nat) ≠ 7 ∧ (6 : Nat) ≠ 8 ∧ (6 : Nat) ≠ 10 from by decide) (show (114 : Nat) ≠ 115 ∧ (114 : Nat) ≠ 116 from by decide) (Below.refl _ _)) (fun _ _ h => h)
              | 7, _ =>
               cases ho
               have e0 : a'.tmps.getD 114 undef = .agg #[.string s, .int .i64 5, .int .i64 (1 + om), .string ⟨#[]⟩] := hdep 6 (by decide) (by kernel_rfl)
               have e0' := gd_ e0
               have hG := hide (hR.alloc hL (by rw [hsz']; exact Nat.le_of_ble_eq_true (by kernel_rfl)) (show (8 : Nat) ≠ 7 from by decide) (show (10 : Nat) ≠ 7 from by decide))
               clear hsz' hF' hT'
               unfold Oper.wp
               go_simp
               exact hK _ _ trivial (unhide hG) sfSp_up
              | 8, _ =>
               cases ho
               have hLR : L 1 = true := hw 1 (by kernel_rfl)
               have hLN : L 7 = true := hw 7 (by kernel_rfl)
               have e0 : a'.tmps.getD 109 undef = fv := hdep 1 (by decide) (by kernel_rfl)
               obtain ⟨blk, e1, hblk⟩ := hR.new hLN hL
               have hcell : ∀ jj u, ([.string s, .int .i64 5, .int .i64 (1 + om), .string ⟨#[]⟩] : List Value)[jj]? = some u → w'.cell? ((⟨blk, 0, none⟩ : Addr).add jj) = some u := by
                intro jj u hu
                rw [Addr.add_lit, Nat.zero_add, Lib.cell_of_heap hblk]
                simpa using hu
               obtain ⟨v', w'', hr, hown', hgr, _, _⟩ := run_append_own_at (P := Try.prog) w' (wc.heap.size) 78 78 109 iF _ 4 48 Try.underlying78 hiF hzF0 hzF1 hzF2 rfl (by decide) fv j XX (hR.row hL) ⟨blk, 0, none⟩ 1 1 [.string s, .int .i64 5, .int .i64 (1 + om), .string ⟨#[]⟩] rfl hcell (by intro u hu; simp at hu; rcases hu with rfl | rfl | rfl | rfl <;> rfl) (by unfold maxLen; omega) (by omega) (by have := hR.size; simp only at this; omega)
               have hs : a'.eval (.tmp 109) = fv := e0
               have hx : a'.eval (.tmp 115) = .slice (some ⟨blk, 0, none⟩) 1 1 := e1
               unfold Oper.wp execOp
               simp only [resolve, invoke, builtin, Sem.run_bind, Sem.run_pure, Result.andThen_ok, List.map_toArray, List.map_cons, List.map_nil, hs, hx, hr]
               exact hK _ _ trivial (hR.appd hL hLR hLN (by rw [hsz']; exact Nat.le_of_ble_eq_true (by kernel_rfl)) (show (10 : Nat) ≠ 8 from by decide) (by show wc.heap.size ≤ wt.heap.size; omega) (by show w3.heap.size < wc.heap.size; omega) (by show w.heap.size ≤ wc.heap.size; omega) hown' hgr) sfSp_up
              | 9, _ =>
               cases ho
               have e0 : a'.tmps.getD 7 undef = .pointer (some ⟨w3.heap.size, 0, none⟩) := hslot 7 (by decide)
               clear hsz'
               unfold Oper.wp
               go_simp
               exact hK _ _ rfl (hR.grow 9 117 _ (show (9 : Nat) ≠ 7 ∧ (9 : Nat) ≠ 8 ∧ (9 : Nat) ≠ 10 from by decide) (show (117 : Nat) ≠ 115 ∧ (117 : Nat) ≠ 116 from by decide) (Below.refl _ _)) (fun _ _ h => h)
              | i + 10, h => exact absurd h (by omega)
             ·intro i' q hi' ho L a' w' hL hw hR hdep K hK
              have : i' = 10 := by
               have h := (List.getElem?_eq_some_iff.1 ho).1
               simp only [List.length_cons, List.length_nil] at h
               omega
              subst this
              cases ho
              have hA : L 8 = true := hw 8 (by kernel_rfl)
              obtain ⟨ao7, n7, c7, e1, hST⟩ := hR.stor hL hA (show (7 : Nat) ≠ 10 from by decide) (show (8 : Nat) ≠ 10 from by decide) (by show w.heap.size ≤ w3.heap.size; omega) (by show w3.heap.size < wc.heap.size; omega) 2 (fun _ => rfl)
              have hST := hide hST
              have e2 : a'.tmps.getD 117 undef = .pointer (some ⟨w3.heap.size, 2, none⟩) := hdep 9 (by decide) (by kernel_rfl)
              have e1 : a'.tmps.getD 116 undef = .slice ao7 n7 c7 := e1
              have hkb := hR.kb hL
              have x6 : w'.cell? ⟨w3.heap.size, 2, none⟩ = some fv := lc_ hkb rfl
              have f6 : w'.frozen? ⟨w3.heap.size, 2, none⟩ = false := Lib.frozen_of_heap hkb 2
              clear hkb hAR0
              unfold Oper.wp
              go_simp
              exact hK _ (unhide hST) sfSp_up undef
             ·intro v L w5 hall hR hsp
              obtain ⟨ao7, n7, c7, _, hown7, hk7⟩ := hR.app (hall 8 (by decide))
              have hk7 := hk7 (hall 10 (by decide))
              have b7 : Below w.heap.size w w5 := hR.below
              have HV := hide (And.intro b7 (And.intro hR.size (And.intro hR.keep (And.intro hk7 hown7))))
              clear hk7 hown7 hAR0
              have e0 : v 0 = _ := hsp 0 (by decide)
              have e1 : v 1 = _ := hsp 1 (by decide)
              have e2 : v 2 = _ := hsp 2 (by decide)
              have e3 : v 3 = _ := hsp 3 (by decide)
              have e4 : v 4 = _ := hsp 4 (by decide)
              have e5 : v 5 = _ := hsp 5 (by decide)
              have e6 : v 6 = _ := hsp 6 (by decide)
              have e9 : v 9 = _ := hsp 9 (by decide)
              clear hR hall hsp
              simp only [putAll, dstOf, List.getElem?_cons_zero, List.getElem?_cons_succ, Option.bind_some, e0, e1, e2, e3, e4, e5, e6, e9]
              clear e0 e1 e2 e3 e4 e5 e6 e9
              simp only [Act.put, List.setIfInBounds_toArray, List.set_cons_succ, List.set_cons_zero]
              generalize v 7 = v7
              generalize v 8 = v8
              go_wp2
              go_roundw
              case rel =>
               refine ⟨j + 1, .slice ao7 n7 c7, by go_num, by omega, by omega, ?_⟩
               obtain ⟨q1, q2, q3, q4, q5⟩ := unhide HV
               exact St2.next (unhide ST) q1 q2 q3 q4 (by rw [unhide HXs]; exact q5)
              case measure =>
               simp only [intOf]
               omega
          by_cases hv4 : km = 3
          ·subst hv4
           have HXs := hide (unhide HXs : _ = (((k.fs.take j).map fieldS).map F4.cells).flatten ++ [.string (nmS fl.nm), .int .i64 4, .int .i64 0, .string (knS fl.to)])
           clear hv5 W2
           go_wp2_with fail
           refine (W1 _).mono ?_
           rintro e wv ⟨rfl, hwv⟩
           subst hwv
           clear W1
           have BT : Below wr.heap.size wr ((wr.alloc (.cells #[.int .i64 fl.nm, .int .i64 fl.k, .int .i64 fl.o, .int .i64 fl.to] 107)).alloc (.cells #[.int .i64 4, .int .i64 0, .string ⟨#[]⟩] 54)) := blw2 _ _ _
           have HFt : ((wr.alloc (.cells #[.int .i64 fl.nm, .int .i64 fl.k, .int .i64 fl.o, .int .i64 fl.to] 107)).alloc (.cells #[.int .i64 4, .int .i64 0, .string ⟨#[]⟩] 54)).heap[wr.heap.size]? = some (.cells #[.int .i64 fl.nm, .int .i64 fl.k, .int .i64 fl.o, .int .i64 fl.to] 107 (0, 0)) := by
            rw [Below.heap_alloc _ _ _ (by simp)]
            exact alloc_heap _ _
           have HTt : ((wr.alloc (.cells #[.int .i64 fl.nm, .int .i64 fl.k, .int .i64 fl.o, .int .i64 fl.to] 107)).alloc (.cells #[.int .i64 4, .int .i64 0, .string ⟨#[]⟩] 54)).heap[wr.heap.size + 1]? = some (.cells #[.int .i64 4, .int .i64 0, .string ⟨#[]⟩] 54 (0, 0)) := by
            have := alloc_heap (wr.alloc (.cells #[.int .i64 fl.nm, .int .i64 fl.k, .int .i64 fl.o, .int .i64 fl.to] 107)) (.cells #[.int .i64 4, .int .i64 0, .string ⟨#[]⟩] 54)
            simpa using this
           have zT : ((wr.alloc (.cells #[.int .i64 fl.nm, .int .i64 fl.k, .int .i64 fl.o, .int .i64 fl.to] 107)).alloc (.cells #[.int .i64 4, .int .i64 0, .string ⟨#[]⟩] 54)).heap.size = wr.heap.size + 2 := by simp
           go_wp2_with fail
           generalize (wr.alloc _).alloc _ = wu at *
           refine (CT wu).mono ?_
           clear CT
           rintro e wx ⟨rfl, bx⟩
           have HTx := kept_of_below bx HTt
           have HFx := kept_of_below bx HFt
           have zx := bx.size
           have tx : wx.cell? ⟨wr.heap.size + 1, 2, none⟩ = some (.string ⟨#[]⟩) := lc_ HTx rfl
           have fx : wx.frozen? ⟨wr.heap.size + 1, 2, none⟩ = false := Lib.frozen_of_heap HTx 2
           generalize knS fl.to = tn at *
           have HTy := heap_setCell_same wx (wr.heap.size + 1) 2 _ _ (.string tn) HTx
           have HFy := (Below.heap_setCell wx ⟨wr.heap.size + 1, 2, none⟩ (.string tn) wr.heap.size (by show wr.heap.size ≠ wr.heap.size + 1; omega)).trans HFx
           have BY : Below wr.heap.size wr (wx.setCell ⟨wr.heap.size + 1, 2, none⟩ (.string tn)) := (BT.trans (bx.mono BT.size)).setCell (p := ⟨wr.heap.size + 1, 2, none⟩) (by show wr.heap.size ≤ wr.heap.size + 1; omega) _
           have zy : (wx.setCell ⟨wr.heap.size + 1, 2, none⟩ (.string tn)).heap.size = wx.heap.size := by simp
           have HH := hide (And.intro HTy (And.intro HFy BY))
           clear HTt HFt BT HTx HFx HTy HFy BY
           go_upto_region 19 with fail
           generalize wx.setCell _ _ = wt at *
           obtain ⟨HTt, HFt, BT⟩ := unhide HH
           have HTt : wt.heap[wr.heap.size + 1]? = some (.cells #[.int .i64 4, .int .i64 0, .string tn] 54 (0, 0)) := HTt
           clear HH
           as_aux_lemma =>
            have ST := hide ((unhide HST3).up BT)
            have hown4 := (unhide HST3).own.lt
            have bwt : Below w.heap.size w wt := hbj.trans (BT.mono hbj.size)
            have zwt := BT.size
            have hAR0 : ∀ (XX : List Value) (s : ByteArray) (a : Act), XX = (((k.fs.take j).map fieldS).map F4.cells).flatten → AR (⟨w, wt, wc.heap.size, w3.heap.size, 109, 4, fun v => #[.string nm, .slice pvo pvn pvc, v], 80, fv, j, XX, [.string s, .int .i64 4, .int .i64 0, .string tn], 1, 7, 8, 10, 115, 116⟩ : ARp) (fun _ => false) a wt.drew := fun XX s a e => AR.start a (unhide ST).below (unhide ST).k (by rw [e]; exact (unhide ST).own)
            have hzK : w3.heap.size < wc.heap.size := by omega
            obtain ⟨XX, hXX⟩ : ∃ XX, XX = (((k.fs.take j).map fieldS).map F4.cells).flatten := ⟨_, rfl⟩
            obtain ⟨s, hsn⟩ : ∃ s, s = nmS fl.nm := ⟨_, rfl⟩
            have CN := fun w' => nameS_any fl.nm w'
            rw [← hsn] at CN HXs
            rw [← hXX] at HXs
            have hAR0 := fun a => hAR0 XX s a hXX
            clear hXX hsn
            refine wp_specsB 10 (sfSp w3.heap.size wr.heap.size fv fl.nm s 4 0 tn) (AR (⟨w, wt, wc.heap.size, w3.heap.size, 109, 4, fun v => #[.string nm, .slice pvo pvn pvc, v], 80, fv, j, XX, [.string s, .int .i64 4, .int .i64 0, .string tn], 1, 7, 8, 10, 115, 116⟩ : ARp)) (by kernel_rfl) (by kernel_rfl) (by kernel_rfl) (hAR0 _) ?_ ?_ ?_
            ·intro i' q hi' ho L a' w' hL hw hR hdep hslot hsz' K hK
             have hF' := (hR.keep wr.heap.size (by show wr.heap.size < wt.heap.size; omega) (by show wr.heap.size ≠ w3.heap.size; omega) (fun e => by have := (hown4 wr.heap.size e).2; omega)).trans HFt
             have hT' := (hR.keep (wr.heap.size + 1) (by show wr.heap.size + 1 < wt.heap.size; omega) (by show wr.heap.size + 1 ≠ w3.heap.size; omega) (fun e => by have := (hown4 (wr.heap.size + 1) e).2; omega)).trans HTt
             clear hAR0
             match i', hi' with
             | 0, _ =>
              cases ho
              have e0 : a'.tmps.getD 7 undef = .pointer (some ⟨w3.heap.size, 0, none⟩) := hslot 7 (by decide)
              clear hsz'
              unfold Oper.wp
              go_simp
              exact hK _ _ rfl (hR.grow 0 108 _ (show (0 : Nat) ≠ 7 ∧ (0 : Nat) ≠ 8 ∧ (0 : Nat) ≠ 10 from by decide) (show (108 : Nat) ≠ 115 ∧ (108 : Nat) ≠ 116 from by decide) (Below.refl _ _)) (fun _ _ h => h)
             | 1, _ =>
              cases ho
              have e0 : a'.tmps.getD 108 undef = .pointer (some ⟨w3.heap.size, 2, none⟩) := hdep 0 (by decide) (by kernel_rfl)
              have hK6 := hR.kb (hR.noS (hR.noA (.inl hL)))
              have cK : w'.cell? ⟨w3.heap.size, 2, none⟩ = some fv := lc_ hK6 rfl
              clear hK6 hF' hT'
              clear hsz'
              unfold Oper.wp
              go_simp
              exact hK _ _ rfl (hR.grow 1 109 _ (show (1 : Nat) ≠ 7 ∧ (1 : Nat) ≠ 8 ∧ (1 : Nat) ≠ 10 from by decide) (show (109 : Nat) ≠ 115 ∧ (109 : Nat) ≠ 116 from by decide) (Below.refl _ _)) (fun _ _ h => h)
             | 2, _ =>
              cases ho
              have e0 : a'.tmps.getD 10 undef = .pointer (some ⟨wr.heap.size, 0, none⟩) := hslot 10 (by decide)
              clear hsz'
              unfold Oper.wp
              go_simp
              exact hK _ _ rfl (hR.grow 2 110 _ (show (2 : Nat) ≠ 7 ∧ (2 : Nat) ≠ 8 ∧ (2 : Nat) ≠ 10 from by decide) (show (110 : Nat) ≠ 115 ∧ (110 : Nat) ≠ 116 from by decide) (Below.refl _ _)) (fun _ _ h => h)
             | 3, _ =>
              cases ho
              have e0 : a'.tmps.getD 110 undef = .pointer (some ⟨wr.heap.size, 0, none⟩) := hdep 2 (by decide) (by kernel_rfl)
              have cF : w'.cell? ⟨wr.heap.size, 0, none⟩ = some (.int .i64 fl.nm) := lc_ hF' rfl
              clear hF' hT'
              clear hsz'
              unfold Oper.wp
              go_simp
              exact hK _ _ rfl (hR.grow 3 111 _ (show (3 : Nat) ≠ 7 ∧ (3 : Nat) ≠ 8 ∧ (3 : Nat) ≠ 10 from by decide) (show (111 : Nat) ≠ 115 ∧ (111 : Nat) ≠ 116 from by decide) (Below.refl _ _)) (fun _ _ h => h)
             | 4, _ =>
              cases ho
              have e0 : a'.tmps.getD 111 undef = .int .i64 fl.nm := hdep 3 (by decide) (by kernel_rfl)
              have C := CN w'
              clear hsz' CN hF' hT'
              unfold Oper.wp
              go_simp
              refine C.mono ?_
              rintro e w8 ⟨rfl, b8⟩
              exact hK _ _ rfl (hR.grow 4 112 _ (show (4 : Nat) ≠ 7 ∧ (4 : Nat) ≠ 8 ∧ (4 : Nat) ≠ 10 from by decide) (show (112 : Nat) ≠ 115 ∧ (112 : Nat) ≠ 116 from by decide) b8) sfSp_up
             | 5, _ =>
              cases ho
              have e0 : a'.tmps.getD 11 undef = .pointer (some ⟨wr.heap.size + 1, 0, none⟩) := hslot 11 (by decide)
              obtain ⟨t0, t1, t2⟩ := bl3_ hT'
              clear hF' hT'
              clear hsz'
              unfold Oper.wp
              go_simp
              exact hK _ _ rfl (hR.grow 5 113 _ (show (5 : Nat) ≠ 7 ∧ (5 : Nat) ≠ 8 ∧ (5 : Nat) ≠ 10 from by decide) (show (113 : Nat) ≠ 115 ∧ (113 : Nat) ≠ 116 from by decide) (Below.refl _ _)) (fun _ _ h => h)
             | 6, _ =>
              cases ho
              have e0 : a'.tmps.getD 112 undef = .string s := hdep 4 (by decide) (by kernel_rfl)
              have e0' := gd_ e0
              have e1 : a'.tmps.getD 113 undef = .agg #[.int .i64 4, .int .i64 0, .string tn] := hdep 5 (by decide) (by kernel_rfl)
              have e1' := gd_ e1
              clear hF' hT'
              clear hsz'
              unfold Oper.wp
              go_simp
              exact hK _ _ rfl (hR.grow 6 114 _ (show (6 : Nat) ≠ 7 ∧ (6 : Nat) ≠ 8 ∧ (6 : Nat) ≠ 10 from by decide) (show (114 : Nat) ≠ 115 ∧ (114 : Nat) ≠ 116 from by decide) (Below.refl _ _)) (fun _ _ h => h)
             | 7, _ =>
              cases ho
              have e0 : a'.tmps.getD 114 undef = .agg #[.string s, .int .i64 4, .int .i64 0, .string tn] := hdep 6 (by decide) (by kernel_rfl)
              have e0' := gd_ e0
              have hG := hide (hR.alloc hL (by rw [hsz']; exact Nat.le_of_ble_eq_true (by kernel_rfl)) (show (8 : Nat) ≠ 7 from by decide) (show (10 : Nat) ≠ 7 from by decide))
              clear hsz' hF' hT'
              unfold Oper.wp
              go_simp
              exact hK _ _ trivial (unhide hG) sfSp_up
             | 8, _ =>
              cases ho
              have hLR : L 1 = true := hw 1 (by kernel_rfl)
              have hLN : L 7 = true := hw 7 (by kernel_rfl)
              have e0 : a'.tmps.getD 109 undef = fv := hdep 1 (by decide) (by kernel_rfl)
              obtain ⟨blk, e1, hblk⟩ := hR.new hLN hL
              have hcell : ∀ jj u, ([.string s, .int .i64 4, .int .i64 0, .string tn] : List Value)[jj]? = some u → w'.cell? ((⟨blk, 0, none⟩ : Addr).add jj) = some u := by
               intro jj u hu
               rw [Addr.add_lit, Nat.zero_add, Lib.cell_of_heap hblk]
               simpa using hu
              obtain ⟨v', w'', hr, hown', hgr, _, _⟩ := run_append_own_at (P := Try.prog) w' (wc.heap.size) 78 78 109 iF _ 4 48 Try.underlying78 hiF hzF0 hzF1 hzF2 rfl (by decide) fv j XX (hR.row hL) ⟨blk, 0, none⟩ 1 1 [.string s, .int .i64 4, .int .i64 0, .string tn] rfl hcell (by intro u hu; simp at hu; rcases hu with rfl | rfl | rfl | rfl <;> rfl) (by unfold maxLen; omega) (by omega) (by have := hR.size; simp only at this; omega)
              have hs : a'.eval (.tmp 109) = fv := e0
              have hx : a'.eval (.tmp 115) = .slice (some ⟨blk, 0, none⟩) 1 1 := e1
              unfold Oper.wp execOp
              simp only [resolve, invoke, builtin, Sem.run_bind, Sem.run_pure, Result.andThen_ok, List.map_toArray, List.map_cons, List.map_nil, hs, hx, hr]
              exact hK _ _ trivial (hR.appd hL hLR hLN (by rw [hsz']; exact Nat.le_of_ble_eq_true (by kernel_rfl)) (show (10 : Nat) ≠ 8 from by decide) (by show wc.heap.size ≤ wt.heap.size; omega) (by show w3.heap.size < wc.heap.size; omega) (by show w.heap.size ≤ wc.heap.size; omega) hown' hgr) sfSp_up
             | 9, _ =>
              cases ho
              have e0 : a'.tmps.getD 7 undef = .pointer (some ⟨w3.heap.size, 0, none⟩) := hslot 7 (by decide)
              clear hsz'
              unfold Oper.wp
              go_simp
              exact hK _ _ rfl (hR.grow 9 117 _ (show (9 : Nat) ≠ 7 ∧ (9 : Nat) ≠ 8 ∧ (9 : Nat) ≠ 10 from by decide) (show (117 : Nat) ≠ 115 ∧ (117 : Nat) ≠ 116 from by decide) (Below.refl _ _)) (fun _ _ h => h)
             | i + 10, h => exact absurd h (by omega)
            ·intro i' q hi' ho L a' w' hL hw hR hdep K hK
             have : i' = 10 := by
              have h := (List.getElem?_eq_some_iff.1 ho).1
              simp only [List.length_cons, List.length_nil] at h
              omega
             subst this
             cases ho
             have hA : L 8 = true := hw 8 (by kernel_rfl)
             obtain ⟨ao7, n7, c7, e1, hST⟩ := hR.stor hL hA (show (7 : Nat) ≠ 10 from by decide) (show (8 : Nat) ≠ 10 from by decide) (by show w.heap.size ≤ w3.heap.size; omega) (by show w3.heap.size < wc.heap.size; omega) 2 (fun _ => rfl)
             have hST := hide hST
             have e2 : a'.tmps.getD 117 undef = .pointer (some ⟨w3.heap.size, 2, none⟩) := hdep 9 (by decide) (by kernel_rfl)
             have e1 : a'.tmps.getD 116 undef = .slice ao7 n7 c7 := e1
             have hkb := hR.kb hL
             have x6 : w'.cell? ⟨w3.heap.size, 2, none⟩ = some fv := lc_ hkb rfl
             have f6 : w'.frozen? ⟨w3.heap.size, 2, none⟩ = false := Lib.frozen_of_heap hkb 2
             clear hkb hAR0
             unfold Oper.wp
             go_simp
             exact hK _ (unhide hST) sfSp_up undef
            ·intro v L w5 hall hR hsp
             obtain ⟨ao7, n7, c7, _, hown7, hk7⟩ := hR.app (hall 8 (by decide))
             have hk7 := hk7 (hall 10 (by decide))
             have b7 : Below w.heap.size w w5 := hR.below
             have HV := hide (And.intro b7 (And.intro hR.size (And.intro hR.keep (And.intro hk7 hown7))))
             clear hk7 hown7 hAR0
             have e0 : v 0 = _ := hsp 0 (by decide)
             have e1 : v 1 = _ := hsp 1 (by decide)
             have e2 : v 2 = _ := hsp 2 (by decide)
             have e3 : v 3 = _ := hsp 3 (by decide)
             have e4 : v 4 = _ := hsp 4 (by decide)
             have e5 : v 5 = _ := hsp 5 (by decide)
             have e6 : v 6 = _ := hsp 6 (by decide)
             have e9 : v 9 = _ := hsp 9 (by decide)
             clear hR hall hsp
             simp only [putAll, dstOf, List.getElem?_cons_zero, List.getElem?_cons_succ, Option.bind_some, e0, e1, e2, e3, e4, e5, e6, e9]
             clear e0 e1 e2 e3 e4 e5 e6 e9
             simp only [Act.put, List.setIfInBounds_toArray, List.set_cons_succ, List.set_cons_zero]
             generalize v 7 = v7
             generalize v 8 = v8
             go_wp2
             go_roundw
             case rel =>
              refine ⟨j + 1, .slice ao7 n7 c7, by go_num, by omega, by omega, ?_⟩
              obtain ⟨q1, q2, q3, q4, q5⟩ := unhide HV
              exact St2.next (unhide ST) q1 q2 q3 q4 (by rw [unhide HXs]; exact q5)
             case measure =>
              simp only [intOf]
              omega
          have v5b : (1 + km == 5) = false := by rw [beq_eq_false_iff_ne]; omega
          have v4b : (1 + km == 4) = false := by rw [beq_eq_false_iff_ne]; omega
          have v5c : ¬ 1 + km = 5 := by omega
          have v4c : ¬ 1 + km = 4 := by omega
          have HXs := hide ((unhide HXs).trans (show _ = (((k.fs.take j).map fieldS).map F4.cells).flatten ++ [.string (nmS fl.nm), .int .i64 (1 + km), .int .i64 0, .string ⟨#[]⟩] by simp [v5c, v4c]))
          clear W2 CT
          go_wp2_with fail
          refine (W1 _).mono ?_
          rintro e wv ⟨rfl, hwv⟩
          subst hwv
          clear W1
          have BT : Below wr.heap.size wr ((wr.alloc (.cells #[.int .i64 fl.nm, .int .i64 fl.k, .int .i64 fl.o, .int .i64 fl.to] 107)).alloc (.cells #[.int .i64 (1 + km), .int .i64 0, .string ⟨#[]⟩] 54)) := blw2 _ _ _
          have HFt : ((wr.alloc (.cells #[.int .i64 fl.nm, .int .i64 fl.k, .int .i64 fl.o, .int .i64 fl.to] 107)).alloc (.cells #[.int .i64 (1 + km), .int .i64 0, .string ⟨#[]⟩] 54)).heap[wr.heap.size]? = some (.cells #[.int .i64 fl.nm, .int .i64 fl.k, .int .i64 fl.o, .int .i64 fl.to] 107 (0, 0)) := by
           rw [Below.heap_alloc _ _ _ (by simp)]
           exact alloc_heap _ _
          have HTt : ((wr.alloc (.cells #[.int .i64 fl.nm, .int .i64 fl.k, .int .i64 fl.o, .int .i64 fl.to] 107)).alloc (.cells #[.int .i64 (1 + km), .int .i64 0, .string ⟨#[]⟩] 54)).heap[wr.heap.size + 1]? = some (.cells #[.int .i64 (1 + km), .int .i64 0, .string ⟨#[]⟩] 54 (0, 0)) := by
           have := alloc_heap (wr.alloc (.cells #[.int .i64 fl.nm, .int .i64 fl.k, .int .i64 fl.o, .int .i64 fl.to] 107)) (.cells #[.int .i64 (1 + km), .int .i64 0, .string ⟨#[]⟩] 54)
           simpa using this
          have zT : ((wr.alloc (.cells #[.int .i64 fl.nm, .int .i64 fl.k, .int .i64 fl.o, .int .i64 fl.to] 107)).alloc (.cells #[.int .i64 (1 + km), .int .i64 0, .string ⟨#[]⟩] 54)).heap.size = wr.heap.size + 2 := by simp
          go_upto_region 19 with fail
          generalize (wr.alloc _).alloc _ = wt at *
          as_aux_lemma =>
           have ST := hide ((unhide HST3).up BT)
           have hown4 := (unhide HST3).own.lt
           have bwt : Below w.heap.size w wt := hbj.trans (BT.mono hbj.size)
           have zwt := BT.size
           have hAR0 : ∀ (XX : List Value) (s : ByteArray) (a : Act), XX = (((k.fs.take j).map fieldS).map F4.cells).flatten → AR (⟨w, wt, wc.heap.size, w3.heap.size, 109, 4, fun v => #[.string nm, .slice pvo pvn pvc, v], 80, fv, j, XX, [.string s, .int .i64 (1 + km), .int .i64 0, .string ⟨#[]⟩], 1, 7, 8, 10, 115, 116⟩ : ARp) (fun _ => false) a wt.drew := fun XX s a e => AR.start a (unhide ST).below (unhide ST).k (by rw [e]; exact (unhide ST).own)
           have hzK : w3.heap.size < wc.heap.size := by omega
           obtain ⟨XX, hXX⟩ : ∃ XX, XX = (((k.fs.take j).map fieldS).map F4.cells).flatten := ⟨_, rfl⟩
           obtain ⟨s, hsn⟩ : ∃ s, s = nmS fl.nm := ⟨_, rfl⟩
           have CN := fun w' => nameS_any fl.nm w'
           rw [← hsn] at CN HXs
           rw [← hXX] at HXs
           have hAR0 := fun a => hAR0 XX s a hXX
           clear hXX hsn
           refine wp_specsB 10 (sfSp w3.heap.size wr.heap.size fv fl.nm s (1 + km) 0 ⟨#[]⟩) (AR (⟨w, wt, wc.heap.size, w3.heap.size, 109, 4, fun v => #[.string nm, .slice pvo pvn pvc, v], 80, fv, j, XX, [.string s, .int .i64 (1 + km), .int .i64 0, .string ⟨#[]⟩], 1, 7, 8, 10, 115, 116⟩ : ARp)) (by kernel_rfl) (by kernel_rfl) (by kernel_rfl) (hAR0 _) ?_ ?_ ?_
           ·intro i' q hi' ho L a' w' hL hw hR hdep hslot hsz' K hK
            have hF' := (hR.keep wr.heap.size (by show wr.heap.size < wt.heap.size; omega) (by show wr.heap.size ≠ w3.heap.size; omega) (fun e => by have := (hown4 wr.heap.size e).2; omega)).trans HFt
            have hT' := (hR.keep (wr.heap.size + 1) (by show wr.heap.size + 1 < wt.heap.size; omega) (by show wr.heap.size + 1 ≠ w3.heap.size; omega) (fun e => by have := (hown4 (wr.heap.size + 1) e).2; omega)).trans HTt
            clear hAR0
            match i', hi' with
            | 0, _ =>
             cases ho
             have e0 : a'.tmps.getD 7 undef = .pointer (some ⟨w3.heap.size, 0, none⟩) := hslot 7 (by decide)
             clear hsz'
             unfold Oper.wp
             go_simp
             exact hK _ _ rfl (hR.grow 0 108 _ (show (0 : Nat) ≠ 7 ∧ (0 : Nat) ≠ 8 ∧ (0 : Nat) ≠ 10 from by decide) (show (108 : Nat) ≠ 115 ∧ (108 : Nat) ≠ 116 from by decide) (Below.refl _ _)) (fun _ _ h => h)
            | 1, _ =>
             cases ho
             have e0 : a'.tmps.getD 108 undef = .pointer (some ⟨w3.heap.size, 2, none⟩) := hdep 0 (by decide) (by kernel_rfl)
             have hK6 := hR.kb (hR.noS (hR.noA (.inl hL)))
             have cK : w'.cell? ⟨w3.heap.size, 2, none⟩ = some fv := lc_ hK6 rfl
             clear hK6 hF' hT'
             clear hsz'
             unfold Oper.wp
             go_simp
             exact hK _ _ rfl (hR.grow 1 109 _ (show (1 : Nat) ≠ 7 ∧ (1 : Nat) ≠ 8 ∧ (1 : Nat) ≠ 10 from by decide) (show (109 : Nat) ≠ 115 ∧ (109 : Nat) ≠ 116 from by decide) (Below.refl _ _)) (fun _ _ h => h)
            | 2, _ =>
             cases ho
             have e0 : a'.tmps.getD 10 undef = .pointer (some ⟨wr.heap.size, 0, none⟩) := hslot 10 (by decide)
             clear hsz'
             unfold Oper.wp
             go_simp
             exact hK _ _ rfl (hR.grow 2 110 _ (show (2 : Nat) ≠ 7 ∧ (2 : Nat) ≠ 8 ∧ (2 : Nat) ≠ 10 from by decide) (show (110 : Nat) ≠ 115 ∧ (110 : Nat) ≠ 116 from by decide) (Below.refl _ _)) (fun _ _ h => h)
            | 3, _ =>
             cases ho
             have e0 : a'.tmps.getD 110 undef = .pointer (some ⟨wr.heap.size, 0, none⟩) := hdep 2 (by decide) (by kernel_rfl)
             have cF : w'.cell? ⟨wr.heap.size, 0, none⟩ = some (.int .i64 fl.nm) := lc_ hF' rfl
             clear hF' hT'
             clear hsz'
             unfold Oper.wp
             go_simp
             exact hK _ _ rfl (hR.grow 3 111 _ (show (3 : Nat) ≠ 7 ∧ (3 : Nat) ≠ 8 ∧ (3 : Nat) ≠ 10 from by decide) (show (111 : Nat) ≠ 115 ∧ (111 : Nat) ≠ 116 from by decide) (Below.refl _ _)) (fun _ _ h => h)
            | 4, _ =>
             cases ho
             have e0 : a'.tmps.getD 111 undef = .int .i64 fl.nm := hdep 3 (by decide) (by kernel_rfl)
             have C := CN w'
             clear hsz' CN hF' hT'
             unfold Oper.wp
             go_simp
             refine C.mono ?_
             rintro e w8 ⟨rfl, b8⟩
             exact hK _ _ rfl (hR.grow 4 112 _ (show (4 : Nat) ≠ 7 ∧ (4 : Nat) ≠ 8 ∧ (4 : Nat) ≠ 10 from by decide) (show (112 : Nat) ≠ 115 ∧ (112 : Nat) ≠ 116 from by decide) b8) sfSp_up
            | 5, _ =>
             cases ho
             have e0 : a'.tmps.getD 11 undef = .pointer (some ⟨wr.heap.size + 1, 0, none⟩) := hslot 11 (by decide)
             obtain ⟨t0, t1, t2⟩ := bl3_ hT'
             clear hF' hT'
             clear hsz'
             unfold Oper.wp
             go_simp
             exact hK _ _ rfl (hR.grow 5 113 _ (show (5 : Nat) ≠ 7 ∧ (5 : Nat) ≠ 8 ∧ (5 : Nat) ≠ 10 from by decide) (show (113 : Nat) ≠ 115 ∧ (113 : Nat) ≠ 116 from by decide) (Below.refl _ _)) (fun _ _ h => h)
            | 6, _ =>
             cases ho
             have e0 : a'.tmps.getD 112 undef = .string s := hdep 4 (by decide) (by kernel_rfl)
             have e0' := gd_ e0
             have e1 : a'.tmps.getD 113 undef = .agg #[.int .i64 (1 + km), .int .i64 0, .string ⟨#[]⟩] := hdep 5 (by decide) (by kernel_rfl)
             have e1' := gd_ e1
             clear hF' hT'
             clear hsz'
             unfold Oper.wp
             go_simp
             exact hK _ _ rfl (hR.grow 6 114 _ (show (6 : Nat) ≠ 7 ∧ (6 : Nat) ≠ 8 ∧ (6 : Nat) ≠ 10 from by decide) (show (114 : Nat) ≠ 115 ∧ (114 : Nat) ≠ 116 from by decide) (Below.refl _ _)) (fun _ _ h => h)
            | 7, _ =>
             cases ho
             have e0 : a'.tmps.getD 114 undef = .agg #[.string s, .int .i64 (1 + km), .int .i64 0, .string ⟨#[]⟩] := hdep 6 (by decide) (by kernel_rfl)
             have e0' := gd_ e0
             have hG := hide (hR.alloc hL (by rw [hsz']; exact Nat.le_of_ble_eq_true (by kernel_rfl)) (show (8 : Nat) ≠ 7 from by decide) (show (10 : Nat) ≠ 7 from by decide))
             clear hsz' hF' hT'
             unfold Oper.wp
             go_simp
             exact hK _ _ trivial (unhide hG) sfSp_up
            | 8, _ =>
             cases ho
             have hLR : L 1 = true := hw 1 (by kernel_rfl)
             have hLN : L 7 = true := hw 7 (by kernel_rfl)
             have e0 : a'.tmps.getD 109 undef = fv := hdep 1 (by decide) (by kernel_rfl)
             obtain ⟨blk, e1, hblk⟩ := hR.new hLN hL
             have hcell : ∀ jj u, ([.string s, .int .i64 (1 + km), .int .i64 0, .string ⟨#[]⟩] : List Value)[jj]? = some u → w'.cell? ((⟨blk, 0, none⟩ : Addr).add jj) = some u := by
              intro jj u hu
              rw [Addr.add_lit, Nat.zero_add, Lib.cell_of_heap hblk]
              simpa using hu
             obtain ⟨v', w'', hr, hown', hgr, _, _⟩ := run_append_own_at (P := Try.prog) w' (wc.heap.size) 78 78 109 iF _ 4 48 Try.underlying78 hiF hzF0 hzF1 hzF2 rfl (by decide) fv j XX (hR.row hL) ⟨blk, 0, none⟩ 1 1 [.string s, .int .i64 (1 + km), .int .i64 0, .string ⟨#[]⟩] rfl hcell (by intro u hu; simp at hu; rcases hu with rfl | rfl | rfl | rfl <;> rfl) (by unfold maxLen; omega) (by omega) (by have := hR.size; simp only at this; omega)
             have hs : a'.eval (.tmp 109) = fv := e0
             have hx : a'.eval (.tmp 115) = .slice (some ⟨blk, 0, none⟩) 1 1 := e1
             unfold Oper.wp execOp
             simp only [resolve, invoke, builtin, Sem.run_bind, Sem.run_pure, Result.andThen_ok, List.map_toArray, List.map_cons, List.map_nil, hs, hx, hr]
             exact hK _ _ trivial (hR.appd hL hLR hLN (by rw [hsz']; exact Nat.le_of_ble_eq_true (by kernel_rfl)) (show (10 : Nat) ≠ 8 from by decide) (by show wc.heap.size ≤ wt.heap.size; omega) (by show w3.heap.size < wc.heap.size; omega) (by show w.heap.size ≤ wc.heap.size; omega) hown' hgr) sfSp_up
            | 9, _ =>
             cases ho
             have e0 : a'.tmps.getD 7 undef = .pointer (some ⟨w3.heap.size, 0, none⟩) := hslot 7 (by decide)
             clear hsz'
             unfold Oper.wp
             go_simp
             exact hK _ _ rfl (hR.grow 9 117 _ (show (9 : Nat) ≠ 7 ∧ (9 : Nat) ≠ 8 ∧ (9 : Nat) ≠ 10 from by decide) (show (117 : Nat) ≠ 115 ∧ (117 : Nat) ≠ 116 from by decide) (Below.refl _ _)) (fun _ _ h => h)
            | i + 10, h => exact absurd h (by omega)
           ·intro i' q hi' ho L a' w' hL hw hR hdep K hK
            have : i' = 10 := by
             have h := (List.getElem?_eq_some_iff.1 ho).1
             simp only [List.length_cons, List.length_nil] at h
             omega
            subst this
            cases ho
            have hA : L 8 = true := hw 8 (by kernel_rfl)
            obtain ⟨ao7, n7, c7, e1, hST⟩ := hR.stor hL hA (show (7 : Nat) ≠ 10 from by decide) (show (8 : Nat) ≠ 10 from by decide) (by show w.heap.size ≤ w3.heap.size; omega) (by show w3.heap.size < wc.heap.size; omega) 2 (fun _ => rfl)
            have hST := hide hST
            have e2 : a'.tmps.getD 117 undef = .pointer (some ⟨w3.heap.size, 2, none⟩) := hdep 9 (by decide) (by kernel_rfl)
            have e1 : a'.tmps.getD 116 undef = .slice ao7 n7 c7 := e1
            have hkb := hR.kb hL
            have x6 : w'.cell? ⟨w3.heap.size, 2, none⟩ = some fv := lc_ hkb rfl
            have f6 : w'.frozen? ⟨w3.heap.size, 2, none⟩ = false := Lib.frozen_of_heap hkb 2
            clear hkb hAR0
            unfold Oper.wp
            go_simp
            exact hK _ (unhide hST) sfSp_up undef
           ·intro v L w5 hall hR hsp
            obtain ⟨ao7, n7, c7, _, hown7, hk7⟩ := hR.app (hall 8 (by decide))
            have hk7 := hk7 (hall 10 (by decide))
            have b7 : Below w.heap.size w w5 := hR.below
            have HV := hide (And.intro b7 (And.intro hR.size (And.intro hR.keep (And.intro hk7 hown7))))
            clear hk7 hown7 hAR0
            have e0 : v 0 = _ := hsp 0 (by decide)
            have e1 : v 1 = _ := hsp 1 (by decide)
            have e2 : v 2 = _ := hsp 2 (by decide)
            have e3 : v 3 = _ := hsp 3 (by decide)
            have e4 : v 4 = _ := hsp 4 (by decide)
            have e5 : v 5 = _ := hsp 5 (by decide)
            have e6 : v 6 = _ := hsp 6 (by decide)
            have e9 : v 9 = _ := hsp 9 (by decide)
            clear hR hall hsp
            simp only [putAll, dstOf, List.getElem?_cons_zero, List.getElem?_cons_succ, Option.bind_some, e0, e1, e2, e3, e4, e5, e6, e9]
            clear e0 e1 e2 e3 e4 e5 e6 e9
            simp only [Act.put, List.setIfInBounds_toArray, List.set_cons_succ, List.set_cons_zero]
            generalize v 7 = v7
            generalize v 8 = v8
            go_wp2
            go_roundw
            case rel =>
             refine ⟨j + 1, .slice ao7 n7 c7, by go_num, by omega, by omega, ?_⟩
             obtain ⟨q1, q2, q3, q4, q5⟩ := unhide HV
             exact St2.next (unhide ST) q1 q2 q3 q4 (by rw [unhide HXs]; exact q5)
            case measure =>
             simp only [intOf]
             omega
         ·have j2 : ¬ (j : Int) < 4 := by omega
          go_wp2_with fail
          go_meet
          case rel =>
           obtain ⟨t1, t2⟩ := take_out k.fs hjl hj4 (.inl hj)
           exact ⟨fv, by rw [t1, t2]; exact unhide HST3⟩
        ·have j1 : ¬ (j : Int) < (k.fs.length : Int) := by omega
         go_wp2_with fail
         go_meet
         case rel =>
          obtain ⟨t1, t2⟩ := take_out k.fs hjl hj4 (.inr hjt)
          exact ⟨fv, by rw [t1, t2]; exact unhide HST3⟩
      case rest =>
       rename World => wd
       obtain ⟨fv, hst3⟩ := hcut
       obtain ⟨fvo, fvn, fvc, rfl⟩ : ∃ a n c, fv = .slice a n c := by
        rcases hst3.own.2 with ⟨h, _⟩ | ⟨g, cap, cur, h, _⟩
        ·exact ⟨_, _, _, h⟩
        ·exact ⟨_, _, _, h⟩
       have KD := kind_done (unhide HB34).1 (unhide HB34).2 z4 (unhide HST2) hst3 (unhide Hnm)
       have bd := hst3.below
       have hKd := hst3.k
       have zr : w.heap.size + 1 < wr.heap.size := (Array.getElem?_eq_some_iff.1 (unhide HST).s).1
       have hSd := (KD.1 (w.heap.size + 1) zr).trans (unhide HST).s
       obtain ⟨kc0, kc1, kc2⟩ := bl3_ hKd
       have sc0 : wd.cell? ⟨w.heap.size + 1, 0, none⟩ = some lv := lc_ hSd rfl
       have bl := blw1 wd (.cells #[.string nm, .slice pvo pvn pvc, .slice fvo fvn fvc] 80)
       have ownk := own_belowS (own_turn (unhide HST).own fun b hb => KD.1 b ((unhide HST).own.lt b hb).2) bl
       have hnb := ownk.lt
       have hSk := kept_of_below bl hSd
       have bk := bd.trans (bl.mono bd.size)
       have HNw := hide (alloc_heap wd (.cells #[.string nm, .slice pvo pvn pvc, .slice fvo fvn fvc] 80))
       have Hownk := hide ownk
       have HKD := hide (And.intro KD (And.intro bl hSk))
       have zd := KD.2.1
       have zk : (wd.alloc (.cells #[.string nm, .slice pvo pvn pvc, .slice fvo fvn fvc] 80)).heap.size = wd.heap.size + 1 := by simp
       clear KD hst3 hKd hSd ownk hSk bl HP HF HB34 HST2 wy1 wy2
       go_wp2_with (at_builtin; refine wpList_append_own _ rfl _ _ 30 rfl (w.heap.size + 2) 80 iK _ 3 64 Try.underlying30 hiK hzK0 hzK1 hzK2 rfl (by decide) _ _ _ rfl (unhide Hownk) ⟨wd.heap.size, 0, none⟩ 1 1 [.string nm, .slice pvo pvn pvc, .slice fvo fvn fvc] rfl rfl ?c1 ?c2 ?c3 ?c4 ?c5 ?_)
       case c1 =>
        intro j u hj
        rw [Addr.add_lit, Nat.zero_add, Lib.cell_of_heap (unhide HNw)]
        simpa using hj
       case c2 => intro u hu; simp at hu; rcases hu with rfl | rfl | rfl <;> rfl
       case c3 => unfold maxLen; omega
       case c4 => omega
       case c5 => omega
       intro v6 w6 hown6 hgrow _
       obtain ⟨ao6, n6, c6, rfl⟩ : ∃ a n c, v6 = .slice a n c := by
        rcases hown6.2 with ⟨h, _⟩ | ⟨g, cap, cur, h, _⟩
        ·exact ⟨_, _, _, h⟩
        ·exact ⟨_, _, _, h⟩
       have b6 : Below w.heap.size w w6 := bk.grown hgrow bk.size (fun j hj => by have := (hnb j hj).1; omega)
       have hS6 : w6.heap[w.heap.size + 1]? = _ := (hgrow.block (w.heap.size + 1) (by omega) (fun h => by have := (hnb _ h.symm).1; omega)).trans (unhide HKD).2.2
       have s6 : w6.cell? ⟨w.heap.size + 1, 0, none⟩ = some lv := lc_ hS6 rfl
       have f6 : w6.frozen? ⟨w.heap.size + 1, 0, none⟩ = false := Lib.frozen_of_heap hS6 0
       have ST7 := St1.next (x := ⟨nm, pvo, pvn, pvc, fvo, fvn, fvc⟩) (unhide HST) hlt (unhide HKD).1.1 (unhide HKD).1.2.1 (by rw [← unhide Hke]; exact (unhide HKD).1.2.2) (unhide HKD).2.1 b6 hown6 hgrow
       have HST7 := hide ST7
       clear ST7 hown6 hgrow hS6 HKD Hownk hnb HNw
       go_wp2
       go_roundw
       case rel => exact ⟨i + 1, _, _, by go_num, by omega, by omega, unhide HST7⟩
       case measure =>
        simp only [intOf]
        omega
    ·have i2 : ¬ (i : Int) < 5 := by omega
     go_wp2_with fail
     go_meet
     case rel =>
      obtain ⟨t1, _⟩ := take_out ks hil hi5 (.inl h5)
      exact ⟨lv, xs, by rw [t1]; exact unhide HST⟩
   ·have i1 : ¬ (i : Int) < (ks.length : Int) := by omega
    go_wp2_with fail
    go_meet
    case rel =>
     obtain ⟨t1, _⟩ := take_out ks hil hi5 (.inr hlt)
     exact ⟨lv, xs, by rw [t1]; exact unhide HST⟩
 case rest =>
  rename World => wK
  obtain ⟨lk, xk, hst1⟩ := hcut
  have HST1 := hide hst1
  have bwc := hst1.below
  have hsc := hst1.s
  have zwc : w.heap.size + 1 < wK.heap.size := (Array.getElem?_eq_some_iff.1 hsc).1
  obtain ⟨lko, lkn, lkc, rfl⟩ : ∃ a n c, lk = .slice a n c := by
   rcases hst1.own.2 with ⟨h, _⟩ | ⟨g, cap, cur, h, _⟩
   ·exact ⟨_, _, _, h⟩
   ·exact ⟨_, _, _, h⟩
  clear hst1
  obtain ⟨iA, hiA, hzA0, hzA1, hzA2⟩ := info_parts infoAction
  go_upto_block 6 with fail
  go_cut [] from 12 (fun wc => ∃ lv xs, St4 w wK wc (.slice lko lkn lkc) as_ lv (min 5 as_.length) xs)
  case first =>
   go_wp2_with fail
   go_loopw [12] (fun iv wr => ∃ (i : Nat) (lv : Value) (xs : List N3), iv = .int .i64 i ∧ i ≤ as_.length ∧ i ≤ 5 ∧ St4 w wK wr (.slice lko lkn lkc) as_ lv i xs) (fun iv _ => 5 - (intOf iv).toNat)
   case atStart => exact ⟨0, .slice none 0 0, [], by go_num, Nat.zero_le _, by omega, bwc, Nat.le_refl _, fun _ _ _ => rfl, hsc, World.ownsRow_nil _ _ _ _, rfl, fun j hj => absurd hj (Nat.not_lt_zero _)⟩
   case round =>
    obtain ⟨i, lv, xs, rfl, hil, hi5, hst⟩ := hrel
    have HST := hide hst
    have hbr := hst.below
    have zcr := hst.size
    clear hst hsc
    by_cases hlt : i < as_.length
    ·have i0 : (0 : Int) ≤ (i : Int) := by omega
     have i1 : (i : Int) < (as_.length : Int) := by omega
     by_cases h5 : i < 5
     ·have i2 : (i : Int) < 5 := by omega
      obtain ⟨x, g, off, rfl, hgw, ⟨x0, x1, x2⟩, hx⟩ := la_get (unhide HA).1 hbr hlt
      obtain ⟨hpl, hfl⟩ := (unhide HA).2 i hlt
      obtain ⟨a, hae⟩ : ∃ a, a = as_[i] := ⟨_, rfl⟩
      rw [← hae] at hx hpl hfl
      have Hae := hide hae
      clear hae
      obtain ⟨xn, pao, pal, pc, fao, fal, fc⟩ := x
      obtain ⟨k1, k2, k3, k4, k5⟩ := hx
      simp only at k1 k2 k3 k4 k5 x0 x1 x2
      subst k1 k2 k4
      have HP := hide k3
      have HF := hide k5
      clear k3 k5
      obtain ⟨m, hm⟩ : ∃ m : Nat, (m : Int) = a.nm % 3 := ⟨(a.nm % 3).toNat, by omega⟩
      have hm3 : m < 3 := by omega
      have W3 := fun w' => within5_any a.nm 3 (by decide) (by decide) w'
      rw [← hm] at W3
      obtain ⟨nm, hnm⟩ : ∃ nm, nm = acS a.nm := ⟨_, rfl⟩
      have Hnm := hide hnm
      rw [acS_of a.nm m hm] at hnm
      have b1 := blw1 wr (.cells acCs 9)
      have Z1 : (wr.alloc (.cells acCs 9)).heap[wr.heap.size]? = some (.cells acCs 9 (0, 0)) := alloc_heap _ _
      have hx : (wr.alloc (.cells acCs 9)).cell? ⟨wr.heap.size, m, none⟩ = some (.string nm) := by rw [Lib.cell_of_heap Z1, hnm]; exact ac_cells m hm3
      have z1 : wr.heap.size < (wr.alloc (.cells acCs 9)).heap.size := by simp
      have m1 : (m : Int) < 3 := by omega
      have x0' := (b1.cell (p := ⟨g, off + i * 3, none⟩) (by have := hbr.size; show g < wr.heap.size; omega)).trans x0
      have wy1 := (hbr.cell (p := ⟨g, off + i * 3 + 1, none⟩) hgw).symm.trans x1
      have wy2 := (hbr.cell (p := ⟨g, off + i * 3 + 2, none⟩) hgw).symm.trans x2
      clear hm hnm Z1 x0 x1 x2
      unfold acCs at *
      go_wp2_with fail
      generalize wr.alloc _ = w1 at *
      refine (W3 _).mono ?_
      rintro e wv ⟨rfl, hwv⟩
      subst hwv
      clear W3
      obtain ⟨b14, z4, HP4, HR4, HK4⟩ := alloc3 wv (.cells #[.string ⟨#[85, 115, 101, 114]⟩] 9) (.cells #[.string ⟨#[68, 111, 99]⟩] 9) (.cells #[.string nm, .slice (some ⟨wv.heap.size, 0, none⟩) 1 1, .slice (some ⟨wv.heap.size + 1, 0, none⟩) 1 1] 83)
      rename World => w1
      have z4 := Nat.le_of_eq z4.symm
      go_upto_block 8 with fail
      generalize ((w1.alloc _).alloc _).alloc _ = w4 at *
      have b01 := hbr.trans (b1.mono hbr.size)
      have b04 := b01.trans (b14.mono b01.size)
      have z01 := hbr.size
      have HB4 := hide (show ∀ b, b < wr.heap.size → w4.heap[b]? = wr.heap[b]? from fun b hb => (b14.block b (by omega)).trans (b1.block b hb))
      have zr4 : wr.heap.size ≤ w4.heap.size := by omega
      clear b1 b14 b01 hx x0'
      go_cut [14] from 124 to 207 (fun _ wc => ∃ pv, St5 w w4 wc w1.heap.size (w1.heap.size + 2) w1.heap.size (fun v => #[.string nm, v, .slice (some ⟨w1.heap.size + 1, 0, none⟩) 1 1]) pv (min 3 a.p.length + 1) ((actRow userB a.p 3).map strC).flatten)
      case first =>
       go_wp2_with fail
       go_loopw [14] (fun jv wr => ∃ (j : Nat) (pv : Value), jv = .int .i64 j ∧ j ≤ a.p.length ∧ j ≤ 3 ∧ St5 w w4 wr w1.heap.size (w1.heap.size + 2) w1.heap.size (fun v => #[.string nm, v, .slice (some ⟨w1.heap.size + 1, 0, none⟩) 1 1]) pv (j + 1) ((actRow userB a.p j).map strC).flatten) (fun jv _ => 3 - (intOf jv).toNat)
       case atStart => exact ⟨0, _, by go_num, Nat.zero_le _, by omega, b04, Nat.le_refl _, fun _ _ _ _ => rfl, HK4, own_one (Nat.le_refl _) HP4, .inl rfl⟩
       case round =>
        clear hbr HST
        obtain ⟨j, pv, rfl, hjl, hj3, hst2⟩ := hrel
        have HST2 := hide hst2
        have hbj := hst2.below
        have hAR0 : ∀ (XX : List Value) (s : ByteArray) (b : Act), XX = ((actRow userB a.p j).map strC).flatten → BR (⟨w, wr, w1.heap.size, (w1.heap.size + 2), 9, 1, fun v => #[.string nm, v, .slice (some ⟨w1.heap.size + 1, 0, none⟩) 1 1], 83, pv, j + 1, XX, [.string s], 1, 11, 12, 14, 171, 172⟩ : ARp) (fun _ => false) b wr.drew := fun XX s b e => BR.start b hst2.below hst2.k (by rw [e]; exact hst2.own)
        have hsz4 := hst2.size
        clear hst2
        have z1 := (hbj.cell (p := ⟨g, off + i * 3 + 1, none⟩) hgw).trans wy1
        by_cases hjt : j < a.p.length
        ·have j0 : (0 : Int) ≤ (j : Int) := by omega
         have j1 : (j : Int) < (a.p.length : Int) := by omega
         by_cases hj : j < 3
         ·have j2 : (j : Int) < 3 := by omega
          obtain ⟨pg, poff, rfl, hpgw, hcn⟩ := rowG_at (unhide HP) (Below.refl _ w) hjt
          have cN0 := hcn 0 _ rfl
          simp only [Nat.mul_one, Nat.add_zero] at cN0
          have cP0 := wy1
          have HXs := hide (actRow_next userB a.p j hjt)
          generalize a.p[j] = n at *
          have CN := fun w' => kindS_any n w'
          generalize knS n = s at *
          obtain ⟨XX, hXX⟩ : ∃ XX, XX = ((actRow userB a.p j).map strC).flatten := ⟨_, rfl⟩
          have hAR0 := fun b => hAR0 XX s b hXX
          rw [← hXX] at HXs
          clear hXX hcn
          go_upto_region 28 with fail
          as_aux_lemma =>
           refine wp_specsB 14 (seSp (w1.heap.size + 2) 1 (pv) (.slice (some ⟨g, off, none⟩) as_.length ac) i g (off + i * 3) (off + i * 3 + 1) pg poff (a.p.length) pc j n s) (BR (⟨w, wr, w1.heap.size, (w1.heap.size + 2), 9, 1, fun v => #[.string nm, v, .slice (some ⟨w1.heap.size + 1, 0, none⟩) 1 1], 83, pv, j + 1, XX, [.string s], 1, 11, 12, 14, 171, 172⟩ : ARp)) (by kernel_rfl) (by kernel_rfl) (by kernel_rfl) (hAR0 _) ?_ ?_ ?_
           ·intro i' o hi' ho L a' w' hL hw hR hdep hslot hsz' K hK
            have hbw' : Below w.heap.size w w' := hR.below
            clear hAR0
            match i', hi' with
            | 0, _ =>
             cases ho
             have e0 : a'.tmps.getD 13 undef = .pointer (some ⟨(w1.heap.size + 2), 0, none⟩) := hslot 13 (by decide)
             clear hsz'
             unfold Oper.wp
             go_simp
             exact hK _ _ rfl (hR.grow 0 160 _ (show (0 : Nat) ≠ 11 ∧ (0 : Nat) ≠ 12 ∧ (0 : Nat) ≠ 14 from by decide) (show (160 : Nat) ≠ 171 ∧ (160 : Nat) ≠ 172 from by decide) (Below.refl _ _)) (fun _ _ h => h)
            | 1, _ =>
             cases ho
             have e0 : a'.tmps.getD 160 undef = .pointer (some ⟨(w1.heap.size + 2), 1, none⟩) := hdep 0 (by decide) (by kernel_rfl)
             have hK6 := hR.kb (hR.noS (hR.noA (.inl hL)))
             have cK : w'.cell? ⟨(w1.heap.size + 2), 1, none⟩ = some (pv) := lc_ hK6 rfl
             clear hK6 hbw'
             clear hsz'
             unfold Oper.wp
             go_simp
             exact hK _ _ rfl (hR.grow 1 161 _ (show (1 : Nat) ≠ 11 ∧ (1 : Nat) ≠ 12 ∧ (1 : Nat) ≠ 14 from by decide) (show (161 : Nat) ≠ 171 ∧ (161 : Nat) ≠ 172 from by decide) (Below.refl _ _)) (fun _ _ h => h)
            | 2, _ =>
             cases ho
             have e0 : a'.tmps.getD 1 undef = .slice (some ⟨g, off, none⟩) as_.length ac := hslot 1 (by decide)
             clear hsz'
             unfold Oper.wp
             go_simp
             exact hK _ _ rfl (hR.grow 2 162 _ (show (2 : Nat) ≠ 11 ∧ (2 : Nat) ≠ 12 ∧ (2 : Nat) ≠ 14 from by decide) (show (162 : Nat) ≠ 171 ∧ (162 : Nat) ≠ 172 from by decide) (Below.refl _ _)) (fun _ _ h => h)
            | 3, _ =>
             cases ho
             have e0 : a'.tmps.getD 12 undef = .int .i64 i := hslot 12 (by decide)
             clear hsz'
             unfold Oper.wp
             go_simp
             exact hK _ _ rfl (hR.grow 3 163 _ (show (3 : Nat) ≠ 11 ∧ (3 : Nat) ≠ 12 ∧ (3 : Nat) ≠ 14 from by decide) (show (163 : Nat) ≠ 171 ∧ (163 : Nat) ≠ 172 from by decide) (Below.refl _ _)) (fun _ _ h => h)
            | 4, _ =>
             cases ho
             have e0 : a'.tmps.getD 162 undef = .slice (some ⟨g, off, none⟩) as_.length ac := hdep 2 (by decide) (by kernel_rfl)
             have e1 : a'.tmps.getD 163 undef = .int .i64 i := hdep 3 (by decide) (by kernel_rfl)
             clear hsz'
             unfold Oper.wp
             go_simp
             exact hK _ _ rfl (hR.grow 4 164 _ (show (4 : Nat) ≠ 11 ∧ (4 : Nat) ≠ 12 ∧ (4 : Nat) ≠ 14 from by decide) (show (164 : Nat) ≠ 171 ∧ (164 : Nat) ≠ 172 from by decide) (Below.refl _ _)) (fun _ _ h => h)
            | 5, _ =>
             cases ho
             have e0 : a'.tmps.getD 164 undef = .pointer (some ⟨g, off + i * 3, none⟩) := hdep 4 (by decide) (by kernel_rfl)
             clear hsz'
             unfold Oper.wp
             go_simp
             exact hK _ _ rfl (hR.grow 5 165 _ (show (5 : Nat) ≠ 11 ∧ (5 : Nat) ≠ 12 ∧ (5 : Nat) ≠ 14 from by decide) (show (165 : Nat) ≠ 171 ∧ (165 : Nat) ≠ 172 from by decide) (Below.refl _ _)) (fun _ _ h => h)
            | 6, _ =>
             cases ho
             have e0 : a'.tmps.getD 165 undef = .pointer (some ⟨g, off + i * 3 + 1, none⟩) := hdep 5 (by decide) (by kernel_rfl)
             have cP := (hbw'.cell (p := ⟨g, off + i * 3 + 1, none⟩) hgw).trans cP0
             clear hbw'
             clear hsz'
             unfold Oper.wp
             go_simp
             exact hK _ _ rfl (hR.grow 6 166 _ (show (6 : Nat) ≠ 11 ∧ (6 : Nat) ≠ 12 ∧ (6 : Nat) ≠ 14 from by decide) (show (166 : Nat) ≠ 171 ∧ (166 : Nat) ≠ 172 from by decide) (Below.refl _ _)) (fun _ _ h => h)
            | 7, _ =>
             cases ho
             have e0 : a'.tmps.getD 14 undef = .int .i64 j := hslot 14 (by decide)
             clear hsz'
             unfold Oper.wp
             go_simp
             exact hK _ _ rfl (hR.grow 7 167 _ (show (7 : Nat) ≠ 11 ∧ (7 : Nat) ≠ 12 ∧ (7 : Nat) ≠ 14 from by decide) (show (167 : Nat) ≠ 171 ∧ (167 : Nat) ≠ 172 from by decide) (Below.refl _ _)) (fun _ _ h => h)
            | 8, _ =>
             cases ho
             have e0 : a'.tmps.getD 166 undef = .slice (some ⟨pg, poff, none⟩) a.p.length pc := hdep 6 (by decide) (by kernel_rfl)
             have e1 : a'.tmps.getD 167 undef = .int .i64 j := hdep 7 (by decide) (by kernel_rfl)
             clear hsz'
             unfold Oper.wp
             go_simp
             exact hK _ _ rfl (hR.grow 8 168 _ (show (8 : Nat) ≠ 11 ∧ (8 : Nat) ≠ 12 ∧ (8 : Nat) ≠ 14 from by decide) (show (168 : Nat) ≠ 171 ∧ (168 : Nat) ≠ 172 from by decide) (Below.refl _ _)) (fun _ _ h => h)
            | 9, _ =>
             cases ho
             have e0 : a'.tmps.getD 168 undef = .pointer (some ⟨pg, poff + j, none⟩) := hdep 8 (by decide) (by kernel_rfl)
             have cN := (hbw'.cell (p := ⟨pg, poff + j, none⟩) hpgw).trans cN0
             clear hbw'
             clear hsz'
             unfold Oper.wp
             go_simp
             exact hK _ _ rfl (hR.grow 9 169 _ (show (9 : Nat) ≠ 11 ∧ (9 : Nat) ≠ 12 ∧ (9 : Nat) ≠ 14 from by decide) (show (169 : Nat) ≠ 171 ∧ (169 : Nat) ≠ 172 from by decide) (Below.refl _ _)) (fun _ _ h => h)
            | 10, _ =>
             cases ho
             have e0 : a'.tmps.getD 169 undef = .int .i64 n := hdep 9 (by decide) (by kernel_rfl)
             have C := CN w'
             clear hsz' hbw' CN
             unfold Oper.wp
             go_simp
             refine C.mono ?_
             rintro e w3 ⟨rfl, b3⟩
             exact hK _ _ rfl (hR.grow 10 170 _ (show (10 : Nat) ≠ 11 ∧ (10 : Nat) ≠ 12 ∧ (10 : Nat) ≠ 14 from by decide) (show (170 : Nat) ≠ 171 ∧ (170 : Nat) ≠ 172 from by decide) b3) seSp_up
            | 11, _ =>
             cases ho
             have e0 : a'.tmps.getD 170 undef = .string s := hdep 10 (by decide) (by kernel_rfl)
             have e0' := gd_ e0
             have hG := hide (hR.alloc hL (by rw [hsz']; exact Nat.le_of_ble_eq_true (by kernel_rfl)) (show (12 : Nat) ≠ 11 from by decide) (show (14 : Nat) ≠ 11 from by decide))
             clear hsz' hbw'
             unfold Oper.wp
             go_simp
             exact hK _ _ trivial (unhide hG) seSp_up
            | 12, _ =>
             cases ho
             have hLR : L 1 = true := hw 1 (by kernel_rfl)
             have hLN : L 11 = true := hw 11 (by kernel_rfl)
             have e0 : a'.tmps.getD 161 undef = pv := hdep 1 (by decide) (by kernel_rfl)
             obtain ⟨blk, e1, hblk⟩ := hR.new hLN hL
             have hcell : ∀ jj u, ([.string s] : List Value)[jj]? = some u → w'.cell? ((⟨blk, 0, none⟩ : Addr).add jj) = some u := by
              intro jj u hu
              rw [Addr.add_lit, Nat.zero_add, Lib.cell_of_heap hblk]
              simpa using hu
             obtain ⟨v', w'', hr, hown', hgr, _, hat⟩ := run_append_own_at (P := Try.prog) w' (w1.heap.size) 77 77 9 iS _ 1 16 Try.underlying77 hiS hzS0 hzS1 hzS2 rfl (by decide) (pv) (j + 1) XX (hR.row hL) ⟨blk, 0, none⟩ 1 1 [.string s] rfl hcell (by intro u hu; simp at hu; subst hu; rfl) (by unfold maxLen; omega) (by omega) (by have := hR.size; simp only at this; omega)
             have hs : a'.eval (.tmp 161) = pv := e0
             have hx : a'.eval (.tmp 171) = .slice (some ⟨blk, 0, none⟩) 1 1 := e1
             unfold Oper.wp execOp
             simp only [resolve, invoke, builtin, Sem.run_bind, Sem.run_pure, Result.andThen_ok, List.map_toArray, List.map_cons, List.map_nil, hs, hx, hr]
             exact hK _ _ trivial (hR.appd hL hLR hLN (by rw [hsz']; exact Nat.le_of_ble_eq_true (by kernel_rfl)) (show (14 : Nat) ≠ 12 from by decide) (show (9 : Nat) ≠ 83 by decide) (by show (w1.heap.size + 2) < wr.heap.size; omega) (by show w.heap.size ≤ w1.heap.size; omega) hown' hgr hat) seSp_up
            | 13, _ =>
             cases ho
             have e0 : a'.tmps.getD 13 undef = .pointer (some ⟨(w1.heap.size + 2), 0, none⟩) := hslot 13 (by decide)
             clear hsz'
             unfold Oper.wp
             go_simp
             exact hK _ _ rfl (hR.grow 13 173 _ (show (13 : Nat) ≠ 11 ∧ (13 : Nat) ≠ 12 ∧ (13 : Nat) ≠ 14 from by decide) (show (173 : Nat) ≠ 171 ∧ (173 : Nat) ≠ 172 from by decide) (Below.refl _ _)) (fun _ _ h => h)
            | i + 14, h => exact absurd h (by omega)
           ·intro i' o hi' ho L a' w' hL hw hR hdep K hK
            have : i' = 14 := by
             have h := (List.getElem?_eq_some_iff.1 ho).1
             simp only [List.length_cons, List.length_nil] at h
             omega
            subst this
            cases ho
            have hA : L 12 = true := hw 12 (by kernel_rfl)
            obtain ⟨ao7, n7, c7, e1, hST⟩ := hR.stor hL hA (show (11 : Nat) ≠ 14 from by decide) (show (12 : Nat) ≠ 14 from by decide) (by show w.heap.size ≤ (w1.heap.size + 2); omega) (show (9 : Nat) ≠ 83 by decide) 1 (fun _ => rfl)
            have hST := hide hST
            have e2 : a'.tmps.getD 173 undef = .pointer (some ⟨(w1.heap.size + 2), 1, none⟩) := hdep 13 (by decide) (by kernel_rfl)
            have e1 : a'.tmps.getD 172 undef = .slice ao7 n7 c7 := e1
            have hkb := hR.kb hL
            have x6 : w'.cell? ⟨(w1.heap.size + 2), 1, none⟩ = some (pv) := lc_ hkb rfl
            have f6 : w'.frozen? ⟨(w1.heap.size + 2), 1, none⟩ = false := Lib.frozen_of_heap hkb 1
            clear hkb hAR0
            unfold Oper.wp
            go_simp
            exact hK _ (unhide hST) seSp_up undef
           ·intro v L w5 hall hR hsp
            obtain ⟨ao7, n7, c7, _, hown7, hk7, hloc7⟩ := hR.app (hall 12 (by decide))
            have hk7 := hk7 (hall 14 (by decide))
            have b7 : Below w.heap.size w w5 := hR.below
            have HV := hide (And.intro b7 (And.intro hR.size (And.intro hR.keep (And.intro hk7 (And.intro hown7 hloc7)))))
            clear hk7 hown7 hloc7 hAR0
            have e0 : v 0 = _ := hsp 0 (by decide)
            have e1 : v 1 = _ := hsp 1 (by decide)
            have e2 : v 2 = _ := hsp 2 (by decide)
            have e3 : v 3 = _ := hsp 3 (by decide)
            have e4 : v 4 = _ := hsp 4 (by decide)
            have e5 : v 5 = _ := hsp 5 (by decide)
            have e6 : v 6 = _ := hsp 6 (by decide)
            have e7 : v 7 = _ := hsp 7 (by decide)
            have e8 : v 8 = _ := hsp 8 (by decide)
            have e9 : v 9 = _ := hsp 9 (by decide)
            have e10 : v 10 = _ := hsp 10 (by decide)
            have e13 : v 13 = _ := hsp 13 (by decide)
            clear hR hall hsp
            simp only [putAll, dstOf, List.getElem?_cons_zero, List.getElem?_cons_succ, Option.bind_some, e0, e1, e2, e3, e4, e5, e6, e7, e8, e9, e10, e13]
            clear e0 e1 e2 e3 e4 e5 e6 e7 e8 e9 e10 e13
            simp only [Act.put, List.setIfInBounds_toArray, List.set_cons_succ, List.set_cons_zero]
            generalize v 11 = v11
            generalize v 12 = v12
            go_wp2
            go_roundw
            case rel =>
             refine ⟨j + 1, .slice ao7 n7 c7, by go_num, by omega, by omega, ?_⟩
             obtain ⟨q1, q2, q3, q4, q5, q6⟩ := unhide HV
             exact St5.next (unhide HST2) q1 q2 q3 q4 (by rw [unhide HXs]; exact q5) q6
            case measure =>
             simp only [intOf]
             omega
         ·have j2 : ¬ (j : Int) < 3 := by omega
          go_wp2_with fail
          go_meet
          case rel =>
           obtain ⟨t1, t2⟩ := take_out a.p hjl hj3 (.inl hj)
           exact ⟨pv, by rw [t1, show actRow userB a.p 3 = actRow userB a.p j by unfold actRow; rw [t2]]; exact unhide HST2⟩
        ·have j1 : ¬ (j : Int) < (a.p.length : Int) := by omega
         go_wp2_with fail
         go_meet
         case rel =>
          obtain ⟨t1, t2⟩ := take_out a.p hjl hj3 (.inr hjt)
          exact ⟨pv, by rw [t1, show actRow userB a.p 3 = actRow userB a.p j by unfold actRow; rw [t2]]; exact unhide HST2⟩
      case rest =>
       rename World => wp
       obtain ⟨pv, hst2⟩ := hcut
       have HST2 := hide hst2
       have bp := hst2.below
       have zp := hst2.size
       obtain ⟨pvo, pvn, pvc, rfl⟩ : ∃ a n c, pv = .slice a n c := by
        rcases hst2.own.2 with ⟨h, _⟩ | ⟨g, cap, cur, h, _⟩
        ·exact ⟨_, _, _, h⟩
        ·exact ⟨_, _, _, h⟩
       have HK6 := hst2.k
       have HR6 := (hst2.old (w1.heap.size + 1) (by omega) (by omega) (by omega)).trans HR4
       clear hst2
       go_upto_block 10 with fail
       go_cut [15] from 124 to 207 (fun _ wc => ∃ pv, St5 w wp wc (w1.heap.size + 1) (w1.heap.size + 2) (w1.heap.size + 1) (fun v => #[.string nm, .slice pvo pvn pvc, v]) pv (min 3 a.r.length + 1) ((actRow docB a.r 3).map strC).flatten)
       case first =>
        go_wp2_with fail
        go_loopw [15] (fun jv wr => ∃ (j : Nat) (pv : Value), jv = .int .i64 j ∧ j ≤ a.r.length ∧ j ≤ 3 ∧ St5 w wp wr (w1.heap.size + 1) (w1.heap.size + 2) (w1.heap.size + 1) (fun v => #[.string nm, .slice pvo pvn pvc, v]) pv (j + 1) ((actRow docB a.r j).map strC).flatten) (fun jv _ => 3 - (intOf jv).toNat)
        case atStart => exact ⟨0, _, by go_num, Nat.zero_le _, by omega, bp, Nat.le_refl _, fun _ _ _ _ => rfl, HK6, own_one (Nat.le_refl _) HR6, .inl rfl⟩
        case round =>
         clear hbr HST
         obtain ⟨j, pv, rfl, hjl, hj3, hst2⟩ := hrel
         have HST2 := hide hst2
         have hbj := hst2.below
         have hAR0 : ∀ (XX : List Value) (s : ByteArray) (b : Act), XX = ((actRow docB a.r j).map strC).flatten → BR (⟨w, wr, (w1.heap.size + 1), (w1.heap.size + 2), 9, 1, fun v => #[.string nm, .slice pvo pvn pvc, v], 83, pv, j + 1, XX, [.string s], 1, 11, 12, 14, 199, 200⟩ : ARp) (fun _ => false) b wr.drew := fun XX s b e => BR.start b hst2.below hst2.k (by rw [e]; exact hst2.own)
         have hsz4 := hst2.size
         clear hst2
         have z1 := (hbj.cell (p := ⟨g, off + i * 3 + 2, none⟩) hgw).trans wy2
         by_cases hjt : j < a.r.length
         ·have j0 : (0 : Int) ≤ (j : Int) := by omega
          have j1 : (j : Int) < (a.r.length : Int) := by omega
          by_cases hj : j < 3
          ·have j2 : (j : Int) < 3 := by omega
           obtain ⟨pg, poff, rfl, hpgw, hcn⟩ := rowG_at (unhide HF) (Below.refl _ w) hjt
           have cN0 := hcn 0 _ rfl
           simp only [Nat.mul_one, Nat.add_zero] at cN0
           have cP0 := wy2
           have HXs := hide (actRow_next docB a.r j hjt)
           generalize a.r[j] = n at *
           have CN := fun w' => kindS_any n w'
           generalize knS n = s at *
           obtain ⟨XX, hXX⟩ : ∃ XX, XX = ((actRow docB a.r j).map strC).flatten := ⟨_, rfl⟩
           have hAR0 := fun b => hAR0 XX s b hXX
           rw [← hXX] at HXs
           clear hXX hcn
           go_upto_region 32 with fail
           as_aux_lemma =>
            refine wp_specsB 14 (seSp (w1.heap.size + 2) 2 (pv) (.slice (some ⟨g, off, none⟩) as_.length ac) i g (off + i * 3) (off + i * 3 + 2) pg poff (a.r.length) fc j n s) (BR (⟨w, wr, (w1.heap.size + 1), (w1.heap.size + 2), 9, 1, fun v => #[.string nm, .slice pvo pvn pvc, v], 83, pv, j + 1, XX, [.string s], 1, 11, 12, 14, 199, 200⟩ : ARp)) (by kernel_rfl) (by kernel_rfl) (by kernel_rfl) (hAR0 _) ?_ ?_ ?_
            ·intro i' o hi' ho L a' w' hL hw hR hdep hslot hsz' K hK
             have hbw' : Below w.heap.size w w' := hR.below
             clear hAR0
             match i', hi' with
             | 0, _ =>
              cases ho
              have e0 : a'.tmps.getD 13 undef = .pointer (some ⟨(w1.heap.size + 2), 0, none⟩) := hslot 13 (by decide)
              clear hsz'
              unfold Oper.wp
              go_simp
              exact hK _ _ rfl (hR.grow 0 188 _ (show (0 : Nat) ≠ 11 ∧ (0 : Nat) ≠ 12 ∧ (0 : Nat) ≠ 14 from by decide) (show (188 : Nat) ≠ 199 ∧ (188 : Nat) ≠ 200 from by decide) (Below.refl _ _)) (fun _ _ h => h)
             | 1, _ =>
              cases ho
              have e0 : a'.tmps.getD 188 undef = .pointer (some ⟨(w1.heap.size + 2), 2, none⟩) := hdep 0 (by decide) (by kernel_rfl)
              have hK6 := hR.kb (hR.noS (hR.noA (.inl hL)))
              have cK : w'.cell? ⟨(w1.heap.size + 2), 2, none⟩ = some (pv) := lc_ hK6 rfl
              clear hK6 hbw'
              clear hsz'
              unfold Oper.wp
              go_simp
              exact hK _ _ rfl (hR.grow 1 189 _ (show (1 : Nat) ≠ 11 ∧ (1 : Nat) ≠ 12 ∧ (1 : Nat) ≠ 14 from by decide) (show (189 : Nat) ≠ 199 ∧ (189 : Nat) ≠ 200 from by decide) (Below.refl _ _)) (fun _ _ h => h)
             | 2, _ =>
              cases ho
              have e0 : a'.tmps.getD 1 undef = .slice (some ⟨g, off, none⟩) as_.length ac := hslot 1 (by decide)
              clear hsz'
              unfold Oper.wp
              go_simp
              exact hK _ _ rfl (hR.grow 2 190 _ (show (2 : Nat) ≠ 11 ∧ (2 : Nat) ≠ 12 ∧ (2 : Nat) ≠ 14 from by decide) (show (190 : Nat) ≠ 199 ∧ (190 : Nat) ≠ 200 from by decide) (Below.refl _ _)) (fun _ _ h => h)
             | 3, _ =>
              cases ho
              have e0 : a'.tmps.getD 12 undef = .int .i64 i := hslot 12 (by decide)
              clear hsz'
              unfold Oper.wp
              go_simp
              exact hK _ _ rfl (hR.grow 3 191 _ (show (3 : Nat) ≠ 11 ∧ (3 : Nat) ≠ 12 ∧ (3 : Nat) ≠ 14 from by decide) (show (191 : Nat) ≠ 199 ∧ (191 : Nat) ≠ 200 from by decide) (Below.refl _ _)) (fun _ _ h => h)
             | 4, _ =>
              cases ho
              have e0 : a'.tmps.getD 190 undef = .slice (some ⟨g, off, none⟩) as_.length ac := hdep 2 (by decide) (by kernel_rfl)
              have e1 : a'.tmps.getD 191 undef = .int .i64 i := hdep 3 (by decide) (by kernel_rfl)
              clear hsz'
              unfold Oper.wp
              go_simp
              exact hK _ _ rfl (hR.grow 4 192 _ (show (4 : Nat) ≠ 11 ∧ (4 : Nat) ≠ 12 ∧ (4 : Nat) ≠ 14 from by decide) (show (192 : Nat) ≠ 199 ∧ (192 : Nat) ≠ 200 from by decide) (Below.refl _ _)) (fun _ _ h => h)
             | 5, _ =>
              cases ho
              have e0 : a'.tmps.getD 192 undef = .pointer (some ⟨g, off + i * 3, none⟩) := hdep 4 (by decide) (by kernel_rfl)
              clear hsz'
              unfold Oper.wp
              go_simp
              exact hK _ _ rfl (hR.grow 5 193 _ (show (5 : Nat) ≠ 11 ∧ (5 : Nat) ≠ 12 ∧ (5 : Nat) ≠ 14 from by decide) (show (193 : Nat) ≠ 199 ∧ (193 : Nat) ≠ 200 from by decide) (Below.refl _ _)) (fun _ _ h => h)
             | 6, _ =>
              cases ho
              have e0 : a'.tmps.getD 193 undef = .pointer (some ⟨g, off + i * 3 + 2, none⟩) := hdep 5 (by decide) (by kernel_rfl)
              have cP := (hbw'.cell (p := ⟨g, off + i * 3 + 2, none⟩) hgw).trans cP0
              clear hbw'
              clear hsz'
              unfold Oper.wp
              go_simp
              exact hK _ _ rfl (hR.grow 6 194 _ (show (6 : Nat) ≠ 11 ∧ (6 : Nat) ≠ 12 ∧ (6 : Nat) ≠ 14 from by decide) (show (194 : Nat) ≠ 199 ∧ (194 : Nat) ≠ 200 from by decide) (Below.refl _ _)) (fun _ _ h => h)
             | 7, _ =>
              cases ho
              have e0 : a'.tmps.getD 15 undef = .int .i64 j := hslot 15 (by decide)
              clear hsz'
              unfold Oper.wp
              go_simp
              exact hK _ _ rfl (hR.grow 7 195 _ (show (7 : Nat) ≠ 11 ∧ (7 : Nat) ≠ 12 ∧ (7 : Nat) ≠ 14 from by decide) (show (195 : Nat) ≠ 199 ∧ (195 : Nat) ≠ 200 from by decide) (Below.refl _ _)) (fun _ _ h => h)
             | 8, _ =>
              cases ho
              have e0 : a'.tmps.getD 194 undef = .slice (some ⟨pg, poff, none⟩) a.r.length fc := hdep 6 (by decide) (by kernel_rfl)
              have e1 : a'.tmps.getD 195 undef = .int .i64 j := hdep 7 (by decide) (by kernel_rfl)
              clear hsz'
              unfold Oper.wp
              go_simp
              exact hK _ _ rfl (hR.grow 8 196 _ (show (8 : Nat) ≠ 11 ∧ (8 : Nat) ≠ 12 ∧ (8 : Nat) ≠ 14 from by decide) (show (196 : Nat) ≠ 199 ∧ (196 : Nat) ≠ 200 from by decide) (Below.refl _ _)) (fun _ _ h => h)
             | 9, _ =>
              cases ho
              have e0 : a'.tmps.getD 196 undef = .pointer (some ⟨pg, poff + j, none⟩) := hdep 8 (by decide) (by kernel_rfl)
              have cN := (hbw'.cell (p := ⟨pg, poff + j, none⟩) hpgw).trans cN0
              clear hbw'
              clear hsz'
              unfold Oper.wp
              go_simp
              exact hK _ _ rfl (hR.grow 9 197 _ (show (9 : Nat) ≠ 11 ∧ (9 : Nat) ≠ 12 ∧ (9 : Nat) ≠ 14 from by decide) (show (197 : Nat) ≠ 199 ∧ (197 : Nat) ≠ 200 from by decide) (Below.refl _ _)) (fun _ _ h => h)
             | 10, _ =>
              cases ho
              have e0 : a'.tmps.getD 197 undef = .int .i64 n := hdep 9 (by decide) (by kernel_rfl)
              have C := CN w'
              clear hsz' hbw' CN
              unfold Oper.wp
              go_simp
              refine C.mono ?_
              rintro e w3 ⟨rfl, b3⟩
              exact hK _ _ rfl (hR.grow 10 198 _ (show (10 : Nat) ≠ 11 ∧ (10 : Nat) ≠ 12 ∧ (10 : Nat) ≠ 14 from by decide) (show (198 : Nat) ≠ 199 ∧ (198 : Nat) ≠ 200 from by decide) b3) seSp_up
             | 11, _ =>
              cases ho
              have e0 : a'.tmps.getD 198 undef = .string s := hdep 10 (by decide) (by kernel_rfl)
              have e0' := gd_ e0
              have hG := hide (hR.alloc hL (by rw [hsz']; exact Nat.le_of_ble_eq_true (by kernel_rfl)) (show (12 : Nat) ≠ 11 from by decide) (show (14 : Nat) ≠ 11 from by decide))
              clear hsz' hbw'
              unfold Oper.wp
              go_simp
              exact hK _ _ trivial (unhide hG) seSp_up
             | 12, _ =>
              cases ho
              have hLR : L 1 = true := hw 1 (by kernel_rfl)
              have hLN : L 11 = true := hw 11 (by kernel_rfl)
              have e0 : a'.tmps.getD 189 undef = pv := hdep 1 (by decide) (by kernel_rfl)
              obtain ⟨blk, e1, hblk⟩ := hR.new hLN hL
              have hcell : ∀ jj u, ([.string s] : List Value)[jj]? = some u → w'.cell? ((⟨blk, 0, none⟩ : Addr).add jj) = some u := by
               intro jj u hu
               rw [Addr.add_lit, Nat.zero_add, Lib.cell_of_heap hblk]
               simpa using hu
              obtain ⟨v', w'', hr, hown', hgr, _, hat⟩ := run_append_own_at (P := Try.prog) w' ((w1.heap.size + 1)) 77 77 9 iS _ 1 16 Try.underlying77 hiS hzS0 hzS1 hzS2 rfl (by decide) (pv) (j + 1) XX (hR.row hL) ⟨blk, 0, none⟩ 1 1 [.string s] rfl hcell (by intro u hu; simp at hu; subst hu; rfl) (by unfold maxLen; omega) (by omega) (by have := hR.size; simp only at this; omega)
              have hs : a'.eval (.tmp 189) = pv := e0
              have hx : a'.eval (.tmp 199) = .slice (some ⟨blk, 0, none⟩) 1 1 := e1
              unfold Oper.wp execOp
              simp only [resolve, invoke, builtin, Sem.run_bind, Sem.run_pure, Result.andThen_ok, List.map_toArray, List.map_cons, List.map_nil, hs, hx, hr]
              exact hK _ _ trivial (hR.appd hL hLR hLN (by rw [hsz']; exact Nat.le_of_ble_eq_true (by kernel_rfl)) (show (14 : Nat) ≠ 12 from by decide) (show (9 : Nat) ≠ 83 by decide) (by show (w1.heap.size + 2) < wr.heap.size; omega) (by show w.heap.size ≤ (w1.heap.size + 1); omega) hown' hgr hat) seSp_up
             | 13, _ =>
              cases ho
              have e0 : a'.tmps.getD 13 undef = .pointer (some ⟨(w1.heap.size + 2), 0, none⟩) := hslot 13 (by decide)
              clear hsz'
              unfold Oper.wp
              go_simp
              exact hK _ _ rfl (hR.grow 13 201 _ (show (13 : Nat) ≠ 11 ∧ (13 : Nat) ≠ 12 ∧ (13 : Nat) ≠ 14 from by decide) (show (201 : Nat) ≠ 199 ∧ (201 : Nat) ≠ 200 from by decide) (Below.refl _ _)) (fun _ _ h => h)
             | i + 14, h => exact absurd h (by omega)
            ·intro i' o hi' ho L a' w' hL hw hR hdep K hK
             have : i' = 14 := by
              have h := (List.getElem?_eq_some_iff.1 ho).1
              simp only [List.length_cons, List.length_nil] at h
              omega
             subst this
             cases ho
             have hA : L 12 = true := hw 12 (by kernel_rfl)
             obtain ⟨ao7, n7, c7, e1, hST⟩ := hR.stor hL hA (show (11 : Nat) ≠ 14 from by decide) (show (12 : Nat) ≠ 14 from by decide) (by show w.heap.size ≤ (w1.heap.size + 2); omega) (show (9 : Nat) ≠ 83 by decide) 2 (fun _ => rfl)
             have hST := hide hST
             have e2 : a'.tmps.getD 201 undef = .pointer (some ⟨(w1.heap.size + 2), 2, none⟩) := hdep 13 (by decide) (by kernel_rfl)
             have e1 : a'.tmps.getD 200 undef = .slice ao7 n7 c7 := e1
             have hkb := hR.kb hL
             have x6 : w'.cell? ⟨(w1.heap.size + 2), 2, none⟩ = some (pv) := lc_ hkb rfl
             have f6 : w'.frozen? ⟨(w1.heap.size + 2), 2, none⟩ = false := Lib.frozen_of_heap hkb 2
             clear hkb hAR0
             unfold Oper.wp
             go_simp
             exact hK _ (unhide hST) seSp_up undef
            ·intro v L w5 hall hR hsp
             obtain ⟨ao7, n7, c7, _, hown7, hk7, hloc7⟩ := hR.app (hall 12 (by decide))
             have hk7 := hk7 (hall 14 (by decide))
             have b7 : Below w.heap.size w w5 := hR.below
             have HV := hide (And.intro b7 (And.intro hR.size (And.intro hR.keep (And.intro hk7 (And.intro hown7 hloc7)))))
             clear hk7 hown7 hloc7 hAR0
             have e0 : v 0 = _ := hsp 0 (by decide)
             have e1 : v 1 = _ := hsp 1 (by decide)
             have e2 : v 2 = _ := hsp 2 (by decide)
             have e3 : v 3 = _ := hsp 3 (by decide)
             have e4 : v 4 = _ := hsp 4 (by decide)
             have e5 : v 5 = _ := hsp 5 (by decide)
             have e6 : v 6 = _ := hsp 6 (by decide)
             have e7 : v 7 = _ := hsp 7 (by decide)
             have e8 : v 8 = _ := hsp 8 (by decide)
             have e9 : v 9 = _ := hsp 9 (by decide)
             have e10 : v 10 = _ := hsp 10 (by decide)
             have e13 : v 13 = _ := hsp 13 (by decide)
             clear hR hall hsp
             simp only [putAll, dstOf, List.getElem?_cons_zero, List.getElem?_cons_succ, Option.bind_some, e0, e1, e2, e3, e4, e5, e6, e7, e8, e9, e10, e13]
             clear e0 e1 e2 e3 e4 e5 e6 e7 e8 e9 e10 e13
             simp only [Act.put, List.setIfInBounds_toArray, List.set_cons_succ, List.set_cons_zero]
             generalize v 11 = v11
             generalize v 12 = v12
             go_wp2
             go_roundw
             case rel =>
              refine ⟨j + 1, .slice ao7 n7 c7, by go_num, by omega, by omega, ?_⟩
              obtain ⟨q1, q2, q3, q4, q5, q6⟩ := unhide HV
              exact St5.next (unhide HST2) q1 q2 q3 q4 (by rw [unhide HXs]; exact q5) q6
             case measure =>
              simp only [intOf]
              omega
          ·have j2 : ¬ (j : Int) < 3 := by omega
           go_wp2_with fail
           go_meet
           case rel =>
            obtain ⟨t1, t2⟩ := take_out a.r hjl hj3 (.inl hj)
            exact ⟨pv, by rw [t1, show actRow docB a.r 3 = actRow docB a.r j by unfold actRow; rw [t2]]; exact unhide HST2⟩
         ·have j1 : ¬ (j : Int) < (a.r.length : Int) := by omega
          go_wp2_with fail
          go_meet
          case rel =>
           obtain ⟨t1, t2⟩ := take_out a.r hjl hj3 (.inr hjt)
           exact ⟨pv, by rw [t1, show actRow docB a.r 3 = actRow docB a.r j by unfold actRow; rw [t2]]; exact unhide HST2⟩
       case rest =>
        rename World => wd
        obtain ⟨fv, hst3⟩ := hcut
        obtain ⟨fvo, fvn, fvc, rfl⟩ : ∃ a n c, fv = .slice a n c := by
         rcases hst3.own.2 with ⟨h, _⟩ | ⟨g, cap, cur, h, _⟩
         ·exact ⟨_, _, _, h⟩
         ·exact ⟨_, _, _, h⟩
        have KD := act_done (a := a) (K := w1.heap.size + 2) (P := w1.heap.size) (R := w1.heap.size + 1) (by omega) (by omega) (by omega) (by omega) (by omega) (by omega) (unhide HB4) zr4 (unhide HST2) (actRow_len3 _ _).symm hst3 (actRow_len3 _ _).symm (unhide Hnm)
        have bd := hst3.below
        have hKd := hst3.k
        have zr : w.heap.size + 1 < wr.heap.size := by omega
        have hSd := (KD.1 (w.heap.size + 1) zr).trans (unhide HST).s
        obtain ⟨kc0, kc1, kc2⟩ := bl3_ hKd
        have sc0 : wd.cell? ⟨w.heap.size + 1, 1, none⟩ = some lv := lc_ hSd rfl
        have bl := blw1 wd (.cells #[.string nm, .slice pvo pvn pvc, .slice fvo fvn fvc] 83)
        have ownk := own_belowS (own_turn (unhide HST).own fun b hb => KD.1 b ((unhide HST).own.lt b hb).2) bl
        have hnb := ownk.lt
        have hSk := kept_of_below bl hSd
        have bk := bd.trans (bl.mono bd.size)
        have HNw := hide (alloc_heap wd (.cells #[.string nm, .slice pvo pvn pvc, .slice fvo fvn fvc] 83))
        have Hownk := hide ownk
        have HKD := hide (And.intro KD (And.intro bl hSk))
        have zd := KD.2.1
        have zk : (wd.alloc (.cells #[.string nm, .slice pvo pvn pvc, .slice fvo fvn fvc] 83)).heap.size = wd.heap.size + 1 := by simp
        clear KD hst3 hKd hSd ownk hSk bl HP HF HB4 HST2 wy1 wy2
        go_wp2_with (at_builtin; refine wpList_append_own _ rfl _ _ 31 rfl wK.heap.size 83 iA _ 3 64 Try.underlying31 hiA hzA0 hzA1 hzA2 rfl (by decide) _ _ _ rfl (unhide Hownk) ⟨wd.heap.size, 0, none⟩ 1 1 [.string nm, .slice pvo pvn pvc, .slice fvo fvn fvc] rfl rfl ?d1 ?d2 ?d3 ?d4 ?d5 ?_)
        case d1 =>
         intro j u hj
         rw [Addr.add_lit, Nat.zero_add, Lib.cell_of_heap (unhide HNw)]
         simpa using hj
        case d2 => intro u hu; simp at hu; rcases hu with rfl | rfl | rfl <;> rfl
        case d3 => unfold maxLen; omega
        case d4 => omega
        case d5 => omega
        intro v6 w6 hown6 hgrow _
        obtain ⟨ao6, n6, c6, rfl⟩ : ∃ a n c, v6 = .slice a n c := by
         rcases hown6.2 with ⟨h, _⟩ | ⟨g, cap, cur, h, _⟩
         ·exact ⟨_, _, _, h⟩
         ·exact ⟨_, _, _, h⟩
        have b6 : Below w.heap.size w w6 := bk.grown hgrow bk.size (fun j hj => by have := (hnb j hj).1; omega)
        have hS6 : w6.heap[w.heap.size + 1]? = _ := (hgrow.block (w.heap.size + 1) (by omega) (fun h => by have := (hnb _ h.symm).1; omega)).trans (unhide HKD).2.2
        have s6 : w6.cell? ⟨w.heap.size + 1, 1, none⟩ = some lv := lc_ hS6 rfl
        have f6 : w6.frozen? ⟨w.heap.size + 1, 1, none⟩ = false := Lib.frozen_of_heap hS6 1
        have ST7 := St4.next (x := ⟨nm, pvo, pvn, pvc, fvo, fvn, fvc⟩) (unhide HST) (by omega) hlt (unhide HKD).1.1 (unhide HKD).1.2.1 (by rw [← unhide Hae]; exact (unhide HKD).1.2.2) (unhide HKD).2.1 b6 hown6 hgrow
        have HST7 := hide ST7
        clear ST7 hown6 hgrow hS6 HKD Hownk hnb HNw
        go_wp2
        go_roundw
        case rel => exact ⟨i + 1, _, _, by go_num, by omega, by omega, unhide HST7⟩
        case measure =>
         simp only [intOf]
         omega
     ·have i2 : ¬ (i : Int) < 5 := by omega
      go_wp2_with fail
      go_meet
      case rel =>
       obtain ⟨t1, _⟩ := take_out as_ hil hi5 (.inl h5)
       exact ⟨lv, xs, by rw [t1]; exact unhide HST⟩
    ·have i1 : ¬ (i : Int) < (as_.length : Int) := by omega
     go_wp2_with fail
     go_meet
     case rel =>
      obtain ⟨t1, _⟩ := take_out as_ hil hi5 (.inr hlt)
      exact ⟨lv, xs, by rw [t1]; exact unhide HST⟩
  case rest =>
   rename World => we
   obtain ⟨lv, xs, hst4⟩ := hcut
   obtain ⟨ko', kc', ao', ac', el, rfl, hre, HS⟩ := schema_done (unhide HST1) hst4
   have be := hst4.below
   have hse := hst4.s
   have ze : w.heap.size + 1 < we.heap.size := (Array.getElem?_eq_some_iff.1 hse).1
   have HS := hide HS
   clear el hst4
   obtain ⟨cs0, cs1⟩ := bl2_ hse
   obtain ⟨cr0, cr1⟩ := bl2_ hre
   have fr0 := Lib.frozen_of_heap hre 0
   have fr1 := Lib.frozen_of_heap hre 1
   generalize min 5 as_.length = n7 at *
   have q7 := heap_setCell_same _ w.heap.size 1 _ _ (.slice ao' n7 ac') (heap_setCell_same we w.heap.size 0 _ _ (.slice lko lkn lkc) hre)
   have b7 := (be.setCell (p := ⟨w.heap.size, 0, none⟩) (Nat.le_refl _) (.slice lko lkn lkc)).setCell (p := ⟨w.heap.size, 1, none⟩) (Nat.le_refl _) (.slice ao' n7 ac')
   have k7 : ∀ b, b < we.heap.size → b ≠ w.heap.size → ((we.setCell ⟨w.heap.size, 0, none⟩ (.slice lko lkn lkc)).setCell ⟨w.heap.size, 1, none⟩ (.slice ao' n7 ac')).heap[b]? = we.heap[b]? := fun b _ hb => (Below.heap_setCell _ ⟨w.heap.size, 1, none⟩ _ b hb).trans (Below.heap_setCell _ ⟨w.heap.size, 0, none⟩ _ b hb)
   have z7 : we.heap.size ≤ ((we.setCell ⟨w.heap.size, 0, none⟩ (.slice lko lkn lkc)).setCell ⟨w.heap.size, 1, none⟩ (.slice ao' n7 ac')).heap.size := by simp
   have HQ := hide (And.intro q7 (And.intro b7 (unhide HS _ z7 k7)))
   clear q7 b7 k7 z7 HS
   go_upto_region 34 with fail
   go_wp2
   obtain ⟨q7, b7, HS⟩ := unhide HQ
   obtain ⟨d0, d1⟩ := bl2_ q7
   generalize (we.setCell _ _).setCell _ _ = w7 at *
   exact bodyPost_ret (v := .agg #[.slice lko lkn lkc, .slice ao' n7 ac']) (by simp [results, Try.results23, go_sem, d0, d1]) rfl ⟨b7, _, rfl, HS⟩
end Go.Proofs.Ytagnbpobcijakaa
