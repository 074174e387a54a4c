/-
  chancellaw14.DecideCounts: the walk.
-/
import Derived.Test.YtldmfdkmkjiabaaGreatDcKR
namespace Go.Proofs.YtldmfdkmkjiabaaGreat
open Go.RowKit Go.Sort

def cnum16 (x : Int) : Nat := (x % 16).toNat
theorem cnum16_lt (x : Int) : cnum16 x < 16 := by unfold cnum16; omega
theorem cnum16_is (x : Int) : x % 16 = (cnum16 x : Int) := by unfold cnum16; omega

theorem remN (n : Nat) : ((n : Int) % 2 == 1) = decide (n % 2 = 1) := by
  rw [Bool.eq_iff_iff]
  simp
  omega
theorem one_lits {nm : ByteArray} {f : Bool} {cb : Nat} (u : Value) (hu : u ∈ [.string nm, .bool f, .int .i64 0, .string ⟨#[]⟩, .string ⟨#[]⟩, .int .i64 0, .string ⟨#[]⟩, .string ⟨#[]⟩, .int .i64 0, .string ⟨#[]⟩, .string ⟨#[]⟩, .slice (some ⟨cb, 0, none⟩) 1 1]) : u.oneCell' = true := by
  simp only [List.mem_cons, List.not_mem_nil, or_false] at hu
  rcases hu with rfl | rfl | rfl | rfl | rfl | rfl | rfl | rfl | rfl | rfl | rfl | rfl <;> rfl

set_option maxHeartbeats 16000000 in
set_option maxRecDepth 1000000 in
theorem dcounts_walk (ao : Option Addr) (xs : List Int) (cap : Nat) (w : World) (hr : IntsAt w ao xs) (hf : FitL w) :
    Calls Tryz.prog 5 #[.slice ao xs.length cap] w fun e w' => e = .returned (.bool true) ∧ Below w.heap.size w w' := by
  obtain ⟨iN, hiN, nz0, nz1, nz2⟩ := info_partsE infoNamed
  obtain ⟨iS, hiS, sz0, sz1, sz2⟩ := info_partsE infoStr
  have K0 := known14_any w hf
  have HR := hide hr
  obtain ⟨N, hN⟩ : ∃ N, N = xs.length := ⟨_, rfl⟩
  rw [← hN]
  have HN := hide hN
  have HF := hide hf
  clear hr hN hf
  go_enter Tryz.func5, Tryz.ntmps5
  go_wp2_with fail
  refine K0.mono ?_
  clear K0
  rintro x w1 ⟨rfl, b1⟩
  have HX1 := hide ((unhide HR).below b1)
  clear HR
  go_wp2
  go_loopw [3, 4, 5, 6, 7] (fun pv v4 v5 v6 iv wr => ∃ (j : Nat) (L : List NIt), iv = .int .i64 j ∧ j ≤ N ∧ j ≤ 12 ∧ L.length = j ∧ Below w1.heap.size w1 wr ∧ OwnN wr w1.heap.size pv L ∧ Rows3 wr w1.heap.size (V3 v4 v5 v6) (tlyD (noD aU zU zU) (lN L))) (fun _ _ _ _ iv _ => 12 - (intOf iv).toNat)
  case atStart => exact ⟨0, [], rfl, Nat.zero_le _, Nat.zero_le _, rfl, Below.refl _ _, OwnN.nil _ _, V3_nil _ _ _⟩
  case round =>
    obtain ⟨j, L, hiv, hjN, hj12, hLj, bw, hPN, hR3⟩ := hrel
    subst hiv
    have HPN := hide hPN
    have HR3 := hide hR3
    clear hPN hR3
    by_cases h1 : j < N
    · have i1 : (j : Int) < (N : Int) := by omega
      by_cases h2 : j < 12
      · have i2 : (j : Int) < 12 := by omega
        have hjl : j < xs.length := by rw [← unhide HN]; exact h1
        obtain ⟨b, off, rfl, hb, hc⟩ := unhide HX1 j hjl
        have hc := (bw.cell (p := ⟨b, off + j, none⟩) hb).trans hc
        have CW := fun w' => within14_any xs[j] 16 (by decide) (by decide) w'
        rw [cnum16_is] at CW
        obtain ⟨n, hn⟩ : ∃ n, n = cnum16 xs[j] := ⟨_, rfl⟩
        have hn16 : n < 16 := by rw [hn]; exact cnum16_lt _
        rw [← hn] at CW
        have CC := fun w' => cond14_any (n / 2) (by omega) w'
        generalize xs[j] = x at *
        have HN16 := hide hn16
        clear hn
        have x0 : (0 : Int) ≤ (j : Int) := by omega
        go_wp2_with fail
        refine (CW _).mono ?_
        clear CW hc
        rintro e wr ⟨rfl, rfl⟩
        have b2 := ev1 wr (.cells #[.int .u8 (97 + (j : Int))] 5)
        have hcv := conv14 wr.heap.size j (wr.alloc (.cells #[.int .u8 (97 + (j : Int))] 5)) (by omega) (alloc_heap wr _)
        have B2 := bw.trans (b2.mono bw.size)
        have HPN2 := hide ((unhide HPN).below b2)
        have HR32 := hide ((unhide HR3).below b2)
        have hq2 : (n : Int) / 2 = ((n / 2 : Nat) : Int) := by omega
        generalize letN j = nm at *
        go_upto_region 10 with fail
        clear hcv b2 HPN HR3
        generalize wr.alloc _ = w2 at *
        obtain ⟨k, hk⟩ : ∃ k, k = n / 2 := ⟨_, rfl⟩
        rw [← hk] at CC hq2
        have HK := hide hk
        clear hk
        have C := CC w2
        clear CC
        go_wp2_with fail
        refine C.mono ?_
        clear C hq2
        rintro e w3 ⟨b3, kb, hkb, hcm, rfl⟩
        have B3 := B2.trans (b3.mono B2.size)
        have HPN3 := hide ((unhide HPN2).below b3)
        have HR33 := hide ((unhide HR32).below b3)
        have b4 := ev1 w3 (.cells #[.bool (condU k), .int .i64 (condR7 kb k).k, .bool (condR7 kb k).b, .int .i64 (condR7 kb k).n, .string (condR7 kb k).s, .string (condR7 kb k).t, .string (condR7 kb k).i, .slice (condR7 kb k).lo (condR7 kb k).ll (condR7 kb k).lc] 56)
        have c4 := alloc_heap w3 (.cells #[.bool (condU k), .int .i64 (condR7 kb k).k, .bool (condR7 kb k).b, .int .i64 (condR7 kb k).n, .string (condR7 kb k).s, .string (condR7 kb k).t, .string (condR7 kb k).i, .slice (condR7 kb k).lo (condR7 kb k).ll (condR7 kb k).lc] 56)
        have B4 := B3.trans (b4.mono B3.size)
        have HPN4 := hide ((unhide HPN3).below b4)
        have HR34 := hide ((unhide HR33).below b4)
        have HCM4 := hide (hcm.turn (w' := w3.alloc (.cells #[.bool (condU k), .int .i64 (condR7 kb k).k, .bool (condR7 kb k).b, .int .i64 (condR7 kb k).n, .string (condR7 kb k).s, .string (condR7 kb k).t, .string (condR7 kb k).i, .slice (condR7 kb k).lo (condR7 kb k).ll (condR7 kb k).lc] 56)) fun b _ hl => b4.block b hl)
        clear hcm HPN2 HR32 HPN3 HR33 b3
        go_upto_region 11 with fail
        generalize w3.alloc _ = w4 at *
        have cc0 : w4.cell? ⟨w3.heap.size, 0, none⟩ = some (.bool (condU k)) := by rw [Lib.cell_of_heap c4]; rfl
        have cc1 : w4.cell? ⟨w3.heap.size, 1, none⟩ = some (.int .i64 (condR7 kb k).k) := by rw [Lib.cell_of_heap c4]; rfl
        have cc2 : w4.cell? ⟨w3.heap.size, 2, none⟩ = some (.bool (condR7 kb k).b) := by rw [Lib.cell_of_heap c4]; rfl
        have cc3 : w4.cell? ⟨w3.heap.size, 3, none⟩ = some (.int .i64 (condR7 kb k).n) := by rw [Lib.cell_of_heap c4]; rfl
        have cc4 : w4.cell? ⟨w3.heap.size, 4, none⟩ = some (.string (condR7 kb k).s) := by rw [Lib.cell_of_heap c4]; rfl
        have cc5 : w4.cell? ⟨w3.heap.size, 5, none⟩ = some (.string (condR7 kb k).t) := by rw [Lib.cell_of_heap c4]; rfl
        have cc6 : w4.cell? ⟨w3.heap.size, 6, none⟩ = some (.string (condR7 kb k).i) := by rw [Lib.cell_of_heap c4]; rfl
        have cc7 : w4.cell? ⟨w3.heap.size, 7, none⟩ = some (.slice (condR7 kb k).lo (condR7 kb k).ll (condR7 kb k).lc) := by rw [Lib.cell_of_heap c4]; rfl
        obtain ⟨f, hfd⟩ : ∃ f, f = decide (n % 2 = 1) := ⟨_, rfl⟩
        have hm2 : ((n : Int) % 2 == 1) = f := by rw [hfd]; exact remN n
        have HFD := hide hfd
        clear hfd
        obtain ⟨b5, z5, k5, k6⟩ := ev2 w4 (.cells #[.bool (condU k), .int .i64 (condR7 kb k).k, .bool (condR7 kb k).b, .int .i64 (condR7 kb k).n, .string (condR7 kb k).s, .string (condR7 kb k).t, .string (condR7 kb k).i, .slice (condR7 kb k).lo (condR7 kb k).ll (condR7 kb k).lc] 56) (.cells #[.string nm, .bool f, .int .i64 0, .string ⟨#[]⟩, .string ⟨#[]⟩, .int .i64 0, .string ⟨#[]⟩, .string ⟨#[]⟩, .int .i64 0, .string ⟨#[]⟩, .string ⟨#[]⟩, .slice (some ⟨w4.heap.size, 0, none⟩) 1 1] 63)
        have HPN5 := hide ((unhide HPN4).below b5)
        have HR35 := hide ((unhide HR34).below b5)
        have HCM5 := hide ((unhide HCM4).turn fun b _ hl => b5.block b hl)
        have B5 := B4.trans (b5.mono B4.size)
        have c5 := hide (kept_of_below b5 c4)
        have Hown5 := hide (unhide HPN5).own
        have HLj := hide hLj
        clear c4 HPN4 HR34 HCM4 z5 b4
        go_wp2_with (at_builtin; refine wpList_append_own_at _ rfl _ _ 59 rfl w1.heap.size 63 iN _ 12 168 Tryz.underlying59 hiN nz0 nz1 nz2 rfl (by decide) _ _ _ rfl (unhide Hown5) ⟨w4.heap.size + 1, 0, none⟩ 1 1 [.string nm, .bool f, .int .i64 0, .string ⟨#[]⟩, .string ⟨#[]⟩, .int .i64 0, .string ⟨#[]⟩, .string ⟨#[]⟩, .int .i64 0, .string ⟨#[]⟩, .string ⟨#[]⟩, .slice (some ⟨w4.heap.size, 0, none⟩) 1 1] rfl rfl ?p1 ?p2 ?p3 ?p4 ?p5 ?_)
        case p1 =>
          intro c u hu
          rw [Addr.add_lit, Nat.zero_add, Lib.cell_of_heap k6]
          simpa using hu
        case p2 => exact fun u hu => one_lits u hu
        case p3 => have := unhide HLj; unfold maxLen; omega
        case p4 => have := unhide HLj; omega
        case p5 => have := B5.size; exact this
        intro v8 w8 hown8 hgrow _ _
        have B8 : Below w1.heap.size w1 w8 := B5.grown hgrow B5.size (fun g e => ((unhide Hown5).lt g e).1)
        have hkt := KTy.of_grown (unhide HPN5).own hgrow
        have HPN8 := hide ((unhide HPN5).push (v := v8) (w' := w8) ⟨nm, n, w4.heap.size, kb⟩ (by rw [← unhide HK]; exact k5) (by rw [← unhide HK]; exact unhide HCM5) (by rw [unhide HLj, show nCells ⟨nm, n, w4.heap.size, kb⟩ = [.string nm, .bool f, .int .i64 0, .string ⟨#[]⟩, .string ⟨#[]⟩, .int .i64 0, .string ⟨#[]⟩, .string ⟨#[]⟩, .int .i64 0, .string ⟨#[]⟩, .string ⟨#[]⟩, .slice (some ⟨w4.heap.size, 0, none⟩) 1 1] by rw [unhide HFD]; rfl]; exact hown8) hgrow)
        have HR38 := hide ((unhide HR35).kty hkt (by decide))
        have c8 := (hkt.keep _ _ _ _ (unhide c5) (by decide)).trans (unhide c5)
        have q0 : w8.cell? ⟨w3.heap.size, 0, none⟩ = some (.bool (condU k)) := by rw [Lib.cell_of_heap c8]; rfl
        have HQ0 := hide q0
        obtain ⟨ao8, n8, cc8, rfl⟩ : ∃ ao n c, v8 = .slice ao n c := by
          obtain ⟨ao, c, h, _⟩ := (unhide HPN8).row
          exact ⟨ao, _, c, h⟩
        have HNM := hide (show ∀ i, (tlyD (noD aU zU zU) (lN L) i).length ≤ 100000 from fun i => by
          have h1 := tlyD_len (noD aU zU zU) (lN L) i
          have h2 : (lN L).length = L.length := by unfold lN; rw [List.length_map]
          have h3 := unhide HLj
          omega)
        have HP := hide (fun i => tlyD_push (noD aU zU zU) L ⟨nm, n, w4.heap.size, kb⟩ i)
        have HL1 := hide (show (L ++ [(⟨nm, n, w4.heap.size, kb⟩ : NIt)]).length = j + 1 by rw [List.length_append, unhide HLj]; rfl)
        clear hkt c8 c5 k5 k6 hown8 hgrow HPN5 HR35 HCM5 Hown5 B5 b5 HFD hm2 q0 cc0 cc1 cc2 cc3 cc4 cc5 cc6 cc7
        generalize hit : (⟨nm, n, w4.heap.size, kb⟩ : NIt) = it at *
        have HIT := hide (show it.n = n ∧ it.nm = nm by rw [← hit]; exact ⟨rfl, rfl⟩)
        clear hit
        match n, HN16 with
        | 0, HN16 =>
          obtain rfl : k = 0 := unhide HK
          have q0 : w8.cell? ⟨w3.heap.size, 0, none⟩ = some (.bool false) := unhide HQ0
          have HKN := hide (show clsD (noD aU zU zU) (polN it.n) = 0 by rw [(unhide HIT).1, kN_is]; kernel_rfl)
          clear HQ0 HK HN16 x0 hn16 i1 i2
          have b9 := ev1 w8 (.cells #[.string nm] 9)
          have h9 := alloc_heap w8 (.cells #[.string nm] 9)
          have HR39 := hide ((unhide HR38).below b9)
          have HPN9 := hide ((unhide HPN8).below b9)
          have B9 := B8.trans (b9.mono B8.size)
          have Hown9 := hide (show (w8.alloc (.cells #[.string nm] 9)).ownsRow w1.heap.size 9 1 u4 (tlyD (noD aU zU zU) (lN L) 0).length (strsV (tlyD (noD aU zU zU) (lN L) 0)) from (unhide HR39).own 0 (by decide))
          clear HR38 HPN8 b9
          go_wp2_with (at_builtin; refine wpList_append_own_at _ rfl _ _ 60 rfl w1.heap.size 9 iS _ 1 16 Tryz.underlying60 hiS sz0 sz1 sz2 rfl (by decide) _ _ _ rfl (unhide Hown9) ⟨w8.heap.size, 0, none⟩ 1 1 [.string nm] rfl rfl ?p1 ?p2 ?p3 ?p4 ?p5 ?_)
          case p1 =>
            intro c u hu
            rw [Addr.add_lit, Nat.zero_add, Lib.cell_of_heap h9]
            simpa using hu
          case p2 =>
            intro u hu
            simp only [List.mem_cons, List.not_mem_nil, or_false] at hu
            subst hu
            rfl
          case p3 => have := unhide HNM 0; unfold maxLen; omega
          case p4 => have := unhide HNM 0; omega
          case p5 => have := B9.size; exact this
          intro v9 w9 hown9 hgrow9 _ hat9
          have BA : Below w1.heap.size w1 w9 := B9.grown hgrow9 B9.size (fun g e => ((unhide Hown9).lt g e).1)
          have HPNA := hide ((unhide HPN9).kty (KTy.of_grown (unhide Hown9) hgrow9) (by decide) (by decide) (by decide))
          have HRA := hide ((unhide HR39).next 0 (by decide) nm (S' := tlyD (noD aU zU zU) (lN (L ++ [it]))) (fun k' => by rw [unhide HP k', unhide HKN, (unhide HIT).2]) hown9 hgrow9 (hat9.imp id fun e => e.trans (by simp)))
          rw [V3_0] at HRA
          obtain ⟨ao9, n9, cc9, rfl⟩ : ∃ ao n c, v9 = .slice ao n c := by
            rcases hown9.2 with ⟨hv, _⟩ | ⟨g, cap, cur, hv, _⟩
            · exact ⟨_, _, _, hv⟩
            · exact ⟨_, _, _, hv⟩
          clear hown9 hgrow9 hat9 Hown9 HR39 HPN9 h9 B9 B8 q0
          go_wp2
          go_roundw
          case rel => exact ⟨j + 1, L ++ [it], by go_num, by omega, by omega, unhide HL1, BA, unhide HPNA, unhide HRA⟩
          case measure =>
            simp only [intOf]
            omega
        | 1, HN16 =>
          obtain rfl : k = 0 := unhide HK
          have q0 : w8.cell? ⟨w3.heap.size, 0, none⟩ = some (.bool false) := unhide HQ0
          have HKN := hide (show clsD (noD aU zU zU) (polN it.n) = 1 by rw [(unhide HIT).1, kN_is]; kernel_rfl)
          clear HQ0 HK HN16 x0 hn16 i1 i2
          have b9 := ev1 w8 (.cells #[.string nm] 9)
          have h9 := alloc_heap w8 (.cells #[.string nm] 9)
          have HR39 := hide ((unhide HR38).below b9)
          have HPN9 := hide ((unhide HPN8).below b9)
          have B9 := B8.trans (b9.mono B8.size)
          have Hown9 := hide (show (w8.alloc (.cells #[.string nm] 9)).ownsRow w1.heap.size 9 1 u5 (tlyD (noD aU zU zU) (lN L) 1).length (strsV (tlyD (noD aU zU zU) (lN L) 1)) from (unhide HR39).own 1 (by decide))
          clear HR38 HPN8 b9
          go_wp2_with (at_builtin; refine wpList_append_own_at _ rfl _ _ 60 rfl w1.heap.size 9 iS _ 1 16 Tryz.underlying60 hiS sz0 sz1 sz2 rfl (by decide) _ _ _ rfl (unhide Hown9) ⟨w8.heap.size, 0, none⟩ 1 1 [.string nm] rfl rfl ?p1 ?p2 ?p3 ?p4 ?p5 ?_)
          case p1 =>
            intro c u hu
            rw [Addr.add_lit, Nat.zero_add, Lib.cell_of_heap h9]
            simpa using hu
          case p2 =>
            intro u hu
            simp only [List.mem_cons, List.not_mem_nil, or_false] at hu
            subst hu
            rfl
          case p3 => have := unhide HNM 1; unfold maxLen; omega
          case p4 => have := unhide HNM 1; omega
          case p5 => have := B9.size; exact this
          intro v9 w9 hown9 hgrow9 _ hat9
          have BA : Below w1.heap.size w1 w9 := B9.grown hgrow9 B9.size (fun g e => ((unhide Hown9).lt g e).1)
          have HPNA := hide ((unhide HPN9).kty (KTy.of_grown (unhide Hown9) hgrow9) (by decide) (by decide) (by decide))
          have HRA := hide ((unhide HR39).next 1 (by decide) nm (S' := tlyD (noD aU zU zU) (lN (L ++ [it]))) (fun k' => by rw [unhide HP k', unhide HKN, (unhide HIT).2]) hown9 hgrow9 (hat9.imp id fun e => e.trans (by simp)))
          rw [V3_1] at HRA
          obtain ⟨ao9, n9, cc9, rfl⟩ : ∃ ao n c, v9 = .slice ao n c := by
            rcases hown9.2 with ⟨hv, _⟩ | ⟨g, cap, cur, hv, _⟩
            · exact ⟨_, _, _, hv⟩
            · exact ⟨_, _, _, hv⟩
          clear hown9 hgrow9 hat9 Hown9 HR39 HPN9 h9 B9 B8 q0
          go_wp2
          go_roundw
          case rel => exact ⟨j + 1, L ++ [it], by go_num, by omega, by omega, unhide HL1, BA, unhide HPNA, unhide HRA⟩
          case measure =>
            simp only [intOf]
            omega
        | 2, HN16 =>
          obtain rfl : k = 1 := unhide HK
          have q0 : w8.cell? ⟨w3.heap.size, 0, none⟩ = some (.bool true) := unhide HQ0
          have HKN := hide (show clsD (noD aU zU zU) (polN it.n) = 3 by rw [(unhide HIT).1, kN_is]; kernel_rfl)
          clear HQ0 HK HN16 x0 hn16 i1 i2
          go_wp2
          go_roundw
          case rel => exact ⟨j + 1, L ++ [it], by go_num, by omega, by omega, unhide HL1, B8, unhide HPN8, (unhide HR38).same fun i hi => by rw [unhide HP i, unhide HKN, if_neg (by omega), List.append_nil]⟩
          case measure =>
            simp only [intOf]
            omega
        | 3, HN16 =>
          obtain rfl : k = 1 := unhide HK
          have q0 : w8.cell? ⟨w3.heap.size, 0, none⟩ = some (.bool true) := unhide HQ0
          have HKN := hide (show clsD (noD aU zU zU) (polN it.n) = 3 by rw [(unhide HIT).1, kN_is]; kernel_rfl)
          clear HQ0 HK HN16 x0 hn16 i1 i2
          go_wp2
          go_roundw
          case rel => exact ⟨j + 1, L ++ [it], by go_num, by omega, by omega, unhide HL1, B8, unhide HPN8, (unhide HR38).same fun i hi => by rw [unhide HP i, unhide HKN, if_neg (by omega), List.append_nil]⟩
          case measure =>
            simp only [intOf]
            omega
        | 4, HN16 =>
          obtain rfl : k = 2 := unhide HK
          have q0 : w8.cell? ⟨w3.heap.size, 0, none⟩ = some (.bool false) := unhide HQ0
          have HKN := hide (show clsD (noD aU zU zU) (polN it.n) = 3 by rw [(unhide HIT).1, kN_is]; kernel_rfl)
          clear HQ0 HK HN16 x0 hn16 i1 i2
          go_wp2
          go_roundw
          case rel => exact ⟨j + 1, L ++ [it], by go_num, by omega, by omega, unhide HL1, B8, unhide HPN8, (unhide HR38).same fun i hi => by rw [unhide HP i, unhide HKN, if_neg (by omega), List.append_nil]⟩
          case measure =>
            simp only [intOf]
            omega
        | 5, HN16 =>
          obtain rfl : k = 2 := unhide HK
          have q0 : w8.cell? ⟨w3.heap.size, 0, none⟩ = some (.bool false) := unhide HQ0
          have HKN := hide (show clsD (noD aU zU zU) (polN it.n) = 3 by rw [(unhide HIT).1, kN_is]; kernel_rfl)
          clear HQ0 HK HN16 x0 hn16 i1 i2
          go_wp2
          go_roundw
          case rel => exact ⟨j + 1, L ++ [it], by go_num, by omega, by omega, unhide HL1, B8, unhide HPN8, (unhide HR38).same fun i hi => by rw [unhide HP i, unhide HKN, if_neg (by omega), List.append_nil]⟩
          case measure =>
            simp only [intOf]
            omega
        | 6, HN16 =>
          obtain rfl : k = 3 := unhide HK
          have q0 : w8.cell? ⟨w3.heap.size, 0, none⟩ = some (.bool true) := unhide HQ0
          have HKN := hide (show clsD (noD aU zU zU) (polN it.n) = 0 by rw [(unhide HIT).1, kN_is]; kernel_rfl)
          clear HQ0 HK HN16 x0 hn16 i1 i2
          have b9 := ev1 w8 (.cells #[.string nm] 9)
          have h9 := alloc_heap w8 (.cells #[.string nm] 9)
          have HR39 := hide ((unhide HR38).below b9)
          have HPN9 := hide ((unhide HPN8).below b9)
          have B9 := B8.trans (b9.mono B8.size)
          have Hown9 := hide (show (w8.alloc (.cells #[.string nm] 9)).ownsRow w1.heap.size 9 1 u4 (tlyD (noD aU zU zU) (lN L) 0).length (strsV (tlyD (noD aU zU zU) (lN L) 0)) from (unhide HR39).own 0 (by decide))
          clear HR38 HPN8 b9
          go_wp2_with (at_builtin; refine wpList_append_own_at _ rfl _ _ 60 rfl w1.heap.size 9 iS _ 1 16 Tryz.underlying60 hiS sz0 sz1 sz2 rfl (by decide) _ _ _ rfl (unhide Hown9) ⟨w8.heap.size, 0, none⟩ 1 1 [.string nm] rfl rfl ?p1 ?p2 ?p3 ?p4 ?p5 ?_)
          case p1 =>
            intro c u hu
            rw [Addr.add_lit, Nat.zero_add, Lib.cell_of_heap h9]
            simpa using hu
          case p2 =>
            intro u hu
            simp only [List.mem_cons, List.not_mem_nil, or_false] at hu
            subst hu
            rfl
          case p3 => have := unhide HNM 0; unfold maxLen; omega
          case p4 => have := unhide HNM 0; omega
          case p5 => have := B9.size; exact this
          intro v9 w9 hown9 hgrow9 _ hat9
          have BA : Below w1.heap.size w1 w9 := B9.grown hgrow9 B9.size (fun g e => ((unhide Hown9).lt g e).1)
          have HPNA := hide ((unhide HPN9).kty (KTy.of_grown (unhide Hown9) hgrow9) (by decide) (by decide) (by decide))
          have HRA := hide ((unhide HR39).next 0 (by decide) nm (S' := tlyD (noD aU zU zU) (lN (L ++ [it]))) (fun k' => by rw [unhide HP k', unhide HKN, (unhide HIT).2]) hown9 hgrow9 (hat9.imp id fun e => e.trans (by simp)))
          rw [V3_0] at HRA
          obtain ⟨ao9, n9, cc9, rfl⟩ : ∃ ao n c, v9 = .slice ao n c := by
            rcases hown9.2 with ⟨hv, _⟩ | ⟨g, cap, cur, hv, _⟩
            · exact ⟨_, _, _, hv⟩
            · exact ⟨_, _, _, hv⟩
          clear hown9 hgrow9 hat9 Hown9 HR39 HPN9 h9 B9 B8 q0
          go_wp2
          go_roundw
          case rel => exact ⟨j + 1, L ++ [it], by go_num, by omega, by omega, unhide HL1, BA, unhide HPNA, unhide HRA⟩
          case measure =>
            simp only [intOf]
            omega
        | 7, HN16 =>
          obtain rfl : k = 3 := unhide HK
          have q0 : w8.cell? ⟨w3.heap.size, 0, none⟩ = some (.bool true) := unhide HQ0
          have HKN := hide (show clsD (noD aU zU zU) (polN it.n) = 1 by rw [(unhide HIT).1, kN_is]; kernel_rfl)
          clear HQ0 HK HN16 x0 hn16 i1 i2
          have b9 := ev1 w8 (.cells #[.string nm] 9)
          have h9 := alloc_heap w8 (.cells #[.string nm] 9)
          have HR39 := hide ((unhide HR38).below b9)
          have HPN9 := hide ((unhide HPN8).below b9)
          have B9 := B8.trans (b9.mono B8.size)
          have Hown9 := hide (show (w8.alloc (.cells #[.string nm] 9)).ownsRow w1.heap.size 9 1 u5 (tlyD (noD aU zU zU) (lN L) 1).length (strsV (tlyD (noD aU zU zU) (lN L) 1)) from (unhide HR39).own 1 (by decide))
          clear HR38 HPN8 b9
          go_wp2_with (at_builtin; refine wpList_append_own_at _ rfl _ _ 60 rfl w1.heap.size 9 iS _ 1 16 Tryz.underlying60 hiS sz0 sz1 sz2 rfl (by decide) _ _ _ rfl (unhide Hown9) ⟨w8.heap.size, 0, none⟩ 1 1 [.string nm] rfl rfl ?p1 ?p2 ?p3 ?p4 ?p5 ?_)
          case p1 =>
            intro c u hu
            rw [Addr.add_lit, Nat.zero_add, Lib.cell_of_heap h9]
            simpa using hu
          case p2 =>
            intro u hu
            simp only [List.mem_cons, List.not_mem_nil, or_false] at hu
            subst hu
            rfl
          case p3 => have := unhide HNM 1; unfold maxLen; omega
          case p4 => have := unhide HNM 1; omega
          case p5 => have := B9.size; exact this
          intro v9 w9 hown9 hgrow9 _ hat9
          have BA : Below w1.heap.size w1 w9 := B9.grown hgrow9 B9.size (fun g e => ((unhide Hown9).lt g e).1)
          have HPNA := hide ((unhide HPN9).kty (KTy.of_grown (unhide Hown9) hgrow9) (by decide) (by decide) (by decide))
          have HRA := hide ((unhide HR39).next 1 (by decide) nm (S' := tlyD (noD aU zU zU) (lN (L ++ [it]))) (fun k' => by rw [unhide HP k', unhide HKN, (unhide HIT).2]) hown9 hgrow9 (hat9.imp id fun e => e.trans (by simp)))
          rw [V3_1] at HRA
          obtain ⟨ao9, n9, cc9, rfl⟩ : ∃ ao n c, v9 = .slice ao n c := by
            rcases hown9.2 with ⟨hv, _⟩ | ⟨g, cap, cur, hv, _⟩
            · exact ⟨_, _, _, hv⟩
            · exact ⟨_, _, _, hv⟩
          clear hown9 hgrow9 hat9 Hown9 HR39 HPN9 h9 B9 B8 q0
          go_wp2
          go_roundw
          case rel => exact ⟨j + 1, L ++ [it], by go_num, by omega, by omega, unhide HL1, BA, unhide HPNA, unhide HRA⟩
          case measure =>
            simp only [intOf]
            omega
        | 8, HN16 =>
          obtain rfl : k = 4 := unhide HK
          have q0 : w8.cell? ⟨w3.heap.size, 0, none⟩ = some (.bool false) := unhide HQ0
          have HKN := hide (show clsD (noD aU zU zU) (polN it.n) = 2 by rw [(unhide HIT).1, kN_is]; kernel_rfl)
          clear HQ0 HK HN16 x0 hn16 i1 i2
          have b9 := ev1 w8 (.cells #[.string nm] 9)
          have h9 := alloc_heap w8 (.cells #[.string nm] 9)
          have HR39 := hide ((unhide HR38).below b9)
          have HPN9 := hide ((unhide HPN8).below b9)
          have B9 := B8.trans (b9.mono B8.size)
          have Hown9 := hide (show (w8.alloc (.cells #[.string nm] 9)).ownsRow w1.heap.size 9 1 u6 (tlyD (noD aU zU zU) (lN L) 2).length (strsV (tlyD (noD aU zU zU) (lN L) 2)) from (unhide HR39).own 2 (by decide))
          clear HR38 HPN8 b9
          go_wp2_with (at_builtin; refine wpList_append_own_at _ rfl _ _ 60 rfl w1.heap.size 9 iS _ 1 16 Tryz.underlying60 hiS sz0 sz1 sz2 rfl (by decide) _ _ _ rfl (unhide Hown9) ⟨w8.heap.size, 0, none⟩ 1 1 [.string nm] rfl rfl ?p1 ?p2 ?p3 ?p4 ?p5 ?_)
          case p1 =>
            intro c u hu
            rw [Addr.add_lit, Nat.zero_add, Lib.cell_of_heap h9]
            simpa using hu
          case p2 =>
            intro u hu
            simp only [List.mem_cons, List.not_mem_nil, or_false] at hu
            subst hu
            rfl
          case p3 => have := unhide HNM 2; unfold maxLen; omega
          case p4 => have := unhide HNM 2; omega
          case p5 => have := B9.size; exact this
          intro v9 w9 hown9 hgrow9 _ hat9
          have BA : Below w1.heap.size w1 w9 := B9.grown hgrow9 B9.size (fun g e => ((unhide Hown9).lt g e).1)
          have HPNA := hide ((unhide HPN9).kty (KTy.of_grown (unhide Hown9) hgrow9) (by decide) (by decide) (by decide))
          have HRA := hide ((unhide HR39).next 2 (by decide) nm (S' := tlyD (noD aU zU zU) (lN (L ++ [it]))) (fun k' => by rw [unhide HP k', unhide HKN, (unhide HIT).2]) hown9 hgrow9 (hat9.imp id fun e => e.trans (by simp)))
          rw [V3_2] at HRA
          obtain ⟨ao9, n9, cc9, rfl⟩ : ∃ ao n c, v9 = .slice ao n c := by
            rcases hown9.2 with ⟨hv, _⟩ | ⟨g, cap, cur, hv, _⟩
            · exact ⟨_, _, _, hv⟩
            · exact ⟨_, _, _, hv⟩
          clear hown9 hgrow9 hat9 Hown9 HR39 HPN9 h9 B9 B8 q0
          go_wp2
          go_roundw
          case rel => exact ⟨j + 1, L ++ [it], by go_num, by omega, by omega, unhide HL1, BA, unhide HPNA, unhide HRA⟩
          case measure =>
            simp only [intOf]
            omega
        | 9, HN16 =>
          obtain rfl : k = 4 := unhide HK
          have q0 : w8.cell? ⟨w3.heap.size, 0, none⟩ = some (.bool false) := unhide HQ0
          have HKN := hide (show clsD (noD aU zU zU) (polN it.n) = 2 by rw [(unhide HIT).1, kN_is]; kernel_rfl)
          clear HQ0 HK HN16 x0 hn16 i1 i2
          have b9 := ev1 w8 (.cells #[.string nm] 9)
          have h9 := alloc_heap w8 (.cells #[.string nm] 9)
          have HR39 := hide ((unhide HR38).below b9)
          have HPN9 := hide ((unhide HPN8).below b9)
          have B9 := B8.trans (b9.mono B8.size)
          have Hown9 := hide (show (w8.alloc (.cells #[.string nm] 9)).ownsRow w1.heap.size 9 1 u6 (tlyD (noD aU zU zU) (lN L) 2).length (strsV (tlyD (noD aU zU zU) (lN L) 2)) from (unhide HR39).own 2 (by decide))
          clear HR38 HPN8 b9
          go_wp2_with (at_builtin; refine wpList_append_own_at _ rfl _ _ 60 rfl w1.heap.size 9 iS _ 1 16 Tryz.underlying60 hiS sz0 sz1 sz2 rfl (by decide) _ _ _ rfl (unhide Hown9) ⟨w8.heap.size, 0, none⟩ 1 1 [.string nm] rfl rfl ?p1 ?p2 ?p3 ?p4 ?p5 ?_)
          case p1 =>
            intro c u hu
            rw [Addr.add_lit, Nat.zero_add, Lib.cell_of_heap h9]
            simpa using hu
          case p2 =>
            intro u hu
            simp only [List.mem_cons, List.not_mem_nil, or_false] at hu
            subst hu
            rfl
          case p3 => have := unhide HNM 2; unfold maxLen; omega
          case p4 => have := unhide HNM 2; omega
          case p5 => have := B9.size; exact this
          intro v9 w9 hown9 hgrow9 _ hat9
          have BA : Below w1.heap.size w1 w9 := B9.grown hgrow9 B9.size (fun g e => ((unhide Hown9).lt g e).1)
          have HPNA := hide ((unhide HPN9).kty (KTy.of_grown (unhide Hown9) hgrow9) (by decide) (by decide) (by decide))
          have HRA := hide ((unhide HR39).next 2 (by decide) nm (S' := tlyD (noD aU zU zU) (lN (L ++ [it]))) (fun k' => by rw [unhide HP k', unhide HKN, (unhide HIT).2]) hown9 hgrow9 (hat9.imp id fun e => e.trans (by simp)))
          rw [V3_2] at HRA
          obtain ⟨ao9, n9, cc9, rfl⟩ : ∃ ao n c, v9 = .slice ao n c := by
            rcases hown9.2 with ⟨hv, _⟩ | ⟨g, cap, cur, hv, _⟩
            · exact ⟨_, _, _, hv⟩
            · exact ⟨_, _, _, hv⟩
          clear hown9 hgrow9 hat9 Hown9 HR39 HPN9 h9 B9 B8 q0
          go_wp2
          go_roundw
          case rel => exact ⟨j + 1, L ++ [it], by go_num, by omega, by omega, unhide HL1, BA, unhide HPNA, unhide HRA⟩
          case measure =>
            simp only [intOf]
            omega
        | 10, HN16 =>
          obtain rfl : k = 5 := unhide HK
          have q0 : w8.cell? ⟨w3.heap.size, 0, none⟩ = some (.bool true) := unhide HQ0
          have HKN := hide (show clsD (noD aU zU zU) (polN it.n) = 2 by rw [(unhide HIT).1, kN_is]; kernel_rfl)
          clear HQ0 HK HN16 x0 hn16 i1 i2
          have b9 := ev1 w8 (.cells #[.string nm] 9)
          have h9 := alloc_heap w8 (.cells #[.string nm] 9)
          have HR39 := hide ((unhide HR38).below b9)
          have HPN9 := hide ((unhide HPN8).below b9)
          have B9 := B8.trans (b9.mono B8.size)
          have Hown9 := hide (show (w8.alloc (.cells #[.string nm] 9)).ownsRow w1.heap.size 9 1 u6 (tlyD (noD aU zU zU) (lN L) 2).length (strsV (tlyD (noD aU zU zU) (lN L) 2)) from (unhide HR39).own 2 (by decide))
          clear HR38 HPN8 b9
          go_wp2_with (at_builtin; refine wpList_append_own_at _ rfl _ _ 60 rfl w1.heap.size 9 iS _ 1 16 Tryz.underlying60 hiS sz0 sz1 sz2 rfl (by decide) _ _ _ rfl (unhide Hown9) ⟨w8.heap.size, 0, none⟩ 1 1 [.string nm] rfl rfl ?p1 ?p2 ?p3 ?p4 ?p5 ?_)
          case p1 =>
            intro c u hu
            rw [Addr.add_lit, Nat.zero_add, Lib.cell_of_heap h9]
            simpa using hu
          case p2 =>
            intro u hu
            simp only [List.mem_cons, List.not_mem_nil, or_false] at hu
            subst hu
            rfl
          case p3 => have := unhide HNM 2; unfold maxLen; omega
          case p4 => have := unhide HNM 2; omega
          case p5 => have := B9.size; exact this
          intro v9 w9 hown9 hgrow9 _ hat9
          have BA : Below w1.heap.size w1 w9 := B9.grown hgrow9 B9.size (fun g e => ((unhide Hown9).lt g e).1)
          have HPNA := hide ((unhide HPN9).kty (KTy.of_grown (unhide Hown9) hgrow9) (by decide) (by decide) (by decide))
          have HRA := hide ((unhide HR39).next 2 (by decide) nm (S' := tlyD (noD aU zU zU) (lN (L ++ [it]))) (fun k' => by rw [unhide HP k', unhide HKN, (unhide HIT).2]) hown9 hgrow9 (hat9.imp id fun e => e.trans (by simp)))
          rw [V3_2] at HRA
          obtain ⟨ao9, n9, cc9, rfl⟩ : ∃ ao n c, v9 = .slice ao n c := by
            rcases hown9.2 with ⟨hv, _⟩ | ⟨g, cap, cur, hv, _⟩
            · exact ⟨_, _, _, hv⟩
            · exact ⟨_, _, _, hv⟩
          clear hown9 hgrow9 hat9 Hown9 HR39 HPN9 h9 B9 B8 q0
          go_wp2
          go_roundw
          case rel => exact ⟨j + 1, L ++ [it], by go_num, by omega, by omega, unhide HL1, BA, unhide HPNA, unhide HRA⟩
          case measure =>
            simp only [intOf]
            omega
        | 11, HN16 =>
          obtain rfl : k = 5 := unhide HK
          have q0 : w8.cell? ⟨w3.heap.size, 0, none⟩ = some (.bool true) := unhide HQ0
          have HKN := hide (show clsD (noD aU zU zU) (polN it.n) = 2 by rw [(unhide HIT).1, kN_is]; kernel_rfl)
          clear HQ0 HK HN16 x0 hn16 i1 i2
          have b9 := ev1 w8 (.cells #[.string nm] 9)
          have h9 := alloc_heap w8 (.cells #[.string nm] 9)
          have HR39 := hide ((unhide HR38).below b9)
          have HPN9 := hide ((unhide HPN8).below b9)
          have B9 := B8.trans (b9.mono B8.size)
          have Hown9 := hide (show (w8.alloc (.cells #[.string nm] 9)).ownsRow w1.heap.size 9 1 u6 (tlyD (noD aU zU zU) (lN L) 2).length (strsV (tlyD (noD aU zU zU) (lN L) 2)) from (unhide HR39).own 2 (by decide))
          clear HR38 HPN8 b9
          go_wp2_with (at_builtin; refine wpList_append_own_at _ rfl _ _ 60 rfl w1.heap.size 9 iS _ 1 16 Tryz.underlying60 hiS sz0 sz1 sz2 rfl (by decide) _ _ _ rfl (unhide Hown9) ⟨w8.heap.size, 0, none⟩ 1 1 [.string nm] rfl rfl ?p1 ?p2 ?p3 ?p4 ?p5 ?_)
          case p1 =>
            intro c u hu
            rw [Addr.add_lit, Nat.zero_add, Lib.cell_of_heap h9]
            simpa using hu
          case p2 =>
            intro u hu
            simp only [List.mem_cons, List.not_mem_nil, or_false] at hu
            subst hu
            rfl
          case p3 => have := unhide HNM 2; unfold maxLen; omega
          case p4 => have := unhide HNM 2; omega
          case p5 => have := B9.size; exact this
          intro v9 w9 hown9 hgrow9 _ hat9
          have BA : Below w1.heap.size w1 w9 := B9.grown hgrow9 B9.size (fun g e => ((unhide Hown9).lt g e).1)
          have HPNA := hide ((unhide HPN9).kty (KTy.of_grown (unhide Hown9) hgrow9) (by decide) (by decide) (by decide))
          have HRA := hide ((unhide HR39).next 2 (by decide) nm (S' := tlyD (noD aU zU zU) (lN (L ++ [it]))) (fun k' => by rw [unhide HP k', unhide HKN, (unhide HIT).2]) hown9 hgrow9 (hat9.imp id fun e => e.trans (by simp)))
          rw [V3_2] at HRA
          obtain ⟨ao9, n9, cc9, rfl⟩ : ∃ ao n c, v9 = .slice ao n c := by
            rcases hown9.2 with ⟨hv, _⟩ | ⟨g, cap, cur, hv, _⟩
            · exact ⟨_, _, _, hv⟩
            · exact ⟨_, _, _, hv⟩
          clear hown9 hgrow9 hat9 Hown9 HR39 HPN9 h9 B9 B8 q0
          go_wp2
          go_roundw
          case rel => exact ⟨j + 1, L ++ [it], by go_num, by omega, by omega, unhide HL1, BA, unhide HPNA, unhide HRA⟩
          case measure =>
            simp only [intOf]
            omega
        | 12, HN16 =>
          obtain rfl : k = 6 := unhide HK
          have q0 : w8.cell? ⟨w3.heap.size, 0, none⟩ = some (.bool false) := unhide HQ0
          have HKN := hide (show clsD (noD aU zU zU) (polN it.n) = 2 by rw [(unhide HIT).1, kN_is]; kernel_rfl)
          clear HQ0 HK HN16 x0 hn16 i1 i2
          have b9 := ev1 w8 (.cells #[.string nm] 9)
          have h9 := alloc_heap w8 (.cells #[.string nm] 9)
          have HR39 := hide ((unhide HR38).below b9)
          have HPN9 := hide ((unhide HPN8).below b9)
          have B9 := B8.trans (b9.mono B8.size)
          have Hown9 := hide (show (w8.alloc (.cells #[.string nm] 9)).ownsRow w1.heap.size 9 1 u6 (tlyD (noD aU zU zU) (lN L) 2).length (strsV (tlyD (noD aU zU zU) (lN L) 2)) from (unhide HR39).own 2 (by decide))
          clear HR38 HPN8 b9
          go_wp2_with (at_builtin; refine wpList_append_own_at _ rfl _ _ 60 rfl w1.heap.size 9 iS _ 1 16 Tryz.underlying60 hiS sz0 sz1 sz2 rfl (by decide) _ _ _ rfl (unhide Hown9) ⟨w8.heap.size, 0, none⟩ 1 1 [.string nm] rfl rfl ?p1 ?p2 ?p3 ?p4 ?p5 ?_)
          case p1 =>
            intro c u hu
            rw [Addr.add_lit, Nat.zero_add, Lib.cell_of_heap h9]
            simpa using hu
          case p2 =>
            intro u hu
            simp only [List.mem_cons, List.not_mem_nil, or_false] at hu
            subst hu
            rfl
          case p3 => have := unhide HNM 2; unfold maxLen; omega
          case p4 => have := unhide HNM 2; omega
          case p5 => have := B9.size; exact this
          intro v9 w9 hown9 hgrow9 _ hat9
          have BA : Below w1.heap.size w1 w9 := B9.grown hgrow9 B9.size (fun g e => ((unhide Hown9).lt g e).1)
          have HPNA := hide ((unhide HPN9).kty (KTy.of_grown (unhide Hown9) hgrow9) (by decide) (by decide) (by decide))
          have HRA := hide ((unhide HR39).next 2 (by decide) nm (S' := tlyD (noD aU zU zU) (lN (L ++ [it]))) (fun k' => by rw [unhide HP k', unhide HKN, (unhide HIT).2]) hown9 hgrow9 (hat9.imp id fun e => e.trans (by simp)))
          rw [V3_2] at HRA
          obtain ⟨ao9, n9, cc9, rfl⟩ : ∃ ao n c, v9 = .slice ao n c := by
            rcases hown9.2 with ⟨hv, _⟩ | ⟨g, cap, cur, hv, _⟩
            · exact ⟨_, _, _, hv⟩
            · exact ⟨_, _, _, hv⟩
          clear hown9 hgrow9 hat9 Hown9 HR39 HPN9 h9 B9 B8 q0
          go_wp2
          go_roundw
          case rel => exact ⟨j + 1, L ++ [it], by go_num, by omega, by omega, unhide HL1, BA, unhide HPNA, unhide HRA⟩
          case measure =>
            simp only [intOf]
            omega
        | 13, HN16 =>
          obtain rfl : k = 6 := unhide HK
          have q0 : w8.cell? ⟨w3.heap.size, 0, none⟩ = some (.bool false) := unhide HQ0
          have HKN := hide (show clsD (noD aU zU zU) (polN it.n) = 2 by rw [(unhide HIT).1, kN_is]; kernel_rfl)
          clear HQ0 HK HN16 x0 hn16 i1 i2
          have b9 := ev1 w8 (.cells #[.string nm] 9)
          have h9 := alloc_heap w8 (.cells #[.string nm] 9)
          have HR39 := hide ((unhide HR38).below b9)
          have HPN9 := hide ((unhide HPN8).below b9)
          have B9 := B8.trans (b9.mono B8.size)
          have Hown9 := hide (show (w8.alloc (.cells #[.string nm] 9)).ownsRow w1.heap.size 9 1 u6 (tlyD (noD aU zU zU) (lN L) 2).length (strsV (tlyD (noD aU zU zU) (lN L) 2)) from (unhide HR39).own 2 (by decide))
          clear HR38 HPN8 b9
          go_wp2_with (at_builtin; refine wpList_append_own_at _ rfl _ _ 60 rfl w1.heap.size 9 iS _ 1 16 Tryz.underlying60 hiS sz0 sz1 sz2 rfl (by decide) _ _ _ rfl (unhide Hown9) ⟨w8.heap.size, 0, none⟩ 1 1 [.string nm] rfl rfl ?p1 ?p2 ?p3 ?p4 ?p5 ?_)
          case p1 =>
            intro c u hu
            rw [Addr.add_lit, Nat.zero_add, Lib.cell_of_heap h9]
            simpa using hu
          case p2 =>
            intro u hu
            simp only [List.mem_cons, List.not_mem_nil, or_false] at hu
            subst hu
            rfl
          case p3 => have := unhide HNM 2; unfold maxLen; omega
          case p4 => have := unhide HNM 2; omega
          case p5 => have := B9.size; exact this
          intro v9 w9 hown9 hgrow9 _ hat9
          have BA : Below w1.heap.size w1 w9 := B9.grown hgrow9 B9.size (fun g e => ((unhide Hown9).lt g e).1)
          have HPNA := hide ((unhide HPN9).kty (KTy.of_grown (unhide Hown9) hgrow9) (by decide) (by decide) (by decide))
          have HRA := hide ((unhide HR39).next 2 (by decide) nm (S' := tlyD (noD aU zU zU) (lN (L ++ [it]))) (fun k' => by rw [unhide HP k', unhide HKN, (unhide HIT).2]) hown9 hgrow9 (hat9.imp id fun e => e.trans (by simp)))
          rw [V3_2] at HRA
          obtain ⟨ao9, n9, cc9, rfl⟩ : ∃ ao n c, v9 = .slice ao n c := by
            rcases hown9.2 with ⟨hv, _⟩ | ⟨g, cap, cur, hv, _⟩
            · exact ⟨_, _, _, hv⟩
            · exact ⟨_, _, _, hv⟩
          clear hown9 hgrow9 hat9 Hown9 HR39 HPN9 h9 B9 B8 q0
          go_wp2
          go_roundw
          case rel => exact ⟨j + 1, L ++ [it], by go_num, by omega, by omega, unhide HL1, BA, unhide HPNA, unhide HRA⟩
          case measure =>
            simp only [intOf]
            omega
        | 14, HN16 =>
          obtain rfl : k = 7 := unhide HK
          have q0 : w8.cell? ⟨w3.heap.size, 0, none⟩ = some (.bool true) := unhide HQ0
          have HKN := hide (show clsD (noD aU zU zU) (polN it.n) = 2 by rw [(unhide HIT).1, kN_is]; kernel_rfl)
          clear HQ0 HK HN16 x0 hn16 i1 i2
          have b9 := ev1 w8 (.cells #[.string nm] 9)
          have h9 := alloc_heap w8 (.cells #[.string nm] 9)
          have HR39 := hide ((unhide HR38).below b9)
          have HPN9 := hide ((unhide HPN8).below b9)
          have B9 := B8.trans (b9.mono B8.size)
          have Hown9 := hide (show (w8.alloc (.cells #[.string nm] 9)).ownsRow w1.heap.size 9 1 u6 (tlyD (noD aU zU zU) (lN L) 2).length (strsV (tlyD (noD aU zU zU) (lN L) 2)) from (unhide HR39).own 2 (by decide))
          clear HR38 HPN8 b9
          go_wp2_with (at_builtin; refine wpList_append_own_at _ rfl _ _ 60 rfl w1.heap.size 9 iS _ 1 16 Tryz.underlying60 hiS sz0 sz1 sz2 rfl (by decide) _ _ _ rfl (unhide Hown9) ⟨w8.heap.size, 0, none⟩ 1 1 [.string nm] rfl rfl ?p1 ?p2 ?p3 ?p4 ?p5 ?_)
          case p1 =>
            intro c u hu
            rw [Addr.add_lit, Nat.zero_add, Lib.cell_of_heap h9]
            simpa using hu
          case p2 =>
            intro u hu
            simp only [List.mem_cons, List.not_mem_nil, or_false] at hu
            subst hu
            rfl
          case p3 => have := unhide HNM 2; unfold maxLen; omega
          case p4 => have := unhide HNM 2; omega
          case p5 => have := B9.size; exact this
          intro v9 w9 hown9 hgrow9 _ hat9
          have BA : Below w1.heap.size w1 w9 := B9.grown hgrow9 B9.size (fun g e => ((unhide Hown9).lt g e).1)
          have HPNA := hide ((unhide HPN9).kty (KTy.of_grown (unhide Hown9) hgrow9) (by decide) (by decide) (by decide))
          have HRA := hide ((unhide HR39).next 2 (by decide) nm (S' := tlyD (noD aU zU zU) (lN (L ++ [it]))) (fun k' => by rw [unhide HP k', unhide HKN, (unhide HIT).2]) hown9 hgrow9 (hat9.imp id fun e => e.trans (by simp)))
          rw [V3_2] at HRA
          obtain ⟨ao9, n9, cc9, rfl⟩ : ∃ ao n c, v9 = .slice ao n c := by
            rcases hown9.2 with ⟨hv, _⟩ | ⟨g, cap, cur, hv, _⟩
            · exact ⟨_, _, _, hv⟩
            · exact ⟨_, _, _, hv⟩
          clear hown9 hgrow9 hat9 Hown9 HR39 HPN9 h9 B9 B8 q0
          go_wp2
          go_roundw
          case rel => exact ⟨j + 1, L ++ [it], by go_num, by omega, by omega, unhide HL1, BA, unhide HPNA, unhide HRA⟩
          case measure =>
            simp only [intOf]
            omega
        | 15, HN16 =>
          obtain rfl : k = 7 := unhide HK
          have q0 : w8.cell? ⟨w3.heap.size, 0, none⟩ = some (.bool true) := unhide HQ0
          have HKN := hide (show clsD (noD aU zU zU) (polN it.n) = 2 by rw [(unhide HIT).1, kN_is]; kernel_rfl)
          clear HQ0 HK HN16 x0 hn16 i1 i2
          have b9 := ev1 w8 (.cells #[.string nm] 9)
          have h9 := alloc_heap w8 (.cells #[.string nm] 9)
          have HR39 := hide ((unhide HR38).below b9)
          have HPN9 := hide ((unhide HPN8).below b9)
          have B9 := B8.trans (b9.mono B8.size)
          have Hown9 := hide (show (w8.alloc (.cells #[.string nm] 9)).ownsRow w1.heap.size 9 1 u6 (tlyD (noD aU zU zU) (lN L) 2).length (strsV (tlyD (noD aU zU zU) (lN L) 2)) from (unhide HR39).own 2 (by decide))
          clear HR38 HPN8 b9
          go_wp2_with (at_builtin; refine wpList_append_own_at _ rfl _ _ 60 rfl w1.heap.size 9 iS _ 1 16 Tryz.underlying60 hiS sz0 sz1 sz2 rfl (by decide) _ _ _ rfl (unhide Hown9) ⟨w8.heap.size, 0, none⟩ 1 1 [.string nm] rfl rfl ?p1 ?p2 ?p3 ?p4 ?p5 ?_)
          case p1 =>
            intro c u hu
            rw [Addr.add_lit, Nat.zero_add, Lib.cell_of_heap h9]
            simpa using hu
          case p2 =>
            intro u hu
            simp only [List.mem_cons, List.not_mem_nil, or_false] at hu
            subst hu
            rfl
          case p3 => have := unhide HNM 2; unfold maxLen; omega
          case p4 => have := unhide HNM 2; omega
          case p5 => have := B9.size; exact this
          intro v9 w9 hown9 hgrow9 _ hat9
          have BA : Below w1.heap.size w1 w9 := B9.grown hgrow9 B9.size (fun g e => ((unhide Hown9).lt g e).1)
          have HPNA := hide ((unhide HPN9).kty (KTy.of_grown (unhide Hown9) hgrow9) (by decide) (by decide) (by decide))
          have HRA := hide ((unhide HR39).next 2 (by decide) nm (S' := tlyD (noD aU zU zU) (lN (L ++ [it]))) (fun k' => by rw [unhide HP k', unhide HKN, (unhide HIT).2]) hown9 hgrow9 (hat9.imp id fun e => e.trans (by simp)))
          rw [V3_2] at HRA
          obtain ⟨ao9, n9, cc9, rfl⟩ : ∃ ao n c, v9 = .slice ao n c := by
            rcases hown9.2 with ⟨hv, _⟩ | ⟨g, cap, cur, hv, _⟩
            · exact ⟨_, _, _, hv⟩
            · exact ⟨_, _, _, hv⟩
          clear hown9 hgrow9 hat9 Hown9 HR39 HPN9 h9 B9 B8 q0
          go_wp2
          go_roundw
          case rel => exact ⟨j + 1, L ++ [it], by go_num, by omega, by omega, unhide HL1, BA, unhide HPNA, unhide HRA⟩
          case measure =>
            simp only [intOf]
            omega
        | n + 16, h => exact absurd (unhide h) (by omega)
      · have i2 : ¬ (j : Int) < 12 := by omega
        obtain ⟨lo, cN, rfl, hrow⟩ := (unhide HPN).row
        obtain ⟨l, hl⟩ : ∃ l, l = lN L := ⟨_, rfl⟩
        have hln : L.length = l.length := by rw [hl]; unfold lN; rw [List.length_map]
        have hL12 : L.length ≤ 100000 := by omega
        rw [← hl] at hrow
        have CO := dAll_any none [] 0 0 (noD aU zU zU) l lo L.length cN wr rfl (ew_nil wr ((unhide HF).below (b1.trans (bw.mono b1.size))) _ _ _) hln hL12 hrow (by rw [hl]; exact lN_ok L)
        have h3 := unhide HR3
        rw [← hl] at h3
        obtain ⟨a0, c0, e0, r0, _⟩ := own_rowSt (show wr.ownsRow w1.heap.size 9 1 u4 (tlyD (noD aU zU zU) l 0).length (strsV (tlyD (noD aU zU zU) l 0)) from h3.own 0 (by decide))
        obtain ⟨a1, c1, e1, r1, _⟩ := own_rowSt (show wr.ownsRow w1.heap.size 9 1 u5 (tlyD (noD aU zU zU) l 1).length (strsV (tlyD (noD aU zU zU) l 1)) from h3.own 1 (by decide))
        obtain ⟨a2, c2, e2, r2, _⟩ := own_rowSt (show wr.ownsRow w1.heap.size 9 1 u6 (tlyD (noD aU zU zU) l 2).length (strsV (tlyD (noD aU zU zU) l 2)) from h3.own 2 (by decide))
        subst e0 e1 e2
        have hB0 := tlyD_len (noD aU zU zU) l 0
        have hB1 := tlyD_len (noD aU zU zU) l 1
        have hB2 := tlyD_len (noD aU zU zU) l 2
        rw [← hln, hLj] at hB0 hB1 hB2
        unfold alwD rsnD at CO
        generalize tlyD (noD aU zU zU) l 0 = P0 at *
        generalize tlyD (noD aU zU zU) l 1 = P1 at *
        generalize tlyD (noD aU zU zU) l 2 = P2 at *
        obtain ⟨ln, hln2⟩ : ∃ ln, ln = L.length := ⟨_, rfl⟩
        rw [← hln2] at CO ⊢
        obtain ⟨m0, hm0⟩ : ∃ m, m = P0.length := ⟨_, rfl⟩
        obtain ⟨m1, hm1⟩ : ∃ m, m = P1.length := ⟨_, rfl⟩
        obtain ⟨m2, hm2⟩ : ∃ m, m = P2.length := ⟨_, rfl⟩
        rw [← hm0, ← hm1] at CO
        rw [← hm0, ← hm1, ← hm2]
        obtain ⟨rs, hrs⟩ : ∃ rs, rs = if 0 < m1 then P1 else P0 := ⟨_, rfl⟩
        obtain ⟨al, hal⟩ : ∃ al, al = (decide (0 < m0) && decide (m1 = 0)) := ⟨_, rfl⟩
        rw [← hrs, ← hal] at CO
        unfold RetAns at CO
        obtain ⟨mr, hmr⟩ : ∃ mr, mr = rs.length := ⟨_, rfl⟩
        have HMR := hide hmr
        rw [← hm2, ← hmr] at CO
        have hB0 : m0 ≤ 12 := by omega
        have hB1 : m1 ≤ 12 := by omega
        have hB2 : m2 ≤ 12 := by omega
        have HM2 := hide hm2
        have HM0 := hide hm0
        have HM1 := hide hm1
        have HRSd := hide hrs
        have HALd := hide hal
        clear hln hL12 hrow hl h3 hln2 HPN HR3 hm2 hm0 hm1 hrs hal hmr
        go_wp2_with fail
        refine CO.mono ?_
        clear CO
        rintro e w5 ⟨⟨ra, rc, ea, ec, rfl, hr, he⟩, b5⟩
        have HRR := hide hr
        have HEE := hide he
        have B5 := bw.trans (b5.mono bw.size)
        have HW0 := hide (RowG.below r0 b5)
        have HW1 := hide (RowG.below r1 b5)
        have HW2 := hide (RowG.below r2 b5)
        clear hr he r0 r1 r2
        have b6 := ev1 w5 (.cells #[.bool al, .slice ra mr rc, .slice ea m2 ec] 65)
        have h6 := alloc_heap w5 (.cells #[.bool al, .slice ra mr rc, .slice ea m2 ec] 65)
        have B6 := B5.trans (b6.mono B5.size)
        have HRR6 := hide (RowG.below (unhide HRR) b6)
        have HEE6 := hide (RowG.below (unhide HEE) b6)
        have HW06 := hide (RowG.below (unhide HW0) b6)
        have HW16 := hide (RowG.below (unhide HW1) b6)
        have HW26 := hide (RowG.below (unhide HW2) b6)
        go_upto_region 19 with fail
        generalize w5.alloc _ = w6 at *
        have HA := hide h6
        have x0 : w6.cell? ⟨w5.heap.size, 0, none⟩ = some (.bool al) := by rw [Lib.cell_of_heap h6]; rfl
        have x1 : w6.cell? ⟨w5.heap.size, 1, none⟩ = some (.slice ra mr rc) := by rw [Lib.cell_of_heap h6]; rfl
        have x2 : w6.cell? ⟨w5.heap.size, 2, none⟩ = some (.slice ea m2 ec) := by rw [Lib.cell_of_heap h6]; rfl
        clear h6 b6 HRR HEE HW0 HW1 HW2 B5
        have hm0 := unhide HM0
        have hm1 := unhide HM1
        have hrs := unhide HRSd
        have hal := unhide HALd
        clear HM0 HM1 HRSd HALd
        by_cases e1 : m1 = 0
        · obtain rfl : rs = P0 := by rw [hrs, if_neg (by omega)]
          obtain rfl : mr = m0 := by rw [unhide HMR, hm0]
          subst e1
          by_cases e0 : mr = 0
          · subst e0
            obtain rfl : al = false := by rw [hal]; decide
            clear hrs hal hm1 hm0
            go_upto_region 24 with fail
            clear x0 x1 x2
            go_wp2
            go_loopw [13] (fun iv wx => ∃ i : Nat, iv = .int .i64 i ∧ i ≤ 0 ∧ Below w6.heap.size w6 wx) (fun iv _ => 0 - (intOf iv).toNat)
            case atStart => exact ⟨0, by go_num, Nat.zero_le _, Below.refl _ _⟩
            case round =>
              obtain ⟨i, rfl, hi, hbx⟩ := hrel
              rename World => wx
              by_cases hlt : i < 0
              · exact absurd hlt (Nat.not_lt_zero _)
              · have i1 : ¬ (i : Int) < (0 : Int) := by omega
                go_wp2
                go_loopw [14] (fun iv wx => ∃ i : Nat, iv = .int .i64 i ∧ i ≤ m2 ∧ Below w6.heap.size w6 wx) (fun iv _ => m2 - (intOf iv).toNat)
                case atStart => exact ⟨0, by go_num, Nat.zero_le _, hbx⟩
                case round =>
                  obtain ⟨i, rfl, hi, hbx⟩ := hrel
                  rename World => wx
                  by_cases hlt : i < m2
                  · have i0 : (0 : Int) ≤ (i : Int) := by omega
                    have i1 : (i : Int) < (m2 : Int) := by omega
                    obtain ⟨b, off, e1, hb, hc⟩ := unhide HEE6 i (by rw [List.length_map]; have := unhide HM2; omega)
                    obtain ⟨b', off', e2, hb', hc'⟩ := unhide HW26 i (by rw [List.length_map]; have := unhide HM2; omega)
                    obtain ⟨s, hs⟩ : ∃ s, s = P2[i]'(by have := unhide HM2; omega) := ⟨_, rfl⟩
                    have hc := hc 0 (.string s) (by rw [List.getElem_map, ← hs]; rfl)
                    have hc' := hc' 0 (.string s) (by rw [List.getElem_map, ← hs]; rfl)
                    rw [show off + i * 1 + 0 = off + i by omega] at hc
                    rw [show off' + i * 1 + 0 = off' + i by omega] at hc'
                    have hA := kept_of_below hbx (unhide HA)
                    have g0 := cell_regrown (show wx.cell? ⟨w5.heap.size, 2, none⟩ = some (.slice ea m2 ec) by rw [Lib.cell_of_heap hA]; rfl)
                    have g1 := cell_regrown ((hbx.cell (p := ⟨b, off + i, none⟩) hb).trans hc)
                    have g2 := cell_regrown ((hbx.cell (p := ⟨b', off' + i, none⟩) hb').trans hc')
                    clear hc hc' hs hA hb hb'
                    subst e1
                    subst e2
                    go_wp2_with fail
                    refine wp_region_quiet_below (by kernel_rfl) (by kernel_rfl) ?_
                    repeat (first | go_big_quiet_step (fail) | quiet_step (fail))
                    refine wpQuiet_nil ?_
                    intro _ hw'
                    obtain ⟨⟨dq, osq⟩, hw''⟩ := hw'
                    subst hw''
                    have b7 := hbx.trans ((below_regrown wx dq osq).mono hbx.size)
                    generalize grow (redrawn wx dq) osq = w7 at *
                    clear g0 g1 g2
                    go_wp2
                    go_roundw
                    case rel => exact ⟨i + 1, by go_num, by omega, b7⟩
                    case measure =>
                      simp only [intOf]
                      omega
                  · have i1 : ¬ (i : Int) < (m2 : Int) := by omega
                    go_wp2
                    go_ret
                    exact ⟨rfl, b1.trans ((B6.trans (hbx.mono B6.size)).mono b1.size)⟩
          · obtain rfl : al = true := by rw [hal]; simp; omega
            have j0 : (0 : Int) < (mr : Int) := by omega
            have n0 : ¬ (mr : Int) = 0 := by omega
            clear hrs hal hm1 hm0 e0
            go_upto_region 24 with fail
            clear x0 x1 x2
            go_wp2
            go_loopw [13] (fun iv wx => ∃ i : Nat, iv = .int .i64 i ∧ i ≤ mr ∧ Below w6.heap.size w6 wx) (fun iv _ => mr - (intOf iv).toNat)
            case atStart => exact ⟨0, by go_num, Nat.zero_le _, Below.refl _ _⟩
            case round =>
              obtain ⟨i, rfl, hi, hbx⟩ := hrel
              rename World => wx
              by_cases hlt : i < mr
              · have i0 : (0 : Int) ≤ (i : Int) := by omega
                have i1 : (i : Int) < (mr : Int) := by omega
                obtain ⟨b, off, e1, hb, hc⟩ := unhide HRR6 i (by rw [List.length_map]; have := unhide HMR; omega)
                obtain ⟨b', off', e2, hb', hc'⟩ := unhide HW06 i (by rw [List.length_map]; have := unhide HMR; omega)
                obtain ⟨s, hs⟩ : ∃ s, s = rs[i]'(by have := unhide HMR; omega) := ⟨_, rfl⟩
                have hc := hc 0 (.string s) (by rw [List.getElem_map, ← hs]; rfl)
                have hc' := hc' 0 (.string s) (by rw [List.getElem_map, ← hs]; rfl)
                rw [show off + i * 1 + 0 = off + i by omega] at hc
                rw [show off' + i * 1 + 0 = off' + i by omega] at hc'
                have hA := kept_of_below hbx (unhide HA)
                have g0 := cell_regrown (show wx.cell? ⟨w5.heap.size, 1, none⟩ = some (.slice ra mr rc) by rw [Lib.cell_of_heap hA]; rfl)
                have g1 := cell_regrown ((hbx.cell (p := ⟨b, off + i, none⟩) hb).trans hc)
                have g2 := cell_regrown ((hbx.cell (p := ⟨b', off' + i, none⟩) hb').trans hc')
                clear hc hc' hs hA hb hb'
                subst e1
                subst e2
                go_wp2_with fail
                refine wp_region_quiet_below (by kernel_rfl) (by kernel_rfl) ?_
                repeat (first | go_big_quiet_step (fail) | quiet_step (fail))
                refine wpQuiet_nil ?_
                intro _ hw'
                obtain ⟨⟨dq, osq⟩, hw''⟩ := hw'
                subst hw''
                have b7 := hbx.trans ((below_regrown wx dq osq).mono hbx.size)
                generalize grow (redrawn wx dq) osq = w7 at *
                clear g0 g1 g2
                go_wp2
                go_roundw
                case rel => exact ⟨i + 1, by go_num, by omega, b7⟩
                case measure =>
                  simp only [intOf]
                  omega
              · have i1 : ¬ (i : Int) < (mr : Int) := by omega
                go_wp2
                go_loopw [14] (fun iv wx => ∃ i : Nat, iv = .int .i64 i ∧ i ≤ m2 ∧ Below w6.heap.size w6 wx) (fun iv _ => m2 - (intOf iv).toNat)
                case atStart => exact ⟨0, by go_num, Nat.zero_le _, hbx⟩
                case round =>
                  obtain ⟨i, rfl, hi, hbx⟩ := hrel
                  rename World => wx
                  by_cases hlt : i < m2
                  · have i0 : (0 : Int) ≤ (i : Int) := by omega
                    have i1 : (i : Int) < (m2 : Int) := by omega
                    obtain ⟨b, off, e1, hb, hc⟩ := unhide HEE6 i (by rw [List.length_map]; have := unhide HM2; omega)
                    obtain ⟨b', off', e2, hb', hc'⟩ := unhide HW26 i (by rw [List.length_map]; have := unhide HM2; omega)
                    obtain ⟨s, hs⟩ : ∃ s, s = P2[i]'(by have := unhide HM2; omega) := ⟨_, rfl⟩
                    have hc := hc 0 (.string s) (by rw [List.getElem_map, ← hs]; rfl)
                    have hc' := hc' 0 (.string s) (by rw [List.getElem_map, ← hs]; rfl)
                    rw [show off + i * 1 + 0 = off + i by omega] at hc
                    rw [show off' + i * 1 + 0 = off' + i by omega] at hc'
                    have hA := kept_of_below hbx (unhide HA)
                    have g0 := cell_regrown (show wx.cell? ⟨w5.heap.size, 2, none⟩ = some (.slice ea m2 ec) by rw [Lib.cell_of_heap hA]; rfl)
                    have g1 := cell_regrown ((hbx.cell (p := ⟨b, off + i, none⟩) hb).trans hc)
                    have g2 := cell_regrown ((hbx.cell (p := ⟨b', off' + i, none⟩) hb').trans hc')
                    clear hc hc' hs hA hb hb'
                    subst e1
                    subst e2
                    go_wp2_with fail
                    refine wp_region_quiet_below (by kernel_rfl) (by kernel_rfl) ?_
                    repeat (first | go_big_quiet_step (fail) | quiet_step (fail))
                    refine wpQuiet_nil ?_
                    intro _ hw'
                    obtain ⟨⟨dq, osq⟩, hw''⟩ := hw'
                    subst hw''
                    have b7 := hbx.trans ((below_regrown wx dq osq).mono hbx.size)
                    generalize grow (redrawn wx dq) osq = w7 at *
                    clear g0 g1 g2
                    go_wp2
                    go_roundw
                    case rel => exact ⟨i + 1, by go_num, by omega, b7⟩
                    case measure =>
                      simp only [intOf]
                      omega
                  · have i1 : ¬ (i : Int) < (m2 : Int) := by omega
                    go_wp2
                    go_ret
                    exact ⟨rfl, b1.trans ((B6.trans (hbx.mono B6.size)).mono b1.size)⟩
        · obtain rfl : rs = P1 := by rw [hrs, if_pos (by omega)]
          obtain rfl : mr = m1 := by rw [unhide HMR, hm1]
          obtain rfl : al = false := by rw [hal]; simp; omega
          have j1 : (0 : Int) < (mr : Int) := by omega
          have n1 : ¬ (mr : Int) = 0 := by omega
          by_cases e0 : m0 = 0
          · subst e0
            clear hrs hal hm1 hm0 e1
            go_upto_region 24 with fail
            clear x0 x1 x2
            go_wp2
            go_loopw [13] (fun iv wx => ∃ i : Nat, iv = .int .i64 i ∧ i ≤ mr ∧ Below w6.heap.size w6 wx) (fun iv _ => mr - (intOf iv).toNat)
            case atStart => exact ⟨0, by go_num, Nat.zero_le _, Below.refl _ _⟩
            case round =>
              obtain ⟨i, rfl, hi, hbx⟩ := hrel
              rename World => wx
              by_cases hlt : i < mr
              · have i0 : (0 : Int) ≤ (i : Int) := by omega
                have i1 : (i : Int) < (mr : Int) := by omega
                obtain ⟨b, off, e1, hb, hc⟩ := unhide HRR6 i (by rw [List.length_map]; have := unhide HMR; omega)
                obtain ⟨b', off', e2, hb', hc'⟩ := unhide HW16 i (by rw [List.length_map]; have := unhide HMR; omega)
                obtain ⟨s, hs⟩ : ∃ s, s = rs[i]'(by have := unhide HMR; omega) := ⟨_, rfl⟩
                have hc := hc 0 (.string s) (by rw [List.getElem_map, ← hs]; rfl)
                have hc' := hc' 0 (.string s) (by rw [List.getElem_map, ← hs]; rfl)
                rw [show off + i * 1 + 0 = off + i by omega] at hc
                rw [show off' + i * 1 + 0 = off' + i by omega] at hc'
                have hA := kept_of_below hbx (unhide HA)
                have g0 := cell_regrown (show wx.cell? ⟨w5.heap.size, 1, none⟩ = some (.slice ra mr rc) by rw [Lib.cell_of_heap hA]; rfl)
                have g1 := cell_regrown ((hbx.cell (p := ⟨b, off + i, none⟩) hb).trans hc)
                have g2 := cell_regrown ((hbx.cell (p := ⟨b', off' + i, none⟩) hb').trans hc')
                clear hc hc' hs hA hb hb'
                subst e1
                subst e2
                go_wp2_with fail
                refine wp_region_quiet_below (by kernel_rfl) (by kernel_rfl) ?_
                repeat (first | go_big_quiet_step (fail) | quiet_step (fail))
                refine wpQuiet_nil ?_
                intro _ hw'
                obtain ⟨⟨dq, osq⟩, hw''⟩ := hw'
                subst hw''
                have b7 := hbx.trans ((below_regrown wx dq osq).mono hbx.size)
                generalize grow (redrawn wx dq) osq = w7 at *
                clear g0 g1 g2
                go_wp2
                go_roundw
                case rel => exact ⟨i + 1, by go_num, by omega, b7⟩
                case measure =>
                  simp only [intOf]
                  omega
              · have i1 : ¬ (i : Int) < (mr : Int) := by omega
                go_wp2
                go_loopw [14] (fun iv wx => ∃ i : Nat, iv = .int .i64 i ∧ i ≤ m2 ∧ Below w6.heap.size w6 wx) (fun iv _ => m2 - (intOf iv).toNat)
                case atStart => exact ⟨0, by go_num, Nat.zero_le _, hbx⟩
                case round =>
                  obtain ⟨i, rfl, hi, hbx⟩ := hrel
                  rename World => wx
                  by_cases hlt : i < m2
                  · have i0 : (0 : Int) ≤ (i : Int) := by omega
                    have i1 : (i : Int) < (m2 : Int) := by omega
                    obtain ⟨b, off, e1, hb, hc⟩ := unhide HEE6 i (by rw [List.length_map]; have := unhide HM2; omega)
                    obtain ⟨b', off', e2, hb', hc'⟩ := unhide HW26 i (by rw [List.length_map]; have := unhide HM2; omega)
                    obtain ⟨s, hs⟩ : ∃ s, s = P2[i]'(by have := unhide HM2; omega) := ⟨_, rfl⟩
                    have hc := hc 0 (.string s) (by rw [List.getElem_map, ← hs]; rfl)
                    have hc' := hc' 0 (.string s) (by rw [List.getElem_map, ← hs]; rfl)
                    rw [show off + i * 1 + 0 = off + i by omega] at hc
                    rw [show off' + i * 1 + 0 = off' + i by omega] at hc'
                    have hA := kept_of_below hbx (unhide HA)
                    have g0 := cell_regrown (show wx.cell? ⟨w5.heap.size, 2, none⟩ = some (.slice ea m2 ec) by rw [Lib.cell_of_heap hA]; rfl)
                    have g1 := cell_regrown ((hbx.cell (p := ⟨b, off + i, none⟩) hb).trans hc)
                    have g2 := cell_regrown ((hbx.cell (p := ⟨b', off' + i, none⟩) hb').trans hc')
                    clear hc hc' hs hA hb hb'
                    subst e1
                    subst e2
                    go_wp2_with fail
                    refine wp_region_quiet_below (by kernel_rfl) (by kernel_rfl) ?_
                    repeat (first | go_big_quiet_step (fail) | quiet_step (fail))
                    refine wpQuiet_nil ?_
                    intro _ hw'
                    obtain ⟨⟨dq, osq⟩, hw''⟩ := hw'
                    subst hw''
                    have b7 := hbx.trans ((below_regrown wx dq osq).mono hbx.size)
                    generalize grow (redrawn wx dq) osq = w7 at *
                    clear g0 g1 g2
                    go_wp2
                    go_roundw
                    case rel => exact ⟨i + 1, by go_num, by omega, b7⟩
                    case measure =>
                      simp only [intOf]
                      omega
                  · have i1 : ¬ (i : Int) < (m2 : Int) := by omega
                    go_wp2
                    go_ret
                    exact ⟨rfl, b1.trans ((B6.trans (hbx.mono B6.size)).mono b1.size)⟩
          · have j0 : (0 : Int) < (m0 : Int) := by omega
            have n0 : ¬ (m0 : Int) = 0 := by omega
            clear hrs hal hm1 hm0 e0 e1
            go_upto_region 24 with fail
            clear x0 x1 x2
            go_wp2
            go_loopw [13] (fun iv wx => ∃ i : Nat, iv = .int .i64 i ∧ i ≤ mr ∧ Below w6.heap.size w6 wx) (fun iv _ => mr - (intOf iv).toNat)
            case atStart => exact ⟨0, by go_num, Nat.zero_le _, Below.refl _ _⟩
            case round =>
              obtain ⟨i, rfl, hi, hbx⟩ := hrel
              rename World => wx
              by_cases hlt : i < mr
              · have i0 : (0 : Int) ≤ (i : Int) := by omega
                have i1 : (i : Int) < (mr : Int) := by omega
                obtain ⟨b, off, e1, hb, hc⟩ := unhide HRR6 i (by rw [List.length_map]; have := unhide HMR; omega)
                obtain ⟨b', off', e2, hb', hc'⟩ := unhide HW16 i (by rw [List.length_map]; have := unhide HMR; omega)
                obtain ⟨s, hs⟩ : ∃ s, s = rs[i]'(by have := unhide HMR; omega) := ⟨_, rfl⟩
                have hc := hc 0 (.string s) (by rw [List.getElem_map, ← hs]; rfl)
                have hc' := hc' 0 (.string s) (by rw [List.getElem_map, ← hs]; rfl)
                rw [show off + i * 1 + 0 = off + i by omega] at hc
                rw [show off' + i * 1 + 0 = off' + i by omega] at hc'
                have hA := kept_of_below hbx (unhide HA)
                have g0 := cell_regrown (show wx.cell? ⟨w5.heap.size, 1, none⟩ = some (.slice ra mr rc) by rw [Lib.cell_of_heap hA]; rfl)
                have g1 := cell_regrown ((hbx.cell (p := ⟨b, off + i, none⟩) hb).trans hc)
                have g2 := cell_regrown ((hbx.cell (p := ⟨b', off' + i, none⟩) hb').trans hc')
                clear hc hc' hs hA hb hb'
                subst e1
                subst e2
                go_wp2_with fail
                refine wp_region_quiet_below (by kernel_rfl) (by kernel_rfl) ?_
                repeat (first | go_big_quiet_step (fail) | quiet_step (fail))
                refine wpQuiet_nil ?_
                intro _ hw'
                obtain ⟨⟨dq, osq⟩, hw''⟩ := hw'
                subst hw''
                have b7 := hbx.trans ((below_regrown wx dq osq).mono hbx.size)
                generalize grow (redrawn wx dq) osq = w7 at *
                clear g0 g1 g2
                go_wp2
                go_roundw
                case rel => exact ⟨i + 1, by go_num, by omega, b7⟩
                case measure =>
                  simp only [intOf]
                  omega
              · have i1 : ¬ (i : Int) < (mr : Int) := by omega
                go_wp2
                go_loopw [14] (fun iv wx => ∃ i : Nat, iv = .int .i64 i ∧ i ≤ m2 ∧ Below w6.heap.size w6 wx) (fun iv _ => m2 - (intOf iv).toNat)
                case atStart => exact ⟨0, by go_num, Nat.zero_le _, hbx⟩
                case round =>
                  obtain ⟨i, rfl, hi, hbx⟩ := hrel
                  rename World => wx
                  by_cases hlt : i < m2
                  · have i0 : (0 : Int) ≤ (i : Int) := by omega
                    have i1 : (i : Int) < (m2 : Int) := by omega
                    obtain ⟨b, off, e1, hb, hc⟩ := unhide HEE6 i (by rw [List.length_map]; have := unhide HM2; omega)
                    obtain ⟨b', off', e2, hb', hc'⟩ := unhide HW26 i (by rw [List.length_map]; have := unhide HM2; omega)
                    obtain ⟨s, hs⟩ : ∃ s, s = P2[i]'(by have := unhide HM2; omega) := ⟨_, rfl⟩
                    have hc := hc 0 (.string s) (by rw [List.getElem_map, ← hs]; rfl)
                    have hc' := hc' 0 (.string s) (by rw [List.getElem_map, ← hs]; rfl)
                    rw [show off + i * 1 + 0 = off + i by omega] at hc
                    rw [show off' + i * 1 + 0 = off' + i by omega] at hc'
                    have hA := kept_of_below hbx (unhide HA)
                    have g0 := cell_regrown (show wx.cell? ⟨w5.heap.size, 2, none⟩ = some (.slice ea m2 ec) by rw [Lib.cell_of_heap hA]; rfl)
                    have g1 := cell_regrown ((hbx.cell (p := ⟨b, off + i, none⟩) hb).trans hc)
                    have g2 := cell_regrown ((hbx.cell (p := ⟨b', off' + i, none⟩) hb').trans hc')
                    clear hc hc' hs hA hb hb'
                    subst e1
                    subst e2
                    go_wp2_with fail
                    refine wp_region_quiet_below (by kernel_rfl) (by kernel_rfl) ?_
                    repeat (first | go_big_quiet_step (fail) | quiet_step (fail))
                    refine wpQuiet_nil ?_
                    intro _ hw'
                    obtain ⟨⟨dq, osq⟩, hw''⟩ := hw'
                    subst hw''
                    have b7 := hbx.trans ((below_regrown wx dq osq).mono hbx.size)
                    generalize grow (redrawn wx dq) osq = w7 at *
                    clear g0 g1 g2
                    go_wp2
                    go_roundw
                    case rel => exact ⟨i + 1, by go_num, by omega, b7⟩
                    case measure =>
                      simp only [intOf]
                      omega
                  · have i1 : ¬ (i : Int) < (m2 : Int) := by omega
                    go_wp2
                    go_ret
                    exact ⟨rfl, b1.trans ((B6.trans (hbx.mono B6.size)).mono b1.size)⟩
    · have i1 : ¬ (j : Int) < (N : Int) := by omega
      obtain ⟨lo, cN, rfl, hrow⟩ := (unhide HPN).row
      obtain ⟨l, hl⟩ : ∃ l, l = lN L := ⟨_, rfl⟩
      have hln : L.length = l.length := by rw [hl]; unfold lN; rw [List.length_map]
      have hL12 : L.length ≤ 100000 := by omega
      rw [← hl] at hrow
      have CO := dAll_any none [] 0 0 (noD aU zU zU) l lo L.length cN wr rfl (ew_nil wr ((unhide HF).below (b1.trans (bw.mono b1.size))) _ _ _) hln hL12 hrow (by rw [hl]; exact lN_ok L)
      have h3 := unhide HR3
      rw [← hl] at h3
      obtain ⟨a0, c0, e0, r0, _⟩ := own_rowSt (show wr.ownsRow w1.heap.size 9 1 u4 (tlyD (noD aU zU zU) l 0).length (strsV (tlyD (noD aU zU zU) l 0)) from h3.own 0 (by decide))
      obtain ⟨a1, c1, e1, r1, _⟩ := own_rowSt (show wr.ownsRow w1.heap.size 9 1 u5 (tlyD (noD aU zU zU) l 1).length (strsV (tlyD (noD aU zU zU) l 1)) from h3.own 1 (by decide))
      obtain ⟨a2, c2, e2, r2, _⟩ := own_rowSt (show wr.ownsRow w1.heap.size 9 1 u6 (tlyD (noD aU zU zU) l 2).length (strsV (tlyD (noD aU zU zU) l 2)) from h3.own 2 (by decide))
      subst e0 e1 e2
      have hB0 := tlyD_len (noD aU zU zU) l 0
      have hB1 := tlyD_len (noD aU zU zU) l 1
      have hB2 := tlyD_len (noD aU zU zU) l 2
      rw [← hln, hLj] at hB0 hB1 hB2
      unfold alwD rsnD at CO
      generalize tlyD (noD aU zU zU) l 0 = P0 at *
      generalize tlyD (noD aU zU zU) l 1 = P1 at *
      generalize tlyD (noD aU zU zU) l 2 = P2 at *
      obtain ⟨ln, hln2⟩ : ∃ ln, ln = L.length := ⟨_, rfl⟩
      rw [← hln2] at CO ⊢
      obtain ⟨m0, hm0⟩ : ∃ m, m = P0.length := ⟨_, rfl⟩
      obtain ⟨m1, hm1⟩ : ∃ m, m = P1.length := ⟨_, rfl⟩
      obtain ⟨m2, hm2⟩ : ∃ m, m = P2.length := ⟨_, rfl⟩
      rw [← hm0, ← hm1] at CO
      rw [← hm0, ← hm1, ← hm2]
      obtain ⟨rs, hrs⟩ : ∃ rs, rs = if 0 < m1 then P1 else P0 := ⟨_, rfl⟩
      obtain ⟨al, hal⟩ : ∃ al, al = (decide (0 < m0) && decide (m1 = 0)) := ⟨_, rfl⟩
      rw [← hrs, ← hal] at CO
      unfold RetAns at CO
      obtain ⟨mr, hmr⟩ : ∃ mr, mr = rs.length := ⟨_, rfl⟩
      have HMR := hide hmr
      rw [← hm2, ← hmr] at CO
      have hB0 : m0 ≤ 12 := by omega
      have hB1 : m1 ≤ 12 := by omega
      have hB2 : m2 ≤ 12 := by omega
      have HM2 := hide hm2
      have HM0 := hide hm0
      have HM1 := hide hm1
      have HRSd := hide hrs
      have HALd := hide hal
      clear hln hL12 hrow hl h3 hln2 HPN HR3 hm2 hm0 hm1 hrs hal hmr
      go_wp2_with fail
      refine CO.mono ?_
      clear CO
      rintro e w5 ⟨⟨ra, rc, ea, ec, rfl, hr, he⟩, b5⟩
      have HRR := hide hr
      have HEE := hide he
      have B5 := bw.trans (b5.mono bw.size)
      have HW0 := hide (RowG.below r0 b5)
      have HW1 := hide (RowG.below r1 b5)
      have HW2 := hide (RowG.below r2 b5)
      clear hr he r0 r1 r2
      have b6 := ev1 w5 (.cells #[.bool al, .slice ra mr rc, .slice ea m2 ec] 65)
      have h6 := alloc_heap w5 (.cells #[.bool al, .slice ra mr rc, .slice ea m2 ec] 65)
      have B6 := B5.trans (b6.mono B5.size)
      have HRR6 := hide (RowG.below (unhide HRR) b6)
      have HEE6 := hide (RowG.below (unhide HEE) b6)
      have HW06 := hide (RowG.below (unhide HW0) b6)
      have HW16 := hide (RowG.below (unhide HW1) b6)
      have HW26 := hide (RowG.below (unhide HW2) b6)
      go_upto_region 19 with fail
      generalize w5.alloc _ = w6 at *
      have HA := hide h6
      have x0 : w6.cell? ⟨w5.heap.size, 0, none⟩ = some (.bool al) := by rw [Lib.cell_of_heap h6]; rfl
      have x1 : w6.cell? ⟨w5.heap.size, 1, none⟩ = some (.slice ra mr rc) := by rw [Lib.cell_of_heap h6]; rfl
      have x2 : w6.cell? ⟨w5.heap.size, 2, none⟩ = some (.slice ea m2 ec) := by rw [Lib.cell_of_heap h6]; rfl
      clear h6 b6 HRR HEE HW0 HW1 HW2 B5
      have hm0 := unhide HM0
      have hm1 := unhide HM1
      have hrs := unhide HRSd
      have hal := unhide HALd
      clear HM0 HM1 HRSd HALd
      by_cases e1 : m1 = 0
      · obtain rfl : rs = P0 := by rw [hrs, if_neg (by omega)]
        obtain rfl : mr = m0 := by rw [unhide HMR, hm0]
        subst e1
        by_cases e0 : mr = 0
        · subst e0
          obtain rfl : al = false := by rw [hal]; decide
          clear hrs hal hm1 hm0
          go_upto_region 24 with fail
          clear x0 x1 x2
          go_wp2
          go_loopw [13] (fun iv wx => ∃ i : Nat, iv = .int .i64 i ∧ i ≤ 0 ∧ Below w6.heap.size w6 wx) (fun iv _ => 0 - (intOf iv).toNat)
          case atStart => exact ⟨0, by go_num, Nat.zero_le _, Below.refl _ _⟩
          case round =>
            obtain ⟨i, rfl, hi, hbx⟩ := hrel
            rename World => wx
            by_cases hlt : i < 0
            · exact absurd hlt (Nat.not_lt_zero _)
            · have i1 : ¬ (i : Int) < (0 : Int) := by omega
              go_wp2
              go_loopw [14] (fun iv wx => ∃ i : Nat, iv = .int .i64 i ∧ i ≤ m2 ∧ Below w6.heap.size w6 wx) (fun iv _ => m2 - (intOf iv).toNat)
              case atStart => exact ⟨0, by go_num, Nat.zero_le _, hbx⟩
              case round =>
                obtain ⟨i, rfl, hi, hbx⟩ := hrel
                rename World => wx
                by_cases hlt : i < m2
                · have i0 : (0 : Int) ≤ (i : Int) := by omega
                  have i1 : (i : Int) < (m2 : Int) := by omega
                  obtain ⟨b, off, e1, hb, hc⟩ := unhide HEE6 i (by rw [List.length_map]; have := unhide HM2; omega)
                  obtain ⟨b', off', e2, hb', hc'⟩ := unhide HW26 i (by rw [List.length_map]; have := unhide HM2; omega)
                  obtain ⟨s, hs⟩ : ∃ s, s = P2[i]'(by have := unhide HM2; omega) := ⟨_, rfl⟩
                  have hc := hc 0 (.string s) (by rw [List.getElem_map, ← hs]; rfl)
                  have hc' := hc' 0 (.string s) (by rw [List.getElem_map, ← hs]; rfl)
                  rw [show off + i * 1 + 0 = off + i by omega] at hc
                  rw [show off' + i * 1 + 0 = off' + i by omega] at hc'
                  have hA := kept_of_below hbx (unhide HA)
                  have g0 := cell_regrown (show wx.cell? ⟨w5.heap.size, 2, none⟩ = some (.slice ea m2 ec) by rw [Lib.cell_of_heap hA]; rfl)
                  have g1 := cell_regrown ((hbx.cell (p := ⟨b, off + i, none⟩) hb).trans hc)
                  have g2 := cell_regrown ((hbx.cell (p := ⟨b', off' + i, none⟩) hb').trans hc')
                  clear hc hc' hs hA hb hb'
                  subst e1
                  subst e2
                  go_wp2_with fail
                  refine wp_region_quiet_below (by kernel_rfl) (by kernel_rfl) ?_
                  repeat (first | go_big_quiet_step (fail) | quiet_step (fail))
                  refine wpQuiet_nil ?_
                  intro _ hw'
                  obtain ⟨⟨dq, osq⟩, hw''⟩ := hw'
                  subst hw''
                  have b7 := hbx.trans ((below_regrown wx dq osq).mono hbx.size)
                  generalize grow (redrawn wx dq) osq = w7 at *
                  clear g0 g1 g2
                  go_wp2
                  go_roundw
                  case rel => exact ⟨i + 1, by go_num, by omega, b7⟩
                  case measure =>
                    simp only [intOf]
                    omega
                · have i1 : ¬ (i : Int) < (m2 : Int) := by omega
                  go_wp2
                  go_ret
                  exact ⟨rfl, b1.trans ((B6.trans (hbx.mono B6.size)).mono b1.size)⟩
        · obtain rfl : al = true := by rw [hal]; simp; omega
          have j0 : (0 : Int) < (mr : Int) := by omega
          have n0 : ¬ (mr : Int) = 0 := by omega
          clear hrs hal hm1 hm0 e0
          go_upto_region 24 with fail
          clear x0 x1 x2
          go_wp2
          go_loopw [13] (fun iv wx => ∃ i : Nat, iv = .int .i64 i ∧ i ≤ mr ∧ Below w6.heap.size w6 wx) (fun iv _ => mr - (intOf iv).toNat)
          case atStart => exact ⟨0, by go_num, Nat.zero_le _, Below.refl _ _⟩
          case round =>
            obtain ⟨i, rfl, hi, hbx⟩ := hrel
            rename World => wx
            by_cases hlt : i < mr
            · have i0 : (0 : Int) ≤ (i : Int) := by omega
              have i1 : (i : Int) < (mr : Int) := by omega
              obtain ⟨b, off, e1, hb, hc⟩ := unhide HRR6 i (by rw [List.length_map]; have := unhide HMR; omega)
              obtain ⟨b', off', e2, hb', hc'⟩ := unhide HW06 i (by rw [List.length_map]; have := unhide HMR; omega)
              obtain ⟨s, hs⟩ : ∃ s, s = rs[i]'(by have := unhide HMR; omega) := ⟨_, rfl⟩
              have hc := hc 0 (.string s) (by rw [List.getElem_map, ← hs]; rfl)
              have hc' := hc' 0 (.string s) (by rw [List.getElem_map, ← hs]; rfl)
              rw [show off + i * 1 + 0 = off + i by omega] at hc
              rw [show off' + i * 1 + 0 = off' + i by omega] at hc'
              have hA := kept_of_below hbx (unhide HA)
              have g0 := cell_regrown (show wx.cell? ⟨w5.heap.size, 1, none⟩ = some (.slice ra mr rc) by rw [Lib.cell_of_heap hA]; rfl)
              have g1 := cell_regrown ((hbx.cell (p := ⟨b, off + i, none⟩) hb).trans hc)
              have g2 := cell_regrown ((hbx.cell (p := ⟨b', off' + i, none⟩) hb').trans hc')
              clear hc hc' hs hA hb hb'
              subst e1
              subst e2
              go_wp2_with fail
              refine wp_region_quiet_below (by kernel_rfl) (by kernel_rfl) ?_
              repeat (first | go_big_quiet_step (fail) | quiet_step (fail))
              refine wpQuiet_nil ?_
              intro _ hw'
              obtain ⟨⟨dq, osq⟩, hw''⟩ := hw'
              subst hw''
              have b7 := hbx.trans ((below_regrown wx dq osq).mono hbx.size)
              generalize grow (redrawn wx dq) osq = w7 at *
              clear g0 g1 g2
              go_wp2
              go_roundw
              case rel => exact ⟨i + 1, by go_num, by omega, b7⟩
              case measure =>
                simp only [intOf]
                omega
            · have i1 : ¬ (i : Int) < (mr : Int) := by omega
              go_wp2
              go_loopw [14] (fun iv wx => ∃ i : Nat, iv = .int .i64 i ∧ i ≤ m2 ∧ Below w6.heap.size w6 wx) (fun iv _ => m2 - (intOf iv).toNat)
              case atStart => exact ⟨0, by go_num, Nat.zero_le _, hbx⟩
              case round =>
                obtain ⟨i, rfl, hi, hbx⟩ := hrel
                rename World => wx
                by_cases hlt : i < m2
                · have i0 : (0 : Int) ≤ (i : Int) := by omega
                  have i1 : (i : Int) < (m2 : Int) := by omega
                  obtain ⟨b, off, e1, hb, hc⟩ := unhide HEE6 i (by rw [List.length_map]; have := unhide HM2; omega)
                  obtain ⟨b', off', e2, hb', hc'⟩ := unhide HW26 i (by rw [List.length_map]; have := unhide HM2; omega)
                  obtain ⟨s, hs⟩ : ∃ s, s = P2[i]'(by have := unhide HM2; omega) := ⟨_, rfl⟩
                  have hc := hc 0 (.string s) (by rw [List.getElem_map, ← hs]; rfl)
                  have hc' := hc' 0 (.string s) (by rw [List.getElem_map, ← hs]; rfl)
                  rw [show off + i * 1 + 0 = off + i by omega] at hc
                  rw [show off' + i * 1 + 0 = off' + i by omega] at hc'
                  have hA := kept_of_below hbx (unhide HA)
                  have g0 := cell_regrown (show wx.cell? ⟨w5.heap.size, 2, none⟩ = some (.slice ea m2 ec) by rw [Lib.cell_of_heap hA]; rfl)
                  have g1 := cell_regrown ((hbx.cell (p := ⟨b, off + i, none⟩) hb).trans hc)
                  have g2 := cell_regrown ((hbx.cell (p := ⟨b', off' + i, none⟩) hb').trans hc')
                  clear hc hc' hs hA hb hb'
                  subst e1
                  subst e2
                  go_wp2_with fail
                  refine wp_region_quiet_below (by kernel_rfl) (by kernel_rfl) ?_
                  repeat (first | go_big_quiet_step (fail) | quiet_step (fail))
                  refine wpQuiet_nil ?_
                  intro _ hw'
                  obtain ⟨⟨dq, osq⟩, hw''⟩ := hw'
                  subst hw''
                  have b7 := hbx.trans ((below_regrown wx dq osq).mono hbx.size)
                  generalize grow (redrawn wx dq) osq = w7 at *
                  clear g0 g1 g2
                  go_wp2
                  go_roundw
                  case rel => exact ⟨i + 1, by go_num, by omega, b7⟩
                  case measure =>
                    simp only [intOf]
                    omega
                · have i1 : ¬ (i : Int) < (m2 : Int) := by omega
                  go_wp2
                  go_ret
                  exact ⟨rfl, b1.trans ((B6.trans (hbx.mono B6.size)).mono b1.size)⟩
      · obtain rfl : rs = P1 := by rw [hrs, if_pos (by omega)]
        obtain rfl : mr = m1 := by rw [unhide HMR, hm1]
        obtain rfl : al = false := by rw [hal]; simp; omega
        have j1 : (0 : Int) < (mr : Int) := by omega
        have n1 : ¬ (mr : Int) = 0 := by omega
        by_cases e0 : m0 = 0
        · subst e0
          clear hrs hal hm1 hm0 e1
          go_upto_region 24 with fail
          clear x0 x1 x2
          go_wp2
          go_loopw [13] (fun iv wx => ∃ i : Nat, iv = .int .i64 i ∧ i ≤ mr ∧ Below w6.heap.size w6 wx) (fun iv _ => mr - (intOf iv).toNat)
          case atStart => exact ⟨0, by go_num, Nat.zero_le _, Below.refl _ _⟩
          case round =>
            obtain ⟨i, rfl, hi, hbx⟩ := hrel
            rename World => wx
            by_cases hlt : i < mr
            · have i0 : (0 : Int) ≤ (i : Int) := by omega
              have i1 : (i : Int) < (mr : Int) := by omega
              obtain ⟨b, off, e1, hb, hc⟩ := unhide HRR6 i (by rw [List.length_map]; have := unhide HMR; omega)
              obtain ⟨b', off', e2, hb', hc'⟩ := unhide HW16 i (by rw [List.length_map]; have := unhide HMR; omega)
              obtain ⟨s, hs⟩ : ∃ s, s = rs[i]'(by have := unhide HMR; omega) := ⟨_, rfl⟩
              have hc := hc 0 (.string s) (by rw [List.getElem_map, ← hs]; rfl)
              have hc' := hc' 0 (.string s) (by rw [List.getElem_map, ← hs]; rfl)
              rw [show off + i * 1 + 0 = off + i by omega] at hc
              rw [show off' + i * 1 + 0 = off' + i by omega] at hc'
              have hA := kept_of_below hbx (unhide HA)
              have g0 := cell_regrown (show wx.cell? ⟨w5.heap.size, 1, none⟩ = some (.slice ra mr rc) by rw [Lib.cell_of_heap hA]; rfl)
              have g1 := cell_regrown ((hbx.cell (p := ⟨b, off + i, none⟩) hb).trans hc)
              have g2 := cell_regrown ((hbx.cell (p := ⟨b', off' + i, none⟩) hb').trans hc')
              clear hc hc' hs hA hb hb'
              subst e1
              subst e2
              go_wp2_with fail
              refine wp_region_quiet_below (by kernel_rfl) (by kernel_rfl) ?_
              repeat (first | go_big_quiet_step (fail) | quiet_step (fail))
              refine wpQuiet_nil ?_
              intro _ hw'
              obtain ⟨⟨dq, osq⟩, hw''⟩ := hw'
              subst hw''
              have b7 := hbx.trans ((below_regrown wx dq osq).mono hbx.size)
              generalize grow (redrawn wx dq) osq = w7 at *
              clear g0 g1 g2
              go_wp2
              go_roundw
              case rel => exact ⟨i + 1, by go_num, by omega, b7⟩
              case measure =>
                simp only [intOf]
                omega
            · have i1 : ¬ (i : Int) < (mr : Int) := by omega
              go_wp2
              go_loopw [14] (fun iv wx => ∃ i : Nat, iv = .int .i64 i ∧ i ≤ m2 ∧ Below w6.heap.size w6 wx) (fun iv _ => m2 - (intOf iv).toNat)
              case atStart => exact ⟨0, by go_num, Nat.zero_le _, hbx⟩
              case round =>
                obtain ⟨i, rfl, hi, hbx⟩ := hrel
                rename World => wx
                by_cases hlt : i < m2
                · have i0 : (0 : Int) ≤ (i : Int) := by omega
                  have i1 : (i : Int) < (m2 : Int) := by omega
                  obtain ⟨b, off, e1, hb, hc⟩ := unhide HEE6 i (by rw [List.length_map]; have := unhide HM2; omega)
                  obtain ⟨b', off', e2, hb', hc'⟩ := unhide HW26 i (by rw [List.length_map]; have := unhide HM2; omega)
                  obtain ⟨s, hs⟩ : ∃ s, s = P2[i]'(by have := unhide HM2; omega) := ⟨_, rfl⟩
                  have hc := hc 0 (.string s) (by rw [List.getElem_map, ← hs]; rfl)
                  have hc' := hc' 0 (.string s) (by rw [List.getElem_map, ← hs]; rfl)
                  rw [show off + i * 1 + 0 = off + i by omega] at hc
                  rw [show off' + i * 1 + 0 = off' + i by omega] at hc'
                  have hA := kept_of_below hbx (unhide HA)
                  have g0 := cell_regrown (show wx.cell? ⟨w5.heap.size, 2, none⟩ = some (.slice ea m2 ec) by rw [Lib.cell_of_heap hA]; rfl)
                  have g1 := cell_regrown ((hbx.cell (p := ⟨b, off + i, none⟩) hb).trans hc)
                  have g2 := cell_regrown ((hbx.cell (p := ⟨b', off' + i, none⟩) hb').trans hc')
                  clear hc hc' hs hA hb hb'
                  subst e1
                  subst e2
                  go_wp2_with fail
                  refine wp_region_quiet_below (by kernel_rfl) (by kernel_rfl) ?_
                  repeat (first | go_big_quiet_step (fail) | quiet_step (fail))
                  refine wpQuiet_nil ?_
                  intro _ hw'
                  obtain ⟨⟨dq, osq⟩, hw''⟩ := hw'
                  subst hw''
                  have b7 := hbx.trans ((below_regrown wx dq osq).mono hbx.size)
                  generalize grow (redrawn wx dq) osq = w7 at *
                  clear g0 g1 g2
                  go_wp2
                  go_roundw
                  case rel => exact ⟨i + 1, by go_num, by omega, b7⟩
                  case measure =>
                    simp only [intOf]
                    omega
                · have i1 : ¬ (i : Int) < (m2 : Int) := by omega
                  go_wp2
                  go_ret
                  exact ⟨rfl, b1.trans ((B6.trans (hbx.mono B6.size)).mono b1.size)⟩
        · have j0 : (0 : Int) < (m0 : Int) := by omega
          have n0 : ¬ (m0 : Int) = 0 := by omega
          clear hrs hal hm1 hm0 e0 e1
          go_upto_region 24 with fail
          clear x0 x1 x2
          go_wp2
          go_loopw [13] (fun iv wx => ∃ i : Nat, iv = .int .i64 i ∧ i ≤ mr ∧ Below w6.heap.size w6 wx) (fun iv _ => mr - (intOf iv).toNat)
          case atStart => exact ⟨0, by go_num, Nat.zero_le _, Below.refl _ _⟩
          case round =>
            obtain ⟨i, rfl, hi, hbx⟩ := hrel
            rename World => wx
            by_cases hlt : i < mr
            · have i0 : (0 : Int) ≤ (i : Int) := by omega
              have i1 : (i : Int) < (mr : Int) := by omega
              obtain ⟨b, off, e1, hb, hc⟩ := unhide HRR6 i (by rw [List.length_map]; have := unhide HMR; omega)
              obtain ⟨b', off', e2, hb', hc'⟩ := unhide HW16 i (by rw [List.length_map]; have := unhide HMR; omega)
              obtain ⟨s, hs⟩ : ∃ s, s = rs[i]'(by have := unhide HMR; omega) := ⟨_, rfl⟩
              have hc := hc 0 (.string s) (by rw [List.getElem_map, ← hs]; rfl)
              have hc' := hc' 0 (.string s) (by rw [List.getElem_map, ← hs]; rfl)
              rw [show off + i * 1 + 0 = off + i by omega] at hc
              rw [show off' + i * 1 + 0 = off' + i by omega] at hc'
              have hA := kept_of_below hbx (unhide HA)
              have g0 := cell_regrown (show wx.cell? ⟨w5.heap.size, 1, none⟩ = some (.slice ra mr rc) by rw [Lib.cell_of_heap hA]; rfl)
              have g1 := cell_regrown ((hbx.cell (p := ⟨b, off + i, none⟩) hb).trans hc)
              have g2 := cell_regrown ((hbx.cell (p := ⟨b', off' + i, none⟩) hb').trans hc')
              clear hc hc' hs hA hb hb'
              subst e1
              subst e2
              go_wp2_with fail
              refine wp_region_quiet_below (by kernel_rfl) (by kernel_rfl) ?_
              repeat (first | go_big_quiet_step (fail) | quiet_step (fail))
              refine wpQuiet_nil ?_
              intro _ hw'
              obtain ⟨⟨dq, osq⟩, hw''⟩ := hw'
              subst hw''
              have b7 := hbx.trans ((below_regrown wx dq osq).mono hbx.size)
              generalize grow (redrawn wx dq) osq = w7 at *
              clear g0 g1 g2
              go_wp2
              go_roundw
              case rel => exact ⟨i + 1, by go_num, by omega, b7⟩
              case measure =>
                simp only [intOf]
                omega
            · have i1 : ¬ (i : Int) < (mr : Int) := by omega
              go_wp2
              go_loopw [14] (fun iv wx => ∃ i : Nat, iv = .int .i64 i ∧ i ≤ m2 ∧ Below w6.heap.size w6 wx) (fun iv _ => m2 - (intOf iv).toNat)
              case atStart => exact ⟨0, by go_num, Nat.zero_le _, hbx⟩
              case round =>
                obtain ⟨i, rfl, hi, hbx⟩ := hrel
                rename World => wx
                by_cases hlt : i < m2
                · have i0 : (0 : Int) ≤ (i : Int) := by omega
                  have i1 : (i : Int) < (m2 : Int) := by omega
                  obtain ⟨b, off, e1, hb, hc⟩ := unhide HEE6 i (by rw [List.length_map]; have := unhide HM2; omega)
                  obtain ⟨b', off', e2, hb', hc'⟩ := unhide HW26 i (by rw [List.length_map]; have := unhide HM2; omega)
                  obtain ⟨s, hs⟩ : ∃ s, s = P2[i]'(by have := unhide HM2; omega) := ⟨_, rfl⟩
                  have hc := hc 0 (.string s) (by rw [List.getElem_map, ← hs]; rfl)
                  have hc' := hc' 0 (.string s) (by rw [List.getElem_map, ← hs]; rfl)
                  rw [show off + i * 1 + 0 = off + i by omega] at hc
                  rw [show off' + i * 1 + 0 = off' + i by omega] at hc'
                  have hA := kept_of_below hbx (unhide HA)
                  have g0 := cell_regrown (show wx.cell? ⟨w5.heap.size, 2, none⟩ = some (.slice ea m2 ec) by rw [Lib.cell_of_heap hA]; rfl)
                  have g1 := cell_regrown ((hbx.cell (p := ⟨b, off + i, none⟩) hb).trans hc)
                  have g2 := cell_regrown ((hbx.cell (p := ⟨b', off' + i, none⟩) hb').trans hc')
                  clear hc hc' hs hA hb hb'
                  subst e1
                  subst e2
                  go_wp2_with fail
                  refine wp_region_quiet_below (by kernel_rfl) (by kernel_rfl) ?_
                  repeat (first | go_big_quiet_step (fail) | quiet_step (fail))
                  refine wpQuiet_nil ?_
                  intro _ hw'
                  obtain ⟨⟨dq, osq⟩, hw''⟩ := hw'
                  subst hw''
                  have b7 := hbx.trans ((below_regrown wx dq osq).mono hbx.size)
                  generalize grow (redrawn wx dq) osq = w7 at *
                  clear g0 g1 g2
                  go_wp2
                  go_roundw
                  case rel => exact ⟨i + 1, by go_num, by omega, b7⟩
                  case measure =>
                    simp only [intOf]
                    omega
                · have i1 : ¬ (i : Int) < (m2 : Int) := by omega
                  go_wp2
                  go_ret
                  exact ⟨rfl, b1.trans ((B6.trans (hbx.mono B6.size)).mono b1.size)⟩
end Go.Proofs.YtldmfdkmkjiabaaGreat
