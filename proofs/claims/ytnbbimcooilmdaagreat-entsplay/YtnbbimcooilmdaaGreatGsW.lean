/-
  chancellaw8.EntsPlay: the walk.
-/
import Derived.Test.YtnbbimcooilmdaaGreatGsB
import Derived.Test.YtnbbimcooilmdaaGreatGsDD
import Derived.Test.YtnbbimcooilmdaaGreatGdG
import Derived.Test.YtnbbimcooilmdaaGreatEcGB
namespace Go.Proofs.YtnbbimcooilmdaaGreat
open Go.RowKit Go.Sort

theorem within8p_any (a n : Int) (hn : 0 < n) (hn1 : n ≤ 4294967296) (w : World) :
    Calls Tryz.prog 10 #[.int .i64 a, .int .i64 n] w fun e w' => e = .returned (.int .i64 (a % n)) ∧ w' = w := by
  go_enter Tryz.func10, Tryz.ntmps10
  go_wp2
  · go_ret
    exact ⟨ret_int5 (tmod_neg a n hn hn1 (by assumption)), rfl⟩
  · go_ret
    exact ⟨ret_int5 (tmod_pos a n hn (by assumption)), rfl⟩
theorem find_put (ps : List EntP) (p : EntP) : findP (putP ps p) p.u = some p := by
  unfold findP putP
  rw [List.find?_append, List.find?_eq_none.2 (fun q hq => by
    have h := (List.mem_filter.1 hq).2
    rw [decide_eq_true_eq]
    intro e
    rw [e, sto_lessU.irr] at h
    cases h)]
  simp
theorem find_drop (ps : List EntP) (u : U2) : findP (dropP ps u) u = none := by
  unfold findP dropP
  rw [List.find?_eq_none]
  intro q hq
  have := (List.mem_filter.1 hq).2
  rw [decide_eq_true_eq] at this ⊢
  exact this
theorem put_pos (ps : List EntP) (p : EntP) : 0 < (putP ps p).length := by
  unfold putP
  rw [List.length_append, List.length_cons]
  omega
theorem drop_fits {ps : List EntP} {u : U2} (hf : ∀ q ∈ ps, q.fits) : ∀ q ∈ dropP ps u, q.fits := fun q hq => hf q (List.mem_filter.1 hq).1
theorem drop_len (ps : List EntP) (u : U2) : (dropP ps u).length ≤ ps.length := List.length_filter_le _ _
theorem row_flatO {w : World} {ao : Option Addr} {n : Nat} {l : List (List Value)} (hn : ∀ c ∈ l, c.length = n) (h : RowG w ao n l) : ∀ ad, ao = some ad → ∀ k v, l.flatten[k]? = some v → w.cell? (ad.add k) = some v := by
  intro ad e k v hv
  have hl : 0 < l.length := by
    rcases Nat.eq_zero_or_pos l.length with h0 | h0
    · rw [List.eq_nil_of_length_eq_zero h0] at hv
      simp at hv
    · exact h0
  obtain ⟨b, off, e', _, _⟩ := h 0 hl
  rw [e'] at e
  cases e
  rw [e'] at h
  exact row_flat hn h k v hv

set_option maxHeartbeats 40000000 in
set_option maxRecDepth 1000000 in
theorem eplay_walk (lo : Option Addr) (rs : List EntR) (lc : Nat) (l2 : Option Addr) (ms : List EntR) (lc2 : Nat) (dro : Option Addr) (drs : List Int) (drc : Nat) (w : World) (hl : rs.length ≤ 9223372036854775807) (hr : RowEnt w lo rs) (_hl2 : ms.length ≤ 9223372036854775807) (hr2 : RowEnt w l2 ms) (_hl3 : drs.length ≤ 9223372036854775807) (hr3 : IntsAt w dro drs) :
    Calls Tryz.prog 4 #[.slice lo rs.length lc, .slice l2 ms.length lc2, .slice dro drs.length drc] w fun e w' => e = .returned (.bool true) ∧ Below w.heap.size w w' := by
  obtain ⟨i0, hi, hz0, hz1, hz2⟩ := info_parts infoEntG
  have HR := hide hr
  have HR2 := hide hr2
  have HR3 := hide hr3
  clear hr hr2 hr3
  go_enter Tryz.func4, Tryz.ntmps4
  go_wp2_with fail
  refine (known8_any w).mono ?_
  rintro _ w0 ⟨rfl, b0⟩
  have G := good8_any lo rs lc w0 hl ((unhide HR).below b0)
  go_wp2_with fail
  refine G.mono ?_
  clear G
  rintro _ w1 ⟨b01, go, gcap, gs, rfl, hgr, hgA, hgc, hgn⟩
  have b1 := b0.trans (b01.mono b0.size)
  have HG := hide (OrdG.mk hgr hgn hgc hgA)
  clear hgr hgA hgc hgn
  go_wp2
  go_loopw [7, 8] (fun gv iv wr => ∃ (i : Nat) (es : List E4) (ao : Option Addr) (cap : Nat) (ps : List EntP), i ≤ ms.length ∧ i ≤ 10 ∧ iv = .int .i64 i ∧ gv = .slice ao es.length cap ∧ Below w1.heap.size w1 wr ∧ OrdG wr ao cap es ps ∧ RisingP ps ∧ (∀ q ∈ ps, q.fits) ∧ ps.length ≤ 12 + i) (fun _ iv _ => 10 - (intOf iv).toNat)
  case atStart => exact ⟨0, gs, go, gcap, goodsL rs, Nat.zero_le _, Nat.zero_le _, rfl, rfl, Below.refl _ _, unhide HG, goodsL_rising rs, goodsL_fits rs, goodsL_len rs⟩
  case round =>
    clear HG
    obtain ⟨i, es, ao, cap, ps, hi1, hi10, rfl, rfl, hbw, hO, hri, hfi, hpl⟩ := hrel
    have HO := hide hO
    have HRI := hide hri
    have HFI := hide hfi
    have hel : es.length ≤ 22 := by rw [hO.all.1]; omega
    clear hO hri hfi
    have b0w := b1.trans (hbw.mono b1.size)
    by_cases hlt : i < ms.length
    · have i1 : (i : Int) < (ms.length : Int) := by omega
      by_cases h10 : i < 10
      · have i3 : (i : Int) < 10 := by omega
        have k0 : (0 : Int) ≤ (i : Int) := by omega
        have hclenA : ((es.map E4.cells).flatten).length = es.length * 4 := by rw [flatG_len (n := 4) _ (lenE _), List.length_map]
        have HcA := hide (row_flatO (lenE es) (RowG.below (unhide HO).row (below1 wr (.cells #[] 29))))
        have hclA : es.length ≤ 1000 := by omega
        go_wp2_with (at_builtin; refine wpList_append_row _ rfl _ _ 22 rfl wr.heap.size 29 i0 _ 4 80 Tryz.underlying22 hi hz0 hz1 hz2 rfl (by decide) _ _ _ rfl (World.ownsRow_made wr #[] 0 (Nat.le_refl _) (Nat.zero_le _) rfl) ao es.length cap ((es.map E4.cells).flatten) rfl ?nA ?lA ?wA ?oA ?mA ?yA ?bA ?_)
        case nA => exact (unhide HO).nil
        case lA => exact hclenA
        case wA => exact unhide HcA
        case oA => exact oneE _
        case mA => unfold maxLen; omega
        case yA => omega
        case bA => simp
        intro vA w2 hownA hgA
        have bA : Below wr.heap.size wr w2 := (below1 wr (.cells #[] 29)).grown hgA (below1 wr (.cells #[] 29)).size (fun k hk => by cases hk; exact Nat.le_refl _)
        have hownA : w2.ownsRow wr.heap.size 29 4 vA (es.map E4.cells).length (es.map E4.cells).flatten := by simpa using hownA
        obtain ⟨wo, wc, eA, hrowA, _, _⟩ := rowG_own (lenE es) hownA
        rw [List.length_map] at eA
        subst eA
        have HrowA := hide hrowA
        clear hownA hgA hrowA HcA hclenA
        have b02 := b0w.trans (bA.mono b0w.size)
        obtain ⟨b, off, rfl, hb, hcell⟩ := rowG_at (unhide HR2).1 b02 hlt
        have EN := entity5_any ms[i] w2 (((unhide HR2).2 _ (List.getElem_mem _)).below b02)
        obtain ⟨r, hrr⟩ : ∃ r, r = ms[i] := ⟨_, rfl⟩
        rw [← hrr] at hcell EN
        have c0 := hcell 0 _ rfl
        have c1 := hcell 1 _ rfl
        have c2 := hcell 2 _ rfl
        have c3 := hcell 3 _ rfl
        have c4 := hcell 4 _ rfl
        rw [Nat.add_zero] at c0
        clear hcell hrr
        unfold EntR.val at EN
        go_wp2_with fail
        clear c0 c1 c2 c3 c4
        refine EN.mono ?_
        clear EN
        rintro _ w3 ⟨b3, e, rfl, he⟩
        obtain ⟨p, hp⟩ : ∃ p, p = entP r := ⟨_, rfl⟩
        have HPF := hide (show p.fits by rw [hp]; exact entP_fits r)
        rw [← hp] at he
        clear hp
        unfold E4.val
        have b34 := below1 w3 (.cells #[.string e.t, .string e.i, .slice e.po e.pl e.pc, .slice e.ao e.al e.ac] 29)
        have hV4 : w3.heap.size < (w3.alloc (.cells #[.string e.t, .string e.i, .slice e.po e.pl e.pc, .slice e.ao e.al e.ac] 29)).heap.size := by rw [size1]; omega
        have AE4 : AtE4 (w3.alloc (.cells #[.string e.t, .string e.i, .slice e.po e.pl e.pc, .slice e.ao e.al e.ac] 29)) w3.heap.size 0 e := ⟨by simp, by simp, by simp, by simp⟩
        have brw3 := bA.trans (b3.mono bA.size)
        have brw4 := brw3.trans (b34.mono brw3.size)
        have b24 := b3.trans (b34.mono b3.size)
        have b04 := b02.trans (b24.mono b02.size)
        have PU := eput_any es ps ao cap e p _ ((unhide HO).row.below brw4) (unhide HO).cap ((unhide HO).all.below brw4) (he.below b34) (unhide HRI) (unhide HFI) (unhide HPF) (by omega)
        obtain ⟨qs, hqs⟩ : ∃ qs, qs = putP ps p := ⟨_, rfl⟩
        rw [← hqs] at PU
        obtain ⟨n, hn⟩ : ∃ n, n = qs.length := ⟨_, rfl⟩
        rw [← hn] at PU
        have HQS := hide hqs
        have HN := hide hn
        have HQI : Hid (RisingP qs) := hide (by rw [hqs]; exact rising_put (unhide HRI))
        have HQF : Hid (∀ q ∈ qs, q.fits) := hide (by rw [hqs]; exact put_fits (unhide HFI) (unhide HPF))
        have hn1 : 0 < n := by rw [hn, hqs]; exact put_pos ps p
        have hn23 : n ≤ 13 + i := by rw [hn, hqs]; have := put_len ps p; omega
        have He4 := hide (he.below b34)
        have HA2 := hide ((unhide HO).all.below bA)
        clear hqs hn he
        unfold E4.val at PU
        go_wp2_with fail
        generalize w3.alloc _ = w4 at *
        refine PU.mono ?_
        clear PU
        rintro _ w5 ⟨b5, G, xs, rfl, hxr, hxA, hG⟩
        have hxl : xs.length = n := by rw [hxA.1, unhide HN]
        have HXL := hide hxl
        have HXR := hide hxr
        have HXA := hide hxA
        clear hxr hxA
        have b25 := b24.trans (b5.mono b24.size)
        have brw5 := brw4.trans (b5.mono brw4.size)
        have b05 := b04.trans (b5.mono b04.size)
        have hV5 : w3.heap.size < w5.heap.size := Nat.lt_of_lt_of_le hV4 b5.size
        have AE5 := AE4.below b5 hV4
        have RP := r8put_any es ps wo wc e p w5 ((unhide HrowA).below b25) ((unhide HA2).below b25) ((unhide He4).below b5) (unhide HRI) (by omega)
        rw [← unhide HQS] at RP
        unfold E4.val at RP
        obtain ⟨a0, a1, a2, a3⟩ := AE5
        simp only [Nat.zero_add] at a1 a2 a3
        clear hxl
        go_wp2_with fail
        clear a0 a1 a2 a3
        refine RP.mono ?_
        clear RP
        rintro _ w6 ⟨b6, yo, yc, ys, rfl, hyr, hyA, _, _⟩
        have b56 := b6
        have SA1 := sameAll_true xs ys qs (some ⟨G, 0, none⟩) yo n yc w6 ((unhide HXR).below b6) hyr ((unhide HXA).below b6) hyA (unhide HQF) (by have := unhide HN; omega)
        rw [unhide HXL] at SA1
        clear hyr hyA
        go_wp2_with fail
        refine SA1.mono ?_
        clear SA1
        rintro _ w7 ⟨rfl, b7⟩
        have b57 := b6.trans (b7.mono b6.size)
        have brw7 := brw5.trans (b57.mono brw5.size)
        have b27 := b25.trans (b57.mono b25.size)
        have SA2 := sameAll_true es es ps ao wo cap wc w7 ((unhide HO).row.below brw7) ((unhide HrowA).below b27) ((unhide HO).all.below brw7) ((unhide HO).all.below brw7) (unhide HFI) (by omega)
        go_wp2_with fail
        refine SA2.mono ?_
        clear SA2
        rintro _ w8 ⟨rfl, b8⟩
        have b58 := b57.trans (b8.mono b57.size)
        have b48 := b5.trans (b58.mono b5.size)
        have b08 := b05.trans (b58.mono b05.size)
        have hV8 : w3.heap.size < w8.heap.size := Nat.lt_of_lt_of_le hV5 b58.size
        have AE8 := AE4.below b48 hV4
        have FI := efind_any xs qs (some ⟨G, 0, none⟩) n ⟨e.t, e.i⟩ w8 ((unhide HXR).below b58) ((unhide HXA).below b58) (unhide HQI) (unhide HQF) (by have := unhide HN; omega)
        rw [unhide HXL, show findP qs ⟨e.t, e.i⟩ = some p by rw [unhide HQS, (unhide He4).u]; exact find_put ps p] at FI
        unfold U2.val at FI
        obtain ⟨a0, a1, a2, a3⟩ := AE8
        simp only [Nat.zero_add] at a1 a2 a3
        go_wp2_with fail
        clear a0 a1 a2 a3
        refine FI.mono ?_
        clear FI
        rintro _ w9 ⟨b9, f, rfl, hf⟩
        have b49 := b48.trans (b9.mono b48.size)
        have b09 := b08.trans (b9.mono b08.size)
        have b59 := b58.trans (b9.mono b58.size)
        unfold E4.val
        have b9a := below1 w9 (.cells #[.string f.t, .string f.i, .slice f.po f.pl f.pc, .slice f.ao f.al f.ac] 29)
        have hF10 : w9.heap.size < (w9.alloc (.cells #[.string f.t, .string f.i, .slice f.po f.pl f.pc, .slice f.ao f.al f.ac] 29)).heap.size := by rw [size1]; omega
        have AF10 : AtE4 (w9.alloc (.cells #[.string f.t, .string f.i, .slice f.po f.pl f.pc, .slice f.ao f.al f.ac] 29)) w9.heap.size 0 f := ⟨by simp, by simp, by simp, by simp⟩
        have b4a := b49.trans (b9a.mono b49.size)
        have b0a := b09.trans (b9a.mono b09.size)
        have b5a := b59.trans (b9a.mono b59.size)
        have AE10 := AE4.below b4a hV4
        have Hf10 := hide (hf.below b9a)
        have S1 := esame_any f e p p _ _ _ (unhide Hf10) ((unhide He4).below b4a) (unhide HPF)
        rw [sameEP_self] at S1
        unfold E4.val at S1
        clear hf
        have AFc := AF10
        have AEc := AE10
        obtain ⟨a0, a1, a2, a3⟩ := AFc
        obtain ⟨d0, d1, d2, d3⟩ := AEc
        simp only [Nat.zero_add] at a1 a2 a3 d1 d2 d3
        go_wp2_with fail
        clear a0 a1 a2 a3 d0 d1 d2 d3
        generalize w9.alloc _ = w10 at *
        refine S1.mono ?_
        clear S1
        rintro _ w11 ⟨rfl, b11⟩
        have b4b := b4a.trans (b11.mono b4a.size)
        have b0b := b0a.trans (b11.mono b0a.size)
        have b5b := b5a.trans (b11.mono b5a.size)
        have S2 := r8same_any f e p p _ _ w11 ((unhide Hf10).below b11) ((unhide He4).below b4b) (unhide HPF)
        rw [sameEP_self] at S2
        unfold E4.val at S2
        obtain ⟨a0, a1, a2, a3⟩ := AF10.below b11 hF10
        obtain ⟨d0, d1, d2, d3⟩ := AE4.below b4b hV4
        simp only [Nat.zero_add] at a1 a2 a3 d1 d2 d3
        go_wp2_with fail
        clear a0 a1 a2 a3 d0 d1 d2 d3
        refine S2.mono ?_
        clear S2
        rintro _ w12 ⟨rfl, b12⟩
        have b4c := b4b.trans (b12.mono b4b.size)
        have b0c := b0b.trans (b12.mono b0b.size)
        have b5c := b5b.trans (b12.mono b5b.size)
        have hbc : Below w1.heap.size w1 w12 := (hbw.trans (brw5.mono hbw.size)).trans (b5c.mono (hbw.trans (brw5.mono hbw.size)).size)
        have hV12 : w3.heap.size < w12.heap.size := Nat.lt_of_lt_of_le hV4 b4c.size
        have hn0 : (0 : Int) < (n : Int) := by omega
        have hn0' : 0 < n := hn1
        clear AE10 AF10
        by_cases hdl : i < drs.length
        · have id : (i : Int) < (drs.length : Int) := by omega
          obtain ⟨db, doff, rfl, hdb, hdc0⟩ := (unhide HR3) i hdl
          have hdc1 := (b0c.cell (p := ⟨db, doff + i, none⟩) hdb).trans hdc0
          obtain ⟨dv, hdv⟩ : ∃ dv, dv = drs[i] := ⟨_, rfl⟩
          have hdc : w12.cell? ⟨db, doff + i, none⟩ = some (.int .i64 dv) := by rw [hdv]; exact hdc1
          clear hdv hdc0 hdc1
          have WI := fun w' => within8p_any dv n (by omega) (by omega) w'
          obtain ⟨k, hk⟩ : ∃ k : Nat, (k : Int) = dv % (n : Int) := ⟨(dv % (n : Int)).toNat, by have := Int.emod_nonneg dv (show (n : Int) ≠ 0 by omega); omega⟩
          have hkn : k < n := by have := Int.emod_lt_of_pos dv hn0; omega
          rw [← hk] at WI
          clear hk
          have ik : (k : Int) < (n : Int) := by omega
          have ik0 : (0 : Int) ≤ (k : Int) := by omega
          have hkx : k < xs.length := by rw [unhide HXL]; exact hkn
          obtain ⟨b', off', e', hGb, hcx⟩ := rowG_at ((unhide HXR).below b5c) (Below.refl _ _) hkx
          cases e'
          have AK : AtE4 w12 G (0 + k * 4) xs[k] := AtE4.of hcx
          obtain ⟨x, hxx⟩ : ∃ x, x = xs[k] := ⟨_, rfl⟩
          rw [← hxx] at AK
          rw [Nat.zero_add] at AK
          clear hxx hcx
          obtain ⟨a0, a1, a2, a3⟩ := AK
          go_wp2_with fail
          refine (WI _).mono ?_
          rintro _ wx ⟨rfl, hwx⟩
          have hwx := hwx.symm
          subst hwx
          clear WI
          have b13 := below1 w12 (.cells #[.string x.t, .string x.i] 25)
          have hU13 : w12.heap.size < (w12.alloc (.cells #[.string x.t, .string x.i] 25)).heap.size := by rw [size1]; omega
          have AU13 : AtE2 (w12.alloc (.cells #[.string x.t, .string x.i] 25)) w12.heap.size 0 ⟨x.t, x.i⟩ := ⟨by simp, by simp⟩
          have b5d := b5c.trans (b13.mono b5c.size)
          have b4d := b4c.trans (b13.mono b4c.size)
          have b0d := b0c.trans (b13.mono b0c.size)
          have hbd := hbc.trans (b13.mono hbc.size)
          go_upto_region 18 with fail
          generalize w12.alloc _ = w13 at *
          clear a0 a1 a2 a3
          have HXR13 := hide ((unhide HXR).below b5d)
          have hclenB : ((xs.map E4.cells).flatten).length = n * 4 := by rw [flatG_len (n := 4) _ (lenE _), List.length_map, unhide HXL]
          have HcB := hide (row_flatO (lenE xs) (RowG.below (unhide HXR13) (below1 w13 (.cells #[] 29))))
          go_wp2_with (at_builtin; refine wpList_append_row _ rfl _ _ 22 rfl w13.heap.size 29 i0 _ 4 80 Tryz.underlying22 hi hz0 hz1 hz2 rfl (by decide) _ _ _ rfl (World.ownsRow_made w13 #[] 0 (Nat.le_refl _) (Nat.zero_le _) rfl) (some ⟨G, 0, none⟩) n n ((xs.map E4.cells).flatten) rfl ?nB ?lB ?wB ?oB ?mB ?yB ?bB ?_)
          case nB => intro h; cases h
          case lB => exact hclenB
          case wB => exact unhide HcB
          case oB => exact oneE _
          case mB => unfold maxLen; omega
          case yB => omega
          case bB => simp
          intro vB w14 hownB hgB
          have bB : Below w13.heap.size w13 w14 := (below1 w13 (.cells #[] 29)).grown hgB (below1 w13 (.cells #[] 29)).size (fun k hk => by cases hk; exact Nat.le_refl _)
          have hownB : w14.ownsRow w13.heap.size 29 4 vB (xs.map E4.cells).length (xs.map E4.cells).flatten := by
            rw [List.length_map, unhide HXL]
            simpa using hownB
          obtain ⟨wo2, wc2, eB, hrowB, _, _⟩ := rowG_own (lenE xs) hownB
          rw [List.length_map, unhide HXL] at eB
          subst eB
          have HrowB := hide hrowB
          clear hownB hgB hrowB HcB hclenB
          have b5e := b5d.trans (bB.mono b5d.size)
          have b4e := b4d.trans (bB.mono b4d.size)
          have b0e := b0d.trans (bB.mono b0d.size)
          have hbe := hbd.trans (bB.mono hbd.size)
          have hU14 : w12.heap.size < w14.heap.size := Nat.lt_of_lt_of_le hU13 bB.size
          have AU14 := AU13.below bB hU13
          obtain ⟨u, hu⟩ : ∃ u : U2, u = ⟨x.t, x.i⟩ := ⟨_, rfl⟩
          have hut : x.t = u.t := by rw [hu]
          have hui : x.i = u.i := by rw [hu]
          have DR := edrop_any xs qs (some ⟨G, 0, none⟩) n ⟨x.t, x.i⟩ w14 ((unhide HXR).below b5e) (by rw [unhide HXL]; exact Nat.le_refl _) ((unhide HXA).below b5e) (unhide HQI) (unhide HQF) (by have := unhide HN; omega)
          obtain ⟨zs, hzs⟩ : ∃ zs, zs = dropP qs ⟨x.t, x.i⟩ := ⟨_, rfl⟩
          rw [← hzs, unhide HXL] at DR
          obtain ⟨n2, hn2⟩ : ∃ n2, n2 = zs.length := ⟨_, rfl⟩
          rw [← hn2] at DR
          have HZS := hide hzs
          have HN2 := hide hn2
          have hn2n : n2 ≤ n := by rw [hn2, hzs, unhide HN]; exact drop_len _ _
          have HZI : Hid (RisingP zs) := hide (by rw [hzs]; exact rising_drop (unhide HQI) _)
          have HZF : Hid (∀ q ∈ zs, q.fits) := hide (by rw [hzs]; exact drop_fits (unhide HQF))
          clear hzs hn2 hu hut hui
          unfold U2.val at DR
          obtain ⟨a0, a1⟩ := AU14
          simp only [Nat.zero_add] at a1
          go_wp2_with fail
          clear a0 a1
          refine DR.mono ?_
          clear DR
          rintro _ w15 ⟨b15, G2, xs2, rfl, hzr, hzA, hG2⟩
          have hzl : xs2.length = n2 := by rw [hzA.1, unhide HN2]
          have HZL := hide hzl
          have HZR15 := hide hzr
          have HZA15 := hide hzA
          clear hzr hzA hzl
          have b5f := b5e.trans (b15.mono b5e.size)
          have b4f := b4e.trans (b15.mono b4e.size)
          have b0f := b0e.trans (b15.mono b0e.size)
          have hbf := hbe.trans (b15.mono hbe.size)
          have FI := efind_any xs2 zs (some ⟨G2, 0, none⟩) n2 ⟨x.t, x.i⟩ w15 (unhide HZR15) (unhide HZA15) (unhide HZI) (unhide HZF) (by have := unhide HN2; omega)
          rw [unhide HZL, show findP zs ⟨x.t, x.i⟩ = none by rw [unhide HZS]; exact find_drop qs _] at FI
          unfold U2.val at FI
          obtain ⟨a0, a1⟩ := (AU13.below bB hU13).below b15 hU14
          simp only [Nat.zero_add] at a1
          go_wp2_with fail
          clear a0 a1
          refine FI.mono ?_
          clear FI
          rintro _ w16 ⟨b16, hfx⟩
          have hfx : _ = Ending.returned (.tuple #[zeroE.val, .bool false]) := hfx
          subst hfx
          unfold E4.val zeroE
          simp only
          have b5g := b5f.trans (b16.mono b5f.size)
          have b4g := b4f.trans (b16.mono b4f.size)
          have b0g := b0f.trans (b16.mono b0f.size)
          have hbg := hbf.trans (b16.mono hbf.size)
          have b17 := below1 w16 (.cells #[.string ⟨#[]⟩, .string ⟨#[]⟩, .slice none 0 0, .slice none 0 0] 29)
          obtain ⟨w17, hw17⟩ : ∃ w17, w17 = w16.alloc (.cells #[.string ⟨#[]⟩, .string ⟨#[]⟩, .slice none 0 0, .slice none 0 0] 29) := ⟨_, rfl⟩
          rw [← hw17] at b17
          have b5h := b5g.trans (b17.mono b5g.size)
          have b4h := b4g.trans (b17.mono b4g.size)
          have b0h := b0g.trans (b17.mono b0g.size)
          have hbh := hbg.trans (b17.mono hbg.size)
          have b14h := (b15.trans (b16.mono b15.size)).trans (b17.mono (b15.trans (b16.mono b15.size)).size)
          have RD := r8drop_any xs wo2 wc2 ⟨x.t, x.i⟩ w17 ((unhide HrowB).below b14h) (by rw [unhide HXL]; omega)
          rw [unhide HXL] at RD
          unfold U2.val at RD
          obtain ⟨a0, a1⟩ := (AU13.below bB hU13).below b14h hU14
          simp only [Nat.zero_add] at a1
          rw [hw17] at RD a0 a1
          go_wp2_with fail
          clear a0 a1
          rw [← hw17] at RD ⊢
          clear hw17
          refine RD.mono ?_
          clear RD
          rintro _ w18 ⟨b18, v18, rfl, hown18⟩
          have hown18 : w18.ownsRow w17.heap.size 29 4 v18 ((dropE xs ⟨x.t, x.i⟩).map E4.cells).length ((dropE xs ⟨x.t, x.i⟩).map E4.cells).flatten := by rw [List.length_map]; exact hown18
          obtain ⟨do2, dc2, e18, hrow18, _, _⟩ := rowG_own (lenE _) hown18
          rw [List.length_map] at e18
          subst e18
          have b5i := b5h.trans (b18.mono b5h.size)
          have b4i := b4h.trans (b18.mono b4h.size)
          have b0i := b0h.trans (b18.mono b0h.size)
          have hbi := hbh.trans (b18.mono hbh.size)
          have b15i : Below w15.heap.size w15 w18 := (b16.trans (b17.mono b16.size)).trans (b18.mono (b16.trans (b17.mono b16.size)).size)
          have hDA : AllEnt w18 (fun _ => True) (dropE xs ⟨x.t, x.i⟩) zs := by
            rw [unhide HZS]
            exact allEnt_dropped ((unhide HXA).below b5i) _
          have SA3 := sameAll_true xs2 (dropE xs ⟨x.t, x.i⟩) zs (some ⟨G2, 0, none⟩) do2 n2 dc2 w18 ((unhide HZR15).below b15i) hrow18 ((unhide HZA15).below b15i) hDA (unhide HZF) (by have := unhide HN2; omega)
          rw [unhide HZL] at SA3
          generalize (dropE xs ⟨x.t, x.i⟩).length = nd at *
          clear hown18 hrow18 hDA
          go_wp2_with fail
          refine SA3.mono ?_
          clear SA3
          rintro _ w19 ⟨rfl, b19⟩
          have b5j := b5i.trans (b19.mono b5i.size)
          have b14j := (b14h.trans (b18.mono b14h.size)).trans (b19.mono (b14h.trans (b18.mono b14h.size)).size)
          have SA4 := sameAll_true xs xs qs (some ⟨G, 0, none⟩) wo2 n wc2 w19 ((unhide HXR).below b5j) ((unhide HrowB).below b14j) ((unhide HXA).below b5j) ((unhide HXA).below b5j) (unhide HQF) (by have := unhide HN; omega)
          rw [unhide HXL] at SA4
          go_wp2_with fail
          refine SA4.mono ?_
          clear SA4
          rintro _ w20 ⟨rfl, b20⟩
          have b4j := b4i.trans (b19.mono b4i.size)
          have b4k := b4j.trans (b20.mono b4j.size)
          have hbk0 := (hbi.trans (b19.mono hbi.size)).trans (b20.mono (hbi.trans (b19.mono hbi.size)).size)
          have b15k := (b15i.trans (b19.mono b15i.size)).trans (b20.mono (b15i.trans (b19.mono b15i.size)).size)
          have HZR := hide ((unhide HZR15).below b15k)
          have HZA := hide ((unhide HZA15).below b15k)
          have HAE := hide (AE4.below b4k hV4)
          have HEz := hide ((unhide He4).below b4k)
          have hVz : w3.heap.size < w20.heap.size := Nat.lt_of_lt_of_le hV4 b4k.size
          clear AE4 AU13
          go_wp2
          generalize w20 = wz at *
          go_loopw [17] (fun kv wk => ∃ k : Nat, kv = .int .i64 k ∧ k ≤ n2 ∧ Below wz.heap.size wz wk) (fun kv _ => n2 - (intOf kv).toNat)
          case atStart => exact ⟨0, by go_num, Nat.zero_le _, Below.refl _ _⟩
          case round =>
            obtain ⟨k, rfl, hk, hbk⟩ := hrel
            have ck0 : (0 : Int) ≤ (k : Int) := by omega
            by_cases hlt2 : k < n2
            · have i2 : (k : Int) < (n2 : Int) := by omega
              have hx : k < xs2.length := by rw [unhide HZL]; exact hlt2
              have hp : k < zs.length := by rw [← (unhide HZA).1]; exact hx
              obtain ⟨b', off', e', hb', hcx⟩ := rowG_at (unhide HZR) hbk hx
              cases e'
              have AK : AtE4 wr G2 (0 + k * 4) xs2[k] := AtE4.of hcx
              have AE := (unhide HAE).below hbk hVz
              have S1 := fun w' (hb : Below wr.heap.size wr w') => esame_any xs2[k] e zs[k] p _ _ w' (((unhide HZA).2 k hx hp).below (hbk.trans (hb.mono hbk.size))) ((unhide HEz).below (hbk.trans (hb.mono hbk.size))) (unhide HZF _ (List.getElem_mem _))
              have S2 := fun w' (hb : Below wr.heap.size wr w') => r8same_any xs2[k] e zs[k] p _ _ w' (((unhide HZA).2 k hx hp).below (hbk.trans (hb.mono hbk.size))) ((unhide HEz).below (hbk.trans (hb.mono hbk.size))) (unhide HZF _ (List.getElem_mem _))
              obtain ⟨x, hxx⟩ : ∃ x, x = xs2[k] := ⟨_, rfl⟩
              rw [← hxx] at AK S1 S2
              generalize sameEP zs[k] p = z at *
              clear hxx hcx
              rw [Nat.zero_add] at AK
              unfold E4.val at S1 S2
              obtain ⟨a0, a1, a2, a3⟩ := AK.up
              obtain ⟨d0, d1, d2, d3⟩ := AE.up
              simp only [Nat.zero_add] at d1 d2 d3
              have cS1 := fun d os => Calls.regrown_of (w := wr) (d := d) (os := os) (S1 (grow (redrawn wr d) os) (below_regrown wr d os))
              have cS2 := fun d os => Calls.regrown_of (w := wr) (d := d) (os := os) (S2 (grow (redrawn wr d) os) (below_regrown wr d os))
              have hzz : (z == z) = true := by simp
              clear S1 S2 AK AE
              go_wp2_with fail
              refine wp_region_quiet_below (by kernel_rfl) (by kernel_rfl) ?_
              repeat (first | quiet_step (exact cS1 _ _) | quiet_step (exact cS2 _ _))
              refine wpQuiet_nil ?_
              intro _ hw'
              obtain ⟨⟨dq, osq⟩, hw''⟩ := hw'
              subst hw''
              have b7 := hbk.trans ((below_regrown wr dq osq).mono hbk.size)
              generalize grow (redrawn wr dq) osq = wq at *
              clear a0 a1 a2 a3 d0 d1 d2 d3 cS1 cS2
              go_wp2
              go_roundw
              case rel => exact ⟨k + 1, by go_num, by omega, b7⟩
              case measure =>
                simp only [intOf]
                omega
            · have i2 : ¬ (k : Int) < (n2 : Int) := by omega
              have hcapz : xs2.length ≤ n2 := by rw [unhide HZL]; exact Nat.le_refl _
              have HOz := hide (OrdG.mk (cap := n2) ((unhide HZR).below hbk) (fun h => by cases h) hcapz ((unhide HZA).below hbk))
              have b0z := hbk0.trans (hbk.mono hbk0.size)
              go_wp2
              go_roundw
              case rel =>
                refine ⟨i + 1, xs2, some ⟨G2, 0, none⟩, n2, zs, by omega, by omega, by go_num, by rw [unhide HZL], b0z, unhide HOz, unhide HZI, unhide HZF, ?_⟩
                have := unhide HN2
                omega
              case measure =>
                simp only [intOf]
                omega
        · have id : ¬ (i : Int) < (drs.length : Int) := by omega
          have HZL := hide (unhide HXL)
          have HZR := hide ((unhide HXR).below b5c)
          have HZA := hide ((unhide HXA).below b5c)
          have HZI := hide (unhide HQI)
          have HZF := hide (unhide HQF)
          have HAE := hide (AE4.below b4c hV4)
          have HEz := hide ((unhide He4).below b4c)
          have hVz := hV12
          clear AE4
          go_wp2
          generalize w12 = wz at *
          go_loopw [17] (fun kv wk => ∃ k : Nat, kv = .int .i64 k ∧ k ≤ n ∧ Below wz.heap.size wz wk) (fun kv _ => n - (intOf kv).toNat)
          case atStart => exact ⟨0, by go_num, Nat.zero_le _, Below.refl _ _⟩
          case round =>
            obtain ⟨k, rfl, hk, hbk⟩ := hrel
            have ck0 : (0 : Int) ≤ (k : Int) := by omega
            by_cases hlt2 : k < n
            · have i2 : (k : Int) < (n : Int) := by omega
              have hx : k < xs.length := by rw [unhide HZL]; exact hlt2
              have hp : k < qs.length := by rw [← (unhide HZA).1]; exact hx
              obtain ⟨b', off', e', hb', hcx⟩ := rowG_at (unhide HZR) hbk hx
              cases e'
              have AK : AtE4 wr G (0 + k * 4) xs[k] := AtE4.of hcx
              have AE := (unhide HAE).below hbk hVz
              have S1 := fun w' (hb : Below wr.heap.size wr w') => esame_any xs[k] e qs[k] p _ _ w' (((unhide HZA).2 k hx hp).below (hbk.trans (hb.mono hbk.size))) ((unhide HEz).below (hbk.trans (hb.mono hbk.size))) (unhide HZF _ (List.getElem_mem _))
              have S2 := fun w' (hb : Below wr.heap.size wr w') => r8same_any xs[k] e qs[k] p _ _ w' (((unhide HZA).2 k hx hp).below (hbk.trans (hb.mono hbk.size))) ((unhide HEz).below (hbk.trans (hb.mono hbk.size))) (unhide HZF _ (List.getElem_mem _))
              obtain ⟨x, hxx⟩ : ∃ x, x = xs[k] := ⟨_, rfl⟩
              rw [← hxx] at AK S1 S2
              generalize sameEP qs[k] p = z at *
              clear hxx hcx
              rw [Nat.zero_add] at AK
              unfold E4.val at S1 S2
              obtain ⟨a0, a1, a2, a3⟩ := AK.up
              obtain ⟨d0, d1, d2, d3⟩ := AE.up
              simp only [Nat.zero_add] at d1 d2 d3
              have cS1 := fun d os => Calls.regrown_of (w := wr) (d := d) (os := os) (S1 (grow (redrawn wr d) os) (below_regrown wr d os))
              have cS2 := fun d os => Calls.regrown_of (w := wr) (d := d) (os := os) (S2 (grow (redrawn wr d) os) (below_regrown wr d os))
              have hzz : (z == z) = true := by simp
              clear S1 S2 AK AE
              go_wp2_with fail
              refine wp_region_quiet_below (by kernel_rfl) (by kernel_rfl) ?_
              repeat (first | quiet_step (exact cS1 _ _) | quiet_step (exact cS2 _ _))
              refine wpQuiet_nil ?_
              intro _ hw'
              obtain ⟨⟨dq, osq⟩, hw''⟩ := hw'
              subst hw''
              have b7 := hbk.trans ((below_regrown wr dq osq).mono hbk.size)
              generalize grow (redrawn wr dq) osq = wq at *
              clear a0 a1 a2 a3 d0 d1 d2 d3 cS1 cS2
              go_wp2
              go_roundw
              case rel => exact ⟨k + 1, by go_num, by omega, b7⟩
              case measure =>
                simp only [intOf]
                omega
            · have i2 : ¬ (k : Int) < (n : Int) := by omega
              have hcapz : xs.length ≤ n := by rw [unhide HZL]; exact Nat.le_refl _
              have HOz := hide (OrdG.mk (cap := n) ((unhide HZR).below hbk) (fun h => by cases h) hcapz ((unhide HZA).below hbk))
              have b0z := hbc.trans (hbk.mono hbc.size)
              go_wp2
              go_roundw
              case rel =>
                refine ⟨i + 1, xs, some ⟨G, 0, none⟩, n, qs, by omega, by omega, by go_num, by rw [unhide HZL], b0z, unhide HOz, unhide HZI, unhide HZF, ?_⟩
                have := unhide HN
                omega
              case measure =>
                simp only [intOf]
                omega
      · have i3 : ¬ (i : Int) < 10 := by omega
        go_wp2
        go_ret
        exact ⟨rfl, b0w⟩
    · have i1 : ¬ (i : Int) < (ms.length : Int) := by omega
      go_wp2
      go_ret
      exact ⟨rfl, b0w⟩
end Go.Proofs.YtnbbimcooilmdaaGreat
