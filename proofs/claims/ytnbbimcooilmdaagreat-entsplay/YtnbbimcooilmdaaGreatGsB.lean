/-
  chancelref8.Same of any two entities; SameAll of rows that say the same.
-/
import Derived.Test.YtnbbimcooilmdaaGreatGsA
import Derived.Test.YtnbbimcooilmdaaGreatEqAY
namespace Go.Proofs.YtnbbimcooilmdaaGreat
open Go.RowKit Go.Sort

theorem r3same_unR (R R' : R7) (w : World) (h : ¬ FlatR R R') : Calls Tryz.prog 36 #[R.val, R'.val] w fun e w' => e = .returned (.bool false) ∧ Below w.heap.size w w' := by
  obtain ⟨k, b, n, s, t, i, lo, ll, lc⟩ := R
  obtain ⟨k', b', n', s', t', i', lo', ll', lc'⟩ := R'
  exact r3same_unlike k b n s t i k' b' n' s' t' i' lo lo' ll ll' lc lc' h w
theorem r3sameG_any (G G' : GV) (R R' : R7) (w : World) (h : IsG w G R) (h' : IsG w G' R') (hl : G.len ≤ 1048576) :
    Calls Tryz.prog 36 #[R.val, R'.val] w fun e w' => e = .returned (.bool (sameGV G G')) ∧ Below w.heap.size w w' := by
  cases G with
  | pl p =>
    obtain rfl : R = ofP p := h
    cases G' with
    | pl q =>
      obtain rfl : R' = ofP q := h'
      have := r3same_plain p q none none 0 0 w
      rw [← ofP_val, ← ofP_val] at this
      exact this
    | set m =>
      obtain ⟨ao', c', rfl, hr', _⟩ := h'
      exact r3same_unR _ _ w fun hf => by
        have h1 : (ofP p).k = 5 := hf.1
        cases p <;> simp [ofP] at h1
  | set l =>
    obtain ⟨ao, c, rfl, hr, _⟩ := h
    cases G' with
    | pl q =>
      obtain rfl : R' = ofP q := h'
      exact r3same_unR _ _ w fun hf => by
        have h1 : 5 = (ofP q).k := hf.1
        cases q <;> simp [ofP] at h1
    | set m =>
      obtain ⟨ao', c', rfl, hr', _⟩ := h'
      exact r3same_set l m ao ao' c c' w hl (rowP_V hr) (rowP_V hr')

set_option maxHeartbeats 8000000 in
set_option maxRecDepth 1000000 in
theorem r8same_any (e e' : E4) (p q : EntP) (P P' : Nat → Prop) (w : World) (H : IsEnt w P e p) (H' : IsEnt w P' e' q) (hf : p.fits) :
    Calls Tryz.prog 17 #[e.val, e'.val] w fun x w' => x = .returned (.bool (sameEP p q)) ∧ Below w.heap.size w w' := by
  obtain ⟨et, ei, po, m, pc, ao, n, ac⟩ := e
  obtain ⟨et', ei', po', m', pc', ao', n', ac'⟩ := e'
  obtain ⟨rs, hal, hrA, _, hAs⟩ := H.ats
  obtain ⟨rs', hal', hrA', _, hAs'⟩ := H'.ats
  have hu : (⟨et, ei⟩ : U2) = p.u := H.u
  have hu' : (⟨et', ei'⟩ : U2) = q.u := H'.u
  have hpl : m = p.ps.length := H.pl
  have hpl' : m' = q.ps.length := H'.pl
  have hrU : RowG w po 2 (p.ps.map U2.cells) := H.rowU
  have hrU' : RowG w po' 2 (q.ps.map U2.cells) := H'.rowU
  simp only at hal hal' hrA hrA'
  clear H H'
  have b2 := below2 w (.cells #[.string et, .string ei, .slice po m pc, .slice ao n ac] 29) (.cells #[.string et', .string ei', .slice po' m' pc', .slice ao' n' ac'] 29)
  have BQ := binNeqUid ⟨et, ei⟩ ⟨et', ei'⟩
  simp only at BQ
  rw [show decide ((⟨et, ei⟩ : U2) = ⟨et', ei'⟩) = decide (p.u = q.u) by rw [hu, hu']] at BQ
  have H1 : Hid (((w.alloc (.cells #[.string et, .string ei, .slice po m pc, .slice ao n ac] 29)).alloc (.cells #[.string et', .string ei', .slice po' m' pc', .slice ao' n' ac'] 29)).heap[w.heap.size]? = some (.cells #[.string et, .string ei, .slice po m pc, .slice ao n ac] 29 (0, 0))) := hide (by
    rw [Below.heap_alloc _ _ _ (by simp)]
    exact alloc_heap _ _)
  have H2 : Hid (((w.alloc (.cells #[.string et, .string ei, .slice po m pc, .slice ao n ac] 29)).alloc (.cells #[.string et', .string ei', .slice po' m' pc', .slice ao' n' ac'] 29)).heap[w.heap.size + 1]? = some (.cells #[.string et', .string ei', .slice po' m' pc', .slice ao' n' ac'] 29 (0, 0))) := hide (by
    have := alloc_heap (w.alloc (.cells #[.string et, .string ei, .slice po m pc, .slice ao n ac] 29)) (.cells #[.string et', .string ei', .slice po' m' pc', .slice ao' n' ac'] 29)
    rwa [size1] at this)
  have hz2 : w.heap.size + 1 < ((w.alloc (.cells #[.string et, .string ei, .slice po m pc, .slice ao n ac] 29)).alloc (.cells #[.string et', .string ei', .slice po' m' pc', .slice ao' n' ac'] 29)).heap.size := by simp
  have HS := hide (show sameEP p q = (decide (p.u = q.u) && (decide (p.ps = q.ps) && sameAts p.ats q.ats)) from rfl)
  have hpm : m ≤ 1048576 := by have := hf.1; omega
  have hnm : n ≤ 1048576 := by have := hf.2.1; have := hAs.1; omega
  have HF := hide hf.2.2
  obtain ⟨PS, hPS⟩ : ∃ PS, PS = p.ps := ⟨_, rfl⟩
  obtain ⟨QS, hQS⟩ : ∃ QS, QS = q.ps := ⟨_, rfl⟩
  obtain ⟨PA, hPA⟩ : ∃ PA, PA = p.ats := ⟨_, rfl⟩
  obtain ⟨QA, hQA⟩ : ∃ QA, QA = q.ats := ⟨_, rfl⟩
  rw [← hPS] at hrU hpl HS
  rw [← hQS] at hrU' hpl' HS
  rw [← hPA] at hAs HS HF
  rw [← hQA] at hAs' HS
  clear hPS hQS hPA hQA
  generalize sameEP p q = z at *
  generalize decide (p.u = q.u) = z1 at *
  have HU := hide hrU
  have HU' := hide hrU'
  have HA := hide hrA
  have HA' := hide hrA'
  have HAs := hide hAs
  have HAs' := hide hAs'
  clear hrU hrU' hrA hrA' hAs hAs' hf hu hu'
  unfold E4.val
  simp only
  have HPL := hide hpl
  have HPL' := hide hpl'
  have HAL := hide hal
  have HAL' := hide hal'
  clear hpl hpl' hal hal'
  cases z1
  · have hz : z = false := unhide HS
    subst hz
    simp only [Bool.not_false] at BQ
    go_enter Tryz.func17, Tryz.ntmps17
    go_wp2
    go_ret
    exact ⟨rfl, b2⟩
  simp only [Bool.not_true] at BQ
  by_cases hm : m = m'
  case neg =>
    have e1 : ((m : Int) == (m' : Int)) = false := by
      rw [beq_eq_false_iff_ne]
      omega
    have e2 : ¬ (m : Int) = (m' : Int) := by omega
    have hz : z = false := by
      rw [unhide HS, decide_eq_false (fun h => hm (by rw [unhide HPL, unhide HPL', h]))]
      rfl
    subst hz
    go_enter Tryz.func17, Tryz.ntmps17
    go_wp2
    go_ret
    exact ⟨rfl, b2⟩
  by_cases hn : n = n'
  case neg =>
    have e1 : ((n : Int) == (n' : Int)) = false := by
      rw [beq_eq_false_iff_ne]
      omega
    have hz : z = false := by
      rw [unhide HS]
      unfold sameAts
      rw [eqN_len (fun h => hn (by rw [unhide HAL, unhide HAL', (unhide HAs).1, (unhide HAs').1, h]))]
      simp
    subst hz hm
    go_enter Tryz.func17, Tryz.ntmps17
    go_wp2
    go_ret
    exact ⟨rfl, b2⟩
  subst hm hn
  go_enter Tryz.func17, Tryz.ntmps17
  go_wp2
  generalize (w.alloc _).alloc _ = w2 at *
  clear BQ
  have HS2 := hide (show z = (decide (PS = QS) && sameAts PA QA) from unhide HS)
  clear HS
  go_loopw [5] (fun iv wr => ∃ i : Nat, iv = .int .i64 i ∧ i ≤ m ∧ Below w2.heap.size w2 wr ∧ ∀ k (h : k < PS.length) (h' : k < QS.length), k < i → PS[k] = QS[k]) (fun iv _ => m - (intOf iv).toNat)
  case atStart => exact ⟨0, by go_num, Nat.zero_le _, Below.refl _ _, fun k _ _ h => absurd h (Nat.not_lt_zero _)⟩
  case round =>
    obtain ⟨j, rfl, hj, hbw, hlow⟩ := hrel
    have b0w := b2.trans (hbw.mono b2.size)
    have Hlow := hide hlow
    clear hlow
    have k0 : (0 : Int) ≤ (j : Int) := by omega
    have cV : wr.cell? ⟨w.heap.size, 2, none⟩ = some (.slice po m pc) := by rw [Lib.cell_of_heap (kept_of_below hbw (unhide H1))]; rfl
    by_cases hlt : j < m
    · have i1 : (j : Int) < (m : Int) := by omega
      have cV' : wr.cell? ⟨w.heap.size + 1, 2, none⟩ = some (.slice po' m pc') := by rw [Lib.cell_of_heap (kept_of_below hbw (unhide H2))]; rfl
      have h1 : j < PS.length := by rw [← unhide HPL]; exact hlt
      have h2 : j < QS.length := by rw [← unhide HPL']; exact hlt
      obtain ⟨b, off, rfl, hb, hcx⟩ := rowG_at (unhide HU) b0w h1
      obtain ⟨b', off', rfl, hb', hcy⟩ := rowG_at (unhide HU') b0w h2
      have A : AtE2 wr b (off + j * 2) PS[j] := AtE2.of hcx
      have B : AtE2 wr b' (off' + j * 2) QS[j] := AtE2.of hcy
      have NQ := binNeqUid PS[j] QS[j]
      have HZ := hide (show ∀ y, (!decide (PS[j] = QS[j])) = y → (y = true → z = false) ∧ (y = false → PS[j] = QS[j]) from fun y hy => ⟨fun h => by
        rw [unhide HS2, decide_eq_false (fun e => by subst e; rw [← hy] at h; simp at h)]
        rfl, fun h => by rw [← hy] at h; simpa using h⟩)
      generalize hy : (!decide (PS[j] = QS[j])) = y at NQ
      have HZ2 := hide (unhide HZ y hy)
      clear hy HZ
      obtain ⟨x, hx⟩ : ∃ x, x = PS[j] := ⟨_, rfl⟩
      obtain ⟨x', hx'⟩ : ∃ x', x' = QS[j] := ⟨_, rfl⟩
      rw [← hx] at A NQ
      rw [← hx'] at B NQ
      clear hx hx' hcx hcy
      obtain ⟨a0, a1⟩ := A.up
      obtain ⟨d0, d1⟩ := B.up
      have v0 := cell_regrown cV
      have v1 := cell_regrown cV'
      clear A B cV'
      go_wp2_with fail
      refine wp_region_quiet_below (by kernel_rfl) (by kernel_rfl) ?_
      repeat (quiet_step (fail))
      refine wpQuiet_nil ?_
      intro _ hw'
      obtain ⟨⟨dq, osq⟩, hw''⟩ := hw'
      subst hw''
      have b3 := hbw.trans ((below_regrown wr dq osq).mono hbw.size)
      generalize grow (redrawn wr dq) osq = w3 at *
      clear a0 a1 d0 d1 NQ v0 v1 cV
      cases y
      · have HFq := hide ((unhide HZ2).2 rfl)
        clear HZ2
        go_wp2
        go_roundw
        case rel =>
          refine ⟨j + 1, by go_num, by omega, b3, fun k h h' hk => ?_⟩
          by_cases hkj : k < j
          · exact unhide Hlow k h h' hkj
          · obtain rfl : k = j := by omega
            exact unhide HFq
        case measure =>
          simp only [intOf]
          omega
      · have hz := (unhide HZ2).1 rfl
        subst hz
        go_wp2
        go_ret
        exact ⟨rfl, b2.trans (b3.mono b2.size)⟩
    · have i1 : ¬ (j : Int) < (m : Int) := by omega
      have HS3 := hide (show z = sameAts PA QA by
        rw [unhide HS2, decide_eq_true (List.ext_getElem ((unhide HPL).symm.trans (unhide HPL')) (fun k h h' => unhide Hlow k h h' (by have := unhide HPL; omega)))]
        rfl)
      clear Hlow HS2
      have HK1 := hide (kept_of_below hbw (unhide H1))
      have HK2 := hide (kept_of_below hbw (unhide H2))
      go_wp2
      clear cV i1 hlt k0 hj
      generalize wr = w3 at *
      clear hbw
      go_loopw [6] (fun iv wr => ∃ i : Nat, iv = .int .i64 i ∧ i ≤ n ∧ Below w3.heap.size w3 wr ∧ ∀ k (h : k < PA.length) (h' : k < QA.length), k < i → sameAt PA[k] QA[k] = true) (fun iv _ => n - (intOf iv).toNat)
      case atStart => exact ⟨0, by go_num, Nat.zero_le _, Below.refl _ _, fun k _ _ h => absurd h (Nat.not_lt_zero _)⟩
      case round =>
        obtain ⟨j, rfl, hj, hbr, hlow⟩ := hrel
        have b0r := b0w.trans (hbr.mono b0w.size)
        have Hlow := hide hlow
        clear hlow
        have k0 : (0 : Int) ≤ (j : Int) := by omega
        have cV : wr.cell? ⟨w.heap.size, 3, none⟩ = some (.slice ao n ac) := by rw [Lib.cell_of_heap (kept_of_below hbr (unhide HK1))]; rfl
        by_cases hlt : j < n
        · have i1 : (j : Int) < (n : Int) := by omega
          have cV' : wr.cell? ⟨w.heap.size + 1, 3, none⟩ = some (.slice ao' n ac') := by rw [Lib.cell_of_heap (kept_of_below hbr (unhide HK2))]; rfl
          have h1 : j < rs.length := by rw [← unhide HAL]; exact hlt
          have h2 : j < rs'.length := by rw [← unhide HAL']; exact hlt
          have k1 : j < PA.length := by rw [← (unhide HAs).1]; exact h1
          have k2 : j < QA.length := by rw [← (unhide HAs').1]; exact h2
          obtain ⟨b, off, rfl, hb, hcx⟩ := rowG_at (unhide HA) b0r h1
          obtain ⟨b', off', rfl, hb', hcy⟩ := rowG_at (unhide HA') b0r h2
          have A : AtE8 wr b (off + j * 8) rs[j] := AtE8.of hcx
          have B : AtE8 wr b' (off' + j * 8) rs'[j] := AtE8.of hcy
          have g1 := (unhide HAs).2 j h1 k1
          have g2 := (unhide HAs').2 j h2 k2
          have SV := fun w' (hb : Below wr.heap.size wr w') => r3sameG_any PA[j].2 QA[j].2 rs[j].v rs'[j].v w' (IsG.below g1.2.1 (b0r.trans (hb.mono b0r.size))) (IsG.below g2.2.1 (b0r.trans (hb.mono b0r.size))) (unhide HF _ (List.getElem_mem _))
          have HN := hide (show sameAt PA[j] QA[j] = (decide (rs[j].nm = rs'[j].nm) && sameGV PA[j].2 QA[j].2) by rw [g1.1, g2.1]; rfl)
          have HZ := hide (show sameAt PA[j] QA[j] = false → z = false from fun h => by
            rw [unhide HS3]
            unfold sameAts
            have hl : PA.length = QA.length := by rw [← (unhide HAs).1, ← (unhide HAs').1, ← unhide HAL, ← unhide HAL']
            rw [← hl]
            refine eqN_not k1 ?_
            rw [List.getElem?_eq_getElem k1, List.getElem?_eq_getElem k2]
            exact h)
          obtain ⟨x, hx⟩ : ∃ x, x = rs[j] := ⟨_, rfl⟩
          obtain ⟨x', hx'⟩ : ∃ x', x' = rs'[j] := ⟨_, rfl⟩
          obtain ⟨sb, hsb⟩ : ∃ sb, sb = sameAt PA[j] QA[j] := ⟨_, rfl⟩
          rw [← hx] at A SV HN
          rw [← hx'] at B SV HN
          rw [← hsb] at HN HZ
          have HSB := hide hsb
          generalize sameGV PA[j].2 QA[j].2 = zv at *
          clear hx hx' hcx hcy g1 g2 hsb
          unfold R7.val at SV
          obtain ⟨a0, a1, a2, a3, a4, a5, a6, a7⟩ := A.up
          obtain ⟨d0, d1, d2, d3, d4, d5, d6, d7⟩ := B.up
          have v0 := cell_regrown cV
          have v1 := cell_regrown cV'
          have cS := fun d os => Calls.regrown_of (w := wr) (d := d) (os := os) (SV (grow (redrawn wr d) os) (below_regrown wr d os))
          clear A B cV' SV
          by_cases hnm : x.nm = x'.nm
          · have hq : (x.nm.toList == x'.nm.toList) = true := by rw [hnm]; simp
            have HN2 := hide (show sb = zv by rw [unhide HN, decide_eq_true hnm]; rfl)
            clear HN hnm
            go_wp2_with fail
            refine wp_region_quiet_below (by kernel_rfl) (by kernel_rfl) ?_
            repeat (quiet_step (exact cS _ _))
            refine wpQuiet_nil ?_
            intro _ hw'
            obtain ⟨⟨dq, osq⟩, hw''⟩ := hw'
            subst hw''
            have b3 := hbr.trans ((below_regrown wr dq osq).mono hbr.size)
            generalize grow (redrawn wr dq) osq = w4 at *
            clear a0 a1 a2 a3 a4 a5 a6 a7 d0 d1 d2 d3 d4 d5 d6 d7 v0 v1 cS cV
            cases zv
            · have hz := unhide HZ (unhide HN2)
              subst hz
              go_wp2
              go_ret
              exact ⟨rfl, b0w.trans (b3.mono b0w.size)⟩
            · have HT := hide (show sameAt PA[j] QA[j] = true by rw [← unhide HSB, unhide HN2])
              go_wp2
              go_roundw
              case rel =>
                refine ⟨j + 1, by go_num, by omega, b3, fun k h h' hk => ?_⟩
                by_cases hkj : k < j
                · exact unhide Hlow k h h' hkj
                · obtain rfl : k = j := by omega
                  exact unhide HT
              case measure =>
                simp only [intOf]
                omega
          · have hq : (x.nm.toList == x'.nm.toList) = false := bytes_ne hnm
            have hq2 : ¬ x.nm.toList = x'.nm.toList := fun e => hnm ((toList_ba _ _).1 e)
            have HN2 := hide (show sb = false by rw [unhide HN, decide_eq_false hnm]; rfl)
            clear HN hnm
            go_wp2_with fail
            refine wp_region_quiet_below (by kernel_rfl) (by kernel_rfl) ?_
            repeat (go_big_quiet_step (fail))
            refine wpQuiet_nil ?_
            intro _ hw'
            obtain ⟨⟨dq, osq⟩, hw''⟩ := hw'
            subst hw''
            have b3 := hbr.trans ((below_regrown wr dq osq).mono hbr.size)
            generalize grow (redrawn wr dq) osq = w4 at *
            clear a0 a1 a2 a3 a4 a5 a6 a7 d0 d1 d2 d3 d4 d5 d6 d7 v0 v1 cS cV
            have hz := unhide HZ (unhide HN2)
            subst hz
            go_wp2
            go_ret
            exact ⟨rfl, b0w.trans (b3.mono b0w.size)⟩
        · have i1 : ¬ (j : Int) < (n : Int) := by omega
          have hz : z = true := by
            rw [unhide HS3]
            unfold sameAts
            have hl : PA.length = QA.length := by rw [← (unhide HAs).1, ← (unhide HAs').1, ← unhide HAL, ← unhide HAL']
            rw [← hl]
            refine eqN_all fun k hk => ?_
            rw [List.getElem?_eq_getElem hk, List.getElem?_eq_getElem (by omega)]
            exact unhide Hlow k hk (by omega) (by have := (unhide HAs).1; have := unhide HAL; omega)
          subst hz
          go_wp2
          go_ret
          exact ⟨rfl, b0r⟩

set_option maxHeartbeats 4000000 in
set_option maxRecDepth 1000000 in
theorem sameAll_true (es es' : List E4) (ps : List EntP) (ao ao' : Option Addr) (c c' : Nat) (w : World) (hr : RowG w ao 4 (es.map E4.cells)) (hr' : RowG w ao' 4 (es'.map E4.cells)) (hA : AllEnt w (fun _ => True) es ps) (hA' : AllEnt w (fun _ => True) es' ps) (hf : ∀ p ∈ ps, p.fits) (hl : ps.length ≤ 1000000) :
    Calls Tryz.prog 13 #[.slice ao es.length c, .slice ao' es'.length c'] w fun x w' => x = .returned (.bool true) ∧ Below w.heap.size w w' := by
  have he : es'.length = es.length := by rw [hA.1, hA'.1]
  have hel : es.length ≤ 1000000 := by rw [hA.1]; exact hl
  have HE := hide he
  have HSA := hide (fun j (h : j < es.length) (h' : j < es'.length) w' (hb : Below w.heap.size w w') => by
    have hj : j < ps.length := by rw [← hA.1]; exact h
    have := r8same_any es[j] es'[j] ps[j] ps[j] _ _ w' ((hA.2 j h hj).below hb) ((hA'.2 j h' hj).below hb) (hf _ (List.getElem_mem _))
    rw [sameEP_self] at this
    exact this)
  rw [he]
  clear he hA hA' hf hl
  go_enter Tryz.func13, Tryz.ntmps13
  go_wp2
  go_loopw [5] (fun iv wr => ∃ i : Nat, iv = .int .i64 i ∧ i ≤ es.length ∧ Below w.heap.size w wr) (fun iv _ => es.length - (intOf iv).toNat)
  case atStart => exact ⟨0, by go_num, Nat.zero_le _, Below.refl _ _⟩
  case round =>
    obtain ⟨j, rfl, hj, hbw⟩ := hrel
    have k0 : (0 : Int) ≤ (j : Int) := by omega
    by_cases hlt : j < es.length
    · have i1 : (j : Int) < (es.length : Int) := by omega
      have hlt' : j < es'.length := by rw [unhide HE]; exact hlt
      obtain ⟨b, off, rfl, hb, hcx⟩ := rowG_at hr hbw hlt
      obtain ⟨b', off', rfl, hb', hcy⟩ := rowG_at hr' hbw hlt'
      have A : AtE4 wr b (off + j * 4) es[j] := AtE4.of hcx
      have B : AtE4 wr b' (off' + j * 4) es'[j] := AtE4.of hcy
      have SJ := unhide HSA j hlt hlt'
      obtain ⟨x, hx⟩ : ∃ x, x = es[j] := ⟨_, rfl⟩
      obtain ⟨y, hy⟩ : ∃ y, y = es'[j] := ⟨_, rfl⟩
      rw [← hx] at A SJ
      rw [← hy] at B SJ
      clear hx hy hcx hcy
      unfold E4.val at SJ
      obtain ⟨a0, a1, a2, a3⟩ := A.up
      obtain ⟨d0, d1, d2, d3⟩ := B.up
      have cS := fun d os => Calls.regrown_of (w := wr) (d := d) (os := os) (SJ (grow (redrawn wr d) os) (hbw.trans ((below_regrown wr d os).mono hbw.size)))
      clear A B SJ
      go_wp2_with fail
      refine wp_region_quiet_below (by kernel_rfl) (by kernel_rfl) ?_
      repeat (quiet_step (exact cS _ _))
      refine wpQuiet_nil ?_
      intro _ hw'
      obtain ⟨⟨dq, osq⟩, hw''⟩ := hw'
      subst hw''
      have b3 := hbw.trans ((below_regrown wr dq osq).mono hbw.size)
      generalize grow (redrawn wr dq) osq = w3 at *
      clear a0 a1 a2 a3 d0 d1 d2 d3 cS
      go_wp2
      go_roundw
      case rel => exact ⟨j + 1, by go_num, by omega, b3⟩
      case measure =>
        simp only [intOf]
        omega
    · have i1 : ¬ (j : Int) < (es.length : Int) := by omega
      go_wp2
      go_ret
      exact ⟨rfl, hbw⟩
end Go.Proofs.YtnbbimcooilmdaaGreat
