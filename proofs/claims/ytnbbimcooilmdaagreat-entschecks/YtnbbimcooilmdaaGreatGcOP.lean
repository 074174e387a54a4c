/-
  chancelref8.one: what it returns.
  chancelref8.Check: what it returns.
-/
import Derived.Test.YtnbbimcooilmdaaGreatEnD
import Derived.Test.YtnbbimcooilmdaaGreatVhHG
namespace Go.Proofs.YtnbbimcooilmdaaGreat
open Go.RowKit Go.Sort

/-- What the reference's Check tells of a value, in every later world. -/
def ToldR (w : World) (r : R7) (z : Int) : Prop := ∀ w', Below w.heap.size w w' → Calls Tryz.prog 47 #[r.val] w' fun e w'' => e = .returned (.int .i64 z) ∧ Below w'.heap.size w' w''
theorem ToldR.below {w w' : World} {r : R7} {z : Int} (h : ToldR w r z) (hb : Below w.heap.size w w') : ToldR w' r z := fun w'' h2 => h w'' (hb.trans (h2.mono hb.size))
/-- An entity, of which both are known to tell the same. -/
structure EntB (w : World) (e : E4) (us : List U2) (ats : List A8) (zf : R7 → Int) : Prop where
  ok : EntOk w e us ats zf
  own : e.t.size ≤ 1048576 ∧ e.i.size ≤ 1048576
  us : ∀ u ∈ us, u.t.size ≤ 1048576 ∧ u.i.size ≤ 1048576
  nms : ∀ a ∈ ats, a.nm.size ≤ 1048576
  told : ∀ a ∈ ats, ToldR w a.v (zf a.v)
theorem EntB.below {w w' : World} {e : E4} {us : List U2} {ats : List A8} {zf : R7 → Int} (h : EntB w e us ats zf) (hb : Below w.heap.size w w') : EntB w' e us ats zf :=
  ⟨h.ok.below hb, h.own, h.us, h.nms, fun a ha => (h.told a ha).below hb⟩
theorem leq_not (a b : ByteArray) : (Op.bytesLess a.toList b.toList || a.toList == b.toList) = !Op.bytesLess b.toList a.toList := by
  have e0 : ∀ x : ByteArray, x.toList = x.data.toList := fun x => by
    have := ba_list x.data.toList
    rw [ba_of] at this
    exact this
  rw [e0, e0, bytesLess_eq, bytesLess_eq]
  by_cases h1 : a.data.toList < b.data.toList
  · have h2 : ¬ b.data.toList < a.data.toList := List.lt_asymm h1
    rw [decide_eq_true h1, decide_eq_false h2]
    rfl
  · by_cases h2 : b.data.toList < a.data.toList
    · have h3 : ¬ a.data.toList = b.data.toList := fun e => by rw [e] at h2; exact List.lt_irrefl _ h2
      rw [decide_eq_false h1, decide_eq_true h2, beq_eq_false_iff_ne.2 h3]
      rfl
    · have h3 : a.data.toList = b.data.toList := List.le_antisymm h2 h1
      rw [decide_eq_false h1, decide_eq_false h2, h3]
      simp

set_option maxHeartbeats 8000000 in
set_option maxRecDepth 1000000 in
theorem r8one_any (e : E4) (us : List U2) (ats : List A8) (zf : R7 → Int) (w : World) (H : EntB w e us ats zf) :
    Calls Tryz.prog 25 #[e.val] w fun x w' => x = .returned (.int .i64 (chkE (e4u e) us ats zf)) ∧ Below w.heap.size w w' := by
  obtain ⟨et, ei, po, m, pc, ao, n, ac⟩ := e
  have hpl : m = us.length := H.ok.pl
  have hal : n = ats.length := H.ok.al
  subst hpl hal
  have hul : us.length ≤ 1048576 := H.ok.ul
  have haal : ats.length ≤ 1048576 := H.ok.aal
  have HrU : Hid (RowG w po 2 (us.map U2.cells)) := hide H.ok.rowU
  have HrA : Hid (RowG w ao 8 (ats.map A8.cells)) := hide H.ok.rowA
  have CU := fun w' => r3uid_any et ei w' H.own.1 H.own.2
  have HsU := hide H.us
  have HsA := hide H.nms
  have HtA := hide H.told
  clear H
  have b1 := below1 w (.cells #[.string et, .string ei, .slice po us.length pc, .slice ao ats.length ac] 29)
  have z1 := size1 w (.cells #[.string et, .string ei, .slice po us.length pc, .slice ao ats.length ac] 29)
  have hV1 : w.heap.size < (w.alloc (.cells #[.string et, .string ei, .slice po us.length pc, .slice ao ats.length ac] 29)).heap.size := by omega
  have H1 := hide (alloc_heap w (.cells #[.string et, .string ei, .slice po us.length pc, .slice ao ats.length ac] 29))
  have HC := hide (show chkE (e4u ⟨et, ei, po, us.length, pc, ao, ats.length, ac⟩) us ats zf = or3 (chkU et.data.toList ei.data.toList) (rowE chk2 lessU 4 us) (rowE (fun a => chkA a.nm (zf a.v)) lessN 5 ats) from rfl)
  generalize chkE (e4u ⟨et, ei, po, us.length, pc, ao, ats.length, ac⟩) us ats zf = r at *
  generalize chkU et.data.toList ei.data.toList = x0 at *
  unfold E4.val
  simp only
  clear z1
  go_enter Tryz.func25, Tryz.ntmps25
  go_wp2_with fail
  generalize w.alloc _ = w1 at *
  by_cases hx0 : x0 = 0
  · subst hx0
    refine (CU _).mono ?_
    clear CU
    rintro _ w2 ⟨rfl, b2⟩
    have b02 := b1.trans (b2.mono b1.size)
    have H2 := kept_of_below b2 (unhide H1)
    have hV2 : w.heap.size < w2.heap.size := Nat.lt_of_lt_of_le hV1 b2.size
    have c2 : w2.cell? ⟨w.heap.size, 2, none⟩ = some (.slice po us.length pc) := by rw [Lib.cell_of_heap H2]; rfl
    have HC2 := hide (show r = if rowE chk2 lessU 4 us ≠ 0 then rowE chk2 lessU 4 us else rowE (fun a => chkA a.nm (zf a.v)) lessN 5 ats by rw [unhide HC]; unfold or3; rw [if_neg (fun h => h rfl)])
    have HH2 := hide H2
    clear H1 HC H2
    by_cases h4 : 4 < us.length
    · have i4 : (4 : Int) < (us.length : Int) := by omega
      have HV := hide (show r = 4 by
        have := unhide HC2
        have h5 : rowE chk2 lessU 4 us = 4 := if_pos h4
        rw [h5] at this
        simpa using this)
      go_wp2
      go_ret
      exact ⟨ret_int (unhide HV).symm, b02⟩
    have i4 : ¬ (4 : Int) < (us.length : Int) := by omega
    have HRE := hide (show rowE chk2 lessU 4 us = rowGo chk2 lessU none us from if_neg h4)
    go_wp2
    clear c2
    go_loopw [3] (fun iv wr => ∃ i : Nat, iv = .int .i64 i ∧ RowInvE chk2 lessU us i ∧ Below w2.heap.size w2 wr) (fun iv _ => us.length - (intOf iv).toNat)
    case atStart => exact ⟨0, by go_num, row_start _ _ us, Below.refl _ _⟩
    case round =>
      obtain ⟨j, rfl, inv, hbw⟩ := hrel
      have b0w := b02.trans (hbw.mono b02.size)
      have cV : wr.cell? ⟨w.heap.size, 2, none⟩ = some (.slice po us.length pc) := by rw [Lib.cell_of_heap (kept_of_below hbw (unhide HH2))]; rfl
      have hVr : w.heap.size < wr.heap.size := Nat.lt_of_lt_of_le hV2 hbw.size
      have ck0 : (0 : Int) ≤ (j : Int) := by omega
      by_cases hlt : j < us.length
      · have i1 : (j : Int) < (us.length : Int) := by omega
        have HR := hide (row_round inv hlt)
        obtain ⟨b, off, rfl, hb, hcell⟩ := rowG_at (unhide HrU) b0w hlt
        have A : AtE2 wr b (off + j * 2) us[j] := AtE2.of hcell
        have CJ := fun w' => r3uid_any us[j].t us[j].i w' ((unhide HsU) _ (List.getElem_mem _)).1 ((unhide HsU) _ (List.getElem_mem _)).2
        have HAP := hide (fun (h : j - 1 < us.length) => rowG_at (unhide HrU) b0w h)
        have hbr : b < wr.heap.size := Nat.lt_of_lt_of_le hb b0w.size
        obtain ⟨q, eq⟩ : ∃ q, q = us[j] := ⟨_, rfl⟩
        have HLJ := hide (fun (h : j - 1 < us.length) (w : World) => r3lessUid_any us[j - 1].t.data.toList us[j - 1].i.data.toList q.t.data.toList q.i.data.toList w)
        rw [← eq] at A CJ HR
        have ec : chk2 q = chkU q.t.data.toList q.i.data.toList := rfl
        rw [ec] at HR
        clear eq inv hcell ec
        generalize chkU q.t.data.toList q.i.data.toList = y0 at *
        have Acopy := A
        obtain ⟨a0, a1⟩ := Acopy
        go_wp2_with fail
        refine (CJ _).mono ?_
        rintro _ w5 ⟨rfl, b5⟩
        have b25 := hbw.trans (b5.mono hbw.size)
        have b05 := b0w.trans (b5.mono b0w.size)
        have A5 := A.below b5 hbr
        have cV5 : w5.cell? ⟨w.heap.size, 2, none⟩ = some (.slice (some ⟨b, off, none⟩) us.length pc) := (b5.cell (p := ⟨w.heap.size, 2, none⟩) hVr).trans cV
        clear a0 a1
        by_cases hy0 : y0 = 0
        · subst hy0
          clear CJ
          by_cases hj0 : j = 0
          · subst hj0
            clear cV cV5 A A5
            go_wp2_with fail
            refine wp_region_quiet_below (by kernel_rfl) (by kernel_rfl) ?_
            repeat (go_big_quiet_step (fail))
            refine wpQuiet_nil ?_
            intro _ hw'
            obtain ⟨⟨dq2, osq2⟩, hw''⟩ := hw'
            subst hw''
            have b6 := b25.trans ((below_regrown w5 dq2 osq2).mono b25.size)
            generalize grow (redrawn w5 dq2) osq2 = w6 at *
            go_wp2
            go_roundw
            case rel => exact ⟨1, by go_num, (unhide HR).2.1 (by trivial) (.inl (by trivial)), b6⟩
            case measure =>
              simp only [intOf]
              omega
          · have hp : 0 < j := by omega
            have hpl : j - 1 < us.length := by omega
            obtain ⟨b', off', e', hb', hcell'⟩ := unhide HAP hpl
            cases e'
            have AQ : AtE2 wr b (off + (j - 1) * 2) us[j - 1] := AtE2.of hcell'
            have LQ := unhide HLJ hpl
            obtain ⟨p, ep⟩ : ∃ p, p = us[j - 1] := ⟨_, rfl⟩
            have HX := hide (show ∀ x, x = lessU p q → (x = true → RowInvE chk2 lessU us (j + 1)) ∧ (x = false → rowGo chk2 lessU none us = 1) from fun x hx => ⟨fun h => (unhide HR).2.1 (by trivial) (.inr ⟨hpl, by rw [← ep, ← hx]; exact h⟩), fun h => (unhide HR).2.2 (by trivial) hp (fun _ => by rw [← ep, ← hx]; exact h)⟩)
            rw [← ep] at AQ LQ
            rw [ba_of, ba_of, ba_of, ba_of] at LQ
            have HLL : Hid (lessP (.uid p.t.data.toList p.i.data.toList) (.uid q.t.data.toList q.i.data.toList) = lessU p q) := hide rfl
            generalize lessP (.uid p.t.data.toList p.i.data.toList) (.uid q.t.data.toList q.i.data.toList) = y at *
            have HX' := hide (unhide HX y (unhide HLL))
            clear ep hcell' HAP HLJ HX HLL HR
            have AQ5 := (AQ.below b5 hbr).up
            have AR5 := A5.up
            have v0 := cell_regrown cV5
            clear A A5 AQ cV cV5
            obtain ⟨a0, a1⟩ := AR5
            obtain ⟨e0, e1⟩ := AQ5
            have ej : (j : Int) - 1 = ((j - 1 : Nat) : Int) := by omega
            have hg : decide ((0 : Int) < (j : Int)) = true := decide_eq_true (by omega)
            have ew : IntKind.i64.wrap ((j - 1 : Nat) : Int) = ((j - 1 : Nat) : Int) := by rw [IntKind.wrap_i64]; omega
            have k0 : (0 : Int) ≤ ((j - 1 : Nat) : Int) := by omega
            have k1 : ((j - 1 : Nat) : Int) < (us.length : Int) := by omega
            have cS := fun d os => Calls.regrown_of (w := w5) (d := d) (os := os) (LQ (grow (redrawn w5 d) os))
            clear LQ
            go_wp2_with fail
            refine wp_region_quiet_below (by kernel_rfl) (by kernel_rfl) ?_
            repeat (quiet_step (exact cS _ _))
            refine wpQuiet_nil ?_
            intro _ hw'
            obtain ⟨⟨dq2, osq2⟩, hw''⟩ := hw'
            subst hw''
            have b6 := b25.trans ((below_regrown w5 dq2 osq2).mono b25.size)
            have b06 := b05.trans ((below_regrown w5 dq2 osq2).mono b05.size)
            generalize grow (redrawn w5 dq2) osq2 = w6 at *
            clear a0 a1 e0 e1 cS v0
            cases y
            · have HV := hide (show r = 1 by
                have h1 := unhide HC2
                rw [unhide HRE, (unhide HX').2 (by trivial)] at h1
                simpa using h1)
              go_wp2
              go_ret
              exact ⟨ret_int (unhide HV).symm, b06⟩
            · go_wp2
              go_roundw
              case rel => exact ⟨j + 1, by go_num, (unhide HX').1 (by trivial), b6⟩
              case measure =>
                simp only [intOf]
                omega
        · have hyb : (y0 == 0) = false := by simpa using hy0
          have HV := hide (show r = y0 by
            have h1 := unhide HC2
            rw [unhide HRE, (unhide HR).1 hy0, if_pos hy0] at h1
            exact h1)
          clear hy0 HR HAP HLJ A cV
          obtain ⟨a0, a1⟩ := A5
          go_wp2_with fail
          refine (CJ _).mono ?_
          rintro _ w6 ⟨rfl, b6⟩
          go_wp2
          go_ret
          exact ⟨ret_int (unhide HV).symm, b05.trans (b6.mono b05.size)⟩
      · have i1 : ¬ (j : Int) < (us.length : Int) := by omega
        have HC3 := hide (show r = rowE (fun a => chkA a.nm (zf a.v)) lessN 5 ats by
          have h1 := unhide HC2
          rw [unhide HRE, row_end inv hlt] at h1
          simpa using h1)
        have cW : wr.cell? ⟨w.heap.size, 3, none⟩ = some (.slice ao ats.length ac) := by rw [Lib.cell_of_heap (kept_of_below hbw (unhide HH2))]; rfl
        clear HC2 HRE inv
        by_cases h5 : 5 < ats.length
        · have i5 : (5 : Int) < (ats.length : Int) := by omega
          have HV := hide (show r = 4 by
            rw [unhide HC3]
            exact if_pos h5)
          go_wp2
          go_ret
          exact ⟨ret_int (unhide HV).symm, b0w⟩
        have i5 : ¬ (5 : Int) < (ats.length : Int) := by omega
        have HC4 := hide (show r = rowGo (fun a => chkA a.nm (zf a.v)) lessN none ats by rw [unhide HC3]; exact if_neg h5)
        have HH3 := hide (kept_of_below hbw (unhide HH2))
        clear HC3
        go_wp2
        clear cV cW hlt i1 ck0
        generalize wr = w3 at *
        clear hbw
        go_loopw [4] (fun iv wr => ∃ i : Nat, iv = .int .i64 i ∧ RowInvE (fun a => chkA a.nm (zf a.v)) lessN ats i ∧ Below w3.heap.size w3 wr) (fun iv _ => ats.length - (intOf iv).toNat)
        case atStart => exact ⟨0, by go_num, row_start _ _ ats, Below.refl _ _⟩
        case round =>
          obtain ⟨j, rfl, inv, hbw⟩ := hrel
          have b0r := b0w.trans (hbw.mono b0w.size)
          have cV : wr.cell? ⟨w.heap.size, 3, none⟩ = some (.slice ao ats.length ac) := by rw [Lib.cell_of_heap (kept_of_below hbw (unhide HH3))]; rfl
          have hV4 : w.heap.size < wr.heap.size := Nat.lt_of_lt_of_le hVr hbw.size
          have ck0 : (0 : Int) ≤ (j : Int) := by omega
          by_cases hlt : j < ats.length
          · have i1 : (j : Int) < (ats.length : Int) := by omega
            have HR := hide (row_round inv hlt)
            obtain ⟨b, off, rfl, hb, hcell⟩ := rowG_at (unhide HrA) b0r hlt
            have A : AtE8 wr b (off + j * 8) ats[j] := AtE8.of hcell
            have ID := fun w' => rident_any ats[j].nm w' ((unhide HsA) _ (List.getElem_mem _))
            have CJ := (unhide HtA) _ (List.getElem_mem hlt)
            have HAP := hide (fun (h : j - 1 < ats.length) => rowG_at (unhide HrA) b0r h)
            have hbr : b < wr.heap.size := Nat.lt_of_lt_of_le hb b0r.size
            obtain ⟨q, eq⟩ : ∃ q, q = ats[j] := ⟨_, rfl⟩
            have HLN := hide (fun (h : j - 1 < ats.length) => show lessN ats[j - 1] ats[j] = lessN ats[j - 1] q by rw [eq])
            rw [← eq] at A CJ HR ID
            have HCH := hide (show chkA q.nm (zf q.v) = if nameB q.nm.data.toList then zf q.v else 15 from rfl)
            clear eq inv hcell
            generalize zf q.v = y0 at *
            generalize nameB q.nm.data.toList = nb at *
            have Acopy := A
            obtain ⟨a0, a1, a2, a3, a4, a5, a6, a7⟩ := Acopy
            go_wp2_with fail
            refine (ID _).mono ?_
            clear ID
            rintro _ wx ⟨rfl, hwx⟩
            have hwx := hwx.symm
            subst hwx
            cases nb
            · have HV := hide (show r = 15 by
                have h1 : chkA q.nm y0 = 15 := unhide HCH
                rw [unhide HC4, (unhide HR).1 (by rw [h1]; decide), h1])
              clear a0 a1 a2 a3 a4 a5 a6 a7
              go_wp2
              go_ret
              exact ⟨ret_int (unhide HV).symm, b0r⟩
            · have Hch : Hid (chkA q.nm y0 = y0) := hide (unhide HCH)
              have CJ1 := CJ wr b0r
              unfold R7.val at CJ1
              go_wp2_with fail
              refine CJ1.mono ?_
              clear CJ1
              rintro _ w5 ⟨rfl, b5⟩
              have b35 := hbw.trans (b5.mono hbw.size)
              have b05 := b0r.trans (b5.mono b0r.size)
              have A5 := A.below b5 hbr
              have cV5 : w5.cell? ⟨w.heap.size, 3, none⟩ = some (.slice (some ⟨b, off, none⟩) ats.length ac) := (b5.cell (p := ⟨w.heap.size, 3, none⟩) hV4).trans cV
              clear a0 a1 a2 a3 a4 a5 a6 a7
              by_cases hy0 : y0 = 0
              · subst hy0
                clear CJ
                by_cases hj0 : j = 0
                · subst hj0
                  clear cV cV5 A A5
                  go_wp2_with fail
                  refine wp_region_quiet_below (by kernel_rfl) (by kernel_rfl) ?_
                  repeat (go_big_quiet_step (fail))
                  refine wpQuiet_nil ?_
                  intro _ hw'
                  obtain ⟨⟨dq2, osq2⟩, hw''⟩ := hw'
                  subst hw''
                  have b6 := b35.trans ((below_regrown w5 dq2 osq2).mono b35.size)
                  generalize grow (redrawn w5 dq2) osq2 = w6 at *
                  go_wp2
                  go_roundw
                  case rel => exact ⟨1, by go_num, (unhide HR).2.1 (unhide Hch) (.inl (by trivial)), b6⟩
                  case measure =>
                    simp only [intOf]
                    omega
                · have hp : 0 < j := by omega
                  have hpl : j - 1 < ats.length := by omega
                  obtain ⟨b', off', e', hb', hcell'⟩ := unhide HAP hpl
                  cases e'
                  have AQ : AtE8 wr b (off + (j - 1) * 8) ats[j - 1] := AtE8.of hcell'
                  obtain ⟨p, ep⟩ : ∃ p, p = ats[j - 1] := ⟨_, rfl⟩
                  have HX := hide (show ∀ x, x = lessN p q → (x = true → RowInvE (fun a => chkA a.nm (zf a.v)) lessN ats (j + 1)) ∧ (x = false → rowGo (fun a => chkA a.nm (zf a.v)) lessN none ats = 1) from fun x hx => ⟨fun h => (unhide HR).2.1 (unhide Hch) (.inr ⟨hpl, by rw [← ep, ← hx]; exact h⟩), fun h => (unhide HR).2.2 (unhide Hch) hp (fun _ => by rw [← ep, ← hx]; exact h)⟩)
                  rw [← ep] at AQ
                  have HLQ := hide (leq_not q.nm p.nm)
                  clear ep hcell' HAP HR HLN
                  have e0 := (AQ.below b5 hbr).up.c0
                  have a0 := A5.up.c0
                  have v0 := cell_regrown cV5
                  clear A A5 AQ cV cV5
                  have ej : (j : Int) - 1 = ((j - 1 : Nat) : Int) := by omega
                  have hg : decide ((0 : Int) < (j : Int)) = true := decide_eq_true (by omega)
                  have ew : IntKind.i64.wrap ((j - 1 : Nat) : Int) = ((j - 1 : Nat) : Int) := by rw [IntKind.wrap_i64]; omega
                  have k0 : (0 : Int) ≤ ((j - 1 : Nat) : Int) := by omega
                  have k1 : ((j - 1 : Nat) : Int) < (ats.length : Int) := by omega
                  go_wp2_with fail
                  refine wp_region_quiet_below (by kernel_rfl) (by kernel_rfl) ?_
                  repeat (quiet_step (fail))
                  refine wpQuiet_nil ?_
                  intro _ hw'
                  obtain ⟨⟨dq2, osq2⟩, hw''⟩ := hw'
                  subst hw''
                  have b6 := b35.trans ((below_regrown w5 dq2 osq2).mono b35.size)
                  have b06 := b05.trans ((below_regrown w5 dq2 osq2).mono b05.size)
                  generalize grow (redrawn w5 dq2) osq2 = w6 at *
                  clear a0 e0 v0
                  rw [unhide HLQ]
                  have HX' := hide (unhide HX (Op.bytesLess p.nm.toList q.nm.toList) rfl)
                  generalize Op.bytesLess p.nm.toList q.nm.toList = y at *
                  clear HLQ HX
                  cases y
                  · have HV := hide (show r = 1 by rw [unhide HC4, (unhide HX').2 (by trivial)])
                    go_wp2
                    go_ret
                    exact ⟨ret_int (unhide HV).symm, b06⟩
                  · go_wp2
                    go_roundw
                    case rel => exact ⟨j + 1, by go_num, (unhide HX').1 (by trivial), b6⟩
                    case measure =>
                      simp only [intOf]
                      omega
              · have hyb : (y0 == 0) = false := by simpa using hy0
                have HV := hide (show r = y0 by
                  have h1 := unhide Hch
                  rw [unhide HC4, (unhide HR).1 (by rw [h1]; exact hy0), h1])
                have CJ2 := CJ w5 b05
                unfold R7.val at CJ2
                clear hy0 HR HAP HLN A cV
                obtain ⟨a0, a1, a2, a3, a4, a5, a6, a7⟩ := A5
                go_wp2_with fail
                refine CJ2.mono ?_
                rintro _ w6 ⟨rfl, b6⟩
                go_wp2
                go_ret
                exact ⟨ret_int (unhide HV).symm, b05.trans (b6.mono b05.size)⟩
          · have i1 : ¬ (j : Int) < (ats.length : Int) := by omega
            have HV := hide (show r = 0 by rw [unhide HC4, row_end inv hlt])
            go_wp2
            go_ret
            exact ⟨ret_int (unhide HV).symm, b0r⟩
  · have hxb : (x0 == 0) = false := by simpa using hx0
    have HV := hide (show r = x0 by
      rw [unhide HC]
      unfold or3
      rw [if_pos hx0])
    clear hx0
    refine (CU _).mono ?_
    rintro _ w2 ⟨rfl, b2⟩
    have b02 := b1.trans (b2.mono b1.size)
    have H2 := kept_of_below b2 (unhide H1)
    have c0 : w2.cell? ⟨w.heap.size, 0, none⟩ = some (.string et) := by rw [Lib.cell_of_heap H2]; rfl
    have c1 : w2.cell? ⟨w.heap.size, 1, none⟩ = some (.string ei) := by rw [Lib.cell_of_heap H2]; rfl
    clear H2
    go_wp2_with fail
    refine (CU _).mono ?_
    rintro _ w3 ⟨rfl, b3⟩
    go_wp2
    go_ret
    exact ⟨ret_int (unhide HV).symm, b02.trans (b3.mono b02.size)⟩
end Go.Proofs.YtnbbimcooilmdaaGreat

namespace Go.Proofs.YtnbbimcooilmdaaGreat
open Go.RowKit Go.Sort

set_option maxHeartbeats 8000000 in
set_option maxRecDepth 1000000 in
theorem r8check_any (es : List E4) (ao : Option Addr) (cap : Nat) (cf : E4 → Int) (w : World) (hl : es.length ≤ 1048576) (hr : RowG w ao 4 (es.map E4.cells))
    (H : ∀ e ∈ es, ∃ us ats zf, EntB w e us ats zf ∧ cf e = chkE (e4u e) us ats zf) :
    Calls Tryz.prog 9 #[.slice ao es.length cap] w fun x w' => x = .returned (.int .i64 (rowE cf lessE 16 es)) ∧ Below w.heap.size w w' := by
  by_cases h8 : 16 < es.length
  · have e : rowE cf lessE 16 es = 4 := if_pos h8
    rw [e]
    have i8 : (16 : Int) < (es.length : Int) := by omega
    clear e H
    go_enter Tryz.func9, Tryz.ntmps9
    go_wp2
    go_ret
    exact ⟨rfl, Below.refl _ _⟩
  have i8 : ¬ (16 : Int) < (es.length : Int) := by omega
  have HE := hide (show rowE cf lessE 16 es = rowGo cf lessE none es from if_neg h8)
  have HCK := hide (fun e he w' (hb : Below w.heap.size w w') => show Calls Tryz.prog 25 #[e.val] w' fun x w'' => x = .returned (.int .i64 (cf e)) ∧ Below w'.heap.size w' w'' by
    obtain ⟨us, ats, zf, h, hc⟩ := H e he
    rw [hc]
    exact r8one_any e us ats zf w' (h.below hb))
  clear H
  go_enter Tryz.func9, Tryz.ntmps9
  go_wp2
  go_loopw [3] (fun iv wr => ∃ i : Nat, iv = .int .i64 i ∧ RowInvE cf lessE es i ∧ Below w.heap.size w wr) (fun iv _ => es.length - (intOf iv).toNat)
  case atStart => exact ⟨0, by go_num, row_start _ _ es, Below.refl _ _⟩
  case round =>
    obtain ⟨j, rfl, inv, hbw⟩ := hrel
    have ck0 : (0 : Int) ≤ (j : Int) := by omega
    by_cases hlt : j < es.length
    · have i1 : (j : Int) < (es.length : Int) := by omega
      have HR := hide (row_round inv hlt)
      obtain ⟨b, off, rfl, hb, hcell⟩ := rowG_at hr hbw hlt
      have A : AtE4 wr b (off + j * 4) es[j] := AtE4.of hcell
      have CJ := unhide HCK es[j] (List.getElem_mem _)
      have HAP := hide (fun (h : j - 1 < es.length) => rowG_at hr hbw h)
      have hbr : b < wr.heap.size := Nat.lt_of_lt_of_le hb hbw.size
      obtain ⟨q, eq⟩ : ∃ q, q = es[j] := ⟨_, rfl⟩
      have HLJ := hide (fun (h : j - 1 < es.length) (w : World) => r3lessUid_any es[j - 1].t.data.toList es[j - 1].i.data.toList q.t.data.toList q.i.data.toList w)
      rw [← eq] at A CJ HR
      clear eq inv hcell
      generalize cf q = y0 at *
      unfold E4.val at CJ
      have CJ1 := CJ wr hbw
      have Acopy := A
      obtain ⟨a0, a1, a2, a3⟩ := Acopy
      go_wp2_with fail
      refine CJ1.mono ?_
      clear CJ1
      rintro _ w5 ⟨rfl, b5⟩
      have b05 := hbw.trans (b5.mono hbw.size)
      have A5 := A.below b5 hbr
      clear a0 a1 a2 a3
      by_cases hy0 : y0 = 0
      · subst hy0
        clear CJ
        by_cases hj0 : j = 0
        · subst hj0
          clear A A5
          go_wp2_with fail
          refine wp_region_quiet_below (by kernel_rfl) (by kernel_rfl) ?_
          repeat (go_big_quiet_step (fail))
          refine wpQuiet_nil ?_
          intro _ hw'
          obtain ⟨⟨dq2, osq2⟩, hw''⟩ := hw'
          subst hw''
          have b6 := b05.trans ((below_regrown w5 dq2 osq2).mono b05.size)
          generalize grow (redrawn w5 dq2) osq2 = w6 at *
          go_wp2
          go_roundw
          case rel => exact ⟨1, by go_num, (unhide HR).2.1 (by trivial) (.inl (by trivial)), b6⟩
          case measure =>
            simp only [intOf]
            omega
        · have hp : 0 < j := by omega
          have hpl : j - 1 < es.length := by omega
          obtain ⟨b', off', e', hb', hcell'⟩ := unhide HAP hpl
          cases e'
          have AQ : AtE4 wr b (off + (j - 1) * 4) es[j - 1] := AtE4.of hcell'
          have LQ := unhide HLJ hpl
          obtain ⟨p, ep⟩ : ∃ p, p = es[j - 1] := ⟨_, rfl⟩
          have HX := hide (show ∀ x, x = lessE p q → (x = true → RowInvE cf lessE es (j + 1)) ∧ (x = false → rowGo cf lessE none es = 1) from fun x hx => ⟨fun h => (unhide HR).2.1 (by trivial) (.inr ⟨hpl, by rw [← ep, ← hx]; exact h⟩), fun h => (unhide HR).2.2 (by trivial) hp (fun _ => by rw [← ep, ← hx]; exact h)⟩)
          rw [← ep] at AQ LQ
          rw [ba_of, ba_of, ba_of, ba_of] at LQ
          have HLL : Hid (lessP (.uid p.t.data.toList p.i.data.toList) (.uid q.t.data.toList q.i.data.toList) = lessE p q) := hide rfl
          generalize lessP (.uid p.t.data.toList p.i.data.toList) (.uid q.t.data.toList q.i.data.toList) = y at *
          have HX' := hide (unhide HX y (unhide HLL))
          clear ep hcell' HAP HLJ HX HLL HR
          have AQ5 := (AQ.below b5 hbr).up
          have AR5 := A5.up
          clear A A5 AQ
          obtain ⟨a0, a1, a2, a3⟩ := AR5
          obtain ⟨e0, e1, e2, e3⟩ := AQ5
          have ej : (j : Int) - 1 = ((j - 1 : Nat) : Int) := by omega
          have hg : decide ((0 : Int) < (j : Int)) = true := decide_eq_true (by omega)
          have ew : IntKind.i64.wrap ((j - 1 : Nat) : Int) = ((j - 1 : Nat) : Int) := by rw [IntKind.wrap_i64]; omega
          have k0 : (0 : Int) ≤ ((j - 1 : Nat) : Int) := by omega
          have k1 : ((j - 1 : Nat) : Int) < (es.length : Int) := by omega
          have cS := fun d os => Calls.regrown_of (w := w5) (d := d) (os := os) (LQ (grow (redrawn w5 d) os))
          clear LQ
          go_wp2_with fail
          refine wp_region_quiet_below (by kernel_rfl) (by kernel_rfl) ?_
          repeat (quiet_step (exact cS _ _))
          refine wpQuiet_nil ?_
          intro _ hw'
          obtain ⟨⟨dq2, osq2⟩, hw''⟩ := hw'
          subst hw''
          have b6 := b05.trans ((below_regrown w5 dq2 osq2).mono b05.size)
          generalize grow (redrawn w5 dq2) osq2 = w6 at *
          clear a0 a1 a2 a3 e0 e1 e2 e3 cS
          cases y
          · have HV := hide (show rowE cf lessE 16 es = 1 by rw [unhide HE, (unhide HX').2 (by trivial)])
            go_wp2
            go_ret
            exact ⟨ret_int (unhide HV).symm, b6⟩
          · go_wp2
            go_roundw
            case rel => exact ⟨j + 1, by go_num, (unhide HX').1 (by trivial), b6⟩
            case measure =>
              simp only [intOf]
              omega
      · have hyb : (y0 == 0) = false := by simpa using hy0
        have HV := hide (show rowE cf lessE 16 es = y0 by rw [unhide HE, (unhide HR).1 hy0])
        have CJ2 := CJ w5 b05
        clear hy0 HR HAP HLJ A CJ
        obtain ⟨a0, a1, a2, a3⟩ := A5
        go_wp2_with fail
        refine CJ2.mono ?_
        rintro _ w6 ⟨rfl, b6⟩
        go_wp2
        go_ret
        exact ⟨ret_int (unhide HV).symm, b05.trans (b6.mono b05.size)⟩
    · have i1 : ¬ (j : Int) < (es.length : Int) := by omega
      have HV := hide (show rowE cf lessE 16 es = 0 by rw [unhide HE, row_end inv hlt])
      go_wp2
      go_ret
      exact ⟨ret_int (unhide HV).symm, hbw⟩
end Go.Proofs.YtnbbimcooilmdaaGreat
