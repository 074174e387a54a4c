/-
  chancelref3.Check of a set: what it returns.
-/
import Derived.Test.YtnbbimcooilmdaaGreatVhAC
import Derived.Test.YtnbbimcooilmdaaGreatVdFS
import Derived.BigQuiet
namespace Go.Proofs.YtnbbimcooilmdaaGreat
open Go.RowKit Go.Sort

def smallR' (r : R7) : Prop := r.s.size ≤ 1048576 ∧ r.t.size ≤ 1048576 ∧ r.i.size ≤ 1048576

theorem r3less_R (a b : R7) (ha : a.k ≠ 5) (hb : b.k ≠ 5) (h1 : chkFlat a = 0) (h2 : chkFlat b = 0) (w : World) :
    Calls Tryz.prog 62 #[a.val, b.val] w fun e w' => e = .returned (.bool (lessR a b)) ∧ Below w.heap.size w w' := by
  rw [plain_of_chk a ha h1, plain_of_chk b hb h2]
  exact r3less_plain _ _ _ _ w

set_option maxHeartbeats 8000000 in
set_option maxRecDepth 1000000 in
theorem r3check_set (r : R7) (es : List R7) (w : World) (h5 : r.k = 5) (hn : r.ll = es.length) (hl : es.length ≤ 1048576) (hr : RowV w r.lo es) (hsm : ∀ e ∈ es, smallR' e) :
    Calls Tryz.prog 47 #[r.val] w fun e w' => e = .returned (.int .i64 (chkSet r es)) ∧ Below w.heap.size w w' := by
  have CL := fun w => r3clean_any r w
  have A := at7_new w r
  have b1 := below1 w (.cells #[.int .i64 r.k, .bool r.b, .int .i64 r.n, .string r.s, .string r.t, .string r.i, .slice r.lo r.ll r.lc] 52)
  have z1 := size1 w (.cells #[.int .i64 r.k, .bool r.b, .int .i64 r.n, .string r.s, .string r.t, .string r.i, .slice r.lo r.ll r.lc] 52)
  have hr1 := hr.below b1
  have hm0 : chkSet r es = if moreB r then 1 else chkEls es := rfl
  generalize moreB r = mb at *
  obtain ⟨k, b, n, s, t, i, lo, ll, lc⟩ := r
  simp only at h5 hn hr hr1
  subst h5 hn
  unfold R7.val at *
  simp only at A b1 z1 hr1 CL ⊢
  cases mb with
  | true =>
    rw [hm0, if_pos rfl]
    clear hm0
    go_enter Tryz.func47, Tryz.ntmps47
    go_wp2_with fail
    generalize w.alloc _ = w1 at *
    refine (CL _).mono ?_
    rintro e w2 ⟨rfl, b2⟩
    go_wp2
    go_ret
    exact ⟨rfl, b1.trans (b2.mono b1.size)⟩
  | false =>
    rw [hm0, if_neg (by simp)]
    clear hm0
    have e8 : 8 < es.length → chkEls es = 4 := fun h => if_pos h
    have eR : ¬ 8 < es.length → ∀ h0 : 0 < es.length, chkEls es = chkFrom es[0].k none es := fun h8 h0 => by
      unfold chkEls
      rw [if_neg h8]
      cases es with
      | nil => simp at h0
      | cons e t => rfl
    have e00 : es.length = 0 → chkEls es = 0 := fun h0 => by
      obtain rfl : es = [] := List.eq_nil_of_length_eq_zero h0
      rfl
    generalize chkEls es = R at *
    have He8 := hide e8
    have HeR := hide eR
    have He0 := hide e00
    clear e8 eR e00
    go_enter Tryz.func47, Tryz.ntmps47
    go_wp2_with fail
    generalize w.alloc _ = w1 at *
    refine (CL _).mono ?_
    rintro e w2 ⟨rfl, b2⟩
    have A2 := A.below b2 (by omega)
    have hr2 := hr1.below b2
    have b12 := b1.trans (b2.mono b1.size)
    have hB2 : w.heap.size < w2.heap.size := by have := b2.size; omega
    clear A hr1 CL hr
    by_cases h8 : 8 < es.length
    · have i8 : (8 : Int) < (es.length : Int) := by omega
      obtain ⟨x0, x1, x2, x3, x4, x5, x6⟩ := A2
      simp only [Nat.zero_add] at x1 x2 x3 x4 x5 x6
      go_wp2
      go_ret
      exact ⟨ret_int (unhide He8 h8).symm, b12⟩
    have i8 : ¬ (8 : Int) < (es.length : Int) := by omega
    have A2k := hide A2
    obtain ⟨x0, x1, x2, x3, x4, x5, x6⟩ := A2
    simp only [Nat.zero_add] at x1 x2 x3 x4 x5 x6
    go_wp2
    clear x0 x1 x2 x3 x4 x5 x6
    go_loopw [3] (fun iv wr => ∃ j : Nat, j ≤ es.length ∧ iv = .int .i64 j ∧ Below w2.heap.size w2 wr ∧ (∀ q (hq : q < es.length), q < j → es[q].k ≠ 5 ∧ chkFlat es[q] = 0) ∧
        (∀ h0 : 0 < es.length, chkFrom es[0].k (if h : 0 < j ∧ j ≤ es.length then some (es[j - 1]'(by omega)) else none) (es.drop j) = R)) (fun iv _ => es.length - (intOf iv).toNat)
    case atStart => exact ⟨0, Nat.zero_le _, rfl, Below.refl _ _, fun q _ h => by omega, fun h0 => by rw [dif_neg (by omega), List.drop_zero, unhide HeR h8 h0]⟩
    case round =>
      obtain ⟨j, hj, rfl, hbw, hflat, hacc⟩ := hrel
      have A3 := (unhide A2k).below hbw hB2
      by_cases hlt : j < es.length
      · have h0 : 0 < es.length := by omega
        have i1 : (j : Int) < (es.length : Int) := by omega
        have i0 : (0 : Int) < (es.length : Int) := by omega
        have hac := hacc h0
        rw [List.drop_eq_getElem_cons hlt, chkFrom_cons] at hac
        obtain ⟨bb, off, rfl, E, hbb⟩ := rowV_at hr2 hbw hlt
        obtain ⟨b', off', e', E0, _⟩ := rowV_at hr2 hbw h0
        cases e'
        rw [Nat.zero_mul, Nat.add_zero] at E0
        obtain ⟨e1, ee⟩ : ∃ e1, e1 = es[j] := ⟨_, rfl⟩
        obtain ⟨k0, ek⟩ : ∃ k0, k0 = es[0].k := ⟨_, rfl⟩
        have hsm1 : smallR' e1 := by rw [ee]; exact hsm _ (List.getElem_mem _)
        rw [← ee] at E hac
        rw [← ek] at hac
        have Hac := hide hac
        have Hflat := hide hflat
        have Hee := hide ee
        have Hek := hide ek
        have c0 := E0.up.c0
        rw [← ek] at c0
        have Ek := hide E
        have d0 := E.up.c0
        have x6 := A3.up.c6
        have x6p := A3.c6
        simp only [Nat.zero_add] at x6 x6p
        clear hac hflat hacc ee ek E E0
        by_cases h5 : e1.k = 5
        · have f5 : (e1.k == 5) = true := by simpa using h5
          have hR : R = 16 := by rw [← unhide Hac, if_pos (by simp [mayB, h5])]
          have HR := hide hR
          clear h5 hR
          go_wp2_with fail
          refine wp_region_quiet_below (by kernel_rfl) (by kernel_rfl) ?_
          repeat (go_big_quiet_step (fail))
          refine wpQuiet_nil ?_
          intro _ hw'
          obtain ⟨⟨dq, osq⟩, hw''⟩ := hw'
          subst hw''
          have b4 : Below w2.heap.size w2 (grow (redrawn wr dq) osq) := hbw.trans ((below_regrown wr dq osq).mono hbw.size)
          generalize grow (redrawn wr dq) osq = w4 at *
          clear x6 x6p c0 d0
          go_wp2
          go_ret
          exact ⟨ret_int (unhide HR).symm, b12.trans (b4.mono b12.size)⟩
        have f5 : (e1.k == 5) = false := by simpa using h5
        by_cases h6 : e1.k = k0
        case neg =>
          have f6 : (e1.k != k0) = true := by simpa using h6
          have hR : R = 16 := by rw [← unhide Hac, if_pos (by simp [mayB, h6])]
          have HR := hide hR
          clear h5 h6 hR
          go_wp2_with fail
          refine wp_region_quiet_below (by kernel_rfl) (by kernel_rfl) ?_
          repeat (quiet_step (fail))
          refine wpQuiet_nil ?_
          intro _ hw'
          obtain ⟨⟨dq, osq⟩, hw''⟩ := hw'
          subst hw''
          have b4 : Below w2.heap.size w2 (grow (redrawn wr dq) osq) := hbw.trans ((below_regrown wr dq osq).mono hbw.size)
          generalize grow (redrawn wr dq) osq = w4 at *
          clear x6 x6p c0 d0
          go_wp2
          go_ret
          exact ⟨ret_int (unhide HR).symm, b12.trans (b4.mono b12.size)⟩
        have f6 : (e1.k != k0) = false := by simpa using h6
        have hmay : mayB e1.k k0 = true := by simp [mayB, h5, h6.symm]
        have hac2 := unhide Hac
        rw [if_neg (by rw [hmay]; simp)] at hac2
        have Hac2 := hide hac2
        have H5 := hide h5
        have CF := fun w => r3check_flat e1 w h5 hsm1.1 hsm1.2.1 hsm1.2.2
        clear hac2 Hac h5 h6 hmay
        go_wp2_with fail
        refine wp_region_quiet_below (by kernel_rfl) (by kernel_rfl) ?_
        repeat (quiet_step (fail))
        refine wpQuiet_nil ?_
        intro _ hw'
        obtain ⟨⟨dq, osq⟩, hw''⟩ := hw'
        subst hw''
        have b4r := below_regrown wr dq osq
        have b4 : Below w2.heap.size w2 (grow (redrawn wr dq) osq) := hbw.trans (b4r.mono hbw.size)
        generalize grow (redrawn wr dq) osq = w4 at *
        have hbb4 : bb < wr.heap.size := by have := hbw.size; omega
        have E4 := (unhide Ek).below b4r hbb4
        have A4 := (unhide A2k).below b4 hB2
        clear x6 x6p c0 d0
        obtain ⟨y0, y1, y2, y3, y4, y5, y6⟩ := E4
        have x6 := A4.c6
        simp only [Nat.zero_add] at x6
        unfold R7.val at CF
        obtain ⟨cf, hcf⟩ : ∃ cf, cf = chkFlat e1 := ⟨_, rfl⟩
        rw [← hcf] at CF
        have Hcf := hide hcf
        clear hcf
        go_wp2_with fail
        refine (CF _).mono ?_
        rintro e w5 ⟨rfl, b5⟩
        have b45 := b4.trans (b5.mono b4.size)
        clear y0 y1 y2 y3 y4 y5 y6 x6
        by_cases hc0 : cf = 0
        case neg =>
          have fc : (cf != 0) = true := by simpa using hc0
          have hR : R = cf := by rw [← unhide Hac2, if_pos (by rw [← unhide Hcf]; exact hc0), unhide Hcf]
          have HR := hide hR
          clear hR hc0
          go_wp2
          go_ret
          exact ⟨ret_int (unhide HR).symm, b12.trans (b45.mono b12.size)⟩
        subst hc0
        have hac3 := unhide Hac2
        rw [if_neg (by rw [← unhide Hcf]; simp)] at hac3
        have Hac3 := hide hac3
        clear hac3 Hac2
        have flat' : ∀ q (hq : q < es.length), q < j + 1 → es[q].k ≠ 5 ∧ chkFlat es[q] = 0 := fun q hq hqj => by
          by_cases e : q = j
          · subst e
            rw [← unhide Hee]
            exact ⟨unhide H5, (unhide Hcf).symm⟩
          · exact unhide Hflat q hq (by omega)
        have Hflat' := hide flat'
        clear flat'
        have hbb5 : bb < w5.heap.size := by have := b45.size; omega
        have b5r : Below wr.heap.size wr w5 := b4r.trans (b5.mono b4r.size)
        by_cases hj0 : 0 < j
        · have ip : (0 : Int) < (j : Int) := by omega
          obtain ⟨b'', off'', e'', P, _⟩ := rowV_at hr2 b45 (j := j - 1) (by omega)
          cases e''
          obtain ⟨p, ep⟩ : ∃ p, p = es[j - 1]'(by omega) := ⟨_, rfl⟩
          rw [← ep] at P
          have hpf := unhide Hflat (j - 1) (by omega) (by omega)
          rw [← ep] at hpf
          have E5 := (((unhide Ek).below b5r hbb4)).up
          have P5 := P.up
          have x6 := ((unhide A2k).below b45 hB2).up.c6
          simp only [Nat.zero_add] at x6
          have M := fun d os => r3less_R p e1 hpf.1 (unhide H5) hpf.2 (unhide Hcf).symm (grow (redrawn w5 d) os)
          have hpv : prevOk (some p) e1 = lessR p e1 := rfl
          have hac4 := unhide Hac3
          rw [dif_pos ⟨hj0, hj⟩, ← ep, hpv] at hac4
          generalize lessR p e1 = lb at *
          have Hac4 := hide hac4
          have Hep := hide ep
          unfold R7.val at M
          obtain ⟨y0, y1, y2, y3, y4, y5, y6⟩ := E5
          obtain ⟨p0, p1, p2, p3, p4, p5, p6⟩ := P5
          have cS := fun d os => Calls.regrown_of (w := w5) (d := d) (os := os) (M d os)
          have ej : (j : Int) - 1 = ((j - 1 : Nat) : Int) := by omega
          have hg : decide ((0 : Int) < (j : Int)) = true := decide_eq_true (by omega)
          have ew : IntKind.i64.wrap ((j - 1 : Nat) : Int) = ((j - 1 : Nat) : Int) := by rw [IntKind.wrap_i64]; omega
          have k0' : (0 : Int) ≤ ((j - 1 : Nat) : Int) := by omega
          have k1' : ((j - 1 : Nat) : Int) < (es.length : Int) := by omega
          clear M hac4 ep hpf hpv P Hac3
          go_wp2_with fail
          refine wp_region_quiet_below (by kernel_rfl) (by kernel_rfl) ?_
          repeat (quiet_step (exact cS _ _))
          refine wpQuiet_nil ?_
          intro _ hw'
          obtain ⟨⟨dq2, osq2⟩, hw''⟩ := hw'
          subst hw''
          have b6 : Below w2.heap.size w2 (grow (redrawn w5 dq2) osq2) := b45.trans ((below_regrown w5 dq2 osq2).mono b45.size)
          generalize grow (redrawn w5 dq2) osq2 = w6 at *
          clear x6 y0 y1 y2 y3 y4 y5 y6 p0 p1 p2 p3 p4 p5 p6 cS
          cases lb
          · have hR : R = 1 := by have := unhide Hac4; rw [if_pos rfl] at this; exact this.symm
            have HR := hide hR
            clear hR
            go_wp2
            go_ret
            exact ⟨ret_int (unhide HR).symm, b12.trans (b6.mono b12.size)⟩
          · go_wp2
            go_roundw
            case rel =>
              refine ⟨j + 1, by omega, by go_num, b6, unhide Hflat', fun h0 => ?_⟩
              have := unhide Hac4
              rw [if_neg (by simp)] at this
              rw [dif_pos ⟨by omega, by omega⟩, ← unhide Hek]
              simp only [Nat.add_sub_cancel]
              rw [← unhide Hee]
              exact this
            case measure =>
              simp only [intOf]
              omega
        · obtain rfl : j = 0 := by omega
          have hac4 := unhide Hac3
          rw [dif_neg (by omega), show prevOk none e1 = true from rfl, if_neg (by simp)] at hac4
          have Hac4 := hide hac4
          clear hac4 Hac3
          have hg : decide ((0 : Int) < ((0 : Nat) : Int)) = false := by decide
          go_wp2_with fail
          refine wp_region_quiet_below (by kernel_rfl) (by kernel_rfl) ?_
          repeat (go_big_quiet_step (fail))
          refine wpQuiet_nil ?_
          intro _ hw'
          obtain ⟨⟨dq2, osq2⟩, hw''⟩ := hw'
          subst hw''
          have b6 : Below w2.heap.size w2 (grow (redrawn w5 dq2) osq2) := b45.trans ((below_regrown w5 dq2 osq2).mono b45.size)
          generalize grow (redrawn w5 dq2) osq2 = w6 at *
          go_wp2
          go_roundw
          case rel =>
            refine ⟨1, by omega, by go_num, b6, unhide Hflat', fun h0 => ?_⟩
            rw [dif_pos ⟨by omega, by omega⟩, ← unhide Hek]
            simp only [Nat.sub_self]
            rw [← unhide Hee]
            exact unhide Hac4
          case measure =>
            simp only [intOf]
            omega
      · have i1 : ¬ (j : Int) < (es.length : Int) := by omega
        obtain rfl : j = es.length := by omega
        have x6 := A3.c6
        simp only [Nat.zero_add] at x6
        have hR : R = 0 := by
          by_cases h0 : 0 < es.length
          · rw [← hacc h0, List.drop_length]
            split <;> rfl
          · exact unhide He0 (by omega)
        have HR := hide hR
        clear hR hacc hflat
        go_wp2
        go_ret
        exact ⟨ret_int (unhide HR).symm, b12.trans (hbw.mono b12.size)⟩
end Go.Proofs.YtnbbimcooilmdaaGreat
