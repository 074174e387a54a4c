/-
 Environments: those of no scopes, those of one (no walk in it).
 chancelref11.Envs of a policy without scopes, chancellaw11.env: what they return.
 The kinds of a good schema: each name once (no walk in it).
-/
import Derived.Test.YtagnbpobcijakaaTyH
import Derived.Test.YtagnbpobcijakaaSgEF
import Derived.BigGuardPart
namespace Go.Proofs.Ytagnbpobcijakaa
open Go.RowKit Go.Sort

def allR (a : AP) (p : ByteArray) (l : List ByteArray) : List V3 := l.map fun r => ⟨p, a.nm, r⟩
def allQ (a : AP) (l : List ByteArray) : List V3 := l.flatMap fun p => allR a p a.re
def allA (l : List AP) : List V3 := l.flatMap fun a => allQ a a.pr
def sumA (l : List AP) : Nat := (l.map fun a => a.pr.length * a.re.length).sum
theorem allQ_len (a : AP) (l : List ByteArray) : (allQ a l).length = l.length * a.re.length := by
 induction l with
 | nil => simp [allQ]
 | cons p t ih =>
  unfold allQ at ih ⊢
  rw [List.flatMap_cons, List.length_append, ih]
  simp [allR, Nat.succ_mul, Nat.add_comm]
theorem allA_len (l : List AP) : (allA l).length = sumA l := by
 induction l with
 | nil => rfl
 | cons a t ih =>
  unfold allA sumA at ih ⊢
  rw [List.flatMap_cons, List.length_append, ih, allQ_len, List.map_cons, List.sum_cons]
theorem sumA_small {l : List AP} (h : l.length ≤ 15) (ha : ∀ a ∈ l, a.pr.length ≤ 4 ∧ a.re.length ≤ 4) : sumA l ≤ 240 := by
 have : ∀ l : List AP, (∀ a ∈ l, a.pr.length ≤ 4 ∧ a.re.length ≤ 4) → sumA l ≤ l.length * 16 := by
  intro l
  induction l with
  | nil => intro _; simp [sumA]
  | cons a t ih =>
   intro ha
   have h1 := ih (fun b hb => ha b (List.mem_cons_of_mem _ hb))
   have h2 := ha a List.mem_cons_self
   have h3 : a.pr.length * a.re.length ≤ 4 * 4 := Nat.mul_le_mul h2.1 h2.2
   unfold sumA at h1 ⊢
   rw [List.map_cons, List.sum_cons, List.length_cons]
   omega
 have := this l ha
 omega
/-- An element's three cells. -/
theorem RowV3.get {w wr : World} {ao : Option Addr} {l : List V3} (h : RowV3 w ao l) (hbw : Below w.heap.size w wr) {j : Nat} (hj : j < l.length) : ∃ b off, ao = some ⟨b, off, none⟩ ∧ b < w.heap.size ∧ wr.cell? ⟨b, off + j * 3, none⟩ = some (.string l[j].p) ∧ wr.cell? ⟨b, off + j * 3 + 1, none⟩ = some (.string l[j].a) ∧ wr.cell? ⟨b, off + j * 3 + 2, none⟩ = some (.string l[j].r) := by
 obtain ⟨b, off, e, hb, hc⟩ := rowG_at h hbw hj
 exact ⟨b, off, e, hb, hc 0 _ rfl, hc 1 _ rfl, hc 2 _ rfl⟩
theorem RowV3.below {w w' : World} {ao : Option Addr} {l : List V3} (h : RowV3 w ao l) (hb : Below w.heap.size w w') : RowV3 w' ao l := RowG.below h hb
end Go.Proofs.Ytagnbpobcijakaa

namespace Go.Proofs.Ytagnbpobcijakaa
open Go.RowKit Go.Sort

theorem infoV3r : (Try.prog.info? 42).map (fun i => (i.zero, i.size, i.bytes)) = some (some (.agg #[.string ⟨#[]⟩, .string ⟨#[]⟩, .string ⟨#[]⟩]), 3, 48) := by kernel_rfl
set_option maxHeartbeats 16000000 in
set_option maxRecDepth 1000000 in
theorem rEnvs0_any (s : SP) (v : Value) (w : World) (hac : s.ac.length ≤ 100000) (hsm : ∀ a ∈ s.ac, a.pr.length ≤ 100000 ∧ a.re.length ≤ 100000) (hT : (allA s.ac).length ≤ 1000000) (hs : IsS w v s) :
  Calls Try.prog 19 #[v, .agg #[.bool false, .int .i64 0, .string ⟨#[]⟩, .string ⟨#[]⟩, .int .i64 0, .string ⟨#[]⟩, .string ⟨#[]⟩, .int .i64 0, .string ⟨#[]⟩, .string ⟨#[]⟩, .slice none 0 0]] w fun e w' => EnvsPost w (allA s.ac) e w' := by
 obtain ⟨ko, kc, ao, acp, rfl, _, hA⟩ := hs.ex
 obtain ⟨bX, zX, k1, k2⟩ := alloc2 w (.cells #[.slice ko s.ks.length kc, .slice ao s.ac.length acp] 33) (.cells #[.bool false, .int .i64 0, .string ⟨#[]⟩, .string ⟨#[]⟩, .int .i64 0, .string ⟨#[]⟩, .string ⟨#[]⟩, .int .i64 0, .string ⟨#[]⟩, .string ⟨#[]⟩, .slice none 0 0] 67)
 clear zX
 obtain ⟨iT, hiT, hzT0, hzT1, hzT2⟩ := info_parts infoV3r
 obtain ⟨TT, hTT⟩ : ∃ TT, TT = allA s.ac := ⟨_, rfl⟩
 rw [← hTT] at hT ⊢
 have HT := hide (show TT = [] ++ allA (s.ac.drop 0) from hTT)
 have HA := hide hA
 have Hsm := hide hsm
 obtain ⟨na, hna⟩ : ∃ na : Nat, na = s.ac.length := ⟨_, rfl⟩
 have Hna := hide hna
 have hnb : na ≤ 100000 := by rw [hna]; exact hac
 rw [← hna] at k1 k2 bX ⊢
 clear hs hA hTT hsm hac hna
 go_enter Try.func19, Try.ntmps19
 go_upto_region 1 with fail
 generalize (w.alloc _).alloc _ = w1 at *
 go_wp2_with fail
 go_loopw [5, 6] (fun kv iv wr => ∃ (i : Nat) (acc : List V3), iv = .int .i64 i ∧ i ≤ na ∧ Below w1.heap.size w1 wr ∧ wr.ownsRow w1.heap.size 42 3 kv acc.length (acc.map V3.cells).flatten ∧ TT = acc ++ allA (s.ac.drop i)) (fun _ iv _ => na - (intOf iv).toNat)
 case atStart => exact ⟨0, [], by go_num, Nat.zero_le _, Below.refl _ _, ⟨rfl, .inl ⟨rfl, rfl⟩⟩, unhide HT⟩
 case round =>
  rename Value => kv
  obtain ⟨i, acc, rfl, hil, hbw, hown, hty⟩ := hrel
  have Hown := hide hown
  have Hty := hide hty
  clear hown hty
  have b0r := bX.trans (hbw.mono bX.size)
  have k1r := kept_of_below hbw k1
  have k2r := kept_of_below hbw k2
  have cs1 : wr.cell? ⟨w.heap.size, 1, none⟩ = some (.slice ao na acp) := lc_ k1r rfl
  by_cases hlt : i < na
  ·have i0 : (0 : Int) ≤ (i : Int) := by omega
   have i1 : (i : Int) < (na : Int) := by omega
   have hlt' : i < s.ac.length := by rw [← unhide Hna]; exact hlt
   obtain ⟨x, g, off, rfl, hg, hat0, hIA⟩ := (unhide HA).get (Below.refl _ w) hlt'
   obtain ⟨a0, a1, a2⟩ := hat0.below b0r hg
   have hlen := unhide Hsm _ (List.getElem_mem hlt')
   have HD := hide (show TT = acc ++ (allQ s.ac[i] (s.ac[i].pr.drop 0) ++ allA (s.ac.drop (i + 1))) from by
    rw [unhide Hty, List.drop_eq_getElem_cons hlt']
    rfl)
   obtain ⟨R2, hR2⟩ : ∃ R2, R2 = allA (s.ac.drop (i + 1)) := ⟨_, rfl⟩
   rw [← hR2] at HD
   have HR2 := hide hR2
   obtain ⟨A, hAA⟩ : ∃ A, A = s.ac[i] := ⟨_, rfl⟩
   rw [← hAA] at hIA hlen HD
   clear hAA hlt' hat0 hR2 Hty
   obtain ⟨xn, xao, np, xac, xbo, nr, xbc⟩ := x
   obtain ⟨e1, e2, e3, e4, e5⟩ := hIA
   simp only at e1 e2 e3 e4 e5 a0 a1 a2
   subst e1
   have HP := hide e3
   have HRe := hide e5
   have Hnp := hide e2
   have Hnr := hide e4
   have hlp : np ≤ 100000 := by rw [e2]; exact hlen.1
   have hlr : nr ≤ 100000 := by rw [e4]; exact hlen.2
   clear e2 e3 e4 e5 hlen
   have b4 := blw1 wr (.cells #[.string A.nm, .slice xao np xac, .slice xbo nr xbc] 83)
   have h4 := alloc_heap wr (.cells #[.string A.nm, .slice xao np xac, .slice xbo nr xbc] 83)
   have bw4 := hbw.trans (b4.mono hbw.size)
   have k24 := kept_of_below b4 k2r
   have Hown4 := hide (owns_below b4 (unhide Hown))
   clear Hown
   go_upto_region 6 with fail
   generalize wr.alloc _ = w4 at *
   clear a0 a1 a2 cs1
   have cp4 : w4.cell? ⟨w.heap.size + 1, 4, none⟩ = some (.int .i64 0) := lc_ k24 rfl
   go_wp2_with fail
   clear cp4
   go_loopw [5, 8] (fun kv jv wm => ∃ (j : Nat) (acc : List V3), jv = .int .i64 j ∧ j ≤ np ∧ Below w1.heap.size w1 wm ∧ wm.heap[wr.heap.size]? = some (.cells #[.string A.nm, .slice xao np xac, .slice xbo nr xbc] 83 (0, 0)) ∧ wm.ownsRow w1.heap.size 42 3 kv acc.length (acc.map V3.cells).flatten ∧ TT = acc ++ (allQ A (A.pr.drop j) ++ R2)) (fun _ jv _ => np - (intOf jv).toNat)
   case atStart => exact ⟨0, acc, by go_num, Nat.zero_le _, bw4, h4, unhide Hown4, unhide HD⟩
   case round =>
    rename World => wm
    rename Value => kv2
    obtain ⟨j, acc2, rfl, hjl, hbm, hbox, hown2, hty2⟩ := hrel
    have Hown2 := hide hown2
    have Hty2 := hide hty2
    clear hown2 hty2
    have b0m := bX.trans (hbm.mono bX.size)
    have zm : wr.heap.size < wm.heap.size := (Array.getElem?_eq_some_iff.1 hbox).1
    have cb1 : wm.cell? ⟨wr.heap.size, 1, none⟩ = some (.slice xao np xac) := lc_ hbox rfl
    by_cases hjt : j < np
    ·have j0 : (0 : Int) ≤ (j : Int) := by omega
     have j1 : (j : Int) < (np : Int) := by omega
     have hjt' : j < A.pr.length := by rw [← unhide Hnp]; exact hjt
     obtain ⟨g2, off2, rfl, hg2, c2_⟩ := (unhide HP).get b0m hjt'
     clear c2_
     have HD2 := hide (show TT = acc2 ++ (allR A A.pr[j] (A.re.drop 0) ++ (allQ A (A.pr.drop (j + 1)) ++ R2)) from by
      rw [unhide Hty2, List.drop_eq_getElem_cons hjt']
      exact congrArg (acc2 ++ ·) (List.append_assoc (allR A A.pr[j] A.re) (allQ A (A.pr.drop (j + 1))) R2))
     obtain ⟨p_, hp_⟩ : ∃ p_, p_ = A.pr[j] := ⟨_, rfl⟩
     rw [← hp_] at HD2
     have Hpj := hide (show ∀ h : j < A.pr.length, A.pr[j] = p_ from fun _ => hp_.symm)
     obtain ⟨R3, hR3⟩ : ∃ R3, R3 = allQ A (A.pr.drop (j + 1)) ++ R2 := ⟨_, rfl⟩
     rw [← hR3] at HD2
     have HR3 := hide hR3
     clear hp_ Hty2 hjt' hR3
     go_wp2_with fail
     clear cb1
     go_loopw [5, 9] (fun kv jv wi => ∃ (k : Nat) (acc : List V3) (vv : Value), vv = kv ∧ jv = .int .i64 k ∧ k ≤ nr ∧ Below w1.heap.size w1 wi ∧ wi.heap[wr.heap.size]? = some (.cells #[.string A.nm, .slice (some ⟨g2, off2, none⟩) np xac, .slice xbo nr xbc] 83 (0, 0)) ∧ wi.ownsRow w1.heap.size 42 3 kv acc.length (acc.map V3.cells).flatten ∧ TT = acc ++ (allR A p_ (A.re.drop k) ++ R3)) (fun _ jv _ => nr - (intOf jv).toNat)
     case atStart => exact ⟨0, acc2, _, rfl, by go_num, Nat.zero_le _, hbm, hbox, unhide Hown2, unhide HD2⟩
     case round =>
      rename World => wi
      obtain ⟨k, acc3, kv3, rfl, rfl, hkl, hbi, hbox3, hown3, hty3⟩ := hrel
      have Hown3 := hide hown3
      have Hty3 := hide hty3
      clear hown3 hty3
      have b0i := bX.trans (hbi.mono bX.size)
      have k2i := kept_of_below hbi k2
      have zi : wr.heap.size < wi.heap.size := (Array.getElem?_eq_some_iff.1 hbox3).1
      have cb2 : wi.cell? ⟨wr.heap.size, 2, none⟩ = some (.slice xbo nr xbc) := lc_ hbox3 rfl
      by_cases hkt : k < nr
      ·have k0 : (0 : Int) ≤ (k : Int) := by omega
       have k1' : (k : Int) < (nr : Int) := by omega
       have hkt' : k < A.re.length := by rw [← unhide Hnr]; exact hkt
       obtain ⟨g3, off3, rfl, hg3, c3⟩ := (unhide HRe).get b0i hkt'
       have hjt2 : j < A.pr.length := by rw [← unhide Hnp]; exact hjt
       have hpj := unhide Hpj hjt2
       obtain ⟨_, _, e2, hg2', c2⟩ := (unhide HP).get b0i hjt2
       cases e2
       rw [hpj] at c2
       have HD3 := hide (show TT = (acc3 ++ [⟨p_, A.nm, A.re[k]⟩]) ++ (allR A p_ (A.re.drop (k + 1)) ++ R3) from by
        rw [unhide Hty3, List.drop_eq_getElem_cons hkt', List.append_assoc]
        rfl)
       obtain ⟨r_, hr_⟩ : ∃ r_, r_ = A.re[k] := ⟨_, rfl⟩
       rw [← hr_] at HD3 c3
       have hal : acc3.length + 1 ≤ 1000000 := by
        have h1 : (acc3 ++ [(⟨p_, A.nm, r_⟩ : V3)]).length ≤ TT.length := by
         rw [unhide HD3, @List.length_append _ (acc3 ++ [(⟨p_, A.nm, r_⟩ : V3)])]
         exact Nat.le_add_right _ _
        rw [List.length_append, List.length_singleton] at h1
        omega
       clear hr_ Hty3 hkt' hjt2 hpj
       have y1 : wi.cell? ⟨w.heap.size + 1, 1, none⟩ = some (.int .i64 0) := lc_ k2i rfl
       have y7 : wi.cell? ⟨w.heap.size + 1, 7, none⟩ = some (.int .i64 0) := lc_ k2i rfl
       have g1 := cell_regrown y1
       have g7 := cell_regrown y7
       go_upto_region 13 with fail
       clear y1 y7 cb2
       refine wp_region_quiet_below (by kernel_rfl) (by kernel_rfl) ?_
       repeat (first | go_big_quiet_step (fail) | quiet_step (fail))
       refine wpQuiet_nil ?_
       intro _ hw'
       obtain ⟨⟨dq2, osq2⟩, hw''⟩ := hw'
       subst hw''
       have b11 := below_regrown wi dq2 osq2
       generalize grow (redrawn wi dq2) osq2 = w6' at *
       clear g1 g7
       have bw6 := hbi.trans (b11.mono hbi.size)
       have hbox6 := kept_of_below b11 hbox3
       have Hown6 := hide (owns_below b11 (unhide Hown3))
       have hg26 : g2 < w6'.heap.size := by have := b0i.size; have := b11.size; omega
       have hg36 : g3 < w6'.heap.size := by have := b0i.size; have := b11.size; omega
       have cp6 := (b11.cell (p := ⟨g2, off2 + j, none⟩) (show g2 < wi.heap.size by have := b0i.size; omega)).trans c2
       have cr6 := (b11.cell (p := ⟨g3, off3 + k, none⟩) (show g3 < wi.heap.size by have := b0i.size; omega)).trans c3
       clear Hown3 c2 c3
       go_upto_region 14 with fail
       refine wp_specs_put 15 (SpS [.eq (kv3), .eq (.pointer (some ⟨wr.heap.size, 1, none⟩)), .eq (.slice (some ⟨g2, off2, none⟩) np xac), .eq (.int .i64 j), .eq (.pointer (some ⟨g2, off2 + j, none⟩)), .eq (.string p_), .eq (.pointer (some ⟨wr.heap.size, 0, none⟩)), .eq (.string A.nm), .eq (.pointer (some ⟨wr.heap.size, 2, none⟩)), .eq (.slice (some ⟨g3, off3, none⟩) nr xbc), .eq (.int .i64 k), .eq (.pointer (some ⟨g3, off3 + k, none⟩)), .eq (.string r_), .eq (.agg #[.string p_, .string A.nm, .string r_]), .blk (0) (fun b => .slice (some ⟨b, 0, none⟩) 1 1) (.cells #[.string p_, .string A.nm, .string r_] 42 (0, 0))]) (fun w' => Below w6'.heap.size w6' w') (by kernel_rfl) (by kernel_rfl) (Below.refl _ w6').drew ?_ ?_
       ·intro q o hq' ho a' w' hR hdep hslot K hK
        have hb' := kept_of_below hR hbox6
        obtain ⟨x0, x1, x2⟩ := bl3_ hb'
        have xp := (hR.cell (p := ⟨g2, off2 + j, none⟩) hg26).trans cp6
        have xr := (hR.cell (p := ⟨g3, off3 + k, none⟩) hg36).trans cr6
        clear hb'
        have hc : q = 0 ∨ q = 1 ∨ q = 2 ∨ q = 3 ∨ q = 4 ∨ q = 5 ∨ q = 6 ∨ q = 7 ∨ q = 8 ∨ q = 9 ∨ q = 10 ∨ q = 11 ∨ q = 12 ∨ q = 13 ∨ q = 14 := by omega
        rcases hc with rfl | rfl | rfl | rfl | rfl | rfl | rfl | rfl | rfl | rfl | rfl | rfl | rfl | rfl | rfl
        ·cases ho
         have e0 : a'.tmps.getD 5 undef = kv3 := hslot 5 (by decide)
         clear x0 x1 x2 xp xr
         unfold Oper.wp
         go_simp
         exact hK _ _ rfl hR (fun _ _ h => h)
        ·cases ho
         have e0 : a'.tmps.getD 7 undef = .pointer (some ⟨wr.heap.size, 0, none⟩) := hslot 7 (by decide)
         clear x0 x1 x2 xp xr
         unfold Oper.wp
         go_simp
         exact hK _ _ rfl hR (fun _ _ h => h)
        ·cases ho
         have e0 : a'.tmps.getD 84 undef = .pointer (some ⟨wr.heap.size, 1, none⟩) := hdep 1 (by kernel_rfl)
         have e0' := gd_ e0
         clear x0 x2 xp xr
         unfold Oper.wp
         go_simp
         exact hK _ _ rfl hR (fun _ _ h => h)
        ·cases ho
         have e0 : a'.tmps.getD 8 undef = .int .i64 j := hslot 8 (by decide)
         clear x0 x1 x2 xp xr
         unfold Oper.wp
         go_simp
         exact hK _ _ rfl hR (fun _ _ h => h)
        ·cases ho
         have e0 : a'.tmps.getD 85 undef = .slice (some ⟨g2, off2, none⟩) np xac := hdep 2 (by kernel_rfl)
         have e0' := gd_ e0
         have e1 : a'.tmps.getD 86 undef = .int .i64 j := hdep 3 (by kernel_rfl)
         have e1' := gd_ e1
         clear x0 x1 x2 xp xr
         unfold Oper.wp
         go_simp
         exact hK _ _ rfl hR (fun _ _ h => h)
        ·cases ho
         have e0 : a'.tmps.getD 87 undef = .pointer (some ⟨g2, off2 + j, none⟩) := hdep 4 (by kernel_rfl)
         have e0' := gd_ e0
         clear x0 x1 x2 xr
         unfold Oper.wp
         go_simp
         exact hK _ _ rfl hR (fun _ _ h => h)
        ·cases ho
         have e0 : a'.tmps.getD 7 undef = .pointer (some ⟨wr.heap.size, 0, none⟩) := hslot 7 (by decide)
         clear x0 x1 x2 xp xr
         unfold Oper.wp
         go_simp
         exact hK _ _ rfl hR (fun _ _ h => h)
        ·cases ho
         have e0 : a'.tmps.getD 89 undef = .pointer (some ⟨wr.heap.size, 0, none⟩) := hdep 6 (by kernel_rfl)
         have e0' := gd_ e0
         clear x1 x2 xp xr
         unfold Oper.wp
         go_simp
         exact hK _ _ rfl hR (fun _ _ h => h)
        ·cases ho
         have e0 : a'.tmps.getD 7 undef = .pointer (some ⟨wr.heap.size, 0, none⟩) := hslot 7 (by decide)
         clear x0 x1 x2 xp xr
         unfold Oper.wp
         go_simp
         exact hK _ _ rfl hR (fun _ _ h => h)
        ·cases ho
         have e0 : a'.tmps.getD 91 undef = .pointer (some ⟨wr.heap.size, 2, none⟩) := hdep 8 (by kernel_rfl)
         have e0' := gd_ e0
         clear x0 x1 xp xr
         unfold Oper.wp
         go_simp
         exact hK _ _ rfl hR (fun _ _ h => h)
        ·cases ho
         have e0 : a'.tmps.getD 9 undef = .int .i64 k := hslot 9 (by decide)
         clear x0 x1 x2 xp xr
         unfold Oper.wp
         go_simp
         exact hK _ _ rfl hR (fun _ _ h => h)
        ·cases ho
         have e0 : a'.tmps.getD 92 undef = .slice (some ⟨g3, off3, none⟩) nr xbc := hdep 9 (by kernel_rfl)
         have e0' := gd_ e0
         have e1 : a'.tmps.getD 93 undef = .int .i64 k := hdep 10 (by kernel_rfl)
         have e1' := gd_ e1
         clear x0 x1 x2 xp xr
         unfold Oper.wp
         go_simp
         exact hK _ _ rfl hR (fun _ _ h => h)
        ·cases ho
         have e0 : a'.tmps.getD 94 undef = .pointer (some ⟨g3, off3 + k, none⟩) := hdep 11 (by kernel_rfl)
         have e0' := gd_ e0
         clear x0 x1 x2 xp
         unfold Oper.wp
         go_simp
         exact hK _ _ rfl hR (fun _ _ h => h)
        ·cases ho
         have e0 : a'.tmps.getD 88 undef = .string p_ := hdep 5 (by kernel_rfl)
         have e0' := gd_ e0
         have e1 : a'.tmps.getD 90 undef = .string A.nm := hdep 7 (by kernel_rfl)
         have e1' := gd_ e1
         have e2 : a'.tmps.getD 95 undef = .string r_ := hdep 12 (by kernel_rfl)
         have e2' := gd_ e2
         clear x0 x1 x2 xp xr
         unfold Oper.wp
         go_simp
         exact hK _ _ rfl hR (fun _ _ h => h)
        ·cases ho
         have e0 : a'.tmps.getD 96 undef = .agg #[.string p_, .string A.nm, .string r_] := hdep 13 (by kernel_rfl)
         have e0' := gd_ e0
         clear x0 x1 x2 xp xr
         unfold Oper.wp
         go_simp
         exact hK _ _ ⟨w'.heap.size, Nat.zero_le _, rfl, alloc_heap _ _⟩ (hR.alloc hR.size _) (SpS.up (blw1 _ _))
       ·intro v w' hR hall
        have f0 : v 0 = kv3 := hall 0 (by decide)
        have f1 : v 1 = .pointer (some ⟨wr.heap.size, 1, none⟩) := hall 1 (by decide)
        have f2 : v 2 = .slice (some ⟨g2, off2, none⟩) np xac := hall 2 (by decide)
        have f3 : v 3 = .int .i64 j := hall 3 (by decide)
        have f4 : v 4 = .pointer (some ⟨g2, off2 + j, none⟩) := hall 4 (by decide)
        have f5 : v 5 = .string p_ := hall 5 (by decide)
        have f6 : v 6 = .pointer (some ⟨wr.heap.size, 0, none⟩) := hall 6 (by decide)
        have f7 : v 7 = .string A.nm := hall 7 (by decide)
        have f8 : v 8 = .pointer (some ⟨wr.heap.size, 2, none⟩) := hall 8 (by decide)
        have f9 : v 9 = .slice (some ⟨g3, off3, none⟩) nr xbc := hall 9 (by decide)
        have f10 : v 10 = .int .i64 k := hall 10 (by decide)
        have f11 : v 11 = .pointer (some ⟨g3, off3 + k, none⟩) := hall 11 (by decide)
        have f12 : v 12 = .string r_ := hall 12 (by decide)
        have f13 : v 13 = .agg #[.string p_, .string A.nm, .string r_] := hall 13 (by decide)
        obtain ⟨b14, hB14, f14, ho14⟩ : (.blk (0) (fun b => .slice (some ⟨b, 0, none⟩) 1 1) (.cells #[.string p_, .string A.nm, .string r_] 42 (0, 0)) : Sv).sp (v 14) w' := hall 14 (by decide)
        clear hall
        simp only [putAll, dstOf, List.getElem?_cons_zero, List.getElem?_cons_succ, Option.bind_some, List.drop_succ_cons, List.drop_zero, f0, f1, f2, f3, f4, f5, f6, f7, f8, f9, f10, f11, f12, f13, f14]
        clear f0 f1 f2 f3 f4 f5 f6 f7 f8 f9 f10 f11 f12 f13 f14
        simp only [Act.put, List.setIfInBounds_toArray, List.set_cons_succ, List.set_cons_zero]
        have Hown8 := hide (owns_below hR (unhide Hown6))
        have bw8 := bw6.trans (hR.mono bw6.size)
        have hbox8 := kept_of_below hR hbox6
        have z8 := bw8.size
        clear Hown6
        go_wp2_with (at_builtin; refine wpList_append_own_at _ rfl _ _ 71 rfl w1.heap.size 42 iT _ 3 48 Try.underlying71 hiT hzT0 hzT1 hzT2 rfl (by decide) _ _ _ rfl (unhide Hown8) ⟨b14, 0, none⟩ 1 1 [.string p_, .string A.nm, .string r_] rfl rfl ?p1 ?p2 ?p3 ?p4 ?p5 ?_)
        case p1 =>
         intro c u hu
         rw [Addr.add_lit, Nat.zero_add, Lib.cell_of_heap ho14]
         simpa using hu
        case p2 =>
         intro u hu
         simp only [List.mem_cons, List.not_mem_nil, or_false] at hu
         rcases hu with rfl | rfl | rfl <;> rfl
        case p3 => unfold maxLen; omega
        case p4 => omega
        case p5 => exact z8
        intro v9 w9 hown9 hgrow _ _
        have hown9' : w9.ownsRow w1.heap.size 42 3 v9 (acc3 ++ [(⟨p_, A.nm, r_⟩ : V3)]).length ((acc3 ++ [(⟨p_, A.nm, r_⟩ : V3)]).map V3.cells).flatten := by
         rw [List.map_append, List.flatten_append, List.length_append]
         exact hown9
        have bw9 : Below w1.heap.size w1 w9 := bw8.grown hgrow bw8.size (fun j hj => ((unhide Hown8).lt j hj).1)
        have hbox9 : w9.heap[wr.heap.size]? = some (.cells #[.string A.nm, .slice (some ⟨g2, off2, none⟩) np xac, .slice (some ⟨g3, off3, none⟩) nr xbc] 83 (0, 0)) := (hgrow.block _ (Array.getElem?_eq_some_iff.1 hbox8).1 (own_ne (unhide Hown8) hbox8 (by decide))).trans hbox8
        have H9 := hide hown9'
        clear hown9 hown9' hgrow Hown8 hbox8 hbox6 hbox3 ho14
        go_wp2
        go_roundw
        case rel => exact ⟨k + 1, acc3 ++ [⟨p_, A.nm, r_⟩], _, rfl, by go_num, by omega, bw9, hbox9, unhide H9, unhide HD3⟩
        case measure =>
         simp only [intOf]
         omega
      ·have k1' : ¬ (k : Int) < (nr : Int) := by omega
       have HD2 := hide (show TT = acc3 ++ (allQ A (A.pr.drop (j + 1)) ++ R2) from by
        have hn : A.re.length ≤ k := by
         have := unhide Hnr
         omega
        rw [unhide Hty3, List.drop_eq_nil_of_le hn, unhide HR3]
        rfl)
       clear Hty3
       go_wp2
       go_roundw
       case rel => exact ⟨j + 1, acc3, by go_num, by omega, hbi, hbox3, unhide Hown3, unhide HD2⟩
       case measure =>
        simp only [intOf]
        omega
    ·have j1 : ¬ (j : Int) < (np : Int) := by omega
     have HD := hide (show TT = acc2 ++ allA (s.ac.drop (i + 1)) from by
      have hn : A.pr.length ≤ j := by
       have := unhide Hnp
       omega
      rw [unhide Hty2, List.drop_eq_nil_of_le hn, unhide HR2]
      rfl)
     clear Hty2
     go_wp2
     go_roundw
     case rel => exact ⟨i + 1, acc2, by go_num, by omega, hbm, unhide Hown2, unhide HD⟩
     case measure =>
      simp only [intOf]
      omega
  ·have i1 : ¬ (i : Int) < (na : Int) := by omega
   have HE := hide (show TT = acc from by
    have hn : s.ac.length ≤ i := by
     have := unhide Hna
     omega
    rw [unhide Hty, List.drop_eq_nil_of_le hn]
    simp [allA])
   obtain ⟨tlo, tlc, rfl, hrow, _, _⟩ := own_row (f := V3.cells) (fun _ => rfl) (unhide Hown)
   have Hrow := hide hrow
   obtain ⟨nA, hnA⟩ : ∃ nA : Nat, nA = acc.length := ⟨_, rfl⟩
   rw [← hnA]
   have HnA := hide hnA
   clear hrow Hown Hty hnA
   go_wp2
   go_ret
   refine ⟨b0r, tlo, tlc, ?_, ?_⟩
   ·rw [unhide HE, ← unhide HnA]
    rfl
   ·rw [unhide HE]
    exact unhide Hrow
/-- One of the environments, if there are any. -/
def EnvOf (l : List V3) (e : Ending) : Prop := ∃ (E : V3) (is : Bool), e = .returned (.tuple #[.agg #[.string E.p, .string E.a, .string E.r], .bool is]) ∧ ((is = true ∧ E ∈ l) ∨ (is = false ∧ l = []))
set_option maxHeartbeats 4000000 in
set_option maxRecDepth 1000000 in
theorem env11_any (s : SP) (v : Value) (n : Int) (w : World) (hac : s.ac.length ≤ 100000) (hsm : ∀ a ∈ s.ac, a.pr.length ≤ 100000 ∧ a.re.length ≤ 100000) (hT : (allA s.ac).length ≤ 1000000) (hs : IsS w v s) :
  Calls Try.prog 10 #[v, .int .i64 n] w fun e w' => EnvOf (allA s.ac) e ∧ Below w.heap.size w w' := by
 have CE := fun w' (hb : Below w.heap.size w w') => rEnvs0_any s v w' hac hsm hT (hs.below hb)
 obtain ⟨ko, kc, ao, acp, rfl, _, _⟩ := hs.ex
 obtain ⟨bX, zX, k1, k2⟩ := alloc2 w (.cells #[.slice ko s.ks.length kc, .slice ao s.ac.length acp] 33) (.cells #[.string ⟨#[]⟩, .string ⟨#[]⟩, .string ⟨#[]⟩] 42)
 obtain ⟨TT, hTT⟩ : ∃ TT, TT = allA s.ac := ⟨_, rfl⟩
 unfold EnvsPost at CE
 rw [← hTT] at CE hT ⊢
 obtain ⟨nl, hnl⟩ : ∃ nl : Nat, nl = TT.length := ⟨_, rfl⟩
 rw [← hnl] at CE
 have Hnl := hide hnl
 have nlb : nl ≤ 1000000 := by rw [hnl]; exact hT
 clear hs hTT hac hsm hnl hT zX
 go_enter Try.func10, Try.ntmps10
 go_upto_region 1 with fail
 generalize (w.alloc _).alloc _ = w1 at *
 obtain ⟨cs0, cs1⟩ := bl2_ k1
 have C := CE w1 bX
 go_wp2_with fail
 refine C.mono ?_
 clear C CE cs0 cs1
 rintro e9 w3 ⟨b3, lo, cap, rfl, hrow⟩
 have HR := hide hrow
 have b03 := bX.trans (b3.mono bX.size)
 have k23 := kept_of_below b3 k2
 clear hrow
 by_cases hn0 : nl = 0
 ·subst hn0
  have HN := hide (show TT = [] from List.eq_nil_of_length_eq_zero (unhide Hnl).symm)
  obtain ⟨z0, z1, z2⟩ := bl3_ k23
  have zf : ∀ o, w3.frozen? ⟨w.heap.size + 1, o, none⟩ = false := fun o => Lib.frozen_of_heap k23 o
  have HQ := hide (set3_all (.string ⟨#[]⟩) (.string ⟨#[]⟩) (.string ⟨#[]⟩) k23 b03 (Nat.le_succ _))
  go_wp2
  obtain ⟨q0, q1, q2, qb⟩ := unhide HQ
  exact bodyPost_ret (v := .tuple #[.agg #[.string ⟨#[]⟩, .string ⟨#[]⟩, .string ⟨#[]⟩], .bool false]) (by simp [results, Try.results10, go_sem, q0, q1, q2]) rfl ⟨⟨⟨⟨#[]⟩, ⟨#[]⟩, ⟨#[]⟩⟩, false, rfl, .inr ⟨rfl, unhide HN⟩⟩, qb⟩
 ·have gn : ((nl : Int) == 0) = false := by
   have : ¬ (nl : Int) = 0 := by omega
   simpa using this
  have CW := fun w' => within11_any n (nl : Int) (by omega) (by omega) w'
  obtain ⟨m, hm⟩ : ∃ m : Nat, (m : Int) = n % (nl : Int) := ⟨(n % (nl : Int)).toNat, by have := Int.emod_nonneg n (show (nl : Int) ≠ 0 by omega); omega⟩
  have hml : m < nl := by have := Int.emod_lt_of_pos n (show (0 : Int) < (nl : Int) by omega); omega
  rw [← hm] at CW
  have m0 : (0 : Int) ≤ (m : Int) := by omega
  have m1 : (m : Int) < (nl : Int) := by omega
  have hml' : m < TT.length := by rw [← unhide Hnl]; exact hml
  obtain ⟨g, off, rfl, hg, c0, c1, c2⟩ := (unhide HR).get (Below.refl _ w3) hml'
  have HM := hide (show TT[m] ∈ TT from List.getElem_mem hml')
  obtain ⟨E, hE⟩ : ∃ E, E = TT[m] := ⟨_, rfl⟩
  rw [← hE] at c0 c1 c2 HM
  clear hE hm hml'
  go_wp2_with fail
  refine (CW _).mono ?_
  rintro e9 w9 ⟨rfl, hw9⟩
  have hw9 := hw9.symm
  subst hw9
  clear CW
  obtain ⟨z0, z1, z2⟩ := bl3_ k23
  have zf : ∀ o, w3.frozen? ⟨w.heap.size + 1, o, none⟩ = false := fun o => Lib.frozen_of_heap k23 o
  have HQ := hide (set3_all (.string E.p) (.string E.a) (.string E.r) k23 b03 (Nat.le_succ _))
  go_wp2
  obtain ⟨q0, q1, q2, qb⟩ := unhide HQ
  exact bodyPost_ret (v := .tuple #[.agg #[.string E.p, .string E.a, .string E.r], .bool true]) (by simp [results, Try.results10, go_sem, q0, q1, q2]) rfl ⟨⟨E, true, rfl, .inl ⟨rfl, unhide HM⟩⟩, qb⟩
end Go.Proofs.Ytagnbpobcijakaa

namespace Go.Proofs.Ytagnbpobcijakaa
open Go.RowKit Go.Sort

theorem pickKs_last (n : ByteArray) (ks : List KP) : ∀ acc : List KP, lastB (acc.getLast?.map KP.nm) n = true → pickKs n ks acc = acc := by
 unfold pickKs
 induction ks with
 | nil => intro acc _; rfl
 | cons k t ih =>
  intro acc h
  rw [List.foldl_cons]
  have e : pickK n acc k = acc := by
   unfold pickK pickB
   rw [h]
   simp
  rw [e]
  exact ih acc h
theorem pickKs_one (n : ByteArray) (ks : List KP) : ∀ acc : List KP, pickKs n ks acc = acc ∨ ∃ k, k.nm = n ∧ pickKs n ks acc = acc ++ [k] := by
 induction ks with
 | nil => intro acc; exact .inl rfl
 | cons k t ih =>
  intro acc
  have e : pickKs n (k :: t) acc = pickKs n t (pickK n acc k) := rfl
  rw [e]
  cases hb : pickB n acc k
  ·have e2 : pickK n acc k = acc := by unfold pickK; rw [hb]; rfl
   rw [e2]
   exact ih acc
  ·have e2 : pickK n acc k = acc ++ [k] := by unfold pickK; rw [hb]; rfl
   have hn : k.nm = n := by
    unfold pickB at hb
    simp only [Bool.and_eq_true, decide_eq_true_eq] at hb
    exact hb.1
   rw [e2, pickKs_last n t (acc ++ [k]) (by simp [lastB, hn])]
   exact .inr ⟨k, hn, rfl⟩
theorem good1_sub (ks : List KP) : ∀ (l : List ByteArray) (acc : List KP), ((l.foldl (fun acc n => pickKs n ks acc) acc).map KP.nm).Sublist (acc.map KP.nm ++ l) := by
 intro l
 induction l with
 | nil => intro acc; simp
 | cons n t ih =>
  intro acc
  rw [List.foldl_cons]
  refine (ih _).trans ?_
  rcases pickKs_one n ks acc with h | ⟨k, hk, h⟩
  ·rw [h]
   exact List.Sublist.append (List.Sublist.refl _) (List.sublist_cons_self n t)
  ·rw [h, List.map_append, List.append_assoc]
   have : [k].map KP.nm ++ t = n :: t := by rw [← hk]; rfl
   rw [this]
   exact List.Sublist.refl _
theorem good_names (X : SP) : ((goodS X).ks.map KP.nm).Sublist names4 := by
 have h := good1_sub X.ks names4 []
 have e : (goodS X).ks.map KP.nm = (good1 X.ks names4).map KP.nm := by
  unfold goodS
  rw [List.map_map]
  rfl
 rw [e]
 exact h
theorem names4_nodup : names4.Nodup := by decide
theorem good_nodup (X : SP) : ((goodS X).ks.map KP.nm).Nodup := (good_names X).nodup names4_nodup
theorem act_names4 : sAction ∉ names4 := by
 intro h
 unfold names4 at h
 simp only [List.mem_cons, List.not_mem_nil, or_false] at h
 rcases h with h | h | h | h <;> exact absurd h (by decide)
theorem good_noAction (X : SP) : noneB (goodS X).names sAction = true := noneB_true fun h => absurd ((good_names X).subset h) act_names4
theorem good_notAction (X : SP) (j : Nat) (h : j < (goodS X).ks.length) : (goodS X).ks[j].nm ≠ sAction := fun e => by
 have hm : (goodS X).ks[j].nm ∈ (goodS X).ks.map KP.nm := List.mem_map.2 ⟨_, List.getElem_mem h, rfl⟩
 rw [e] at hm
 exact absurd ((good_names X).subset hm) act_names4
theorem good_kOf (X : SP) (j : Nat) (h : j < (goodS X).ks.length) : kOf (goodS X) (goodS X).ks[j].nm = (goodS X).ks[j] := by
 unfold kOf
 rw [find_first KP.nm _ (goodS X).ks j h rfl (fun i hi hij e => by
  have hp := good_nodup X
  rw [List.nodup_iff_pairwise_ne, List.pairwise_iff_getElem] at hp
  have := hp i j (by simpa using hi) (by simpa using h) hij
  simp only [List.getElem_map] at this
  exact this e)]
 rfl
theorem good_named (X : SP) (j : Nat) (h : j < (goodS X).ks.length) : noneB (goodS X).names (goodS X).ks[j].nm = false := noneB_false (List.mem_map.2 ⟨_, List.getElem_mem h, rfl⟩)
theorem ba_back (n : ByteArray) : ba n.data.toList = n := by
 unfold ba
 cases n
 simp
section
variable (X : SP) (p r : ByteArray) (j : Nat) (h : j < (goodS X).ks.length) (sx : List UInt8)
def uidZ (n : ByteArray) : Ex := .mk 4 false 0 [] n.data.toList [122] []
include h
omit h
end
end Go.Proofs.Ytagnbpobcijakaa
