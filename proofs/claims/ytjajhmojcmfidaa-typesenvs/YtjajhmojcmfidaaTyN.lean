/-
  chancellaw11.TypesEnvs: the walk.
-/
import Derived.Test.YtjajhmojcmfidaaTyP
import Derived.Test.YtjajhmojcmfidaaRwAL
import Derived.BigGuardPart
namespace Go.Proofs.Ytjajhmojcmfidaa
open Go.RowKit Go.Sort

set_option maxHeartbeats 16000000 in
set_option maxRecDepth 1000000 in
theorem envs_walk (ks : List LK) (as_ : List LA) (ko ao : Option Addr) (kc ac : Nat) (n : Int) (xs : List Int) (xo : Option Addr) (xc : Nat) (w : World) (hk : IsLKs w ko ks) (ha : IsLAs w ao as_) (hkp : ∀ j (h : j < ks.length), ks[j].ps.length ≤ 9223372036854775807 ∧ ks[j].fs.length ≤ 9223372036854775807) (hap : ∀ j (h : j < as_.length), as_[j].p.length ≤ 9223372036854775807 ∧ as_[j].r.length ≤ 9223372036854775807) (hxl : xs.length ≤ 9223372036854775807) (hxc : xs.length ≤ xc) (hxi : IntsAt w xo xs) :
    Calls Try.prog 6 #[.slice ko ks.length kc, .slice ao as_.length ac, .int .i64 n, .slice xo xs.length xc] w fun e w' => e = .returned (.bool true) ∧ Below w.heap.size w w' := by
  have C0 := known11_any w
  have CG := fun w' (hb : Below w.heap.size w w') => good_any ks as_ ko ao kc ac w' (lks_below hk hb) (las_below ha hb) hkp hap
  have CU := fun w' (hb : Below w.heap.size w w') => uid5_any n xs xo xc w' hxl hxc (hxi.below hb)
  have hfew := few_good (tiny_schema ks as_)
  clear hk ha hkp hap hxl hxc hxi
  generalize goodS (schemaS ks as_) = G at *
  generalize ba (tyI5 n) = ut at *
  generalize ba (idt5 xs) = ui at *
  go_enter Try.func6, Try.ntmps6
  go_wp2_with fail
  refine C0.mono ?_
  clear C0
  rintro e9 w1 ⟨rfl, b1⟩
  have CG := CG w1 b1
  go_wp2_with fail
  refine CG.mono ?_
  clear CG
  rintro e9 w2 ⟨b2, v, rfl, hST⟩
  have hS := hST.is
  clear hST
  obtain ⟨sko, skc, sao, sac, rfl, hKs, hAs⟩ := hS.ex
  have HS := hide hS
  have HAs := hide hAs
  clear hS hKs hAs
  obtain ⟨na, hna⟩ : ∃ na : Nat, na = G.ac.length := ⟨_, rfl⟩
  have Hna := hide hna
  have na15 : na ≤ 15 := by rw [hna]; exact hfew.ac
  rw [← hna]
  clear hna
  have bs := blw1 w2 (.cells #[.slice sko G.ks.length skc, .slice sao na sac] 33)
  have HBs := alloc_heap w2 (.cells #[.slice sko G.ks.length skc, .slice sao na sac] 33)
  have b02 := b1.trans (b2.mono b1.size)
  have b03 := b02.trans (bs.mono b02.size)
  have HFA := hide (show ∀ a ∈ G.ac, a.pr.length ≤ 4 ∧ a.re.length ≤ 4 from fun a ha => by have := hfew.a a ha; omega)
  have hac : G.ac.length ≤ 100000 := by have := unhide Hna; omega
  have hsm : ∀ a ∈ G.ac, a.pr.length ≤ 100000 ∧ a.re.length ≤ 100000 := fun a ha => by have := unhide HFA a ha; omega
  have hsum := sumA_small (l := G.ac) (by have := unhide Hna; omega) (unhide HFA)
  have hlenA := allA_len G.ac
  obtain ⟨AL, hAL⟩ : ∃ AL, AL = allA G.ac := ⟨_, rfl⟩
  have eq0 : envsP (⟨0, ⟨#[]⟩, 0, ⟨#[]⟩, ⟨#[]⟩, 0, ⟨#[]⟩⟩ : Q7) G = AL := by rw [hAL]; exact envs_all (by decide) (by decide) rfl G
  have eq2 : envsP (⟨2, ut, 0, ⟨#[]⟩, ⟨#[]⟩, 2, ut⟩ : Q7) G = AL := by rw [hAL]; exact envs_all (show (2 : Int) ≠ 1 by decide) (show (2 : Int) ≠ 1 by decide) rfl G
  have eq1 : envsP (⟨1, ut, 0, ⟨#[]⟩, ⟨#[]⟩, 0, ⟨#[]⟩⟩ : Q7) G = AL.filter fun v => decide (ut = v.p) := by rw [hAL]; exact envs_some rfl (show (0 : Int) ≠ 1 by decide) rfl G
  rw [← hAL] at hlenA
  have hAl : AL.length ≤ 240 := by omega
  have CE0 := fun w' (hb : Below w2.heap.size w2 w') => yEnvs_any G _ false 0 ⟨#[]⟩ ⟨#[]⟩ 0 ⟨#[]⟩ ⟨#[]⟩ 0 ⟨#[]⟩ ⟨#[]⟩ none 0 0 w' hac hsm (by rw [eq0]; omega) ((unhide HS).below hb)
  have CE2 := fun w' (hb : Below w2.heap.size w2 w') => yEnvs_any G _ false 2 ut ui 0 ⟨#[]⟩ ⟨#[]⟩ 2 ut ui none 0 0 w' hac hsm (by rw [eq2]; omega) ((unhide HS).below hb)
  have CE1 := fun w' (hb : Below w2.heap.size w2 w') => yEnvs_any G _ false 1 ut ui 0 ⟨#[]⟩ ⟨#[]⟩ 0 ⟨#[]⟩ ⟨#[]⟩ none 0 0 w' hac hsm (by rw [eq1]; have := List.length_filter_le (fun v : V3 => decide (ut = v.p)) AL; omega) ((unhide HS).below hb)
  rw [eq0] at CE0
  rw [eq2] at CE2
  rw [eq1] at CE1
  obtain ⟨nl, hnl⟩ : ∃ nl : Nat, nl = AL.length := ⟨_, rfl⟩
  have Hnl := hide hnl
  have nl240 : nl ≤ 240 := by omega
  have HlenA := hide (show nl = sumA G.ac by rw [hnl]; exact hlenA)
  clear hAL eq0 eq1 eq2 hlenA hac hsm hAl hnl
  go_upto_region 4 with fail
  generalize w2.alloc _ = w3 at *
  have ms0 : w3.cell? ⟨w2.heap.size, 0, none⟩ = some (.slice sko G.ks.length skc) := by rw [Lib.cell_of_heap HBs]; rfl
  have ms1 : w3.cell? ⟨w2.heap.size, 1, none⟩ = some (.slice sao na sac) := by rw [Lib.cell_of_heap HBs]; rfl
  have C := CE0 w3 bs
  unfold EnvsPost at C
  rw [← unhide Hna, ← unhide Hnl] at C
  go_wp2_with fail
  refine C.mono ?_
  clear C CE0
  rintro e9 w4 ⟨b4, lo0, cap0, rfl, hrow0⟩
  have HR0 := hide hrow0
  have bs4 := bs.trans (b4.mono bs.size)
  have b04 := b03.trans (b4.mono b03.size)
  have HB4 := kept_of_below b4 HBs
  clear ms0 ms1 hrow0 HBs
  go_upto_block 0 with fail
  go_cut [11] from 26 (fun s11 wc => s11 = .int .i64 (nl : Nat) ∧ Below w4.heap.size w4 wc)
  case first =>
    go_wp2_with fail
    go_loopw [11, 12] (fun kv iv wr => ∃ i : Nat, kv = .int .i64 (sumA (G.ac.take i) : Nat) ∧ iv = .int .i64 i ∧ i ≤ na ∧ Below w4.heap.size w4 wr) (fun _ iv _ => na - (intOf iv).toNat)
    case atStart => exact ⟨0, rfl, by go_num, Nat.zero_le _, Below.refl _ _⟩
    case round =>
      obtain ⟨i, rfl, rfl, hil, hbr⟩ := hrel
      have HBr := kept_of_below hbr HB4
      have ms1 : wr.cell? ⟨w2.heap.size, 1, none⟩ = some (.slice sao na sac) := by rw [Lib.cell_of_heap HBr]; rfl
      by_cases hlt : i < na
      · have i0 : (0 : Int) ≤ (i : Int) := by omega
        have i1 : (i : Int) < (na : Int) := by omega
        have hlt' : i < G.ac.length := by rw [← unhide Hna]; exact hlt
        have b2r := bs4.trans (hbr.mono bs4.size)
        obtain ⟨x, g, off, rfl, hg, ⟨a0, a1, a2⟩, hIA⟩ := (unhide HAs).get b2r hlt'
        have hfa := unhide HFA _ (List.getElem_mem hlt')
        have HN := hide (sumA_next G.ac i hlt')
        have hle : sumA (G.ac.take i) ≤ 240 := sumA_small (by rw [List.length_take]; have := unhide Hna; omega) (fun a ha => unhide HFA a (List.mem_of_mem_take ha))
        obtain ⟨xn, xao, xal, xac, xbo, xbl, xbc⟩ := x
        obtain ⟨e1, e2, e3, e4, e5⟩ := hIA
        simp only at e1 e2 e3 e4 e5 a0 a1 a2
        rw [← e2, ← e4] at hfa HN
        clear e1 e2 e3 e4 e5 hlt'
        obtain ⟨M, hM⟩ : ∃ M : Nat, M = xal * xbl := ⟨_, rfl⟩
        have hM16 : M ≤ 4 * 4 := by rw [hM]; exact Nat.mul_le_mul hfa.1 hfa.2
        obtain ⟨K, hK⟩ : ∃ K : Nat, K = sumA (G.ac.take i) := ⟨_, rfl⟩
        rw [← hK] at hle HN ⊢
        rw [← hM] at HN
        have wM : IntKind.i64.wrap ((xal : Int) * (xbl : Int)) = (M : Int) := by
          rw [hM]
          have h1 : ((xal : Int) * (xbl : Int)) = ((xal * xbl : Nat) : Int) := by simp
          rw [h1]
          have h2 : xal * xbl ≤ 4 * 4 := by rw [← hM]; exact hM16
          generalize xal * xbl = q at *
          simp [IntKind.wrap, IntKind.signed, IntKind.bits]
          omega
        have wK : IntKind.i64.wrap ((K : Int) + (M : Int)) = ((K + M : Nat) : Int) := by
          simp [IntKind.wrap, IntKind.signed, IntKind.bits]
          omega
        clear hK hM hfa
        have g1 := cell_regrown ms1
        have g2 := cell_regrown a1
        have g3 := cell_regrown a2
        go_upto_region 9 with fail
        clear ms1 a0 a1 a2
        refine wp_region_quiet_below (by kernel_rfl) (by kernel_rfl) ?_
        repeat (first | go_big_quiet_step (fail) | quiet_step (fail))
        refine wpQuiet_nil ?_
        intro _ hw'
        obtain ⟨⟨dq2, osq2⟩, hw''⟩ := hw'
        subst hw''
        have b11 := below_regrown wr dq2 osq2
        generalize grow (redrawn wr dq2) osq2 = w6' at *
        clear g1 g2 g3 wM wK
        have bw6 := hbr.trans (b11.mono hbr.size)
        go_wp2
        go_roundw
        case rel => exact ⟨i + 1, by rw [unhide HN]; simp, by go_num, by omega, bw6⟩
        case measure =>
          simp only [intOf]
          omega
      · have i1 : ¬ (i : Int) < (na : Int) := by omega
        have HT := hide (show sumA (G.ac.take i) = nl from by
          rw [List.take_of_length_le (by have := unhide Hna; omega)]
          exact (unhide HlenA).symm)
        go_wp2_with fail
        go_meet
        case rel => exact ⟨by rw [unhide HT], hbr⟩
  case rest =>
    rename World => wA
    obtain ⟨e11, bA⟩ := hcut
    subst e11
    have b0A := b04.trans (bA.mono b04.size)
    have bsA := bs4.trans (bA.mono bs4.size)
    have CU := CU wA b0A
    go_wp2_with fail
    refine CU.mono ?_
    clear CU
    rintro e9 w5 ⟨rfl, b5⟩
    have b6 := blw1 w5 (.cells #[.string ut, .string ui] 36)
    have h6 := alloc_heap w5 (.cells #[.string ut, .string ui] 36)
    have B6 := b5.trans (b6.mono b5.size)
    have bA6 := bA.trans (B6.mono bA.size)
    have bs6 := bsA.trans (B6.mono bsA.size)
    have b06 := b0A.trans (B6.mono b0A.size)
    go_upto_region 11 with fail
    generalize w5.alloc _ = w6 at *
    have HB6 := kept_of_below bA6 HB4
    have ms0 : w6.cell? ⟨w2.heap.size, 0, none⟩ = some (.slice sko G.ks.length skc) := by rw [Lib.cell_of_heap HB6]; rfl
    have ms1 : w6.cell? ⟨w2.heap.size, 1, none⟩ = some (.slice sao na sac) := by rw [Lib.cell_of_heap HB6]; rfl
    have mu0 : w6.cell? ⟨w5.heap.size, 0, none⟩ = some (.string ut) := by rw [Lib.cell_of_heap h6]; rfl
    have mu1 : w6.cell? ⟨w5.heap.size, 1, none⟩ = some (.string ui) := by rw [Lib.cell_of_heap h6]; rfl
    have C := CE2 w6 bs6
    unfold EnvsPost at C
    rw [← unhide Hna, ← unhide Hnl] at C
    go_wp2_with fail
    refine C.mono ?_
    clear C CE2 ms0 ms1 mu0 mu1
    rintro e9 w7 ⟨b7, lo2, cap2, rfl, _⟩
    have bA7 := bA6.trans (b7.mono bA6.size)
    have bs7 := bs6.trans (b7.mono bs6.size)
    have b07 := b06.trans (b7.mono b06.size)
    have HB7 := kept_of_below b7 HB6
    have h7 := kept_of_below b7 h6
    have ms0 : w7.cell? ⟨w2.heap.size, 0, none⟩ = some (.slice sko G.ks.length skc) := by rw [Lib.cell_of_heap HB7]; rfl
    have ms1 : w7.cell? ⟨w2.heap.size, 1, none⟩ = some (.slice sao na sac) := by rw [Lib.cell_of_heap HB7]; rfl
    have mu0 : w7.cell? ⟨w5.heap.size, 0, none⟩ = some (.string ut) := by rw [Lib.cell_of_heap h7]; rfl
    have mu1 : w7.cell? ⟨w5.heap.size, 1, none⟩ = some (.string ui) := by rw [Lib.cell_of_heap h7]; rfl
    have C := CE1 w7 bs7
    unfold EnvsPost at C
    rw [← unhide Hna] at C
    obtain ⟨SM, hSM⟩ : ∃ SM, SM = AL.filter fun v => decide (ut = v.p) := ⟨_, rfl⟩
    rw [← hSM] at C
    have HSM := hide hSM
    obtain ⟨ns, hns⟩ : ∃ ns : Nat, ns = SM.length := ⟨_, rfl⟩
    rw [← hns] at C
    have Hns := hide hns
    clear hSM hns
    go_wp2_with fail
    refine C.mono ?_
    clear C CE1 ms0 ms1 mu0 mu1
    rintro e9 w8 ⟨b8, lo1, cap1, rfl, hrow1⟩
    have HR1 := hide hrow1
    clear hrow1
    have bA8 := bA7.trans (b8.mono bA7.size)
    have b08 := b07.trans (b8.mono b07.size)
    have h8 := kept_of_below b8 h7
    go_upto_block 2 with fail
    go_cut [16] from 65 (fun s16 wc => s16 = .int .i64 (ns : Nat) ∧ Below w8.heap.size w8 wc)
    case first =>
      go_wp2_with fail
      go_loopw [16, 17] (fun mv iv wr => ∃ i : Nat, mv = .int .i64 (((AL.take i).filter fun v => decide (ut = v.p)).length : Nat) ∧ iv = .int .i64 i ∧ i ≤ nl ∧ Below w8.heap.size w8 wr) (fun _ iv _ => nl - (intOf iv).toNat)
      case atStart => exact ⟨0, rfl, by go_num, Nat.zero_le _, Below.refl _ _⟩
      case round =>
        obtain ⟨i, rfl, rfl, hil, hbr⟩ := hrel
        by_cases hlt : i < nl
        · have i0 : (0 : Int) ≤ (i : Int) := by omega
          have i1 : (i : Int) < (nl : Int) := by omega
          have hlt' : i < AL.length := by rw [← unhide Hnl]; exact hlt
          have bAr := bA8.trans (hbr.mono bA8.size)
          obtain ⟨g, off, rfl, hg, a0, a1, a2⟩ := (unhide HR0).get bAr hlt'
          have hur := kept_of_below hbr h8
          have HN := hide (filter_next (fun v : V3 => decide (ut = v.p)) AL i hlt')
          have HF := hide (filter_at (fun v : V3 => decide (ut = v.p)) AL i hlt')
          obtain ⟨m, hm⟩ : ∃ m : Nat, m = ((AL.take i).filter fun v => decide (ut = v.p)).length := ⟨_, rfl⟩
          have hm240 : m ≤ 240 := by
            rw [hm]
            have h1 := List.length_filter_le (fun v : V3 => decide (ut = v.p)) (AL.take i)
            have h2 := List.length_take_le i AL
            have h3 := unhide Hnl
            have h4 : (AL.take i).length ≤ AL.length := List.length_take_le' i AL
            omega
          rw [← hm]
          obtain ⟨E, hE⟩ : ∃ E, E = AL[i] := ⟨_, rfl⟩
          rw [← hE] at a0 a1 a2 HN HF
          obtain ⟨z, hz⟩ : ∃ z, (E.p.toList == ut.toList) = z := ⟨_, rfl⟩
          have hz' : decide (ut = E.p) = z := by
            rw [← hz, ← beq_bytesS]
            by_cases h : ut = E.p
            · rw [decide_eq_true h, decide_eq_true h.symm]
            · rw [decide_eq_false h, decide_eq_false (fun x => h x.symm)]
          have HN := hide (show ((AL.take (i + 1)).filter fun v => decide (ut = v.p)).length = m + (if z then 1 else 0) from by
            rw [unhide HN, List.length_append, ← hm, hz']
            cases z <;> rfl)
          have HF := hide (show z = true → ∃ hm : m < SM.length, SM[m] = E from fun h => by
            obtain ⟨h1, h2⟩ := unhide HF (by rw [hz', h])
            have e := unhide HSM
            subst e
            refine ⟨by rw [hm]; exact h1, ?_⟩
            rw [← h2]
            congr 1)
          clear hz' hE hm hlt'
          have mu0 : wr.cell? ⟨w5.heap.size, 0, none⟩ = some (.string ut) := by rw [Lib.cell_of_heap hur]; rfl
          have g1 := cell_regrown mu0
          have g2 := cell_regrown a0
          go_upto_region 17 with fail
          clear mu0
          refine wp_region_quiet_below (by kernel_rfl) (by kernel_rfl) ?_
          repeat (first | go_big_quiet_step (fail) | quiet_step (fail))
          refine wpQuiet_nil ?_
          intro _ hw'
          obtain ⟨⟨dq2, osq2⟩, hw''⟩ := hw'
          subst hw''
          have b11 := below_regrown wr dq2 osq2
          generalize grow (redrawn wr dq2) osq2 = w6' at *
          clear g1 g2
          have bw6 := hbr.trans (b11.mono hbr.size)
          cases z
          · have HN := hide ((unhide HN).trans (show _ = m from rfl))
            go_wp2
            go_roundw
            case rel => exact ⟨i + 1, by rw [unhide HN], by go_num, by omega, bw6⟩
            case measure =>
              simp only [intOf]
              omega
          · have HN := hide ((unhide HN).trans (show _ = m + 1 from rfl))
            obtain ⟨hmS, hSm⟩ := unhide HF rfl
            have hms : m < ns := by rw [unhide Hns]; exact hmS
            have bA6' := bA8.trans (bw6.mono bA8.size)
            have a0' := (b11.cell (p := ⟨g, off + i * 3, none⟩) (show g < wr.heap.size by have := bAr.size; omega)).trans a0
            have a1' := (b11.cell (p := ⟨g, off + i * 3 + 1, none⟩) (show g < wr.heap.size by have := bAr.size; omega)).trans a1
            have a2' := (b11.cell (p := ⟨g, off + i * 3 + 2, none⟩) (show g < wr.heap.size by have := bAr.size; omega)).trans a2
            obtain ⟨g', off', rfl, hg', c0, c1, c2⟩ := (unhide HR1).get bw6 hmS
            rw [hSm] at c0 c1 c2
            have BN := binNeqV3 E E
            rw [decide_eq_true rfl] at BN
            simp only [Bool.not_true] at BN
            have m0 : (0 : Int) ≤ (m : Int) := by omega
            have m1 : (m : Int) < (ns : Int) := by omega
            have m2 : ¬ (ns : Int) ≤ (m : Int) := by omega
            have g1 := cell_regrown a0'
            have g2 := cell_regrown a1'
            have g3 := cell_regrown a2'
            have g4 := cell_regrown c0
            have g5 := cell_regrown c1
            have g6 := cell_regrown c2
            clear hSm a0 a1 a2 a0' a1' a2' c0 c1 c2 hmS HF
            go_upto_region 18 with fail
            refine wp_region_quiet_below (by kernel_rfl) (by kernel_rfl) ?_
            repeat (first | go_big_quiet_step (fail) | quiet_step (fail))
            refine wpQuiet_nil ?_
            intro _ hw'
            obtain ⟨⟨dq2, osq2⟩, hw''⟩ := hw'
            subst hw''
            have b11 := below_regrown w6' dq2 osq2
            generalize grow (redrawn w6' dq2) osq2 = w7' at *
            clear g1 g2 g3 g4 g5 g6
            have bw7 := bw6.trans (b11.mono bw6.size)
            go_wp2
            go_roundw
            case rel => exact ⟨i + 1, by rw [unhide HN]; rfl, by go_num, by omega, bw7⟩
            case measure =>
              simp only [intOf]
              omega
        · have i1 : ¬ (i : Int) < (nl : Int) := by omega
          have HT := hide (show ((AL.take i).filter fun v => decide (ut = v.p)).length = ns from by
            rw [List.take_of_length_le (by have := unhide Hnl; omega), ← unhide HSM]
            exact (unhide Hns).symm)
          go_wp2_with fail
          go_meet
          case rel => exact ⟨by rw [unhide HT], hbr⟩
    case rest =>
      rename World => wB
      obtain ⟨e16, bB⟩ := hcut
      subst e16
      have b0B := b08.trans (bB.mono b08.size)
      have q1 : ((nl : Int) == (nl : Int)) = true := by simp
      have q2 : ((ns : Int) == (ns : Int)) = true := by simp
      go_wp2
      go_ret
      exact ⟨rfl, b0B⟩
end Go.Proofs.Ytjajhmojcmfidaa
