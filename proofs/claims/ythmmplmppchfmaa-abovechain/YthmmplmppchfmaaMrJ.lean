/-
  sort.pdqsort_func over a short row: what it does.
-/
import Derived.Test.YthmmplmppchfmaaMrB
import Derived.Test.YthmmplmppchfmaaMrC
import Derived.Test.YthmmplmppchfmaaMrE
import Derived.Test.YthmmplmppchfmaaMrFG
import Derived.Test.YthmmplmppchfmaaMrHI
import Derived.Sort.AssemblyPlain
import Derived.Sort.LotD3
namespace Go.Proofs.Ythmmplmppchfmaa
open Go.RowKit Go.Sort

/-- Whatever sorts the part from a' to b' of dk, sorts the whole. -/
def ContP (a b : Nat) (d : Array U2) (a' b' : Nat) (dk : Array U2) : Prop := ∀ R, PermIn a' b' dk R → SortedIn lessU a' b' R → PermIn a b d R ∧ SortedIn lessU a b R
theorem ContP.perm {a b a' b' : Nat} {d dk d1 : Array U2} (h : ContP a b d a' b' dk) (hp : PermIn a' b' dk d1) : ContP a b d a' b' d1 := fun R h1 h2 => h R (permIn_trans _ _ _ _ _ hp h1) h2
theorem ContP.next {a b a' b' a2 b2 : Nat} {d dk d4 : Array U2} (h : ContP a b d a' b' dk) (h2 : ∀ R, PermIn a2 b2 d4 R → SortedIn lessU a2 b2 R → PermIn a' b' dk R ∧ SortedIn lessU a' b' R) : ContP a b d a2 b2 d4 := fun R h3 h4 => h R (h2 R h3 h4).1 (h2 R h3 h4).2
theorem below_perm {a b : Nat} {d d' : Array U2} (h : Go.Sort.Below lessU a b d) (hb : b ≤ d.size) (hp : PermIn a b d d') : Go.Sort.Below lessU a b d' := Go.Sort.Below.perm h hb hp

set_option maxHeartbeats 16000000 in
set_option maxRecDepth 1000000 in
theorem sortPdq_any {w : World} {B V g cap n : Nat} {th : Value} (hth : th = typeHandle Try.prog 28) (hsz : n ≤ 49) : ∀ (N : Nat) (W : World) (d : Array U2) (a b lim : Nat), b - a < N → SR w B V g cap d W → d.size = n → a ≤ b → b ≤ n → lim ≤ 1000 → Go.Sort.Below lessU a b d →
    Calls Try.prog 43 #[.agg #[lessV V, swapV th g n cap], .int .i64 a, .int .i64 b, .int .i64 lim] W fun e W' => ∃ d', PermIn a b d d' ∧ SortedIn lessU a b d' ∧ Sorts w W B V g cap n d' e W' := by
  intro N
  induction N with
  | zero => intro _ _ _ _ _ h; exact absurd h (Nat.not_lt_zero _)
  | succ N ih =>
    intro W d a b lim hN h hn hab hb hlim hBel
    have h1 := SB.new (th := th) h hn
    have INS := fun (W' : World) (d' : Array U2) (h : SR w B V g cap d' W') (hn : d'.size = n) (a b : Nat) (hab : a ≤ b) (hb : b ≤ n) => sortIns2_any hth h hn a b hab hb (by omega)
    have HEAP := fun (W' : World) (d' : Array U2) (h : SR w B V g cap d' W') (hn : d'.size = n) (a b : Nat) (hab : a < b) (hb : b ≤ n) => sortHeap_any hth h hn a b hab hb (by omega)
    have BRK := fun (W' : World) (d' : Array U2) (h : SR w B V g cap d' W') (hn : d'.size = n) (a b : Nat) (hab : a + 13 ≤ b) (hb : b ≤ n) => sortBreak_any hth h hn a b hab hb hsz
    have REV := fun (W' : World) (d' : Array U2) (h : SR w B V g cap d' W') (hn : d'.size = n) (a b : Nat) (hab : a < b) (hb : b ≤ n) => sortRev_any hth h hn a b hab hb (by omega)
    have PIV := fun (W' : World) (d' : Array U2) (h : SR w B V g cap d' W') (hn : d'.size = n) (a b : Nat) (hab : a + 8 ≤ b) (hb : b ≤ n) => sortPivot_any (th := th) h hn a b hab hb hsz
    have PRT := fun (W' : World) (d' : Array U2) (h : SR w B V g cap d' W') (hn : d'.size = n) (a b : Nat) (hab : a < b) (hb : b ≤ n) => sortPartial_any (th := th) h hn a b hab hb hsz
    have PEQ := fun (W' : World) (d' : Array U2) (h : SR w B V g cap d' W') (hn : d'.size = n) (a b p : Nat) (h1 : a ≤ p) (h2 : p < b) (hb : b ≤ n) => sortPartEq_any hth h hn a b p h1 h2 hb (by omega)
    have PAR := fun (W' : World) (d' : Array U2) (h : SR w B V g cap d' W') (hn : d'.size = n) (a b p : Nat) (h1 : a ≤ p) (h2 : p < b) (hb : b ≤ n) => sortPart_any hth h hn a b p h1 h2 hb (by omega)
    have hC0 : ContP a b d a b d := fun R h1 h2 => ⟨h1, h2⟩
    clear h hn hth
    unfold lessV swapV at *
    have HC0 := hide (And.intro hC0 (And.intro hBel h1))
    clear hC0 hBel h1
    obtain ⟨X, hX⟩ : ∃ X, X = W.heap.size := ⟨_, rfl⟩
    go_enter Try.func43, Try.ntmps43
    go_wp2
    rw [← hX] at HC0 ⊢
    generalize W.alloc _ = W1 at *
    clear hX
    go_loopw [1, 2, 3, 8, 9] (fun v1 v2 v3 v8 v9 wr => ∃ (a' b' lim' : Nat) (wb wp : Bool) (dk : Array U2), v1 = .int .i64 a' ∧ v2 = .int .i64 b' ∧ v3 = .int .i64 lim' ∧ v8 = .bool wb ∧ v9 = .bool wp ∧ a ≤ a' ∧ a' ≤ b' ∧ b' ≤ b ∧ lim' ≤ 1000 ∧ Go.Sort.Below lessU a' b' dk ∧ SB w W wr B V g cap n X th dk ∧ ContP a b d a' b' dk) (fun v1 v2 _ _ _ _ => (intOf v2).toNat - (intOf v1).toNat)
    case atStart => exact ⟨a, b, lim, true, true, d, rfl, rfl, rfl, rfl, rfl, Nat.le_refl _, hab, Nat.le_refl _, hlim, (unhide HC0).2.1, (unhide HC0).2.2, (unhide HC0).1⟩
    case round =>
      clear HC0
      obtain ⟨a', b', lim', wb, wp, dk, rfl, rfl, rfl, rfl, rfl, ha1, hab', hb1, hl1, hBel, hS, hC⟩ := hrel
      have HC := hide hC
      have HB := hide hBel
      have hdk := hS.hn
      have hbn : b' ≤ n := by omega
      clear hC hBel
      obtain ⟨L, hL⟩ : ∃ L, L = b' - a' := ⟨_, rfl⟩
      have eL : (b' : Int) - (a' : Int) = (L : Int) := by omega
      have HL := hide hL
      clear hL
      have c0 := hS.c0
      have c1 := hS.c1
      by_cases h12 : L ≤ 12
      · have q1 : (L : Int) ≤ 12 := by omega
        have IN := INS wr dk hS.sr hS.hn a' b' hab' hbn
        have HS := hide hS
        clear hS
        go_wp2_with fail
        refine IN.mono ?_
        clear IN c0 c1
        rintro _ w9 ⟨rfl, hn9, hS9, hk9⟩
        have HF := hide (show ∃ d', PermIn a b d d' ∧ SortedIn lessU a b d' ∧ d'.size = n ∧ SR w B V g cap d' w9 ∧ KP g W w9 from by
          have h := insertionSort_holds (lt := lessU) swo_lessU dk a' b' hab' (by omega)
          have h2 := unhide HC _ h.1 h.2
          exact ⟨_, h2.1, h2.2, hn9, hS9, (unhide HS).kp.trans hk9⟩)
        clear hn9 hS9 hk9 HS
        go_wp2
        (try simp only [Exit.inBlock, Exit.then])
        refine bodyPost_ret (v := .tuple #[]) (by simp [results, Try.results43, go_sem]) rfl ?_
        obtain ⟨d', f1, f2, f3⟩ := unhide HF
        exact ⟨d', f1, f2, rfl, f3⟩
      · have q1 : ¬ (L : Int) ≤ 12 := by omega
        have hL13 : a' + 13 ≤ b' := by have := unhide HL; omega
        by_cases hl0 : lim' = 0
        · have q2 : ((lim' : Int) == 0) = true := by rw [hl0]; rfl
          have IN := HEAP wr dk hS.sr hS.hn a' b' (by omega) hbn
          have HS := hide hS
          clear hS hl0
          go_wp2_with fail
          refine IN.mono ?_
          clear IN c0 c1
          rintro _ w9 ⟨rfl, hn9, hS9, hk9⟩
          have HF := hide (show ∃ d', PermIn a b d d' ∧ SortedIn lessU a b d' ∧ d'.size = n ∧ SR w B V g cap d' w9 ∧ KP g W w9 from by
            have h := heapSort_holds (lt := lessU) swo_lessU dk a' b' hab' (by omega)
            have h2 := unhide HC _ h.1 h.2
            exact ⟨_, h2.1, h2.2, hn9, hS9, (unhide HS).kp.trans hk9⟩)
          clear hn9 hS9 hk9 HS
          go_wp2
          (try simp only [Exit.inBlock, Exit.then])
          refine bodyPost_ret (v := .tuple #[]) (by simp [results, Try.results43, go_sem]) rfl ?_
          obtain ⟨d', f1, f2, f3⟩ := unhide HF
          exact ⟨d', f1, f2, rfl, f3⟩
        · have q2 : ((lim' : Int) == 0) = false := by simp; omega
          go_upto_if 35 with fail
          go_cut [3] from 19 to 129 (fun v3 wx => ∃ (lim1 : Nat) (d1 : Array U2), v3 = .int .i64 lim1 ∧ lim1 ≤ 1000 ∧ SB w W wx B V g cap n X th d1 ∧ PermIn a' b' dk d1)
          case first =>
            cases wb
            · have BK := BRK wr dk hS.sr hS.hn a' b' hL13 hbn
              go_wp2_with fail
              refine BK.mono ?_
              clear BK c0 c1
              rintro _ w9 ⟨d1, hp9, rfl, hn9, hS9, hk9⟩
              have HS9 := hide (hS.call hS9 hn9 hk9)
              clear hS hS9 hn9 hk9
              go_wp2_with fail
              go_meet
              case rel => exact ⟨lim' - 1, d1, by congr 1; omega, by omega, unhide HS9, hp9⟩
            · have HS9 := hide hS
              clear hS c0 c1
              go_wp2_with fail
              go_meet
              case rel => exact ⟨lim', dk, rfl, hl1, unhide HS9, permIn_refl _ _ _⟩
          case rest =>
            rename World => wx
            clear c0 c1 hS q2 hl0
            obtain ⟨lim1, d1, rfl, hlim1, hS, hp1⟩ := hcut
            have HP1 := hide hp1
            have PV := PIV wx d1 hS.sr hS.hn a' b' (by omega) hbn
            have c0 := hS.c0
            have c1 := hS.c1
            have HS := hide hS
            clear hS hp1
            go_wp2_with fail
            refine PV.mono ?_
            clear PV c0 c1
            rintro _ w2 ⟨p, t, rfl, hpa, hpb, ht, hS2, hk2⟩
            have hS := (unhide HS).call hS2 (unhide HS).hn hk2
            clear HS hS2 hk2
            go_upto_if 50 with fail
            go_cut [11, 12] from 19 to 129 (fun v11 v12 wx => ∃ (p : Nat) (t : Int) (d2 : Array U2), v11 = .int .i64 p ∧ v12 = .int .i64 t ∧ a' ≤ p ∧ p < b' ∧ SB w W wx B V g cap n X th d2 ∧ PermIn a' b' dk d2)
            case first =>
              by_cases t2 : t = 2
              · have q3 : (t == 2) = true := by rw [t2]; rfl
                have RV := REV w2 d1 hS.sr hS.hn a' b' (by omega) hbn
                have c0 := hS.c0
                have c1 := hS.c1
                have HR := hide (show PermIn a' b' dk (reverseRange d1 a' b') from permIn_trans _ _ _ _ _ (unhide HP1) (reverseRange_holds d1 a' b' hab' (by rw [hS.hn]; exact hbn)))
                have HS := hide hS
                clear hS t2
                go_wp2_with fail
                refine RV.mono ?_
                clear RV c0 c1
                rintro _ w9 ⟨rfl, hn9, hS9, hk9⟩
                have HS9 := hide ((unhide HS).call hS9 hn9 hk9)
                clear HS hS9 hn9 hk9
                go_wp2_with fail
                go_meet
                case rel => exact ⟨b' - 1 - (p - a'), 1, _, by congr 1; omega, rfl, by omega, by omega, unhide HS9, unhide HR⟩
              · have q3 : (t == 2) = false := by simpa using t2
                have HS := hide hS
                clear hS t2
                go_wp2_with fail
                go_meet
                case rel => exact ⟨p, t, d1, rfl, rfl, hpa, hpb, unhide HS, unhide HP1⟩
            case rest =>
              clear hS hpa hpb ht HP1
              clear p t
              rename World => wx2
              obtain ⟨p, t, d2, rfl, rfl, hpa, hpb, hS, hp2⟩ := hcut
              have HP2 := hide hp2
              have HS := hide hS
              clear hS hp2
              obtain ⟨y, hy⟩ : ∃ y, y = (wb && wp && decide (t = 1)) := ⟨_, rfl⟩
              have HY := hide hy
              clear hy
              go_upto_region 16 with fail
              go_cut [68] from 19 to 129 (fun c wx3 => c = .bool y ∧ wx3 = wx2)
              case first =>
                cases wb
                · go_wp2_with fail
                  go_meet
                  case rel => exact ⟨by rw [unhide HY]; rfl, rfl⟩
                · cases wp
                  · go_wp2_with fail
                    go_meet
                    case rel => exact ⟨by rw [unhide HY]; rfl, rfl⟩
                  · by_cases t1 : t = 1
                    · have q4 : (t == 1) = true := by rw [t1]; rfl
                      have HY1 := hide (show y = true by rw [unhide HY, t1]; rfl)
                      clear t1 HY
                      go_wp2_with fail
                      go_meet
                      case rel => exact ⟨by rw [unhide HY1], rfl⟩
                    · have q4 : (t == 1) = false := by simpa using t1
                      have HY1 := hide (show y = false by rw [unhide HY, decide_eq_false t1]; rfl)
                      clear t1 HY
                      go_wp2_with fail
                      go_meet
                      case rel => exact ⟨by rw [unhide HY1], rfl⟩
              case rest =>
                rename World => wx3
                obtain ⟨rfl, hwx⟩ := hcut
                rw [hwx]
                clear hwx wx3 HY
                go_upto_if 68 with fail
                go_cut [] from 19 to 129 (fun wx3 => SB w W wx3 B V g cap n X th d2)
                case first =>
                  cases y
                  · go_wp2_with fail
                    go_meet
                    case rel => exact unhide HS
                  · have PT := PRT wx2 d2 (unhide HS).sr (unhide HS).hn a' b' (by omega) hbn
                    have c0 := (unhide HS).c0
                    have c1 := (unhide HS).c1
                    go_wp2_with fail
                    refine PT.mono ?_
                    clear PT c0 c1
                    rintro _ w9 ⟨z, rfl, hz, hS9, hk9⟩
                    have HS9 := hide ((unhide HS).call hS9 (unhide HS).hn hk9)
                    have HZ := hide hz
                    clear HS hS9 hk9 hz
                    cases z
                    · go_wp2_with fail
                      go_meet
                      case rel => exact unhide HS9
                    · go_wp2
                      (try simp only [Exit.inBlock, Exit.then])
                      refine bodyPost_ret (v := .tuple #[]) (by simp [results, Try.results43, go_sem]) rfl ?_
                      have h2 := (unhide HC).perm (unhide HP2) _ (permIn_refl _ _ _) (unhide HZ (by trivial))
                      exact ⟨d2, h2.1, h2.2, rfl, (unhide HS9).hn, (unhide HS9).sr, (unhide HS9).kp⟩
                case rest =>
                  rename World => wx3
                  clear HS
                  have hS : SB w W wx3 B V g cap n X th d2 := hcut
                  clear hcut
                  have hB2 := below_perm (unhide HB) (by rw [hdk]; exact hbn) (unhide HP2)
                  have HB2 := hide hB2
                  have HC2 := hide ((unhide HC).perm (unhide HP2))
                  clear hB2 HB HC HP2 hdk
                  obtain ⟨z, hz⟩ : ∃ z, z = (decide (0 < a') && !lessU d2[a' - 1]! d2[p]!) := ⟨_, rfl⟩
                  have HZ := hide hz
                  clear hz
                  go_upto_region 18 with fail
                  go_cut [83] from 19 to 129 (fun c wx4 => c = .bool z ∧ SB w W wx4 B V g cap n X th d2)
                  case first =>
                    by_cases h0 : 0 < a'
                    · have q5 : (0 : Int) < (a' : Int) := by omega
                      have hl := hS.less (i := a' - 1) (j := p) (by omega) (by omega)
                      rw [show (((a' - 1 : Nat) : Int)) = (a' : Int) - 1 by omega] at hl
                      obtain ⟨y2, hy2⟩ : ∃ y, y = lessU d2[a' - 1]! d2[p]! := ⟨_, rfl⟩
                      rw [← hy2] at hl
                      have HY := hide hy2
                      have c0 := hS.c0
                      clear hy2 hS
                      go_wp2_with fail
                      refine hl.mono ?_
                      clear hl c0
                      rintro _ w8 ⟨rfl, hS, _⟩
                      go_wp2_with fail
                      go_meet
                      case rel => exact ⟨by rw [unhide HZ, ← unhide HY, decide_eq_true h0]; rfl, hS⟩
                    · have q5 : ¬ (0 : Int) < (a' : Int) := by omega
                      go_wp2_with fail
                      go_meet
                      case rel => exact ⟨by rw [unhide HZ, decide_eq_false h0]; rfl, hS⟩
                  case rest =>
                    clear hS
                    rename World => wx4
                    obtain ⟨rfl, hS⟩ := hcut
                    have hd2 := hS.hn
                    have c0 := hS.c0
                    have c1 := hS.c1
                    cases z
                    · have PA := PAR wx4 d2 hS.sr hS.hn a' b' p hpa hpb hbn
                      have RP := round_part (lt := lessU) swo_lessU (partition_holds lessU) (d3 := d2) (a := a') (b := b') (pivot := p) hpa hpb (by omega) (unhide HB2) (mid := (partition lessU d2 a' b' p).1) (ap := (partition lessU d2 a' b' p).2.1) (d4 := (partition lessU d2 a' b' p).2.2) rfl
                      generalize (partition lessU d2 a' b' p).1 = mid at *
                      generalize (partition lessU d2 a' b' p).2.1 = ap at *
                      generalize (partition lessU d2 a' b' p).2.2 = d4 at *
                      obtain ⟨m1, m2, m3, m4, m5, m6, m7⟩ := RP
                      have HM := hide (And.intro m4 (And.intro m5 (And.intro m6 m7)))
                      have HS := hide hS
                      clear hS m3 m4 m5 m6 m7
                      go_wp2_with fail
                      refine PA.mono ?_
                      clear PA c0 c1
                      rintro _ w9 ⟨rfl, hn9, hS9, hk9⟩
                      have hS := (unhide HS).call hS9 hn9 hk9
                      clear HS hS9 hn9 hk9
                      have c0 := hS.c0
                      have c1 := hS.c1
                      obtain ⟨ll, hll⟩ : ∃ ll, ll = mid - a' := ⟨_, rfl⟩
                      obtain ⟨rl, hrl⟩ : ∃ rl, rl = b' - mid := ⟨_, rfl⟩
                      have e1 : (mid : Int) - (a' : Int) = (ll : Int) := by omega
                      have e2 : (b' : Int) - (mid : Int) = (rl : Int) := by omega
                      clear hll hrl hd2
                      by_cases hlr : ll < rl
                      · have q7 : (ll : Int) < (rl : Int) := by omega
                        have hM := unhide HM
                        have IH := ih w9 d4 a' mid lim1 (by omega) hS.sr hS.hn (by omega) (by omega) hlim1 hM.1
                        clear hM
                        have HS := hide hS
                        clear hS
                        go_wp2_with fail
                        refine IH.mono ?_
                        clear IH c0 c1
                        rintro _ w10 ⟨d5, hp5, hs5, rfl, hn5, hS5, hk5⟩
                        have hR := (unhide HM).2.2.1 d5 hp5 hs5
                        have HF := hide (And.intro hR.1 (And.intro ((unhide HS).call hS5 hn5 hk5) ((unhide HC2).next hR.2)))
                        clear hR hp5 hs5 hn5 hS5 hk5 HS HM
                        go_wp2
                        go_roundw
                        case rel => exact ⟨mid + 1, b', lim1, _, ap, d5, by go_num, rfl, rfl, rfl, rfl, by omega, by omega, by omega, hlim1, unhide HF⟩
                        case measure =>
                          simp only [intOf]
                          omega
                      · have q7 : ¬ (ll : Int) < (rl : Int) := by omega
                        have hM := unhide HM
                        have IH := ih w9 d4 (mid + 1) b' lim1 (by omega) hS.sr hS.hn (by omega) (by omega) hlim1 hM.2.1
                        rw [show (((mid + 1 : Nat)) : Int) = (mid : Int) + 1 by omega] at IH
                        clear hM
                        have HS := hide hS
                        clear hS
                        go_wp2_with fail
                        refine IH.mono ?_
                        clear IH c0 c1
                        rintro _ w10 ⟨d5, hp5, hs5, rfl, hn5, hS5, hk5⟩
                        have hR := (unhide HM).2.2.2 d5 hp5 hs5
                        have HF := hide (And.intro hR.1 (And.intro ((unhide HS).call hS5 hn5 hk5) ((unhide HC2).next hR.2)))
                        clear hR hp5 hs5 hn5 hS5 hk5 HS HM
                        go_wp2
                        go_roundw
                        case rel => exact ⟨a', mid, lim1, _, ap, d5, rfl, rfl, rfl, rfl, rfl, by omega, by omega, by omega, hlim1, unhide HF⟩
                        case measure =>
                          simp only [intOf]
                          omega
                    · have hz2 := Bool.and_eq_true_iff.1 (unhide HZ).symm
                      have h0 := of_decide_eq_true hz2.1
                      have hnl : lessU d2[a' - 1]! d2[p]! = false := by simpa using hz2.2
                      have PE := PEQ wx4 d2 hS.sr hS.hn a' b' p hpa hpb hbn
                      have RP := round_eq (lt := lessU) swo_lessU (partitionEqual_holds lessU) (d3 := d2) (a := a') (b := b') (pivot := p) h0 hpa hpb (by omega) (unhide HB2) hnl (mid := (partitionEqual lessU d2 a' b' p).1) (d4 := (partitionEqual lessU d2 a' b' p).2) rfl
                      generalize (partitionEqual lessU d2 a' b' p).1 = mid at *
                      generalize (partitionEqual lessU d2 a' b' p).2 = d4 at *
                      obtain ⟨m1, m2, m3, m4, m5⟩ := RP
                      have HM := hide (And.intro m4 m5)
                      have HS := hide hS
                      clear hS m3 m4 m5 hnl hz2 hd2
                      go_wp2_with fail
                      refine PE.mono ?_
                      clear PE c0 c1
                      rintro _ w9 ⟨rfl, hn9, hS9, hk9⟩
                      have HF := hide (And.intro (unhide HM).1 (And.intro ((unhide HS).call hS9 hn9 hk9) ((unhide HC2).next (unhide HM).2)))
                      clear HS hS9 hn9 hk9 HM
                      go_wp2
                      go_roundw
                      case rel => exact ⟨mid, b', lim1, wb, wp, d4, rfl, rfl, rfl, rfl, rfl, by omega, m2, hb1, hlim1, unhide HF⟩
                      case measure =>
                        simp only [intOf]
                        omega
end Go.Proofs.Ythmmplmppchfmaa
