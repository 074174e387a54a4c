/-
  sort.partition_func: what it does.
-/
import Derived.Test.YthmmplmppchfmaaMrA
import Derived.Sort.LotC
import Derived.Deep.CutRange
namespace Go.Proofs.Ythmmplmppchfmaa
open Go.RowKit Go.Sort

theorem scanUp_on (p : U2 → Bool) (d : Array U2) (j i : Nat) (h : (decide (i ≤ j) && p d[i]!) = true) : scanUp p d j i = scanUp p d j (i + 1) := by
  rw [scanUp, if_pos h]
theorem scanUp_off (p : U2 → Bool) (d : Array U2) (j i : Nat) (h : (decide (i ≤ j) && p d[i]!) = false) : scanUp p d j i = i := by
  rw [scanUp, if_neg (by rw [h]; decide)]
theorem scanDown_on (p : U2 → Bool) (d : Array U2) (i j : Nat) (h : (decide (i ≤ j) && p d[j]!) = true) (hj : 0 < j) : scanDown p d i j = scanDown p d i (j - 1) := by
  obtain ⟨k, rfl⟩ : ∃ k, j = k + 1 := ⟨j - 1, by omega⟩
  rw [scanDown, if_pos h]
  rfl
theorem scanDown_off (p : U2 → Bool) (d : Array U2) (i j : Nat) (h : (decide (i ≤ j) && p d[j]!) = false) : scanDown p d i j = j := by
  cases j with
  | zero => rw [scanDown]
  | succ k => rw [scanDown, if_neg (by rw [h]; decide)]
set_option maxHeartbeats 8000000 in
set_option maxRecDepth 1000000 in
theorem sortPart_any {w W : World} {B V g cap n : Nat} {d : Array U2} {th : Value} (hth : th = typeHandle Try.prog 28) (h : SR w B V g cap d W) (hn : d.size = n) (a b pv : Nat) (hap : a ≤ pv) (hpb : pv < b) (hb : b ≤ n) (hsz : n ≤ 1000000) :
    Calls Try.prog 67 #[.agg #[lessV V, swapV th g n cap], .int .i64 a, .int .i64 b, .int .i64 pv] W fun e W' => e = .returned (.tuple #[.int .i64 (partition lessU d a b pv).1, .bool (partition lessU d a b pv).2.1]) ∧ (partition lessU d a b pv).2.2.size = n ∧ SR w B V g cap (partition lessU d a b pv).2.2 W' ∧ KP g W W' := by
  have h1 := SB.new (th := th) h hn
  have HTH := hide hth
  clear h hth hn
  unfold lessV swapV at *
  obtain ⟨X, hX⟩ : ∃ X, X = W.heap.size := ⟨_, rfl⟩
  obtain ⟨w5, hs, hS5⟩ := h1.swapRun (unhide HTH) (i := a) (j := pv) (by omega) (by omega)
  have c1 := h1.c1
  have HS := hide hS5
  rw [← hX] at HS
  obtain ⟨d1, hd1⟩ : ∃ d1, d1 = swp d a pv := ⟨_, rfl⟩
  rw [← hd1] at HS
  have HD1 := hide hd1
  clear hS5 h1 hd1
  obtain ⟨J, hJ⟩ : ∃ J, J = b - 1 := ⟨_, rfl⟩
  have hJb : (b : Int) - 1 = (J : Int) := by omega
  have hJn : J < n := by omega
  have haJ : a ≤ J := by omega
  have HJ := hide hJ
  clear hJ
  go_enter Try.func67, Try.ntmps67
  go_upto_region 2 with fail
  rw [← hX]
  clear hX hs c1
  go_wp2
  go_loopw [10] (fun v wr2 => ∃ i : Nat, v = .int .i64 i ∧ 1 ≤ i ∧ i ≤ n ∧ SB w W wr2 B V g cap n X th d1 ∧ scanUp (fun x => lessU x d1[a]!) d1 J i = scanUp (fun x => lessU x d1[a]!) d1 J (a + 1)) (fun v _ => J + 1 - (intOf v).toNat)
  case atStart => exact ⟨(a + 1), rfl, by omega, by omega, unhide HS, rfl⟩
  case round =>
    rename World => wr2
    clear HS
    obtain ⟨i, rfl, hi1, hi2, hS, hE⟩ := hrel
    have HE := hide hE
    clear hE
    obtain ⟨z, hz⟩ : ∃ z, z = (decide (i ≤ J) && lessU d1[i]! d1[a]!) := ⟨_, rfl⟩
    have HZ := hide hz
    clear hz
    have hSc := hS
    have hij0 : z = true → i ≤ J := fun h => by
      have := unhide HZ
      rw [h] at this
      exact of_decide_eq_true (Bool.and_eq_true_iff.1 this.symm).1
    have HIJ := hide hij0
    clear hij0
    go_upto_region 3 with fail
    go_cut [30] from 21 to 32 (fun c wx => c = .bool z ∧ SB w W wx B V g cap n X th d1)
    case first =>
      clear hSc
      by_cases hij : i ≤ J
      · have q5 : (i : Int) ≤ (J : Int) := by omega
        have hl := hS.less (i := i) (j := a) (by omega) (by omega)
        obtain ⟨y, hy⟩ : ∃ y, y = lessU d1[i]! d1[a]! := ⟨_, rfl⟩
        rw [← hy] at hl
        have HY := hide hy
        have c0 := hS.c0
        clear hy hS
        go_wp2_with fail
        refine hl.mono ?_
        clear hl c0
        rintro _ w8 ⟨rfl, hS, _⟩
        go_wp2_with fail
        go_meet
        case rel => exact ⟨by rw [unhide HZ, ← unhide HY, decide_eq_true hij]; rfl, hS⟩
      · have q5 : ¬ (i : Int) ≤ (J : Int) := by omega
        go_wp2_with fail
        go_meet
        case rel => exact ⟨by rw [unhide HZ, decide_eq_false hij]; rfl, hS⟩
    case rest =>
      clear hS
      rename World => wx
      obtain ⟨rfl, hS⟩ := hcut
      clear hSc
      have HS := hide hS
      clear hS
      cases z
      · have HO := hide (scanUp_off (fun x => lessU x d1[a]!) d1 J i (unhide HZ).symm)
        have HE2 := hide ((unhide HO).symm.trans (unhide HE))
        clear HO HE HZ HIJ
        have HUP1 := hide (unhide HE2)
        clear HE2
        go_wp2_with fail
        go_loopw [11] (fun v wr2 => ∃ j : Nat, v = .int .i64 j ∧ j < n ∧ SB w W wr2 B V g cap n X th d1 ∧ scanDown (fun x => !lessU x d1[a]!) d1 i j = scanDown (fun x => !lessU x d1[a]!) d1 i J) (fun v _ => (intOf v).toNat)
        case atStart => exact ⟨J, rfl, by omega, unhide HS, rfl⟩
        case round =>
          rename World => wr2
          clear HS
          obtain ⟨j, rfl, hj1, hS, hE⟩ := hrel
          have HE := hide hE
          clear hE
          obtain ⟨z, hz⟩ : ∃ z, z = (decide (i ≤ j) && !lessU d1[j]! d1[a]!) := ⟨_, rfl⟩
          have HZ := hide hz
          clear hz
          have hSc := hS
          have hij0 : z = true → i ≤ j := fun h => by
            have := unhide HZ
            rw [h] at this
            exact of_decide_eq_true (Bool.and_eq_true_iff.1 this.symm).1
          have HIJ := hide hij0
          clear hij0
          go_upto_region 5 with fail
          go_cut [43] from 33 to 45 (fun c wx => c = .bool z ∧ SB w W wx B V g cap n X th d1)
          case first =>
            clear hSc
            by_cases hij : i ≤ j
            · have q5 : (i : Int) ≤ (j : Int) := by omega
              have hl := hS.less (i := j) (j := a) (by omega) (by omega)
              obtain ⟨y, hy⟩ : ∃ y, y = lessU d1[j]! d1[a]! := ⟨_, rfl⟩
              rw [← hy] at hl
              have HY := hide hy
              have c0 := hS.c0
              clear hy hS
              go_wp2_with fail
              refine hl.mono ?_
              clear hl c0
              rintro _ w8 ⟨rfl, hS, _⟩
              go_wp2_with fail
              go_meet
              case rel => exact ⟨by rw [unhide HZ, ← unhide HY, decide_eq_true hij]; rfl, hS⟩
            · have q5 : ¬ (i : Int) ≤ (j : Int) := by omega
              go_wp2_with fail
              go_meet
              case rel => exact ⟨by rw [unhide HZ, decide_eq_false hij]; rfl, hS⟩
          case rest =>
            clear hS
            rename World => wx
            obtain ⟨rfl, hS⟩ := hcut
            clear hSc
            have HS := hide hS
            clear hS
            cases z
            · have HO := hide (scanDown_off (fun x => !lessU x d1[a]!) d1 i j (unhide HZ).symm)
              have HE2 := hide ((unhide HO).symm.trans (unhide HE))
              clear HO HE HZ HIJ
              obtain ⟨i1, hi1e⟩ : ∃ i1, i1 = i := ⟨_, rfl⟩
              subst hi1e
              obtain ⟨j1, hj1e⟩ : ∃ j1, j1 = j := ⟨_, rfl⟩
              subst hj1e
              by_cases hgt : j1 < i1
              · have q7 : (j1 : Int) < (i1 : Int) := by omega
                obtain ⟨w7, hs, hS7⟩ := (unhide HS).swapRun (unhide HTH) (i := j1) (j := a) (by omega) (by omega)
                have c1 := (unhide HS).c1
                have HS7 := hide hS7
                clear hS7 HS
                have HR := hide (show partition lessU d a b pv = (j1, true, swp d1 j1 a) by
                  unfold partition
                  rw [← unhide HD1, ← unhide HJ]
                  simp only
                  rw [← unhide HUP1, ← unhide HE2, if_pos hgt])
                go_wp2
                refine bodyPost_ret (v := .tuple #[.int .i64 (j1 : Nat), .bool true]) (by simp [results, Try.results67, go_sem]) rfl ?_
                exact ⟨by rw [unhide HR], by rw [unhide HR]; exact (unhide HS7).hn, by rw [unhide HR]; exact (unhide HS7).sr, (unhide HS7).kp⟩
              · have q7 : ¬ (j1 : Int) < (i1 : Int) := by omega
                have HPT := hide (show partition lessU d a b pv = ((partLoop lessU a (i1 + 1) (j1 - 1) (swp d1 i1 j1)).1, false, swp (partLoop lessU a (i1 + 1) (j1 - 1) (swp d1 i1 j1)).2 (partLoop lessU a (i1 + 1) (j1 - 1) (swp d1 i1 j1)).1 a) by
                  unfold partition
                  rw [← unhide HD1, ← unhide HJ]
                  simp only
                  rw [← unhide HUP1, ← unhide HE2, if_neg hgt])
                clear HE2 HUP1
                obtain ⟨w7, hs, hS7⟩ := (unhide HS).swapRun (unhide HTH) (i := i1) (j := j1) (by omega) (by omega)
                have c1 := (unhide HS).c1
                have HS7 := hide hS7
                clear hS7 HS
                go_wp2
                go_loopw [10, 11] (fun vi vj wr3 => ∃ (i j : Nat) (dk : Array U2), vi = .int .i64 i ∧ vj = .int .i64 j ∧ 1 ≤ i ∧ i ≤ n ∧ j < n ∧ SB w W wr3 B V g cap n X th dk ∧ partLoop lessU a i j dk = partLoop lessU a (i1 + 1) (j1 - 1) (swp d1 i1 j1)) (fun vi vj _ => (intOf vj).toNat + 1 - (intOf vi).toNat)
                case atStart => exact ⟨i1 + 1, j1 - 1, _, by go_num, by congr 1; omega, by omega, by omega, by omega, unhide HS7, rfl⟩
                case round =>
                  rename World => wr3
                  clear HS7
                  obtain ⟨i0, j0, dk, rfl, rfl, hi01, hi0n, hj0n, hS, hE3⟩ := hrel
                  have HE3 := hide hE3
                  have HS := hide hS
                  clear hE3 hS
                  go_wp2_with fail
                  go_loopw [10] (fun v wr2 => ∃ i : Nat, v = .int .i64 i ∧ 1 ≤ i ∧ i ≤ n ∧ SB w W wr2 B V g cap n X th dk ∧ scanUp (fun x => lessU x dk[a]!) dk j0 i = scanUp (fun x => lessU x dk[a]!) dk j0 i0) (fun v _ => j0 + 1 - (intOf v).toNat)
                  case atStart => exact ⟨i0, rfl, by omega, by omega, unhide HS, rfl⟩
                  case round =>
                    rename World => wr2
                    clear HS
                    obtain ⟨i, rfl, hi1, hi2, hS, hE⟩ := hrel
                    have HE := hide hE
                    clear hE
                    obtain ⟨z, hz⟩ : ∃ z, z = (decide (i ≤ j0) && lessU dk[i]! dk[a]!) := ⟨_, rfl⟩
                    have HZ := hide hz
                    clear hz
                    have hSc := hS
                    have hij0 : z = true → i ≤ j0 := fun h => by
                      have := unhide HZ
                      rw [h] at this
                      exact of_decide_eq_true (Bool.and_eq_true_iff.1 this.symm).1
                    have HIJ := hide hij0
                    clear hij0
                    go_upto_region 13 with fail
                    go_cut [73] from 64 to 75 (fun c wx => c = .bool z ∧ SB w W wx B V g cap n X th dk)
                    case first =>
                      clear hSc
                      by_cases hij : i ≤ j0
                      · have q5 : (i : Int) ≤ (j0 : Int) := by omega
                        have hl := hS.less (i := i) (j := a) (by omega) (by omega)
                        obtain ⟨y, hy⟩ : ∃ y, y = lessU dk[i]! dk[a]! := ⟨_, rfl⟩
                        rw [← hy] at hl
                        have HY := hide hy
                        have c0 := hS.c0
                        clear hy hS
                        go_wp2_with fail
                        refine hl.mono ?_
                        clear hl c0
                        rintro _ w8 ⟨rfl, hS, _⟩
                        go_wp2_with fail
                        go_meet
                        case rel => exact ⟨by rw [unhide HZ, ← unhide HY, decide_eq_true hij]; rfl, hS⟩
                      · have q5 : ¬ (i : Int) ≤ (j0 : Int) := by omega
                        go_wp2_with fail
                        go_meet
                        case rel => exact ⟨by rw [unhide HZ, decide_eq_false hij]; rfl, hS⟩
                    case rest =>
                      clear hS
                      rename World => wx
                      obtain ⟨rfl, hS⟩ := hcut
                      clear hSc
                      have HS := hide hS
                      clear hS
                      cases z
                      · have HO := hide (scanUp_off (fun x => lessU x dk[a]!) dk j0 i (unhide HZ).symm)
                        have HE2 := hide ((unhide HO).symm.trans (unhide HE))
                        clear HO HE HZ HIJ
                        have HUP := hide (unhide HE2)
                        have HUPL := hide (scanUp_ge (fun x => lessU x dk[a]!) dk j0 i0)
                        rw [← unhide HUP] at HUPL
                        clear HE2
                        go_wp2_with fail
                        go_loopw [11] (fun v wr2 => ∃ j : Nat, v = .int .i64 j ∧ j < n ∧ SB w W wr2 B V g cap n X th dk ∧ scanDown (fun x => !lessU x dk[a]!) dk i j = scanDown (fun x => !lessU x dk[a]!) dk i j0) (fun v _ => (intOf v).toNat)
                        case atStart => exact ⟨j0, rfl, by omega, unhide HS, rfl⟩
                        case round =>
                          rename World => wr2
                          clear HS
                          obtain ⟨j, rfl, hj1, hS, hE⟩ := hrel
                          have HE := hide hE
                          clear hE
                          obtain ⟨z, hz⟩ : ∃ z, z = (decide (i ≤ j) && !lessU dk[j]! dk[a]!) := ⟨_, rfl⟩
                          have HZ := hide hz
                          clear hz
                          have hSc := hS
                          have hij0 : z = true → i ≤ j := fun h => by
                            have := unhide HZ
                            rw [h] at this
                            exact of_decide_eq_true (Bool.and_eq_true_iff.1 this.symm).1
                          have HIJ := hide hij0
                          clear hij0
                          go_upto_region 15 with fail
                          go_cut [86] from 76 to 88 (fun c wx => c = .bool z ∧ SB w W wx B V g cap n X th dk)
                          case first =>
                            clear hSc
                            by_cases hij : i ≤ j
                            · have q5 : (i : Int) ≤ (j : Int) := by omega
                              have hl := hS.less (i := j) (j := a) (by omega) (by omega)
                              obtain ⟨y, hy⟩ : ∃ y, y = lessU dk[j]! dk[a]! := ⟨_, rfl⟩
                              rw [← hy] at hl
                              have HY := hide hy
                              have c0 := hS.c0
                              clear hy hS
                              go_wp2_with fail
                              refine hl.mono ?_
                              clear hl c0
                              rintro _ w8 ⟨rfl, hS, _⟩
                              go_wp2_with fail
                              go_meet
                              case rel => exact ⟨by rw [unhide HZ, ← unhide HY, decide_eq_true hij]; rfl, hS⟩
                            · have q5 : ¬ (i : Int) ≤ (j : Int) := by omega
                              go_wp2_with fail
                              go_meet
                              case rel => exact ⟨by rw [unhide HZ, decide_eq_false hij]; rfl, hS⟩
                          case rest =>
                            clear hS
                            rename World => wx
                            obtain ⟨rfl, hS⟩ := hcut
                            clear hSc
                            have HS := hide hS
                            clear hS
                            cases z
                            · have HO := hide (scanDown_off (fun x => !lessU x dk[a]!) dk i j (unhide HZ).symm)
                              have HE2 := hide ((unhide HO).symm.trans (unhide HE))
                              clear HO HE HZ HIJ
                              obtain ⟨i2, hi2e⟩ : ∃ i2, i2 = i := ⟨_, rfl⟩
                              subst hi2e
                              obtain ⟨j2, hj2e⟩ : ∃ j2, j2 = j := ⟨_, rfl⟩
                              subst hj2e
                              have HLE := hide (scanDown_le (fun x => !lessU x dk[a]!) dk i2 j0)
                              rw [← unhide HE2] at HLE
                              by_cases hgt : j2 < i2
                              · have q7 : (j2 : Int) < (i2 : Int) := by omega
                                have HX2 := hide (show partLoop lessU a i0 j0 dk = (j2, dk) by rw [partLoop_eq, ← unhide HUP, ← unhide HE2, if_pos hgt])
                                obtain ⟨w7, hs, hS7⟩ := (unhide HS).swapRun (unhide HTH) (i := j2) (j := a) (by omega) (by omega)
                                have c1 := (unhide HS).c1
                                have HS7 := hide hS7
                                clear hS7 HS
                                have HR := hide (show partition lessU d a b pv = (j2, false, swp dk j2 a) by
                                  rw [unhide HPT]
                                  rw [← unhide HE3, unhide HX2])
                                go_wp2
                                refine bodyPost_ret (v := .tuple #[.int .i64 (j2 : Nat), .bool false]) (by simp [results, Try.results67, go_sem]) rfl ?_
                                exact ⟨by rw [unhide HR], by rw [unhide HR]; exact (unhide HS7).hn, by rw [unhide HR]; exact (unhide HS7).sr, (unhide HS7).kp⟩
                              · have q7 : ¬ (j2 : Int) < (i2 : Int) := by omega
                                have HX2 := hide (show partLoop lessU a i0 j0 dk = partLoop lessU a (i2 + 1) (j2 - 1) (swp dk i2 j2) by rw [partLoop_eq, ← unhide HUP, ← unhide HE2, if_neg hgt])
                                obtain ⟨w7, hs, hS7⟩ := (unhide HS).swapRun (unhide HTH) (i := i2) (j := j2) (by omega) (by omega)
                                have c1 := (unhide HS).c1
                                have HS7 := hide hS7
                                clear hS7 HS
                                have hle := unhide HLE
                                have hle2 := unhide HUPL
                                go_wp2
                                go_roundw
                                case rel => exact ⟨i2 + 1, j2 - 1, swp dk i2 j2, by go_num, by congr 1; omega, by omega, by omega, by omega, unhide HS7, by rw [← unhide HE3, unhide HX2]⟩
                                case measure =>
                                  simp only [intOf]
                                  omega
                            · have hij := unhide HIJ rfl
                              go_wp2
                              go_roundw
                              case rel => exact ⟨j - 1, by congr 1; omega, by omega, unhide HS, by rw [← unhide HE, scanDown_on (fun x => !lessU x dk[a]!) dk i j (unhide HZ).symm (by omega)]⟩
                              case measure =>
                                simp only [intOf]
                                omega
                      · have hij := unhide HIJ rfl
                        go_wp2
                        go_roundw
                        case rel => exact ⟨i + 1, by go_num, by omega, by omega, unhide HS, by rw [← unhide HE, scanUp_on (fun x => lessU x dk[a]!) dk j0 i (unhide HZ).symm]⟩
                        case measure =>
                          simp only [intOf]
                          omega
            · have hij := unhide HIJ rfl
              go_wp2
              go_roundw
              case rel => exact ⟨j - 1, by congr 1; omega, by omega, unhide HS, by rw [← unhide HE, scanDown_on (fun x => !lessU x d1[a]!) d1 i j (unhide HZ).symm (by omega)]⟩
              case measure =>
                simp only [intOf]
                omega
      · have hij := unhide HIJ rfl
        go_wp2
        go_roundw
        case rel => exact ⟨i + 1, by go_num, by omega, by omega, unhide HS, by rw [← unhide HE, scanUp_on (fun x => lessU x d1[a]!) d1 J i (unhide HZ).symm]⟩
        case measure =>
          simp only [intOf]
          omega
end Go.Proofs.Ythmmplmppchfmaa
