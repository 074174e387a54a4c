/-
  sort.partitionEqual_func: what it does.
-/
import Derived.Test.YthmmplmppchfmaaMrD
namespace Go.Proofs.Ythmmplmppchfmaa
open Go.RowKit Go.Sort

set_option maxHeartbeats 8000000 in
set_option maxRecDepth 1000000 in
theorem sortPartEq_any {w W : World} {B V g cap n : Nat} {d : Array U2} {th : Value} (hth : th = typeHandle Try.prog 28) (h : SR w B V g cap d W) (hn : d.size = n) (a b pv : Nat) (hap : a ≤ pv) (hpb : pv < b) (hb : b ≤ n) (hsz : n ≤ 1000000) :
    Calls Try.prog 66 #[.agg #[lessV V, swapV th g n cap], .int .i64 a, .int .i64 b, .int .i64 pv] W fun e W' => e = .returned (.int .i64 (partitionEqual lessU d a b pv).1) ∧ (partitionEqual lessU d a b pv).2.size = n ∧ SR w B V g cap (partitionEqual lessU d a b pv).2 W' ∧ KP g W W' := by
  have h1 := SB.new (th := th) h hn
  have HTH := hide hth
  clear h hth hn
  unfold lessV swapV at *
  obtain ⟨X, hX⟩ : ∃ X, X = W.heap.size := ⟨_, rfl⟩
  obtain ⟨w5, hs, hS5⟩ := h1.swapRun (unhide HTH) (i := a) (j := pv) (by omega) (by omega)
  have c1 := h1.c1
  have HS := hide hS5
  rw [← hX] at HS
  obtain ⟨d1, hd1⟩ : ∃ d1, d1 = swp d a pv := ⟨_, rfl⟩
  rw [← hd1] at HS
  have HD1 := hide hd1
  clear hS5 h1 hd1
  obtain ⟨J, hJ⟩ : ∃ J, J = b - 1 := ⟨_, rfl⟩
  have hJb : (b : Int) - 1 = (J : Int) := by omega
  have hJn : J < n := by omega
  have haJ : a ≤ J := by omega
  have HJ := hide hJ
  clear hJ
  go_enter Try.func66, Try.ntmps66
  go_upto_region 2 with fail
  rw [← hX]
  clear hX hs c1
  go_wp2
  go_loopw [9, 10] (fun vi vj wr3 => ∃ (i j : Nat) (dk : Array U2), vi = .int .i64 i ∧ vj = .int .i64 j ∧ 1 ≤ i ∧ i ≤ n ∧ j < n ∧ SB w W wr3 B V g cap n X th dk ∧ partEqLoop lessU a i j dk = partEqLoop lessU a (a + 1) J d1) (fun vi vj _ => (intOf vj).toNat + 1 - (intOf vi).toNat)
  case atStart => exact ⟨a + 1, J, d1, by go_num, rfl, by omega, by omega, by omega, unhide HS, rfl⟩
  case round =>
    rename World => wr3
    clear HS
    obtain ⟨i0, j0, dk, rfl, rfl, hi01, hi0n, hj0n, hS, hE3⟩ := hrel
    have HE3 := hide hE3
    have HS := hide hS
    clear hE3 hS
    go_wp2_with fail
    go_loopw [9] (fun v wr2 => ∃ i : Nat, v = .int .i64 i ∧ 1 ≤ i ∧ i ≤ n ∧ SB w W wr2 B V g cap n X th dk ∧ scanUp (fun x => !lessU dk[a]! x) dk j0 i = scanUp (fun x => !lessU dk[a]! x) dk j0 i0) (fun v _ => j0 + 1 - (intOf v).toNat)
    case atStart => exact ⟨i0, rfl, by omega, by omega, unhide HS, rfl⟩
    case round =>
      rename World => wr2
      clear HS
      obtain ⟨i, rfl, hi1, hi2, hS, hE⟩ := hrel
      have HE := hide hE
      clear hE
      obtain ⟨z, hz⟩ : ∃ z, z = (decide (i ≤ j0) && !lessU dk[a]! dk[i]!) := ⟨_, rfl⟩
      have HZ := hide hz
      clear hz
      have hSc := hS
      have hij0 : z = true → i ≤ j0 := fun h => by
        have := unhide HZ
        rw [h] at this
        exact of_decide_eq_true (Bool.and_eq_true_iff.1 this.symm).1
      have HIJ := hide hij0
      clear hij0
      go_upto_region 3 with fail
      go_cut [30] from 20 to 32 (fun c wx => c = .bool z ∧ SB w W wx B V g cap n X th dk)
      case first =>
        clear hSc
        by_cases hij : i ≤ j0
        · have q5 : (i : Int) ≤ (j0 : Int) := by omega
          have hl := hS.less (i := a) (j := i) (by omega) (by omega)
          obtain ⟨y, hy⟩ : ∃ y, y = lessU dk[a]! dk[i]! := ⟨_, rfl⟩
          rw [← hy] at hl
          have HY := hide hy
          have c0 := hS.c0
          clear hy hS
          go_wp2_with fail
          refine hl.mono ?_
          clear hl c0
          rintro _ w8 ⟨rfl, hS, _⟩
          go_wp2_with fail
          go_meet
          case rel => exact ⟨by rw [unhide HZ, ← unhide HY, decide_eq_true hij]; rfl, hS⟩
        · have q5 : ¬ (i : Int) ≤ (j0 : Int) := by omega
          go_wp2_with fail
          go_meet
          case rel => exact ⟨by rw [unhide HZ, decide_eq_false hij]; rfl, hS⟩
      case rest =>
        clear hS
        rename World => wx
        obtain ⟨rfl, hS⟩ := hcut
        clear hSc
        have HS := hide hS
        clear hS
        cases z
        · have HO := hide (scanUp_off (fun x => !lessU dk[a]! x) dk j0 i (unhide HZ).symm)
          have HE2 := hide ((unhide HO).symm.trans (unhide HE))
          clear HO HE HZ HIJ
          have HUP := hide (unhide HE2)
          have HUPL := hide (scanUp_ge (fun x => !lessU dk[a]! x) dk j0 i0)
          rw [← unhide HUP] at HUPL
          clear HE2
          go_wp2_with fail
          go_loopw [10] (fun v wr2 => ∃ j : Nat, v = .int .i64 j ∧ j < n ∧ SB w W wr2 B V g cap n X th dk ∧ scanDown (fun x => lessU dk[a]! x) dk i j = scanDown (fun x => lessU dk[a]! x) dk i j0) (fun v _ => (intOf v).toNat)
          case atStart => exact ⟨j0, rfl, by omega, unhide HS, rfl⟩
          case round =>
            rename World => wr2
            clear HS
            obtain ⟨j, rfl, hj1, hS, hE⟩ := hrel
            have HE := hide hE
            clear hE
            obtain ⟨z, hz⟩ : ∃ z, z = (decide (i ≤ j) && lessU dk[a]! dk[j]!) := ⟨_, rfl⟩
            have HZ := hide hz
            clear hz
            have hSc := hS
            have hij0 : z = true → i ≤ j := fun h => by
              have := unhide HZ
              rw [h] at this
              exact of_decide_eq_true (Bool.and_eq_true_iff.1 this.symm).1
            have HIJ := hide hij0
            clear hij0
            go_upto_region 5 with fail
            go_cut [42] from 33 to 44 (fun c wx => c = .bool z ∧ SB w W wx B V g cap n X th dk)
            case first =>
              clear hSc
              by_cases hij : i ≤ j
              · have q5 : (i : Int) ≤ (j : Int) := by omega
                have hl := hS.less (i := a) (j := j) (by omega) (by omega)
                obtain ⟨y, hy⟩ : ∃ y, y = lessU dk[a]! dk[j]! := ⟨_, rfl⟩
                rw [← hy] at hl
                have HY := hide hy
                have c0 := hS.c0
                clear hy hS
                go_wp2_with fail
                refine hl.mono ?_
                clear hl c0
                rintro _ w8 ⟨rfl, hS, _⟩
                go_wp2_with fail
                go_meet
                case rel => exact ⟨by rw [unhide HZ, ← unhide HY, decide_eq_true hij]; rfl, hS⟩
              · have q5 : ¬ (i : Int) ≤ (j : Int) := by omega
                go_wp2_with fail
                go_meet
                case rel => exact ⟨by rw [unhide HZ, decide_eq_false hij]; rfl, hS⟩
            case rest =>
              clear hS
              rename World => wx
              obtain ⟨rfl, hS⟩ := hcut
              clear hSc
              have HS := hide hS
              clear hS
              cases z
              · have HO := hide (scanDown_off (fun x => lessU dk[a]! x) dk i j (unhide HZ).symm)
                have HE2 := hide ((unhide HO).symm.trans (unhide HE))
                clear HO HE HZ HIJ
                obtain ⟨i2, hi2e⟩ : ∃ i2, i2 = i := ⟨_, rfl⟩
                subst hi2e
                obtain ⟨j2, hj2e⟩ : ∃ j2, j2 = j := ⟨_, rfl⟩
                subst hj2e
                have HLE := hide (scanDown_le (fun x => lessU dk[a]! x) dk i2 j0)
                rw [← unhide HE2] at HLE
                by_cases hgt : j2 < i2
                · have q7 : (j2 : Int) < (i2 : Int) := by omega
                  have HR := hide (show partitionEqual lessU d a b pv = (i2, dk) by
                    unfold partitionEqual
                    rw [← unhide HD1, ← unhide HJ, ← unhide HE3, partEqLoop_eq, ← unhide HUP, ← unhide HE2, if_pos hgt])
                  go_wp2
                  refine bodyPost_ret (v := .int .i64 (i2 : Nat)) (by simp [results, Try.results66, go_sem]) rfl ?_
                  exact ⟨by rw [unhide HR], by rw [unhide HR]; exact (unhide HS).hn, by rw [unhide HR]; exact (unhide HS).sr, (unhide HS).kp⟩
                · have q7 : ¬ (j2 : Int) < (i2 : Int) := by omega
                  have HX2 := hide (show partEqLoop lessU a i0 j0 dk = partEqLoop lessU a (i2 + 1) (j2 - 1) (swp dk i2 j2) by rw [partEqLoop_eq, ← unhide HUP, ← unhide HE2, if_neg hgt])
                  obtain ⟨w7, hs, hS7⟩ := (unhide HS).swapRun (unhide HTH) (i := i2) (j := j2) (by omega) (by omega)
                  have c1 := (unhide HS).c1
                  have HS7 := hide hS7
                  clear hS7 HS
                  have hle := unhide HLE
                  have hle2 := unhide HUPL
                  go_wp2
                  go_roundw
                  case rel => exact ⟨i2 + 1, j2 - 1, swp dk i2 j2, by go_num, by congr 1; omega, by omega, by omega, by omega, unhide HS7, by rw [← unhide HE3, unhide HX2]⟩
                  case measure =>
                    simp only [intOf]
                    omega
              · have hij := unhide HIJ rfl
                go_wp2
                go_roundw
                case rel => exact ⟨j - 1, by congr 1; omega, by omega, unhide HS, by rw [← unhide HE, scanDown_on (fun x => lessU dk[a]! x) dk i j (unhide HZ).symm (by omega)]⟩
                case measure =>
                  simp only [intOf]
                  omega
        · have hij := unhide HIJ rfl
          go_wp2
          go_roundw
          case rel => exact ⟨i + 1, by go_num, by omega, by omega, unhide HS, by rw [← unhide HE, scanUp_on (fun x => !lessU dk[a]! x) dk j0 i (unhide HZ).symm]⟩
          case measure =>
            simp only [intOf]
            omega
end Go.Proofs.Ythmmplmppchfmaa
