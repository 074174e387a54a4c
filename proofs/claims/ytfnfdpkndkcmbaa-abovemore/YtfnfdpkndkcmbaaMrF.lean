/-
  sort.partialInsertionSort_func over a short row: what it answers.
-/
import Derived.Test.YtfnfdpkndkcmbaaMrA
import Derived.Sort.LotA
import Derived.Deep.CutRange
namespace Go.Proofs.Ytfnfdpkndkcmbaa
open Go.RowKit Go.Sort

set_option maxHeartbeats 8000000 in
set_option maxRecDepth 1000000 in
theorem sortPartial_any {w W : World} {B V g cap n : Nat} {d : Array U2} {th : Value} (h : SR w B V g cap d W) (hn : d.size = n) (a b : Nat) (hab : a < b) (hb : b ≤ n) (hsz : n ≤ 49) :
    Calls Try.prog 55 #[.agg #[lessV V, swapV th g n cap], .int .i64 a, .int .i64 b] W fun e W' => ∃ z, e = .returned (.bool z) ∧ (z = true → SortedIn lessU a b d) ∧ SR w B V g cap d W' ∧ KP g W W' := by
  have h1 := SB.new (th := th) h hn
  clear h hn
  unfold lessV swapV at *
  obtain ⟨X, hX⟩ : ∃ X, X = W.heap.size := ⟨_, rfl⟩
  go_enter Try.func55, Try.ntmps55
  go_wp2
  rw [← hX] at h1 ⊢
  generalize W.alloc _ = W1 at *
  clear hX
  refine wp_loop_rounds 1 ?_
  rw [rounds_succ]
  have HS := hide h1
  clear h1
  go_wp2_with fail
  go_loopw [7] (fun v wr2 => ∃ i : Nat, v = .int .i64 i ∧ a < i ∧ i ≤ b ∧ SB w W wr2 B V g cap n X th d ∧ SortedIn lessU a i d) (fun v _ => b - (intOf v).toNat)
  case atStart => exact ⟨a + 1, by go_num, by omega, by omega, unhide HS, fun i j h1 h2 h3 => by omega⟩
  case round =>
    rename World => wr2
    clear HS
    obtain ⟨i, rfl, hi1, hi2, hS, hE⟩ := hrel
    have HE := hide hE
    clear hE
    obtain ⟨z, hz⟩ : ∃ z, z = (decide (i < b) && !lessU d[i]! d[i - 1]!) := ⟨_, rfl⟩
    have HZ := hide hz
    clear hz
    have hij0 : z = true → i < b := fun h => by
      have := unhide HZ
      rw [h] at this
      exact of_decide_eq_true (Bool.and_eq_true_iff.1 this.symm).1
    have HIJ := hide hij0
    clear hij0
    go_upto_region 5 with fail
    go_cut [28] from 17 to 30 (fun c wx => c = .bool z ∧ SB w W wx B V g cap n X th d)
    case first =>
      by_cases hij : i < b
      · have q5 : (i : Int) < (b : Int) := by omega
        have hl := hS.less (i := i) (j := i - 1) (by omega) (by omega)
        rw [show (((i - 1 : Nat) : Int)) = (i : Int) - 1 by omega] at hl
        obtain ⟨y, hy⟩ : ∃ y, y = lessU d[i]! d[i - 1]! := ⟨_, rfl⟩
        rw [← hy] at hl
        have HY := hide hy
        have c0 := hS.c0
        clear hy hS
        go_wp2_with fail
        refine hl.mono ?_
        clear hl c0
        rintro _ w8 ⟨rfl, hS, _⟩
        go_wp2_with fail
        go_meet
        case rel => exact ⟨by rw [unhide HZ, ← unhide HY, decide_eq_true hij]; rfl, hS⟩
      · have q5 : ¬ (i : Int) < (b : Int) := by omega
        go_wp2_with fail
        go_meet
        case rel => exact ⟨by rw [unhide HZ, decide_eq_false hij]; rfl, hS⟩
    case rest =>
      clear hS
      rename World => wx
      obtain ⟨rfl, hS⟩ := hcut
      have HS := hide hS
      clear hS
      cases z
      · by_cases hib : i = b
        · have q7 : ((i : Int) == (b : Int)) = true := by rw [hib]; exact beq_self_eq_true _
          have HE2 := hide (show SortedIn lessU a b d by rw [← hib]; exact unhide HE)
          clear hib HE
          go_wp2
          refine bodyPost_ret (v := .bool true) (by simp [results, Try.results55, go_sem]) rfl ?_
          exact ⟨true, rfl, fun _ => unhide HE2, (unhide HS).sr, (unhide HS).kp⟩
        · have q7 : ((i : Int) == (b : Int)) = false := by simp; omega
          have q8 : (b : Int) - (a : Int) < 50 := by omega
          go_wp2
          refine bodyPost_ret (v := .bool false) (by simp [results, Try.results55, go_sem]) rfl ?_
          exact ⟨false, rfl, fun h => (by cases h), (unhide HS).sr, (unhide HS).kp⟩
      · have hij := unhide HIJ rfl
        have hlt : lessU d[i]! d[i - 1]! = false := by
          have := (Bool.and_eq_true_iff.1 (unhide HZ).symm).2
          simpa using this
        have HE3 := hide (SortedIn.snoc swo_lessU (unhide HE) hlt)
        clear hlt
        go_wp2
        go_roundw
        case rel => exact ⟨i + 1, by go_num, by omega, by omega, unhide HS, unhide HE3⟩
        case measure =>
          simp only [intOf]
          omega
end Go.Proofs.Ytfnfdpkndkcmbaa
