/-
  sort.insertionSort_func, sort.reverseRange_func: what they do, and what they leave.
-/
import Derived.Test.YthmmplmppchfmaaMrA
namespace Go.Proofs.Ythmmplmppchfmaa
open Go.RowKit Go.Sort

set_option maxHeartbeats 4000000 in
set_option maxRecDepth 1000000 in
theorem sortIns2_any {w W : World} {B V g cap n : Nat} {d : Array U2} {th : Value} (hth : th = typeHandle Try.prog 28) (h : SR w B V g cap d W) (hn : d.size = n) (a b : Nat) (hab : a ≤ b) (hb : b ≤ n) (hsz : n ≤ 1000000) :
    Calls Try.prog 60 #[.agg #[lessV V, swapV th g n cap], .int .i64 a, .int .i64 b] W (Sorts w W B V g cap n (insertionSort lessU d a b)) := by
  have h1 := SB.new (th := th) h hn
  have HTH := hide hth
  clear h hth hn
  unfold lessV swapV at *
  obtain ⟨X, hX⟩ : ∃ X, X = W.heap.size := ⟨_, rfl⟩
  go_enter Try.func60, Try.ntmps60
  go_wp2
  rw [← hX] at h1 ⊢
  generalize W.alloc _ = W1 at *
  clear hX
  go_loopw [6] (fun vi wr => ∃ (i : Nat) (dk : Array U2), vi = .int .i64 i ∧ a < i ∧ i ≤ b + 1 ∧ SB w W wr B V g cap n X th dk ∧ insOuter lessU a b i dk = insOuter lessU a b (a + 1) d) (fun vi _ => b + 1 - (intOf vi).toNat)
  case atStart => exact ⟨a + 1, d, by go_num, by omega, by omega, h1, rfl⟩
  case round =>
    obtain ⟨i, dk, rfl, hai, hib, hS, hO⟩ := hrel
    have HO := hide hO
    clear hO h1
    by_cases hlt : i < b
    · have i1 : (i : Int) < (b : Int) := by omega
      have HS := hide hS
      clear hS
      go_wp2
      go_loopw [7] (fun vj wr2 => ∃ (j : Nat) (dj : Array U2), vj = .int .i64 j ∧ a ≤ j ∧ j ≤ i ∧ SB w W wr2 B V g cap n X th dj ∧ insInner lessU a j dj = insInner lessU a i dk) (fun vj _ => (intOf vj).toNat)
      case atStart => exact ⟨i, dk, rfl, by omega, Nat.le_refl _, unhide HS, rfl⟩
      case round =>
        clear HS
        obtain ⟨j, dj, rfl, haj, hji, hS, hI⟩ := hrel
        have HI := hide hI
        clear hI
        by_cases hja : a < j
        · have j1 : (a : Int) < (j : Int) := by omega
          have hl := hS.less (i := j) (j := j - 1) (by omega) (by omega)
          rw [show (((j - 1 : Nat) : Int)) = (j : Int) - 1 by omega] at hl
          obtain ⟨y, hy⟩ : ∃ y, y = lessU dj[j]! dj[j - 1]! := ⟨_, rfl⟩
          rw [← hy] at hl
          have HY := hide hy
          have c0 := hS.c0
          clear hy hS
          go_wp2_with fail
          refine hl.mono ?_
          clear hl c0
          rintro _ w' ⟨rfl, hS, _⟩
          cases y
          · have HS := hide hS
            clear hS
            go_wp2
            go_roundw
            case rel => exact ⟨i + 1, dj, by go_num, by omega, by omega, unhide HS, by rw [← unhide HO, insOuter_on a b i dk hlt, ← unhide HI, insInner_off _ _ _ (.inr (unhide HY).symm)]⟩
            case measure =>
              simp only [intOf]
              omega
          · obtain ⟨w5, hs, hS5⟩ := hS.swapRun (unhide HTH) (i := j) (j := j - 1) (by omega) (by omega)
            rw [show (((j - 1 : Nat) : Int)) = (j : Int) - 1 by omega] at hs
            have c1 := hS.c1
            have HS := hide hS5
            clear hS hS5
            go_wp2
            go_roundw
            case rel => exact ⟨j - 1, swp dj j (j - 1), by congr 1; omega, by omega, by omega, unhide HS, by rw [← unhide HI, insInner_on _ _ _ hja (unhide HY).symm]⟩
            case measure =>
              simp only [intOf]
              omega
        · have j1 : ¬ (a : Int) < (j : Int) := by omega
          have HS := hide hS
          clear hS
          go_wp2
          go_roundw
          case rel => exact ⟨i + 1, dj, by go_num, by omega, by omega, unhide HS, by rw [← unhide HO, insOuter_on a b i dk hlt, ← unhide HI, insInner_off _ _ _ (.inl (by omega))]⟩
          case measure =>
            simp only [intOf]
            omega
    · have i1 : ¬ (i : Int) < (b : Int) := by omega
      have HS := hide hS
      clear hS
      go_wp2
      refine bodyPost_end (v := .tuple #[]) (by simp [results, Try.results60, go_sem]) rfl ?_
      have e : insertionSort lessU d a b = dk := by
        unfold insertionSort
        rw [← unhide HO, insOuter_off a b i dk hlt]
      rw [e]
      exact ⟨rfl, (unhide HS).hn, (unhide HS).sr, (unhide HS).kp⟩

theorem rev_on (i j : Nat) (d : Array U2) (h : i < j) : reverseLoop i j d = reverseLoop (i + 1) (j - 1) (swp d i j) := by rw [reverseLoop, if_pos h]
theorem rev_off (i j : Nat) (d : Array U2) (h : ¬ i < j) : reverseLoop i j d = d := by rw [reverseLoop, if_neg h]
set_option maxHeartbeats 4000000 in
set_option maxRecDepth 1000000 in
theorem sortRev_any {w W : World} {B V g cap n : Nat} {d : Array U2} {th : Value} (hth : th = typeHandle Try.prog 28) (h : SR w B V g cap d W) (hn : d.size = n) (a b : Nat) (hab : a < b) (hb : b ≤ n) (hsz : n ≤ 1000000) :
    Calls Try.prog 64 #[.agg #[lessV V, swapV th g n cap], .int .i64 a, .int .i64 b] W (Sorts w W B V g cap n (reverseRange d a b)) := by
  have h1 := SB.new (th := th) h hn
  have HTH := hide hth
  clear h hth hn
  unfold lessV swapV at *
  obtain ⟨X, hX⟩ : ∃ X, X = W.heap.size := ⟨_, rfl⟩
  go_enter Try.func64, Try.ntmps64
  go_wp2
  rw [← hX] at h1 ⊢
  generalize W.alloc _ = W1 at *
  clear hX
  go_loopw [6, 7] (fun vi vj wr => ∃ (i j : Nat) (dk : Array U2), vi = .int .i64 i ∧ vj = .int .i64 j ∧ i ≤ j + 1 ∧ j < n ∧ SB w W wr B V g cap n X th dk ∧ reverseLoop i j dk = reverseLoop a (b - 1) d) (fun _ vj _ => (intOf vj).toNat)
  case atStart => exact ⟨a, b - 1, d, rfl, by congr 1; omega, by omega, by omega, h1, rfl⟩
  case round =>
    clear h1
    obtain ⟨i, j, dk, rfl, rfl, hij, hj, hS, hE⟩ := hrel
    have HE := hide hE
    clear hE
    by_cases hlt : i < j
    · have i1 : (i : Int) < (j : Int) := by omega
      obtain ⟨w5, hs, hS5⟩ := hS.swapRun (unhide HTH) (i := i) (j := j) (by omega) (by omega)
      have c1 := hS.c1
      have HS := hide hS5
      clear hS hS5
      go_wp2
      go_roundw
      case rel => exact ⟨i + 1, j - 1, swp dk i j, by go_num, by congr 1; omega, by omega, by omega, unhide HS, by rw [← unhide HE, rev_on i j dk hlt]⟩
      case measure =>
        simp only [intOf]
        omega
    · have i1 : ¬ (i : Int) < (j : Int) := by omega
      have HS := hide hS
      clear hS
      go_wp2
      refine bodyPost_end (v := .tuple #[]) (by simp [results, Try.results64, go_sem]) rfl ?_
      have e : reverseRange d a b = dk := by
        unfold reverseRange
        rw [← unhide HE, rev_off i j dk hlt]
      rw [e]
      exact ⟨rfl, (unhide HS).hn, (unhide HS).sr, (unhide HS).kp⟩
end Go.Proofs.Ythmmplmppchfmaa
