/-
  sort.heapSort_func, sort.insertionSort_func, sort.reverseRange_func: what they do.
-/
import Derived.Test.YthmmplmppchfmaaMrA
namespace Go.Proofs.Ythmmplmppchfmaa
open Go.RowKit Go.Sort

theorem ret_loads (X : Nat) (W : World) (a b : Value) (h : W.heap[X]? = some (.cells #[a, b] 89 (0, 0))) : W.cell? ⟨X, 0, none⟩ = some a ∧ W.cell? ⟨X, 1, none⟩ = some b := ⟨by rw [Lib.cell_of_heap h]; rfl, by rw [Lib.cell_of_heap h]; rfl⟩

set_option maxHeartbeats 4000000 in
set_option maxRecDepth 1000000 in
theorem sortHeap_any {w W : World} {B V g cap n : Nat} {d : Array U2} {th : Value} (hth : th = typeHandle Try.prog 28) (h : SR w B V g cap d W) (hn : d.size = n) (a b : Nat) (hab : a < b) (hb : b ≤ n) (hsz : n ≤ 1000000) :
    Calls Try.prog 61 #[.agg #[lessV V, swapV th g n cap], .int .i64 a, .int .i64 b] W (Sorts w W B V g cap n (heapSort lessU d a b)) := by
  have h1 := SB.new (th := th) h hn
  have HTH := hide hth
  have SIFT := fun (W' : World) (d' : Array U2) (h : SR w B V g cap d' W') (hn : d'.size = n) (lo hi : Nat) (hlo : lo ≤ hi) (hF : a + hi ≤ n) => sortSift_any (unhide HTH) h hn lo hi a hlo hF hsz
  clear h hth hn
  unfold lessV swapV at *
  obtain ⟨hi, hhi⟩ : ∃ hi, b = a + hi := ⟨b - a, by omega⟩
  have hi0 : 0 < hi := by omega
  have ed : ((b : Int) - (a : Int)) = (hi : Int) := by omega
  have hbn : a + hi ≤ n := by omega
  have HHI := hide hhi
  clear hhi hb hab
  obtain ⟨X, hX⟩ : ∃ X, X = W.heap.size := ⟨_, rfl⟩
  go_enter Try.func61, Try.ntmps61
  go_wp2
  rw [← hX] at h1 ⊢
  generalize W.alloc _ = W1 at *
  rw [show ((hi : Int) - 1) / 2 = (((hi - 1) / 2 : Nat) : Int) by omega]
  clear ed hX
  obtain ⟨K, hK⟩ : ∃ K, K = (hi - 1) / 2 := ⟨_, rfl⟩
  rw [← hK]
  have hKh : K ≤ hi := by omega
  have HK := hide hK
  clear hK
  go_loopw [9] (fun v wr => ∃ (k : Nat) (kv : Int) (dk : Array U2), v = .int .i64 kv ∧ kv + 1 = (k : Int) ∧ k ≤ K + 1 ∧ SB w W wr B V g cap n X th dk ∧ heapBuild lessU hi a k dk = heapBuild lessU hi a (K + 1) d) (fun v _ => (intOf v + 1).toNat)
  case atStart => exact ⟨K + 1, K, d, rfl, by omega, Nat.le_refl _, h1, rfl⟩
  case round =>
    clear h1
    obtain ⟨k, kv, dk, rfl, hkv, hk, hS, hE⟩ := hrel
    have HE := hide hE
    clear hE
    match k, hkv, hk, HE with
    | 0, hkv, hk, HE =>
      have q0 : ¬ (0 : Int) ≤ kv := by omega
      have HS := hide hS
      clear hS
      go_wp2
      obtain ⟨D, hD⟩ : ∃ D, D = heapBuild lessU hi a (K + 1) d := ⟨_, rfl⟩
      have hdk : dk = D := by rw [hD, ← unhide HE]; rfl
      have HDD := hide hD
      clear hD HE
      go_loopw [10] (fun v wr => ∃ (k : Nat) (kv : Int) (dk : Array U2), v = .int .i64 kv ∧ kv + 1 = (k : Int) ∧ k ≤ hi ∧ SB w W wr B V g cap n X th dk ∧ heapPop lessU a k dk = heapPop lessU a hi D) (fun v _ => (intOf v + 1).toNat)
      case atStart => exact ⟨hi, _, dk, rfl, by omega, Nat.le_refl _, unhide HS, by rw [hdk]⟩
      case round =>
        clear HS hdk
        obtain ⟨k2, kv2, dk2, rfl, hkv2, hk2, hS2, hE2⟩ := hrel
        have HE2 := hide hE2
        clear hE2
        match k2, hkv2, hk2, HE2 with
        | 0, hkv2, hk2, HE2 =>
          have q2 : ¬ (0 : Int) ≤ kv2 := by omega
          have HS := hide hS2
          clear hS2
          go_wp2
          refine bodyPost_end (v := .tuple #[]) (by simp [results, Try.results61, go_sem]) rfl ?_
          have e : heapSort lessU d a b = dk2 := by
            rw [unhide HHI]
            unfold heapSort
            rw [Nat.add_sub_cancel_left, ← unhide HK, ← unhide HDD, ← unhide HE2]
            rfl
          rw [e]
          exact ⟨rfl, (unhide HS).hn, (unhide HS).sr, (unhide HS).kp⟩
        | k2 + 1, hkv2, hk2, HE2 =>
          obtain rfl : kv2 = (k2 : Int) := by omega
          have q2 : (0 : Int) ≤ (k2 : Int) := by omega
          obtain ⟨w5, hrun, hS5⟩ := hS2.swapRun (unhide HTH) (i := a) (j := a + k2) (by omega) (by omega)
          rw [show (((a + k2 : Nat)) : Int) = (a : Int) + (k2 : Int) by omega] at hrun
          have c1 := hS2.c1
          have c05 := hS5.c0
          have c15 := hS5.c1
          have SF := SIFT w5 _ hS5.sr hS5.hn 0 k2 (Nat.zero_le _) (by omega)
          rw [show ((0 : Nat) : Int) = 0 from rfl] at SF
          clear hS2 hkv2
          have HS5 := hide hS5
          clear hS5
          go_wp2_with fail
          refine SF.mono ?_
          clear SF c1 c05 c15 hrun
          rintro _ w6 ⟨rfl, hn6, hS6, hk6⟩
          have HS6 := hide ((unhide HS5).call hS6 hn6 hk6)
          clear HS5 hS6 hn6 hk6
          go_wp2
          go_roundw
          case rel => exact ⟨k2, _, _, rfl, by omega, by omega, unhide HS6, by rw [← unhide HE2]; rfl⟩
          case measure =>
            simp only [intOf]
            omega
    | k + 1, hkv, hk, HE =>
      obtain rfl : kv = (k : Int) := by omega
      have q0 : (0 : Int) ≤ (k : Int) := by omega
      have c0 := hS.c0
      have c1 := hS.c1
      have SF := SIFT wr dk hS.sr hS.hn k hi (by omega) (by omega)
      have HS := hide hS
      clear hS hkv
      go_wp2_with fail
      refine SF.mono ?_
      clear SF c0 c1
      rintro _ w6 ⟨rfl, hn6, hS6, hk6⟩
      have HS6 := hide ((unhide HS).call hS6 hn6 hk6)
      clear HS hS6 hn6 hk6
      go_wp2
      go_roundw
      case rel => exact ⟨k, _, _, rfl, by omega, by omega, unhide HS6, by rw [← unhide HE]; rfl⟩
      case measure =>
        simp only [intOf]
        omega
end Go.Proofs.Ythmmplmppchfmaa
