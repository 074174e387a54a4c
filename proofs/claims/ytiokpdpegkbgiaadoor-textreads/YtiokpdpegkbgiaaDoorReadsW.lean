/-
  chancellaw1.TextReads returns true, for every string.
-/
import Derived.Test.YtiokpdpegkbgiaaDoorKnown
import Derived.Test.YtiokpdpegkbgiaaDoorReadX
import Derived.Test.YtiokpdpegkbgiaaDoorRefRead3
namespace Go.Proofs.YtiokpdpegkbgiaaDoor
open Go.RowKit

set_option maxHeartbeats 1000000 in
set_option maxRecDepth 100000 in
theorem reads_walk (s : ByteArray) (w : World) (hf : Fit w) (hs : s.size ≤ 9223372036854775807) :
    Calls Tryd.prog 5 #[.string s] w fun e w' => e = .returned (.bool true) ∧ Below w.heap.size w w' := by
  go_enter Tryd.func5, Tryd.ntmps5
  go_wp2_with fail
  refine (known_any _ hf).mono ?_
  rintro e w1 ⟨rfl, b1⟩
  by_cases hl : 1000 < s.size
  · go_wp2
    go_ret
    exact ⟨rfl, b1⟩
  · go_wp2
    go_loopw [0, 3] (fun sv kv wr => ∃ (k : Nat) (s' : ByteArray), sv = .string s' ∧ kv = .int .i64 k ∧ k ≤ 2 ∧ s'.size ≤ 1000 + k ∧ Below w.heap.size w wr) (fun _ kv _ => 2 - (intOf kv).toNat)
    case atStart => exact ⟨0, s, rfl, rfl, by omega, by omega, b1⟩
    case round =>
      obtain ⟨k, s', rfl, rfl, hk, hsz, hbw⟩ := hrel
      by_cases hk2 : k < 2
      · go_wp2_with fail
        refine (read_any s' _ (by omega)).mono ?_
        rintro e w2 ⟨rfl, c2⟩
        have bw2 := hbw.trans (c2.mono hbw.size)
        go_wp2_with fail
        refine (rread_any s' _ (by omega)).mono ?_
        rintro e w3 ⟨rfl, c3⟩
        have bw3 := bw2.trans (c3.mono bw2.size)
        clear c2 c3
        generalize rd s'.data.toList = q
        obtain ⟨q1, q2, q3⟩ := q
        go_wp2
        refine ⟨⟨k + 1, (⟨#[34]⟩ : ByteArray) ++ s', rfl, by go_num, by omega, ?_, bw3⟩, ?_⟩
        · have e1 : ((⟨#[34]⟩ : ByteArray) ++ s').data.toList = 34 :: s'.data.toList := by simp
          rw [Lib.size_eq, e1, List.length_cons, ← Lib.size_eq]
          omega
        · simp [intOf]
          omega
      · go_wp2
        go_ret
        exact ⟨rfl, hbw⟩
end Go.Proofs.YtiokpdpegkbgiaaDoor
