/-
  pack's writer: number, bytes.
-/
import Derived.Test.YtkeljejddfpnmaaDoorPkC
namespace Go.Proofs.YtkeljejddfpnmaaDoor
open Go.RowKit Go.Sort

/-- The byte at this place of a number, from behind. -/
def byteAt (n : Int) (k : Nat) : UInt8 := UInt8.ofNat (n / 2 ^ (8 * k) % 256).toNat
def beN : Nat → Int → List UInt8
  | 0, _ => []
  | k + 1, n => byteAt n k :: beN k n
theorem beN_len (n : Int) : ∀ k, (beN k n).length = k
  | 0 => rfl
  | k + 1 => by simp [beN, beN_len n k]
theorem byteAt_val (n : Int) (k : Nat) : ((byteAt n k).toNat : Int) = IntKind.u8.wrap (n / 2 ^ (8 * k)) := by
  rw [IntKind.wrap_u8', byteAt, UInt8.toNat_ofNat']
  have h0 := Int.emod_nonneg (n / 2 ^ (8 * k)) (show (256 : Int) ≠ 0 by decide)
  have h1 := Int.emod_lt_of_pos (n / 2 ^ (8 * k)) (show (0 : Int) < 256 by decide)
  omega
/-- One new byte. -/
theorem one_row (w : World) (b : UInt8) (x : Nat) (hx : x < w.heap.size) : BRowN (w.alloc (.cells #[.int .u8 (b.toNat : Int)] 5)) x (some ⟨w.heap.size, 0, none⟩) [b] := by
  refine .inr ⟨w.heap.size, 0, rfl, by simp, by omega, fun j hj => ?_⟩
  obtain rfl : j = 0 := by simpa using hj
  simp

set_option maxHeartbeats 4000000 in
set_option maxRecDepth 1000000 in
theorem wnumber_any (size : Nat) (hsize : size ≤ 8) (n : Int) (w : World) (rb g total : Nat) (T : List UInt8) (h : WrAt w rb g total T) (ht : total ≤ 281474976710656) :
    Calls Tryd.prog 21 #[.pointer (some ⟨rb, 0, none⟩), .int .i64 n, .int .i64 size] w fun e w' => e = .returned (.tuple #[]) ∧ Keep2 rb g w w' ∧ WrAt w' rb g total (T ++ beN size n) := by
  go_enter Tryd.func21, Tryd.ntmps21
  go_wp2_with fail
  have hrg := h.lt
  go_loopw [6] (fun lv wr => ∃ (j : Nat) (U : List UInt8), j ≤ size ∧ lv = .int .i64 ((j : Int) - 1) ∧ Keep2 rb g w wr ∧ WrAt wr rb g total U ∧ U ++ beN j n = T ++ beN size n) (fun lv _ => ((intOf lv) + 1).toNat)
  case atStart => exact ⟨size, T, Nat.le_refl _, by go_num, Keep2.refl _ _ _, h, rfl⟩
  case round =>
    obtain ⟨j, U, hj, rfl, hk, hw, hU⟩ := hrel
    have HU := hide hU
    clear hU
    cases j with
    | zero =>
      have i1 : ¬ (0 : Int) ≤ ((0 : Nat) : Int) - 1 := by omega
      go_wp2
      go_end0
      refine ⟨rfl, hk, ?_⟩
      have := unhide HU
      rw [beN, List.append_nil] at this
      rw [← this]
      exact hw
    | succ j =>
      obtain ⟨lf, hlf⟩ : ∃ lf : Int, lf = ((j + 1 : Nat) : Int) - 1 := ⟨_, rfl⟩
      rw [← hlf]
      have hlj : lf = (j : Int) := by omega
      have i1 : (0 : Int) ≤ lf := by omega
      obtain ⟨q, hq⟩ : ∃ q : Int, q = 8 * lf := ⟨_, rfl⟩
      have hq1 : IntKind.i64.wrap (8 * lf) = q := by rw [IntKind.wrap_i64]; omega
      have hq0 : 0 ≤ q := by omega
      have hq64 : q ≤ 64 := by omega
      obtain ⟨x, hx⟩ : ∃ x : Int, n / 2 ^ q.toNat = x := ⟨_, rfl⟩
      obtain ⟨ci, hci⟩ : ∃ ci : Int, IntKind.u8.wrap x = ci := ⟨_, rfl⟩
      have hb : ci = ((byteAt n j).toNat : Int) := by rw [byteAt_val, ← hci, ← hx, show q.toNat = 8 * j by omega]
      have hrow := one_row wr (byteAt n j) g hw.lt.2
      rw [← hb] at hrow
      have n1 := new1 wr (.cells #[.int .u8 ci] 5)
      have P := put_any _ rb g total U [byteAt n j] _ 1 (hw.below n1) hrow (by simp) ht
      have HL := hide hlj
      have hlw : IntKind.i64.wrap (lf - 1) = (j : Int) - 1 := by rw [IntKind.wrap_i64]; omega
      clear hlf hlj hb hq hrow
      go_wp2_with fail
      refine P.mono ?_
      rintro e w1 ⟨rfl, k1, h1⟩
      go_wp2_with fail
      go_roundw
      case rel => exact ⟨j, U ++ [byteAt n j], by omega, rfl, hk.trans ((Keep2.of_below n1).trans k1), h1, by rw [← unhide HU, List.append_assoc]; rfl⟩
      case measure => have := unhide HL; simp only [intOf]; omega
end Go.Proofs.YtkeljejddfpnmaaDoor
