/-
  strconv.FormatInt(n, 16) for 0 <= n < 256: one or two digits; nothing that was there turns.
-/
import Derived.Test.YtpblalklenebhaaDoorRows
import Derived.Test.YtpblalklenebhaaDoorPlain
import Derived.WalkKit
import Derived.BigCall
import Derived.Handy
import Derived.Laws.IdiomStrings
import Derived.Laws.BitsAllLaws
namespace Go.Proofs.YtpblalklenebhaaDoor
open Go.RowKit

theorem tzIx : IntKind.u64.wrap (bits BinOp.and IntKind.u64 16 (IntKind.u64.wrap (-16)) * 285870213051353865) / 288230376151711744 = 15 := by decide +kernel

set_option maxHeartbeats 400000 in
theorem tz16 (w : World) (hc : w.cell? ⟨3, 15, none⟩ = some (.int .u8 4)) :
    Calls Tryd.prog 75 #[.int .u64 16] w fun e w' => e = .returned (.int .i64 4) ∧ w' = w := by
  have e := tzIx
  go_enter Tryd.func75, Tryd.ntmps75
  go_wp2
  go_ret
  exact ⟨rfl, rfl⟩

set_option maxHeartbeats 400000 in
theorem tz (w : World) (hc : w.cell? ⟨3, 15, none⟩ = some (.int .u8 4)) :
    Calls Tryd.prog 73 #[.int .u64 16] w fun e w' => e = .returned (.int .i64 4) ∧ w' = w := by
  go_enter Tryd.func73, Tryd.ntmps73
  go_wp2_with (first | (go_at_call 75; refine (tz16 _ hc).mono ?_; rintro e w' ⟨rfl, rfl⟩))
  go_ret
  exact ⟨rfl, rfl⟩

set_option maxHeartbeats 400000 in
theorem pow2_16 (w : World) :
    Calls Tryd.prog 72 #[.int .i64 16] w fun e w' => e = .returned (.bool true) ∧ w' = w := by
  go_enter Tryd.func72, Tryd.ntmps72
  go_wp2
  go_ret
  exact ⟨rfl, rfl⟩

theorem byte_at (s : ByteArray) (i : Nat) (hi : i < s.size) : s[i] = s.data.toList.getD i 0 := by
  have hi' : i < s.data.size := hi
  show s.data[i]'hi' = _
  rw [List.getD, Array.getElem?_toList, Array.getElem?_eq_getElem hi']
  rfl

theorem dig_at (k : Nat) (h : k < (⟨#[48, 49, 50, 51, 52, 53, 54, 55, 56, 57, 97, 98, 99, 100, 101, 102, 103, 104, 105, 106, 107, 108, 109, 110, 111, 112, 113, 114, 115, 116, 117, 118, 119, 120, 121, 122]⟩ : ByteArray).size) :
    (⟨#[48, 49, 50, 51, 52, 53, 54, 55, 56, 57, 97, 98, 99, 100, 101, 102, 103, 104, 105, 106, 107, 108, 109, 110, 111, 112, 113, 114, 115, 116, 117, 118, 119, 120, 121, 122]⟩ : ByteArray)[k] = dig k := by
  rw [byte_at]
  rfl

theorem zc_size : Tryd.zeroCells116.size = 65 := by kernel_rfl

theorem conv_back (w : World) (a : Addr) (n cap : Nat) (l : List UInt8) (hn : n = l.length)
    (hc : ∀ j (hj : j < l.length), w.cell? (a.add j) = some (.int .u8 (l[j].toNat : Int))) :
    (convert 74 9 (.slice (some a) n cap)).run Tryd.prog w = .ok (.string ⟨l.toArray⟩) w := by
  subst hn
  exact run_convert_bytes_back w 74 9 5 a cap l Tryd.underlying74 Tryd.underlying5 Tryd.underlying9 hc

set_option maxHeartbeats 1000000 in
set_option maxRecDepth 100000 in
theorem bits1 (k : Nat) (h1 : k < 16) (w : World) (h3 : 3 < w.heap.size) (hc : w.cell? ⟨3, 15, none⟩ = some (.int .u8 4)) :
    Calls Tryd.prog 67 #[.slice none 0 0, .int .u64 k, .int .i64 16, .bool false, .bool false] w fun e w' => e = .returned (.tuple #[.slice none 0 0, .string ⟨(hexL k).toArray⟩]) ∧ Below w.heap.size w w' := by
  go_enter Tryd.func67, Tryd.ntmps67
  go_wp2_with (first | (go_at_call 72; refine (pow2_16 _).mono ?_; rintro e w' ⟨rfl, rfl⟩) | fail)
  refine (tz _ ?_).mono ?_
  · go_simp
  rintro e w' ⟨rfl, rfl⟩
  go_wp2
  go_rounds 1
  simp only [dig_at]
  rw [conv_back _ ⟨w.heap.size, 64, none⟩ 1 1 [dig k] rfl ?_]
  · go_wp2
    go_ret2
    refine ⟨?_, ?_⟩
    · rw [show hexL k = [dig k] from if_pos h1]
      rfl
    · exact (Below.refl _ _).alloc (Nat.le_refl _) _
  · intro j hj
    have hj0 : j = 0 := by simpa using hj
    subst hj0
    rw [show (⟨w.heap.size, 64, none⟩ : Addr).add 0 = ⟨w.heap.size, 64, none⟩ from rfl, World.cell?_alloc_mark]
    rw [Array.getElem?_setIfInBounds_self_of_lt (by rw [zc_size]; omega)]
    rfl

theorem low4 (k : Nat) (h : k < 256) : bits BinOp.and IntKind.u64 (k : Int) 15 = ((k % 16 : Nat) : Int) := by
  have := u64_and_nat k 15 (by omega) (by omega)
  rw [show ((15 : Nat) : Int) = 15 from rfl] at this
  rw [this]
  have : k &&& 15 = k % 16 := Nat.and_two_pow_sub_one_eq_mod k 4
  rw [this]

set_option maxHeartbeats 1000000 in
set_option maxRecDepth 100000 in
theorem bits2 (k : Nat) (h0 : 16 ≤ k) (h1 : k < 256) (w : World) (h3 : 3 < w.heap.size) (hc : w.cell? ⟨3, 15, none⟩ = some (.int .u8 4)) :
    Calls Tryd.prog 67 #[.slice none 0 0, .int .u64 k, .int .i64 16, .bool false, .bool false] w fun e w' => e = .returned (.tuple #[.slice none 0 0, .string ⟨(hexL k).toArray⟩]) ∧ Below w.heap.size w w' := by
  have hl4 := low4 k h1
  have hk16 : k % 16 < 16 := Nat.mod_lt _ (by omega)
  go_enter Tryd.func67, Tryd.ntmps67
  go_wp2_with (first | (go_at_call 72; refine (pow2_16 _).mono ?_; rintro e w' ⟨rfl, rfl⟩) | fail)
  refine (tz _ ?_).mono ?_
  · go_simp
  rintro e w' ⟨rfl, rfl⟩
  go_wp2
  go_rounds 2
  simp only [dig_at]
  rw [conv_back _ ⟨w.heap.size, 63, none⟩ 2 2 [dig (k / 16), dig (k % 16)] rfl ?_]
  · go_wp2
    go_ret2
    refine ⟨?_, ?_⟩
    · rw [show hexL k = [dig (k / 16), dig (k % 16)] from if_neg (by omega)]
      rfl
    · exact (Below.refl _ _).alloc (Nat.le_refl _) _
  · intro j hj
    have hj2 : j < 2 := by simpa using hj
    rcases Nat.lt_or_ge j 1 with hj0 | hj1
    · obtain rfl : j = 0 := by omega
      rw [show (⟨w.heap.size, 63, none⟩ : Addr).add 0 = ⟨w.heap.size, 63, none⟩ from rfl, World.cell?_alloc_mark]
      rw [Array.getElem?_setIfInBounds_self_of_lt (by rw [Array.size_setIfInBounds, zc_size]; omega)]
      rfl
    · obtain rfl : j = 1 := by omega
      rw [show (⟨w.heap.size, 63, none⟩ : Addr).add 1 = ⟨w.heap.size, 64, none⟩ from rfl, World.cell?_alloc_mark]
      rw [Array.getElem?_setIfInBounds_ne (by omega), Array.getElem?_setIfInBounds_self_of_lt (by rw [zc_size]; omega)]
      rfl

theorem bitsAny (k : Nat) (h1 : k < 256) (w : World) (h3 : 3 < w.heap.size) (hc : w.cell? ⟨3, 15, none⟩ = some (.int .u8 4)) :
    Calls Tryd.prog 67 #[.slice none 0 0, .int .u64 k, .int .i64 16, .bool false, .bool false] w fun e w' => e = .returned (.tuple #[.slice none 0 0, .string ⟨(hexL k).toArray⟩]) ∧ Below w.heap.size w w' := by
  by_cases h : k < 16
  · exact bits1 k h w h3 hc
  · exact bits2 k (by omega) h1 w h3 hc

set_option maxHeartbeats 1000000 in
set_option maxRecDepth 100000 in
theorem formatInt (k : Nat) (h1 : k < 256) (w : World) (h3 : 3 < w.heap.size) (hc : w.cell? ⟨3, 15, none⟩ = some (.int .u8 4)) :
    Calls Tryd.prog 59 #[.int .i64 k, .int .i64 16] w fun e w' => e = .returned (.string ⟨(hexL k).toArray⟩) ∧ Below w.heap.size w w' := by
  go_enter Tryd.func59, Tryd.ntmps59
  go_wp2_with (first | (go_at_call 67; refine (bitsAny k h1 _ h3 hc).mono ?_; rintro e w' ⟨rfl, hb⟩))
  go_ret
  exact ⟨rfl, hb⟩

set_option maxHeartbeats 1000000 in
theorem formatInt16 (k : Nat) (h1 : k < 256) (w : World) (h3 : 3 < w.heap.size) (hc : w.cell? ⟨3, 15, none⟩ = some (.int .u8 4)) :
    Calls Tryd.prog 50 #[.int .i64 k, .int .i64 16] w fun e w' => e = .returned (.string ⟨(hexL k).toArray⟩) ∧ Below w.heap.size w w' := by
  go_enter Tryd.func50, Tryd.ntmps50
  go_wp2_with (first | (go_at_call 59; refine (formatInt k h1 _ h3 hc).mono ?_; rintro e w' ⟨rfl, hb⟩))
  go_ret
  exact ⟨rfl, hb⟩
end Go.Proofs.YtpblalklenebhaaDoor
