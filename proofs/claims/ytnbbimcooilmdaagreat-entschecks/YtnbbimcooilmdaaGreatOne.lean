/-
  chancelref1.One: the rune at a place in bytes.
-/
import Derived.Test.YtnbbimcooilmdaaGreatEnLaw
import Derived.Handy
namespace Go.Proofs.YtnbbimcooilmdaaGreat
open Go.RowKit

theorem and192 (x : Nat) (h : x < 256) : bits .and .u8 (x : Int) 192 = ((x / 64 * 64 : Nat) : Int) := by
  have key : ∀ y : Fin 256, bits .and .u8 ((y.val : Nat) : Int) 192 = ((y.val / 64 * 64 : Nat) : Int) := by decide +kernel
  exact key ⟨x, h⟩

set_option maxHeartbeats 2000000 in
set_option maxRecDepth 100000 in
theorem one_ascii (s : ByteArray) (i : Nat) (w : World) (hi : i < s.size) (h0 : s[i].toNat < 128) :
    Calls Tryz.prog 81 #[.string s, .int .i64 i] w fun e w' => e = .returned (.tuple #[.int .i32 (s[i].toNat : Int), .int .i64 1]) ∧ w' = w := by
  go_enter Tryz.func81, Tryz.ntmps81
  go_wp2
  go_ret2
  exact ⟨rfl, rfl⟩

set_option maxHeartbeats 2000000 in
set_option maxRecDepth 100000 in
theorem one_lo (s : ByteArray) (i : Nat) (w : World) (hi : i < s.size) (h0 : 128 ≤ s[i].toNat) (h1 : s[i].toNat < 192) :
    Calls Tryz.prog 81 #[.string s, .int .i64 i] w fun e w' => e = .returned (.tuple #[.int .i32 0, .int .i64 0]) ∧ w' = w := by
  go_enter Tryz.func81, Tryz.ntmps81
  go_wp2
  go_ret2
  exact ⟨rfl, rfl⟩

set_option maxHeartbeats 2000000 in
set_option maxRecDepth 100000 in
theorem one_hi (s : ByteArray) (i : Nat) (w : World) (hi : i < s.size) (h0 : 248 ≤ s[i].toNat) :
    Calls Tryz.prog 81 #[.string s, .int .i64 i] w fun e w' => e = .returned (.tuple #[.int .i32 0, .int .i64 0]) ∧ w' = w := by
  go_enter Tryz.func81, Tryz.ntmps81
  go_wp2
  go_ret2
  exact ⟨rfl, rfl⟩

set_option maxHeartbeats 2000000 in
set_option maxRecDepth 100000 in
theorem one2_short (s : ByteArray) (i : Nat) (hs : s.size ≤ 1099511627776) (w : World) (hi : i < s.size) (hl : s.size < i + 2) (h0 : 192 ≤ s[i].toNat) (h1 : s[i].toNat < 224) :
    Calls Tryz.prog 81 #[.string s, .int .i64 i] w fun e w' => e = .returned (.tuple #[.int .i32 0, .int .i64 0]) ∧ w' = w := by
  go_enter Tryz.func81, Tryz.ntmps81
  go_wp2
  go_ret2
  exact ⟨rfl, rfl⟩

set_option maxHeartbeats 2000000 in
set_option maxRecDepth 100000 in
theorem one2_cont1 (s : ByteArray) (i : Nat) (hs : s.size ≤ 1099511627776) (w : World) (hi : i + 1 < s.size) (h0 : 192 ≤ s[i].toNat) (h1 : s[i].toNat < 224) (hn1 : s[i + 1].toNat / 64 ≠ 2) :
    Calls Tryz.prog 81 #[.string s, .int .i64 i] w fun e w' => e = .returned (.tuple #[.int .i32 0, .int .i64 0]) ∧ w' = w := by
  have a1 : (bits .and .u8 (s[i + 1].toNat : Int) 192 == 128) = false := by
    have := s[i + 1].toNat_lt
    rw [and192 _ this]
    simp
    omega
  go_enter Tryz.func81, Tryz.ntmps81
  go_wp2
  go_rounds 1
  go_ret2
  exact ⟨rfl, rfl⟩

set_option maxHeartbeats 2000000 in
set_option maxRecDepth 100000 in
theorem one2_lo (s : ByteArray) (i : Nat) (hs : s.size ≤ 1099511627776) (w : World) (hi : i + 1 < s.size) (h0 : 192 ≤ s[i].toNat) (h1 : s[i].toNat < 224) (hc1 : s[i + 1].toNat / 64 = 2) (hv : ((s[i].toNat : Int) % 32 * 64 + (s[i + 1].toNat : Int) % 64) < 128) :
    Calls Tryz.prog 81 #[.string s, .int .i64 i] w fun e w' => e = .returned (.tuple #[.int .i32 0, .int .i64 0]) ∧ w' = w := by
  have a1 : bits .and .u8 (s[i + 1].toNat : Int) 192 = 128 := by rw [and192 _ s[i + 1].toNat_lt, hc1]; rfl
  go_enter Tryz.func81, Tryz.ntmps81
  go_wp2
  go_rounds 2
  go_ret2
  exact ⟨rfl, rfl⟩

set_option maxHeartbeats 2000000 in
set_option maxRecDepth 100000 in
theorem one2_good (s : ByteArray) (i : Nat) (hs : s.size ≤ 1099511627776) (w : World) (hi : i + 1 < s.size) (h0 : 192 ≤ s[i].toNat) (h1 : s[i].toNat < 224) (hc1 : s[i + 1].toNat / 64 = 2) (hv : 128 ≤ ((s[i].toNat : Int) % 32 * 64 + (s[i + 1].toNat : Int) % 64)) :
    Calls Tryz.prog 81 #[.string s, .int .i64 i] w fun e w' => e = .returned (.tuple #[.int .i32 ((s[i].toNat : Int) % 32 * 64 + (s[i + 1].toNat : Int) % 64), .int .i64 2]) ∧ w' = w := by
  have a1 : bits .and .u8 (s[i + 1].toNat : Int) 192 = 128 := by rw [and192 _ s[i + 1].toNat_lt, hc1]; rfl
  go_enter Tryz.func81, Tryz.ntmps81
  go_wp2
  go_rounds 2
  go_ret2
  exact ⟨rfl, rfl⟩

set_option maxHeartbeats 2000000 in
set_option maxRecDepth 100000 in
theorem one3_short (s : ByteArray) (i : Nat) (hs : s.size ≤ 1099511627776) (w : World) (hi : i < s.size) (hl : s.size < i + 3) (h0 : 224 ≤ s[i].toNat) (h1 : s[i].toNat < 240) :
    Calls Tryz.prog 81 #[.string s, .int .i64 i] w fun e w' => e = .returned (.tuple #[.int .i32 0, .int .i64 0]) ∧ w' = w := by
  go_enter Tryz.func81, Tryz.ntmps81
  go_wp2
  go_ret2
  exact ⟨rfl, rfl⟩

set_option maxHeartbeats 2000000 in
set_option maxRecDepth 100000 in
theorem one3_cont1 (s : ByteArray) (i : Nat) (hs : s.size ≤ 1099511627776) (w : World) (hi : i + 2 < s.size) (h0 : 224 ≤ s[i].toNat) (h1 : s[i].toNat < 240) (hn1 : s[i + 1].toNat / 64 ≠ 2) :
    Calls Tryz.prog 81 #[.string s, .int .i64 i] w fun e w' => e = .returned (.tuple #[.int .i32 0, .int .i64 0]) ∧ w' = w := by
  have a1 : (bits .and .u8 (s[i + 1].toNat : Int) 192 == 128) = false := by
    have := s[i + 1].toNat_lt
    rw [and192 _ this]
    simp
    omega
  go_enter Tryz.func81, Tryz.ntmps81
  go_wp2
  go_rounds 1
  go_ret2
  exact ⟨rfl, rfl⟩

set_option maxHeartbeats 2000000 in
set_option maxRecDepth 100000 in
theorem one3_cont2 (s : ByteArray) (i : Nat) (hs : s.size ≤ 1099511627776) (w : World) (hi : i + 2 < s.size) (h0 : 224 ≤ s[i].toNat) (h1 : s[i].toNat < 240) (hc1 : s[i + 1].toNat / 64 = 2) (hn2 : s[i + 2].toNat / 64 ≠ 2) :
    Calls Tryz.prog 81 #[.string s, .int .i64 i] w fun e w' => e = .returned (.tuple #[.int .i32 0, .int .i64 0]) ∧ w' = w := by
  have a1 : bits .and .u8 (s[i + 1].toNat : Int) 192 = 128 := by rw [and192 _ s[i + 1].toNat_lt, hc1]; rfl
  have a2 : (bits .and .u8 (s[i + 2].toNat : Int) 192 == 128) = false := by
    have := s[i + 2].toNat_lt
    rw [and192 _ this]
    simp
    omega
  go_enter Tryz.func81, Tryz.ntmps81
  go_wp2
  go_rounds 2
  go_ret2
  exact ⟨rfl, rfl⟩

set_option maxHeartbeats 2000000 in
set_option maxRecDepth 100000 in
theorem one4_short (s : ByteArray) (i : Nat) (hs : s.size ≤ 1099511627776) (w : World) (hi : i < s.size) (hl : s.size < i + 4) (h0 : 240 ≤ s[i].toNat) (h1 : s[i].toNat < 248) :
    Calls Tryz.prog 81 #[.string s, .int .i64 i] w fun e w' => e = .returned (.tuple #[.int .i32 0, .int .i64 0]) ∧ w' = w := by
  go_enter Tryz.func81, Tryz.ntmps81
  go_wp2
  go_ret2
  exact ⟨rfl, rfl⟩

set_option maxHeartbeats 2000000 in
set_option maxRecDepth 100000 in
theorem one4_cont1 (s : ByteArray) (i : Nat) (hs : s.size ≤ 1099511627776) (w : World) (hi : i + 3 < s.size) (h0 : 240 ≤ s[i].toNat) (h1 : s[i].toNat < 248) (hn1 : s[i + 1].toNat / 64 ≠ 2) :
    Calls Tryz.prog 81 #[.string s, .int .i64 i] w fun e w' => e = .returned (.tuple #[.int .i32 0, .int .i64 0]) ∧ w' = w := by
  have a1 : (bits .and .u8 (s[i + 1].toNat : Int) 192 == 128) = false := by
    have := s[i + 1].toNat_lt
    rw [and192 _ this]
    simp
    omega
  go_enter Tryz.func81, Tryz.ntmps81
  go_wp2
  go_rounds 1
  go_ret2
  exact ⟨rfl, rfl⟩

set_option maxHeartbeats 2000000 in
set_option maxRecDepth 100000 in
theorem one4_cont2 (s : ByteArray) (i : Nat) (hs : s.size ≤ 1099511627776) (w : World) (hi : i + 3 < s.size) (h0 : 240 ≤ s[i].toNat) (h1 : s[i].toNat < 248) (hc1 : s[i + 1].toNat / 64 = 2) (hn2 : s[i + 2].toNat / 64 ≠ 2) :
    Calls Tryz.prog 81 #[.string s, .int .i64 i] w fun e w' => e = .returned (.tuple #[.int .i32 0, .int .i64 0]) ∧ w' = w := by
  have a1 : bits .and .u8 (s[i + 1].toNat : Int) 192 = 128 := by rw [and192 _ s[i + 1].toNat_lt, hc1]; rfl
  have a2 : (bits .and .u8 (s[i + 2].toNat : Int) 192 == 128) = false := by
    have := s[i + 2].toNat_lt
    rw [and192 _ this]
    simp
    omega
  go_enter Tryz.func81, Tryz.ntmps81
  go_wp2
  go_rounds 2
  go_ret2
  exact ⟨rfl, rfl⟩

set_option maxHeartbeats 2000000 in
set_option maxRecDepth 100000 in
theorem one4_cont3 (s : ByteArray) (i : Nat) (hs : s.size ≤ 1099511627776) (w : World) (hi : i + 3 < s.size) (h0 : 240 ≤ s[i].toNat) (h1 : s[i].toNat < 248) (hc1 : s[i + 1].toNat / 64 = 2) (hc2 : s[i + 2].toNat / 64 = 2) (hn3 : s[i + 3].toNat / 64 ≠ 2) :
    Calls Tryz.prog 81 #[.string s, .int .i64 i] w fun e w' => e = .returned (.tuple #[.int .i32 0, .int .i64 0]) ∧ w' = w := by
  have a1 : bits .and .u8 (s[i + 1].toNat : Int) 192 = 128 := by rw [and192 _ s[i + 1].toNat_lt, hc1]; rfl
  have a2 : bits .and .u8 (s[i + 2].toNat : Int) 192 = 128 := by rw [and192 _ s[i + 2].toNat_lt, hc2]; rfl
  have a3 : (bits .and .u8 (s[i + 3].toNat : Int) 192 == 128) = false := by
    have := s[i + 3].toNat_lt
    rw [and192 _ this]
    simp
    omega
  go_enter Tryz.func81, Tryz.ntmps81
  go_wp2
  go_rounds 3
  go_ret2
  exact ⟨rfl, rfl⟩

set_option maxHeartbeats 2000000 in
set_option maxRecDepth 100000 in
theorem one3_bad (s : ByteArray) (i : Nat) (hs : s.size ≤ 1099511627776) (w : World) (hi : i + 2 < s.size) (h0 : 224 ≤ s[i].toNat) (h1 : s[i].toNat < 240) (hc1 : s[i + 1].toNat / 64 = 2) (hc2 : s[i + 2].toNat / 64 = 2) (v : Int) (hve : v = (((s[i].toNat : Int) % 16 * 64 + (s[i + 1].toNat : Int) % 64) * 64 + (s[i + 2].toNat : Int) % 64)) (hval : Lib.validRune v = false) :
    Calls Tryz.prog 81 #[.string s, .int .i64 i] w fun e w' => e = .returned (.tuple #[.int .i32 0, .int .i64 0]) ∧ w' = w := by
  have HVE := hide hve
  clear hve
  have a1 : bits .and .u8 (s[i + 1].toNat : Int) 192 = 128 := by rw [and192 _ s[i + 1].toNat_lt, hc1]; rfl
  have a2 : bits .and .u8 (s[i + 2].toNat : Int) 192 = 128 := by rw [and192 _ s[i + 2].toNat_lt, hc2]; rfl
  go_enter Tryz.func81, Tryz.ntmps81
  go_wp2
  refine wp_loop_rounds 3 ?_
  repeat any_goals (rw [rounds_succ]; go_wp2_with fail)
  rw [← unhide HVE]
  refine (is_any _ _).mono ?_
  rintro e w' ⟨rfl, rfl⟩
  rw [hval]
  go_wp2
  go_ret2
  exact ⟨rfl, rfl⟩

set_option maxHeartbeats 2000000 in
set_option maxRecDepth 100000 in
theorem one3_lo (s : ByteArray) (i : Nat) (hs : s.size ≤ 1099511627776) (w : World) (hi : i + 2 < s.size) (h0 : 224 ≤ s[i].toNat) (h1 : s[i].toNat < 240) (hc1 : s[i + 1].toNat / 64 = 2) (hc2 : s[i + 2].toNat / 64 = 2) (v : Int) (hve : v = (((s[i].toNat : Int) % 16 * 64 + (s[i + 1].toNat : Int) % 64) * 64 + (s[i + 2].toNat : Int) % 64)) (hval : Lib.validRune v = true) (hlt : v < 2048) :
    Calls Tryz.prog 81 #[.string s, .int .i64 i] w fun e w' => e = .returned (.tuple #[.int .i32 0, .int .i64 0]) ∧ w' = w := by
  have HVE := hide hve
  clear hve
  have a1 : bits .and .u8 (s[i + 1].toNat : Int) 192 = 128 := by rw [and192 _ s[i + 1].toNat_lt, hc1]; rfl
  have a2 : bits .and .u8 (s[i + 2].toNat : Int) 192 = 128 := by rw [and192 _ s[i + 2].toNat_lt, hc2]; rfl
  go_enter Tryz.func81, Tryz.ntmps81
  go_wp2
  refine wp_loop_rounds 3 ?_
  repeat any_goals (rw [rounds_succ]; go_wp2_with fail)
  rw [← unhide HVE]
  refine (is_any _ _).mono ?_
  rintro e w' ⟨rfl, rfl⟩
  rw [hval]
  go_wp2
  go_ret2
  exact ⟨rfl, rfl⟩

set_option maxHeartbeats 2000000 in
set_option maxRecDepth 100000 in
theorem one3_good (s : ByteArray) (i : Nat) (hs : s.size ≤ 1099511627776) (w : World) (hi : i + 2 < s.size) (h0 : 224 ≤ s[i].toNat) (h1 : s[i].toNat < 240) (hc1 : s[i + 1].toNat / 64 = 2) (hc2 : s[i + 2].toNat / 64 = 2) (v : Int) (hve : v = (((s[i].toNat : Int) % 16 * 64 + (s[i + 1].toNat : Int) % 64) * 64 + (s[i + 2].toNat : Int) % 64)) (hval : Lib.validRune v = true) (hlt : 2048 ≤ v) :
    Calls Tryz.prog 81 #[.string s, .int .i64 i] w fun e w' => e = .returned (.tuple #[.int .i32 v, .int .i64 3]) ∧ w' = w := by
  have HVE := hide hve
  clear hve
  have a1 : bits .and .u8 (s[i + 1].toNat : Int) 192 = 128 := by rw [and192 _ s[i + 1].toNat_lt, hc1]; rfl
  have a2 : bits .and .u8 (s[i + 2].toNat : Int) 192 = 128 := by rw [and192 _ s[i + 2].toNat_lt, hc2]; rfl
  go_enter Tryz.func81, Tryz.ntmps81
  go_wp2
  refine wp_loop_rounds 3 ?_
  repeat any_goals (rw [rounds_succ]; go_wp2_with fail)
  rw [← unhide HVE]
  refine (is_any _ _).mono ?_
  rintro e w' ⟨rfl, rfl⟩
  rw [hval]
  go_wp2
  go_ret2
  exact ⟨rfl, rfl⟩

set_option maxHeartbeats 2000000 in
set_option maxRecDepth 100000 in
theorem one4_bad (s : ByteArray) (i : Nat) (hs : s.size ≤ 1099511627776) (w : World) (hi : i + 3 < s.size) (h0 : 240 ≤ s[i].toNat) (h1 : s[i].toNat < 248) (hc1 : s[i + 1].toNat / 64 = 2) (hc2 : s[i + 2].toNat / 64 = 2) (hc3 : s[i + 3].toNat / 64 = 2) (v : Int) (hve : v = ((((s[i].toNat : Int) % 8 * 64 + (s[i + 1].toNat : Int) % 64) * 64 + (s[i + 2].toNat : Int) % 64) * 64 + (s[i + 3].toNat : Int) % 64)) (hval : Lib.validRune v = false) :
    Calls Tryz.prog 81 #[.string s, .int .i64 i] w fun e w' => e = .returned (.tuple #[.int .i32 0, .int .i64 0]) ∧ w' = w := by
  have HVE := hide hve
  clear hve
  have a1 : bits .and .u8 (s[i + 1].toNat : Int) 192 = 128 := by rw [and192 _ s[i + 1].toNat_lt, hc1]; rfl
  have a2 : bits .and .u8 (s[i + 2].toNat : Int) 192 = 128 := by rw [and192 _ s[i + 2].toNat_lt, hc2]; rfl
  have a3 : bits .and .u8 (s[i + 3].toNat : Int) 192 = 128 := by rw [and192 _ s[i + 3].toNat_lt, hc3]; rfl
  go_enter Tryz.func81, Tryz.ntmps81
  go_wp2
  refine wp_loop_rounds 4 ?_
  repeat any_goals (rw [rounds_succ]; go_wp2_with fail)
  rw [← unhide HVE]
  refine (is_any _ _).mono ?_
  rintro e w' ⟨rfl, rfl⟩
  rw [hval]
  go_wp2
  go_ret2
  exact ⟨rfl, rfl⟩

set_option maxHeartbeats 2000000 in
set_option maxRecDepth 100000 in
theorem one4_lo (s : ByteArray) (i : Nat) (hs : s.size ≤ 1099511627776) (w : World) (hi : i + 3 < s.size) (h0 : 240 ≤ s[i].toNat) (h1 : s[i].toNat < 248) (hc1 : s[i + 1].toNat / 64 = 2) (hc2 : s[i + 2].toNat / 64 = 2) (hc3 : s[i + 3].toNat / 64 = 2) (v : Int) (hve : v = ((((s[i].toNat : Int) % 8 * 64 + (s[i + 1].toNat : Int) % 64) * 64 + (s[i + 2].toNat : Int) % 64) * 64 + (s[i + 3].toNat : Int) % 64)) (hval : Lib.validRune v = true) (hlt : v < 65536) :
    Calls Tryz.prog 81 #[.string s, .int .i64 i] w fun e w' => e = .returned (.tuple #[.int .i32 0, .int .i64 0]) ∧ w' = w := by
  have HVE := hide hve
  clear hve
  have a1 : bits .and .u8 (s[i + 1].toNat : Int) 192 = 128 := by rw [and192 _ s[i + 1].toNat_lt, hc1]; rfl
  have a2 : bits .and .u8 (s[i + 2].toNat : Int) 192 = 128 := by rw [and192 _ s[i + 2].toNat_lt, hc2]; rfl
  have a3 : bits .and .u8 (s[i + 3].toNat : Int) 192 = 128 := by rw [and192 _ s[i + 3].toNat_lt, hc3]; rfl
  go_enter Tryz.func81, Tryz.ntmps81
  go_wp2
  refine wp_loop_rounds 4 ?_
  repeat any_goals (rw [rounds_succ]; go_wp2_with fail)
  rw [← unhide HVE]
  refine (is_any _ _).mono ?_
  rintro e w' ⟨rfl, rfl⟩
  rw [hval]
  go_wp2
  go_ret2
  exact ⟨rfl, rfl⟩

set_option maxHeartbeats 2000000 in
set_option maxRecDepth 100000 in
theorem one4_good (s : ByteArray) (i : Nat) (hs : s.size ≤ 1099511627776) (w : World) (hi : i + 3 < s.size) (h0 : 240 ≤ s[i].toNat) (h1 : s[i].toNat < 248) (hc1 : s[i + 1].toNat / 64 = 2) (hc2 : s[i + 2].toNat / 64 = 2) (hc3 : s[i + 3].toNat / 64 = 2) (v : Int) (hve : v = ((((s[i].toNat : Int) % 8 * 64 + (s[i + 1].toNat : Int) % 64) * 64 + (s[i + 2].toNat : Int) % 64) * 64 + (s[i + 3].toNat : Int) % 64)) (hval : Lib.validRune v = true) (hlt : 65536 ≤ v) :
    Calls Tryz.prog 81 #[.string s, .int .i64 i] w fun e w' => e = .returned (.tuple #[.int .i32 v, .int .i64 4]) ∧ w' = w := by
  have HVE := hide hve
  clear hve
  have a1 : bits .and .u8 (s[i + 1].toNat : Int) 192 = 128 := by rw [and192 _ s[i + 1].toNat_lt, hc1]; rfl
  have a2 : bits .and .u8 (s[i + 2].toNat : Int) 192 = 128 := by rw [and192 _ s[i + 2].toNat_lt, hc2]; rfl
  have a3 : bits .and .u8 (s[i + 3].toNat : Int) 192 = 128 := by rw [and192 _ s[i + 3].toNat_lt, hc3]; rfl
  go_enter Tryz.func81, Tryz.ntmps81
  go_wp2
  refine wp_loop_rounds 4 ?_
  repeat any_goals (rw [rounds_succ]; go_wp2_with fail)
  rw [← unhide HVE]
  refine (is_any _ _).mono ?_
  rintro e w' ⟨rfl, rfl⟩
  rw [hval]
  go_wp2
  go_ret2
  exact ⟨rfl, rfl⟩

end Go.Proofs.YtnbbimcooilmdaaGreat
