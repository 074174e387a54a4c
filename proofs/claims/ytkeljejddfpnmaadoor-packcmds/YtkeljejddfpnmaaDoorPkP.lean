/-
  Plain facts on the CRC-32C (no program in it): bit by bit, and by halves of bytes; a byte turned turns it.
-/
import Derived.Test.YtkeljejddfpnmaaDoorProg
namespace Go.Proofs.YtkeljejddfpnmaaDoor
open Go

def poly : Nat := 2197175160
/-- One bit. -/
def st1 (x : Nat) : Nat := x / 2 ^^^ (if x % 2 = 1 then poly else 0)
def tabH : List Nat := [0, 274646895, 549293790, 820201905, 1098587580, 1361435347, 1640403810, 1905808397, 2197175160, 2460548119, 2722870694, 2987750089, 3280807620, 3553878443, 3811616794, 4084100981]
/-- Four bits, by the table. -/
def half (s : Nat) : Nat := s / 16 ^^^ tabH.getD (s % 16) 0
def crcB (s : Nat) (b : UInt8) : Nat := half (half (s ^^^ b.toNat))
def crcS (s : Nat) (l : List UInt8) : Nat := l.foldl crcB s
def crcL (l : List UInt8) : Nat := 4294967295 ^^^ crcS 4294967295 l

theorem xor_half (a b : Nat) : (a ^^^ b) / 2 = a / 2 ^^^ b / 2 := by
  have := Nat.shiftRight_xor_distrib (a := a) (b := b) (i := 1)
  simpa [Nat.shiftRight_eq_div_pow] using this
theorem xor_odd (a b : Nat) : (a ^^^ b) % 2 = (a % 2 + b % 2) % 2 := by
  have := Nat.xor_mod_two_pow (a := a) (b := b) (n := 1)
  simp only [Nat.pow_one] at this
  rw [this]
  rcases Nat.mod_two_eq_zero_or_one a with h | h <;> rcases Nat.mod_two_eq_zero_or_one b with k | k <;> rw [h, k] <;> rfl

theorem xor_canc {a b c : Nat} (h : a ^^^ c = b ^^^ c) : a = b := by
  have := congrArg (· ^^^ c) h
  simpa [Nat.xor_assoc] using this
theorem xor_cancl {a b c : Nat} (h : c ^^^ a = c ^^^ b) : a = b := xor_canc (c := c) (by rwa [Nat.xor_comm a, Nat.xor_comm b])

/-- Four bits one by one are four bits by the table. -/
theorem st4_half (x : Nat) : st1 (st1 (st1 (st1 x))) = half x := by
  have h2 : x / 2 / 2 = x / 4 := by omega
  have h3 : x / 4 / 2 = x / 8 := by omega
  have h4 : x / 8 / 2 = x / 16 := by omega
  have hb : ∃ b0 b1 b2 b3 : Nat, b0 < 2 ∧ b1 < 2 ∧ b2 < 2 ∧ b3 < 2 ∧ x % 2 = b0 ∧ x / 2 % 2 = b1 ∧ x / 4 % 2 = b2 ∧ x / 8 % 2 = b3 ∧ x % 16 = b0 + 2 * b1 + 4 * b2 + 8 * b3 :=
    ⟨x % 2, x / 2 % 2, x / 4 % 2, x / 8 % 2, by omega, by omega, by omega, by omega, rfl, rfl, rfl, rfl, by omega⟩
  obtain ⟨b0, b1, b2, b3, l0, l1, l2, l3, e0, e1, e2, e3, e4⟩ := hb
  have c0 : b0 = 0 ∨ b0 = 1 := by omega
  have c1 : b1 = 0 ∨ b1 = 1 := by omega
  have c2 : b2 = 0 ∨ b2 = 1 := by omega
  have c3 : b3 = 0 ∨ b3 = 1 := by omega
  rcases c0 with rfl | rfl <;> rcases c1 with rfl | rfl <;> rcases c2 with rfl | rfl <;> rcases c3 with rfl | rfl <;>
    simp [st1, half, tabH, poly, e0, e1, e2, e3, e4, xor_half, xor_odd, h2, h3, h4, Nat.xor_assoc]

theorem st1_lt {x : Nat} (h : x < 4294967296) : st1 x < 4294967296 := by
  unfold st1
  refine Nat.xor_lt_two_pow (n := 32) (by omega) ?_
  unfold poly
  split <;> omega
theorem half_lt {x : Nat} (h : x < 4294967296) : half x < 4294967296 := by
  rw [← st4_half]
  exact st1_lt (st1_lt (st1_lt (st1_lt h)))
theorem byte_xor_lt {x : Nat} (h : x < 4294967296) (b : UInt8) : x ^^^ b.toNat < 4294967296 :=
  Nat.xor_lt_two_pow (n := 32) h (by have := b.toNat_lt; omega)
theorem crcB_lt {x : Nat} (h : x < 4294967296) (b : UInt8) : crcB x b < 4294967296 := half_lt (half_lt (byte_xor_lt h b))
theorem crcS_lt : ∀ (l : List UInt8) {x : Nat}, x < 4294967296 → crcS x l < 4294967296
  | [], _, h => h
  | b :: l, _, h => crcS_lt l (crcB_lt h b)
theorem crcL_lt (l : List UInt8) : crcL l < 4294967296 := Nat.xor_lt_two_pow (n := 32) (by decide) (crcS_lt l (by decide))
theorem crcS_append (s : Nat) (l m : List UInt8) : crcS s (l ++ m) = crcS (crcS s l) m := List.foldl_append

/-! ## Nothing is lost on the way. -/

theorem top_bit {x : Nat} (h : x < 4294967296) : 2147483648 ≤ st1 x ↔ x % 2 = 1 := by
  have hx : x / 2 < 2 ^ 31 := by omega
  unfold st1
  rcases Nat.mod_two_eq_zero_or_one x with e | e
  · rw [e]
    simp only [Nat.zero_ne_one, if_false, Nat.xor_zero, iff_false]
    omega
  · rw [e, if_pos rfl]
    simp only [iff_true]
    have t : (x / 2 ^^^ poly).testBit 31 = true := by
      rw [Nat.testBit_xor, Nat.testBit_lt_two_pow hx]
      rfl
    have := Nat.ge_two_pow_of_testBit t
    omega
theorem st1_inj {x y : Nat} (hx : x < 4294967296) (hy : y < 4294967296) (h : st1 x = st1 y) : x = y := by
  have e : x % 2 = y % 2 := by
    have a := top_bit hx
    have b := top_bit hy
    rw [h] at a
    have c := a.symm.trans b
    omega
  unfold st1 at h
  rw [e] at h
  have := xor_canc h
  omega
theorem half_inj {x y : Nat} (hx : x < 4294967296) (hy : y < 4294967296) (h : half x = half y) : x = y := by
  rw [← st4_half, ← st4_half] at h
  exact st1_inj hx hy (st1_inj (st1_lt hx) (st1_lt hy) (st1_inj (st1_lt (st1_lt hx)) (st1_lt (st1_lt hy)) (st1_inj (st1_lt (st1_lt (st1_lt hx))) (st1_lt (st1_lt (st1_lt hy))) h)))
theorem crcB_inj {x y : Nat} (hx : x < 4294967296) (hy : y < 4294967296) (b c : UInt8) (h : crcB x b = crcB y c) : x ^^^ b.toNat = y ^^^ c.toNat :=
  half_inj (byte_xor_lt hx b) (byte_xor_lt hy c) (half_inj (half_lt (byte_xor_lt hx b)) (half_lt (byte_xor_lt hy c)) h)
theorem crcS_inj : ∀ (l : List UInt8) {x y : Nat}, x < 4294967296 → y < 4294967296 → crcS x l = crcS y l → x = y
  | [], _, _, _, _, h => h
  | b :: l, _, _, hx, hy, h => xor_canc (crcB_inj hx hy b b (crcS_inj l (crcB_lt hx b) (crcB_lt hy b) h))
/-- One byte turned turns the sum. -/
theorem crcL_turn (l m : List UInt8) (b c : UInt8) (h : crcL (l ++ b :: m) = crcL (l ++ c :: m)) : b = c := by
  unfold crcL at h
  have h := xor_cancl h
  rw [crcS_append, crcS_append] at h
  have hl : crcS 4294967295 l < 4294967296 := crcS_lt l (by decide)
  have h2 := crcB_inj hl hl b c (crcS_inj m (crcB_lt hl b) (crcB_lt hl c) h)
  exact UInt8.toNat.inj (xor_cancl h2)

/-- Four bytes, the highest first. -/
def be4 (n : Nat) : List UInt8 := [UInt8.ofNat (n / 16777216), UInt8.ofNat (n / 65536), UInt8.ofNat (n / 256), UInt8.ofNat n]
end Go.Proofs.YtkeljejddfpnmaaDoor
