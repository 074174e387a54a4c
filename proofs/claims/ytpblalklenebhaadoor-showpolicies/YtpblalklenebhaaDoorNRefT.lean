/-
  chancelref2.digits, Text; num.Text: what they return.
-/
import Derived.Test.YtpblalklenebhaaDoorNRefP
import Derived.Test.YtpblalklenebhaaDoorNShelf
import Derived.Laws.IdiomStrings
import Derived.BigQuiet
import Derived.Deep.QuietTactic
import Derived.WalkKit
import Derived.BigCall
import Derived.Lib.OthersKept
import Derived.Lib.AppendIntMem
import Derived.WalkSmall
namespace Go.Proofs.YtpblalklenebhaaDoor
open Go.RowKit

set_option maxHeartbeats 1000000 in
set_option maxRecDepth 100000 in
theorem digits_one (m : Int) (h0 : 0 ≤ m) (h1 : m < 10) (w : World) :
    Calls Tryd.prog 52 #[.int .u64 m] w fun e w' => e = .returned (.string ⟨(Lib.decDigits m.toNat).toArray⟩) ∧ Below w.heap.size w w' := by
  have h2 : ¬ 10 ≤ m := by omega
  obtain ⟨c, hc⟩ : ∃ c : UInt8, c = UInt8.ofNat (48 + m.toNat) := ⟨_, rfl⟩
  have hb : ((c.toNat : Nat) : Int) = 48 + m := by
    rw [hc, UInt8.toNat_ofNat']
    omega
  have hcv : (convert 74 9 (.slice (some ⟨w.heap.size, 0, none⟩) 1 1)).run Tryd.prog (w.alloc (Obj.cells #[.int .u8 (48 + m)] 5)) = .ok (.string ⟨#[c]⟩) (w.alloc (Obj.cells #[.int .u8 (48 + m)] 5)) := by
    refine run_convert_bytes_back _ 74 9 5 ⟨w.heap.size, 0, none⟩ 1 [c] Tryd.underlying74 Tryd.underlying5 Tryd.underlying9 ?_
    intro j hj
    have hj0 : j = 0 := by simpa using hj
    subst hj0
    show _ = some (Value.int .u8 ((c.toNat : Nat) : Int))
    rw [hb]
    simp [Addr.add]
  have HC := hide hc
  clear hb hc
  go_enter Tryd.func52, Tryd.ntmps52
  go_wp2
  go_ret
  refine ⟨?_, (Below.refl _ w).alloc (Nat.le_refl _) _⟩
  rw [Lib.decDigits_one (by omega), ← unhide HC]
  rfl

set_option maxHeartbeats 1000000 in
set_option maxRecDepth 100000 in
theorem digits_upto : ∀ (N : Nat) (m : Int), 0 ≤ m → m < N → m < 18446744073709551616 → ∀ w : World,
    Calls Tryd.prog 52 #[.int .u64 m] w fun e w' => e = .returned (.string ⟨(Lib.decDigits m.toNat).toArray⟩) ∧ Below w.heap.size w w'
  | 0, m, h0, h1, _, _ => by omega
  | N + 1, m, h0, h1, h2, w => by
    by_cases h10 : m < 10
    · exact digits_one m h0 h10 w
    · have hle : 10 ≤ m := by omega
      have D1 := digits_upto N (m / 10) (by omega) (by omega) (by omega)
      have D2 := digits_one (m % 10) (by omega) (by omega)
      have e1 : Lib.decDigits m.toNat = Lib.decDigits (m / 10).toNat ++ Lib.decDigits (m % 10).toNat := by
        rw [Lib.decDigits, dif_neg (by omega), Lib.decDigits_one (i := (m % 10).toNat) (by omega)]
        congr 2
        · omega
        · congr 1
          congr 1
          omega
      have l1 := dec_len20 (m / 10).toNat (by omega)
      have l2 := dec_len20 (m % 10).toNat (by omega)
      obtain ⟨x, hx⟩ : ∃ x : ByteArray, x = ⟨(Lib.decDigits (m / 10).toNat).toArray⟩ := ⟨_, rfl⟩
      obtain ⟨y, hy⟩ : ∃ y : ByteArray, y = ⟨(Lib.decDigits (m % 10).toNat).toArray⟩ := ⟨_, rfl⟩
      have x1 : x.size ≤ 20 := by rw [hx]; exact l1
      have y1 : y.size ≤ 20 := by rw [hy]; exact l2
      rw [← hx] at D1
      rw [← hy] at D2
      have e2 : (⟨(Lib.decDigits m.toNat).toArray⟩ : ByteArray) = x ++ y := by
        rw [hx, hy, e1]
        apply ByteArray.ext
        simp
      rw [e2]
      clear e1 e2 hx hy l1 l2
      go_enter Tryd.func52, Tryd.ntmps52
      go_wp2_with fail
      refine (D1 _).mono ?_
      rintro e w1 ⟨rfl, b1⟩
      go_wp2_with fail
      refine (D2 _).mono ?_
      rintro e w2 ⟨rfl, b2⟩
      clear D1 D2
      go_wp2
      go_ret
      exact ⟨rfl, b1.trans (b2.mono b1.size)⟩

theorem ndigits_any (m : Int) (h0 : 0 ≤ m) (h1 : m < 18446744073709551616) (w : World) :
    Calls Tryd.prog 52 #[.int .u64 m] w fun e w' => e = .returned (.string ⟨(Lib.decDigits m.toNat).toArray⟩) ∧ Below w.heap.size w w' :=
  digits_upto 18446744073709551616 m h0 h1 h1 w

set_option maxHeartbeats 1000000 in
set_option maxRecDepth 100000 in
theorem rtext_any (a : Int) (ha : InR a) (w : World) :
    Calls Tryd.prog 29 #[.int .i64 a] w fun e w' => e = .returned (.string ⟨(Lib.itoa a).toArray⟩) ∧ Below w.heap.size w w' := by
  obtain ⟨a0, a1⟩ := ha
  by_cases h : a < 0
  · obtain ⟨u, hu⟩ : ∃ u : Nat, a = -(u : Int) := ⟨a.natAbs, by omega⟩
    obtain ⟨t, htu⟩ : ∃ t : Int, t = (u : Int) := ⟨_, rfl⟩
    have D := ndigits_any t (by omega) (by omega)
    have l1 := dec_len20 t.toNat (by omega)
    obtain ⟨x, hx⟩ : ∃ x : ByteArray, x = ⟨(Lib.decDigits t.toNat).toArray⟩ := ⟨_, rfl⟩
    have x1 : x.size ≤ 20 := by rw [hx]; exact l1
    rw [← hx] at D
    have e2 : (⟨(Lib.itoa a).toArray⟩ : ByteArray) = ⟨#[45]⟩ ++ x := by
      rw [hx, hu, Lib.itoa_neg u (by omega), htu]
      apply ByteArray.ext
      simp
    rw [e2]
    obtain ⟨q, hq⟩ : ∃ q : Int, q = 18446744073709551616 - t := ⟨_, rfl⟩
    have hw1 : IntKind.u64.wrap a = q := by
      rw [IntKind.wrap_u64]
      omega
    have hw2 : IntKind.u64.wrap (-q) = t := by
      rw [IntKind.wrap_u64]
      omega
    clear e2 hx l1 hq htu hu
    go_enter Tryd.func29, Tryd.ntmps29
    go_wp2_with fail
    refine (D _).mono ?_
    rintro e w1 ⟨rfl, b1⟩
    go_wp2
    go_ret
    exact ⟨rfl, b1⟩
  · have D := ndigits_any a (by omega) (by omega)
    have e2 : Lib.itoa a = Lib.decDigits a.toNat := by unfold Lib.itoa; rw [if_neg h]
    rw [e2]
    clear e2
    go_enter Tryd.func29, Tryd.ntmps29
    go_wp2_with fail
    refine (D _).mono ?_
    rintro e w1 ⟨rfl, b1⟩
    go_wp2
    go_ret
    exact ⟨rfl, b1⟩

set_option maxHeartbeats 1000000 in
set_option maxRecDepth 100000 in
theorem text_any (a : Int) (ha : InR a) (w : World) (ht : Lib.TabIs Tryd.prog w "internal/strconv.uint64pow10" .u64 Lib.pow10Tab) :
    Calls Tryd.prog 25 #[.int .i64 a] w fun e w' => e = .returned (.string ⟨(Lib.itoa a).toArray⟩) ∧ Below w.heap.size w w' := by
  obtain ⟨a0, a1⟩ := ha
  go_enter Tryd.func25, Tryd.ntmps25
  go_wp2_with fail
  refine (Tryd.strconv_FormatInt_10 a a0 a1 _ ht).mono ?_
  rintro e w1 ⟨rfl, k, os, rfl⟩
  go_wp2
  go_ret
  exact ⟨rfl, Lib.below_grow _ w (Nat.le_refl _) k os⟩
end Go.Proofs.YtpblalklenebhaaDoor
