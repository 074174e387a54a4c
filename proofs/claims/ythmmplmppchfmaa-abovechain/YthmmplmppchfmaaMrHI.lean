/-
  sort.xorshift.Next, nextPowerOfTwo, breakPatterns_func over a short row: what they do.
  sort.breakPatterns_func over a short row: what it does.
-/
import Derived.Test.YthmmplmppchfmaaMrFG
import Derived.Test.YthmmplmppchfmaaMqSV
import Derived.Sort.Walk7a
namespace Go.Proofs.Ythmmplmppchfmaa
open Go.RowKit Go.Sort

set_option maxHeartbeats 4000000 in
set_option maxRecDepth 1000000 in
theorem bits64_A (n : Nat) (h1 : 13 ≤ n) (h2 : n < 16) (w : World) : Calls Try.prog 59 #[.int .u64 n] w fun e w' => e = .returned (.int .i64 4) ∧ w' = w := by
  have hc : n = 13 ∨ n = 14 ∨ n = 15 := by omega
  clear h1 h2
  rcases hc with rfl | rfl | rfl
  all_goals
    go_enter Try.func59, Try.ntmps59
    go_wp2
    go_ret
    exact ⟨congrArg (fun z => Ending.returned (Value.int .i64 z)) (show wrap64 (wrap64 (Lib.len8 _)) = _ by decide +kernel), rfl⟩
set_option maxHeartbeats 4000000 in
set_option maxRecDepth 1000000 in
theorem bits64_B (n : Nat) (h1 : 16 ≤ n) (h2 : n < 32) (w : World) : Calls Try.prog 59 #[.int .u64 n] w fun e w' => e = .returned (.int .i64 5) ∧ w' = w := by
  have hc : n = 16 ∨ n = 17 ∨ n = 18 ∨ n = 19 ∨ n = 20 ∨ n = 21 ∨ n = 22 ∨ n = 23 ∨ n = 24 ∨ n = 25 ∨ n = 26 ∨ n = 27 ∨ n = 28 ∨ n = 29 ∨ n = 30 ∨ n = 31 := by omega
  clear h1 h2
  rcases hc with rfl | rfl | rfl | rfl | rfl | rfl | rfl | rfl | rfl | rfl | rfl | rfl | rfl | rfl | rfl | rfl
  all_goals
    go_enter Try.func59, Try.ntmps59
    go_wp2
    go_ret
    exact ⟨congrArg (fun z => Ending.returned (Value.int .i64 z)) (show wrap64 (wrap64 (Lib.len8 _)) = _ by decide +kernel), rfl⟩
set_option maxHeartbeats 4000000 in
set_option maxRecDepth 1000000 in
theorem bits64_C (n : Nat) (h1 : 32 ≤ n) (h2 : n < 50) (w : World) : Calls Try.prog 59 #[.int .u64 n] w fun e w' => e = .returned (.int .i64 6) ∧ w' = w := by
  have hc : n = 32 ∨ n = 33 ∨ n = 34 ∨ n = 35 ∨ n = 36 ∨ n = 37 ∨ n = 38 ∨ n = 39 ∨ n = 40 ∨ n = 41 ∨ n = 42 ∨ n = 43 ∨ n = 44 ∨ n = 45 ∨ n = 46 ∨ n = 47 ∨ n = 48 ∨ n = 49 := by omega
  clear h1 h2
  rcases hc with rfl | rfl | rfl | rfl | rfl | rfl | rfl | rfl | rfl | rfl | rfl | rfl | rfl | rfl | rfl | rfl | rfl | rfl
  all_goals
    go_enter Try.func59, Try.ntmps59
    go_wp2
    go_ret
    exact ⟨congrArg (fun z => Ending.returned (Value.int .i64 z)) (show wrap64 (wrap64 (Lib.len8 _)) = _ by decide +kernel), rfl⟩
theorem bits64_len (n : Nat) (h1 : 13 ≤ n) (h2 : n < 50) (w : World) : Calls Try.prog 59 #[.int .u64 n] w fun e w' => (∃ k : Nat, e = .returned (.int .i64 k) ∧ 2 ^ k ≤ 2 * n ∧ k ≤ 6) ∧ w' = w := by
  rcases Nat.lt_or_ge n 16 with h | h
  · exact (bits64_A n h1 h w).mono fun _ _ ⟨a, b⟩ => ⟨⟨4, a, by omega, by omega⟩, b⟩
  · rcases Nat.lt_or_ge n 32 with h3 | h3
    · exact (bits64_B n h h3 w).mono fun _ _ ⟨a, b⟩ => ⟨⟨5, a, by omega, by omega⟩, b⟩
    · exact (bits64_C n h3 h2 w).mono fun _ _ ⟨a, b⟩ => ⟨⟨6, a, by omega, by omega⟩, b⟩
theorem bits_len (n : Nat) (h1 : 13 ≤ n) (h2 : n < 50) (w : World) : Calls Try.prog 42 #[.int .u64 n] w fun e w' => (∃ k : Nat, e = .returned (.int .i64 k) ∧ 2 ^ k ≤ 2 * n ∧ k ≤ 6) ∧ w' = w := by
  have C := bits64_len n h1 h2 w
  go_enter Try.func42, Try.ntmps42
  go_wp2_with fail
  refine C.mono ?_
  rintro _ _ ⟨⟨k, rfl, hk⟩, rfl⟩
  go_wp2
  go_ret
  exact ⟨⟨k, rfl, hk⟩, rfl⟩
theorem sortPow_any (n : Nat) (h1 : 13 ≤ n) (h2 : n < 50) (w : World) : Calls Try.prog 77 #[.int .i64 n] w fun e w' => (∃ M : Nat, e = .returned (.int .u64 M) ∧ 1 ≤ M ∧ M ≤ 2 * n) ∧ w' = w := by
  have C := bits_len n h1 h2 w
  have wr : IntKind.u64.wrap (n : Int) = n := by simp [IntKind.wrap, IntKind.bits, IntKind.signed]; omega
  go_enter Try.func77, Try.ntmps77
  go_wp2_with fail
  refine C.mono ?_
  clear C
  rintro _ _ ⟨⟨k, rfl, hk2, hk6⟩, rfl⟩
  have wr2 : IntKind.u64.wrap (k : Int) = k := by simp [IntKind.wrap, IntKind.bits, IntKind.signed]; omega
  have hp := wrap_two_pow k (by omega)
  go_wp2
  go_ret
  exact ⟨⟨1 <<< k, rfl, by rw [Nat.one_shiftLeft]; exact Nat.two_pow_pos _, by rw [Nat.one_shiftLeft]; exact hk2⟩, rfl⟩

set_option maxHeartbeats 2000000 in
set_option maxRecDepth 1000000 in
theorem sortNext_any (R X : Nat) (hX : X < 18446744073709551616) (w : World) (hc : w.cell? ⟨R, 0, none⟩ = some (.int .u64 X)) (hf : w.frozen? ⟨R, 0, none⟩ = false) :
    Calls Try.prog 78 #[.pointer (some ⟨R, 0, none⟩)] w fun e w' => ∃ C : Nat, e = .returned (.int .u64 C) ∧ C < 18446744073709551616 ∧ ∃ q, w' = (w.setCell ⟨R, 0, none⟩ (.int .u64 C)).drewN q := by
  obtain ⟨A, hA⟩ : ∃ A : Nat, A = X ^^^ (X * 8192 % 18446744073709551616) := ⟨_, rfl⟩
  obtain ⟨B, hB⟩ : ∃ B : Nat, B = A ^^^ (A / 128) := ⟨_, rfl⟩
  obtain ⟨C, hC⟩ : ∃ C : Nat, C = B ^^^ (B * 131072 % 18446744073709551616) := ⟨_, rfl⟩
  have lA : A < 18446744073709551616 := by rw [hA]; exact Nat.xor_lt_two_pow (n := 64) (by omega) (by omega)
  have lB : B < 18446744073709551616 := by rw [hB]; exact Nat.xor_lt_two_pow (n := 64) (by omega) (by omega)
  have lC : C < 18446744073709551616 := by rw [hC]; exact Nat.xor_lt_two_pow (n := 64) (by omega) (by omega)
  have e1 : bits .xor .u64 (X : Int) (IntKind.u64.wrap ((X : Int) * 8192)) = (A : Int) := by
    rw [IntKind.wrap_u64, show ((X : Int) * 8192 % 18446744073709551616) = ((X * 8192 % 18446744073709551616 : Nat) : Int) by omega, bits_xor_u64_nat _ _ hX (by omega), hA]
  have e2 : bits .xor .u64 (A : Int) ((A : Int) / 128) = (B : Int) := by
    rw [show ((A : Int) / 128) = ((A / 128 : Nat) : Int) by omega, bits_xor_u64_nat _ _ lA (by omega), hB]
  have e3 : bits .xor .u64 (B : Int) (IntKind.u64.wrap ((B : Int) * 131072)) = (C : Int) := by
    rw [IntKind.wrap_u64, show ((B : Int) * 131072 % 18446744073709551616) = ((B * 131072 % 18446744073709551616 : Nat) : Int) by omega, bits_xor_u64_nat _ _ lB (by omega), hC]
  have hss : ∀ v v', (w.setCell ⟨R, 0, none⟩ v).setCell ⟨R, 0, none⟩ v' = w.setCell ⟨R, 0, none⟩ v' := setCell_setCell w R 0
  have HLC := hide lC
  clear hA hB hC hX lC
  go_enter Try.func78, Try.ntmps78
  go_wp2
  go_region
  all_goals go_wp2
  all_goals go_region
  all_goals go_wp2
  all_goals go_region
  all_goals go_wp2
  all_goals go_ret
  all_goals exact ⟨C, rfl, unhide HLC, 3, rfl⟩
end Go.Proofs.Ythmmplmppchfmaa

namespace Go.Proofs.Ythmmplmppchfmaa
open Go.RowKit Go.Sort

/-- The random number's place. -/
def IsRnd (W : World) (R : Nat) : Prop := ∃ s : Nat, s < 18446744073709551616 ∧ W.heap[R]? = some (.cells #[.int .u64 s] 116 (0, 0))
theorem IsRnd.below {a b : World} {R : Nat} (h : IsRnd a R) (hb : Below a.heap.size a b) : IsRnd b R := by
  obtain ⟨s, hs, h⟩ := h
  exact ⟨s, hs, (hb.block R (Array.getElem?_eq_some_iff.1 h).1).trans h⟩
theorem IsRnd.ne {w W0 W : World} {B V g cap n X R : Nat} {th : Value} {d : Array U2} (h : SB w W0 W B V g cap n X th d) (hR : IsRnd W R) : V ≠ R ∧ g ≠ R ∧ X ≠ R := by
  obtain ⟨s, _, hR⟩ := hR
  obtain ⟨cur, _, hg, _⟩ := h.sr.block
  have hv := h.sr.v
  have hx := h.bx
  refine ⟨fun e => ?_, fun e => ?_, fun e => ?_⟩
  · rw [e, hR] at hv
    injection hv with hv
    injection hv with _ hv
    revert hv
    decide
  · rw [e, hR] at hg
    injection hg with hg
    injection hg with _ hg
    revert hg
    decide
  · rw [e, hR] at hx
    injection hx with hx
    injection hx with _ hx
    revert hx
    decide
theorem drewN_below (w : World) (n : Nat) : Below w.heap.size w (w.drewN n) := ⟨rfl, rfl, rfl, Nat.le_refl _, fun _ _ => rfl⟩
theorem SB.setR {w W0 W : World} {B V g cap n X R : Nat} {th : Value} {d : Array U2} (h : SB w W0 W B V g cap n X th d) (hR : IsRnd W R) (h0 : W0.heap.size ≤ R) (hB : B ≤ R) (s : Nat) (hs : s < 18446744073709551616) (q : Nat) :
    SB w W0 ((W.setCell ⟨R, 0, none⟩ (.int .u64 s)).drewN q) B V g cap n X th d ∧ IsRnd ((W.setCell ⟨R, 0, none⟩ (.int .u64 s)).drewN q) R := by
  have hne := IsRnd.ne h hR
  obtain ⟨s0, _, hr⟩ := hR
  have h1 : SB w W0 (W.setCell ⟨R, 0, none⟩ (.int .u64 s)) B V g cap n X th d := ⟨h.sr.setY hB hne.1 hne.2.1 _, h.hn, ⟨by simpa using h.kp.1, fun k hk hg => (Below.heap_setCell W ⟨R, 0, none⟩ _ k (by show k ≠ R; omega)).trans (h.kp.2 k hk hg)⟩, (Below.heap_setCell W ⟨R, 0, none⟩ _ X hne.2.2).trans h.bx⟩
  have h2 : IsRnd (W.setCell ⟨R, 0, none⟩ (.int .u64 s)) R := ⟨s, hs, by
    simp only [World.setCell, Array.getElem?_modify, if_pos, hr]
    rfl⟩
  exact ⟨h1.grow (drewN_below _ q), h2.below (drewN_below _ q)⟩
theorem IsRnd.swap {w W0 W W' : World} {B V g cap n X R : Nat} {th : Value} {d : Array U2} (h : SB w W0 W B V g cap n X th d) (hR : IsRnd W R) (hk : KP g W W') : IsRnd W' R := by
  have hne := IsRnd.ne h hR
  obtain ⟨s, hs, hr⟩ := hR
  exact ⟨s, hs, (hk.2 R (Array.getElem?_eq_some_iff.1 hr).1 fun e => hne.2.1 e.symm).trans hr⟩
theorem SB.swapRunK {w W0 W : World} {B V g cap n X : Nat} {th : Value} {d : Array U2} (hth : th = typeHandle Try.prog 28) (h : SB w W0 W B V g cap n X th d) {i j : Nat} (hi : i < n) (hj : j < n) :
    ∃ W', (callFunc 57 #[.int .i64 i, .int .i64 j, .slice (some ⟨g, 0, none⟩) n cap, th]).run Try.prog W = .ok (.value (.tuple #[])) W' ∧ SB w W0 W' B V g cap n X th (swp d i j) ∧ KP g W W' :=
  ⟨_, by rw [hth]; exact sswap_run h.sr h.hn hi hj, h.swap hi hj, (KP.set _ _ _ _).trans (KP.set _ _ _ _)⟩

set_option maxHeartbeats 8000000 in
set_option maxRecDepth 1000000 in
theorem sortBreak_any {w W : World} {B V g cap n : Nat} {d : Array U2} {th : Value} (hth : th = typeHandle Try.prog 28) (h : SR w B V g cap d W) (hn : d.size = n) (a b : Nat) (hab : a + 13 ≤ b) (hb : b ≤ n) (hsz : n ≤ 49) :
    Calls Try.prog 62 #[.agg #[lessV V, swapV th g n cap], .int .i64 a, .int .i64 b] W fun e W' => ∃ d', PermIn a b d d' ∧ Sorts w W B V g cap n d' e W' := by
  have hleS := h.leS
  have h1 := SB.new (th := th) h hn
  have b2 := belowA (W.alloc (.cells #[lessV V, swapV th g n cap] 89)) (.cells #[.int .u64 ((b - a : Nat) : Int)] 116)
  have h2 := h1.grow b2
  have hR2 : IsRnd ((W.alloc (.cells #[lessV V, swapV th g n cap] 89)).alloc (.cells #[.int .u64 ((b - a : Nat) : Int)] 116)) (W.heap.size + 1) := ⟨b - a, by omega, by
    have := heap_alloc_new (W.alloc (.cells #[lessV V, swapV th g n cap] 89)) (.cells #[.int .u64 ((b - a : Nat) : Int)] 116)
    rw [sizeA] at this
    exact this⟩
  have HTH := hide hth
  clear h hth h1 b2
  unfold lessV swapV at *
  obtain ⟨l, hl⟩ : ∃ l, b = a + l := ⟨b - a, by omega⟩
  rw [show b - a = l by omega] at h2 hR2
  have el : (b : Int) - (a : Int) = (l : Int) := by omega
  have l13 : 13 ≤ l := by omega
  have l50 : l < 50 := by omega
  have ha49 : a ≤ 49 := by omega
  obtain ⟨q, hq⟩ : ∃ q, q = l / 4 := ⟨_, rfl⟩
  have hlq : (l : Int) / 4 = (q : Int) := by rw [hq]; rfl
  have hq1 : q * 4 ≤ l := by omega
  have hq3 : 3 ≤ q := by omega
  have wl : IntKind.u64.wrap (l : Int) = l := by simp [IntKind.wrap, IntKind.bits, IntKind.signed]; omega
  have PW := fun w' => sortPow_any l l13 l50 w'
  have hbl : a + l ≤ n := by omega
  have HL := hide hl
  have q8 : (8 : Int) ≤ (l : Int) := by omega
  clear hl hq hb hab
  go_enter Try.func62, Try.ntmps62
  go_wp2_with fail
  obtain ⟨R, hRe⟩ : ∃ R, R = W.heap.size + 1 := ⟨_, rfl⟩
  rw [← hRe] at hR2 ⊢
  have hWR : W.heap.size ≤ R := by omega
  clear hRe
  generalize (W.alloc _).alloc _ = W2 at *
  refine (PW _).mono ?_
  clear PW
  rintro _ w3 ⟨⟨M, rfl, hM1, hM2⟩, hw3⟩
  rw [hw3]
  clear hw3 w3
  obtain ⟨I0, hI0⟩ : ∃ I0 : Nat, I0 + 1 = a + q * 2 := ⟨a + q * 2 - 1, by omega⟩
  go_wp2_with fail
  rw [show (a : Int) + (q : Int) * 2 - 1 = (I0 : Int) by omega]
  go_loopw [9, 10] (fun v _ wr => ∃ (I : Nat) (dk : Array U2), v = .int .i64 I ∧ I0 ≤ I ∧ I ≤ I0 + 3 ∧ SB w W wr B V g cap n W.heap.size th dk ∧ IsRnd wr R ∧ PermIn a b d dk) (fun v _ _ => I0 + 3 - (intOf v).toNat)
  case atStart => exact ⟨I0, d, rfl, by omega, by omega, h2, hR2, permIn_refl _ _ _⟩
  case round =>
    clear h2 hR2
    obtain ⟨I, dk, rfl, hI1, hI2, hS, hR, hP⟩ := hrel
    have HP := hide hP
    have hdk := hS.hn
    clear hP
    by_cases hI : I ≤ I0 + 2
    · have q5 : (I : Int) ≤ (a : Int) + (q : Int) * 2 + 1 := by omega
      obtain ⟨s, hs64, hsR⟩ := hR
      have NX := sortNext_any R s hs64 wr (by rw [Lib.cell_of_heap hsR]; rfl) (Lib.frozen_of_heap hsR 0)
      have SET := fun C hC q' => hS.setR (R := R) ⟨s, hs64, hsR⟩ hWR (by omega) C hC q'
      clear hS hsR hs64
      go_wp2_with fail
      refine NX.mono ?_
      clear NX
      rintro _ w5 ⟨C, rfl, hC, q', hw5⟩
      obtain ⟨hS5, hR5⟩ := SET C hC q'
      rw [← hw5] at hS5 hR5
      clear SET hw5
      have HS5 := hide hS5
      have HR5 := hide hR5
      clear hS5 hR5
      obtain ⟨o, ho⟩ : ∃ o, o = C &&& (M - 1) := ⟨_, rfl⟩
      have hoM : o ≤ M - 1 := by rw [ho]; exact Nat.and_le_right
      have eA : bits .and .u64 (C : Int) ((M : Int) - 1) = (o : Int) := by
        rw [ho, show (M : Int) - 1 = ((M - 1 : Nat) : Int) by omega]
        exact bits_and_u64_nat _ _ hC (by omega)
      clear ho hC
      by_cases hol : l ≤ o
      · have q9 : (l : Int) ≤ (o : Int) := by omega
        have hJl : o - l < l := by omega
        obtain ⟨w7, hs, hS7, k7⟩ := (unhide HS5).swapRunK (unhide HTH) (i := I) (j := a + (o - l)) (by omega) (by omega)
        rw [show (((a + (o - l) : Nat)) : Int) = (a : Int) + ((o : Int) - (l : Int)) by omega] at hs
        have hR7 := IsRnd.swap (unhide HS5) (unhide HR5) k7
        have c1 := (unhide HS5).c1
        have HF := hide (show SB w W w7 B V g cap n W.heap.size th (swp dk I (a + (o - l))) ∧ IsRnd w7 R ∧ PermIn a b d (swp dk I (a + (o - l))) from ⟨hS7, hR7, permIn_trans _ _ _ a b (unhide HP) (swp_permIn dk a b I (a + (o - l)) (by omega) (by have := unhide HL; omega) (by omega) (by have := unhide HL; omega) (by rw [hdk]; have := unhide HL; omega))⟩)
        clear hS7 hR7 k7 HS5 HR5
        go_wp2
        go_roundw
        case rel => exact ⟨I + 1, _, by go_num, by omega, by omega, unhide HF⟩
        case measure =>
          simp only [intOf]
          omega
      · have q9 : ¬ (l : Int) ≤ (o : Int) := by omega
        have hJl : o < l := by omega
        obtain ⟨w7, hs, hS7, k7⟩ := (unhide HS5).swapRunK (unhide HTH) (i := I) (j := a + (o)) (by omega) (by omega)
        rw [show (((a + (o) : Nat)) : Int) = (a : Int) + (o : Int) by omega] at hs
        have hR7 := IsRnd.swap (unhide HS5) (unhide HR5) k7
        have c1 := (unhide HS5).c1
        have HF := hide (show SB w W w7 B V g cap n W.heap.size th (swp dk I (a + (o))) ∧ IsRnd w7 R ∧ PermIn a b d (swp dk I (a + (o))) from ⟨hS7, hR7, permIn_trans _ _ _ a b (unhide HP) (swp_permIn dk a b I (a + (o)) (by omega) (by have := unhide HL; omega) (by omega) (by have := unhide HL; omega) (by rw [hdk]; have := unhide HL; omega))⟩)
        clear hS7 hR7 k7 HS5 HR5
        go_wp2
        go_roundw
        case rel => exact ⟨I + 1, _, by go_num, by omega, by omega, unhide HF⟩
        case measure =>
          simp only [intOf]
          omega
    · have q5 : ¬ (I : Int) ≤ (a : Int) + (q : Int) * 2 + 1 := by omega
      have HS := hide hS
      clear hS hR
      go_wp2
      refine bodyPost_end (v := .tuple #[]) (by simp [results, Try.results62, go_sem]) rfl ?_
      exact ⟨dk, unhide HP, rfl, (unhide HS).hn, (unhide HS).sr, (unhide HS).kp⟩
end Go.Proofs.Ythmmplmppchfmaa
