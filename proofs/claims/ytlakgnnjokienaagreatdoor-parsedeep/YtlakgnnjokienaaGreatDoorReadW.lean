/-
  text.digit, readDigits, readEscape, readOne, Read: what they return, for all bytes.
-/
import Derived.Test.YtlakgnnjokienaaGreatDoorPlainAll
import Derived.Test.YtlakgnnjokienaaGreatDoorRunesW
import Derived.Test.YtlakgnnjokienaaGreatDoorHex
namespace Go.Proofs.YtlakgnnjokienaaGreatDoor
open Go.RowKit

theorem ret_two {a a' : Int} {b b' : Bool} (ha : a = a') (hb : b = b') : Ending.returned (.tuple #[.int .i32 a, .bool b]) = .returned (.tuple #[.int .i32 a', .bool b']) := by rw [ha, hb]
theorem ret_three {a a' b b' c c' : Int} (ha : a = a') (hb : b = b') (hc : c = c') : Ending.returned (.tuple #[.int .i32 a, .int .i64 b, .int .i64 c]) = .returned (.tuple #[.int .i32 a', .int .i64 b', .int .i64 c']) := by rw [ha, hb, hc]

set_option maxHeartbeats 1000000 in
theorem digit_any (r : Int) (h0 : 0 ≤ r) (h1 : r ≤ 1114111) (w : World) :
    Calls Tryz.prog 93 #[.int .i32 r] w fun e w' => e = .returned (.tuple #[.int .i32 (digV r), .bool (digQ r)]) ∧ w' = w := by
  have hcase : (48 ≤ r ∧ r ≤ 57) ∨ (97 ≤ r ∧ r ≤ 102) ∨ (65 ≤ r ∧ r ≤ 70) ∨ r < 48 ∨ (57 < r ∧ r < 65) ∨ (70 < r ∧ r < 97) ∨ 102 < r := by omega
  have hv : ∀ x y, digV r = x → digQ r = y → digV r = x ∧ digQ r = y := fun x y h1 h2 => ⟨h1, h2⟩
  rcases hcase with ⟨a, b⟩ | ⟨a, b⟩ | ⟨a, b⟩ | a | ⟨a, b⟩ | ⟨a, b⟩ | a
  · obtain ⟨e1, e2⟩ := hv (r - 48) true (by unfold digV; rw [if_pos ⟨a, b⟩]) (decide_eq_true (by omega))
    rw [e1, e2]
    clear hv e1 e2
    go_enter Tryz.func93, Tryz.ntmps93
    go_wp2
    go_ret2
    exact ⟨rfl, rfl⟩
  · obtain ⟨e1, e2⟩ := hv (r - 87) true (by unfold digV; rw [if_neg (by omega), if_pos ⟨a, b⟩]) (decide_eq_true (by omega))
    rw [e1, e2]
    clear hv e1 e2
    go_enter Tryz.func93, Tryz.ntmps93
    go_wp2
    go_ret2
    exact ⟨ret_two (by omega) rfl, rfl⟩
  · obtain ⟨e1, e2⟩ := hv (r - 55) true (by unfold digV; rw [if_neg (by omega), if_neg (by omega), if_pos ⟨a, b⟩]) (decide_eq_true (by omega))
    rw [e1, e2]
    clear hv e1 e2
    go_enter Tryz.func93, Tryz.ntmps93
    go_wp2
    go_ret2
    exact ⟨ret_two (by omega) rfl, rfl⟩
  · obtain ⟨e1, e2⟩ := hv 0 false (by unfold digV; rw [if_neg (by omega), if_neg (by omega), if_neg (by omega)]) (decide_eq_false (by omega))
    rw [e1, e2]
    clear hv e1 e2
    go_enter Tryz.func93, Tryz.ntmps93
    go_wp2
    go_ret2
    exact ⟨rfl, rfl⟩
  · obtain ⟨e1, e2⟩ := hv 0 false (by unfold digV; rw [if_neg (by omega), if_neg (by omega), if_neg (by omega)]) (decide_eq_false (by omega))
    rw [e1, e2]
    clear hv e1 e2
    go_enter Tryz.func93, Tryz.ntmps93
    go_wp2
    go_ret2
    exact ⟨rfl, rfl⟩
  · obtain ⟨e1, e2⟩ := hv 0 false (by unfold digV; rw [if_neg (by omega), if_neg (by omega), if_neg (by omega)]) (decide_eq_false (by omega))
    rw [e1, e2]
    clear hv e1 e2
    go_enter Tryz.func93, Tryz.ntmps93
    go_wp2
    go_ret2
    exact ⟨rfl, rfl⟩
  · obtain ⟨e1, e2⟩ := hv 0 false (by unfold digV; rw [if_neg (by omega), if_neg (by omega), if_neg (by omega)]) (decide_eq_false (by omega))
    rw [e1, e2]
    clear hv e1 e2
    go_enter Tryz.func93, Tryz.ntmps93
    go_wp2
    go_ret2
    exact ⟨rfl, rfl⟩

theorem drop_at (s : ByteArray) (k : Nat) (h : k < s.size) : s.data.toList.drop k = s[k] :: s.data.toList.drop (k + 1) := by
  rw [List.drop_eq_getElem_cons (by rw [← Lib.size_eq]; exact h)]
  rfl

def p16 : Nat → Int
  | 0 => 1
  | k + 1 => 16 * p16 k
theorem p16_le : ∀ k, k ≤ 6 → 1 ≤ p16 k ∧ p16 k ≤ 16777216
  | 0, _ => by decide
  | 1, _ => by decide
  | 2, _ => by decide
  | 3, _ => by decide
  | 4, _ => by decide
  | 5, _ => by decide
  | 6, _ => by decide
  | k + 7, h => by omega

set_option maxHeartbeats 4000000 in
set_option maxRecDepth 1000000 in
theorem digits_any (s : ByteArray) (w : World) :
    Calls Tryz.prog 84 #[.string s] w fun e w' => e = .returned (.tuple #[.int .i32 (digL 0 0 s.data.toList).1, .int .i64 (digL 0 0 s.data.toList).2.1, .int .i64 (digL 0 0 s.data.toList).2.2]) ∧ Below w.heap.size w w' := by
  go_enter Tryz.func84, Tryz.ntmps84
  go_wp2
  go_loopw [5] (fun v wr => ∃ (k : Nat) (n : Int), k ≤ s.size ∧ k ≤ 6 ∧ v = .int .i32 n ∧ 0 ≤ n ∧ n < p16 k ∧ wr.heap[w.heap.size]? = some (.stringIter s k) ∧ Below w.heap.size w wr ∧ digL k n (s.data.toList.drop k) = digL 0 0 s.data.toList) (fun _ wr => s.size - wr.iterPos w.heap.size)
  case atStart =>
    refine ⟨0, 0, Nat.zero_le _, by omega, rfl, by omega, by decide, ?_, (Below.refl _ w).alloc (Nat.le_refl _) _, by simp⟩
    have := World.iter_heap w s 0
    simpa using this
  case round =>
    obtain ⟨k, n, hk, hk6, rfl, hn0, hn1, hit, hbw, hacc⟩ := hrel
    have hp := p16_le k hk6
    have hn2 : n < 16777216 := by omega
    have Hn1 := hide hn1
    have Hacc := hide hacc
    clear hacc hn1 hp
    by_cases hlt : k < s.size
    · have hda := drop_at s k hlt
      have hst : digL k n (s.data.toList.drop k) = if s[k] = 125 ∧ 0 < k then (if Lib.validRune n then (n, (k : Int) + 1, 0) else (0, 0, 11))
          else if digQ s[k].toNat ∧ k ≠ 6 then digL (k + 1) (16 * n + digV s[k].toNat) (s.data.toList.drop (k + 1))
          else (0, 0, 12) := by rw [hda, digL]
      rw [unhide Hacc] at hst
      have HST := hide hst
      clear hst hda
      have hnx : ∀ ty, (Instr.next (.pointer (some ⟨w.heap.size, 0, none⟩)) true ty).run Tryz.prog wr = _ := fun ty => Lib.run_next_any_at wr w.heap.size s k ty hit hlt
      by_cases ha : s[k].toNat < 128
      · have hdec := decode_ascii s k hlt ha
        rw [hdec] at hnx
        simp only [] at hnx
        have hit2 := Lib.iterAt_heap wr w.heap.size s k (k + 1) hit
        have hbw2 := Lib.below_iterAt hbw (k := w.heap.size) (Nat.le_refl _) s (k + 1)
        clear hdec
        have hdl := digV_lt s[k].toNat
        generalize hc : s[k] = c at *
        clear hc
        by_cases h125 : c = 125
        · subst h125
          by_cases hk0 : 0 < k
          · -- the brace: is it a rune?
            go_wp2_with fail
            refine (Tryz.utf8_ValidRune _ _).mono ?_
            rintro e w1 ⟨rfl, rfl⟩
            cases hval : Lib.validRune n
            · have e1 : digL 0 0 s.data.toList = (0, 0, 11) := by rw [unhide HST, if_pos ⟨by trivial, hk0⟩, hval]; rfl
              have E1 := hide e1
              clear e1 hval
              go_wp2
              go_ret3
              rw [unhide E1]
              exact ⟨rfl, hbw2⟩
            · have e1 : digL 0 0 s.data.toList = (n, (k : Int) + 1, 0) := by rw [unhide HST, if_pos ⟨by trivial, hk0⟩, hval]; rfl
              have E1 := hide e1
              clear e1 hval
              go_wp2
              go_ret3
              rw [unhide E1]
              exact ⟨rfl, hbw2⟩
          · have hk00 : k = 0 := by omega
            subst hk00
            have e1 : digL 0 0 s.data.toList = (0, 0, 12) := by
              rw [unhide HST, if_neg (by omega), if_neg (by decide)]
            have E1 := hide e1
            clear e1
            go_wp2_with fail
            refine (digit_any 125 (by decide) (by decide) _).mono ?_
            rintro e w1 ⟨rfl, rfl⟩
            rw [show digQ 125 = false from rfl]
            go_wp2
            go_ret3
            rw [unhide E1]
            exact ⟨rfl, hbw2⟩
        · have hbq : ((c.toNat : Int) == 125) = false := by
            have : c.toNat ≠ 125 := fun e => h125 (UInt8.toNat_inj.1 e)
            simp
            omega
          go_wp2_with fail
          refine (digit_any _ (by omega) (by omega) _).mono ?_
          rintro e w1 ⟨rfl, rfl⟩
          cases hq : digQ (c.toNat : Int)
          · have e1 : digL 0 0 s.data.toList = (0, 0, 12) := by
              rw [unhide HST, if_neg (by intro h; exact h125 h.1), if_neg (by rw [hq]; intro h; cases h.1)]
            have E1 := hide e1
            clear e1 hq
            generalize digV (c.toNat : Int) = d at *
            go_wp2
            go_ret3
            rw [unhide E1]
            exact ⟨rfl, hbw2⟩
          · by_cases hk66 : k = 6
            · subst hk66
              have e1 : digL 0 0 s.data.toList = (0, 0, 12) := by
                rw [unhide HST, if_neg (by intro h; exact h125 h.1), if_neg (by intro h; exact h.2 rfl)]
              have E1 := hide e1
              clear e1 hq
              generalize digV (c.toNat : Int) = d at *
              go_wp2
              go_ret3
              rw [unhide E1]
              exact ⟨rfl, hbw2⟩
            · have e1 : digL (k + 1) (16 * n + digV c.toNat) (s.data.toList.drop (k + 1)) = digL 0 0 s.data.toList := by
                rw [unhide HST, if_neg (by intro h; exact h125 h.1), if_pos ⟨hq, hk66⟩]
              have E1 := hide e1
              have hk6b : ((k : Int) == 6) = false := by simp; omega
              clear e1 hq
              generalize digV (c.toNat : Int) = d at *
              obtain ⟨d0, d1⟩ := hdl
              have hor : bits BinOp.or IntKind.i32 (n * 16) d = n * 16 + d := bits_join .i32 31 (by decide) wraps_i32 4 (n * 16) d (by omega) (by show n * 16 % 16 = 0; omega) (by show n * 16 < 2147483648; omega) d0 d1 (by show d < 2147483648; omega)
              go_wp2
              go_roundw
              case rel =>
                refine ⟨k + 1, 16 * n + d, by omega, by omega, ?_, by omega, ?_, hit2, hbw2, unhide E1⟩
                · rw [Int.mul_comm 16 n]
                · show 16 * n + d < 16 * p16 k
                  have := unhide Hn1
                  omega
              case measure =>
                simp only [World.iterPos, hit2, hit]
                omega
      · have hhi := decode_high s k hlt (by omega)
        have hmx := dec_max_at s k
        have hit2 := Lib.iterAt_heap wr w.heap.size s k (k + (Utf8.decode s k).2) hit
        have hbw2 := Lib.below_iterAt hbw (k := w.heap.size) (Nat.le_refl _) s (k + (Utf8.decode s k).2)
        have hq0 : digQ (s[k].toNat : Int) = false := decide_eq_false (by omega)
        have e1 : digL 0 0 s.data.toList = (0, 0, 12) := by
          rw [unhide HST, if_neg (by rintro ⟨h, _⟩; rw [h] at ha; exact ha (by decide)), if_neg (by rw [hq0]; intro h; cases h.1)]
        have E1 := hide e1
        obtain ⟨hh1, hh2⟩ := hhi
        have hbq : (((Utf8.decode s k).1 : Int) == 125) = false := by simp; omega
        have hqq : digQ ((Utf8.decode s k).1 : Int) = false := decide_eq_false (by omega)
        have HQQ := hide hqq
        clear e1 hq0 hqq
        go_wp2_with fail
        refine (digit_any _ (by omega) (by omega) _).mono ?_
        rintro e w1 ⟨rfl, rfl⟩
        rw [unhide HQQ]
        generalize digV ((Utf8.decode s k).1 : Int) = d at *
        go_wp2
        go_ret3
        rw [unhide E1]
        exact ⟨rfl, hbw2⟩
    · have hnx : ∀ ty, (Instr.next (.pointer (some ⟨w.heap.size, 0, none⟩)) true ty).run Tryz.prog wr = _ := fun ty => Lib.run_next_end_at wr w.heap.size s k ty hit hlt
      have e1 : digL 0 0 s.data.toList = (0, 0, 12) := by
        rw [← unhide Hacc, drop_end hlt]
        rfl
      have E1 := hide e1
      clear e1
      go_wp2
      go_ret3
      rw [unhide E1]
      exact ⟨rfl, hbw⟩

set_option maxHeartbeats 2000000 in
set_option maxRecDepth 100000 in
theorem escape_any (s : ByteArray) (w : World) (hs : s.size ≤ 1099511627776) :
    Calls Tryz.prog 74 #[.string s] w fun e w' => e = .returned (.tuple #[.int .i32 (escL s.data.toList).1, .int .i64 (escL s.data.toList).2.1, .int .i64 (escL s.data.toList).2.2]) ∧ Below w.heap.size w w' := by
  cases hp : Lib.hasPrefix s.data.toList [92, 117, 123]
  · have hes : escL s.data.toList = if s.data.toList.length < 2 then (0, 0, 12) else if s.data.toList.getD 1 0 = 92 ∨ s.data.toList.getD 1 0 = 34 then (((s.data.toList.getD 1 0).toNat : Int), 2, 0) else if s.data.toList.getD 1 0 = 110 then (10, 2, 0) else if s.data.toList.getD 1 0 = 116 then (9, 2, 0) else (0, 0, 12) := by
      unfold escL
      rw [hp]
      rfl
    have HES := hide hes
    have HP := hide hp
    clear hes hp
    by_cases hl : s.size < 2
    · have e1 : escL s.data.toList = (0, 0, 12) := by rw [unhide HES, if_pos (by rw [← Lib.size_eq]; exact hl)]
      have E1 := hide e1
      clear e1
      go_enter Tryz.func74, Tryz.ntmps74
      go_wp2_with fail
      refine (Tryz.strings_CutPrefix _ _ _).mono ?_
      rintro e w1 ⟨rfl, rfl⟩
      rw [show Lib.hasPrefix s.data.toList _ = false from unhide HP]
      generalize Lib.trimPrefix s.data.toList _ = tp
      go_wp2
      go_ret3
      rw [unhide E1]
      exact ⟨rfl, Below.refl _ _⟩
    · have h1 : 1 < s.size := by omega
      have hg : s.data.toList.getD 1 0 = s[1] := (byte_at s 1 h1).symm
      rw [hg] at HES
      have hl2 : ¬ s.data.toList.length < 2 := by rw [← Lib.size_eq]; exact hl
      have hes2 := unhide HES
      rw [if_neg hl2] at hes2
      have HE2 := hide hes2
      clear hes2 hl2 hg HES
      have hcase : s[1] = 92 ∨ s[1] = 34 ∨ s[1] = 110 ∨ s[1] = 116 ∨ (s[1] ≠ 92 ∧ s[1] ≠ 34 ∧ s[1] ≠ 110 ∧ s[1] ≠ 116) := by
        by_cases a : s[1] = 92
        · exact .inl a
        by_cases b : s[1] = 34
        · exact .inr (.inl b)
        by_cases c : s[1] = 110
        · exact .inr (.inr (.inl c))
        by_cases d : s[1] = 116
        · exact .inr (.inr (.inr (.inl d)))
        exact .inr (.inr (.inr (.inr ⟨a, b, c, d⟩)))
      rcases hcase with hc | hc | hc | hc | ⟨c1, c2, c3, c4⟩
      · have e1 : escL s.data.toList = (92, 2, 0) := by rw [unhide HE2, if_pos (.inl hc), hc]; rfl
        have E1 := hide e1
        clear e1
        go_enter Tryz.func74, Tryz.ntmps74
        go_wp2_with fail
        refine (Tryz.strings_CutPrefix _ _ _).mono ?_
        rintro e w1 ⟨rfl, rfl⟩
        rw [show Lib.hasPrefix s.data.toList _ = false from unhide HP]
        generalize Lib.trimPrefix s.data.toList _ = tp
        go_wp2
        go_ret3
        rw [unhide E1]
        exact ⟨rfl, Below.refl _ _⟩
      · have e1 : escL s.data.toList = (34, 2, 0) := by rw [unhide HE2, if_pos (.inr hc), hc]; rfl
        have E1 := hide e1
        clear e1
        go_enter Tryz.func74, Tryz.ntmps74
        go_wp2_with fail
        refine (Tryz.strings_CutPrefix _ _ _).mono ?_
        rintro e w1 ⟨rfl, rfl⟩
        rw [show Lib.hasPrefix s.data.toList _ = false from unhide HP]
        generalize Lib.trimPrefix s.data.toList _ = tp
        go_wp2
        go_ret3
        rw [unhide E1]
        exact ⟨rfl, Below.refl _ _⟩
      · have e1 : escL s.data.toList = (10, 2, 0) := by rw [unhide HE2, hc]; rfl
        have E1 := hide e1
        clear e1
        go_enter Tryz.func74, Tryz.ntmps74
        go_wp2_with fail
        refine (Tryz.strings_CutPrefix _ _ _).mono ?_
        rintro e w1 ⟨rfl, rfl⟩
        rw [show Lib.hasPrefix s.data.toList _ = false from unhide HP]
        generalize Lib.trimPrefix s.data.toList _ = tp
        go_wp2
        go_ret3
        rw [unhide E1]
        exact ⟨rfl, Below.refl _ _⟩
      · have e1 : escL s.data.toList = (9, 2, 0) := by rw [unhide HE2, hc]; rfl
        have E1 := hide e1
        clear e1
        go_enter Tryz.func74, Tryz.ntmps74
        go_wp2_with fail
        refine (Tryz.strings_CutPrefix _ _ _).mono ?_
        rintro e w1 ⟨rfl, rfl⟩
        rw [show Lib.hasPrefix s.data.toList _ = false from unhide HP]
        generalize Lib.trimPrefix s.data.toList _ = tp
        go_wp2
        go_ret3
        rw [unhide E1]
        exact ⟨rfl, Below.refl _ _⟩
      · have e1 : escL s.data.toList = (0, 0, 12) := by
          rw [unhide HE2, if_neg (by rintro (h | h); exact c1 h; exact c2 h), if_neg c3, if_neg c4]
        have E1 := hide e1
        have b1 : ((s[1].toNat : Int) == 92) = false := by
          have : s[1].toNat ≠ 92 := fun e => c1 (UInt8.toNat_inj.1 e)
          simp
          omega
        have b2 : ((s[1].toNat : Int) == 34) = false := by
          have : s[1].toNat ≠ 34 := fun e => c2 (UInt8.toNat_inj.1 e)
          simp
          omega
        have b3 : ((s[1].toNat : Int) == 110) = false := by
          have : s[1].toNat ≠ 110 := fun e => c3 (UInt8.toNat_inj.1 e)
          simp
          omega
        have b4 : ((s[1].toNat : Int) == 116) = false := by
          have : s[1].toNat ≠ 116 := fun e => c4 (UInt8.toNat_inj.1 e)
          simp
          omega
        clear e1 c1 c2 c3 c4
        go_enter Tryz.func74, Tryz.ntmps74
        go_wp2_with fail
        refine (Tryz.strings_CutPrefix _ _ _).mono ?_
        rintro e w1 ⟨rfl, rfl⟩
        rw [show Lib.hasPrefix s.data.toList _ = false from unhide HP]
        generalize Lib.trimPrefix s.data.toList _ = tp
        go_wp2
        go_ret3
        rw [unhide E1]
        exact ⟨rfl, Below.refl _ _⟩
  · have htp : Lib.trimPrefix s.data.toList [92, 117, 123] = s.data.toList.drop 3 := by
      unfold Lib.trimPrefix
      rw [hp]
      rfl
    have hes : escL s.data.toList = if (digL 0 0 (s.data.toList.drop 3)).2.2 = 0 then ((digL 0 0 (s.data.toList.drop 3)).1, 3 + (digL 0 0 (s.data.toList.drop 3)).2.1, 0) else (0, 0, (digL 0 0 (s.data.toList.drop 3)).2.2) := by
      unfold escL
      rw [hp]
      rfl
    have HES := hide hes
    have HTP := hide htp
    have HP := hide hp
    clear hes htp hp
    go_enter Tryz.func74, Tryz.ntmps74
    go_wp2_with fail
    refine (Tryz.strings_CutPrefix _ _ _).mono ?_
    rintro e w1 ⟨rfl, rfl⟩
    rw [show Lib.hasPrefix s.data.toList _ = true from unhide HP, show Lib.trimPrefix s.data.toList _ = _ from unhide HTP]
    obtain ⟨t, ht⟩ : ∃ t : ByteArray, t = ⟨(s.data.toList.drop 3).toArray⟩ := ⟨_, rfl⟩
    rw [← ht]
    have htl : t.data.toList = s.data.toList.drop 3 := by rw [ht]
    have HTL := hide htl
    clear ht htl
    go_wp2_with fail
    refine (digits_any t _).mono ?_
    rintro e w2 ⟨rfl, b2⟩
    rw [unhide HTL]
    have hpos := digL_pos (s.data.toList.drop 3) 0 0
    have hlen3 : (s.data.toList.drop 3).length ≤ s.size := by rw [List.length_drop, ← Lib.size_eq]; omega
    generalize digL 0 0 (s.data.toList.drop 3) = q at *
    obtain ⟨q1, q2, q3⟩ := q
    simp only [] at HES hpos ⊢
    by_cases h0 : q3 = 0
    · subst h0
      obtain ⟨g1, g2, _⟩ := hpos rfl
      have e1 : escL s.data.toList = (q1, 3 + q2, 0) := by rw [unhide HES, if_pos rfl]
      have E1 := hide e1
      clear e1 hpos
      go_wp2
      go_ret3
      rw [unhide E1]
      exact ⟨rfl, b2⟩
    · have e1 : escL s.data.toList = (0, 0, q3) := by rw [unhide HES, if_neg h0]
      have E1 := hide e1
      have hb0 : (q3 == 0) = false := by simp [h0]
      clear e1 hpos
      go_wp2
      go_ret3
      rw [unhide E1]
      exact ⟨rfl, b2⟩
end Go.Proofs.YtlakgnnjokienaaGreatDoor
