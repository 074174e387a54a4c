/-
  chancelref1's digit, escape and Read: what they return, for all bytes.
-/
import Derived.Test.YtfkbbenjmhngcaaDoorReadX
import Derived.Test.YtfkbbenjmhngcaaDoorOneAny
import Derived.Test.YtfkbbenjmhngcaaDoorRefB
namespace Go.Proofs.YtfkbbenjmhngcaaDoor
open Go.RowKit

def rdig (c : Int) : Int := if digQ c then digV c else -1

set_option maxHeartbeats 1000000 in
theorem rdigit_any (c : Int) (h0 : 0 ≤ c) (h1 : c ≤ 255) (w : World) :
    Calls Tryd.prog 64 #[.int .u8 c] w fun e w' => e = .returned (.int .i64 (rdig c)) ∧ w' = w := by
  have hcase : (48 ≤ c ∧ c ≤ 57) ∨ (97 ≤ c ∧ c ≤ 102) ∨ (65 ≤ c ∧ c ≤ 70) ∨ c < 48 ∨ (57 < c ∧ c < 65) ∨ (70 < c ∧ c < 97) ∨ 102 < c := by omega
  have hv : ∀ x, rdig c = x → rdig c = x := fun x h => h
  rcases hcase with ⟨a, b⟩ | ⟨a, b⟩ | ⟨a, b⟩ | a | ⟨a, b⟩ | ⟨a, b⟩ | a
  · have e1 := hv (c - 48) (by unfold rdig digQ digV; rw [if_pos (decide_eq_true (by omega)), if_pos ⟨a, b⟩])
    rw [e1]
    clear hv e1
    go_enter Tryd.func64, Tryd.ntmps64
    go_wp2
    go_ret
    exact ⟨ret_int (by omega), rfl⟩
  · have e1 := hv (c - 87) (by unfold rdig digQ digV; rw [if_pos (decide_eq_true (by omega)), if_neg (by omega), if_pos ⟨a, b⟩])
    rw [e1]
    clear hv e1
    go_enter Tryd.func64, Tryd.ntmps64
    go_wp2
    go_ret
    exact ⟨ret_int (by omega), rfl⟩
  · have e1 := hv (c - 55) (by unfold rdig digQ digV; rw [if_pos (decide_eq_true (by omega)), if_neg (by omega), if_neg (by omega), if_pos ⟨a, b⟩])
    rw [e1]
    clear hv e1
    go_enter Tryd.func64, Tryd.ntmps64
    go_wp2
    go_ret
    exact ⟨ret_int (by omega), rfl⟩
  all_goals
    have e1 := hv (-1) (by unfold rdig digQ; rw [if_neg (by simp; omega)])
    rw [e1]
    clear hv e1
    go_enter Tryd.func64, Tryd.ntmps64
    go_wp2
    go_ret
    exact ⟨rfl, rfl⟩

theorem rdig_yes {c : Int} (h : digQ c = true) : rdig c = digV c := by unfold rdig; rw [h]; rfl
theorem rdig_no {c : Int} (h : digQ c = false) : rdig c = -1 := by unfold rdig; rw [h]; rfl

theorem getD_at (s : ByteArray) (i k : Nat) (h : i + k < s.size) : (s.data.toList.drop i).getD k 0 = s[i + k] := by
  rw [byte_at s (i + k) h, Lib.getD_dropU]

theorem hasP3 (s : ByteArray) (i : Nat) (h : i + 2 < s.size) : Lib.hasPrefix (s.data.toList.drop i) [92, 117, 123] = (s[i] == 92 && (s[i + 1] == 117 && s[i + 2] == 123)) := by
  rw [drop_at s i (by omega), drop_at s (i + 1) (by omega), drop_at s (i + 2) h]
  unfold Lib.hasPrefix
  have key : ∀ (a b c a' b' c' : UInt8) (t : List UInt8), List.isPrefixOf [a, b, c] (a' :: b' :: c' :: t) = (a == a' && (b == b' && c == c')) := fun a b c a' b' c' t => by simp [List.isPrefixOf]
  rw [key]
  simp only [BEq.comm]

set_option maxHeartbeats 2000000 in
set_option maxRecDepth 100000 in
theorem rescape_two (s : ByteArray) (i : Nat) (hs : s.size ≤ 1099511627776) (w : World) (h1 : i + 1 < s.size) (hc : s[i + 1] ≠ 117) :
    Calls Tryd.prog 56 #[.string s, .int .i64 i] w fun e w' => e = .returned (.tuple #[.int .i32 (escL (s.data.toList.drop i)).1, .int .i64 (escL (s.data.toList.drop i)).2.1, .int .i64 (escL (s.data.toList.drop i)).2.2]) ∧ w' = w := by
  have hp : Lib.hasPrefix (s.data.toList.drop i) [92, 117, 123] = false := by
    rw [drop_at s i (by omega), drop_at s (i + 1) h1]
    unfold Lib.hasPrefix
    have key : ∀ (a' b' : UInt8) (t : List UInt8), b' ≠ 117 → List.isPrefixOf [92, 117, 123] (a' :: b' :: t) = false := fun a' b' t hb => by
      simp only [List.isPrefixOf]
      have : ((117 : UInt8) == b') = false := by simp; exact fun h => hb h.symm
      rw [this]
      simp
    exact key _ _ _ hc
  have hl : ¬ (s.data.toList.drop i).length < 2 := by rw [List.length_drop, ← Lib.size_eq]; omega
  have hes : escL (s.data.toList.drop i) = if s[i + 1] = 92 ∨ s[i + 1] = 34 then ((s[i + 1].toNat : Int), 2, 0) else if s[i + 1] = 110 then (10, 2, 0) else if s[i + 1] = 116 then (9, 2, 0) else (0, 0, 12) := by
    unfold escL
    rw [hp, if_neg (by decide), if_neg hl, getD_at s i 1 h1]
  clear hp hl
  by_cases c1 : s[i + 1] = 92
  · have e1 : escL (s.data.toList.drop i) = (92, 2, 0) := by rw [hes, if_pos (.inl c1), c1]; rfl
    have E1 := hide e1
    clear e1 hes hc
    go_enter Tryd.func56, Tryd.ntmps56
    go_wp2
    go_ret3
    rw [unhide E1]
    exact ⟨rfl, rfl⟩
  by_cases c2 : s[i + 1] = 34
  · have e1 : escL (s.data.toList.drop i) = (34, 2, 0) := by rw [hes, if_pos (.inr c2), c2]; rfl
    have E1 := hide e1
    clear e1 hes hc c1
    go_enter Tryd.func56, Tryd.ntmps56
    go_wp2
    go_ret3
    rw [unhide E1]
    exact ⟨rfl, rfl⟩
  have b1 : ((s[i + 1].toNat : Int) == 92) = false := by
    have : s[i + 1].toNat ≠ 92 := fun e => c1 (UInt8.toNat_inj.1 e)
    simp
    omega
  have b2 : ((s[i + 1].toNat : Int) == 34) = false := by
    have : s[i + 1].toNat ≠ 34 := fun e => c2 (UInt8.toNat_inj.1 e)
    simp
    omega
  by_cases c3 : s[i + 1] = 110
  · have e1 : escL (s.data.toList.drop i) = (10, 2, 0) := by rw [hes, if_neg (by rintro (h | h); exact c1 h; exact c2 h), if_pos c3]
    have E1 := hide e1
    clear e1 hes hc c1 c2
    go_enter Tryd.func56, Tryd.ntmps56
    go_wp2
    go_ret3
    rw [unhide E1]
    exact ⟨rfl, rfl⟩
  by_cases c4 : s[i + 1] = 116
  · have e1 : escL (s.data.toList.drop i) = (9, 2, 0) := by rw [hes, if_neg (by rintro (h | h); exact c1 h; exact c2 h), if_neg c3, if_pos c4]
    have E1 := hide e1
    clear e1 hes hc c1 c2 c3
    go_enter Tryd.func56, Tryd.ntmps56
    go_wp2
    go_ret3
    rw [unhide E1]
    exact ⟨rfl, rfl⟩
  have b3 : ((s[i + 1].toNat : Int) == 110) = false := by
    have : s[i + 1].toNat ≠ 110 := fun e => c3 (UInt8.toNat_inj.1 e)
    simp
    omega
  have b4 : ((s[i + 1].toNat : Int) == 116) = false := by
    have : s[i + 1].toNat ≠ 116 := fun e => c4 (UInt8.toNat_inj.1 e)
    simp
    omega
  have b5 : ((s[i + 1].toNat : Int) == 117) = false := by
    have : s[i + 1].toNat ≠ 117 := fun e => hc (UInt8.toNat_inj.1 e)
    simp
    omega
  have e1 : escL (s.data.toList.drop i) = (0, 0, 12) := by rw [hes, if_neg (by rintro (h | h); exact c1 h; exact c2 h), if_neg c3, if_neg c4]
  have E1 := hide e1
  clear e1 hes hc c1 c2 c3 c4
  go_enter Tryd.func56, Tryd.ntmps56
  go_wp2
  go_ret3
  rw [unhide E1]
  exact ⟨rfl, rfl⟩

set_option maxHeartbeats 2000000 in
set_option maxRecDepth 100000 in
theorem rescape_one (s : ByteArray) (i : Nat) (hs : s.size ≤ 1099511627776) (w : World) (h0 : i < s.size) (h1 : s.size ≤ i + 1) :
    Calls Tryd.prog 56 #[.string s, .int .i64 i] w fun e w' => e = .returned (.tuple #[.int .i32 (escL (s.data.toList.drop i)).1, .int .i64 (escL (s.data.toList.drop i)).2.1, .int .i64 (escL (s.data.toList.drop i)).2.2]) ∧ w' = w := by
  have hl : (s.data.toList.drop i).length < 2 := by rw [List.length_drop, ← Lib.size_eq]; omega
  have e1 : escL (s.data.toList.drop i) = (0, 0, 12) := by
    unfold escL
    have hp : Lib.hasPrefix (s.data.toList.drop i) [92, 117, 123] = false := by
      cases h : Lib.hasPrefix (s.data.toList.drop i) [92, 117, 123] with
      | false => rfl
      | true =>
        unfold Lib.hasPrefix at h
        rw [List.isPrefixOf_iff_prefix] at h
        have := h.length_le
        simp only [List.length_cons, List.length_nil] at this
        omega
    rw [hp, if_neg (by decide), if_pos hl]
  have E1 := hide e1
  clear e1 hl
  go_enter Tryd.func56, Tryd.ntmps56
  go_wp2
  go_ret3
  rw [unhide E1]
  exact ⟨rfl, rfl⟩

set_option maxHeartbeats 2000000 in
set_option maxRecDepth 100000 in
theorem rescape_u (s : ByteArray) (i : Nat) (hs : s.size ≤ 1099511627776) (w : World) (h1 : i + 1 < s.size) (hc : s[i + 1] = 117) (h2 : ∀ h : i + 2 < s.size, s[i + 2] ≠ 123) :
    Calls Tryd.prog 56 #[.string s, .int .i64 i] w fun e w' => e = .returned (.tuple #[.int .i32 (escL (s.data.toList.drop i)).1, .int .i64 (escL (s.data.toList.drop i)).2.1, .int .i64 (escL (s.data.toList.drop i)).2.2]) ∧ w' = w := by
  have hl : ¬ (s.data.toList.drop i).length < 2 := by rw [List.length_drop, ← Lib.size_eq]; omega
  have hp : Lib.hasPrefix (s.data.toList.drop i) [92, 117, 123] = false := by
    by_cases h3 : i + 2 < s.size
    · rw [hasP3 s i h3]
      have : (s[i + 2] == 123) = false := by simp; exact h2 h3
      rw [this]
      simp
    · cases h : Lib.hasPrefix (s.data.toList.drop i) [92, 117, 123] with
      | false => rfl
      | true =>
        unfold Lib.hasPrefix at h
        rw [List.isPrefixOf_iff_prefix] at h
        have := h.length_le
        rw [List.length_drop, ← Lib.size_eq] at this
        simp only [List.length_cons, List.length_nil] at this
        omega
  have e1 : escL (s.data.toList.drop i) = (0, 0, 12) := by
    unfold escL
    rw [hp, if_neg (by decide), if_neg hl, getD_at s i 1 h1, hc]
    rfl
  have E1 := hide e1
  clear e1 hl hp
  by_cases h3 : i + 2 < s.size
  · have b5 : ((s[i + 2].toNat : Int) != 123) = true := by
      have : s[i + 2].toNat ≠ 123 := fun e => h2 h3 (UInt8.toNat_inj.1 e)
      rw [bne_iff_ne]
      omega
    clear h2
    go_enter Tryd.func56, Tryd.ntmps56
    go_wp2
    go_ret3
    rw [unhide E1]
    exact ⟨rfl, rfl⟩
  · clear h2
    go_enter Tryd.func56, Tryd.ntmps56
    go_wp2
    go_ret3
    rw [unhide E1]
    exact ⟨rfl, rfl⟩

set_option maxHeartbeats 4000000 in
set_option maxRecDepth 1000000 in
theorem rescape_hex (s : ByteArray) (i : Nat) (hs : s.size ≤ 1099511627776) (w : World) (h2 : i + 2 < s.size) (hc0 : s[i] = 92) (hc : s[i + 1] = 117) (hcc : s[i + 2] = 123) :
    Calls Tryd.prog 56 #[.string s, .int .i64 i] w fun e w' => e = .returned (.tuple #[.int .i32 (escL (s.data.toList.drop i)).1, .int .i64 (escL (s.data.toList.drop i)).2.1, .int .i64 (escL (s.data.toList.drop i)).2.2]) ∧ w' = w := by
  have hp : Lib.hasPrefix (s.data.toList.drop i) [92, 117, 123] = true := by rw [hasP3 s i h2, hc0, hc, hcc]; rfl
  have hes : escL (s.data.toList.drop i) = if (digL 0 0 (s.data.toList.drop (i + 3))).2.2 = 0 then ((digL 0 0 (s.data.toList.drop (i + 3))).1, 3 + (digL 0 0 (s.data.toList.drop (i + 3))).2.1, 0) else (0, 0, (digL 0 0 (s.data.toList.drop (i + 3))).2.2) := by
    unfold escL
    rw [hp, List.drop_drop]
    rfl
  have HES := hide hes
  clear hp hes hc0
  go_enter Tryd.func56, Tryd.ntmps56
  go_wp2
  clear hc hcc
  go_loop [7, 8] (fun kv vv => ∃ (j : Nat) (v : Int), j ≤ 6 ∧ i + 3 + j ≤ s.size ∧ kv = .int .i64 (i + 3 + j : Nat) ∧ vv = .int .i64 v ∧ 0 ≤ v ∧ v < p16 j ∧ digL j v (s.data.toList.drop (i + 3 + j)) = digL 0 0 (s.data.toList.drop (i + 3))) (fun kv _ => s.size - (intOf kv).toNat)
  case atStart => exact ⟨0, 0, by omega, by omega, by go_num, rfl, by omega, by decide, rfl⟩
  case round =>
    obtain ⟨j, v, hj6, hjs, rfl, rfl, hv0, hv1, hacc⟩ := hrel
    have hp := p16_le j hj6
    have hv2 : v < 16777216 := by omega
    have Hv1 := hide hv1
    have Hacc := hide hacc
    clear hv1 hp hacc
    -- what the digits come to at the end
    have fin12 : digL 0 0 (s.data.toList.drop (i + 3)) = (0, 0, 12) → escL (s.data.toList.drop i) = (0, 0, 12) := fun h => by rw [unhide HES, h, if_neg (by decide)]
    have fin11 : digL 0 0 (s.data.toList.drop (i + 3)) = (0, 0, 11) → escL (s.data.toList.drop i) = (0, 0, 11) := fun h => by rw [unhide HES, h, if_neg (by decide)]
    have fin0 : ∀ r z, digL 0 0 (s.data.toList.drop (i + 3)) = (r, z, 0) → escL (s.data.toList.drop i) = (r, 3 + z, 0) := fun r z h => by rw [unhide HES, h, if_pos rfl]
    have FIN12 := hide fin12
    have FIN11 := hide fin11
    have FIN0 := hide fin0
    clear fin12 fin11 fin0
    by_cases hlt : i + 3 + j < s.size
    · have hda := drop_at s (i + 3 + j) hlt
      have hst : digL 0 0 (s.data.toList.drop (i + 3)) = if s[i + 3 + j] = 125 ∧ 0 < j then (if Lib.validRune v then (v, (j : Int) + 1, 0) else (0, 0, 11))
          else if digQ s[i + 3 + j].toNat ∧ j ≠ 6 then digL (j + 1) (16 * v + digV s[i + 3 + j].toNat) (s.data.toList.drop (i + 3 + j + 1))
          else (0, 0, 12) := by rw [← unhide Hacc, hda, digL]
      have HST := hide hst
      clear hst hda
      generalize hcx : s[i + 3 + j] = c at *
      have hcb := c.toNat_lt
      have hdl := digV_lt c.toNat
      by_cases hgo : digQ (c.toNat : Int) = true ∧ j < 6
      · obtain ⟨hq, hj⟩ := hgo
        have h125 : c ≠ 125 := by
          rintro rfl
          exact absurd hq (by decide)
        have e1 : digL (j + 1) (16 * v + digV c.toNat) (s.data.toList.drop (i + 3 + j + 1)) = digL 0 0 (s.data.toList.drop (i + 3)) := by
          rw [unhide HST, if_neg (by intro h; exact h125 h.1), if_pos ⟨hq, by omega⟩]
        have E1 := hide e1
        have hrd := rdig_yes hq
        have HRD := hide hrd
        clear e1 hrd hq
        go_wp2_with fail
        refine (rdigit_any _ (by omega) (by omega) _).mono ?_
        rintro e w1 ⟨rfl, rfl⟩
        rw [unhide HRD]
        go_wp2_with fail
        refine (rdigit_any _ (by omega) (by omega) _).mono ?_
        rintro e w1 ⟨rfl, rfl⟩
        rw [unhide HRD]
        generalize digV (c.toNat : Int) = d at *
        obtain ⟨d0, d1⟩ := hdl
        go_wp2
        go_round
        case rel =>
          refine ⟨j + 1, 16 * v + d, by omega, by omega, by go_num, rfl, by omega, ?_, unhide E1⟩
          show 16 * v + d < 16 * p16 j
          have := unhide Hv1
          omega
        case measure =>
          simp [intOf]
          omega
      · by_cases hj6' : j = 6
        · have hj6b : 6 ≤ j := by omega
          have HJ6 := hide hj6'
          clear hj6' hgo
          by_cases h125 : c = 125
          · subst h125
            by_cases hj0 : 0 < j
            · have hk3 : ((i : Int) + 3 + (j : Int) == (i : Int) + 3) = false := by simp; omega
              have hvst : digL 0 0 (s.data.toList.drop (i + 3)) = if Lib.validRune v then (v, (j : Int) + 1, 0) else (0, 0, 11) := by rw [unhide HST, if_pos ⟨by trivial, hj0⟩]
              cases hval : Lib.validRune v
              · have e1 : escL (s.data.toList.drop i) = (0, 0, 11) := unhide FIN11 (by rw [hvst, hval]; rfl)
                have E1 := hide e1
                have HVAL := hide hval
                clear e1 hvst hval
                go_wp2_with fail
                refine (is_any _ _).mono ?_
                rintro e w1 ⟨rfl, rfl⟩
                rw [unhide HVAL]
                go_wp2
                go_ret3
                rw [unhide E1]
                exact ⟨rfl, rfl⟩
              · have e1 : escL (s.data.toList.drop i) = (v, 3 + ((j : Int) + 1), 0) := unhide FIN0 _ _ (by rw [hvst, hval]; rfl)
                have E1 := hide e1
                have HVAL := hide hval
                clear e1 hvst hval
                go_wp2_with fail
                refine (is_any _ _).mono ?_
                rintro e w1 ⟨rfl, rfl⟩
                rw [unhide HVAL]
                go_wp2
                go_ret3
                rw [unhide E1]
                refine ⟨ret_three rfl ?_ rfl, rfl⟩
                show _ = 3 + ((j : Int) + 1)
                omega
            · omega
          · have e1 : escL (s.data.toList.drop i) = (0, 0, 12) := unhide FIN12 (by rw [unhide HST, if_neg (by intro h; exact h125 h.1), if_neg (by intro h; exact h.2 (unhide HJ6))])
            have E1 := hide e1
            have bne : ((c.toNat : Int) != 125) = true := by
              have : c.toNat ≠ 125 := fun e => h125 (UInt8.toNat_inj.1 e)
              rw [bne_iff_ne]
              omega
            clear e1
            by_cases hj0 : 0 < j
            · have hk3 : ((i : Int) + 3 + (j : Int) == (i : Int) + 3) = false := by simp; omega
              go_wp2
              go_ret3
              rw [unhide E1]
              exact ⟨rfl, rfl⟩
            · omega
        · have hq : digQ (c.toNat : Int) = false := by
            cases h : digQ (c.toNat : Int) with
            | false => rfl
            | true => exact absurd ⟨h, by omega⟩ hgo
          have HRD := hide (rdig_no hq)
          by_cases h125 : c = 125
          · subst h125
            by_cases hj0 : 0 < j
            · have hk3 : ((i : Int) + 3 + (j : Int) == (i : Int) + 3) = false := by simp; omega
              have hvst : digL 0 0 (s.data.toList.drop (i + 3)) = if Lib.validRune v then (v, (j : Int) + 1, 0) else (0, 0, 11) := by rw [unhide HST, if_pos ⟨by trivial, hj0⟩]
              cases hval : Lib.validRune v
              · have e1 : escL (s.data.toList.drop i) = (0, 0, 11) := unhide FIN11 (by rw [hvst, hval]; rfl)
                have E1 := hide e1
                have HVAL := hide hval
                clear e1 hvst hval
                go_wp2_with fail
                refine (rdigit_any _ (by decide) (by decide) _).mono ?_
                rintro e w1 ⟨rfl, rfl⟩
                rw [show rdig _ = -1 from rfl]
                go_wp2_with fail
                refine (is_any _ _).mono ?_
                rintro e w1 ⟨rfl, rfl⟩
                rw [unhide HVAL]
                go_wp2
                go_ret3
                rw [unhide E1]
                exact ⟨rfl, rfl⟩
              · have e1 : escL (s.data.toList.drop i) = (v, 3 + ((j : Int) + 1), 0) := unhide FIN0 _ _ (by rw [hvst, hval]; rfl)
                have E1 := hide e1
                have HVAL := hide hval
                clear e1 hvst hval
                go_wp2_with fail
                refine (rdigit_any _ (by decide) (by decide) _).mono ?_
                rintro e w1 ⟨rfl, rfl⟩
                rw [show rdig _ = -1 from rfl]
                go_wp2_with fail
                refine (is_any _ _).mono ?_
                rintro e w1 ⟨rfl, rfl⟩
                rw [unhide HVAL]
                go_wp2
                go_ret3
                rw [unhide E1]
                refine ⟨ret_three rfl ?_ rfl, rfl⟩
                show _ = 3 + ((j : Int) + 1)
                omega
            · have hj00 : j = 0 := by omega
              have e1 : escL (s.data.toList.drop i) = (0, 0, 12) := unhide FIN12 (by rw [unhide HST, if_neg (by intro h; exact hj0 h.2), if_neg (by intro h; exact absurd h.1 (by decide))])
              have E1 := hide e1
              clear e1
              subst hj00
              go_wp2_with fail
              refine (rdigit_any _ (by decide) (by decide) _).mono ?_
              rintro e w1 ⟨rfl, rfl⟩
              rw [show rdig _ = -1 from rfl]
              go_wp2
              go_ret3
              rw [unhide E1]
              exact ⟨rfl, rfl⟩
          · have e1 : escL (s.data.toList.drop i) = (0, 0, 12) := unhide FIN12 (by rw [unhide HST, if_neg (by intro h; exact h125 h.1), if_neg (by intro h; rw [hq] at h; cases h.1)])
            have E1 := hide e1
            have bne : ((c.toNat : Int) != 125) = true := by
              have : c.toNat ≠ 125 := fun e => h125 (UInt8.toNat_inj.1 e)
              rw [bne_iff_ne]
              omega
            clear e1
            by_cases hj0 : 0 < j
            · have hk3 : ((i : Int) + 3 + (j : Int) == (i : Int) + 3) = false := by simp; omega
              go_wp2_with fail
              refine (rdigit_any _ (by omega) (by omega) _).mono ?_
              rintro e w1 ⟨rfl, rfl⟩
              rw [unhide HRD]
              go_wp2
              go_ret3
              rw [unhide E1]
              exact ⟨rfl, rfl⟩
            · have hj00 : j = 0 := by omega
              subst hj00
              go_wp2_with fail
              refine (rdigit_any _ (by omega) (by omega) _).mono ?_
              rintro e w1 ⟨rfl, rfl⟩
              rw [unhide HRD]
              go_wp2
              go_ret3
              rw [unhide E1]
              exact ⟨rfl, rfl⟩
    · have e1 : escL (s.data.toList.drop i) = (0, 0, 12) := unhide FIN12 (by rw [← unhide Hacc, drop_end hlt]; rfl)
      have E1 := hide e1
      clear e1
      by_cases hj0 : 0 < j
      · have hk3 : ((i : Int) + 3 + (j : Int) == (i : Int) + 3) = false := by simp; omega
        go_wp2
        go_ret3
        rw [unhide E1]
        exact ⟨rfl, rfl⟩
      · have hj00 : j = 0 := by omega
        subst hj00
        go_wp2
        go_ret3
        rw [unhide E1]
        exact ⟨rfl, rfl⟩
end Go.Proofs.YtfkbbenjmhngcaaDoor
