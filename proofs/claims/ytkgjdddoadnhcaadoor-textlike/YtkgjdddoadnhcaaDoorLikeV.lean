/-
  chancelref1.Like: it returns true just where the pattern's runes say the text's, for two texts of at most 40 runes each.
-/
import Derived.Test.YtkgjdddoadnhcaaDoorRRunes
import Derived.Test.YtkgjdddoadnhcaaDoorLikeT
namespace Go.Proofs.YtkgjdddoadnhcaaDoor
open Go.RowKit

def mu (i k star at_ : Int) : Nat := ((50 - star) * 10000 + (50 - at_) * 100 + (50 - i) + (50 - k)).toNat

set_option maxHeartbeats 4000000 in
set_option maxRecDepth 1000000 in
theorem rlike_any (s q : ByteArray) (A P : List Int) (w : World) (hsA : runes s.data.toList = A) (hqP : runes q.data.toList = P) (hs : s.size ≤ 160) (hq : q.size ≤ 160) (hos : okL s.data.toList = true) (hoq : okL q.data.toList = true) (hA : A.length ≤ 40) (hP : P.length ≤ 40) :
    Calls Tryd.prog 15 #[.string s, .string q] w fun e w' => ∃ bb, e = .returned (.bool bb) ∧ (bb = true ↔ MR P A) ∧ Below w.heap.size w w' := by
  have R1 := rrunes_row s w (by omega) hos
  have R2 := fun w1 => rrunes_row q w1 (by omega) hoq
  rw [hsA] at R1
  rw [hqP] at R2
  clear hsA hqP hos hoq
  go_enter Tryd.func15, Tryd.ntmps15
  go_wp2_with fail
  refine R1.mono ?_
  rintro e w1 ⟨ao, ca, rfl, hrA, hca, hca2, b1⟩
  go_wp2_with fail
  refine (R2 _).mono ?_
  rintro e w2 ⟨bo, cb, rfl, hrP, hcb, hcb2, b2⟩
  have hrA2 := hrA.below b2
  have b12 := b1.trans (b2.mono b1.size)
  clear R1 R2 hrA hca hca2 hcb hcb2 b1 b2
  go_wp2
  go_loopw [7, 8, 9, 10] (fun iv kv sv av wr => ∃ (i k at_ : Nat) (star : Int), iv = .int .i64 i ∧ kv = .int .i64 k ∧ sv = .int .i64 star ∧ av = .int .i64 at_ ∧ Below w2.heap.size w2 wr ∧ LkInv A P i k star at_) (fun iv kv sv av _ => mu (intOf iv) (intOf kv) (intOf sv) (intOf av))
  case atStart => exact ⟨0, 0, 0, -1, by go_num, by go_num, by go_num, by go_num, Below.refl _ _, lk_start A P⟩
  case round =>
    obtain ⟨i, k, at_, star, rfl, rfl, rfl, rfl, hbw, hinv⟩ := hrel
    have HI := hide hinv
    obtain ⟨hi0, hk0, hs0, hs1, ha0⟩ := lk_bounds hinv
    clear hinv
    by_cases hi : i < A.length
    · obtain ⟨b, off, rfl, hb, hc⟩ := hrA2 i hi
      have hc2 := (hbw.cell (p := ⟨b, off + i, none⟩) hb).trans hc
      have i1 : (i : Int) < (A.length : Int) := by omega
      have i0 : (0 : Int) ≤ (i : Int) := by omega
      have k0 : (0 : Int) ≤ (k : Int) := by omega
      by_cases hk : k < P.length
      · obtain ⟨b', off', rfl, hb', hc'⟩ := hrP k hk
        have hc3 := (hbw.cell (p := ⟨b', off' + k, none⟩) hb').trans hc'
        have k1 : (k : Int) < (P.length : Int) := by omega
        have F1 := hide (fun h => lk_star (unhide HI) hk h)
        have F2 := hide (fun h1 h2 => lk_same (unhide HI) hk hi h1 h2)
        have F3 := hide (fun (h : P[k] ≠ 42 ∧ P[k] ≠ A[i]) => lk_back (unhide HI) hi (fun _ => h))
        have F4 := hide (fun (h : P[k] ≠ 42 ∧ P[k] ≠ A[i]) => lk_false (unhide HI) hi (fun _ => h))
        generalize P[k] = x at *
        generalize A[i] = y at *
        clear hc hc' hrA2 hrP
        by_cases h42 : x = 42
        · have hx : (x == (42 : Int)) = true := by simp [h42]
          go_wp2
          go_roundw
          case rel => exact ⟨i, k + 1, i, k, by go_num, by go_num, by go_num, by go_num, hbw, unhide F1 h42⟩
          case measure =>
            simp only [intOf, mu]
            omega
        · have hx : (x == (42 : Int)) = false := by simp [h42]
          by_cases hxy : x = y
          · have hxe : (x == y) = true := by simp [hxy]
            go_wp2_with fail
            go_quiet (fail)
            go_wp2
            go_roundw
            case rel => exact ⟨i + 1, k + 1, at_, star, by go_num, by go_num, by go_num, by go_num, below_drewN hbw _, unhide F2 h42 hxy⟩
            case measure =>
              simp only [intOf, mu]
              omega
          · have hxe : (x == y) = false := by simp [hxy]
            by_cases hst : 0 ≤ star
            · have hst2 : (star.toNat : Int) = star := by omega
              go_wp2_with fail
              go_quiet (fail)
              go_wp2
              go_roundw
              case rel => exact ⟨at_ + 1, star.toNat + 1, at_ + 1, star, by go_num, by go_num, by go_num, by go_num, below_drewN hbw _, unhide F3 ⟨h42, hxy⟩ hst⟩
              case measure =>
                simp only [intOf, mu]
                omega
            · go_wp2_with fail
              go_quiet (fail)
              go_wp2
              go_ret
              refine ⟨false, rfl, ?_, b12.trans ((below_drewN hbw _).mono b12.size)⟩
              exact ⟨fun h => absurd h (by decide), fun h => absurd h (unhide F4 ⟨h42, hxy⟩ (by omega))⟩
      · have k1 : ¬ (k : Int) < (P.length : Int) := by omega
        have F3 := hide (lk_back (unhide HI) hi (fun h => absurd h hk))
        have F4 := hide (lk_false (unhide HI) hi (fun h => absurd h hk))
        clear hc hrA2 hrP
        by_cases hst : 0 ≤ star
        · have hst2 : (star.toNat : Int) = star := by omega
          go_wp2_with fail
          go_quiet (fail)
          go_wp2
          go_roundw
          case rel => exact ⟨at_ + 1, star.toNat + 1, at_ + 1, star, by go_num, by go_num, by go_num, by go_num, below_drewN hbw _, unhide F3 hst⟩
          case measure =>
            simp only [intOf, mu]
            omega
        · go_wp2_with fail
          go_quiet (fail)
          go_wp2
          go_ret
          refine ⟨false, rfl, ?_, b12.trans ((below_drewN hbw _).mono b12.size)⟩
          exact ⟨fun h => absurd h (by decide), fun h => absurd h (unhide F4 (by omega))⟩
    · have i1 : ¬ (i : Int) < (A.length : Int) := by omega
      have HE := hide (lk_end (unhide HI) hi)
      go_wp2
      go_loopw [8] (fun kv wr2 => ∃ (j : Nat), kv = .int .i64 j ∧ j ≤ P.length ∧ Below w2.heap.size w2 wr2 ∧ (P.drop j).all (fun c => c == 42) = (P.drop k).all (fun c => c == 42)) (fun kv _ => P.length - (intOf kv).toNat)
      case atStart => exact ⟨k, by go_num, hk0, hbw, rfl⟩
      case round =>
        obtain ⟨j, rfl, hj, hbw2, hacc⟩ := hrel
        have Hacc := hide hacc
        clear hacc
        by_cases hjl : j < P.length
        · obtain ⟨b', off', rfl, hb', hc'⟩ := hrP j hjl
          have hc3 := (hbw2.cell (p := ⟨b', off' + j, none⟩) hb').trans hc'
          have k1 : (j : Int) < (P.length : Int) := by omega
          have HS := hide (all_step P j hjl)
          generalize P[j] = x at *
          clear hc'
          by_cases h42 : x = 42
          · have hx : (x == (42 : Int)) = true := by simp [h42]
            go_wp2
            go_roundw
            case rel =>
              refine ⟨j + 1, by go_num, by omega, hbw2, ?_⟩
              rw [← unhide Hacc, unhide HS, hx]
              rfl
            case measure =>
              simp only [intOf]
              omega
          · have hx : (x == (42 : Int)) = false := by simp [h42]
            have hz : (((j : Nat) : Int) == (P.length : Int)) = false := by simp; omega
            go_wp2
            go_ret
            refine ⟨false, rfl, ?_, b12.trans (hbw2.mono b12.size)⟩
            rw [unhide HE, ← unhide Hacc, unhide HS, hx]
            simp
        · have k1 : ¬ (j : Int) < (P.length : Int) := by omega
          have hz : (((j : Nat) : Int) == (P.length : Int)) = true := by simp; omega
          go_wp2
          go_ret
          refine .inr ⟨rfl, (unhide HE).2 ?_, b12.trans (hbw2.mono b12.size)⟩
          rw [← unhide Hacc, List.drop_eq_nil_of_le (by omega)]
          rfl
end Go.Proofs.YtkgjdddoadnhcaaDoor
