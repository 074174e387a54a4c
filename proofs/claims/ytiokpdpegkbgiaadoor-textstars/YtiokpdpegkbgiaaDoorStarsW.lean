/-
  chancellaw1.TextStars returns true, for every two slices of ints and every int.
-/
import Derived.Test.YtiokpdpegkbgiaaDoorKnown
import Derived.Test.YtiokpdpegkbgiaaDoorLawOf
import Derived.Test.YtiokpdpegkbgiaaDoorRRunes
import Derived.Test.YtiokpdpegkbgiaaDoorStarsP
namespace Go.Proofs.YtiokpdpegkbgiaaDoor
open Go.RowKit

theorem app_l (a b : ByteArray) : (a ++ b).data.toList = a.data.toList ++ b.data.toList := by simp

/-- Whether a star stands at a place. -/
def stTo (t : List Int) (n : Nat) (i j : Nat) : Bool := (t.take j).any fun z => z % (n : Int) == (i : Int)
theorem stTo_succ {t : List Int} {n i j : Nat} (h : j < t.length) : stTo t n i (j + 1) = (stTo t n i j || (t[j] % (n : Int) == (i : Int))) := by
  unfold stTo
  rw [List.take_succ_eq_append_getElem h, List.any_append]
  simp
theorem stTo_end {t : List Int} {n i j : Nat} (h : ¬ j < t.length ∨ j = 10) (h10 : j ≤ 10) : stTo t n i j = stTo t n i 10 := by
  unfold stTo
  rcases h with h | h
  · rw [List.take_of_length_le (by omega), List.take_of_length_le (by omega)]
  · rw [h]

set_option maxHeartbeats 4000000 in
set_option maxRecDepth 1000000 in
theorem stars_walk (a t : List Int) (x : Int) (ao bo : Option Addr) (ca cb : Nat) (w : World) (hf : Fit w) (ha : IntsAt w ao a) (hb : IntsAt w bo t) (hla : a.length ≤ 9223372036854775807) (_hlb : t.length ≤ 9223372036854775807) :
    Calls Tryd.prog 7 #[.slice ao a.length ca, .slice bo t.length cb, .int .i64 x] w fun e w' => e = .returned (.bool true) ∧ Below w.heap.size w w' := by
  obtain ⟨i0, hi, hz0, hz1, hz2⟩ := info_parts infoRune
  go_enter Tryd.func7, Tryd.ntmps7
  go_wp2_with fail
  refine (known_any _ hf).mono ?_
  rintro e w1 ⟨rfl, b1⟩
  have hf1 := hf.below b1
  have ha1 := ha.below b1
  have hb1 := hb.below b1
  go_wp2_with fail
  refine (lawOf_txt a ao ca _ hla ha1).mono ?_
  rintro e w2 ⟨s, rfl, hs, hsz, b2⟩
  have hf2 := hf1.below b2
  have hb2 := hb1.below b2
  have bw2 := b1.trans (b2.mono b1.size)
  clear hf hf1 ha ha1 hb hb1
  have hok : okL s.data.toList = true := by rw [hs]; exact okL_ofL _ (picks_ok a)
  have hru : runes s.data.toList = picks a := by rw [hs]; exact runes_ofL _ (picks_ok a)
  have HOK := hide hok
  have HRU := hide hru
  clear hok hru hs
  go_wp2_with fail
  refine (rrunes_row s _ (by omega) (unhide HOK)).mono ?_
  rintro e w3 ⟨ro, rc, rfl, hrow, hrc, hrm, b3⟩
  rw [unhide HRU] at hrow hrc ⊢
  have hf3 := hf2.below b3
  have hb3 := hb2.below b3
  have bw3 := bw2.trans (b3.mono bw2.size)
  have hpl := picks_len a
  clear hf2 hb2 HOK HRU
  have hrs := plainR_some a
  have hrl := plainR_len a
  have hpdef : plainR a = (picks a).filter fun r => r != 42 := rfl
  have HPD := hide hpdef
  have HRS := hide hrs
  clear hpdef hrs
  generalize plainR a = l at *
  generalize picks a = rs at *
  clear hsz hla
  go_wp2
  go_loopw [8, 10] (fun v i wr => ∃ (k : Nat), k ≤ rs.length ∧ i = .int .i64 k ∧ wr.ownsRow w3.heap.size 21 1 v ((rs.take k).filter fun r => r != 42).length (((rs.take k).filter fun r => r != 42).map (Value.int .i32)) ∧ Below w3.heap.size w3 wr) (fun _ i _ => rs.length - (intOf i).toNat)
  case atStart => exact ⟨0, Nat.zero_le _, rfl, ⟨by simp, .inl ⟨rfl, rfl⟩⟩, Below.refl _ w3⟩
  case round =>
    obtain ⟨k, hk, rfl, hown, hbw⟩ := hrel
    have hsz := hbw.size
    by_cases hlt : k < rs.length
    · obtain ⟨L, hL⟩ : ∃ L, L = (rs.take k).filter fun r => r != 42 := ⟨_, rfl⟩
      have hLl : L.length ≤ 40 := by rw [hL]; exact Nat.le_trans (List.length_filter_le _ _) (by rw [List.length_take]; omega)
      rw [← hL] at hown
      have HT : Hid ((rs.take (k + 1)).filter (fun r => r != 42) = L ++ (if rs[k] != 42 then [rs[k]] else [])) := hide (by
        rw [List.take_succ_eq_append_getElem hlt, List.filter_append, ← hL]
        congr 1
        rw [List.filter_cons]
        rfl)
      clear hL
      obtain ⟨b, off, rfl, hb, hc⟩ := hrow k hlt
      have hc2 := (hbw.cell (p := ⟨b, off + k, none⟩) hb).trans hc
      clear hc
      generalize rs[k] = y at *
      by_cases hy : y = 42
      · subst hy
        go_wp2
        go_roundw
        case rel =>
          refine ⟨k + 1, by omega, by go_num, ?_, hbw⟩
          rw [unhide HT]
          simpa using hown
        case measure =>
          simp [intOf]
          omega
      · have hyb : (y != 42) = true := by simp [hy]
        go_wp2_with (at_builtin; refine wpList_append_own _ rfl _ _ 22 rfl w3.heap.size 21 i0 (.int .i32 0) 1 4 Tryd.underlying22 hi hz0 hz1 hz2 rfl (by decide) _ _ _ rfl (hown.alloc _) ⟨wr.heap.size, 0, none⟩ 1 1 [.int .i32 y] rfl rfl ?c1 ?c2 ?c3 ?c4 ?c5 ?_)
        case c1 =>
          intro j u hj
          match j, hj with
          | 0, hj => simp at hj; subst hj; simp [Addr.add]
        case c2 => intro u hu; simp at hu; subst hu; rfl
        case c3 => unfold maxLen; omega
        case c4 => omega
        case c5 => simp; omega
        intro v' w4 hown' hgrow _
        have hb4 := (hbw.alloc (by omega) (.cells #[.int .i32 y] 21)).grown hgrow (by simp; omega) (fun g hg => by have := (hown.lt g hg).1; omega)
        go_wp2
        go_roundw
        case rel =>
          refine ⟨k + 1, by omega, by go_num, ?_, hb4⟩
          rw [unhide HT, if_pos hyb, List.map_append, List.length_append]
          exact hown'
        case measure =>
          simp [intOf]
          omega
    · obtain rfl : k = rs.length := by omega
      rw [List.take_length, ← unhide HPD] at hown
      obtain ⟨lo, lc, rfl, hlrow, _, _⟩ := rowAt_owns hown
      clear hown hrow hpl hrc HPD hlt hk
      have hf4 := hf3.below hbw
      have hb4 := hb3.below hbw
      have bw4 := bw3.trans (hbw.mono bw3.size)
      clear hf3 hb3 hbw b1 b2 b3 bw2 bw3
      have k0 := Int.emod_nonneg x (show ((l.length : Int) + 1) ≠ 0 by omega)
      have k1 := Int.emod_lt_of_pos x (show (0 : Int) < (l.length : Int) + 1 by omega)
      go_wp2_with fail
      refine (within_any x _ (by omega) (by omega) _).mono ?_
      rintro e w5 ⟨rfl, rfl⟩
      generalize x % ((l.length : Int) + 1) = kk at *
      obtain ⟨k, rfl⟩ := Int.eq_ofNat_of_zero_le k0
      clear k0 k1
      have hlr := unhide HRS
      clear HRS
      go_wp2
      go_loopw [9, 12] (fun v iv wr => ∃ (i : Nat), i ≤ l.length ∧ iv = .int .i64 i ∧ wr.ownsRow w5.heap.size 21 1 v (patTo (fun m => stTo t l.length m 10) k l i).length ((patTo (fun m => stTo t l.length m 10) k l i).map (Value.int .i32)) ∧ Below w5.heap.size w5 wr) (fun _ iv _ => l.length - (intOf iv).toNat)
      case atStart => exact ⟨0, Nat.zero_le _, rfl, ⟨by simp [patTo], .inl ⟨rfl, rfl⟩⟩, Below.refl _ _⟩
      case round =>
        obtain ⟨i, hil, rfl, hown, hbw2⟩ := hrel
        have hsz2 := hbw2.size
        have hppl := patTo_len (fun m => stTo t l.length m 10) k l i
        by_cases hlt : i < l.length
        · have HP := hide (patTo_succ (fun m => stTo t l.length m 10) k l i)
          generalize patTo (fun m => stTo t l.length m 10) k l i = P at *
          go_wp2
          have hsN : ∀ j, stTo t l.length i j = stTo t l.length i j := fun _ => rfl
          clear hsN
          go_loop [13, 14] (fun sv jv => ∃ (j : Nat), j ≤ t.length ∧ j ≤ 10 ∧ jv = .int .i64 j ∧ sv = .bool (stTo t l.length i j)) (fun _ jv => 10 - (intOf jv).toNat)
          case atStart => exact ⟨0, Nat.zero_le _, Nat.zero_le _, rfl, rfl⟩
          case round =>
            obtain ⟨j, hj, hj10, rfl, rfl⟩ := hrel
            by_cases hjl : j < t.length ∧ j < 10
            · obtain ⟨hj1, hj2⟩ := hjl
              have HS := hide (stTo_succ (n := l.length) (i := i) hj1)
              obtain ⟨b, off, rfl, hbb, hc⟩ := hb4 j hj1
              have hc2 := (hbw2.cell (p := ⟨b, off + j, none⟩) hbb).trans hc
              clear hc
              generalize t[j] = z at *
              cases hst : stTo t l.length i j
              · rw [hst] at HS
                clear hst
                go_wp2_with fail
                refine (within_any z _ (by omega) (by omega) _).mono ?_
                rintro e w6 ⟨rfl, rfl⟩
                go_wp2
                go_round
                case rel =>
                  refine ⟨j + 1, by omega, by omega, by go_num, ?_⟩
                  rw [unhide HS]
                  simp
                case measure =>
                  simp [intOf]
                  omega
              · rw [hst] at HS
                clear hst
                go_wp2
                go_round
                case rel =>
                  refine ⟨j + 1, by omega, by omega, by go_num, ?_⟩
                  rw [unhide HS]
                  simp
                case measure =>
                  simp [intOf]
                  omega
            · have hse : ¬ j < t.length ∨ j = 10 := by omega
              have hst0 := stTo_end (n := l.length) (i := i) hse hj10
              obtain ⟨b, off, rfl, hbb, hc⟩ := hlrow i hlt
              have hc2 := (hbw2.cell (p := ⟨b, off + i, none⟩) hbb).trans hc
              have hgd : l.getD i 0 = l[i] := by rw [List.getD, List.getElem?_eq_getElem hlt]; rfl
              clear hc hlrow
              have hcs : (j < t.length ∧ ¬ j < 10) ∨ ¬ j < t.length := by omega
              generalize hx : l[i] = y at *
              have hpc : pc (fun m => stTo t l.length m 10) k l i = (if stTo t l.length i j then [42] else []) ++ (if !stTo t l.length i j || decide (i < k) then [y] else []) := by
                unfold pc
                rw [hgd, hst0]
              clear hgd hx hst0
              generalize stTo t l.length i j = sb at *
              cases sb
              · have HPC : Hid (pc (fun m => stTo t l.length m 10) k l i = [y]) := hide (by rw [hpc]; simp)
                clear hpc
                rcases hcs with ⟨d1, d2⟩ | d1
                · go_wp2_with (at_builtin; refine wpList_append_own _ rfl _ _ 22 rfl w5.heap.size 21 i0 (.int .i32 0) 1 4 Tryd.underlying22 hi hz0 hz1 hz2 rfl (by decide) _ _ _ rfl (hown.alloc _) ⟨wr.heap.size, 0, none⟩ 1 1 [.int .i32 y] rfl rfl ?q2_1 ?q2_2 ?q2_3 ?q2_4 ?q2_5 ?_)
                  case q2_2 => first | rfl | (intro u hu; simp at hu; subst hu; rfl)
                  case q2_3 => first | (unfold maxLen; omega) | omega | (simp; omega)
                  case q2_4 => first | (omega) | omega | (simp; omega)
                  case q2_5 => first | (simp; omega) | omega | (simp; omega)
                  intro v' w6 hown' hgrow _
                  have hb6 := (hbw2.alloc (by omega) (.cells #[.int .i32 y] 21)).grown hgrow (by simp; omega) (fun g hg => by have := (hown.lt g hg).1; omega)
                  go_wp2
                  go_roundw
                  case rel =>
                    refine ⟨i + 1, by omega, by go_num, ?_, hb6⟩
                    rw [unhide HP, unhide HPC, List.map_append, List.length_append]
                    exact hown'
                  case measure =>
                    simp [intOf]
                    omega
                · go_wp2_with (at_builtin; refine wpList_append_own _ rfl _ _ 22 rfl w5.heap.size 21 i0 (.int .i32 0) 1 4 Tryd.underlying22 hi hz0 hz1 hz2 rfl (by decide) _ _ _ rfl (hown.alloc _) ⟨wr.heap.size, 0, none⟩ 1 1 [.int .i32 y] rfl rfl ?q3_1 ?q3_2 ?q3_3 ?q3_4 ?q3_5 ?_)
                  case q3_2 => first | rfl | (intro u hu; simp at hu; subst hu; rfl)
                  case q3_3 => first | (unfold maxLen; omega) | omega | (simp; omega)
                  case q3_4 => first | (omega) | omega | (simp; omega)
                  case q3_5 => first | (simp; omega) | omega | (simp; omega)
                  intro v' w6 hown' hgrow _
                  have hb6 := (hbw2.alloc (by omega) (.cells #[.int .i32 y] 21)).grown hgrow (by simp; omega) (fun g hg => by have := (hown.lt g hg).1; omega)
                  go_wp2
                  go_roundw
                  case rel =>
                    refine ⟨i + 1, by omega, by go_num, ?_, hb6⟩
                    rw [unhide HP, unhide HPC, List.map_append, List.length_append]
                    exact hown'
                  case measure =>
                    simp [intOf]
                    omega
              · by_cases hik : i < k
                · have HPC : Hid (pc (fun m => stTo t l.length m 10) k l i = [42] ++ [y]) := hide (by rw [hpc]; simp [hik])
                  clear hpc
                  rcases hcs with ⟨d1, d2⟩ | d1
                  · go_wp2_with (at_builtin; refine wpList_append_own _ rfl _ _ 22 rfl w5.heap.size 21 i0 (.int .i32 0) 1 4 Tryd.underlying22 hi hz0 hz1 hz2 rfl (by decide) _ _ _ rfl (hown.alloc _) ⟨wr.heap.size, 0, none⟩ 1 1 [.int .i32 42] rfl rfl ?q4_1 ?q4_2 ?q4_3 ?q4_4 ?q4_5 ?_)
                    case q4_2 => first | rfl | (intro u hu; simp at hu; subst hu; rfl)
                    case q4_3 => first | (unfold maxLen; omega) | omega | (simp; omega)
                    case q4_4 => first | (omega) | omega | (simp; omega)
                    case q4_5 => first | (simp; omega) | omega | (simp; omega)
                    intro v' w6 hown' hgrow _
                    have hb6 := (hbw2.alloc (by omega) (.cells #[.int .i32 42] 21)).grown hgrow (by simp; omega) (fun g hg => by have := (hown.lt g hg).1; omega)
                    have hsz6 := hb6.size
                    have hc6 : w6.cell? ⟨b, off + i, none⟩ = some (.int .i32 y) := (hb6.cell (p := ⟨b, off + i, none⟩) hbb).trans ((hbw2.cell (p := ⟨b, off + i, none⟩) hbb).symm.trans hc2)
                    go_wp2_with (at_builtin; refine wpList_append_own _ rfl _ _ 22 rfl w5.heap.size 21 i0 (.int .i32 0) 1 4 Tryd.underlying22 hi hz0 hz1 hz2 rfl (by decide) _ _ _ rfl (hown'.alloc _) ⟨w6.heap.size, 0, none⟩ 1 1 [.int .i32 y] rfl rfl ?q5_1 ?q5_2 ?q5_3 ?q5_4 ?q5_5 ?_)
                    case q5_1 =>
                      intro j u hj
                      match j, hj with
                      | 0, hj => simp at hj; subst hj; simp [Addr.add]
                    case q5_2 => first | rfl | (intro u hu; simp at hu; subst hu; rfl)
                    case q5_3 => first | (unfold maxLen; simp; omega) | omega | (simp; omega)
                    case q5_4 => first | (omega) | omega | (simp; omega)
                    case q5_5 => first | (simp; omega) | omega | (simp; omega)
                    intro v7 w7 hown7 hgrow7 _
                    have hb7 := (hb6.alloc (by omega) (.cells #[.int .i32 y] 21)).grown hgrow7 (by simp; omega) (fun g hg => by have := (hown'.lt g hg).1; omega)
                    go_wp2
                    go_roundw
                    case rel =>
                      refine ⟨i + 1, by omega, by go_num, ?_, hb7⟩
                      rw [unhide HP, unhide HPC, List.map_append, List.length_append]
                      exact hown7
                    case measure =>
                      simp [intOf]
                      omega
                  · go_wp2_with (at_builtin; refine wpList_append_own _ rfl _ _ 22 rfl w5.heap.size 21 i0 (.int .i32 0) 1 4 Tryd.underlying22 hi hz0 hz1 hz2 rfl (by decide) _ _ _ rfl (hown.alloc _) ⟨wr.heap.size, 0, none⟩ 1 1 [.int .i32 42] rfl rfl ?q6_1 ?q6_2 ?q6_3 ?q6_4 ?q6_5 ?_)
                    case q6_2 => first | rfl | (intro u hu; simp at hu; subst hu; rfl)
                    case q6_3 => first | (unfold maxLen; omega) | omega | (simp; omega)
                    case q6_4 => first | (omega) | omega | (simp; omega)
                    case q6_5 => first | (simp; omega) | omega | (simp; omega)
                    intro v' w6 hown' hgrow _
                    have hb6 := (hbw2.alloc (by omega) (.cells #[.int .i32 42] 21)).grown hgrow (by simp; omega) (fun g hg => by have := (hown.lt g hg).1; omega)
                    have hsz6 := hb6.size
                    have hc6 : w6.cell? ⟨b, off + i, none⟩ = some (.int .i32 y) := (hb6.cell (p := ⟨b, off + i, none⟩) hbb).trans ((hbw2.cell (p := ⟨b, off + i, none⟩) hbb).symm.trans hc2)
                    go_wp2_with (at_builtin; refine wpList_append_own _ rfl _ _ 22 rfl w5.heap.size 21 i0 (.int .i32 0) 1 4 Tryd.underlying22 hi hz0 hz1 hz2 rfl (by decide) _ _ _ rfl (hown'.alloc _) ⟨w6.heap.size, 0, none⟩ 1 1 [.int .i32 y] rfl rfl ?q7_1 ?q7_2 ?q7_3 ?q7_4 ?q7_5 ?_)
                    case q7_1 =>
                      intro j u hj
                      match j, hj with
                      | 0, hj => simp at hj; subst hj; simp [Addr.add]
                    case q7_2 => first | rfl | (intro u hu; simp at hu; subst hu; rfl)
                    case q7_3 => first | (unfold maxLen; simp; omega) | omega | (simp; omega)
                    case q7_4 => first | (omega) | omega | (simp; omega)
                    case q7_5 => first | (simp; omega) | omega | (simp; omega)
                    intro v7 w7 hown7 hgrow7 _
                    have hb7 := (hb6.alloc (by omega) (.cells #[.int .i32 y] 21)).grown hgrow7 (by simp; omega) (fun g hg => by have := (hown'.lt g hg).1; omega)
                    go_wp2
                    go_roundw
                    case rel =>
                      refine ⟨i + 1, by omega, by go_num, ?_, hb7⟩
                      rw [unhide HP, unhide HPC, List.map_append, List.length_append]
                      exact hown7
                    case measure =>
                      simp [intOf]
                      omega
                · have HPC : Hid (pc (fun m => stTo t l.length m 10) k l i = [42]) := hide (by rw [hpc]; simp [hik])
                  clear hpc
                  rcases hcs with ⟨d1, d2⟩ | d1
                  · go_wp2_with (at_builtin; refine wpList_append_own _ rfl _ _ 22 rfl w5.heap.size 21 i0 (.int .i32 0) 1 4 Tryd.underlying22 hi hz0 hz1 hz2 rfl (by decide) _ _ _ rfl (hown.alloc _) ⟨wr.heap.size, 0, none⟩ 1 1 [.int .i32 42] rfl rfl ?q8_1 ?q8_2 ?q8_3 ?q8_4 ?q8_5 ?_)
                    case q8_2 => first | rfl | (intro u hu; simp at hu; subst hu; rfl)
                    case q8_3 => first | (unfold maxLen; omega) | omega | (simp; omega)
                    case q8_4 => first | (omega) | omega | (simp; omega)
                    case q8_5 => first | (simp; omega) | omega | (simp; omega)
                    intro v' w6 hown' hgrow _
                    have hb6 := (hbw2.alloc (by omega) (.cells #[.int .i32 42] 21)).grown hgrow (by simp; omega) (fun g hg => by have := (hown.lt g hg).1; omega)
                    go_wp2
                    go_roundw
                    case rel =>
                      refine ⟨i + 1, by omega, by go_num, ?_, hb6⟩
                      rw [unhide HP, unhide HPC, List.map_append, List.length_append]
                      exact hown'
                    case measure =>
                      simp [intOf]
                      omega
                  · go_wp2_with (at_builtin; refine wpList_append_own _ rfl _ _ 22 rfl w5.heap.size 21 i0 (.int .i32 0) 1 4 Tryd.underlying22 hi hz0 hz1 hz2 rfl (by decide) _ _ _ rfl (hown.alloc _) ⟨wr.heap.size, 0, none⟩ 1 1 [.int .i32 42] rfl rfl ?q9_1 ?q9_2 ?q9_3 ?q9_4 ?q9_5 ?_)
                    case q9_2 => first | rfl | (intro u hu; simp at hu; subst hu; rfl)
                    case q9_3 => first | (unfold maxLen; omega) | omega | (simp; omega)
                    case q9_4 => first | (omega) | omega | (simp; omega)
                    case q9_5 => first | (simp; omega) | omega | (simp; omega)
                    intro v' w6 hown' hgrow _
                    have hb6 := (hbw2.alloc (by omega) (.cells #[.int .i32 42] 21)).grown hgrow (by simp; omega) (fun g hg => by have := (hown.lt g hg).1; omega)
                    go_wp2
                    go_roundw
                    case rel =>
                      refine ⟨i + 1, by omega, by go_num, ?_, hb6⟩
                      rw [unhide HP, unhide HPC, List.map_append, List.length_append]
                      exact hown'
                    case measure =>
                      simp [intOf]
                      omega
        · obtain rfl : i = l.length := by omega
          obtain ⟨m1, m2, m3, m4, m5, m6, m7, m8, m9⟩ := stars_facts (st := fun m => stTo t l.length m 10) (k := k) hlr
          generalize patTo (fun m => stTo t l.length m 10) k l l.length = P at *
          obtain ⟨po, pcap, rfl, hprow, _, _⟩ := rowAt_owns hown
          have hlrow2 := hlrow.below hbw2
          have bw6 := bw4.trans (hbw2.mono bw4.size)
          have hf6 := hf4.below hbw2
          clear hown hlr hil hlt hlrow hf4 hb4
          have zl := ofL_len l
          have zp := ofL_len P
          have M8 := hide m8
          have M9 := hide m9
          clear m8 m9
          go_wp2_with fail
          refine (rof_any l lo lc _ (by omega) hlrow2).mono ?_
          rintro e w6 ⟨rfl, b6⟩
          rw [ofS_ok (unhide M8), ofE_ok (unhide M8)]
          have hprow2 := hprow.below b6
          have bw7 := bw6.trans (b6.mono bw6.size)
          have hf7 := hf6.below b6
          go_wp2_with fail
          refine (rof_any P po pcap _ (by omega) hprow2).mono ?_
          rintro e w7 ⟨rfl, b7⟩
          rw [ofS_ok (unhide M9), ofE_ok (unhide M9)]
          have bw8 := bw7.trans (b7.mono bw7.size)
          have hf8 := hf7.below b7
          clear hprow hprow2 hlrow2 hf6 hf7
          obtain ⟨sb, hsb⟩ : ∃ sb : ByteArray, sb = ⟨(ofL l).toArray⟩ := ⟨_, rfl⟩
          obtain ⟨qb, hqb⟩ : ∃ qb : ByteArray, qb = ⟨(ofL P).toArray⟩ := ⟨_, rfl⟩
          have hsl : sb.data.toList = ofL l := by rw [hsb]
          have hql : qb.data.toList = ofL P := by rw [hqb]
          rw [← hsb, ← hqb]
          have zs : sb.size ≤ 160 := by rw [Lib.size_eq, hsl]; omega
          have zq : qb.size ≤ 320 := by rw [Lib.size_eq, hql]; omega
          rw [← hsl] at m1 m2 m3 m4 m5 m6 m7
          rw [← hql] at m1 m3 m4 m6
          have F1 := hide m1
          have F2 : Hid (likeL (⟨#[42]⟩ : ByteArray).data.toList sb.data.toList false [] = true) := hide m2
          have F3 : Hid (likeL (qb ++ (⟨#[42]⟩ : ByteArray)).data.toList sb.data.toList false [] = true) := hide (by rw [app_l]; exact m3)
          have F4 : Hid (likeL ((⟨#[42, 42]⟩ : ByteArray) ++ qb).data.toList sb.data.toList false [] = true) := hide (by rw [app_l]; exact m4)
          have F5 := hide m5
          have F6 : Hid (likeL (qb ++ (⟨#[205, 184]⟩ : ByteArray)).data.toList sb.data.toList false [] = false) := hide (by rw [app_l]; exact m6)
          have F7 : Hid (likeL sb.data.toList (sb ++ (⟨#[205, 184]⟩ : ByteArray)).data.toList false [] = false) := hide (by rw [app_l]; exact m7)
          have Z3 : Hid ((qb ++ (⟨#[42]⟩ : ByteArray)).size < 4294967281) := hide (by rw [ByteArray.size_append]; show qb.size + 1 < _; omega)
          have Z4 : Hid (((⟨#[42, 42]⟩ : ByteArray) ++ qb).size < 4294967281) := hide (by rw [ByteArray.size_append]; show 2 + qb.size < _; omega)
          have Z6 : Hid ((qb ++ (⟨#[205, 184]⟩ : ByteArray)).size < 4294967281) := hide (by rw [ByteArray.size_append]; show qb.size + 2 < _; omega)
          have Z7 : Hid ((sb ++ (⟨#[205, 184]⟩ : ByteArray)).size < 4294967281) := hide (by rw [ByteArray.size_append]; show sb.size + 2 < _; omega)
          clear m1 m2 m3 m4 m5 m6 m7 hsb hqb hsl hql zl zp M8 M9
          go_wp2_with fail
          refine (like_fit _ _ _ hf8 (by omega) (by omega)).mono ?_
          rintro e v1 ⟨rfl, d1⟩
          rw [unhide F1]
          have bw9 := bw8.trans (d1.mono bw8.size)
          have hf9 := hf8.below d1
          go_wp2_with fail
          refine (like_fit _ _ _ hf9 (by omega) (by decide)).mono ?_
          rintro e v2 ⟨rfl, d2⟩
          rw [unhide F2]
          have bw10 := bw9.trans (d2.mono bw9.size)
          have hf10 := hf9.below d2
          go_wp2_with fail
          refine (like_fit _ _ _ hf10 (by omega) (by exact unhide Z3)).mono ?_
          rintro e v3 ⟨rfl, d3⟩
          rw [unhide F3]
          have bw11 := bw10.trans (d3.mono bw10.size)
          have hf11 := hf10.below d3
          go_wp2_with fail
          refine (like_fit _ _ _ hf11 (by omega) (by exact unhide Z4)).mono ?_
          rintro e v4 ⟨rfl, d4⟩
          rw [unhide F4]
          have bw12 := bw11.trans (d4.mono bw11.size)
          have hf12 := hf11.below d4
          go_wp2_with fail
          refine (like_fit _ _ _ hf12 (by omega) (by omega)).mono ?_
          rintro e v5 ⟨rfl, d5⟩
          rw [unhide F5]
          have bw13 := bw12.trans (d5.mono bw12.size)
          have hf13 := hf12.below d5
          go_wp2_with fail
          refine (like_fit _ _ _ hf13 (by omega) (by exact unhide Z6)).mono ?_
          rintro e v6 ⟨rfl, d6⟩
          rw [unhide F6]
          have bw14 := bw13.trans (d6.mono bw13.size)
          have hf14 := hf13.below d6
          go_wp2_with fail
          refine (like_fit _ _ _ hf14 (by exact unhide Z7) (by omega)).mono ?_
          rintro e v7 ⟨rfl, d7⟩
          rw [unhide F7]
          have bw15 := bw14.trans (d7.mono bw14.size)
          have hf15 := hf14.below d7
          go_wp2
          go_ret
          exact ⟨rfl, bw15⟩
end Go.Proofs.YtiokpdpegkbgiaaDoor
