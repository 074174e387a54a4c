/-
  chancelref1.One, Check and Runes: what they return.
  chancelref1.Runes of a text: its runes.
-/
import Derived.Test.YtnbbimcooilmdaaGreatOne
import Derived.Lib.TrimUEq
import Derived.Test.YtnbbimcooilmdaaGreatEnLaw
namespace Go.Proofs.YtnbbimcooilmdaaGreat
open Go.RowKit

def oneR (l : List UInt8) : Int := if badHead l then 0 else ((Lib.decodeL l).1 : Int)
def oneN (l : List UInt8) : Int := if badHead l then 0 else ((Lib.decodeL l).2 : Int)

theorem get_at (s : ByteArray) (k : Nat) (h : k < s.size) : s.get! k = s[k] := by
  show s.data[k]! = s.data[k]'h
  exact getElem!_pos s.data k h

theorem bad_of {l : List UInt8} (h : Lib.decodeL l = (65533, 1)) : oneR l = 0 ∧ oneN l = 0 := by
  have : badHead l = true := by unfold badHead; rw [h]; rfl
  unfold oneR oneN
  rw [this]
  exact ⟨rfl, rfl⟩
theorem good_of {l : List UInt8} {r k : Nat} (h : Lib.decodeL l = (r, k)) (hk : k ≠ 1 ∨ r < 128) : oneR l = r ∧ oneN l = k := by
  have : badHead l = false := by
    unfold badHead
    rw [h]
    rcases hk with hk | hk
    · have : (k == 1) = false := by simp [hk]
      show (_ && (k == 1)) = false
      rw [this, Bool.and_false]
    · have : (r == 65533) = false := by simp; omega
      show ((r == 65533) && _) = false
      rw [this, Bool.false_and]
  unfold oneR oneN
  rw [this, h]
  exact ⟨rfl, rfl⟩

theorem dec_here (s : ByteArray) (i : Nat) : Lib.decodeL (s.data.toList.drop i) = Lib.decodeN (s.size - i) (s.get! i).toNat (s.get! (i + 1)).toNat (s.get! (i + 2)).toNat (s.get! (i + 3)).toNat := by
  rw [Lib.decodeL_drop, Lib.decode_at]

theorem one_eq {e : Ending} {w w' : World} {a b a' b' : Int} (ha : a' = a) (hb : b' = b) (h : e = .returned (.tuple #[.int .i32 a, .int .i64 b]) ∧ w' = w) : e = .returned (.tuple #[.int .i32 a', .int .i64 b']) ∧ w' = w := by
  rw [ha, hb]
  exact h

theorem one_any (s : ByteArray) (i : Nat) (hi : i < s.size) (hs : s.size ≤ 1099511627776) (w : World) :
    Calls Tryz.prog 81 #[.string s, .int .i64 i] w fun e w' => e = .returned (.tuple #[.int .i32 (oneR (s.data.toList.drop i)), .int .i64 (oneN (s.data.toList.drop i))]) ∧ w' = w := by
  have hd := dec_here s i
  rw [get_at s i hi] at hd
  have k0 := s[i].toNat_lt
  by_cases c1 : s[i].toNat < 128
  · have hd2 : Lib.decodeL (s.data.toList.drop i) = (s[i].toNat, 1) := by rw [hd]; unfold Lib.decodeN; rw [if_pos c1]
    obtain ⟨e1, e2⟩ := good_of hd2 (.inr c1)
    exact (one_ascii s i w hi c1).mono fun e w' h => one_eq e1 e2 h
  by_cases c2 : s[i].toNat < 192
  · have hd2 : Lib.decodeL (s.data.toList.drop i) = (65533, 1) := by rw [hd]; exact dN_short _ _ _ _ _ (by omega) (by omega) (by omega) (by omega)
    obtain ⟨e1, e2⟩ := bad_of hd2
    exact (one_lo s i w hi (by omega) c2).mono fun e w' h => one_eq e1 e2 h
  by_cases c3 : 248 ≤ s[i].toNat
  · have hd2 : Lib.decodeL (s.data.toList.drop i) = (65533, 1) := by rw [hd]; exact dN_short _ _ _ _ _ (by omega) (by omega) (by omega) (by omega)
    obtain ⟨e1, e2⟩ := bad_of hd2
    exact (one_hi s i w hi c3).mono fun e w' h => one_eq e1 e2 h
  by_cases c4 : s[i].toNat < 224
  · by_cases hl : s.size < i + 2
    · have hd2 : Lib.decodeL (s.data.toList.drop i) = (65533, 1) := by rw [hd]; exact dN_short _ _ _ _ _ (by omega) (by omega) (by omega) (by omega)
      obtain ⟨e1, e2⟩ := bad_of hd2
      exact (one2_short s i hs w hi hl (by omega) c4).mono fun e w' h => one_eq e1 e2 h
    have hi1 : i + 1 < s.size := by omega
    rw [get_at s (i + 1) hi1] at hd
    have k1 := s[i + 1].toNat_lt
    by_cases hc1 : s[i + 1].toNat / 64 = 2
    · by_cases hv : 128 ≤ (s[i].toNat : Int) % 32 * 64 + (s[i + 1].toNat : Int) % 64
      · have hd2 : Lib.decodeL (s.data.toList.drop i) = (s[i].toNat % 32 * 64 + s[i + 1].toNat % 64, 2) := by
          rw [hd]; unfold Lib.decodeN
          rw [if_neg (by omega), if_pos (by omega), if_pos (by omega)]
        obtain ⟨e1, e2⟩ := good_of hd2 (.inl (by omega))
        exact (one2_good s i hs w hi1 (by omega) c4 hc1 hv).mono fun e w' h => one_eq (by rw [e1]; omega) e2 h
      · have hd2 : Lib.decodeL (s.data.toList.drop i) = (65533, 1) := by
          rw [hd]; unfold Lib.decodeN
          rw [if_neg (by omega), if_pos (by omega), if_neg (by omega)]
        obtain ⟨e1, e2⟩ := bad_of hd2
        exact (one2_lo s i hs w hi1 (by omega) c4 hc1 (by omega)).mono fun e w' h => one_eq e1 e2 h
    · have hd2 : Lib.decodeL (s.data.toList.drop i) = (65533, 1) := by
        rw [hd]; unfold Lib.decodeN
        rw [if_neg (by omega), if_neg (by omega), if_neg (by omega), if_neg (by omega)]
      obtain ⟨e1, e2⟩ := bad_of hd2
      exact (one2_cont1 s i hs w hi1 (by omega) c4 hc1).mono fun e w' h => one_eq e1 e2 h
  by_cases c5 : s[i].toNat < 240
  · by_cases hl : s.size < i + 3
    · have hd2 : Lib.decodeL (s.data.toList.drop i) = (65533, 1) := by rw [hd]; exact dN_short _ _ _ _ _ (by omega) (by omega) (by omega) (by omega)
      obtain ⟨e1, e2⟩ := bad_of hd2
      exact (one3_short s i hs w hi hl (by omega) c5).mono fun e w' h => one_eq e1 e2 h
    have hi1 : i + 1 < s.size := by omega
    have hi2 : i + 2 < s.size := by omega
    rw [get_at s (i + 1) hi1, get_at s (i + 2) hi2] at hd
    have k1 := s[i + 1].toNat_lt
    have k2 := s[i + 2].toNat_lt
    by_cases hc1 : s[i + 1].toNat / 64 = 2
    · by_cases hc2 : s[i + 2].toNat / 64 = 2
      · obtain ⟨v, hve⟩ : ∃ v : Int, v = (((s[i].toNat : Int) % 16 * 64 + (s[i + 1].toNat : Int) % 64) * 64 + (s[i + 2].toNat : Int) % 64) := ⟨_, rfl⟩
        cases hval : Lib.validRune v
        · have hbad := of_decide_eq_false hval
          have hd2 : Lib.decodeL (s.data.toList.drop i) = (65533, 1) := by
            rw [hd]; unfold Lib.decodeN
            rw [if_neg (by omega), if_neg (by omega), if_pos (by omega), if_neg (by omega)]
          obtain ⟨e1, e2⟩ := bad_of hd2
          exact (one3_bad s i hs w hi2 (by omega) c5 hc1 hc2 v hve hval).mono fun e w' h => one_eq e1 e2 h
        · have hok := of_decide_eq_true hval
          by_cases hlt : v < 2048
          · have hd2 : Lib.decodeL (s.data.toList.drop i) = (65533, 1) := by
              rw [hd]; unfold Lib.decodeN
              rw [if_neg (by omega), if_neg (by omega), if_pos (by omega), if_neg (by omega)]
            obtain ⟨e1, e2⟩ := bad_of hd2
            exact (one3_lo s i hs w hi2 (by omega) c5 hc1 hc2 v hve hval hlt).mono fun e w' h => one_eq e1 e2 h
          · have hd2 : Lib.decodeL (s.data.toList.drop i) = (s[i].toNat % 16 * 4096 + s[i + 1].toNat % 64 * 64 + s[i + 2].toNat % 64, 3) := by
              rw [hd]; unfold Lib.decodeN
              rw [if_neg (by omega), if_neg (by omega), if_pos (by omega), if_pos (by omega)]
            obtain ⟨e1, e2⟩ := good_of hd2 (.inl (by omega))
            exact (one3_good s i hs w hi2 (by omega) c5 hc1 hc2 v hve hval (by omega)).mono fun e w' h => one_eq (by rw [e1]; omega) e2 h
      · have hd2 : Lib.decodeL (s.data.toList.drop i) = (65533, 1) := by
          rw [hd]; unfold Lib.decodeN
          rw [if_neg (by omega), if_neg (by omega), if_neg (by omega), if_neg (by omega)]
        obtain ⟨e1, e2⟩ := bad_of hd2
        exact (one3_cont2 s i hs w hi2 (by omega) c5 hc1 hc2).mono fun e w' h => one_eq e1 e2 h
    · have hd2 : Lib.decodeL (s.data.toList.drop i) = (65533, 1) := by
        rw [hd]; unfold Lib.decodeN
        rw [if_neg (by omega), if_neg (by omega), if_neg (by omega), if_neg (by omega)]
      obtain ⟨e1, e2⟩ := bad_of hd2
      exact (one3_cont1 s i hs w hi2 (by omega) c5 hc1).mono fun e w' h => one_eq e1 e2 h
  · by_cases hl : s.size < i + 4
    · have hd2 : Lib.decodeL (s.data.toList.drop i) = (65533, 1) := by rw [hd]; exact dN_short _ _ _ _ _ (by omega) (by omega) (by omega) (by omega)
      obtain ⟨e1, e2⟩ := bad_of hd2
      exact (one4_short s i hs w hi hl (by omega) (by omega)).mono fun e w' h => one_eq e1 e2 h
    have hi1 : i + 1 < s.size := by omega
    have hi2 : i + 2 < s.size := by omega
    have hi3 : i + 3 < s.size := by omega
    rw [get_at s (i + 1) hi1, get_at s (i + 2) hi2, get_at s (i + 3) hi3] at hd
    have k1 := s[i + 1].toNat_lt
    have k2 := s[i + 2].toNat_lt
    have k3 := s[i + 3].toNat_lt
    by_cases hc1 : s[i + 1].toNat / 64 = 2
    · by_cases hc2 : s[i + 2].toNat / 64 = 2
      · by_cases hc3 : s[i + 3].toNat / 64 = 2
        · obtain ⟨v, hve⟩ : ∃ v : Int, v = ((((s[i].toNat : Int) % 8 * 64 + (s[i + 1].toNat : Int) % 64) * 64 + (s[i + 2].toNat : Int) % 64) * 64 + (s[i + 3].toNat : Int) % 64) := ⟨_, rfl⟩
          cases hval : Lib.validRune v
          · have hbad := of_decide_eq_false hval
            have hd2 : Lib.decodeL (s.data.toList.drop i) = (65533, 1) := by
              rw [hd]; unfold Lib.decodeN
              rw [if_neg (by omega), if_neg (by omega), if_neg (by omega), if_pos (by omega), if_neg (by omega)]
            obtain ⟨e1, e2⟩ := bad_of hd2
            exact (one4_bad s i hs w hi3 (by omega) (by omega) hc1 hc2 hc3 v hve hval).mono fun e w' h => one_eq e1 e2 h
          · have hok := of_decide_eq_true hval
            by_cases hlt : v < 65536
            · have hd2 : Lib.decodeL (s.data.toList.drop i) = (65533, 1) := by
                rw [hd]; unfold Lib.decodeN
                rw [if_neg (by omega), if_neg (by omega), if_neg (by omega), if_pos (by omega), if_neg (by omega)]
              obtain ⟨e1, e2⟩ := bad_of hd2
              exact (one4_lo s i hs w hi3 (by omega) (by omega) hc1 hc2 hc3 v hve hval hlt).mono fun e w' h => one_eq e1 e2 h
            · have hd2 : Lib.decodeL (s.data.toList.drop i) = (s[i].toNat % 8 * 262144 + s[i + 1].toNat % 64 * 4096 + s[i + 2].toNat % 64 * 64 + s[i + 3].toNat % 64, 4) := by
                rw [hd]; unfold Lib.decodeN
                rw [if_neg (by omega), if_neg (by omega), if_neg (by omega), if_pos (by omega), if_pos (by omega)]
              obtain ⟨e1, e2⟩ := good_of hd2 (.inl (by omega))
              exact (one4_good s i hs w hi3 (by omega) (by omega) hc1 hc2 hc3 v hve hval (by omega)).mono fun e w' h => one_eq (by rw [e1]; omega) e2 h
        · have hd2 : Lib.decodeL (s.data.toList.drop i) = (65533, 1) := by
            rw [hd]; unfold Lib.decodeN
            rw [if_neg (by omega), if_neg (by omega), if_neg (by omega), if_neg (by omega)]
          obtain ⟨e1, e2⟩ := bad_of hd2
          exact (one4_cont3 s i hs w hi3 (by omega) (by omega) hc1 hc2 hc3).mono fun e w' h => one_eq e1 e2 h
      · have hd2 : Lib.decodeL (s.data.toList.drop i) = (65533, 1) := by
          rw [hd]; unfold Lib.decodeN
          rw [if_neg (by omega), if_neg (by omega), if_neg (by omega), if_neg (by omega)]
        obtain ⟨e1, e2⟩ := bad_of hd2
        exact (one4_cont2 s i hs w hi3 (by omega) (by omega) hc1 hc2).mono fun e w' h => one_eq e1 e2 h
    · have hd2 : Lib.decodeL (s.data.toList.drop i) = (65533, 1) := by
        rw [hd]; unfold Lib.decodeN
        rw [if_neg (by omega), if_neg (by omega), if_neg (by omega), if_neg (by omega)]
      obtain ⟨e1, e2⟩ := bad_of hd2
      exact (one4_cont1 s i hs w hi3 (by omega) (by omega) hc1).mono fun e w' h => one_eq e1 e2 h

set_option maxHeartbeats 4000000 in
set_option maxRecDepth 1000000 in
theorem rcheck_any (s : ByteArray) (w : World) (hs : s.size ≤ 1099511627776) :
    Calls Tryz.prog 72 #[.string s] w fun e w' => e = .returned (.int .i64 (chk s.data.toList)) ∧ w' = w := by
  go_enter Tryz.func72, Tryz.ntmps72
  go_wp2
  go_loop [3] (fun i => ∃ (pos : Nat), pos ≤ s.size ∧ i = .int .i64 pos ∧ okL (s.data.toList.drop pos) = okL s.data.toList) (fun i => s.size - (intOf i).toNat)
  case atStart => exact ⟨0, Nat.zero_le _, rfl, by simp⟩
  case round =>
    obtain ⟨pos, hpp, rfl, hacc⟩ := hrel
    have Hacc := hide hacc
    clear hacc
    by_cases hlt : pos < s.size
    · have hwd := Lib.decode_width_pos s pos hlt
      have hle := dec_in hlt
      have hok := okL_cons _ (drop_ne hlt)
      rw [Lib.decodeL_drop, List.drop_drop] at hok
      have HO := hide hok
      clear hok
      go_wp2_with fail
      refine (one_any s pos hlt hs _).mono ?_
      rintro e w1 ⟨rfl, rfl⟩
      cases hb : badHead (s.data.toList.drop pos)
      · have e2 : oneN (s.data.toList.drop pos) = ((Utf8.decode s pos).2 : Int) := by unfold oneN; rw [hb, Lib.decodeL_drop]; rfl
        rw [e2]
        generalize oneR (s.data.toList.drop pos) = rr
        have HB := hide hb
        clear hb e2
        have hne : (((Utf8.decode s pos).2 : Int) == 0) = false := by simp; omega
        go_wp2
        go_round
        case rel =>
          refine ⟨pos + (Utf8.decode s pos).2, hle, by go_num, ?_⟩
          rw [← unhide Hacc, unhide HO, unhide HB]
          rfl
        case measure =>
          simp [intOf]
          omega
      · have e2 : oneN (s.data.toList.drop pos) = 0 := by unfold oneN; rw [hb]; rfl
        rw [e2]
        generalize oneR (s.data.toList.drop pos) = rr
        have HB := hide hb
        clear hb e2
        go_wp2
        go_ret
        refine ⟨ret_int (chk_bad ?_).symm, rfl⟩
        rw [← unhide Hacc, unhide HO, unhide HB]
        rfl
    · go_wp2
      go_ret
      refine ⟨ret_int (chk_ok ?_).symm, rfl⟩
      rw [← unhide Hacc, drop_end hlt, okL_nil]
end Go.Proofs.YtnbbimcooilmdaaGreat

namespace Go.Proofs.YtnbbimcooilmdaaGreat
open Go.RowKit

set_option maxHeartbeats 4000000 in
set_option maxRecDepth 1000000 in
theorem rrunes_any (s : ByteArray) (w : World) (hs : s.size ≤ 1099511627776) (hok : okL s.data.toList = true) :
    Calls Tryz.prog 73 #[.string s] w fun e w' => ∃ v, e = .returned v ∧ w'.ownsRow w.heap.size 21 1 v (runes s.data.toList).length ((runes s.data.toList).map (Value.int .i32)) ∧ Below w.heap.size w w' := by
  obtain ⟨i0, hi, hz0, hz1, hz2⟩ := info_parts infoRune
  have HOK := hide hok
  clear hok
  go_enter Tryz.func73, Tryz.ntmps73
  go_wp2
  go_loopw [3, 4] (fun v i wr => ∃ (pos : Nat) (xs : List Int), pos ≤ s.size ∧ i = .int .i64 pos ∧ wr.ownsRow w.heap.size 21 1 v xs.length (xs.map (Value.int .i32)) ∧ Below w.heap.size w wr ∧
      xs ++ runes (s.data.toList.drop pos) = runes s.data.toList ∧ okL (s.data.toList.drop pos) = true ∧ xs.length ≤ pos) (fun _ i _ => s.size - (intOf i).toNat)
  case atStart =>
    exact ⟨0, [], Nat.zero_le _, rfl, ⟨by simp, .inl ⟨rfl, rfl⟩⟩, Below.refl _ w, by simp, by simpa using unhide HOK, by simp⟩
  case round =>
    obtain ⟨pos, xs, hpp, rfl, hown, hbw, hacc, hokp, hxl⟩ := hrel
    have Hacc := hide hacc
    have HOKP := hide hokp
    clear hacc hokp
    have hsz := hbw.size
    by_cases hlt : pos < s.size
    · have hwd := Lib.decode_width_pos s pos hlt
      have hle := dec_in hlt
      have hmx := dec_max_at s pos
      have HR := hide (runes_at hlt)
      have hok2 := okL_cons _ (drop_ne hlt)
      rw [unhide HOKP, Lib.decodeL_drop, List.drop_drop] at hok2
      have hb : badHead (s.data.toList.drop pos) = false := by
        cases h : badHead (s.data.toList.drop pos) with
        | false => rfl
        | true => rw [h] at hok2; cases hok2
      rw [hb] at hok2
      have HO2 := hide hok2
      clear hok2
      have e1 : oneR (s.data.toList.drop pos) = ((Utf8.decode s pos).1 : Int) := by unfold oneR; rw [hb, Lib.decodeL_drop]; rfl
      have e2 : oneN (s.data.toList.drop pos) = ((Utf8.decode s pos).2 : Int) := by unfold oneN; rw [hb, Lib.decodeL_drop]; rfl
      have hne : (((Utf8.decode s pos).2 : Int) == 0) = false := by simp; omega
      have E1 := hide e1
      have E2 := hide e2
      clear hb e1 e2
      go_wp2_with fail
      refine (one_any s pos hlt hs _).mono ?_
      rintro e w1 ⟨rfl, rfl⟩
      rw [unhide E1, unhide E2]
      go_wp2_with (at_builtin; refine wpList_append_own _ rfl _ _ 112 rfl w.heap.size 21 i0 (.int .i32 0) 1 4 Tryz.underlying112 hi hz0 hz1 hz2 rfl (by decide) _ _ _ rfl (hown.alloc _) ⟨w1.heap.size, 0, none⟩ 1 1 [.int .i32 (Utf8.decode s pos).1] rfl rfl ?c1 ?c2 ?c3 ?c4 ?c5 ?_)
      case c1 =>
        intro j u hj
        match j, hj with
        | 0, hj => simp at hj; subst hj; simp [Addr.add]
      case c2 => intro u hu; simp at hu; subst hu; rfl
      case c3 => unfold maxLen; omega
      case c4 => omega
      case c5 => simp; omega
      intro v' w2 hown' hgrow _
      have hb3 := (hbw.alloc (by omega) (.cells #[.int .i32 (Utf8.decode s pos).1] 21)).grown hgrow (by simp; omega) (fun g hg => (hown.lt g hg).1)
      go_wp2
      go_roundw
      case rel =>
        refine ⟨pos + (Utf8.decode s pos).2, xs ++ [((Utf8.decode s pos).1 : Int)], hle, by go_num, ?_, hb3, ?_, ?_, by simp; omega⟩
        · rw [List.map_append, List.length_append]
          exact hown'
        · rw [← unhide Hacc, unhide HR]
          simp
        · have := unhide HO2
          simpa using this.symm
      case measure =>
        simp [intOf]
        omega
    · go_wp2
      go_ret
      have e1 := unhide Hacc
      rw [drop_end hlt, runes_nil, List.append_nil] at e1
      rw [← e1]
      exact ⟨_, rfl, hown, hbw⟩

/-- The same, as a slice with its cells. -/
theorem rrunes_row (s : ByteArray) (w : World) (hs : s.size ≤ 1099511627776) (hok : okL s.data.toList = true) :
    Calls Tryz.prog 73 #[.string s] w fun e w' => ∃ ao cap, e = .returned (.slice ao (runes s.data.toList).length cap) ∧ RowAt w' ao (runes s.data.toList) ∧ (runes s.data.toList).length ≤ cap ∧ cap ≤ maxLen ∧ Below w.heap.size w w' := by
  refine (rrunes_any s w hs hok).mono ?_
  rintro e w' ⟨v, rfl, hown, hb⟩
  obtain ⟨ao, cap, rfl, h1, h2, h3⟩ := rowAt_owns hown
  exact ⟨ao, cap, rfl, h1, h2, h3, hb⟩
end Go.Proofs.YtnbbimcooilmdaaGreat
