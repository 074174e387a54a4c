/-
  chancelref1.Read: what it returns, for all bytes.
-/
import Derived.Test.YtfkbbenjmhngcaaDoorRefRead2
namespace Go.Proofs.YtfkbbenjmhngcaaDoor
open Go.RowKit

theorem rread_none (s : ByteArray) (w : World) (hz : s.size = 0) :
    Calls Tryd.prog 48 #[.string s] w fun e w' => e = .returned (.tuple #[.string ⟨(rd s.data.toList).1.toArray⟩, .int .i64 (rd s.data.toList).2.1, .int .i64 (rd s.data.toList).2.2]) ∧ Below w.heap.size w w' := by
  have e1 : rd s.data.toList = ([], 0, 12) := by
    have : s.data.toList = [] := List.length_eq_zero_iff.1 (by rw [← Lib.size_eq]; exact hz)
    rw [this]
    rfl
  have E1 := hide e1
  have hzb : ((s.size : Int) == 0) = true := by simp [hz]
  clear e1 hz
  go_enter Tryd.func48, Tryd.ntmps48
  go_wp2
  go_ret3
  rw [unhide E1]
  exact ⟨rfl, Below.refl _ _⟩

theorem rread_not (s : ByteArray) (w : World) (h0 : 0 < s.size) (hs : s.size ≤ 1099511627776) (hq : ¬ s[0] = 34) :
    Calls Tryd.prog 48 #[.string s] w fun e w' => e = .returned (.tuple #[.string ⟨(rd s.data.toList).1.toArray⟩, .int .i64 (rd s.data.toList).2.1, .int .i64 (rd s.data.toList).2.2]) ∧ Below w.heap.size w w' := by
  have hzb : ((s.size : Int) == 0) = false := beq_eq_false_iff_ne.2 (by omega)
  have hd0 := drop_at s 0 h0
  rw [List.drop_zero, Nat.zero_add] at hd0
  have e1 : rd s.data.toList = ([], 0, 12) := by
    have hp : Lib.hasPrefix s.data.toList [34] = false := by
      rw [hd0]
      unfold Lib.hasPrefix
      have : ((34 : UInt8) == s[0]) = false := by simp; exact fun h => hq h.symm
      simp only [List.isPrefixOf]
      rw [this]
      rfl
    unfold rd
    rw [hp]
    rfl
  have E1 := hide e1
  have b34 : ((s[0].toNat : Int) != 34) = true := by
    have : s[0].toNat ≠ 34 := fun e => hq (UInt8.toNat_inj.1 e)
    rw [bne_iff_ne]
    omega
  clear e1 hd0
  go_enter Tryd.func48, Tryd.ntmps48
  go_wp2
  go_ret3
  rw [unhide E1]
  exact ⟨rfl, Below.refl _ _⟩

set_option maxHeartbeats 4000000 in
set_option maxRecDepth 1000000 in
theorem rread_yes (s : ByteArray) (w : World) (h0 : 0 < s.size) (hs : s.size ≤ 1099511627776) (hq : s[0] = 34) :
    Calls Tryd.prog 48 #[.string s] w fun e w' => e = .returned (.tuple #[.string ⟨(rd s.data.toList).1.toArray⟩, .int .i64 (rd s.data.toList).2.1, .int .i64 (rd s.data.toList).2.2]) ∧ Below w.heap.size w w' := by
  have hzb : ((s.size : Int) == 0) = false := beq_eq_false_iff_ne.2 (by omega)
  have hd0 := drop_at s 0 h0
  rw [List.drop_zero, Nat.zero_add] at hd0
  have e1 : rd s.data.toList = rdL (s.data.toList.drop 1) [] 1 := by
    have hp : Lib.hasPrefix s.data.toList [34] = true := by
      rw [hd0, hq]
      unfold Lib.hasPrefix
      simp [List.isPrefixOf]
    unfold rd
    rw [hp]
    rfl
  have E1 := hide e1
  clear e1 hd0
  go_enter Tryd.func48, Tryd.ntmps48
  go_wp2
  clear hq hzb
  go_loopw [5, 6] (fun v iv wr => ∃ (i : Nat) (acc : List UInt8), 1 ≤ i ∧ i ≤ s.size ∧ iv = .int .i64 i ∧ wr.ownsRow w.heap.size 5 1 v acc.length (Lib.byteCells acc) ∧ Below w.heap.size w wr ∧ acc.length ≤ 4 * i ∧ rdL (s.data.toList.drop i) acc i = rd s.data.toList) (fun _ iv _ => s.size - (intOf iv).toNat)
  case atStart => exact ⟨1, [], Nat.le_refl _, h0, rfl, ⟨by simp [Lib.byteCells], .inl ⟨rfl, rfl⟩⟩, Below.refl _ w, by simp, (unhide E1).symm⟩
  case round =>
    obtain ⟨i, acc, hi1, his, rfl, hown, hbw, hal, hacc⟩ := hrel
    have Hacc := hide hacc
    clear hacc
    have hsz := hbw.size
    by_cases hlt : i < s.size
    · by_cases h32 : s[i].toNat < 32
      · have E2 := hide (step_low hlt acc h32)
        rw [unhide Hacc] at E2
        go_wp2
        go_ret3
        rw [unhide E2]
        exact ⟨rfl, hbw⟩
      by_cases h34 : s[i].toNat = 34
      · have E2 := hide (step_quote hlt acc h34)
        rw [unhide Hacc] at E2
        have hcv := conv_owned hown
        go_wp2
        go_ret3
        rw [unhide E2]
        exact ⟨rfl, hbw⟩
      have b34 : ((s[i].toNat : Int) == 34) = false := by simp; omega
      by_cases h92 : s[i].toNat = 92
      · obtain ⟨q1, q2, q3, e0, e1, e2⟩ := step_esc hlt acc h92
        rw [unhide Hacc] at e1 e2
        have E0 := hide e0
        have H92 := hide (show s[i] = 92 from UInt8.toNat_inj.1 h92)
        clear e0
        by_cases hq0 : q3 = 0
        · obtain ⟨n, rfl, hn, hle, hv, e3⟩ := e2 hq0
          have E3 := hide e3
          have HV := hide hv
          have HQ := hide hq0
          clear e3 hv e1 e2 hq0
          go_wp2_with fail
          refine (rescape_any s i hs _ hlt (unhide H92)).mono ?_
          rintro e w1 ⟨rfl, rfl⟩
          rw [unhide E0, unhide HQ]
          have hen := encodeRune_len q1
          go_wp2_with fail
          refine (put_any w.heap.size _ _ _ _ (unhide HV) _ hown (by omega) hsz).mono ?_
          rintro e w2 ⟨v', rfl, hown', o, hgrow⟩
          have hb2 : Below w.heap.size w w2 := (hbw.alloc hsz o).grown hgrow (by simp; omega) (fun g hg => (hown.lt g hg).1)
          go_wp2
          go_roundw
          case rel =>
            refine ⟨i + n, acc ++ Lib.encodeRune q1, by omega, hle, by go_num, ?_, hb2, by rw [List.length_append]; omega, (unhide E3).symm⟩
            rw [Lib.byteCells_append, List.length_append]
            exact hown'
          case measure =>
            simp [intOf]
            omega
        · have E2 := hide (e1 hq0)
          have hb0 : (q3 == 0) = false := by simp [hq0]
          have hb0' : (q3 != 0) = true := by simp [hq0]
          clear e1 e2
          go_wp2_with fail
          refine (rescape_any s i hs _ hlt (unhide H92)).mono ?_
          rintro e w1 ⟨rfl, rfl⟩
          rw [unhide E0]
          go_wp2
          go_ret3
          rw [unhide E2]
          exact ⟨rfl, hbw⟩
      have b92 : ((s[i].toNat : Int) == 92) = false := by simp; omega
      cases hbad : badHead (s.data.toList.drop i)
      · obtain ⟨r, n, o1, o2, hv, hn, hle, e2⟩ := step_plain hlt acc h32 h34 h92 hbad
        rw [unhide Hacc] at e2
        have E2 := hide e2
        have O1 := hide o1
        have O2 := hide o2
        have HV := hide hv
        have hen := encodeRune_len r
        have hn0 : ((n : Int) == 0) = false := beq_eq_false_iff_ne.2 (by omega)
        clear e2 o1 o2 hv hbad
        go_wp2_with fail
        refine (one_any s i hlt hs _).mono ?_
        rintro e w1 ⟨rfl, rfl⟩
        rw [unhide O1, unhide O2]
        go_wp2_with fail
        refine (put_any w.heap.size _ _ _ _ (unhide HV) _ hown (by omega) hsz).mono ?_
        rintro e w2 ⟨v', rfl, hown', o, hgrow⟩
        have hb2 : Below w.heap.size w w2 := (hbw.alloc hsz o).grown hgrow (by simp; omega) (fun g hg => (hown.lt g hg).1)
        go_wp2
        go_roundw
        case rel =>
          refine ⟨i + n, acc ++ Lib.encodeRune r, by omega, hle, by go_num, ?_, hb2, by rw [List.length_append]; omega, (unhide E2).symm⟩
          rw [Lib.byteCells_append, List.length_append]
          exact hown'
        case measure =>
          simp [intOf]
          omega
      · obtain ⟨e2, o2, h128⟩ := step_bad hlt acc hbad
        rw [unhide Hacc] at e2
        have E2 := hide e2
        have O2 := hide o2
        clear e2 o2 hbad
        go_wp2_with fail
        refine (one_any s i hlt hs _).mono ?_
        rintro e w1 ⟨rfl, rfl⟩
        rw [unhide O2]
        generalize oneR (s.data.toList.drop i) = rr
        go_wp2
        go_ret3
        rw [unhide E2]
        exact ⟨rfl, hbw⟩
    · have e2 : rd s.data.toList = ([], 0, 12) := by rw [← unhide Hacc, drop_end hlt]; rfl
      have E2 := hide e2
      clear e2
      go_wp2
      go_ret3
      rw [unhide E2]
      exact ⟨rfl, hbw⟩

theorem rread_any (s : ByteArray) (w : World) (hs : s.size ≤ 1099511627776) :
    Calls Tryd.prog 48 #[.string s] w fun e w' => e = .returned (.tuple #[.string ⟨(rd s.data.toList).1.toArray⟩, .int .i64 (rd s.data.toList).2.1, .int .i64 (rd s.data.toList).2.2]) ∧ Below w.heap.size w w' := by
  by_cases hz : s.size = 0
  · exact rread_none s w hz
  · have h0 : 0 < s.size := by omega
    by_cases hq : s[0] = 34
    · exact rread_yes s w h0 hs hq
    · exact rread_not s w h0 hs hq
end Go.Proofs.YtfkbbenjmhngcaaDoor
