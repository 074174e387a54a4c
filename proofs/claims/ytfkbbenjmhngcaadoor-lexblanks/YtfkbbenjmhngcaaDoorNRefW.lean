/-
  chancelref2.Parse, digits, Text: what they return.
-/
import Derived.Test.YtfkbbenjmhngcaaDoorNParseW
import Derived.Test.YtfkbbenjmhngcaaDoorNRefP
import Derived.Laws.IdiomStrings
import Derived.BigQuiet
import Derived.Deep.QuietTactic
namespace Go.Proofs.YtfkbbenjmhngcaaDoor
open Go.RowKit

theorem list_at (s : ByteArray) (i : Nat) (h : i < s.size) : ∃ h' : i < s.data.toList.length, s.data.toList[i] = s[i] := by
  refine ⟨by rw [← Lib.size_eq]; exact h, ?_⟩
  rfl

theorem list_zero (s : ByteArray) (h : 0 < s.size) : ∃ t, s.data.toList = s[0] :: t ∧ t.length + 1 = s.size := by
  obtain ⟨h', e⟩ := list_at s 0 h
  refine ⟨s.data.toList.drop 1, ?_, ?_⟩
  · rw [← e, ← List.drop_eq_getElem_cons h']
    rfl
  · rw [List.length_drop, ← Lib.size_eq]
    omega

theorem beq_false {a b : Int} (h : a ≠ b) : (a == b) = false := by simpa using h
theorem beq_true {a b : Int} (h : a = b) : (a == b) = true := by simpa using h

set_option maxHeartbeats 1000000 in
set_option maxRecDepth 100000 in
theorem rparse_other (s : ByteArray) (hs : s.size ≤ 1048576) (h0 : 0 < s.size) (hh : headOk s.data.toList) (hc : s[0].toNat ≠ 48) (w : World) :
    Calls Tryd.prog 47 #[.string s] w fun e w' => e = .returned (.tuple #[.int .i64 (pv s.data.toList), .int .i64 (pe s.data.toList)]) ∧ w' = w := by
  have hnum := numOk_head s.data.toList hh
  have z0 : (((s.size : Nat) : Int) == 0) = false := beq_false (by omega)
  have HH := hide hh
  have HN := hide hnum
  clear hh hnum
  have hcc : ((s[0].toNat : Int) == 48) = false := beq_false (by omega)
  clear hc
  go_enter Tryd.func47, Tryd.ntmps47
  go_wp2
  go_loop [4] (fun iv => ∃ (i : Nat), i ≤ s.size ∧ iv = .int .i64 i ∧ (s.data.toList.drop i).all digB = s.data.toList.all digB) (fun iv => s.size - (intOf iv).toNat)
  case atStart =>
    exact ⟨0, Nat.zero_le _, by go_num, by simp⟩
  case round =>
    obtain ⟨i, hi, rfl, hacc⟩ := hrel
    have Hacc := hide hacc
    clear hacc
    by_cases hlt : i < s.size
    · have hstep : (s.data.toList.drop i).all digB = (digB s[i] && (s.data.toList.drop (i + 1)).all digB) := by
        obtain ⟨h', e⟩ := list_at s i hlt
        rw [List.drop_eq_getElem_cons h', List.all_cons, e]
      have HS := hide hstep
      clear hstep
      generalize hc : s[i] = c at *
      have HC := hide hc
      clear hc
      by_cases c1 : (c.toNat : Int) < 48
      · have hf : numOk s.data.toList = false := by
          rw [unhide HN, ← unhide Hacc, unhide HS, show digB c = false from decide_eq_false (by omega)]
          rfl
        have HF := hide hf
        clear hf
        rw [← unhide HC] at c1
        go_wp2
        go_ret2
        refine ⟨?_, rfl⟩
        rw [pv_no (unhide HF), pe_no (unhide HF)]
        rfl
      · by_cases c2 : 57 < (c.toNat : Int)
        · have hf : numOk s.data.toList = false := by
            rw [unhide HN, ← unhide Hacc, unhide HS, show digB c = false from decide_eq_false (by omega)]
            rfl
          have HF := hide hf
          clear hf
          rw [← unhide HC] at c1 c2
          go_wp2
          go_ret2
          refine ⟨?_, rfl⟩
          rw [pv_no (unhide HF), pe_no (unhide HF)]
          rfl
        · have hd : digB c = true := decide_eq_true (by omega)
          rw [← unhide HC] at c1 c2
          go_wp2
          go_round
          case rel =>
            refine ⟨i + 1, by omega, by go_num, ?_⟩
            rw [← unhide Hacc, unhide HS, hd]
            rfl
          case measure =>
            simp only [intOf]
            omega
    · have hall : s.data.toList.all digB = true := by rw [← unhide Hacc, drop_done hlt]; rfl
      have hok : numOk s.data.toList = true := by rw [unhide HN]; exact hall
      have hpin := pinv_start _ hall
      generalize hV : valF 0 s.data.toList = V at hpin
      have HOK := hide hok
      have HV := hide hV
      clear hok hV hall
      go_wp2
      go_loop [5, 6] (fun nv iv => ∃ (i n : Nat), i ≤ s.size ∧ nv = .int .u64 n ∧ iv = .int .i64 i ∧ PInv s.data.toList V i n) (fun _ iv => s.size - (intOf iv).toNat)
      case atStart =>
        exact ⟨0, 0, Nat.zero_le _, by go_num, by go_num, hpin⟩
      case round =>
        obtain ⟨j, n, hj, rfl, rfl, hp⟩ := hrel
        have n1 := hp.most
        by_cases hlt2 : j < s.size
        · obtain ⟨h', e⟩ := list_at s j hlt2
          obtain ⟨d, hd, hdc, hcase⟩ := pinv_step hp h' (unhide HH)
          rw [e] at hdc
          have HP := hide hp
          clear hp e
          obtain ⟨m, hm⟩ : ∃ m : Nat, m = 10 * n + d := ⟨_, rfl⟩
          rcases hcase with ⟨hj18, hbig, hin, hout⟩ | ⟨hj19, hout⟩
          · have j1 : ¬ (18 : Int) < (j : Int) := by omega
            rw [← hm] at hbig hin hout
            have HIN := hide hin
            have HOUT := hide hout
            clear hin hout
            have ec : (10 * (n : Int) + (((s[j].toNat : Nat) : Int) - 48)) = (m : Int) := by omega
            have hm10 : 10 * (n : Int) ≤ 18446744073709551615 := by omega
            have hc0 : 48 ≤ ((s[j].toNat : Nat) : Int) := by omega
            have hc1 : ((s[j].toNat : Nat) : Int) ≤ 57 := by omega
            have HM := hide hm
            have HD := hide hdc
            clear hm hdc
            by_cases hmm : (9223372036854775807 : Int) < (m : Int)
            · have ho := unhide HOUT (by omega)
              have HO := hide ho
              clear ho
              go_wp2
              go_ret2
              refine ⟨?_, rfl⟩
              rw [pv_ok (unhide HOK), pe_ok (unhide HOK), unhide HV, nv_no (unhide HO), ne_no (unhide HO)]
              rfl
            · have hp2 := unhide HIN (by omega)
              have HP2 := hide hp2
              clear hp2
              go_wp2
              go_round
              case rel => exact ⟨j + 1, m, by omega, by go_num, by go_num, unhide HP2⟩
              case measure =>
                simp only [intOf]
                omega
          · have j1 : (18 : Int) < (j : Int) := by omega
            have HO := hide hout
            clear hout hm
            have hc0 : 48 ≤ ((s[j].toNat : Nat) : Int) := by omega
            have hc1 : ((s[j].toNat : Nat) : Int) ≤ 57 := by omega
            clear hdc
            go_wp2
            go_ret2
            refine ⟨?_, rfl⟩
            rw [pv_ok (unhide HOK), pe_ok (unhide HOK), unhide HV, nv_no (unhide HO), ne_no (unhide HO)]
            rfl
        · have hVn : n = V := by
            have := hp.val
            rw [drop_done hlt2] at this
            exact this
          have hin : InR (V : Int) := ⟨by omega, by omega⟩
          have HI := hide hin
          have HE := hide hVn
          have HP := hide hp
          clear hin hVn hp
          go_wp2
          go_ret2
          refine ⟨?_, rfl⟩
          rw [pv_ok (unhide HOK), pe_ok (unhide HOK), unhide HV, nv_ok (unhide HI), ne_ok (unhide HI), ← unhide HE]
          rfl
set_option maxHeartbeats 1000000 in
set_option maxRecDepth 100000 in
theorem rparse_nought (s : ByteArray) (hs : s.size ≤ 1048576) (h0 : 0 < s.size) (hh : headOk s.data.toList) (hz1 : s.size = 1) (hc : s[0].toNat = 48) (w : World) :
    Calls Tryd.prog 47 #[.string s] w fun e w' => e = .returned (.tuple #[.int .i64 (pv s.data.toList), .int .i64 (pe s.data.toList)]) ∧ w' = w := by
  have hnum := numOk_head s.data.toList hh
  have z0 : (((s.size : Nat) : Int) == 0) = false := beq_false (by omega)
  have HH := hide hh
  have HN := hide hnum
  clear hh hnum
  have hcc : ((s[0].toNat : Int) == 48) = true := beq_true (by omega)
  have hc2 : ¬ (1 : Int) < (s.size : Int) := by omega
  have HZ := hide hz1
  clear hc hz1
  go_enter Tryd.func47, Tryd.ntmps47
  go_wp2
  go_loop [4] (fun iv => ∃ (i : Nat), i ≤ s.size ∧ iv = .int .i64 i ∧ (s.data.toList.drop i).all digB = s.data.toList.all digB) (fun iv => s.size - (intOf iv).toNat)
  case atStart =>
    exact ⟨0, Nat.zero_le _, by go_num, by simp⟩
  case round =>
    obtain ⟨i, hi, rfl, hacc⟩ := hrel
    have Hacc := hide hacc
    clear hacc
    by_cases hlt : i < s.size
    · have hstep : (s.data.toList.drop i).all digB = (digB s[i] && (s.data.toList.drop (i + 1)).all digB) := by
        obtain ⟨h', e⟩ := list_at s i hlt
        rw [List.drop_eq_getElem_cons h', List.all_cons, e]
      have HS := hide hstep
      clear hstep
      generalize hc : s[i] = c at *
      have HC := hide hc
      clear hc
      by_cases c1 : (c.toNat : Int) < 48
      · have hf : numOk s.data.toList = false := by
          rw [unhide HN, ← unhide Hacc, unhide HS, show digB c = false from decide_eq_false (by omega)]
          rfl
        have HF := hide hf
        clear hf
        rw [← unhide HC] at c1
        go_wp2
        go_ret2
        refine ⟨?_, rfl⟩
        rw [pv_no (unhide HF), pe_no (unhide HF)]
        rfl
      · by_cases c2 : 57 < (c.toNat : Int)
        · have hf : numOk s.data.toList = false := by
            rw [unhide HN, ← unhide Hacc, unhide HS, show digB c = false from decide_eq_false (by omega)]
            rfl
          have HF := hide hf
          clear hf
          rw [← unhide HC] at c1 c2
          go_wp2
          go_ret2
          refine ⟨?_, rfl⟩
          rw [pv_no (unhide HF), pe_no (unhide HF)]
          rfl
        · have hd : digB c = true := decide_eq_true (by omega)
          rw [← unhide HC] at c1 c2
          go_wp2
          go_round
          case rel =>
            refine ⟨i + 1, by omega, by go_num, ?_⟩
            rw [← unhide Hacc, unhide HS, hd]
            rfl
          case measure =>
            simp only [intOf]
            omega
    · have hall : s.data.toList.all digB = true := by rw [← unhide Hacc, drop_done hlt]; rfl
      have hok : numOk s.data.toList = true := by rw [unhide HN]; exact hall
      have hpin := pinv_start _ hall
      generalize hV : valF 0 s.data.toList = V at hpin
      have HOK := hide hok
      have HV := hide hV
      clear hok hV hall
      go_wp2
      go_loop [5, 6] (fun nv iv => ∃ (i n : Nat), i ≤ s.size ∧ nv = .int .u64 n ∧ iv = .int .i64 i ∧ PInv s.data.toList V i n) (fun _ iv => s.size - (intOf iv).toNat)
      case atStart =>
        exact ⟨0, 0, Nat.zero_le _, by go_num, by go_num, hpin⟩
      case round =>
        obtain ⟨j, n, hj, rfl, rfl, hp⟩ := hrel
        have n1 := hp.most
        by_cases hlt2 : j < s.size
        · obtain ⟨h', e⟩ := list_at s j hlt2
          obtain ⟨d, hd, hdc, hcase⟩ := pinv_step hp h' (unhide HH)
          rw [e] at hdc
          have HP := hide hp
          clear hp e
          obtain ⟨m, hm⟩ : ∃ m : Nat, m = 10 * n + d := ⟨_, rfl⟩
          rcases hcase with ⟨hj18, hbig, hin, hout⟩ | ⟨hj19, hout⟩
          · have j1 : ¬ (18 : Int) < (j : Int) := by omega
            rw [← hm] at hbig hin hout
            have HIN := hide hin
            have HOUT := hide hout
            clear hin hout
            have ec : (10 * (n : Int) + (((s[j].toNat : Nat) : Int) - 48)) = (m : Int) := by omega
            have hm10 : 10 * (n : Int) ≤ 18446744073709551615 := by omega
            have hc0 : 48 ≤ ((s[j].toNat : Nat) : Int) := by omega
            have hc1 : ((s[j].toNat : Nat) : Int) ≤ 57 := by omega
            have HM := hide hm
            have HD := hide hdc
            clear hm hdc
            by_cases hmm : (9223372036854775807 : Int) < (m : Int)
            · have ho := unhide HOUT (by omega)
              have HO := hide ho
              clear ho
              go_wp2
              go_ret2
              refine ⟨?_, rfl⟩
              rw [pv_ok (unhide HOK), pe_ok (unhide HOK), unhide HV, nv_no (unhide HO), ne_no (unhide HO)]
              rfl
            · have hp2 := unhide HIN (by omega)
              have HP2 := hide hp2
              clear hp2
              go_wp2
              go_round
              case rel => exact ⟨j + 1, m, by omega, by go_num, by go_num, unhide HP2⟩
              case measure =>
                simp only [intOf]
                omega
          · exfalso
            omega
        · have hVn : n = V := by
            have := hp.val
            rw [drop_done hlt2] at this
            exact this
          have hin : InR (V : Int) := ⟨by omega, by omega⟩
          have HI := hide hin
          have HE := hide hVn
          have HP := hide hp
          clear hin hVn hp
          go_wp2
          go_ret2
          refine ⟨?_, rfl⟩
          rw [pv_ok (unhide HOK), pe_ok (unhide HOK), unhide HV, nv_ok (unhide HI), ne_ok (unhide HI), ← unhide HE]
          rfl

set_option maxHeartbeats 1000000 in
set_option maxRecDepth 100000 in
theorem rparse_any (s : ByteArray) (hs : s.size ≤ 1048576) (w : World) :
    Calls Tryd.prog 47 #[.string s] w fun e w' => e = .returned (.tuple #[.int .i64 (pv s.data.toList), .int .i64 (pe s.data.toList)]) ∧ w' = w := by
  by_cases h0 : 0 < s.size
  · obtain ⟨t, ht, hl⟩ := list_zero s h0
    by_cases hc : s[0].toNat = 48
    · by_cases h1 : s.size = 1
      · exact rparse_nought s hs h0 (.inl (by rw [← Lib.size_eq]; exact h1)) h1 hc w
      · have hn : numOk s.data.toList = false := by
          rw [ht]
          exact numOk_nought _ _ hc (fun e => by rw [e] at hl; simp at hl; omega)
        rw [pv_no hn, pe_no hn]
        clear hn ht hl
        have z0 : (((s.size : Nat) : Int) == 0) = false := beq_false (by omega)
        have hcc : ((s[0].toNat : Int) == 48) = true := beq_true (by omega)
        have hc2 : (1 : Int) < (s.size : Int) := by omega
        go_enter Tryd.func47, Tryd.ntmps47
        go_wp2
        go_ret2
        exact ⟨rfl, rfl⟩
    · exact rparse_other s hs h0 (.inr ⟨_, _, ht, hc⟩) hc w
  · have hn : numOk s.data.toList = false := by
      have : s.data.toList = [] := List.length_eq_zero_iff.1 (by rw [← Lib.size_eq]; omega)
      rw [this]
      exact numOk_nil
    rw [pv_no hn, pe_no hn]
    have z0 : (((s.size : Nat) : Int) == 0) = true := beq_true (by omega)
    clear hn
    go_enter Tryd.func47, Tryd.ntmps47
    go_wp2
    go_ret2
    exact ⟨rfl, rfl⟩
end Go.Proofs.YtfkbbenjmhngcaaDoor
