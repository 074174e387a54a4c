/-
  chancelref1.hex and chancelref1.Quote: what they return.
-/
import Derived.Test.YtpblalklenebhaaDoorQuoteP
import Derived.Test.YtpblalklenebhaaDoorReadW
import Derived.Test.YtpblalklenebhaaDoorHex
import Derived.Test.YtpblalklenebhaaDoorRefB
namespace Go.Proofs.YtpblalklenebhaaDoor
open Go.RowKit

set_option maxRecDepth 100000 in
theorem rhex_one (n : Nat) (hn : n < 16) (w : World) :
    Calls Tryd.prog 53 #[.int .i64 n] w fun e w' => e = .returned (.string ⟨#[dig n]⟩) ∧ w' = w := by
  have h : n = 0 ∨ n = 1 ∨ n = 2 ∨ n = 3 ∨ n = 4 ∨ n = 5 ∨ n = 6 ∨ n = 7 ∨ n = 8 ∨ n = 9 ∨ n = 10 ∨ n = 11 ∨ n = 12 ∨ n = 13 ∨ n = 14 ∨ n = 15 := by omega
  rcases h with rfl | rfl | rfl | rfl | rfl | rfl | rfl | rfl | rfl | rfl | rfl | rfl | rfl | rfl | rfl | rfl
  all_goals
    go_enter Tryd.func53, Tryd.ntmps53
    go_wp2
    go_ret
    exact ⟨rfl, rfl⟩

set_option maxHeartbeats 1000000 in
set_option maxRecDepth 100000 in
theorem rhex_any (n : Nat) (hn : n < 256) (w : World) :
    Calls Tryd.prog 53 #[.int .i64 n] w fun e w' => e = .returned (.string ⟨(hexL n).toArray⟩) ∧ w' = w := by
  by_cases h : n < 16
  · have e1 : hexL n = [dig n] := by unfold hexL; rw [if_pos h]
    rw [e1]
    exact rhex_one n h w
  · have e1 : hexL n = [dig (n / 16)] ++ [dig (n % 16)] := by unfold hexL; rw [if_neg h]; rfl
    obtain ⟨a, ha⟩ : ∃ a : Nat, a = n / 16 := ⟨_, rfl⟩
    obtain ⟨b, hb⟩ : ∃ b : Nat, b = n % 16 := ⟨_, rfl⟩
    rw [← ha, ← hb] at e1
    have E1 := hide e1
    have q1 : (n : Int) / 16 = (a : Int) := by omega
    have q2 : (n : Int) % 16 = (b : Int) := by omega
    have r1 : a < 16 := by omega
    have r2 : b < 16 := by omega
    clear e1 ha hb
    go_enter Tryd.func53, Tryd.ntmps53
    go_wp2_with fail
    refine (rhex_one a r1 _).mono ?_
    rintro e w1 ⟨rfl, rfl⟩
    go_wp2_with fail
    refine (rhex_one b r2 _).mono ?_
    rintro e w1 ⟨rfl, rfl⟩
    go_wp2
    go_ret
    rw [unhide E1]
    exact ⟨rfl, rfl⟩

theorem app_list (a b : ByteArray) : (a ++ b).data.toList = a.data.toList ++ b.data.toList := by simp

theorem bq_step (s : ByteArray) (i : Nat) (hlt : i < s.size) : (s.data.toList.take (i + 1)).flatMap bq = (s.data.toList.take i).flatMap bq ++ bq s[i] := by
  have hl : i < s.data.toList.length := by rw [← Lib.size_eq]; exact hlt
  rw [List.take_succ_eq_append_getElem hl, List.flatMap_append]
  simp
  rfl
theorem ext_one (s : ByteArray) (i : Nat) (hlt : i < s.size) : (s.extract i (i + 1)).data.toList = [s[i]] := by
  rw [extract_list, drop_at s i hlt, show i + 1 - i = 1 by omega]
  rfl

/-- What is written so far. -/
def QAt (s : ByteArray) (i : Nat) (o : ByteArray) : Prop := o.data.toList = 34 :: (s.data.toList.take i).flatMap bq
theorem QAt.len {s o : ByteArray} {i : Nat} (h : QAt s i o) : o.size ≤ 1 + 6 * i := by
  rw [Lib.size_eq, h, List.length_cons]
  have k : ∀ l : List UInt8, (l.flatMap bq).length ≤ 6 * l.length := by
    intro l
    induction l with
    | nil => simp
    | cons c l ih =>
      have := bq_len c
      rw [List.flatMap_cons, List.length_append, List.length_cons]
      omega
  have := k (s.data.toList.take i)
  have h2 : (s.data.toList.take i).length ≤ i := by rw [List.length_take]; omega
  omega
theorem QAt.step {s o o' : ByteArray} {i : Nat} (h : QAt s i o) (hlt : i < s.size) (ho : o'.data.toList = o.data.toList ++ bq s[i]) : QAt s (i + 1) o' := by
  unfold QAt at *
  rw [ho, h, bq_step s i hlt]
  rfl
theorem QAt.start (s : ByteArray) : QAt s 0 ⟨#[34]⟩ := rfl
theorem QAt.last {s o : ByteArray} (h : QAt s s.size o) : o ++ (⟨#[34]⟩ : ByteArray) = ⟨(bquote s.data.toList).toArray⟩ := by
  apply ByteArray.ext
  apply Array.toList_inj.1
  unfold QAt at h
  rw [List.take_of_length_le (by rw [← Lib.size_eq]; exact Nat.le_refl _)] at h
  simp [h, bquote]

set_option maxHeartbeats 4000000 in
set_option maxRecDepth 1000000 in
theorem rquote_any (s : ByteArray) (w : World) (hs : s.size ≤ 1099511627776) :
    Calls Tryd.prog 30 #[.string s] w fun e w' => e = .returned (.string ⟨(bquote s.data.toList).toArray⟩) ∧ w' = w := by
  go_enter Tryd.func30, Tryd.ntmps30
  go_wp2
  go_loopw [3, 4] (fun ov iv wr => ∃ (i : Nat) (o : ByteArray), ov = .string o ∧ iv = .int .i64 i ∧ i ≤ s.size ∧ QAt s i o ∧ wr = w) (fun _ iv _ => s.size - (intOf iv).toNat)
  case atStart => exact ⟨0, _, rfl, rfl, Nat.zero_le _, QAt.start s, rfl⟩
  case round =>
    obtain ⟨i, o, rfl, rfl, his, hq, rfl⟩ := hrel
    have HQ := hide hq
    have hol := hq.len
    clear hq
    by_cases hlt : i < s.size
    · have HX := hide (ext_one s i hlt)
      have hsl : ∀ W, (Instr.slice 9 (.string s) (some (.int .i64 (i : Int))) (some (.int .i64 ((i : Int) + 1))) none).run Tryd.prog W = .ok (.string (s.extract i (i + 1))) W := fun W => run_slice_string W 9 s .i64 .i64 i ((i : Int) + 1) Tryd.underlying9 (by omega) (by omega) (by omega)
      by_cases h1 : s[i].toNat = 92
      · have e1 : bq s[i] = [92, s[i]] := by unfold bq; rw [if_pos (.inl (UInt8.toNat_inj.1 h1))]
        have E1 := hide e1
        clear e1
        go_wp2
        refine ⟨⟨i + 1, _, rfl, by go_num, by omega, (unhide HQ).step hlt ?_, by trivial⟩, ?_⟩
        · rw [app_list, app_list, unhide HX, unhide E1, List.append_assoc]
          rfl
        · simp [intOf]
          omega
      by_cases h2 : s[i].toNat = 34
      · have e1 : bq s[i] = [92, s[i]] := by unfold bq; rw [if_pos (.inr (UInt8.toNat_inj.1 h2))]
        have E1 := hide e1
        clear e1
        go_wp2
        refine ⟨⟨i + 1, _, rfl, by go_num, by omega, (unhide HQ).step hlt ?_, by trivial⟩, ?_⟩
        · rw [app_list, app_list, unhide HX, unhide E1, List.append_assoc]
          rfl
        · simp [intOf]
          omega
      have b92 : ((s[i].toNat : Int) == 92) = false := beq_eq_false_iff_ne.2 (by omega)
      have b34 : ((s[i].toNat : Int) == 34) = false := beq_eq_false_iff_ne.2 (by omega)
      have n12 : ¬ (s[i] = 92 ∨ s[i] = 34) := fun h => by
        rcases h with h | h
        · rw [h] at h1
          exact h1 rfl
        · rw [h] at h2
          exact h2 rfl
      by_cases h3 : s[i].toNat = 10
      · have e1 : bq s[i] = [92, 110] := by unfold bq; rw [if_neg n12, if_pos (UInt8.toNat_inj.1 h3)]
        have E1 := hide e1
        clear e1 n12
        go_wp2
        refine ⟨⟨i + 1, _, rfl, by go_num, by omega, (unhide HQ).step hlt ?_, by trivial⟩, ?_⟩
        · simp [unhide E1]
        · simp [intOf]
          omega
      have b10 : ((s[i].toNat : Int) == 10) = false := beq_eq_false_iff_ne.2 (by omega)
      have n3 : ¬ s[i] = 10 := fun h => h3 (by rw [h]; rfl)
      by_cases h4 : s[i].toNat = 9
      · have e1 : bq s[i] = [92, 116] := by unfold bq; rw [if_neg n12, if_neg n3, if_pos (UInt8.toNat_inj.1 h4)]
        have E1 := hide e1
        clear e1 n12 n3
        go_wp2
        refine ⟨⟨i + 1, _, rfl, by go_num, by omega, (unhide HQ).step hlt ?_, by trivial⟩, ?_⟩
        · simp [unhide E1]
        · simp [intOf]
          omega
      have b9 : ((s[i].toNat : Int) == 9) = false := beq_eq_false_iff_ne.2 (by omega)
      have n4 : ¬ s[i] = 9 := fun h => h4 (by rw [h]; rfl)
      by_cases h5 : s[i].toNat < 32 ∨ s[i].toNat = 127
      · have e1 : bq s[i] = [92, 117, 123] ++ hexL s[i].toNat ++ [125] := by unfold bq; rw [if_neg n12, if_neg n3, if_neg n4, if_pos h5]
        have hk := s[i].toNat_lt
        have HEX := fun W => rhex_any s[i].toNat hk W
        obtain ⟨hb, hhb⟩ : ∃ hb : ByteArray, hb = ⟨(hexL s[i].toNat).toArray⟩ := ⟨_, rfl⟩
        have hbl : hb.data.toList = hexL s[i].toNat := by rw [hhb]
        have hbz : hb.size ≤ 2 := by rw [Lib.size_eq, hbl]; exact hexL_len _
        rw [← hhb] at HEX
        rw [← hbl] at e1
        have E1 := hide e1
        clear e1 n12 n3 n4 hhb hbl hk
        rcases h5 with h5 | h5
        · go_wp2_with fail
          refine (HEX _).mono ?_
          rintro e w1 ⟨rfl, rfl⟩
          clear HEX
          go_wp2
          refine ⟨⟨i + 1, _, rfl, by go_num, by omega, (unhide HQ).step hlt ?_, by trivial⟩, ?_⟩
          · rw [unhide E1]
            simp only [app_list, List.append_assoc]
          · simp [intOf]
            omega
        · rw [show ((s[i].toNat : Nat) : Int) = 127 by omega] at HEX
          go_wp2_with fail
          refine (HEX _).mono ?_
          rintro e w1 ⟨rfl, rfl⟩
          clear HEX
          go_wp2
          refine ⟨⟨i + 1, _, rfl, by go_num, by omega, (unhide HQ).step hlt ?_, by trivial⟩, ?_⟩
          · rw [unhide E1]
            simp only [app_list, List.append_assoc]
          · simp [intOf]
            omega
      have e1 : bq s[i] = [s[i]] := by unfold bq; rw [if_neg n12, if_neg n3, if_neg n4, if_neg h5]
      have E1 := hide e1
      obtain ⟨m1, m2⟩ := not_or.1 h5
      have b127 : ((s[i].toNat : Int) == 127) = false := beq_eq_false_iff_ne.2 (by omega)
      clear e1 n12 n3 n4 h5
      go_wp2
      refine ⟨⟨i + 1, _, rfl, by go_num, by omega, (unhide HQ).step hlt ?_, by trivial⟩, ?_⟩
      · rw [app_list, unhide HX, unhide E1]
      · simp [intOf]
        omega
    · obtain rfl : i = s.size := by omega
      have E2 := hide (unhide HQ).last
      go_wp2
      go_ret
      rw [unhide E2]
      exact ⟨rfl, rfl⟩
end Go.Proofs.YtpblalklenebhaaDoor
