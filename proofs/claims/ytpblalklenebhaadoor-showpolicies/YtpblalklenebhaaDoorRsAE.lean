/-
  text.digit, readDigits, readEscape, readOne, Read: what they return, for all bytes.
  chancelref1.hex and chancelref1.Quote: what they return.
  Plain: the trees that the law makes are such as may be, and not too great.
  chancelref6.level, sign, kid: what they return.
  chancelref6.Expr of a node, out of what its kids' texts are.
  chancelref6.Expr of a node, out of what its kids' texts are (if).
-/
import Derived.Test.YtpblalklenebhaaDoorReadP
import Derived.Test.YtpblalklenebhaaDoorRunesW
import Derived.Test.YtpblalklenebhaaDoorHex
import Derived.Test.YtpblalklenebhaaDoorQuoteP
import Derived.Test.YtpblalklenebhaaDoorRefB
import Derived.Test.YtpblalklenebhaaDoorRwVX
import Derived.Test.YtpblalklenebhaaDoorShIK
import Derived.Test.YtpblalklenebhaaDoorShB
import Derived.Test.YtpblalklenebhaaDoorNRefT
import Derived.Test.YtpblalklenebhaaDoorShC
namespace Go.Proofs.YtpblalklenebhaaDoor
open Go.RowKit

theorem ret_two {a a' : Int} {b b' : Bool} (ha : a = a') (hb : b = b') : Ending.returned (.tuple #[.int .i32 a, .bool b]) = .returned (.tuple #[.int .i32 a', .bool b']) := by rw [ha, hb]
theorem ret_three {a a' b b' c c' : Int} (ha : a = a') (hb : b = b') (hc : c = c') : Ending.returned (.tuple #[.int .i32 a, .int .i64 b, .int .i64 c]) = .returned (.tuple #[.int .i32 a', .int .i64 b', .int .i64 c']) := by rw [ha, hb, hc]

theorem drop_at (s : ByteArray) (k : Nat) (h : k < s.size) : s.data.toList.drop k = s[k] :: s.data.toList.drop (k + 1) := by
  rw [List.drop_eq_getElem_cons (by rw [← Lib.size_eq]; exact h)]
  rfl

def p16 : Nat → Int
  | 0 => 1
  | k + 1 => 16 * p16 k
theorem p16_le : ∀ k, k ≤ 6 → 1 ≤ p16 k ∧ p16 k ≤ 16777216
  | 0, _ => by decide
  | 1, _ => by decide
  | 2, _ => by decide
  | 3, _ => by decide
  | 4, _ => by decide
  | 5, _ => by decide
  | 6, _ => by decide
  | k + 7, h => by omega

end Go.Proofs.YtpblalklenebhaaDoor

namespace Go.Proofs.YtpblalklenebhaaDoor
open Go.RowKit

set_option maxRecDepth 100000 in
theorem rhex_one (n : Nat) (hn : n < 16) (w : World) :
    Calls Tryd.prog 53 #[.int .i64 n] w fun e w' => e = .returned (.string ⟨#[dig n]⟩) ∧ w' = w := by
  have h : n = 0 ∨ n = 1 ∨ n = 2 ∨ n = 3 ∨ n = 4 ∨ n = 5 ∨ n = 6 ∨ n = 7 ∨ n = 8 ∨ n = 9 ∨ n = 10 ∨ n = 11 ∨ n = 12 ∨ n = 13 ∨ n = 14 ∨ n = 15 := by omega
  rcases h with rfl | rfl | rfl | rfl | rfl | rfl | rfl | rfl | rfl | rfl | rfl | rfl | rfl | rfl | rfl | rfl
  all_goals
    go_enter Tryd.func53, Tryd.ntmps53
    go_wp2
    go_ret
    exact ⟨rfl, rfl⟩

set_option maxHeartbeats 1000000 in
set_option maxRecDepth 100000 in
theorem rhex_any (n : Nat) (hn : n < 256) (w : World) :
    Calls Tryd.prog 53 #[.int .i64 n] w fun e w' => e = .returned (.string ⟨(hexL n).toArray⟩) ∧ w' = w := by
  by_cases h : n < 16
  · have e1 : hexL n = [dig n] := by unfold hexL; rw [if_pos h]
    rw [e1]
    exact rhex_one n h w
  · have e1 : hexL n = [dig (n / 16)] ++ [dig (n % 16)] := by unfold hexL; rw [if_neg h]; rfl
    obtain ⟨a, ha⟩ : ∃ a : Nat, a = n / 16 := ⟨_, rfl⟩
    obtain ⟨b, hb⟩ : ∃ b : Nat, b = n % 16 := ⟨_, rfl⟩
    rw [← ha, ← hb] at e1
    have E1 := hide e1
    have q1 : (n : Int) / 16 = (a : Int) := by omega
    have q2 : (n : Int) % 16 = (b : Int) := by omega
    have r1 : a < 16 := by omega
    have r2 : b < 16 := by omega
    clear e1 ha hb
    go_enter Tryd.func53, Tryd.ntmps53
    go_wp2_with fail
    refine (rhex_one a r1 _).mono ?_
    rintro e w1 ⟨rfl, rfl⟩
    go_wp2_with fail
    refine (rhex_one b r2 _).mono ?_
    rintro e w1 ⟨rfl, rfl⟩
    go_wp2
    go_ret
    rw [unhide E1]
    exact ⟨rfl, rfl⟩

theorem app_list (a b : ByteArray) : (a ++ b).data.toList = a.data.toList ++ b.data.toList := by simp

theorem bq_step (s : ByteArray) (i : Nat) (hlt : i < s.size) : (s.data.toList.take (i + 1)).flatMap bq = (s.data.toList.take i).flatMap bq ++ bq s[i] := by
  have hl : i < s.data.toList.length := by rw [← Lib.size_eq]; exact hlt
  rw [List.take_succ_eq_append_getElem hl, List.flatMap_append]
  simp
  rfl
theorem ext_one (s : ByteArray) (i : Nat) (hlt : i < s.size) : (s.extract i (i + 1)).data.toList = [s[i]] := by
  rw [extract_list, drop_at s i hlt, show i + 1 - i = 1 by omega]
  rfl

/-- What is written so far. -/
def QAt (s : ByteArray) (i : Nat) (o : ByteArray) : Prop := o.data.toList = 34 :: (s.data.toList.take i).flatMap bq
theorem QAt.len {s o : ByteArray} {i : Nat} (h : QAt s i o) : o.size ≤ 1 + 6 * i := by
  rw [Lib.size_eq, h, List.length_cons]
  have k : ∀ l : List UInt8, (l.flatMap bq).length ≤ 6 * l.length := by
    intro l
    induction l with
    | nil => simp
    | cons c l ih =>
      have := bq_len c
      rw [List.flatMap_cons, List.length_append, List.length_cons]
      omega
  have := k (s.data.toList.take i)
  have h2 : (s.data.toList.take i).length ≤ i := by rw [List.length_take]; omega
  omega
theorem QAt.step {s o o' : ByteArray} {i : Nat} (h : QAt s i o) (hlt : i < s.size) (ho : o'.data.toList = o.data.toList ++ bq s[i]) : QAt s (i + 1) o' := by
  unfold QAt at *
  rw [ho, h, bq_step s i hlt]
  rfl
theorem QAt.start (s : ByteArray) : QAt s 0 ⟨#[34]⟩ := rfl
theorem QAt.last {s o : ByteArray} (h : QAt s s.size o) : o ++ (⟨#[34]⟩ : ByteArray) = ⟨(bquote s.data.toList).toArray⟩ := by
  apply ByteArray.ext
  apply Array.toList_inj.1
  unfold QAt at h
  rw [List.take_of_length_le (by rw [← Lib.size_eq]; exact Nat.le_refl _)] at h
  simp [h, bquote]

set_option maxHeartbeats 4000000 in
set_option maxRecDepth 1000000 in
theorem rquote_any (s : ByteArray) (w : World) (hs : s.size ≤ 1099511627776) :
    Calls Tryd.prog 30 #[.string s] w fun e w' => e = .returned (.string ⟨(bquote s.data.toList).toArray⟩) ∧ w' = w := by
  go_enter Tryd.func30, Tryd.ntmps30
  go_wp2
  go_loopw [3, 4] (fun ov iv wr => ∃ (i : Nat) (o : ByteArray), ov = .string o ∧ iv = .int .i64 i ∧ i ≤ s.size ∧ QAt s i o ∧ wr = w) (fun _ iv _ => s.size - (intOf iv).toNat)
  case atStart => exact ⟨0, _, rfl, rfl, Nat.zero_le _, QAt.start s, rfl⟩
  case round =>
    obtain ⟨i, o, rfl, rfl, his, hq, rfl⟩ := hrel
    have HQ := hide hq
    have hol := hq.len
    clear hq
    by_cases hlt : i < s.size
    · have HX := hide (ext_one s i hlt)
      have hsl : ∀ W, (Instr.slice 9 (.string s) (some (.int .i64 (i : Int))) (some (.int .i64 ((i : Int) + 1))) none).run Tryd.prog W = .ok (.string (s.extract i (i + 1))) W := fun W => run_slice_string W 9 s .i64 .i64 i ((i : Int) + 1) Tryd.underlying9 (by omega) (by omega) (by omega)
      by_cases h1 : s[i].toNat = 92
      · have e1 : bq s[i] = [92, s[i]] := by unfold bq; rw [if_pos (.inl (UInt8.toNat_inj.1 h1))]
        have E1 := hide e1
        clear e1
        go_wp2
        refine ⟨⟨i + 1, _, rfl, by go_num, by omega, (unhide HQ).step hlt ?_, by trivial⟩, ?_⟩
        · rw [app_list, app_list, unhide HX, unhide E1, List.append_assoc]
          rfl
        · simp [intOf]
          omega
      by_cases h2 : s[i].toNat = 34
      · have e1 : bq s[i] = [92, s[i]] := by unfold bq; rw [if_pos (.inr (UInt8.toNat_inj.1 h2))]
        have E1 := hide e1
        clear e1
        go_wp2
        refine ⟨⟨i + 1, _, rfl, by go_num, by omega, (unhide HQ).step hlt ?_, by trivial⟩, ?_⟩
        · rw [app_list, app_list, unhide HX, unhide E1, List.append_assoc]
          rfl
        · simp [intOf]
          omega
      have b92 : ((s[i].toNat : Int) == 92) = false := beq_eq_false_iff_ne.2 (by omega)
      have b34 : ((s[i].toNat : Int) == 34) = false := beq_eq_false_iff_ne.2 (by omega)
      have n12 : ¬ (s[i] = 92 ∨ s[i] = 34) := fun h => by
        rcases h with h | h
        · rw [h] at h1
          exact h1 rfl
        · rw [h] at h2
          exact h2 rfl
      by_cases h3 : s[i].toNat = 10
      · have e1 : bq s[i] = [92, 110] := by unfold bq; rw [if_neg n12, if_pos (UInt8.toNat_inj.1 h3)]
        have E1 := hide e1
        clear e1 n12
        go_wp2
        refine ⟨⟨i + 1, _, rfl, by go_num, by omega, (unhide HQ).step hlt ?_, by trivial⟩, ?_⟩
        · simp [unhide E1]
        · simp [intOf]
          omega
      have b10 : ((s[i].toNat : Int) == 10) = false := beq_eq_false_iff_ne.2 (by omega)
      have n3 : ¬ s[i] = 10 := fun h => h3 (by rw [h]; rfl)
      by_cases h4 : s[i].toNat = 9
      · have e1 : bq s[i] = [92, 116] := by unfold bq; rw [if_neg n12, if_neg n3, if_pos (UInt8.toNat_inj.1 h4)]
        have E1 := hide e1
        clear e1 n12 n3
        go_wp2
        refine ⟨⟨i + 1, _, rfl, by go_num, by omega, (unhide HQ).step hlt ?_, by trivial⟩, ?_⟩
        · simp [unhide E1]
        · simp [intOf]
          omega
      have b9 : ((s[i].toNat : Int) == 9) = false := beq_eq_false_iff_ne.2 (by omega)
      have n4 : ¬ s[i] = 9 := fun h => h4 (by rw [h]; rfl)
      by_cases h5 : s[i].toNat < 32 ∨ s[i].toNat = 127
      · have e1 : bq s[i] = [92, 117, 123] ++ hexL s[i].toNat ++ [125] := by unfold bq; rw [if_neg n12, if_neg n3, if_neg n4, if_pos h5]
        have hk := s[i].toNat_lt
        have HEX := fun W => rhex_any s[i].toNat hk W
        obtain ⟨hb, hhb⟩ : ∃ hb : ByteArray, hb = ⟨(hexL s[i].toNat).toArray⟩ := ⟨_, rfl⟩
        have hbl : hb.data.toList = hexL s[i].toNat := by rw [hhb]
        have hbz : hb.size ≤ 2 := by rw [Lib.size_eq, hbl]; exact hexL_len _
        rw [← hhb] at HEX
        rw [← hbl] at e1
        have E1 := hide e1
        clear e1 n12 n3 n4 hhb hbl hk
        rcases h5 with h5 | h5
        · go_wp2_with fail
          refine (HEX _).mono ?_
          rintro e w1 ⟨rfl, rfl⟩
          clear HEX
          go_wp2
          refine ⟨⟨i + 1, _, rfl, by go_num, by omega, (unhide HQ).step hlt ?_, by trivial⟩, ?_⟩
          · rw [unhide E1]
            simp only [app_list, List.append_assoc]
          · simp [intOf]
            omega
        · rw [show ((s[i].toNat : Nat) : Int) = 127 by omega] at HEX
          go_wp2_with fail
          refine (HEX _).mono ?_
          rintro e w1 ⟨rfl, rfl⟩
          clear HEX
          go_wp2
          refine ⟨⟨i + 1, _, rfl, by go_num, by omega, (unhide HQ).step hlt ?_, by trivial⟩, ?_⟩
          · rw [unhide E1]
            simp only [app_list, List.append_assoc]
          · simp [intOf]
            omega
      have e1 : bq s[i] = [s[i]] := by unfold bq; rw [if_neg n12, if_neg n3, if_neg n4, if_neg h5]
      have E1 := hide e1
      obtain ⟨m1, m2⟩ := not_or.1 h5
      have b127 : ((s[i].toNat : Int) == 127) = false := beq_eq_false_iff_ne.2 (by omega)
      clear e1 n12 n3 n4 h5
      go_wp2
      refine ⟨⟨i + 1, _, rfl, by go_num, by omega, (unhide HQ).step hlt ?_, by trivial⟩, ?_⟩
      · rw [app_list, unhide HX, unhide E1]
      · simp [intOf]
        omega
    · obtain rfl : i = s.size := by omega
      have E2 := hide (unhide HQ).last
      go_wp2
      go_ret
      rw [unhide E2]
      exact ⟨rfl, rfl⟩
end Go.Proofs.YtpblalklenebhaaDoor

namespace Go.Proofs.YtpblalklenebhaaDoor
open Go

mutual
def okR : Ex → Prop
  | .mk k _ n s t i l => (1 ≤ k ∧ k ≤ 25) ∧ (-9223372036854775808 ≤ n ∧ n ≤ 9223372036854775807) ∧ s.length ≤ 1000 ∧ t.length ≤ 1000 ∧ i.length ≤ 1000 ∧ (k ≠ 6 → l.length = wants k) ∧ l.length ≤ 100 ∧ (k = 3 ∨ k = 10 → bquote s = quoteL s) ∧ (k = 4 → bquote i = quoteL i) ∧ okRs l
def okRs : List Ex → Prop
  | [] => True
  | x :: l => okR x ∧ okRs l
end
theorem okRs_get : ∀ (l : List Ex) (j : Nat) (h : j < l.length), okRs l → okR l[j]
  | [], j, h, _ => by simp at h
  | e :: l, 0, _, h => by
    unfold okRs at h
    exact h.1
  | e :: l, j + 1, hj, h => by
    unfold okRs at h
    exact okRs_get l j (by simpa using hj) h.2
theorem okRs_of : ∀ (l : List Ex), (∀ x ∈ l, okR x) → okRs l
  | [], _ => by unfold okRs; trivial
  | x :: l, h => by
    unfold okRs
    exact ⟨h x (by simp), okRs_of l fun y hy => h y (by simp [hy])⟩
mutual
theorem okR_okS : ∀ (x : Ex), okR x → okS x = true
  | .mk k b n s t i l, h => by
    unfold okR at h
    obtain ⟨h1, h2, h3, h4, h5, h6, h7, _, _, h10⟩ := h
    have hw : wants k ≤ l.length := by
      by_cases hk : k = 6
      · rw [hk]; exact Nat.zero_le _
      · rw [h6 hk]; exact Nat.le_refl _
    unfold okS
    rw [decide_eq_true h1, decide_eq_true h2, decide_eq_true (show s.length ≤ 1000000000 by omega), decide_eq_true (show t.length ≤ 1000000000 by omega), decide_eq_true (show i.length ≤ 1000000000 by omega), decide_eq_true hw, decide_eq_true (show l.length ≤ 100000 by omega), okRs_okSs l h10]
    rfl
theorem okRs_okSs : ∀ (l : List Ex), okRs l → okSs l = true
  | [], _ => by unfold okSs; rfl
  | x :: l, h => by
    unfold okRs at h
    unfold okSs
    rw [okR_okS x h.1, okRs_okSs l h.2]
    rfl
end

theorem idt5_len (s : List Int) : (idt5 s).length ≤ 160 := txt_len _
theorem idt5_quote (s : List Int) : bquote (idt5 s) = quoteL (idt5 s) := bquote_ofL _ (picks_ok _)
theorem nmI_len (n : Int) : (nmI n).length ≤ 9 := by
  have h : ∀ m : Fin 7, (nm7.getD m.val []).length ≤ 9 := by decide
  exact h ⟨(n % 7).toNat, by omega⟩
theorem tyI5_len (n : Int) : (tyI5 n).length ≤ 9 := by
  have h : ∀ m : Fin 5, (ty5.getD m.val []).length ≤ 9 := by decide
  exact h ⟨(n % 5).toNat, by omega⟩
theorem vrI_len (n : Int) : (vrI n).length ≤ 9 := by
  have h : ∀ m : Fin 3, (vr3.getD m.val []).length ≤ 9 := by decide
  exact h ⟨(n % 3).toNat, by omega⟩
theorem leaf_okR (k n : Int) (s : List Int) : okR (leafX k n s) := by
  unfold leafX
  repeat' split
  · unfold eBool okR okRs; exact ⟨by decide, by decide, by decide, by decide, by decide, fun _ => rfl, by decide, fun h => by omega, fun h => by omega, trivial⟩
  · unfold eLong okR okRs; exact ⟨by decide, by omega, by decide, by decide, by decide, fun _ => rfl, by decide, fun h => by omega, fun h => by omega, trivial⟩
  · unfold eStr okR okRs; exact ⟨by decide, by decide, by have := idt5_len s; omega, by decide, by decide, fun _ => rfl, by decide, fun _ => idt5_quote s, fun h => by omega, trivial⟩
  · unfold eUid okR okRs; exact ⟨by decide, by decide, by decide, by have := tyI5_len n; omega, by have := idt5_len s; omega, fun _ => rfl, by decide, fun h => by omega, fun _ => idt5_quote s, trivial⟩
  · unfold eVar okR okRs; exact ⟨by decide, by decide, by have := vrI_len n; omega, by decide, by decide, fun _ => rfl, by decide, fun h => by omega, fun h => by omega, trivial⟩
  · unfold eOp okR okRs; exact ⟨by decide, by decide, by decide, by decide, by decide, fun h => absurd rfl h, by decide, fun h => by omega, fun h => by omega, trivial⟩
theorem arS_len (k n : Int) (s : List Int) : (arS k n s).length ≤ 160 := by
  unfold arS
  split
  · have := nmI_len n; omega
  · split
    · exact idt5_len s
    · simp
theorem arN_wants (k : Int) (n : Nat) (h : 6 ≤ k ∧ k ≤ 25) : (k ≠ 6 → arN k n = wants k) ∧ arN k n ≤ 8 := by
  unfold arN wants
  by_cases h6 : k = 6
  · rw [if_pos h6]
    exact ⟨fun h => absurd h6 h, by omega⟩
  · rw [if_neg h6]
    by_cases h1 : k = 7 ∨ k = 8 ∨ k = 10 ∨ k = 11 ∨ k = 12
    · rw [if_pos h1, if_pos h1]; exact ⟨fun _ => rfl, by omega⟩
    · rw [if_neg h1, if_neg h1]
      by_cases h2 : k = 25
      · rw [if_pos h2, if_neg (by omega), if_pos h2]; exact ⟨fun _ => rfl, by omega⟩
      · rw [if_neg h2, if_pos (by omega)]; exact ⟨fun _ => rfl, by omega⟩
theorem kidsX_len (d : Nat) (l : List Rw) (j : Nat) : (kidsX d l j).length = j := by unfold kidsX; simp
theorem kidsX_mem {d : Nat} {l : List Rw} {j : Nat} {x : Ex} (h : x ∈ kidsX d l j) : ∃ y, x = treeX d y := by
  unfold kidsX at h
  obtain ⟨i, _, rfl⟩ := List.mem_map.1 h
  exact ⟨_, rfl⟩
theorem tree_node (d : Nat) (op n : Int) (s : List Int) (l : List Rw) : treeX (d + 1) (.mk op n s l) = if d = 0 ∨ l.length = 0 then leafX (op % 6) n s else .mk (6 + op % 20) false 0 (arS (6 + op % 20) n s) [] [] (kidsX d l (arN (6 + op % 20) l.length)) := by
  rw [treeX]
  rfl
theorem tree_okR : ∀ (d : Nat) (x : Rw), okR (treeX d x) := by
  intro d
  induction d with
  | zero =>
    intro x
    obtain ⟨op, n, s, l⟩ := x
    exact leaf_okR _ _ _
  | succ d ih =>
    intro x
    obtain ⟨op, n, s, l⟩ := x
    rw [tree_node]
    split
    · exact leaf_okR _ _ _
    · have hk : 6 ≤ 6 + op % 20 ∧ 6 + op % 20 ≤ 25 := by omega
      obtain ⟨h1, h2⟩ := arN_wants (6 + op % 20) l.length hk
      unfold okR
      refine ⟨by omega, by decide, by have := arS_len (6 + op % 20) n s; omega, by decide, by decide, fun h => by rw [kidsX_len]; exact h1 h, by rw [kidsX_len]; omega, fun h => ?_, fun h => by omega, okRs_of _ fun y hy => ?_⟩
      · have h10 : 6 + op % 20 = 10 := by omega
        rw [h10]
        show bquote (idt5 s) = quoteL (idt5 s)
        exact idt5_quote s
      · obtain ⟨z, rfl⟩ := kidsX_mem hy
        exact ih z
theorem depL_le : ∀ (l : List Ex) (m : Nat), (∀ x ∈ l, depE x ≤ m) → depL l ≤ m
  | [], m, _ => by unfold depL; exact Nat.zero_le _
  | x :: l, m, h => by
    unfold depL
    exact Nat.max_le.2 ⟨h x (by simp), depL_le l m fun y hy => h y (by simp [hy])⟩
theorem leaf_dep (k n : Int) (s : List Int) : depE (leafX k n s) = 1 := by
  unfold leafX
  repeat' split
  all_goals
    first | unfold eBool | unfold eLong | unfold eStr | unfold eUid | unfold eVar | unfold eOp
    unfold depE depL
    rfl
theorem tree_dep : ∀ (d : Nat) (x : Rw), depE (treeX d x) ≤ d + 1 := by
  intro d
  induction d with
  | zero =>
    intro x
    obtain ⟨op, n, s, l⟩ := x
    show depE (leafX (op % 6) n s) ≤ 1
    rw [leaf_dep]
    exact Nat.le_refl _
  | succ d ih =>
    intro x
    obtain ⟨op, n, s, l⟩ := x
    rw [tree_node]
    split
    · rw [leaf_dep]; omega
    · unfold depE
      have := depL_le (kidsX d l (arN (6 + op % 20) l.length)) (d + 1) fun y hy => by
        obtain ⟨z, rfl⟩ := kidsX_mem hy
        exact ih z
      omega

/-- How long a tree's text may be. -/
def bd : Nat → Nat
  | 0 => 1000
  | d + 1 => 8 * bd d + 1200
theorem bd_ge (d : Nat) : 1000 ≤ bd d := by
  induction d with
  | zero => exact Nat.le_refl _
  | succ d ih => unfold bd; omega
theorem decD_len : ∀ (m u : Nat), u < 10 ^ (m + 1) → (Lib.decDigits u).length ≤ m + 1
  | 0, u, h => by
    rw [Lib.decDigits, dif_pos (by simpa using h)]
    exact Nat.le_refl _
  | m + 1, u, h => by
    rw [Lib.decDigits]
    split
    · simp
    · have := decD_len m (u / 10) (by rw [Nat.div_lt_iff_lt_mul (by decide)]; rw [Nat.pow_succ] at h; exact h)
      rw [List.length_append]
      simp only [List.length_cons, List.length_nil]
      omega
theorem itoa_len (n : Int) (h0 : 0 ≤ n) (h1 : n ≤ 4611686018427387904) : (Lib.itoa n).length ≤ 1000 := by
  unfold Lib.itoa
  rw [if_neg (by omega)]
  have h : n.toNat < 10 ^ (19 + 1) := by
    rw [show (10 : Nat) ^ (19 + 1) = 100000000000000000000 from rfl]
    omega
  have := decD_len 19 n.toNat h
  omega
theorem leaf_len (k n : Int) (s : List Int) : (showE (leafX k n s)).length ≤ 1000 := by
  have h1 := quoteL_len (idt5 s)
  have h2 := idt5_len s
  unfold leafX
  repeat' split
  · unfold eBool; rw [showE]; simp only [bodyE, reduceIte]; split <;> decide
  · unfold eLong; rw [showE]; simp only [bodyE, reduceIte, Int.reduceEq]; exact itoa_len _ (by omega) (by omega)
  · unfold eStr; rw [showE]; simp only [bodyE, reduceIte, Int.reduceEq]; omega
  · unfold eUid; rw [showE]; simp only [bodyE, reduceIte, Int.reduceEq]; have := tyI5_len n; simp; omega
  · unfold eVar; rw [showE]; simp only [bodyE, reduceIte, Int.reduceEq]; have := vrI_len n; omega
  · unfold eOp; rw [showE]; simp only [bodyE, reduceIte, Int.reduceEq]; decide
theorem kidT_le (l : List Ex) (j : Nat) (a : Int) (B : Nat) (h : ∀ x ∈ l, (showE x).length ≤ B) : (kidT (showL l) j a).length ≤ B + 2 := by
  by_cases hj : j < l.length
  · rw [kidT_showL l j hj]
    have h1 := brk_len (decide (lev (opE l[j]) < a)) (showE l[j])
    have h2 := h l[j] (List.getElem_mem hj)
    omega
  · rw [kidT_none l j hj]
    simp
theorem sumL_bd : ∀ (l : List Ex) (B : Nat), (∀ x ∈ l, (showE x).length ≤ B) → sumL (textsL l) ≤ l.length * B
  | [], B, _ => by simp [sumL, textsL]
  | x :: l, B, h => by
    have h1 := sumL_bd l B fun y hy => h y (by simp [hy])
    have h2 := h x (by simp)
    unfold sumL textsL at h1 ⊢
    simp only [List.map_cons, List.sum_cons, List.length_cons]
    rw [Nat.add_mul]
    omega
theorem body_len (k : Int) (S : List UInt8) (l : List Ex) (B : Nat) (hk : 6 ≤ k ∧ k ≤ 25) (hS : S.length ≤ 160) (hl : l.length ≤ 8) (hB : 1000 ≤ B) (h : ∀ x ∈ l, (showE x).length ≤ B) : (bodyE k false 0 S [] [] (showL l)).length ≤ 8 * B + 1200 := by
  have t0 := fun a => kidT_le l 0 a B h
  have t1 := fun a => kidT_le l 1 a B h
  have t2 := fun a => kidT_le l 2 a B h
  by_cases h13 : 13 ≤ k ∧ k ≤ 24
  · rw [body_two k _ _ _ _ _ _ h13.1 h13.2]
    simp only [List.length_append, List.length_cons, List.length_nil]
    have := sgnO_len k
    have := t0 (firstL k)
    have := t1 (lev k + 1)
    omega
  · have hc : k = 6 ∨ k = 7 ∨ k = 8 ∨ k = 9 ∨ k = 10 ∨ k = 11 ∨ k = 12 ∨ k = 25 := by omega
    have hq := quoteL_len S
    rcases hc with rfl | rfl | rfl | rfl | rfl | rfl | rfl | rfl
    all_goals simp only [bodyE, reduceIte, Int.reduceEq, List.length_append, List.length_cons, List.length_nil]
    · rw [showL_texts]
      rcases Nat.eq_zero_or_pos (textsL l).length with h0 | h0
      · rw [List.length_eq_zero_iff.1 h0]; simp [joinS]
      · rw [joinS_len _ _ h0]
        have h1 := sumL_bd l B h
        have h2 : (textsL l).length = l.length := by simp [textsL]
        have h3 : l.length * B ≤ 8 * B := Nat.mul_le_mul_right B hl
        simp only [List.length_cons, List.length_nil]
        omega
    · have := t0 7; omega
    · have := t0 4; omega
    · have := t0 7; have := t1 0; omega
    · have := t0 4; omega
    · have := t0 6; omega
    · have := t0 6; omega
    · have := t0 0; have := t1 0; have := t2 0; omega
theorem tree_len : ∀ (d : Nat) (x : Rw), (showE (treeX d x)).length ≤ bd d := by
  intro d
  induction d with
  | zero =>
    intro x
    obtain ⟨op, n, s, l⟩ := x
    exact leaf_len _ _ _
  | succ d ih =>
    intro x
    obtain ⟨op, n, s, l⟩ := x
    rw [tree_node]
    have hb := bd_ge d
    split
    · have := leaf_len (op % 6) n s
      unfold bd
      omega
    · rw [showE]
      have hk : 6 ≤ 6 + op % 20 ∧ 6 + op % 20 ≤ 25 := by omega
      exact body_len _ _ _ _ hk (arS_len _ _ _) (by rw [kidsX_len]; exact (arN_wants _ _ hk).2) hb fun y hy => by
        obtain ⟨z, rfl⟩ := kidsX_mem hy
        exact ih z
end Go.Proofs.YtpblalklenebhaaDoor

namespace Go.Proofs.YtpblalklenebhaaDoor
open Go.RowKit Go.Sort

set_option maxHeartbeats 4000000 in
set_option maxRecDepth 1000000 in
theorem r6level_any (k : Int) (h1 : 1 ≤ k) (h2 : k ≤ 25) (w : World) :
    Calls Tryd.prog 32 #[.int .i64 k] w fun e w' => e = .returned (.int .i64 (lev k)) ∧ w' = w := by
  have h : k = 1 ∨ k = 2 ∨ k = 3 ∨ k = 4 ∨ k = 5 ∨ k = 6 ∨ k = 7 ∨ k = 8 ∨ k = 9 ∨ k = 10 ∨ k = 11 ∨ k = 12 ∨ k = 13 ∨ k = 14 ∨ k = 15 ∨ k = 16 ∨ k = 17 ∨ k = 18 ∨ k = 19 ∨ k = 20 ∨ k = 21 ∨ k = 22 ∨ k = 23 ∨ k = 24 ∨ k = 25 := by omega
  clear h1 h2
  rcases h with rfl | rfl | rfl | rfl | rfl | rfl | rfl | rfl | rfl | rfl | rfl | rfl | rfl | rfl | rfl | rfl | rfl | rfl | rfl | rfl | rfl | rfl | rfl | rfl | rfl
  all_goals
    simp only [lev, reduceIte, Int.reduceEq, Int.reduceLE, and_true, and_false, and_self, or_false, or_true, or_self]
    go_enter Tryd.func32, Tryd.ntmps32
    go_wp2
    go_ret
    exact ⟨rfl, rfl⟩

set_option maxHeartbeats 4000000 in
set_option maxRecDepth 1000000 in
theorem r6sign_any (k : Int) (h1 : 13 ≤ k) (h2 : k ≤ 24) (w : World) :
    Calls Tryd.prog 33 #[.int .i64 k] w fun e w' => e = .returned (.string ⟨(sgnO k).toArray⟩) ∧ w' = w := by
  have h : k = 13 ∨ k = 14 ∨ k = 15 ∨ k = 16 ∨ k = 17 ∨ k = 18 ∨ k = 19 ∨ k = 20 ∨ k = 21 ∨ k = 22 ∨ k = 23 ∨ k = 24 := by omega
  clear h1 h2
  rcases h with rfl | rfl | rfl | rfl | rfl | rfl | rfl | rfl | rfl | rfl | rfl | rfl
  all_goals
    simp only [sgnO, reduceIte, Int.reduceEq]
    go_enter Tryd.func33, Tryd.ntmps33
    go_wp2
    go_ret
    exact ⟨rfl, rfl⟩

/-- What the reference's Expr is to return of a tree. -/
def ShowsR (P : Nat → Prop) (x : Ex) : Prop :=
  ∀ (r : R7) (w : World), IsE w P r x → Calls Tryd.prog 12 #[r.val] w fun e w' => e = .returned (.string (ba (showE x))) ∧ Below w.heap.size w w'

set_option maxHeartbeats 4000000 in
set_option maxRecDepth 1000000 in
theorem r6kid_any (x : Ex) (r : R7) (P : Nat → Prop) (w : World) (least : Int) (hx : IsE w P r x) (C : ShowsR P x) (h1 : 1 ≤ opE x) (h2 : opE x ≤ 25) (hlen : (showE x).length ≤ 1000000000000000) :
    Calls Tryd.prog 31 #[r.val, .int .i64 least] w fun e w' => e = .returned (.string (ba (brk (decide (lev (opE x) < least)) (showE x)))) ∧ Below w.heap.size w w' := by
  rw [← isE_op hx] at h1 h2 ⊢
  have n1 := newS w (.cells #[.int .i64 r.k, .bool r.b, .int .i64 r.n, .string r.s, .string r.t, .string r.i, .slice r.lo r.ll r.lc] 32)
  have Z1 : (w.alloc (.cells #[.int .i64 r.k, .bool r.b, .int .i64 r.n, .string r.s, .string r.t, .string r.i, .slice r.lo r.ll r.lc] 32)).heap[w.heap.size]? = some (.cells #[.int .i64 r.k, .bool r.b, .int .i64 r.n, .string r.s, .string r.t, .string r.i, .slice r.lo r.ll r.lc] 32 (0, 0)) := alloc_heap _ _
  have C1 := C r _ (IsE.turn n1.size (fun b hb hb2 => ⟨n1.block b hb2, hb⟩) r _ hx)
  have L := fun w => r6level_any r.k h1 h2 w
  have hA := ba_size (showE x)
  generalize hA0 : ba (showE x) = A at *
  have hA1 : A.size ≤ 1000000000000000 := by omega
  have hout : ∀ c : Bool, ba (brk c (showE x)) = if c then (⟨#[40]⟩ : ByteArray) ++ A ++ ⟨#[41]⟩ else A := by
    intro c
    cases c
    · exact hA0
    · rw [← hA0]
      simp [brk, ba, ByteArray.ext_iff, ByteArray.data_append]
  rw [hout]
  clear hout hA0 hA hx hlen C h1 h2
  have hAg : ¬ 9223372036854775807 < 1 + A.size := by omega
  have hAg2 : ¬ 9223372036854775807 < 1 + A.size + 1 := by omega
  generalize lev r.k = lv at *
  unfold R7.val at C1 ⊢
  by_cases hlv : lv < least
  · rw [decide_eq_true hlv]
    go_enter Tryd.func31, Tryd.ntmps31
    go_upto_region 1 with fail
    generalize w.alloc _ = w1 at *
    obtain ⟨x0, x1, x2, x3, x4, x5, x6, _⟩ := blk7 Z1
    go_wp2_with fail
    refine (L _).mono ?_
    rintro e w3 ⟨rfl, rfl⟩
    go_wp2_with fail
    refine C1.mono ?_
    rintro e w2 ⟨rfl, b2⟩
    go_wp2
    go_ret
    exact ⟨rfl, n1.trans (b2.mono n1.size)⟩
  · rw [decide_eq_false hlv]
    go_enter Tryd.func31, Tryd.ntmps31
    go_upto_region 1 with fail
    generalize w.alloc _ = w1 at *
    obtain ⟨x0, x1, x2, x3, x4, x5, x6, _⟩ := blk7 Z1
    go_wp2_with fail
    refine (L _).mono ?_
    rintro e w3 ⟨rfl, rfl⟩
    go_wp2_with fail
    refine C1.mono ?_
    rintro e w2 ⟨rfl, b2⟩
    go_wp2
    go_ret
    exact ⟨rfl, n1.trans (b2.mono n1.size)⟩
end Go.Proofs.YtpblalklenebhaaDoor

namespace Go.Proofs.YtpblalklenebhaaDoor
open Go.RowKit Go.Sort

/-- The reference's Expr of the node returns this. -/
def NodeR (r : R7) (w : World) (A : ByteArray) : Prop :=
  Calls Tryd.prog 12 #[r.val] w fun e w' => e = .returned (.string A) ∧ Below w.heap.size w w'
/-- The reference's kid, Expr of a kid return this. -/
def KidR (q : R7) (w : World) (least : Int) (A : ByteArray) : Prop :=
  ∀ w', Below w.heap.size w w' → Calls Tryd.prog 31 #[q.val, .int .i64 least] w' fun e w'' => e = .returned (.string A) ∧ Below w'.heap.size w' w''
def PlainR (q : R7) (w : World) (A : ByteArray) : Prop :=
  ∀ w', Below w.heap.size w w' → Calls Tryd.prog 12 #[q.val] w' fun e w'' => e = .returned (.string A) ∧ Below w'.heap.size w' w''

set_option maxHeartbeats 4000000 in
set_option maxRecDepth 1000000 in
theorem r6_get (r q0 : R7) (w : World) (g off : Nat) (A : ByteArray) (hk : r.k = 7) (hlo : r.lo = some ⟨g, off, none⟩) (hll : r.ll = 1) (hg : g < w.heap.size) (a0 : At7 w g off q0) (hA : A.size ≤ 2000000000000000) (K0 : KidR q0 w 7 A) (hs : r.s.size ≤ 2000000000000000) :
    NodeR r w (A ++ ⟨#[46]⟩ ++ r.s) := by
  unfold NodeR
  obtain ⟨k, b, n, s, t, i, lo, ll, lc⟩ := r
  simp only at hk hlo hll
  subst hk hlo hll
  have n1 := newS w (.cells #[.int .i64 7, .bool b, .int .i64 n, .string s, .string t, .string i, .slice (some ⟨g, off, none⟩) 1 lc] 32)
  have Z1 : (w.alloc (.cells #[.int .i64 7, .bool b, .int .i64 n, .string s, .string t, .string i, .slice (some ⟨g, off, none⟩) 1 lc] 32)).heap[w.heap.size]? = some (.cells #[.int .i64 7, .bool b, .int .i64 n, .string s, .string t, .string i, .slice (some ⟨g, off, none⟩) 1 lc] 32 (0, 0)) := alloc_heap _ _
  simp only at hs
  have a0 := a0.below n1 hg
  unfold KidR R7.val at K0
  have g0 : ¬ 9223372036854775807 < A.size + 1 := by omega
  have g1 : ¬ 9223372036854775807 < A.size + 1 + s.size := by omega
  unfold R7.val
  simp only
  clear hg
  go_enter Tryd.func12, Tryd.ntmps12
  go_upto_region 1 with fail
  generalize w.alloc _ = w1 at *
  obtain ⟨x0, x1, x2, x3, x4, x5, x6, _⟩ := blk7 Z1
  go_upto_region 24 with fail
  have z0 := cell_regrown x0
  have z1 := cell_regrown x1
  have z2 := cell_regrown x2
  have z3 := cell_regrown x3
  have z4 := cell_regrown x4
  have z5 := cell_regrown x5
  have z6 := cell_regrown x6
  obtain ⟨u00, u01, u02, u03, u04, u05, u06⟩ := a0.up
  have cA := fun d os => Calls.regrown_of (w := w1) (d := d) (os := os) (K0 (grow (redrawn w1 d) os) (n1.trans ((below_regrown w1 d os).mono n1.size)))
  clear x0 x1 x2 x3 x4 x5 x6 Z1
  refine wp_region_quiet_below (by kernel_rfl) (by kernel_rfl) ?_
  repeat (quiet_step (exact cA _ _))
  clear cA
  refine wpQuiet_nil ?_
  intro _ hw'
  obtain ⟨⟨dq, osq⟩, hw''⟩ := hw'
  subst hw''
  have b3 := n1.trans ((below_regrown w1 dq osq).mono n1.size)
  generalize grow (redrawn w1 dq) osq = w4 at *
  go_wp2
  go_ret
  exact ⟨rfl, b3⟩

set_option maxHeartbeats 4000000 in
set_option maxRecDepth 1000000 in
theorem r6_has (r q0 : R7) (w : World) (g off : Nat) (A : ByteArray) (hk : r.k = 8) (hlo : r.lo = some ⟨g, off, none⟩) (hll : r.ll = 1) (hg : g < w.heap.size) (a0 : At7 w g off q0) (hA : A.size ≤ 2000000000000000) (K0 : KidR q0 w 4 A) (hs : r.s.size ≤ 2000000000000000) :
    NodeR r w (A ++ ⟨#[32, 104, 97, 115, 32]⟩ ++ r.s) := by
  unfold NodeR
  obtain ⟨k, b, n, s, t, i, lo, ll, lc⟩ := r
  simp only at hk hlo hll
  subst hk hlo hll
  have n1 := newS w (.cells #[.int .i64 8, .bool b, .int .i64 n, .string s, .string t, .string i, .slice (some ⟨g, off, none⟩) 1 lc] 32)
  have Z1 : (w.alloc (.cells #[.int .i64 8, .bool b, .int .i64 n, .string s, .string t, .string i, .slice (some ⟨g, off, none⟩) 1 lc] 32)).heap[w.heap.size]? = some (.cells #[.int .i64 8, .bool b, .int .i64 n, .string s, .string t, .string i, .slice (some ⟨g, off, none⟩) 1 lc] 32 (0, 0)) := alloc_heap _ _
  simp only at hs
  have a0 := a0.below n1 hg
  unfold KidR R7.val at K0
  have g0 : ¬ 9223372036854775807 < A.size + 5 := by omega
  have g1 : ¬ 9223372036854775807 < A.size + 5 + s.size := by omega
  unfold R7.val
  simp only
  clear hg
  go_enter Tryd.func12, Tryd.ntmps12
  go_upto_region 1 with fail
  generalize w.alloc _ = w1 at *
  obtain ⟨x0, x1, x2, x3, x4, x5, x6, _⟩ := blk7 Z1
  go_upto_region 26 with fail
  have z0 := cell_regrown x0
  have z1 := cell_regrown x1
  have z2 := cell_regrown x2
  have z3 := cell_regrown x3
  have z4 := cell_regrown x4
  have z5 := cell_regrown x5
  have z6 := cell_regrown x6
  obtain ⟨u00, u01, u02, u03, u04, u05, u06⟩ := a0.up
  have cA := fun d os => Calls.regrown_of (w := w1) (d := d) (os := os) (K0 (grow (redrawn w1 d) os) (n1.trans ((below_regrown w1 d os).mono n1.size)))
  clear x0 x1 x2 x3 x4 x5 x6 Z1
  refine wp_region_quiet_below (by kernel_rfl) (by kernel_rfl) ?_
  repeat (quiet_step (exact cA _ _))
  clear cA
  refine wpQuiet_nil ?_
  intro _ hw'
  obtain ⟨⟨dq, osq⟩, hw''⟩ := hw'
  subst hw''
  have b3 := n1.trans ((below_regrown w1 dq osq).mono n1.size)
  generalize grow (redrawn w1 dq) osq = w4 at *
  go_wp2
  go_ret
  exact ⟨rfl, b3⟩

set_option maxHeartbeats 4000000 in
set_option maxRecDepth 1000000 in
theorem r6_like (r q0 : R7) (w : World) (g off : Nat) (A : ByteArray) (hk : r.k = 10) (hlo : r.lo = some ⟨g, off, none⟩) (hll : r.ll = 1) (hg : g < w.heap.size) (a0 : At7 w g off q0) (hA : A.size ≤ 2000000000000000) (K0 : KidR q0 w 4 A) (Q : ByteArray) (hQ : Q.size ≤ 2000000000000000) (KQ : ∀ w', Below w.heap.size w w' → Calls Tryd.prog 30 #[.string r.s] w' fun e w'' => e = .returned (.string Q) ∧ Below w'.heap.size w' w'') :
    NodeR r w (A ++ ⟨#[32, 108, 105, 107, 101, 32]⟩ ++ Q) := by
  unfold NodeR
  obtain ⟨k, b, n, s, t, i, lo, ll, lc⟩ := r
  simp only at hk hlo hll
  subst hk hlo hll
  have n1 := newS w (.cells #[.int .i64 10, .bool b, .int .i64 n, .string s, .string t, .string i, .slice (some ⟨g, off, none⟩) 1 lc] 32)
  have Z1 : (w.alloc (.cells #[.int .i64 10, .bool b, .int .i64 n, .string s, .string t, .string i, .slice (some ⟨g, off, none⟩) 1 lc] 32)).heap[w.heap.size]? = some (.cells #[.int .i64 10, .bool b, .int .i64 n, .string s, .string t, .string i, .slice (some ⟨g, off, none⟩) 1 lc] 32 (0, 0)) := alloc_heap _ _
  simp only at KQ
  have a0 := a0.below n1 hg
  unfold KidR R7.val at K0
  have g0 : ¬ 9223372036854775807 < A.size + 6 := by omega
  have g1 : ¬ 9223372036854775807 < A.size + 6 + Q.size := by omega
  unfold R7.val
  simp only
  clear hg
  go_enter Tryd.func12, Tryd.ntmps12
  go_upto_region 1 with fail
  generalize w.alloc _ = w1 at *
  obtain ⟨x0, x1, x2, x3, x4, x5, x6, _⟩ := blk7 Z1
  go_upto_region 28 with fail
  have z0 := cell_regrown x0
  have z1 := cell_regrown x1
  have z2 := cell_regrown x2
  have z3 := cell_regrown x3
  have z4 := cell_regrown x4
  have z5 := cell_regrown x5
  have z6 := cell_regrown x6
  obtain ⟨u00, u01, u02, u03, u04, u05, u06⟩ := a0.up
  have cA := fun d os => Calls.regrown_of (w := w1) (d := d) (os := os) (K0 (grow (redrawn w1 d) os) (n1.trans ((below_regrown w1 d os).mono n1.size)))
  have cQ := fun d os => Calls.regrown_of (w := w1) (d := d) (os := os) (KQ (grow (redrawn w1 d) os) (n1.trans ((below_regrown w1 d os).mono n1.size)))
  clear x0 x1 x2 x3 x4 x5 x6 Z1
  refine wp_region_quiet_below (by kernel_rfl) (by kernel_rfl) ?_
  iterate 5 (quiet_step (exact cA _ _))
  clear cA
  repeat (quiet_step (exact cQ _ _))
  clear cQ
  refine wpQuiet_nil ?_
  intro _ hw'
  obtain ⟨⟨dq, osq⟩, hw''⟩ := hw'
  subst hw''
  have b3 := n1.trans ((below_regrown w1 dq osq).mono n1.size)
  generalize grow (redrawn w1 dq) osq = w4 at *
  go_wp2
  go_ret
  exact ⟨rfl, b3⟩

set_option maxHeartbeats 4000000 in
set_option maxRecDepth 1000000 in
theorem r6_holds (r q0 q1 : R7) (w : World) (g off : Nat) (A B : ByteArray) (hk : r.k = 9) (hlo : r.lo = some ⟨g, off, none⟩) (hll : r.ll = 2) (hg : g < w.heap.size) (a0 : At7 w g off q0) (a1 : At7 w g (off + 7) q1) (hA : A.size ≤ 2000000000000000) (hB : B.size ≤ 2000000000000000) (K0 : KidR q0 w 7 A) (K1 : PlainR q1 w B) :
    NodeR r w (A ++ ⟨#[46, 99, 111, 110, 116, 97, 105, 110, 115, 40]⟩ ++ B ++ ⟨#[41]⟩) := by
  unfold NodeR
  obtain ⟨k, b, n, s, t, i, lo, ll, lc⟩ := r
  simp only at hk hlo hll
  subst hk hlo hll
  have n1 := newS w (.cells #[.int .i64 9, .bool b, .int .i64 n, .string s, .string t, .string i, .slice (some ⟨g, off, none⟩) 2 lc] 32)
  have Z1 : (w.alloc (.cells #[.int .i64 9, .bool b, .int .i64 n, .string s, .string t, .string i, .slice (some ⟨g, off, none⟩) 2 lc] 32)).heap[w.heap.size]? = some (.cells #[.int .i64 9, .bool b, .int .i64 n, .string s, .string t, .string i, .slice (some ⟨g, off, none⟩) 2 lc] 32 (0, 0)) := alloc_heap _ _
  have a0 := a0.below n1 hg
  unfold KidR R7.val at K0
  have a1 := a1.below n1 hg
  unfold PlainR R7.val at K1
  have g0 : ¬ 9223372036854775807 < A.size + 10 := by omega
  have g1 : ¬ 9223372036854775807 < A.size + 10 + B.size := by omega
  have g2 : ¬ 9223372036854775807 < A.size + 10 + B.size + 1 := by omega
  unfold R7.val
  simp only
  clear hg
  go_enter Tryd.func12, Tryd.ntmps12
  go_upto_region 1 with fail
  generalize w.alloc _ = w1 at *
  obtain ⟨x0, x1, x2, x3, x4, x5, x6, _⟩ := blk7 Z1
  go_upto_region 30 with fail
  have z0 := cell_regrown x0
  have z1 := cell_regrown x1
  have z2 := cell_regrown x2
  have z3 := cell_regrown x3
  have z4 := cell_regrown x4
  have z5 := cell_regrown x5
  have z6 := cell_regrown x6
  obtain ⟨u00, u01, u02, u03, u04, u05, u06⟩ := a0.up
  obtain ⟨u10, u11, u12, u13, u14, u15, u16⟩ := a1.up
  simp only [Nat.add_assoc, Nat.reduceAdd] at u11
  simp only [Nat.add_assoc, Nat.reduceAdd] at u12
  simp only [Nat.add_assoc, Nat.reduceAdd] at u13
  simp only [Nat.add_assoc, Nat.reduceAdd] at u14
  simp only [Nat.add_assoc, Nat.reduceAdd] at u15
  simp only [Nat.add_assoc, Nat.reduceAdd] at u16
  have cA := fun d os => Calls.regrown_of (w := w1) (d := d) (os := os) (K0 (grow (redrawn w1 d) os) (n1.trans ((below_regrown w1 d os).mono n1.size)))
  have cB := fun d os => Calls.regrown_of (w := w1) (d := d) (os := os) (K1 (grow (redrawn w1 d) os) (n1.trans ((below_regrown w1 d os).mono n1.size)))
  clear x0 x1 x2 x3 x4 x5 x6 Z1
  refine wp_region_quiet_below (by kernel_rfl) (by kernel_rfl) ?_
  iterate 5 (quiet_step (exact cA _ _))
  clear cA
  repeat (quiet_step (exact cB _ _))
  clear cB
  refine wpQuiet_nil ?_
  intro _ hw'
  obtain ⟨⟨dq, osq⟩, hw''⟩ := hw'
  subst hw''
  have b3 := n1.trans ((below_regrown w1 dq osq).mono n1.size)
  generalize grow (redrawn w1 dq) osq = w4 at *
  go_wp2
  go_ret
  exact ⟨rfl, b3⟩

end Go.Proofs.YtpblalklenebhaaDoor

namespace Go.Proofs.YtpblalklenebhaaDoor
open Go.RowKit Go.Sort

set_option maxHeartbeats 4000000 in
set_option maxRecDepth 1000000 in
theorem r6_if (r q0 q1 q2 : R7) (w : World) (g off : Nat) (A B C : ByteArray) (hk : r.k = 25) (hlo : r.lo = some ⟨g, off, none⟩) (hll : r.ll = 3) (hg : g < w.heap.size) (a0 : At7 w g off q0) (a1 : At7 w g (off + 7) q1) (a2 : At7 w g (off + 14) q2) (hA : A.size ≤ 2000000000000000) (hB : B.size ≤ 2000000000000000) (hC : C.size ≤ 2000000000000000) (K0 : PlainR q0 w A) (K1 : PlainR q1 w B) (K2 : PlainR q2 w C) :
    NodeR r w (⟨#[105, 102, 32]⟩ ++ A ++ ⟨#[32, 116, 104, 101, 110, 32]⟩ ++ B ++ ⟨#[32, 101, 108, 115, 101, 32]⟩ ++ C) := by
  unfold NodeR
  obtain ⟨k, b, n, s, t, i, lo, ll, lc⟩ := r
  simp only at hk hlo hll
  subst hk hlo hll
  have n1 := newS w (.cells #[.int .i64 25, .bool b, .int .i64 n, .string s, .string t, .string i, .slice (some ⟨g, off, none⟩) 3 lc] 32)
  have Z1 : (w.alloc (.cells #[.int .i64 25, .bool b, .int .i64 n, .string s, .string t, .string i, .slice (some ⟨g, off, none⟩) 3 lc] 32)).heap[w.heap.size]? = some (.cells #[.int .i64 25, .bool b, .int .i64 n, .string s, .string t, .string i, .slice (some ⟨g, off, none⟩) 3 lc] 32 (0, 0)) := alloc_heap _ _
  have a0 := a0.below n1 hg
  unfold PlainR R7.val at K0
  have a1 := a1.below n1 hg
  unfold PlainR R7.val at K1
  have a2 := a2.below n1 hg
  unfold PlainR R7.val at K2
  have g0 : ¬ 9223372036854775807 < 3 + A.size := by omega
  have g1 : ¬ 9223372036854775807 < 3 + A.size + 6 := by omega
  have g2 : ¬ 9223372036854775807 < 3 + A.size + 6 + B.size := by omega
  have g3 : ¬ 9223372036854775807 < 3 + A.size + 6 + B.size + 6 := by omega
  have g4 : ¬ 9223372036854775807 < 3 + A.size + 6 + B.size + 6 + C.size := by omega
  unfold R7.val
  simp only
  clear hg
  go_enter Tryd.func12, Tryd.ntmps12
  go_upto_region 1 with fail
  generalize w.alloc _ = w1 at *
  obtain ⟨x0, x1, x2, x3, x4, x5, x6, _⟩ := blk7 Z1
  go_upto_region 36 with fail
  have z0 := cell_regrown x0
  have z1 := cell_regrown x1
  have z2 := cell_regrown x2
  have z3 := cell_regrown x3
  have z4 := cell_regrown x4
  have z5 := cell_regrown x5
  have z6 := cell_regrown x6
  obtain ⟨u00, u01, u02, u03, u04, u05, u06⟩ := a0.up
  obtain ⟨u10, u11, u12, u13, u14, u15, u16⟩ := a1.up
  obtain ⟨u20, u21, u22, u23, u24, u25, u26⟩ := a2.up
  simp only [Nat.add_assoc, Nat.reduceAdd] at u11
  simp only [Nat.add_assoc, Nat.reduceAdd] at u12
  simp only [Nat.add_assoc, Nat.reduceAdd] at u13
  simp only [Nat.add_assoc, Nat.reduceAdd] at u14
  simp only [Nat.add_assoc, Nat.reduceAdd] at u15
  simp only [Nat.add_assoc, Nat.reduceAdd] at u16
  simp only [Nat.add_assoc, Nat.reduceAdd] at u21
  simp only [Nat.add_assoc, Nat.reduceAdd] at u22
  simp only [Nat.add_assoc, Nat.reduceAdd] at u23
  simp only [Nat.add_assoc, Nat.reduceAdd] at u24
  simp only [Nat.add_assoc, Nat.reduceAdd] at u25
  simp only [Nat.add_assoc, Nat.reduceAdd] at u26
  have cA := fun d os => Calls.regrown_of (w := w1) (d := d) (os := os) (K0 (grow (redrawn w1 d) os) (n1.trans ((below_regrown w1 d os).mono n1.size)))
  have cB := fun d os => Calls.regrown_of (w := w1) (d := d) (os := os) (K1 (grow (redrawn w1 d) os) (n1.trans ((below_regrown w1 d os).mono n1.size)))
  have cC := fun d os => Calls.regrown_of (w := w1) (d := d) (os := os) (K2 (grow (redrawn w1 d) os) (n1.trans ((below_regrown w1 d os).mono n1.size)))
  clear x0 x1 x2 x3 x4 x5 x6 Z1
  refine wp_region_quiet_below (by kernel_rfl) (by kernel_rfl) ?_
  iterate 5 (quiet_step (exact cA _ _))
  clear cA
  iterate 7 (quiet_step (exact cB _ _))
  clear cB
  repeat (quiet_step (exact cC _ _))
  clear cC
  refine wpQuiet_nil ?_
  intro _ hw'
  obtain ⟨⟨dq, osq⟩, hw''⟩ := hw'
  subst hw''
  have b3 := n1.trans ((below_regrown w1 dq osq).mono n1.size)
  generalize grow (redrawn w1 dq) osq = w4 at *
  go_wp2
  go_ret
  exact ⟨rfl, b3⟩

set_option maxHeartbeats 4000000 in
set_option maxRecDepth 1000000 in
theorem r6_not (r q0 : R7) (w : World) (g off : Nat) (A : ByteArray) (hk : r.k = 11) (hlo : r.lo = some ⟨g, off, none⟩) (hll : r.ll = 1) (hg : g < w.heap.size) (a0 : At7 w g off q0) (hA : A.size ≤ 2000000000000000) (K0 : KidR q0 w 6 A) :
    NodeR r w (⟨#[33]⟩ ++ A) := by
  unfold NodeR
  obtain ⟨k, b, n, s, t, i, lo, ll, lc⟩ := r
  simp only at hk hlo hll
  subst hk hlo hll
  have n1 := newS w (.cells #[.int .i64 11, .bool b, .int .i64 n, .string s, .string t, .string i, .slice (some ⟨g, off, none⟩) 1 lc] 32)
  have Z1 : (w.alloc (.cells #[.int .i64 11, .bool b, .int .i64 n, .string s, .string t, .string i, .slice (some ⟨g, off, none⟩) 1 lc] 32)).heap[w.heap.size]? = some (.cells #[.int .i64 11, .bool b, .int .i64 n, .string s, .string t, .string i, .slice (some ⟨g, off, none⟩) 1 lc] 32 (0, 0)) := alloc_heap _ _
  have a0 := a0.below n1 hg
  unfold KidR R7.val at K0
  have g0 : ¬ 9223372036854775807 < 1 + A.size := by omega
  have K := K0 _ n1
  unfold R7.val
  simp only
  clear hg
  go_enter Tryd.func12, Tryd.ntmps12
  go_upto_region 1 with fail
  generalize w.alloc _ = w1 at *
  obtain ⟨x0, x1, x2, x3, x4, x5, x6, _⟩ := blk7 Z1
  obtain ⟨y0, y1, y2, y3, y4, y5, y6⟩ := a0
  go_wp2_with fail
  refine K.mono ?_
  rintro e w2 ⟨rfl, b2⟩
  clear x0 x1 x2 x3 x4 x5 x6 y0 y1 y2 y3 y4 y5 y6
  go_wp2
  go_ret
  exact ⟨rfl, n1.trans (b2.mono n1.size)⟩

set_option maxHeartbeats 4000000 in
set_option maxRecDepth 1000000 in
theorem r6_neg (r q0 : R7) (w : World) (g off : Nat) (A : ByteArray) (hk : r.k = 12) (hlo : r.lo = some ⟨g, off, none⟩) (hll : r.ll = 1) (hg : g < w.heap.size) (a0 : At7 w g off q0) (hA : A.size ≤ 2000000000000000) (K0 : KidR q0 w 6 A) :
    NodeR r w (⟨#[45]⟩ ++ A) := by
  unfold NodeR
  obtain ⟨k, b, n, s, t, i, lo, ll, lc⟩ := r
  simp only at hk hlo hll
  subst hk hlo hll
  have n1 := newS w (.cells #[.int .i64 12, .bool b, .int .i64 n, .string s, .string t, .string i, .slice (some ⟨g, off, none⟩) 1 lc] 32)
  have Z1 : (w.alloc (.cells #[.int .i64 12, .bool b, .int .i64 n, .string s, .string t, .string i, .slice (some ⟨g, off, none⟩) 1 lc] 32)).heap[w.heap.size]? = some (.cells #[.int .i64 12, .bool b, .int .i64 n, .string s, .string t, .string i, .slice (some ⟨g, off, none⟩) 1 lc] 32 (0, 0)) := alloc_heap _ _
  have a0 := a0.below n1 hg
  unfold KidR R7.val at K0
  have g0 : ¬ 9223372036854775807 < 1 + A.size := by omega
  have K := K0 _ n1
  unfold R7.val
  simp only
  clear hg
  go_enter Tryd.func12, Tryd.ntmps12
  go_upto_region 1 with fail
  generalize w.alloc _ = w1 at *
  obtain ⟨x0, x1, x2, x3, x4, x5, x6, _⟩ := blk7 Z1
  obtain ⟨y0, y1, y2, y3, y4, y5, y6⟩ := a0
  go_wp2_with fail
  refine K.mono ?_
  rintro e w2 ⟨rfl, b2⟩
  clear x0 x1 x2 x3 x4 x5 x6 y0 y1 y2 y3 y4 y5 y6
  go_wp2
  go_ret
  exact ⟨rfl, n1.trans (b2.mono n1.size)⟩

end Go.Proofs.YtpblalklenebhaaDoor
