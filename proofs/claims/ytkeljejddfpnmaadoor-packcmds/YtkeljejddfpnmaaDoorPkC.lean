/-
  pack's writer: put.
-/
import Derived.Test.YtkeljejddfpnmaaDoorPkB
namespace Go.Proofs.YtkeljejddfpnmaaDoor
open Go.RowKit Go.Sort

set_option maxHeartbeats 4000000 in
set_option maxRecDepth 1000000 in
theorem put_any (w : World) (rb g total : Nat) (T bs : List UInt8) (ao : Option Addr) (cap : Nat) (h : WrAt w rb g total T) (hs : BRowN w g ao bs) (hl : bs.length ≤ 281474976710656) (_ht : total ≤ 281474976710656) :
    Calls Tryd.prog 32 #[.pointer (some ⟨rb, 0, none⟩), .slice ao bs.length cap] w fun e w' => e = .returned (.tuple #[]) ∧ Keep2 rb g w w' ∧ WrAt w' rb g total (T ++ bs) := by
  obtain ⟨⟨off, hwr, hoff⟩, hroom, hne⟩ := h
  obtain ⟨n, hn⟩ : ∃ n, n = total - T.length := ⟨_, rfl⟩
  rw [← hn] at hwr
  obtain ⟨k, hk⟩ : ∃ k, k = min bs.length n := ⟨_, rfl⟩
  have hkn : k ≤ n := by omega
  obtain ⟨off', ho', hsl⟩ := sliceB g off n k hkn
  have hwlt : rb < w.heap.size := (Array.getElem?_eq_some_iff.1 hwr).1
  have hA : (T ++ bs).take total = T.take total ++ bs.take n := by rw [List.take_append, hn]
  have hcl : (u8s (bs.take n)).length = k := by rw [u8s_len, List.length_take, hk, Nat.min_comm]
  obtain ⟨A, hAd⟩ : ∃ A, A = T.take total ++ bs.take n := ⟨_, rfl⟩
  have hTl : (T.take total).length + n = total ∨ n = 0 := by rw [List.length_take]; omega
  have KEY : ∀ (w0 : World) (o : Oper) (a : Act) (K : Act → World → Prop) (Q : Exit → Act → World → Prop), PutR w g rb n (T.take total) w0 → a.eval (.tmp 12) = .slice (some ⟨g, off, none⟩) n n → a.eval (.tmp 13) = .slice ao bs.length cap →
      o.op = .call { callee := .builtin .copy, args := #[.tmp 12, .tmp 13], argTypes := #[24, 24] } →
      (∀ w1, PutR w g rb n (T.take total) w1 → (∃ rest, rest.length = n - k ∧ w1.heap[g]? = some (roomObj A rest)) → K (a.put o.dst (.int .i64 k)) w1) → Oper.wp Tryd.prog o a w0 K Q := by
    intro w0 o a K Q hR e1 e2 ho hK
    obtain ⟨rest, hr1, hr2⟩ := hR.room
    have hoff2 : 0 < k → off = (T.take total).length := fun hp => by have := hoff (by omega); rw [List.length_take]; omega
    obtain ⟨off2, hoff3⟩ : ∃ off2, off2 = (T.take total).length := ⟨_, rfl⟩
    refine wp_copy_any (.tmp 12) (.tmp 13) 24 24 ho 5 Tryd.underlying24 infoB (some ⟨g, off, none⟩) ao n n bs.length cap e1 e2 g off2 (u8s (T.take total) ++ rest) 5 hr2 (u8s (bs.take n)) (by rw [hcl, hk]) ?_ ?_ ?_ ?_
    · intro hp
      rw [hcl] at hp
      refine ⟨by rw [hoff2 hp, hoff3], ?_⟩
      rcases BRowN.same hs (w' := w0) (by rw [hR.size]; exact Nat.le_refl _) (fun k _ hk => hR.block k hk) with h0 | ⟨gs, os, e, _, _, hc⟩
      · rw [h0] at hk; simp at hk; omega
      · refine ⟨_, e, fun j v hj => ?_⟩
        have hjl : j < (bs.take n).length := by rw [← u8s_len]; exact (List.getElem?_eq_some_iff.1 hj).1
        rw [u8s_get hjl] at hj
        cases hj
        have hjb : j < bs.length := by rw [List.length_take] at hjl; omega
        have := hc j hjb
        rw [List.getElem_take]
        rw [show (⟨gs, os, none⟩ : Addr).add j = ⟨gs, os + j, none⟩ by unfold Addr.add; split <;> simp_all]
        exact this
    · rw [hcl, List.length_append, u8s_len, hr1, hoff3]
      omega
    · intro v hv
      simp only [u8s, List.mem_map] at hv
      obtain ⟨b, _, rfl⟩ := hv
      rfl
    · intro w1 h1 h2 h3 h4 h5 h6
      rw [hcl]
      have hsp : splice (u8s (T.take total) ++ rest) off2 (u8s (bs.take n)) = u8s A ++ rest.drop k := by
        unfold splice
        rw [hoff3, hAd, u8s_append, hcl, ← u8s_len (T.take total), List.take_left, List.append_assoc, List.drop_append]
        congr 3
        · rw [List.drop_eq_nil_of_le (by omega), List.nil_append]
          congr 1
          omega
      rw [hsp] at h1
      refine hK w1 ⟨h2.trans hR.os, h3.trans hR.tape, h4.trans hR.output, h5.trans hR.size, fun k hk => (h6 k hk).trans (hR.block k hk), ?_⟩ ⟨rest.drop k, by rw [List.length_drop]; omega, h1⟩
      refine ⟨u8s (bs.take n) ++ rest.drop k, by rw [List.length_append, hcl, List.length_drop]; omega, ?_⟩
      rw [h1, roomObj, hAd, u8s_append, List.append_assoc]
  have HA := hide hA
  have HAD := hide hAd
  have HN := hide hn
  have HK := hide hk
  have HO := hide ho'
  have HOF := hide hoff
  have HROOM := hide hroom
  have HS := hide hs
  have HKEY := hide KEY
  have HTL := hide hTl
  have HCL := hide hcl
  clear hA hAd hn hk ho' hoff hroom hs KEY hTl hcl
  have hcw : w.cell? ⟨rb, 0, none⟩ = some (.slice (some ⟨g, off, none⟩) n n) := by rw [Lib.cell_of_heap hwr]; rfl
  go_enter Tryd.func32, Tryd.ntmps32
  go_upto_region 0 with fail
  refine wp_specs_put 14 (putSp g rb off off' n k (.slice ao bs.length cap) A) (PutR w g rb n (T.take total)) (by kernel_rfl) (by kernel_rfl) ?_ ?_ ?_
  · obtain ⟨rest, hr1, hr2⟩ := unhide HROOM
    exact ⟨rfl, rfl, rfl, rfl, fun _ _ => rfl, rest, by rw [hr1, ← unhide HN], hr2⟩
  · intro i o hi ho a' w' hR hdep hslot K hK
    have hcw' : w'.cell? ⟨rb, 0, none⟩ = some (.slice (some ⟨g, off, none⟩) n n) := (World.cell?_of_block (w := w) (hR.block rb hne)).trans hcw
    match i, hi with
    | 0, _ =>
      cases ho
      have e : a'.tmps.getD 0 undef = .pointer (some ⟨rb, 0, none⟩) := hslot 0 (by decide)
      unfold Oper.wp
      go_simp
      exact hK _ _ rfl hR (fun _ _ h => h)
    | 1, _ =>
      cases ho
      have e : a'.tmps.getD 0 undef = .pointer (some ⟨rb, 0, none⟩) := hslot 0 (by decide)
      unfold Oper.wp
      go_simp
      exact hK _ _ rfl hR (fun _ _ h => h)
    | 2, _ =>
      cases ho
      have e : a'.tmps.getD 5 undef = .pointer (some ⟨rb, 0, none⟩) := hdep 1 (by kernel_rfl)
      unfold Oper.wp
      go_simp
      exact hK _ _ rfl hR (fun _ _ h => h)
    | 3, _ =>
      cases ho
      have e : a'.tmps.getD 6 undef = .pointer (some ⟨rb, 0, none⟩) := hdep 2 (by kernel_rfl)
      unfold Oper.wp
      go_simp
      exact hK _ _ rfl hR (fun _ _ h => h)
    | 4, _ =>
      cases ho
      have e : a'.tmps.getD 7 undef = .pointer (some ⟨rb, 0, none⟩) := hdep 3 (by kernel_rfl)
      unfold Oper.wp
      go_simp
      exact hK _ _ rfl hR (fun _ _ h => h)
    | 5, _ =>
      cases ho
      have e : a'.tmps.getD 0 undef = .pointer (some ⟨rb, 0, none⟩) := hslot 0 (by decide)
      unfold Oper.wp
      go_simp
      exact hK _ _ rfl hR (fun _ _ h => h)
    | 6, _ =>
      cases ho
      have e : a'.tmps.getD 9 undef = .pointer (some ⟨rb, 0, none⟩) := hdep 5 (by kernel_rfl)
      unfold Oper.wp
      go_simp
      exact hK _ _ rfl hR (fun _ _ h => h)
    | 7, _ =>
      cases ho
      have e : a'.tmps.getD 10 undef = .pointer (some ⟨rb, 0, none⟩) := hdep 6 (by kernel_rfl)
      unfold Oper.wp
      go_simp
      exact hK _ _ rfl hR (fun _ _ h => h)
    | 8, _ =>
      cases ho
      have e : a'.tmps.getD 11 undef = .pointer (some ⟨rb, 0, none⟩) := hdep 7 (by kernel_rfl)
      unfold Oper.wp
      go_simp
      exact hK _ _ rfl hR (fun _ _ h => h)
    | 9, _ =>
      cases ho
      have e : a'.tmps.getD 1 undef = .slice ao bs.length cap := hslot 1 (by decide)
      unfold Oper.wp
      go_simp
      exact hK _ _ rfl hR (fun _ _ h => h)
    | 10, _ =>
      cases ho
      have e1 : a'.tmps.getD 12 undef = .slice (some ⟨g, off, none⟩) n n := hdep 8 (by kernel_rfl)
      have e2 : a'.tmps.getD 13 undef = .slice ao bs.length cap := hdep 9 (by kernel_rfl)
      refine unhide HKEY w' _ a' K _ hR e1 e2 rfl fun w1 h1 h2 => ?_
      exact hK _ _ ⟨rfl, h2⟩ h1 (putSp_up h2)
    | 11, _ =>
      cases ho
      have e1 : a'.tmps.getD 8 undef = .slice (some ⟨g, off, none⟩) n n := hdep 4 (by kernel_rfl)
      have e2 : a'.tmps.getD 14 undef = .int .i64 k := (hdep 10 (by kernel_rfl)).1
      unfold Oper.wp
      go_simp
      exact hK _ _ rfl hR (fun _ _ h => h)
    | 12, _ =>
      cases ho
      have e : a'.tmps.getD 4 undef = .pointer (some ⟨rb, 0, none⟩) := hdep 0 (by kernel_rfl)
      unfold Oper.wp
      go_simp
      exact hK _ _ rfl hR (fun _ _ h => h)
    | 13, _ =>
      cases ho
      have e : a'.tmps.getD 16 undef = .pointer (some ⟨rb, 0, none⟩) := hdep 12 (by kernel_rfl)
      unfold Oper.wp
      go_simp
      exact hK _ _ rfl hR (fun _ _ h => h)
  · intro v w' hR hall
    have v0 : v 0 = _ := hall 0 (by decide)
    have v1 : v 1 = _ := hall 1 (by decide)
    have v2 : v 2 = _ := hall 2 (by decide)
    have v3 : v 3 = _ := hall 3 (by decide)
    have v4 : v 4 = _ := hall 4 (by decide)
    have v5 : v 5 = _ := hall 5 (by decide)
    have v6 : v 6 = _ := hall 6 (by decide)
    have v7 : v 7 = _ := hall 7 (by decide)
    have v8 : v 8 = _ := hall 8 (by decide)
    have v9 : v 9 = _ := hall 9 (by decide)
    obtain ⟨v10, hrm⟩ := hall 10 (by decide)
    have v11 : v 11 = _ := hall 11 (by decide)
    have v12 : v 12 = _ := hall 12 (by decide)
    have v13 : v 13 = _ := hall 13 (by decide)
    have hwr' : w'.heap[rb]? = some (wrObj g off n) := (hR.block rb hne).trans hwr
    have hcw' : w'.cell? ⟨rb, 0, none⟩ = some (.slice (some ⟨g, off, none⟩) n n) := by rw [Lib.cell_of_heap hwr']; rfl
    have hfz : w'.frozen? ⟨rb, 0, none⟩ = false := by rw [Lib.frozen_of_heap hwr']
    have HRM := hide hrm
    clear hrm hall
    simp only [putAll, dstOf, List.getElem?_cons_zero, List.getElem?_cons_succ, Option.bind_some, List.drop_succ_cons, List.drop_zero, v0, v1, v2, v3, v4, v5, v6, v7, v8, v9, v10, v11, v12, v13]
    clear v0 v1 v2 v3 v4 v5 v6 v7 v8 v9 v10 v11 v12 v13
    simp only [Act.put, List.setIfInBounds_toArray, List.set_cons_succ, List.set_cons_zero]
    go_wp2
    go_end0
    refine ⟨rfl, (Keep2.mk (w' := w') hR.os hR.tape hR.output (by rw [hR.size]; exact Nat.le_refl _) (fun k _ _ hk => hR.block k hk)).setCell (p := ⟨rb, 0, none⟩) (.inl rfl) _, ?_⟩
    obtain ⟨rest, hr1, hr2⟩ := unhide HRM
    have hk := unhide HK
    have hn := unhide HN
    refine ⟨⟨off', ?_, ?_⟩, ⟨rest, ?_, ?_⟩, hne⟩
    · rw [List.length_append, show total - (T.length + bs.length) = n - k by omega]
      simp [World.setCell, Array.getElem?_modify, hwr', wrObj]
    · intro hlt
      rw [List.length_append] at hlt ⊢
      rw [unhide HO (by omega), unhide HOF (by omega)]
      omega
    · rw [List.length_append, hr1]
      omega
    · rw [Below.heap_setCell _ _ _ _ (Ne.symm hne), hr2, unhide HA, unhide HAD]
end Go.Proofs.YtkeljejddfpnmaaDoor
