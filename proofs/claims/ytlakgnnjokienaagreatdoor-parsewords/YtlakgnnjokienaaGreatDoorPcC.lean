/-
  parse.Check: what it returns.
-/
import Derived.Test.YtlakgnnjokienaaGreatDoorPcP
namespace Go.Proofs.YtlakgnnjokienaaGreatDoor
open Go.RowKit Go.Sort

set_option maxHeartbeats 4000000 in
set_option maxRecDepth 1000000 in
theorem checkNodes_any : ∀ (m : Nat) (x : Ex) (r : R7) (w : World) (P : Nat → Prop), depE x ≤ m → okB x = true → IsE w P r x →
    Calls Tryz.prog 37 #[r.val] w fun e w' => e = .returned (.int .i64 (nodesE x)) ∧ Below w.heap.size w w' := by
  intro m
  induction m with
  | zero =>
    intro x r w P hd
    cases x
    unfold depE at hd
    omega
  | succ m ih =>
    intro x r w P hd hok hx
    obtain ⟨k, b, n, s, t, i, l⟩ := x
    have hnx := nodeX_is hx
    have hx0 := hx
    unfold IsE at hx
    obtain ⟨rfl, rfl, rfl, hs, ht, hi, hl, hkids⟩ := hx
    unfold okB at hok
    simp only [Bool.and_eq_true, decide_eq_true_eq] at hok
    obtain ⟨o1, o2, o3, o4, o5⟩ := hok
    have hsm : smallX r := by
      refine ⟨?_, ?_, ?_⟩
      · rw [hs]; show s.toArray.size ≤ _; simp; omega
      · rw [ht]; show t.toArray.size ≤ _; simp; omega
      · rw [hi]; show i.toArray.size ≤ _; simp; omega
    have CN := fun w' => checkNodeX_any r w' hsm
    rw [hnx] at CN
    have hnod : nodesE (.mk r.k r.b r.n s t i l) = if nodeE r.k r.b r.n s t i l.length = 0 then nodesL l else nodeE r.k r.b r.n s t i l.length := by
      unfold nodesE
      rfl
    rw [hnod]
    generalize nodeE r.k r.b r.n s t i l.length = c at *
    have hdl : depL l ≤ m := by unfold depE at hd; omega
    have n1 := new1 w (.cells #[.int .i64 r.k, .bool r.b, .int .i64 r.n, .string r.s, .string r.t, .string r.i, .slice r.lo r.ll r.lc] 28)
    have h1 : (w.alloc (.cells #[.int .i64 r.k, .bool r.b, .int .i64 r.n, .string r.s, .string r.t, .string r.i, .slice r.lo r.ll r.lc] 28)).heap[w.heap.size]? = some (.cells #[.int .i64 r.k, .bool r.b, .int .i64 r.n, .string r.s, .string r.t, .string r.i, .slice r.lo r.ll r.lc] 28 (0, 0)) := alloc_heap _ _
    rw [hl] at h1 n1
    have HL := hide hl
    have HIH := hide ih
    have HK := hide hkids
    have HO5 := hide o5
    have HDL := hide hdl
    clear hnx hx0 hs ht hi hnod hd o1 o2 o3 hsm ih hkids o5 hdl
    unfold R7.val at CN ⊢
    rw [hl] at CN ⊢
    clear hl
    by_cases hc : c = 0
    · subst hc
      rw [if_pos rfl]
      go_enter Tryz.func37, Tryz.ntmps37
      go_wp2_with fail
      generalize w.alloc _ = w1 at *
      refine (CN _).mono ?_
      rintro e w2 ⟨rfl, b2⟩
      obtain ⟨x0, x1, x2, x3, x4, x5, x6, _⟩ := blk7 (kept_of_below b2 h1)
      have b12 := n1.trans (b2.mono n1.size)
      go_wp2_with fail
      clear x0 x1 x2 x3 x4 x5 x6 CN h1
      go_loopw [15] (fun iv wr => ∃ j : Nat, j ≤ l.length ∧ iv = .int .i64 j ∧ Below w.heap.size w wr ∧ Hid (nodesL (l.drop j) = nodesL l)) (fun iv _ => l.length - (intOf iv).toNat)
      case atStart => exact ⟨0, Nat.zero_le _, rfl, b12, hide rfl⟩
      case round =>
        obtain ⟨j, hj, rfl, hbw, HN⟩ := hrel
        by_cases hlt : j < l.length
        · have i1 : (j : Int) < (l.length : Int) := by omega
          have hd2 := hide (nodesL_drop l j hlt)
          obtain ⟨rk, g, off, hlo, hg, h7, hxk⟩ := IsEs.get l 0 j hlt (unhide HK)
          have hdk := depL_get l j hlt
          have CK : ∀ w', IsE w' P rk (l[j]'hlt) → _ := fun w' hw' => unhide HIH (l[j]'hlt) rk w' P (Nat.le_trans hdk (unhide HDL)) (okBs_get l j hlt (unhide HO5)) hw'
          generalize hxj : l[j] = xj at *
          have HXJ := hide hxk
          rw [Nat.zero_add] at h7
          obtain ⟨y0, y1, y2, y3, y4, y5, y6⟩ := h7
          have hcw : ∀ o, wr.cell? ⟨g, o, none⟩ = w.cell? ⟨g, o, none⟩ := fun o => hbw.cell (p := ⟨g, o, none⟩) hg
          have y0 := (hcw _).trans y0
          have y1 := (hcw _).trans y1
          have y2 := (hcw _).trans y2
          have y3 := (hcw _).trans y3
          have y4 := (hcw _).trans y4
          have y5 := (hcw _).trans y5
          have y6 := (hcw _).trans y6
          have n3 := new1 wr (.cells #[.int .i64 rk.k, .bool rk.b, .int .i64 rk.n, .string rk.s, .string rk.t, .string rk.i, .slice rk.lo rk.ll rk.lc] 28)
          have b03 := hbw.trans (n3.mono hbw.size)
          have CK3 := CK _ (IsE.turn b03.size (fun b hb hb2 => ⟨b03.block b hb2, hb⟩) rk xj hxk)
          unfold R7.val at CK3
          rw [hlo]
          generalize nodesE xj = ck at *
          clear hcw hxk CK hxj hdk
          by_cases hck : ck = 0
          · subst hck
            go_wp2_with fail
            refine CK3.mono ?_
            rintro e w4 ⟨rfl, b4⟩
            have b04 := b03.trans (b4.mono b03.size)
            clear y0 y1 y2 y3 y4 y5 y6 CK3
            go_wp2
            go_roundw
            case rel => exact ⟨j + 1, by omega, by go_num, b04, hide (by rw [← unhide HN, unhide hd2]; rfl)⟩
            case measure =>
              simp only [intOf]
              omega
          · have hck' : (ck == 0) = false := by simpa using hck
            have e : nodesL l = ck := by rw [← unhide HN, unhide hd2, if_neg hck]
            have HE := hide e
            clear e
            go_wp2_with fail
            refine CK3.mono ?_
            rintro e w4 ⟨rfl, b4⟩
            have b04 := b03.trans (b4.mono b03.size)
            clear y0 y1 y2 y3 y4 y5 y6 CK3
            go_wp2
            go_ret
            exact ⟨by rw [unhide HE]; rfl, b04⟩
        · have ej : j = l.length := by omega
          subst ej
          have i1 : ¬ (l.length : Int) < (l.length : Int) := by omega
          have e : nodesL l = 0 := by rw [← unhide HN, List.drop_length]; rfl
          have HE := hide e
          clear e
          go_wp2
          go_ret
          exact ⟨by rw [unhide HE]; rfl, hbw⟩
    · rw [if_neg hc]
      have hc' : (c == 0) = false := by simpa using hc
      go_enter Tryz.func37, Tryz.ntmps37
      go_wp2_with fail
      generalize w.alloc _ = w1 at *
      refine (CN _).mono ?_
      rintro e w2 ⟨rfl, b2⟩
      go_wp2
      go_ret
      exact ⟨rfl, n1.trans (b2.mono n1.size)⟩
end Go.Proofs.YtlakgnnjokienaaGreatDoor
