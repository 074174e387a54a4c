/-
  parse.Depth, parse.Check, parse.finishExpr: what they return.
-/
import Derived.Test.YtlakgnnjokienaaGreatDoorPcC
namespace Go.Proofs.YtlakgnnjokienaaGreatDoor
open Go.RowKit Go.Sort

set_option maxHeartbeats 4000000 in
set_option maxRecDepth 1000000 in
theorem depth_any : ∀ (m : Nat), m ≤ 1000000 → ∀ (x : Ex) (r : R7) (w : World) (P : Nat → Prop), depE x ≤ m → okB x = true → IsE w P r x →
    Calls Tryz.prog 9 #[r.val] w fun e w' => e = .returned (.int .i64 (depE x : Nat)) ∧ Below w.heap.size w w' := by
  intro m
  induction m with
  | zero =>
    intro _ x r w P hd
    cases x
    unfold depE at hd
    omega
  | succ m ih =>
    intro hm x r w P hd hok hx
    obtain ⟨k, b, n, s, t, i, l⟩ := x
    unfold IsE at hx
    obtain ⟨rfl, rfl, rfl, hs, ht, hi, hl, hkids⟩ := hx
    unfold okB at hok
    simp only [Bool.and_eq_true, decide_eq_true_eq] at hok
    obtain ⟨o1, o2, o3, o4, o5⟩ := hok
    have hdep : depE (.mk r.k r.b r.n s t i l) = depL l + 1 := by unfold depE; rfl
    rw [hdep]
    have hdl : depL l ≤ m := by rw [hdep] at hd; omega
    have n1 := new1 w (.cells #[.int .i64 r.k, .bool r.b, .int .i64 r.n, .string r.s, .string r.t, .string r.i, .slice r.lo r.ll r.lc] 28)
    rw [hl] at n1
    have HIH := hide (ih (by omega))
    have HK := hide hkids
    have HO5 := hide o5
    have HDL := hide hdl
    have hdm : depL l ≤ 1000000 := by omega
    clear hs ht hi hdep hd o1 o2 o3 ih hkids o5 hdl
    unfold R7.val
    rw [hl]
    clear hl
    go_enter Tryz.func9, Tryz.ntmps9
    go_wp2_with fail
    generalize w.alloc _ = w1 at *
    go_loopw [3, 9] (fun dv iv wr => ∃ j : Nat, j ≤ l.length ∧ iv = .int .i64 j ∧ dv = .int .i64 (depL (l.take j) : Nat) ∧ Below w.heap.size w wr) (fun _ iv _ => l.length - (intOf iv).toNat)
    case atStart => exact ⟨0, Nat.zero_le _, rfl, by simp [depL], n1⟩
    case round =>
      obtain ⟨j, hj, rfl, rfl, hbw⟩ := hrel
      by_cases hlt : j < l.length
      · have i1 : (j : Int) < (l.length : Int) := by omega
        have hd2 := depL_take l j hlt
        obtain ⟨rk, g, off, hlo, hg, h7, hxk⟩ := IsEs.get l 0 j hlt (unhide HK)
        have hdk := depL_get l j hlt
        have CK : ∀ w', IsE w' P rk (l[j]'hlt) → _ := fun w' hw' => unhide HIH (l[j]'hlt) rk w' P (Nat.le_trans hdk (unhide HDL)) (okBs_get l j hlt (unhide HO5)) hw'
        generalize hxj : l[j] = xj at *
        rw [Nat.zero_add] at h7
        obtain ⟨y0, y1, y2, y3, y4, y5, y6⟩ := h7
        have hcw : ∀ o, wr.cell? ⟨g, o, none⟩ = w.cell? ⟨g, o, none⟩ := fun o => hbw.cell (p := ⟨g, o, none⟩) hg
        have y0 := (hcw _).trans y0
        have y1 := (hcw _).trans y1
        have y2 := (hcw _).trans y2
        have y3 := (hcw _).trans y3
        have y4 := (hcw _).trans y4
        have y5 := (hcw _).trans y5
        have y6 := (hcw _).trans y6
        have n3 := new1 wr (.cells #[.int .i64 rk.k, .bool rk.b, .int .i64 rk.n, .string rk.s, .string rk.t, .string rk.i, .slice rk.lo rk.ll rk.lc] 28)
        have b03 := hbw.trans (n3.mono hbw.size)
        have CK3 := CK _ (IsE.turn b03.size (fun b hb hb2 => ⟨b03.block b hb2, hb⟩) rk xj hxk)
        unfold R7.val at CK3
        rw [hlo]
        obtain ⟨dk, hdk'⟩ : ∃ dk, dk = depE xj := ⟨_, rfl⟩
        obtain ⟨dj, hdj⟩ : ∃ dj, dj = depL (l.take j) := ⟨_, rfl⟩
        rw [← hdk'] at CK3 hd2
        rw [← hdj] at hd2 ⊢
        have HD2 := hide hd2
        clear hcw hxk CK hxj hdk hdk' hdj hd2
        go_wp2_with fail
        refine CK3.mono ?_
        rintro e w4 ⟨rfl, b4⟩
        have b04 := b03.trans (b4.mono b03.size)
        clear y0 y1 y2 y3 y4 y5 y6 CK3
        go_wp2
        go_roundw
        case rel => exact ⟨j + 1, by omega, by go_num, by rw [unhide HD2]; congr 1; omega, b04⟩
        case measure =>
          simp only [intOf]
          omega
      · have ej : j = l.length := by omega
        subst ej
        have i1 : ¬ (l.length : Int) < (l.length : Int) := by omega
        have e : depL (l.take l.length) = depL l := by rw [List.take_length]
        rw [e]
        clear e
        go_wp2
        go_ret
        exact ⟨rfl, hbw⟩

set_option maxHeartbeats 4000000 in
set_option maxRecDepth 1000000 in
theorem check_tree (x : Ex) (r : R7) (w : World) (P : Nat → Prop) (hd : depE x ≤ 1000000) (hok : okB x = true) (hx : IsE w P r x) :
    Calls Tryz.prog 25 #[r.val] w fun e w' => e = .returned (.int .i64 (checkE x)) ∧ Below w.heap.size w w' := by
  have n1 := new1 w (.cells #[.int .i64 r.k, .bool r.b, .int .i64 r.n, .string r.s, .string r.t, .string r.i, .slice r.lo r.ll r.lc] 28)
  have h1 : (w.alloc (.cells #[.int .i64 r.k, .bool r.b, .int .i64 r.n, .string r.s, .string r.t, .string r.i, .slice r.lo r.ll r.lc] 28)).heap[w.heap.size]? = some (.cells #[.int .i64 r.k, .bool r.b, .int .i64 r.n, .string r.s, .string r.t, .string r.i, .slice r.lo r.ll r.lc] 28 (0, 0)) := alloc_heap _ _
  have CN := fun w' hw' => checkNodes_any 1000000 x r w' P hd hok hw'
  have DP := fun w' hw' => depth_any 1000000 (Nat.le_refl _) x r w' P hd hok hw'
  have HX : Hid (∀ w', Below w.heap.size w w' → IsE w' P r x) := hide fun w' hb => IsE.turn hb.size (fun b hb1 hb2 => ⟨hb.block b hb2, hb1⟩) r x hx
  unfold checkE
  generalize nodesE x = c at *
  generalize depE x = d at *
  clear hx hd hok
  have CN1 := CN _ (unhide HX _ n1)
  unfold R7.val at CN1 DP ⊢
  clear CN
  by_cases hc : c = 0
  · subst hc
    rw [if_pos rfl]
    by_cases h10 : 10 < d
    · have i1 : (10 : Int) < (d : Int) := by omega
      rw [if_pos h10]
      go_enter Tryz.func25, Tryz.ntmps25
      go_wp2_with fail
      generalize w.alloc _ = w1 at *
      refine CN1.mono ?_
      rintro e w2 ⟨rfl, b2⟩
      have b12 := n1.trans (b2.mono n1.size)
      obtain ⟨x0, x1, x2, x3, x4, x5, x6, _⟩ := blk7 (kept_of_below b2 h1)
      have DP2 := DP _ (unhide HX _ b12)
      clear CN1 DP
      go_wp2_with fail
      refine DP2.mono ?_
      rintro e w3 ⟨rfl, b3⟩
      go_wp2
      go_ret
      exact ⟨rfl, b12.trans (b3.mono b12.size)⟩
    · have i1 : ¬ (10 : Int) < (d : Int) := by omega
      rw [if_neg h10]
      go_enter Tryz.func25, Tryz.ntmps25
      go_wp2_with fail
      generalize w.alloc _ = w1 at *
      refine CN1.mono ?_
      rintro e w2 ⟨rfl, b2⟩
      have b12 := n1.trans (b2.mono n1.size)
      obtain ⟨x0, x1, x2, x3, x4, x5, x6, _⟩ := blk7 (kept_of_below b2 h1)
      have DP2 := DP _ (unhide HX _ b12)
      clear CN1 DP
      go_wp2_with fail
      refine DP2.mono ?_
      rintro e w3 ⟨rfl, b3⟩
      go_wp2
      go_ret
      exact ⟨rfl, b12.trans (b3.mono b12.size)⟩
  · rw [if_neg hc]
    have hc' : (c == 0) = false := by simpa using hc
    clear DP
    go_enter Tryz.func25, Tryz.ntmps25
    go_wp2_with fail
    generalize w.alloc _ = w1 at *
    refine CN1.mono ?_
    rintro e w2 ⟨rfl, b2⟩
    go_wp2
    go_ret
    exact ⟨rfl, n1.trans (b2.mono n1.size)⟩

set_option maxRecDepth 1000000 in
theorem finish_tree (x : Ex) (r : R7) (w : World) (P : Nat → Prop) (g : Nat) (hd : depE x ≤ 1000000) (hok : okB x = true) (hx : IsE w P r x) (hg : w.heap[g]? = some (.cells #[.int .i64 r.k, .bool r.b, .int .i64 r.n, .string r.s, .string r.t, .string r.i, .slice r.lo r.ll r.lc] 28 (0, 0))) :
    Calls Tryz.prog 15 #[.pointer (some ⟨g, 0, none⟩)] w fun e w' => e = .returned (.int .i64 (checkE x)) ∧ Below w.heap.size w w' := by
  have C := check_tree x r w P hd hok hx
  obtain ⟨x0, x1, x2, x3, x4, x5, x6, _⟩ := blk7 hg
  generalize checkE x = c at *
  unfold R7.val at C
  go_enter Tryz.func15, Tryz.ntmps15
  go_wp2_with fail
  refine C.mono ?_
  rintro e w2 ⟨rfl, b2⟩
  go_wp2
  go_ret
  exact ⟨rfl, b2⟩
end Go.Proofs.YtlakgnnjokienaaGreatDoor
