/-
  parse: what a tree's node may have, more.
-/
import Derived.Test.YtlakgnnjokienaaGreatDoorPcA
import Derived.Test.YtlakgnnjokienaaGreatDoorPaE
namespace Go.Proofs.YtlakgnnjokienaaGreatDoor
open Go.RowKit Go.Sort

def smallX (r : R7) : Prop := r.s.size ≤ 1099511627776 ∧ r.t.size ≤ 1099511627776 ∧ r.i.size ≤ 1099511627776
def ownX (r : R7) : Int := ownE r.k r.s.data.toList r.t.data.toList r.i.data.toList r.ll
theorem chk_str (s : ByteArray) : chkFlat ⟨3, false, 0, s, ⟨#[]⟩, ⟨#[]⟩, none, 0, 0⟩ = txtE s.data.toList := by
  have hm : moreB ⟨3, false, 0, s, ⟨#[]⟩, ⟨#[]⟩, none, 0, 0⟩ = false := by simp [moreB, SameF, bareR, ba]
  unfold chkFlat
  rw [hm]
  rfl
theorem chk_uid (t i : ByteArray) : chkFlat ⟨4, false, 0, ⟨#[]⟩, t, i, none, 0, 0⟩ = uidE t.data.toList i.data.toList := by
  have hm : moreB ⟨4, false, 0, ⟨#[]⟩, t, i, none, 0, 0⟩ = false := by simp [moreB, SameF, bareR, ba]
  unfold chkFlat
  rw [hm]
  rfl

set_option maxHeartbeats 4000000 in
set_option maxRecDepth 1000000 in
theorem checkContentX_any (r : R7) (w : World) (hs : smallX r) :
    Calls Tryz.prog 61 #[r.val] w fun e w' => e = .returned (.int .i64 (ownX r)) ∧ Below w.heap.size w w' := by
  obtain ⟨k, b, n, s, t, i, lo, ll, lc⟩ := r
  obtain ⟨hs1, hs2, hs3⟩ := hs
  simp only at hs1 hs2 hs3
  unfold ownX
  simp only
  have b1 : ∀ o, Below w.heap.size w (w.alloc o) := new1 w
  have VS := fun w' => vcheck_flat ⟨3, false, 0, s, ⟨#[]⟩, ⟨#[]⟩, none, 0, 0⟩ w' (show (3 : Int) ≠ 5 by decide) hs1 (show (⟨#[]⟩ : ByteArray).size ≤ 1099511627776 by decide) (show (⟨#[]⟩ : ByteArray).size ≤ 1099511627776 by decide)
  have VU := fun w' => vcheck_flat ⟨4, false, 0, ⟨#[]⟩, t, i, none, 0, 0⟩ w' (show (4 : Int) ≠ 5 by decide) (show (⟨#[]⟩ : ByteArray).size ≤ 1099511627776 by decide) hs2 hs3
  rw [chk_str] at VS
  rw [chk_uid] at VU
  have IV := fun w' => isVariable_any s w'
  have ID := fun w' => ident_any s w' hs1
  unfold R7.val at VS VU ⊢
  simp only at VS VU ⊢
  by_cases h3 : k = 3 ∨ k = 10
  · have e : ownE k s.data.toList t.data.toList i.data.toList ll = txtE s.data.toList := if_pos h3
    rw [e]
    generalize txtE s.data.toList = c at *
    clear e VU IV ID
    rcases h3 with rfl | rfl
    all_goals
      go_enter Tryz.func61, Tryz.ntmps61
      go_wp2_with fail
      refine (VS _).mono ?_
      rintro e w2 ⟨rfl, b2⟩
      go_wp2
      go_ret
      exact ⟨rfl, (b1 _).trans (b2.mono (b1 _).size)⟩
  by_cases h4 : k = 4
  · have e : ownE k s.data.toList t.data.toList i.data.toList ll = uidE t.data.toList i.data.toList := by unfold ownE; rw [if_neg h3, if_pos h4]
    rw [e]
    generalize uidE t.data.toList i.data.toList = c at *
    subst h4
    clear e VS IV ID h3
    go_enter Tryz.func61, Tryz.ntmps61
    go_wp2_with fail
    refine (VU _).mono ?_
    rintro e w2 ⟨rfl, b2⟩
    go_wp2
    go_ret
    exact ⟨rfl, (b1 _).trans (b2.mono (b1 _).size)⟩
  by_cases h5 : k = 5
  · have e : ownE k s.data.toList t.data.toList i.data.toList ll = if isVar s.data.toList then 0 else 15 := by unfold ownE; rw [if_neg h3, if_neg h4, if_pos h5]
    rw [e]
    have CN := fun w' => checkName_any (isVar s.data.toList) w'
    generalize isVar s.data.toList = v at *
    obtain ⟨c, hc⟩ : ∃ c : Int, c = if v then 0 else 15 := ⟨_, rfl⟩
    rw [← hc] at CN ⊢
    subst h5
    clear e VS VU ID h3 h4 hc
    go_enter Tryz.func61, Tryz.ntmps61
    go_wp2_with fail
    refine (IV _).mono ?_
    rintro e w2 ⟨rfl, rfl⟩
    go_wp2_with fail
    refine (CN _).mono ?_
    rintro e w3 ⟨rfl, rfl⟩
    go_wp2
    go_ret
    exact ⟨rfl, b1 _⟩
  by_cases h7 : k = 7 ∨ k = 8
  · have e : ownE k s.data.toList t.data.toList i.data.toList ll = if nameB s.data.toList then 0 else 15 := by unfold ownE; rw [if_neg h3, if_neg h4, if_neg h5, if_pos h7]
    rw [e]
    have CN := fun w' => checkName_any (nameB s.data.toList) w'
    generalize nameB s.data.toList = v at *
    obtain ⟨c, hc⟩ : ∃ c : Int, c = if v then 0 else 15 := ⟨_, rfl⟩
    rw [← hc] at CN ⊢
    clear e VS VU IV h3 h4 h5 hc
    rcases h7 with rfl | rfl
    all_goals
      go_enter Tryz.func61, Tryz.ntmps61
      go_wp2_with fail
      refine (ID _).mono ?_
      rintro e w2 ⟨rfl, b2⟩
      go_wp2_with fail
      refine (CN _).mono ?_
      rintro e w3 ⟨rfl, rfl⟩
      go_wp2
      go_ret
      exact ⟨rfl, (b1 _).trans (b2.mono (b1 _).size)⟩
  by_cases h6 : k = 6
  · have e : ownE k s.data.toList t.data.toList i.data.toList ll = if 8 < ll then 4 else 0 := by unfold ownE; rw [if_neg h3, if_neg h4, if_neg h5, if_neg h7, if_pos h6]
    rw [e]
    subst h6
    clear e VS VU IV ID h3 h4 h5 h7
    by_cases h8 : 8 < ll
    · have i8 : (8 : Int) < (ll : Int) := by omega
      rw [if_pos h8]
      go_enter Tryz.func61, Tryz.ntmps61
      go_wp2
      go_ret
      exact ⟨rfl, b1 _⟩
    · have i8 : ¬ (8 : Int) < (ll : Int) := by omega
      rw [if_neg h8]
      go_enter Tryz.func61, Tryz.ntmps61
      go_wp2
      go_ret
      exact ⟨rfl, b1 _⟩
  · have e : ownE k s.data.toList t.data.toList i.data.toList ll = 0 := by unfold ownE; rw [if_neg h3, if_neg h4, if_neg h5, if_neg h7, if_neg h6]
    rw [e]
    have c3 : ¬ k = 3 := by omega
    have c10 : ¬ k = 10 := by omega
    have c7 : ¬ k = 7 := by omega
    have c8 : ¬ k = 8 := by omega
    clear e VS VU IV ID h3 h7
    go_enter Tryz.func61, Tryz.ntmps61
    go_wp2
    go_ret
    exact ⟨rfl, b1 _⟩

theorem at7_of {w : World} {b : Nat} {r : R7} {T : TypeId} (h : w.heap[b]? = some (.cells #[.int .i64 r.k, .bool r.b, .int .i64 r.n, .string r.s, .string r.t, .string r.i, .slice r.lo r.ll r.lc] T (0, 0))) : At7 w b 0 r := by
  obtain ⟨h0, h1, h2, h3, h4, h5, h6, _⟩ := blk7 h
  exact ⟨h0, h1, h2, h3, h4, h5, h6⟩
def nodeX (r : R7) : Int := if ary r.k = -2 then 3 else if ary r.k ≠ -1 ∧ ary r.k ≠ r.ll then 13 else if moreX r || decide (r.n < 0) then 1 else ownX r
set_option maxHeartbeats 4000000 in
set_option maxRecDepth 1000000 in
theorem checkNodeX_any (r : R7) (w : World) (hs : smallX r) :
    Calls Tryz.prog 51 #[r.val] w fun e w' => e = .returned (.int .i64 (nodeX r)) ∧ Below w.heap.size w w' := by
  have n1 := new1 w (.cells #[.int .i64 r.k, .bool r.b, .int .i64 r.n, .string r.s, .string r.t, .string r.i, .slice r.lo r.ll r.lc] 28)
  have KO := fun w' => kidsOf_any r.k w'
  have CC := fun w' => checkContentX_any r w' hs
  have BA := fun w' => bare_any r w'
  have HM := fun w' => phasMore_any r w'
  unfold kidV kidB at KO
  have hv1 : ary r.k = -2 ∨ ary r.k = -1 ∨ (ary r.k ≠ -2 ∧ ary r.k ≠ -1) := by omega
  rcases hv1 with ha | ha | ⟨ha, hb⟩
  · have e : nodeX r = 3 := if_pos ha
    rw [e]
    rw [ha] at KO
    simp only [reduceIte, decide_true, Bool.not_true] at KO
    clear e ha CC BA HM
    unfold R7.val
    go_enter Tryz.func51, Tryz.ntmps51
    go_wp2_with fail
    refine (KO _).mono ?_
    rintro e w2 ⟨rfl, rfl⟩
    go_wp2
    go_ret
    exact ⟨rfl, n1⟩
  · rw [ha] at KO
    simp only [Int.reduceNeg, Int.reduceEq, reduceIte, decide_false, Bool.not_false] at KO
    have h1 : (w.alloc (.cells #[.int .i64 r.k, .bool r.b, .int .i64 r.n, .string r.s, .string r.t, .string r.i, .slice r.lo r.ll r.lc] 28)).heap[w.heap.size]? = some (.cells #[.int .i64 r.k, .bool r.b, .int .i64 r.n, .string r.s, .string r.t, .string r.i, .slice r.lo r.ll r.lc] 28 (0, 0)) := alloc_heap _ _
    unfold R7.val
    go_enter Tryz.func51, Tryz.ntmps51
    go_wp2_with fail
    refine (KO _).mono ?_
    rintro e w1' ⟨rfl, rfl⟩
    clear KO
    go_upto_region 6 with fail
    generalize w.alloc _ = w1 at *
    obtain ⟨x0, x1, x2, x3, x4, x5, x6⟩ := (at7_of h1).up
    simp only [Nat.zero_add] at x1 x2 x3 x4 x5 x6
    have cB := fun d os => Calls.regrown_of (w := w1) (d := d) (os := os) (BA (grow (redrawn w1 d) os))
    have cH := fun d os => Calls.regrown_of (w := w1) (d := d) (os := os) (HM (grow (redrawn w1 d) os))
    unfold R7.val at cB cH
    clear BA HM
    cases hm : moreX r with
    | true =>
      have e : nodeX r = 1 := by unfold nodeX; rw [if_neg (by rw [ha]; decide), if_neg (by rw [ha]; simp)]; rw [hm]; rfl
      rw [hm] at cH
      have HE := hide e
      clear e hm
      refine wp_region_quiet_below (by kernel_rfl) (by kernel_rfl) ?_
      iterate 3 (quiet_step (exact cB _ _))
      clear cB
      quiet_step (exact cH _ _)
      clear cH
      repeat (go_big_quiet_step (fail))
      refine wpQuiet_nil ?_
      intro _ hw'
      obtain ⟨⟨dq, osq⟩, hw''⟩ := hw'
      subst hw''
      have b12 := below_regrown w1 dq osq
      generalize grow (redrawn w1 dq) osq = w2 at *
      clear x0 x1 x2 x3 x4 x5 x6
      go_wp2
      go_ret
      exact ⟨by rw [unhide HE]; rfl, n1.trans (b12.mono n1.size)⟩
    | false =>
      rw [hm] at cH
      by_cases hneg : r.n < 0
      · have e : nodeX r = 1 := by unfold nodeX; rw [if_neg (by rw [ha]; decide), if_neg (by rw [ha]; simp)]; rw [hm, decide_eq_true hneg]; rfl
        have HE := hide e
        clear e hm
        refine wp_region_quiet_below (by kernel_rfl) (by kernel_rfl) ?_
        iterate 3 (quiet_step (exact cB _ _))
        clear cB
        quiet_step (exact cH _ _)
        clear cH
        repeat (quiet_step (fail))
        refine wpQuiet_nil ?_
        intro _ hw'
        obtain ⟨⟨dq, osq⟩, hw''⟩ := hw'
        subst hw''
        have b12 := below_regrown w1 dq osq
        generalize grow (redrawn w1 dq) osq = w2 at *
        clear x0 x1 x2 x3 x4 x5 x6
        go_wp2
        go_ret
        exact ⟨by rw [unhide HE]; rfl, n1.trans (b12.mono n1.size)⟩
      · have e : nodeX r = ownX r := by unfold nodeX; rw [if_neg (by rw [ha]; decide), if_neg (by rw [ha]; simp)]; rw [hm, decide_eq_false hneg]; rfl
        have HE := hide e
        clear e hm
        refine wp_region_quiet_below (by kernel_rfl) (by kernel_rfl) ?_
        iterate 3 (quiet_step (exact cB _ _))
        clear cB
        quiet_step (exact cH _ _)
        clear cH
        repeat (quiet_step (fail))
        refine wpQuiet_nil ?_
        intro _ hw'
        obtain ⟨⟨dq, osq⟩, hw''⟩ := hw'
        subst hw''
        have b12 := below_regrown w1 dq osq
        have h2 := kept_of_below b12 h1
        generalize grow (redrawn w1 dq) osq = w2 at *
        clear x0 x1 x2 x3 x4 x5 x6
        obtain ⟨x0, x1, x2, x3, x4, x5, x6, _⟩ := blk7 h2
        unfold R7.val at CC
        go_wp2_with fail
        refine (CC _).mono ?_
        rintro e w3 ⟨rfl, b3⟩
        go_wp2
        go_ret
        have b13 := n1.trans (b12.mono n1.size)
        exact ⟨by rw [unhide HE]; rfl, b13.trans (b3.mono b13.size)⟩
  · have KV : (if ary r.k = -2 then 0 else ary r.k) = ary r.k := if_neg ha
    rw [KV, decide_eq_false ha] at KO
    obtain ⟨c, hc⟩ : ∃ c : Int, c = ary r.k := ⟨_, rfl⟩
    rw [← hc] at KO hb
    have HC := hide hc
    clear hc KV
    have hb' : (c == -1) = false := by simpa using hb
    by_cases hl : c = (r.ll : Int)
    · have hl' : (c == (r.ll : Int)) = true := by simpa using hl
      have h1 : (w.alloc (.cells #[.int .i64 r.k, .bool r.b, .int .i64 r.n, .string r.s, .string r.t, .string r.i, .slice r.lo r.ll r.lc] 28)).heap[w.heap.size]? = some (.cells #[.int .i64 r.k, .bool r.b, .int .i64 r.n, .string r.s, .string r.t, .string r.i, .slice r.lo r.ll r.lc] 28 (0, 0)) := alloc_heap _ _
      have HL := hide hl
      unfold R7.val
      go_enter Tryz.func51, Tryz.ntmps51
      go_wp2_with fail
      refine (KO _).mono ?_
      rintro e w1' ⟨rfl, rfl⟩
      clear KO
      go_upto_region 6 with fail
      generalize w.alloc _ = w1 at *
      obtain ⟨x0, x1, x2, x3, x4, x5, x6⟩ := (at7_of h1).up
      simp only [Nat.zero_add] at x1 x2 x3 x4 x5 x6
      have cB := fun d os => Calls.regrown_of (w := w1) (d := d) (os := os) (BA (grow (redrawn w1 d) os))
      have cH := fun d os => Calls.regrown_of (w := w1) (d := d) (os := os) (HM (grow (redrawn w1 d) os))
      unfold R7.val at cB cH
      clear BA HM
      cases hm : moreX r with
      | true =>
        have e : nodeX r = 1 := by unfold nodeX; rw [if_neg ha, if_neg (fun hh => hh.2 (by rw [← unhide HC]; exact unhide HL))]; rw [hm]; rfl
        rw [hm] at cH
        have HE := hide e
        clear e hm
        refine wp_region_quiet_below (by kernel_rfl) (by kernel_rfl) ?_
        iterate 3 (quiet_step (exact cB _ _))
        clear cB
        quiet_step (exact cH _ _)
        clear cH
        repeat (go_big_quiet_step (fail))
        refine wpQuiet_nil ?_
        intro _ hw'
        obtain ⟨⟨dq, osq⟩, hw''⟩ := hw'
        subst hw''
        have b12 := below_regrown w1 dq osq
        generalize grow (redrawn w1 dq) osq = w2 at *
        clear x0 x1 x2 x3 x4 x5 x6
        go_wp2
        go_ret
        exact ⟨by rw [unhide HE]; rfl, n1.trans (b12.mono n1.size)⟩
      | false =>
        rw [hm] at cH
        by_cases hneg : r.n < 0
        · have e : nodeX r = 1 := by unfold nodeX; rw [if_neg ha, if_neg (fun hh => hh.2 (by rw [← unhide HC]; exact unhide HL))]; rw [hm, decide_eq_true hneg]; rfl
          have HE := hide e
          clear e hm
          refine wp_region_quiet_below (by kernel_rfl) (by kernel_rfl) ?_
          iterate 3 (quiet_step (exact cB _ _))
          clear cB
          quiet_step (exact cH _ _)
          clear cH
          repeat (quiet_step (fail))
          refine wpQuiet_nil ?_
          intro _ hw'
          obtain ⟨⟨dq, osq⟩, hw''⟩ := hw'
          subst hw''
          have b12 := below_regrown w1 dq osq
          generalize grow (redrawn w1 dq) osq = w2 at *
          clear x0 x1 x2 x3 x4 x5 x6
          go_wp2
          go_ret
          exact ⟨by rw [unhide HE]; rfl, n1.trans (b12.mono n1.size)⟩
        · have e : nodeX r = ownX r := by unfold nodeX; rw [if_neg ha, if_neg (fun hh => hh.2 (by rw [← unhide HC]; exact unhide HL))]; rw [hm, decide_eq_false hneg]; rfl
          have HE := hide e
          clear e hm
          refine wp_region_quiet_below (by kernel_rfl) (by kernel_rfl) ?_
          iterate 3 (quiet_step (exact cB _ _))
          clear cB
          quiet_step (exact cH _ _)
          clear cH
          repeat (quiet_step (fail))
          refine wpQuiet_nil ?_
          intro _ hw'
          obtain ⟨⟨dq, osq⟩, hw''⟩ := hw'
          subst hw''
          have b12 := below_regrown w1 dq osq
          have h2 := kept_of_below b12 h1
          generalize grow (redrawn w1 dq) osq = w2 at *
          clear x0 x1 x2 x3 x4 x5 x6
          obtain ⟨x0, x1, x2, x3, x4, x5, x6, _⟩ := blk7 h2
          unfold R7.val at CC
          go_wp2_with fail
          refine (CC _).mono ?_
          rintro e w3 ⟨rfl, b3⟩
          go_wp2
          go_ret
          have b13 := n1.trans (b12.mono n1.size)
          exact ⟨by rw [unhide HE]; rfl, b13.trans (b3.mono b13.size)⟩
    · have e : nodeX r = 13 := by
        unfold nodeX
        rw [if_neg ha, if_pos ⟨by rw [← unhide HC]; exact hb, by rw [← unhide HC]; exact hl⟩]
      rw [e]
      have hl' : (c == (r.ll : Int)) = false := by simpa using hl
      have hb2 : (c != -1) = true := by simpa using hb
      have hl2 : (c != (r.ll : Int)) = true := by simpa using hl
      clear e CC BA HM
      unfold R7.val
      go_enter Tryz.func51, Tryz.ntmps51
      go_wp2_with fail
      refine (KO _).mono ?_
      rintro e w1' ⟨rfl, rfl⟩
      go_wp2
      go_ret
      exact ⟨rfl, n1⟩
end Go.Proofs.YtlakgnnjokienaaGreatDoor
