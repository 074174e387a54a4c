/-
 chancelref11.own: in, holds: what it returns.
 chancelref11.own: if: what it returns.
 chancelref11.own: get, has: what it returns.
 chancelref11.own: set: what it returns.
-/
import Derived.Test.YtagnbpobcijakaaTyUV
namespace Go.Proofs.Ytagnbpobcijakaa
open Go.RowKit Go.Sort

set_option maxHeartbeats 8000000 in
set_option maxRecDepth 1000000 in
theorem rown_22 (s : SP) (v : Value) (p r : ByteArray) (eb : Bool) (en : Int) (es et ei : ByteArray) (elo : Option Addr) (ell elc : Nat) (ak aq : Int) (an : ByteArray) (bk bq : Int) (bn : ByteArray) (lo : Option Addr) (cap : Nat) (w : World) (_hsm : SmS s) (hs : IsST w v s) (hr : RowT3 w lo [⟨ak, aq, an⟩, ⟨bk, bq, bn⟩]) : Calls Try.prog 43 #[v, .agg #[.int .i64 22, .bool eb, .int .i64 en, .string es, .string et, .string ei, .slice elo ell elc], .slice lo 2 cap] w fun e w' => e = .returned (nodeT s p r 22 es et ei [⟨ak, aq, an⟩, ⟨bk, bq, bn⟩]).ret ∧ Below w.heap.size w w' := by
 obtain ⟨ko, kc, ao, acp, rfl, _, _⟩ := hs.ex2
 obtain ⟨bX, zX, k1, k2, k3⟩ := alloc3 w (.cells #[.slice ko s.ks.length kc, .slice ao s.ac.length acp] 33) (.cells #[.int .i64 22, .bool eb, .int .i64 en, .string es, .string et, .string ei, .slice elo ell elc] 39) (.cells #[.int .i64 0, .int .i64 0, .string ⟨#[]⟩] 54)
 have HS := hide hs
 have HR := hide hr
 obtain ⟨g, off, rfl, hg, hat0⟩ := hr.get (Below.refl _ w) (show 0 < ([⟨ak, aq, an⟩, ⟨bk, bq, bn⟩] : List T3).length by simp)
 have hat0 : AtT3 w g off ⟨ak, aq, an⟩ := by simpa using hat0
 obtain ⟨a0, a1, a2⟩ := hat0
 simp only at a0 a1 a2
 obtain ⟨g', off', eg, _, hat1⟩ := hr.get (Below.refl _ w) (show 1 < ([⟨ak, aq, an⟩, ⟨bk, bq, bn⟩] : List T3).length by simp)
 cases eg
 have hat1 : AtT3 w g (off + 3) ⟨bk, bq, bn⟩ := by simpa using hat1
 obtain ⟨b0, b1, b2⟩ := hat1
 simp only at b0 b1 b2
 clear hs hr
 go_enter Try.func43, Try.ntmps43
 go_upto_region 1 with fail
 generalize ((w.alloc _).alloc _).alloc _ = w1 at *
 clear zX
 have hw1 : w.heap.size ≤ w1.heap.size := bX.size
 have b2 := blw1 w1 (.cells #[.int .i64 0, .int .i64 0, .string ⟨#[]⟩] 54)
 have h2 := alloc_heap w1 (.cells #[.int .i64 0, .int .i64 0, .string ⟨#[]⟩] 54)
 have k4 := h2
 have B2 := b2
 obtain ⟨n0, n1, n2⟩ := bl3_ h2
 have nf : ∀ o, (w1.alloc (.cells #[.int .i64 0, .int .i64 0, .string ⟨#[]⟩] 54)).frozen? ⟨w1.heap.size, o, none⟩ = false := fun o => Lib.frozen_of_heap h2 o
 go_upto_region 2 with fail
 clear n0 n1 n2 nf b2 h2
 generalize w1.alloc _ = w2 at *
 have bX := bX.trans (B2.mono bX.size)
 have k1 := kept_of_below B2 k1
 have k2 := kept_of_below B2 k2
 have k3 := kept_of_below B2 k3
 have hs2 := (unhide HS).below bX
 have hr2 := (unhide HR).below bX
 clear B2
 have ce0 : w2.cell? ⟨w.heap.size + 1, 0, none⟩ = some (.int .i64 22) := lc_ k2 rfl
 have ce3 : w2.cell? ⟨w.heap.size + 1, 3, none⟩ = some (.string es) := lc_ k2 rfl
 have a0 := (bX.cell (p := ⟨g, off, none⟩) hg).trans a0
 have a1 := (bX.cell (p := ⟨g, off + 1, none⟩) hg).trans a1
 have a2 := (bX.cell (p := ⟨g, off + 2, none⟩) hg).trans a2
 have b0 := (bX.cell (p := ⟨g, off + 3, none⟩) hg).trans b0
 have b1 := (bX.cell (p := ⟨g, off + 4, none⟩) hg).trans b1
 have b2 := (bX.cell (p := ⟨g, off + 5, none⟩) hg).trans b2
 clear hs2 hr2
 by_cases h1 : ak = 4
 ·have gh1 : (ak == 4) = true := by simpa using h1
  have nh1 : (ak != 4) = false := by simp [h1]
  have Hh1 := hide h1
  clear h1
  by_cases h2 : bk = 4
  ·have gh2 : (bk == 4) = true := by simpa using h2
   have nh2 : (bk != 4) = false := by simp [h2]
   have Hh2 := hide h2
   clear h2
   have C := r11of_any 1 w2
   have HE := hide (show nodeT s p r 22 es et ei [⟨ak, aq, an⟩, ⟨bk, bq, bn⟩] = (⟨1, 0, ⟨#[]⟩⟩, 0) from by show whereT (decide (ak = 4) && (decide (bk = 4) || (decide (bk = 5) && decide (bq = 4)))) 1 = _; rw [decide_eq_true (unhide Hh1), decide_eq_true (unhide Hh2)]; rfl)
   go_wp2_with fail
   refine C.mono ?_
   clear C
   rintro e9 w9 ⟨rfl, b9⟩
   have hV9 := kept_of_below b9 k3
   have bb9 := bX.trans (b9.mono bX.size)
   obtain ⟨z0, z1, z2⟩ := bl3_ hV9
   have zf : ∀ o, w9.frozen? ⟨w.heap.size + 2, o, none⟩ = false := fun o => Lib.frozen_of_heap hV9 o
   have HQ := hide (set3_all (.int .i64 1) (.int .i64 0) (.string ⟨#[]⟩) hV9 bb9 (Nat.le_add_right _ 2))
   go_wp2
   obtain ⟨q0, q1, q2, qb⟩ := unhide HQ
   exact bodyPost_ret (v := .tuple #[.agg #[.int .i64 1, .int .i64 0, .string ⟨#[]⟩], .int .i64 0]) (by simp [results, Try.results43, go_sem, q0, q1, q2]) rfl ⟨by rw [unhide HE]; rfl, qb⟩
  ·have gh2 : (bk == 4) = false := by simpa using h2
   have nh2 : (bk != 4) = true := by simpa using h2
   have Hh2 := hide h2
   clear h2
   by_cases h3 : bk = 5
   ·have gh3 : (bk == 5) = true := by simpa using h3
    have nh3 : (bk != 5) = false := by simp [h3]
    have Hh3 := hide h3
    clear h3
    by_cases h4 : bq = 4
    ·have gh4 : (bq == 4) = true := by simpa using h4
     have nh4 : (bq != 4) = false := by simp [h4]
     have Hh4 := hide h4
     clear h4
     have C := r11of_any 1 w2
     have HE := hide (show nodeT s p r 22 es et ei [⟨ak, aq, an⟩, ⟨bk, bq, bn⟩] = (⟨1, 0, ⟨#[]⟩⟩, 0) from by show whereT (decide (ak = 4) && (decide (bk = 4) || (decide (bk = 5) && decide (bq = 4)))) 1 = _; rw [decide_eq_true (unhide Hh1), decide_eq_false (unhide Hh2), decide_eq_true (unhide Hh3), decide_eq_true (unhide Hh4)]; rfl)
     go_wp2_with fail
     refine C.mono ?_
     clear C
     rintro e9 w9 ⟨rfl, b9⟩
     have hV9 := kept_of_below b9 k3
     have bb9 := bX.trans (b9.mono bX.size)
     obtain ⟨z0, z1, z2⟩ := bl3_ hV9
     have zf : ∀ o, w9.frozen? ⟨w.heap.size + 2, o, none⟩ = false := fun o => Lib.frozen_of_heap hV9 o
     have HQ := hide (set3_all (.int .i64 1) (.int .i64 0) (.string ⟨#[]⟩) hV9 bb9 (Nat.le_add_right _ 2))
     go_wp2
     obtain ⟨q0, q1, q2, qb⟩ := unhide HQ
     exact bodyPost_ret (v := .tuple #[.agg #[.int .i64 1, .int .i64 0, .string ⟨#[]⟩], .int .i64 0]) (by simp [results, Try.results43, go_sem, q0, q1, q2]) rfl ⟨by rw [unhide HE]; rfl, qb⟩
    ·have gh4 : (bq == 4) = false := by simpa using h4
     have nh4 : (bq != 4) = true := by simpa using h4
     have Hh4 := hide h4
     clear h4
     obtain ⟨n0, n1, n2⟩ := bl3_ k4
     have HE := hide (show nodeT s p r 22 es et ei [⟨ak, aq, an⟩, ⟨bk, bq, bn⟩] = (⟨0, 0, ⟨#[]⟩⟩, 16) from by show whereT (decide (ak = 4) && (decide (bk = 4) || (decide (bk = 5) && decide (bq = 4)))) 1 = _; rw [decide_eq_true (unhide Hh1), decide_eq_false (unhide Hh2), decide_eq_true (unhide Hh3), decide_eq_false (unhide Hh4)]; rfl)
     obtain ⟨z0, z1, z2⟩ := bl3_ k3
     have zf : ∀ o, w2.frozen? ⟨w.heap.size + 2, o, none⟩ = false := fun o => Lib.frozen_of_heap k3 o
     have HQ := hide (set3_all (.int .i64 0) (.int .i64 0) (.string ⟨#[]⟩) k3 bX (Nat.le_add_right _ 2))
     go_wp2
     obtain ⟨q0, q1, q2, qb⟩ := unhide HQ
     exact bodyPost_ret (v := .tuple #[.agg #[.int .i64 0, .int .i64 0, .string ⟨#[]⟩], .int .i64 16]) (by simp [results, Try.results43, go_sem, q0, q1, q2]) rfl ⟨by rw [unhide HE]; rfl, qb⟩
   ·have gh3 : (bk == 5) = false := by simpa using h3
    have nh3 : (bk != 5) = true := by simpa using h3
    have Hh3 := hide h3
    clear h3
    obtain ⟨n0, n1, n2⟩ := bl3_ k4
    have HE := hide (show nodeT s p r 22 es et ei [⟨ak, aq, an⟩, ⟨bk, bq, bn⟩] = (⟨0, 0, ⟨#[]⟩⟩, 16) from by show whereT (decide (ak = 4) && (decide (bk = 4) || (decide (bk = 5) && decide (bq = 4)))) 1 = _; rw [decide_eq_true (unhide Hh1), decide_eq_false (unhide Hh2), decide_eq_false (unhide Hh3)]; rfl)
    obtain ⟨z0, z1, z2⟩ := bl3_ k3
    have zf : ∀ o, w2.frozen? ⟨w.heap.size + 2, o, none⟩ = false := fun o => Lib.frozen_of_heap k3 o
    have HQ := hide (set3_all (.int .i64 0) (.int .i64 0) (.string ⟨#[]⟩) k3 bX (Nat.le_add_right _ 2))
    go_wp2
    obtain ⟨q0, q1, q2, qb⟩ := unhide HQ
    exact bodyPost_ret (v := .tuple #[.agg #[.int .i64 0, .int .i64 0, .string ⟨#[]⟩], .int .i64 16]) (by simp [results, Try.results43, go_sem, q0, q1, q2]) rfl ⟨by rw [unhide HE]; rfl, qb⟩
 ·have gh1 : (ak == 4) = false := by simpa using h1
  have nh1 : (ak != 4) = true := by simpa using h1
  have Hh1 := hide h1
  clear h1
  obtain ⟨n0, n1, n2⟩ := bl3_ k4
  have HE := hide (show nodeT s p r 22 es et ei [⟨ak, aq, an⟩, ⟨bk, bq, bn⟩] = (⟨0, 0, ⟨#[]⟩⟩, 16) from by show whereT (decide (ak = 4) && (decide (bk = 4) || (decide (bk = 5) && decide (bq = 4)))) 1 = _; rw [decide_eq_false (unhide Hh1)]; rfl)
  obtain ⟨z0, z1, z2⟩ := bl3_ k3
  have zf : ∀ o, w2.frozen? ⟨w.heap.size + 2, o, none⟩ = false := fun o => Lib.frozen_of_heap k3 o
  have HQ := hide (set3_all (.int .i64 0) (.int .i64 0) (.string ⟨#[]⟩) k3 bX (Nat.le_add_right _ 2))
  go_wp2
  obtain ⟨q0, q1, q2, qb⟩ := unhide HQ
  exact bodyPost_ret (v := .tuple #[.agg #[.int .i64 0, .int .i64 0, .string ⟨#[]⟩], .int .i64 16]) (by simp [results, Try.results43, go_sem, q0, q1, q2]) rfl ⟨by rw [unhide HE]; rfl, qb⟩
set_option maxHeartbeats 8000000 in
set_option maxRecDepth 1000000 in
theorem rown_9 (s : SP) (v : Value) (p r : ByteArray) (eb : Bool) (en : Int) (es et ei : ByteArray) (elo : Option Addr) (ell elc : Nat) (ak aq : Int) (an : ByteArray) (bk bq : Int) (bn : ByteArray) (lo : Option Addr) (cap : Nat) (w : World) (_hsm : SmS s) (hs : IsST w v s) (hr : RowT3 w lo [⟨ak, aq, an⟩, ⟨bk, bq, bn⟩]) : Calls Try.prog 43 #[v, .agg #[.int .i64 9, .bool eb, .int .i64 en, .string es, .string et, .string ei, .slice elo ell elc], .slice lo 2 cap] w fun e w' => e = .returned (nodeT s p r 9 es et ei [⟨ak, aq, an⟩, ⟨bk, bq, bn⟩]).ret ∧ Below w.heap.size w w' := by
 obtain ⟨ko, kc, ao, acp, rfl, _, _⟩ := hs.ex2
 obtain ⟨bX, zX, k1, k2, k3⟩ := alloc3 w (.cells #[.slice ko s.ks.length kc, .slice ao s.ac.length acp] 33) (.cells #[.int .i64 9, .bool eb, .int .i64 en, .string es, .string et, .string ei, .slice elo ell elc] 39) (.cells #[.int .i64 0, .int .i64 0, .string ⟨#[]⟩] 54)
 have HS := hide hs
 have HR := hide hr
 obtain ⟨g, off, rfl, hg, hat0⟩ := hr.get (Below.refl _ w) (show 0 < ([⟨ak, aq, an⟩, ⟨bk, bq, bn⟩] : List T3).length by simp)
 have hat0 : AtT3 w g off ⟨ak, aq, an⟩ := by simpa using hat0
 obtain ⟨a0, a1, a2⟩ := hat0
 simp only at a0 a1 a2
 obtain ⟨g', off', eg, _, hat1⟩ := hr.get (Below.refl _ w) (show 1 < ([⟨ak, aq, an⟩, ⟨bk, bq, bn⟩] : List T3).length by simp)
 cases eg
 have hat1 : AtT3 w g (off + 3) ⟨bk, bq, bn⟩ := by simpa using hat1
 obtain ⟨b0, b1, b2⟩ := hat1
 simp only at b0 b1 b2
 clear hs hr
 go_enter Try.func43, Try.ntmps43
 go_upto_region 1 with fail
 generalize ((w.alloc _).alloc _).alloc _ = w1 at *
 clear zX
 have hw1 : w.heap.size ≤ w1.heap.size := bX.size
 have b2 := blw1 w1 (.cells #[.int .i64 0, .int .i64 0, .string ⟨#[]⟩] 54)
 have h2 := alloc_heap w1 (.cells #[.int .i64 0, .int .i64 0, .string ⟨#[]⟩] 54)
 have k4 := h2
 have B2 := b2
 obtain ⟨n0, n1, n2⟩ := bl3_ h2
 have nf : ∀ o, (w1.alloc (.cells #[.int .i64 0, .int .i64 0, .string ⟨#[]⟩] 54)).frozen? ⟨w1.heap.size, o, none⟩ = false := fun o => Lib.frozen_of_heap h2 o
 go_upto_region 2 with fail
 clear n0 n1 n2 nf b2 h2
 generalize w1.alloc _ = w2 at *
 have bX := bX.trans (B2.mono bX.size)
 have k1 := kept_of_below B2 k1
 have k2 := kept_of_below B2 k2
 have k3 := kept_of_below B2 k3
 have hs2 := (unhide HS).below bX
 have hr2 := (unhide HR).below bX
 clear B2
 have ce0 : w2.cell? ⟨w.heap.size + 1, 0, none⟩ = some (.int .i64 9) := lc_ k2 rfl
 have ce3 : w2.cell? ⟨w.heap.size + 1, 3, none⟩ = some (.string es) := lc_ k2 rfl
 have a0 := (bX.cell (p := ⟨g, off, none⟩) hg).trans a0
 have a1 := (bX.cell (p := ⟨g, off + 1, none⟩) hg).trans a1
 have a2 := (bX.cell (p := ⟨g, off + 2, none⟩) hg).trans a2
 have b0 := (bX.cell (p := ⟨g, off + 3, none⟩) hg).trans b0
 have b1 := (bX.cell (p := ⟨g, off + 4, none⟩) hg).trans b1
 have b2 := (bX.cell (p := ⟨g, off + 5, none⟩) hg).trans b2
 clear hs2 hr2
 go_upto_region 24 with fail
 by_cases h1 : ak = 5
 ·have gh1 : (ak == 5) = true := by simpa using h1
  have nh1 : (ak != 5) = false := by simp [h1]
  have Hh1 := hide h1
  clear h1
  have BT := binNeqT3 ⟨bk, bq, bn⟩ ⟨aq, 0, an⟩
  simp only at BT
  by_cases h0 : (⟨bk, bq, bn⟩ : T3) = ⟨aq, 0, an⟩
  ·simp only [decide_eq_true h0, Bool.not_true] at BT
   have Hh0 := hide h0
   clear h0
   have qa0 := cell_regrown a0
   have qa1 := cell_regrown a1
   have qa2 := cell_regrown a2
   have qb0 := cell_regrown b0
   have qb1 := cell_regrown b1
   have qb2 := cell_regrown b2
   clear a0 a1 a2 b0 b1 b2
   refine wp_region_quiet_below (by kernel_rfl) (by kernel_rfl) ?_
   repeat (first | go_big_quiet_step (fail) | quiet_step (fail))
   refine wpQuiet_nil ?_
   intro _ hw'
   obtain ⟨⟨dq2, osq2⟩, hw''⟩ := hw'
   subst hw''
   have b11 := below_regrown w2 dq2 osq2
   generalize grow (redrawn w2 dq2) osq2 = w6 at *
   clear qa0 qa1 qa2 qb0 qb1 qb2
   have k3 := kept_of_below b11 k3
   have k4 := kept_of_below b11 k4
   have bX := bX.trans (b11.mono bX.size)
   clear BT
   have C := r11of_any 1 w6
   have HE := hide (show nodeT s p r 9 es et ei [⟨ak, aq, an⟩, ⟨bk, bq, bn⟩] = (⟨1, 0, ⟨#[]⟩⟩, 0) from by show whereT (decide (ak = 5) && decide ((⟨bk, bq, bn⟩ : T3) = ⟨aq, 0, an⟩)) 1 = _; rw [decide_eq_true (unhide Hh1), decide_eq_true (unhide Hh0)]; rfl)
   go_wp2_with fail
   refine C.mono ?_
   clear C
   rintro e9 w9 ⟨rfl, b9⟩
   have hV9 := kept_of_below b9 k3
   have bb9 := bX.trans (b9.mono bX.size)
   obtain ⟨z0, z1, z2⟩ := bl3_ hV9
   have zf : ∀ o, w9.frozen? ⟨w.heap.size + 2, o, none⟩ = false := fun o => Lib.frozen_of_heap hV9 o
   have HQ := hide (set3_all (.int .i64 1) (.int .i64 0) (.string ⟨#[]⟩) hV9 bb9 (Nat.le_add_right _ 2))
   go_wp2
   obtain ⟨q0, q1, q2, qb⟩ := unhide HQ
   exact bodyPost_ret (v := .tuple #[.agg #[.int .i64 1, .int .i64 0, .string ⟨#[]⟩], .int .i64 0]) (by simp [results, Try.results43, go_sem, q0, q1, q2]) rfl ⟨by rw [unhide HE]; rfl, qb⟩
  ·simp only [decide_eq_false h0, Bool.not_false] at BT
   have Hh0 := hide h0
   clear h0
   have qa0 := cell_regrown a0
   have qa1 := cell_regrown a1
   have qa2 := cell_regrown a2
   have qb0 := cell_regrown b0
   have qb1 := cell_regrown b1
   have qb2 := cell_regrown b2
   clear a0 a1 a2 b0 b1 b2
   refine wp_region_quiet_below (by kernel_rfl) (by kernel_rfl) ?_
   repeat (first | go_big_quiet_step (fail) | quiet_step (fail))
   refine wpQuiet_nil ?_
   intro _ hw'
   obtain ⟨⟨dq2, osq2⟩, hw''⟩ := hw'
   subst hw''
   have b11 := below_regrown w2 dq2 osq2
   generalize grow (redrawn w2 dq2) osq2 = w6 at *
   clear qa0 qa1 qa2 qb0 qb1 qb2
   have k3 := kept_of_below b11 k3
   have k4 := kept_of_below b11 k4
   have bX := bX.trans (b11.mono bX.size)
   clear BT
   obtain ⟨n0, n1, n2⟩ := bl3_ k4
   have HE := hide (show nodeT s p r 9 es et ei [⟨ak, aq, an⟩, ⟨bk, bq, bn⟩] = (⟨0, 0, ⟨#[]⟩⟩, 16) from by show whereT (decide (ak = 5) && decide ((⟨bk, bq, bn⟩ : T3) = ⟨aq, 0, an⟩)) 1 = _; rw [decide_eq_true (unhide Hh1), decide_eq_false (unhide Hh0)]; rfl)
   obtain ⟨z0, z1, z2⟩ := bl3_ k3
   have zf : ∀ o, w6.frozen? ⟨w.heap.size + 2, o, none⟩ = false := fun o => Lib.frozen_of_heap k3 o
   have HQ := hide (set3_all (.int .i64 0) (.int .i64 0) (.string ⟨#[]⟩) k3 bX (Nat.le_add_right _ 2))
   go_wp2
   obtain ⟨q0, q1, q2, qb⟩ := unhide HQ
   exact bodyPost_ret (v := .tuple #[.agg #[.int .i64 0, .int .i64 0, .string ⟨#[]⟩], .int .i64 16]) (by simp [results, Try.results43, go_sem, q0, q1, q2]) rfl ⟨by rw [unhide HE]; rfl, qb⟩
 ·have gh1 : (ak == 5) = false := by simpa using h1
  have nh1 : (ak != 5) = true := by simpa using h1
  have Hh1 := hide h1
  clear h1
  have qa0 := cell_regrown a0
  have qa1 := cell_regrown a1
  have qa2 := cell_regrown a2
  have qb0 := cell_regrown b0
  have qb1 := cell_regrown b1
  have qb2 := cell_regrown b2
  clear a0 a1 a2 b0 b1 b2
  refine wp_region_quiet_below (by kernel_rfl) (by kernel_rfl) ?_
  repeat (first | go_big_quiet_step (fail) | quiet_step (fail))
  refine wpQuiet_nil ?_
  intro _ hw'
  obtain ⟨⟨dq2, osq2⟩, hw''⟩ := hw'
  subst hw''
  have b11 := below_regrown w2 dq2 osq2
  generalize grow (redrawn w2 dq2) osq2 = w6 at *
  clear qa0 qa1 qa2 qb0 qb1 qb2
  have k3 := kept_of_below b11 k3
  have k4 := kept_of_below b11 k4
  have bX := bX.trans (b11.mono bX.size)
  obtain ⟨n0, n1, n2⟩ := bl3_ k4
  have HE := hide (show nodeT s p r 9 es et ei [⟨ak, aq, an⟩, ⟨bk, bq, bn⟩] = (⟨0, 0, ⟨#[]⟩⟩, 16) from by show whereT (decide (ak = 5) && decide ((⟨bk, bq, bn⟩ : T3) = ⟨aq, 0, an⟩)) 1 = _; rw [decide_eq_false (unhide Hh1)]; rfl)
  obtain ⟨z0, z1, z2⟩ := bl3_ k3
  have zf : ∀ o, w6.frozen? ⟨w.heap.size + 2, o, none⟩ = false := fun o => Lib.frozen_of_heap k3 o
  have HQ := hide (set3_all (.int .i64 0) (.int .i64 0) (.string ⟨#[]⟩) k3 bX (Nat.le_add_right _ 2))
  go_wp2
  obtain ⟨q0, q1, q2, qb⟩ := unhide HQ
  exact bodyPost_ret (v := .tuple #[.agg #[.int .i64 0, .int .i64 0, .string ⟨#[]⟩], .int .i64 16]) (by simp [results, Try.results43, go_sem, q0, q1, q2]) rfl ⟨by rw [unhide HE]; rfl, qb⟩
end Go.Proofs.Ytagnbpobcijakaa

namespace Go.Proofs.Ytagnbpobcijakaa
open Go.RowKit Go.Sort

set_option maxHeartbeats 8000000 in
set_option maxRecDepth 1000000 in
theorem rown_25 (s : SP) (v : Value) (p r : ByteArray) (eb : Bool) (en : Int) (es et ei : ByteArray) (elo : Option Addr) (ell elc : Nat) (ak aq : Int) (an : ByteArray) (bk bq : Int) (bn : ByteArray) (ck cq : Int) (cn : ByteArray) (lo : Option Addr) (cap : Nat) (w : World) (_hsm : SmS s) (hs : IsST w v s) (hr : RowT3 w lo [⟨ak, aq, an⟩, ⟨bk, bq, bn⟩, ⟨ck, cq, cn⟩]) : Calls Try.prog 43 #[v, .agg #[.int .i64 25, .bool eb, .int .i64 en, .string es, .string et, .string ei, .slice elo ell elc], .slice lo 3 cap] w fun e w' => e = .returned (nodeT s p r 25 es et ei [⟨ak, aq, an⟩, ⟨bk, bq, bn⟩, ⟨ck, cq, cn⟩]).ret ∧ Below w.heap.size w w' := by
 obtain ⟨ko, kc, ao, acp, rfl, _, _⟩ := hs.ex2
 obtain ⟨bX, zX, k1, k2, k3⟩ := alloc3 w (.cells #[.slice ko s.ks.length kc, .slice ao s.ac.length acp] 33) (.cells #[.int .i64 25, .bool eb, .int .i64 en, .string es, .string et, .string ei, .slice elo ell elc] 39) (.cells #[.int .i64 0, .int .i64 0, .string ⟨#[]⟩] 54)
 have HS := hide hs
 have HR := hide hr
 obtain ⟨g, off, rfl, hg, hat0⟩ := hr.get (Below.refl _ w) (show 0 < ([⟨ak, aq, an⟩, ⟨bk, bq, bn⟩, ⟨ck, cq, cn⟩] : List T3).length by simp)
 have hat0 : AtT3 w g off ⟨ak, aq, an⟩ := by simpa using hat0
 obtain ⟨a0, a1, a2⟩ := hat0
 simp only at a0 a1 a2
 obtain ⟨g', off', eg, _, hat1⟩ := hr.get (Below.refl _ w) (show 1 < ([⟨ak, aq, an⟩, ⟨bk, bq, bn⟩, ⟨ck, cq, cn⟩] : List T3).length by simp)
 cases eg
 have hat1 : AtT3 w g (off + 3) ⟨bk, bq, bn⟩ := by simpa using hat1
 obtain ⟨b0, b1, b2⟩ := hat1
 simp only at b0 b1 b2
 obtain ⟨g', off', eg, _, hat2⟩ := hr.get (Below.refl _ w) (show 2 < ([⟨ak, aq, an⟩, ⟨bk, bq, bn⟩, ⟨ck, cq, cn⟩] : List T3).length by simp)
 cases eg
 have hat2 : AtT3 w g (off + 6) ⟨ck, cq, cn⟩ := by simpa using hat2
 obtain ⟨c0, c1, c2⟩ := hat2
 simp only at c0 c1 c2
 clear hs hr
 go_enter Try.func43, Try.ntmps43
 go_upto_region 1 with fail
 generalize ((w.alloc _).alloc _).alloc _ = w1 at *
 clear zX
 have hw1 : w.heap.size ≤ w1.heap.size := bX.size
 have b2 := blw1 w1 (.cells #[.int .i64 0, .int .i64 0, .string ⟨#[]⟩] 54)
 have h2 := alloc_heap w1 (.cells #[.int .i64 0, .int .i64 0, .string ⟨#[]⟩] 54)
 have k4 := h2
 have B2 := b2
 obtain ⟨n0, n1, n2⟩ := bl3_ h2
 have nf : ∀ o, (w1.alloc (.cells #[.int .i64 0, .int .i64 0, .string ⟨#[]⟩] 54)).frozen? ⟨w1.heap.size, o, none⟩ = false := fun o => Lib.frozen_of_heap h2 o
 go_upto_region 2 with fail
 clear n0 n1 n2 nf b2 h2
 generalize w1.alloc _ = w2 at *
 have bX := bX.trans (B2.mono bX.size)
 have k1 := kept_of_below B2 k1
 have k2 := kept_of_below B2 k2
 have k3 := kept_of_below B2 k3
 have hs2 := (unhide HS).below bX
 have hr2 := (unhide HR).below bX
 clear B2
 have ce0 : w2.cell? ⟨w.heap.size + 1, 0, none⟩ = some (.int .i64 25) := lc_ k2 rfl
 have ce3 : w2.cell? ⟨w.heap.size + 1, 3, none⟩ = some (.string es) := lc_ k2 rfl
 have a0 := (bX.cell (p := ⟨g, off, none⟩) hg).trans a0
 have a1 := (bX.cell (p := ⟨g, off + 1, none⟩) hg).trans a1
 have a2 := (bX.cell (p := ⟨g, off + 2, none⟩) hg).trans a2
 have b0 := (bX.cell (p := ⟨g, off + 3, none⟩) hg).trans b0
 have b1 := (bX.cell (p := ⟨g, off + 4, none⟩) hg).trans b1
 have b2 := (bX.cell (p := ⟨g, off + 5, none⟩) hg).trans b2
 have c0 := (bX.cell (p := ⟨g, off + 6, none⟩) hg).trans c0
 have c1 := (bX.cell (p := ⟨g, off + 7, none⟩) hg).trans c1
 have c2 := (bX.cell (p := ⟨g, off + 8, none⟩) hg).trans c2
 have hg2 : g < w2.heap.size := Nat.lt_of_lt_of_le hg bX.size
 clear hs2 hr2
 go_upto_region 52 with fail
 by_cases h1 : ak = 1
 ·have gh1 : (ak == 1) = true := by simpa using h1
  have nh1 : (ak != 1) = false := by simp [h1]
  have Hh1 := hide h1
  clear h1
  have BT := binNeqT3 ⟨bk, bq, bn⟩ ⟨ck, cq, cn⟩
  simp only at BT
  by_cases h0 : (⟨bk, bq, bn⟩ : T3) = ⟨ck, cq, cn⟩
  ·simp only [decide_eq_true h0, Bool.not_true] at BT
   have Hh0 := hide h0
   clear h0
   have K0 := b0
   have K1 := b1
   have K2 := b2
   have qa0 := cell_regrown a0
   have qa1 := cell_regrown a1
   have qa2 := cell_regrown a2
   have qb0 := cell_regrown b0
   have qb1 := cell_regrown b1
   have qb2 := cell_regrown b2
   have qc0 := cell_regrown c0
   have qc1 := cell_regrown c1
   have qc2 := cell_regrown c2
   clear a0 a1 a2 b0 b1 b2 c0 c1 c2
   refine wp_region_quiet_below (by kernel_rfl) (by kernel_rfl) ?_
   repeat (first | go_big_quiet_step (fail) | quiet_step (fail))
   refine wpQuiet_nil ?_
   intro _ hw'
   obtain ⟨⟨dq2, osq2⟩, hw''⟩ := hw'
   subst hw''
   have b11 := below_regrown w2 dq2 osq2
   generalize grow (redrawn w2 dq2) osq2 = w6 at *
   clear qa0 qa1 qa2 qb0 qb1 qb2 qc0 qc1 qc2
   have k3 := kept_of_below b11 k3
   have k4 := kept_of_below b11 k4
   have bX := bX.trans (b11.mono bX.size)
   clear BT
   have b0 := (b11.cell (p := ⟨g, off + 3, none⟩) hg2).trans K0
   have b1 := (b11.cell (p := ⟨g, off + 4, none⟩) hg2).trans K1
   have b2 := (b11.cell (p := ⟨g, off + 5, none⟩) hg2).trans K2
   have HE := hide (show nodeT s p r 25 es et ei [⟨ak, aq, an⟩, ⟨bk, bq, bn⟩, ⟨ck, cq, cn⟩] = (⟨bk, bq, bn⟩, 0) from by show (if ak = 1 ∧ (⟨bk, bq, bn⟩ : T3) = ⟨ck, cq, cn⟩ then (⟨bk, bq, bn⟩, 0) else (zT, 16)) = _; exact if_pos ⟨unhide Hh1, unhide Hh0⟩)
   obtain ⟨z0, z1, z2⟩ := bl3_ k3
   have zf : ∀ o, w6.frozen? ⟨w.heap.size + 2, o, none⟩ = false := fun o => Lib.frozen_of_heap k3 o
   have HQ := hide (set3_all (.int .i64 bk) (.int .i64 bq) (.string bn) k3 bX (Nat.le_add_right _ 2))
   go_wp2
   obtain ⟨q0, q1, q2, qb⟩ := unhide HQ
   exact bodyPost_ret (v := .tuple #[.agg #[.int .i64 bk, .int .i64 bq, .string bn], .int .i64 0]) (by simp [results, Try.results43, go_sem, q0, q1, q2]) rfl ⟨by rw [unhide HE]; rfl, qb⟩
  ·simp only [decide_eq_false h0, Bool.not_false] at BT
   have Hh0 := hide h0
   clear h0
   have qa0 := cell_regrown a0
   have qa1 := cell_regrown a1
   have qa2 := cell_regrown a2
   have qb0 := cell_regrown b0
   have qb1 := cell_regrown b1
   have qb2 := cell_regrown b2
   have qc0 := cell_regrown c0
   have qc1 := cell_regrown c1
   have qc2 := cell_regrown c2
   clear a0 a1 a2 b0 b1 b2 c0 c1 c2
   refine wp_region_quiet_below (by kernel_rfl) (by kernel_rfl) ?_
   repeat (first | go_big_quiet_step (fail) | quiet_step (fail))
   refine wpQuiet_nil ?_
   intro _ hw'
   obtain ⟨⟨dq2, osq2⟩, hw''⟩ := hw'
   subst hw''
   have b11 := below_regrown w2 dq2 osq2
   generalize grow (redrawn w2 dq2) osq2 = w6 at *
   clear qa0 qa1 qa2 qb0 qb1 qb2 qc0 qc1 qc2
   have k3 := kept_of_below b11 k3
   have k4 := kept_of_below b11 k4
   have bX := bX.trans (b11.mono bX.size)
   clear BT
   obtain ⟨n0, n1, n2⟩ := bl3_ k4
   have HE := hide (show nodeT s p r 25 es et ei [⟨ak, aq, an⟩, ⟨bk, bq, bn⟩, ⟨ck, cq, cn⟩] = (⟨0, 0, ⟨#[]⟩⟩, 16) from by show (if ak = 1 ∧ (⟨bk, bq, bn⟩ : T3) = ⟨ck, cq, cn⟩ then (⟨bk, bq, bn⟩, 0) else (zT, 16)) = _; exact if_neg (fun h => unhide Hh0 h.2))
   obtain ⟨z0, z1, z2⟩ := bl3_ k3
   have zf : ∀ o, w6.frozen? ⟨w.heap.size + 2, o, none⟩ = false := fun o => Lib.frozen_of_heap k3 o
   have HQ := hide (set3_all (.int .i64 0) (.int .i64 0) (.string ⟨#[]⟩) k3 bX (Nat.le_add_right _ 2))
   go_wp2
   obtain ⟨q0, q1, q2, qb⟩ := unhide HQ
   exact bodyPost_ret (v := .tuple #[.agg #[.int .i64 0, .int .i64 0, .string ⟨#[]⟩], .int .i64 16]) (by simp [results, Try.results43, go_sem, q0, q1, q2]) rfl ⟨by rw [unhide HE]; rfl, qb⟩
 ·have gh1 : (ak == 1) = false := by simpa using h1
  have nh1 : (ak != 1) = true := by simpa using h1
  have Hh1 := hide h1
  clear h1
  have qa0 := cell_regrown a0
  have qa1 := cell_regrown a1
  have qa2 := cell_regrown a2
  have qb0 := cell_regrown b0
  have qb1 := cell_regrown b1
  have qb2 := cell_regrown b2
  have qc0 := cell_regrown c0
  have qc1 := cell_regrown c1
  have qc2 := cell_regrown c2
  clear a0 a1 a2 b0 b1 b2 c0 c1 c2
  refine wp_region_quiet_below (by kernel_rfl) (by kernel_rfl) ?_
  repeat (first | go_big_quiet_step (fail) | quiet_step (fail))
  refine wpQuiet_nil ?_
  intro _ hw'
  obtain ⟨⟨dq2, osq2⟩, hw''⟩ := hw'
  subst hw''
  have b11 := below_regrown w2 dq2 osq2
  generalize grow (redrawn w2 dq2) osq2 = w6 at *
  clear qa0 qa1 qa2 qb0 qb1 qb2 qc0 qc1 qc2
  have k3 := kept_of_below b11 k3
  have k4 := kept_of_below b11 k4
  have bX := bX.trans (b11.mono bX.size)
  obtain ⟨n0, n1, n2⟩ := bl3_ k4
  have HE := hide (show nodeT s p r 25 es et ei [⟨ak, aq, an⟩, ⟨bk, bq, bn⟩, ⟨ck, cq, cn⟩] = (⟨0, 0, ⟨#[]⟩⟩, 16) from by show (if ak = 1 ∧ (⟨bk, bq, bn⟩ : T3) = ⟨ck, cq, cn⟩ then (⟨bk, bq, bn⟩, 0) else (zT, 16)) = _; exact if_neg (fun h => unhide Hh1 h.1))
  obtain ⟨z0, z1, z2⟩ := bl3_ k3
  have zf : ∀ o, w6.frozen? ⟨w.heap.size + 2, o, none⟩ = false := fun o => Lib.frozen_of_heap k3 o
  have HQ := hide (set3_all (.int .i64 0) (.int .i64 0) (.string ⟨#[]⟩) k3 bX (Nat.le_add_right _ 2))
  go_wp2
  obtain ⟨q0, q1, q2, qb⟩ := unhide HQ
  exact bodyPost_ret (v := .tuple #[.agg #[.int .i64 0, .int .i64 0, .string ⟨#[]⟩], .int .i64 16]) (by simp [results, Try.results43, go_sem, q0, q1, q2]) rfl ⟨by rw [unhide HE]; rfl, qb⟩
end Go.Proofs.Ytagnbpobcijakaa

namespace Go.Proofs.Ytagnbpobcijakaa
open Go.RowKit Go.Sort

def gfSp (sv rv : Value) (b off : Nat) (x : ByteArray) (is : Bool) (Q : World → N3 → Prop) : Nat → Value → World → Prop
 | 0, v, _ => v = sv
 | 1, v, _ => v = rv
 | 2, v, _ => v = .pointer (some ⟨b, off, none⟩)
 | 3, v, _ => v = .pointer (some ⟨b, off + 2, none⟩)
 | 4, v, _ => v = .string x
 | 5, v, w => ∃ y : N3, v = .tuple #[.agg #[.string y.nm, .slice y.ao y.al y.ac, .slice y.bo y.bl y.bc], .bool is] ∧ Q w y
 | 6, v, w => ∃ y : N3, v = .tuple #[.agg #[.string y.nm, .slice y.ao y.al y.ac, .slice y.bo y.bl y.bc], .bool is] ∧ Q w y
 | 7, v, w => ∃ y : N3, v = .agg #[.string y.nm, .slice y.ao y.al y.ac, .slice y.bo y.bl y.bc] ∧ Q w y
 | 8, v, _ => v = .bool is
 | 11, v, _ => v = .bool is
 | 9, _, _ => True
 | 10, _, _ => True
 | _ + 12, _, _ => True
theorem gfSp_up {sv rv : Value} {b off : Nat} {x : ByteArray} {is : Bool} {Q : World → N3 → Prop} {w w' : World} (hQ : ∀ w w' y, KeepSF w w' → Q w y → Q w' y) (hk : KeepSF w w') : ∀ q u, gfSp sv rv b off x is Q q u w → gfSp sv rv b off x is Q q u w'
 | 0, _, h | 1, _, h | 2, _, h | 3, _, h | 4, _, h | 8, _, h | 9, _, h | 10, _, h | 11, _, h => h
 | 5, _, ⟨y, e, h⟩ => ⟨y, e, hQ _ _ _ hk h⟩
 | 6, _, ⟨y, e, h⟩ => ⟨y, e, hQ _ _ _ hk h⟩
 | 7, _, ⟨y, e, h⟩ => ⟨y, e, hQ _ _ _ hk h⟩
 | _ + 12, _, _ => trivial
theorem kOf_none {s : SP} {n : ByteArray} (h : noneB s.names n = true) : kOf s n = ⟨⟨#[]⟩, [], []⟩ := by
 unfold kOf
 rw [find_noneK KP.nm n s.ks (fun hm => by
  have : noneB s.names n = false := noneB_false hm
  rw [this] at h
  cases h)]
 rfl
theorem fieldT_eq (s : SP) (a n : ByteArray) : fieldT s a n = if (fldT (kOf s a).fs n).2 then ((fldT (kOf s a).fs n).1, 0) else (zT, 15) := by
 unfold fieldT
 by_cases h : noneB s.names a = true
 ·rw [if_pos h, kOf_none h]
  rfl
 ·rw [if_neg h]
theorem fld_len {s : SP} (hsm : SmS s) (n : ByteArray) : (kOf s n).fs.length ≤ 281474976710656 := by
 rcases kOf_mem s n with hm | hm
 ·have := (hsm.k _ hm).2
  omega
 ·rw [hm]
  exact Nat.zero_le _
set_option maxHeartbeats 8000000 in
set_option maxRecDepth 1000000 in
theorem rown_7 (s : SP) (v : Value) (p r : ByteArray) (eb : Bool) (en : Int) (es et ei : ByteArray) (elo : Option Addr) (ell elc : Nat) (ak aq : Int) (an : ByteArray) (lo : Option Addr) (cap : Nat) (w : World) (hsm : SmS s) (hs : IsST w v s) (hna : noneB s.names ⟨#[65, 99, 116, 105, 111, 110]⟩ = true) (hr : RowT3 w lo [⟨ak, aq, an⟩]) : Calls Try.prog 43 #[v, .agg #[.int .i64 7, .bool eb, .int .i64 en, .string es, .string et, .string ei, .slice elo ell elc], .slice lo 1 cap] w fun e w' => e = .returned (nodeT s p r 7 es et ei [⟨ak, aq, an⟩]).ret ∧ Below w.heap.size w w' := by
 obtain ⟨ko, kc, ao, acp, rfl, _, _⟩ := hs.ex2
 obtain ⟨bX, zX, k1, k2, k3⟩ := alloc3 w (.cells #[.slice ko s.ks.length kc, .slice ao s.ac.length acp] 33) (.cells #[.int .i64 7, .bool eb, .int .i64 en, .string es, .string et, .string ei, .slice elo ell elc] 39) (.cells #[.int .i64 0, .int .i64 0, .string ⟨#[]⟩] 54)
 have HS := hide hs
 have HR := hide hr
 obtain ⟨g, off, rfl, hg, hat0⟩ := hr.get (Below.refl _ w) (show 0 < ([⟨ak, aq, an⟩] : List T3).length by simp)
 have hat0 : AtT3 w g off ⟨ak, aq, an⟩ := by simpa using hat0
 obtain ⟨a0, a1, a2⟩ := hat0
 simp only at a0 a1 a2
 clear hs hr
 go_enter Try.func43, Try.ntmps43
 go_upto_region 1 with fail
 generalize ((w.alloc _).alloc _).alloc _ = w1 at *
 clear zX
 have hw1 : w.heap.size ≤ w1.heap.size := bX.size
 have b2 := blw1 w1 (.cells #[.int .i64 0, .int .i64 0, .string ⟨#[]⟩] 54)
 have h2 := alloc_heap w1 (.cells #[.int .i64 0, .int .i64 0, .string ⟨#[]⟩] 54)
 have k4 := h2
 have B2 := b2
 obtain ⟨n0, n1, n2⟩ := bl3_ h2
 have nf : ∀ o, (w1.alloc (.cells #[.int .i64 0, .int .i64 0, .string ⟨#[]⟩] 54)).frozen? ⟨w1.heap.size, o, none⟩ = false := fun o => Lib.frozen_of_heap h2 o
 go_upto_region 2 with fail
 clear n0 n1 n2 nf b2 h2
 generalize w1.alloc _ = w2 at *
 have bX := bX.trans (B2.mono bX.size)
 have k1 := kept_of_below B2 k1
 have k2 := kept_of_below B2 k2
 have k3 := kept_of_below B2 k3
 have hs2 := (unhide HS).below bX
 have hr2 := (unhide HR).below bX
 clear B2
 have ce0 : w2.cell? ⟨w.heap.size + 1, 0, none⟩ = some (.int .i64 7) := lc_ k2 rfl
 have ce3 : w2.cell? ⟨w.heap.size + 1, 3, none⟩ = some (.string es) := lc_ k2 rfl
 have a0 := (bX.cell (p := ⟨g, off, none⟩) hg).trans a0
 have a1 := (bX.cell (p := ⟨g, off + 1, none⟩) hg).trans a1
 have a2 := (bX.cell (p := ⟨g, off + 2, none⟩) hg).trans a2
 by_cases h1 : ak = 4
 ·subst h1
  have hQK : ∀ (w w' : World) (y : N3), KeepSF w w' → IsKT w y (kOf s an) → IsKT w' y (kOf s an) := fun _ _ _ hk h => h.turn hk
  have CK := fun w' (hb : Below w2.heap.size w2 w') => (rKindT_any s _ an w' hsm.ks (hs2.below hb)).mono (fun e w9 h => And.intro (found_k h.1) h.2)
  generalize (!noneB s.names an) = is at *
  have hg2 : g < w2.heap.size := Nat.lt_of_lt_of_le hg bX.size
  go_upto_region 18 with fail
  refine wp_specsD (gfSp (.agg #[.slice ko s.ks.length kc, .slice ao s.ac.length acp]) (.slice (some ⟨g, off, none⟩) 1 cap) g off an is (fun w y => IsKT w y (kOf s an))) (GK 10 w2 80 (fun w y => IsKT w y (kOf s an))) (by kernel_rfl) (by kernel_rfl) (by kernel_rfl) (GK.start _ w2) ?_ ?_ ?_
  ·intro q o d ho hd L a' w' hL hw hRR hdep hslot hsz K hK
   have hqN : q < 12 := dstOf_lt hd
   have hR := hRR.below
   have HBw := kept_of_below hR k1
   obtain ⟨cb0, cb1⟩ := bl2_ HBw
   have cx := (hR.cell (p := ⟨g, off + 2, none⟩) hg2).trans a2
   clear HBw
   have hs3 : a'.tmps.getD 3 undef = .pointer (some ⟨w.heap.size, 0, none⟩) := hslot 3 (fun q h => by have hl := dstOf_lt h; match q, hl with | 0, _ => cases h | 1, _ => cases h | 2, _ => cases h | 3, _ => cases h | 4, _ => cases h | 5, _ => cases h | 6, _ => cases h | 7, _ => cases h | 8, _ => cases h | 9, _ => cases h | 10, _ => cases h | 11, _ => cases h)
   have hs2 : a'.tmps.getD 2 undef = .slice (some ⟨g, off, none⟩) 1 cap := hslot 2 (fun q h => by have hl := dstOf_lt h; match q, hl with | 0, _ => cases h | 1, _ => cases h | 2, _ => cases h | 3, _ => cases h | 4, _ => cases h | 5, _ => cases h | 6, _ => cases h | 7, _ => cases h | 8, _ => cases h | 9, _ => cases h | 10, _ => cases h | 11, _ => cases h)
   have hc : q = 0 ∨ q = 1 ∨ q = 2 ∨ q = 3 ∨ q = 4 ∨ q = 5 ∨ q = 6 ∨ q = 7 ∨ q = 8 ∨ q = 9 ∨ q = 10 ∨ q = 11 := by omega
   rcases hc with rfl | rfl | rfl | rfl | rfl | rfl | rfl | rfl | rfl | rfl | rfl | rfl
   ·cases ho
    cases hd
    have e0 := hs3
    clear cx
    unfold Oper.wp
    go_simp
    exact hK _ _ rfl (GK.step (Q := fun w y => IsKT w y (kOf s an)) (s := 10) hQK hRR (Below.refl _ w') 0 69 _ (by decide) (by decide) (by decide)) (fun _ _ h => h)
   ·cases ho
    cases hd
    have e0 := hs2
    clear cb0 cb1 cx
    unfold Oper.wp
    go_simp
    exact hK _ _ rfl (GK.step (Q := fun w y => IsKT w y (kOf s an)) (s := 10) hQK hRR (Below.refl _ w') 1 70 _ (by decide) (by decide) (by decide)) (fun _ _ h => h)
   ·cases ho
    cases hd
    have e0 : a'.tmps.getD 70 undef = .slice (some ⟨g, off, none⟩) 1 cap := hdep 1 70 rfl (by kernel_rfl)
    have e0' := gd_ e0
    clear cb0 cb1 cx
    unfold Oper.wp
    go_simp
    exact hK _ _ rfl (GK.step (Q := fun w y => IsKT w y (kOf s an)) (s := 10) hQK hRR (Below.refl _ w') 2 71 _ (by decide) (by decide) (by decide)) (fun _ _ h => h)
   ·cases ho
    cases hd
    have e0 : a'.tmps.getD 71 undef = .pointer (some ⟨g, off, none⟩) := hdep 2 71 rfl (by kernel_rfl)
    have e0' := gd_ e0
    clear cb0 cb1 cx
    unfold Oper.wp
    go_simp
    exact hK _ _ rfl (GK.step (Q := fun w y => IsKT w y (kOf s an)) (s := 10) hQK hRR (Below.refl _ w') 3 72 _ (by decide) (by decide) (by decide)) (fun _ _ h => h)
   ·cases ho
    cases hd
    have e0 : a'.tmps.getD 72 undef = .pointer (some ⟨g, off + 2, none⟩) := hdep 3 72 rfl (by kernel_rfl)
    have e0' := gd_ e0
    clear cb0 cb1
    unfold Oper.wp
    go_simp
    exact hK _ _ rfl (GK.step (Q := fun w y => IsKT w y (kOf s an)) (s := 10) hQK hRR (Below.refl _ w') 4 73 _ (by decide) (by decide) (by decide)) (fun _ _ h => h)
   ·cases ho
    cases hd
    have e0 : a'.tmps.getD 69 undef = .agg #[.slice ko s.ks.length kc, .slice ao s.ac.length acp] := hdep 0 69 rfl (by kernel_rfl)
    have e0' := gd_ e0
    have e1 : a'.tmps.getD 73 undef = .string an := hdep 4 73 rfl (by kernel_rfl)
    have e1' := gd_ e1
    clear cb0 cb1 cx
    unfold Oper.wp
    go_simp
    refine (CK w' hR).mono ?_
    rintro e w9 ⟨⟨y, rfl, hy⟩, b9⟩
    exact hK _ _ ⟨y, rfl, hy⟩ (GK.step (Q := fun w y => IsKT w y (kOf s an)) (s := 10) hQK hRR b9 5 74 _ (by decide) (by decide) (by decide)) (gfSp_up (Q := fun w y => IsKT w y (kOf s an)) hQK (.of_below b9))
   ·cases ho
    cases hd
    obtain ⟨y, e1, hy⟩ : gfSp (.agg #[.slice ko s.ks.length kc, .slice ao s.ac.length acp]) (.slice (some ⟨g, off, none⟩) 1 cap) g off an is (fun w y => IsKT w y (kOf s an)) 5 (a'.tmps.getD 74 undef) w' := hdep 5 74 rfl (by kernel_rfl)
    have e1' := gd_ e1
    have Hy := hide hy
    clear hy
    clear cb0 cb1 cx
    unfold Oper.wp
    go_simp
    exact hK _ _ ⟨y, rfl, unhide Hy⟩ (GK.step (Q := fun w y => IsKT w y (kOf s an)) (s := 10) hQK hRR (Below.refl _ w') 6 68 _ (by decide) (by decide) (by decide)) (fun _ _ h => h)
   ·cases ho
    cases hd
    obtain ⟨y, e1, hy⟩ : gfSp (.agg #[.slice ko s.ks.length kc, .slice ao s.ac.length acp]) (.slice (some ⟨g, off, none⟩) 1 cap) g off an is (fun w y => IsKT w y (kOf s an)) 6 (a'.tmps.getD 68 undef) w' := hdep 6 68 rfl (by kernel_rfl)
    have e1' := gd_ e1
    have Hy := hide hy
    clear hy
    clear cb0 cb1 cx
    unfold Oper.wp
    go_simp
    exact hK _ _ ⟨y, rfl, unhide Hy⟩ (GK.step (Q := fun w y => IsKT w y (kOf s an)) (s := 10) hQK hRR (Below.refl _ w') 7 75 _ (by decide) (by decide) (by decide)) (fun _ _ h => h)
   ·cases ho
    cases hd
    obtain ⟨y, e1, hy⟩ : gfSp (.agg #[.slice ko s.ks.length kc, .slice ao s.ac.length acp]) (.slice (some ⟨g, off, none⟩) 1 cap) g off an is (fun w y => IsKT w y (kOf s an)) 6 (a'.tmps.getD 68 undef) w' := hdep 6 68 rfl (by kernel_rfl)
    have e1' := gd_ e1
    have Hy := hide hy
    clear hy
    clear cb0 cb1 cx
    unfold Oper.wp
    go_simp
    exact hK _ _ rfl (GK.step (Q := fun w y => IsKT w y (kOf s an)) (s := 10) hQK hRR (Below.refl _ w') 8 76 _ (by decide) (by decide) (by decide)) (fun _ _ h => h)
   ·cases ho
    cases hd
    clear cb0 cb1 cx
    unfold Oper.wp
    go_simp
    exact hK _ _ trivial (hRR.alloc hL (by rw [hsz]; first | decide | simp)) (gfSp_up (Q := fun w y => IsKT w y (kOf s an)) hQK (.of_below (blw1 _ _)))
   ·cases hd
   ·cases ho
    cases hd
    have e0 : a'.tmps.getD 76 undef = .bool is := hdep 8 76 rfl (by kernel_rfl)
    have e0' := gd_ e0
    clear cb0 cb1 cx
    unfold Oper.wp
    go_simp
    exact hK _ _ rfl (GK.step (Q := fun w y => IsKT w y (kOf s an)) (s := 10) hQK hRR (Below.refl _ w') 11 11 _ (by decide) (by decide) (by decide)) (fun _ _ h => h)
  ·intro q o ho hd L a' w' hL hw hRR hdep K hK
   have hqN : q < 12 := (List.getElem?_eq_some_iff.1 ho).1
   have hR := hRR.below
   have HBw := kept_of_below hR k1
   obtain ⟨cb0, cb1⟩ := bl2_ HBw
   have cx := (hR.cell (p := ⟨g, off + 2, none⟩) hg2).trans a2
   clear HBw
   have hc : q = 0 ∨ q = 1 ∨ q = 2 ∨ q = 3 ∨ q = 4 ∨ q = 5 ∨ q = 6 ∨ q = 7 ∨ q = 8 ∨ q = 9 ∨ q = 10 ∨ q = 11 := by omega
   rcases hc with rfl | rfl | rfl | rfl | rfl | rfl | rfl | rfl | rfl | rfl | rfl | rfl
   ·cases hd
   ·cases hd
   ·cases hd
   ·cases hd
   ·cases hd
   ·cases hd
   ·cases hd
   ·cases hd
   ·cases hd
   ·cases hd
   ·cases ho
    obtain ⟨y, e1, hy⟩ : gfSp (.agg #[.slice ko s.ks.length kc, .slice ao s.ac.length acp]) (.slice (some ⟨g, off, none⟩) 1 cap) g off an is (fun w y => IsKT w y (kOf s an)) 7 (a'.tmps.getD 75 undef) w' := hdep 7 75 rfl (by kernel_rfl)
    have e1' := gd_ e1
    have Hy := hide hy
    clear hy
    obtain ⟨V, eV, hVz, hS, hkf⟩ := GK.store (Q := fun w y => IsKT w y (kOf s an)) (.inl rfl) hQK hRR (hw 9 (by kernel_rfl)) hL y (unhide Hy)
    obtain ⟨d0, d1, d2⟩ := bl3_ hVz
    have df : ∀ o, w'.frozen? ⟨V, o, none⟩ = false := fun o => Lib.frozen_of_heap hVz o
    have HS := hide (And.intro hS hkf)
    clear hVz cb0 cb1 cx hS hkf
    unfold Oper.wp
    go_simp
    exact hK _ (unhide HS).1 (gfSp_up (Q := fun w y => IsKT w y (kOf s an)) hQK (unhide HS).2) undef
   ·cases hd
  ·intro v L w' hLa hRR hv
   have bq := hRR.below
   obtain ⟨V, y, eV, hVw, hV, hy⟩ := hRR.full (hLa 10 (by decide))
   have f0 : v 0 = _ := (hv 0 69 rfl).1
   have f1 : v 1 = _ := (hv 1 70 rfl).1
   have f2 : v 2 = _ := (hv 2 71 rfl).1
   have f3 : v 3 = _ := (hv 3 72 rfl).1
   have f4 : v 4 = _ := (hv 4 73 rfl).1
   have f8 : v 8 = _ := (hv 8 76 rfl).1
   have f9 : v 9 = .pointer (some ⟨V, 0, none⟩) := ((hv 9 10 rfl).2).symm.trans eV
   have f11 : v 11 = .bool is := (hv 11 11 rfl).1
   clear hRR hv hLa eV
   simp only [putAll, dstOf, List.getElem?_cons_zero, List.getElem?_cons_succ, Option.bind_some, List.length_cons, List.length_nil, f0, f1, f2, f3, f4, f8, f9, f11]
   clear f0 f1 f2 f3 f4 f8 f9 f11
   simp only [Act.put, List.setIfInBounds_toArray, List.set_cons_succ, List.set_cons_zero]
   generalize v 5 = v5
   generalize v 6 = v6
   generalize v 7 = v7
   generalize v 10 = v10
   obtain ⟨w6, hw6⟩ : ∃ q, q = w' := ⟨_, rfl⟩
   subst hw6
   have bX6 := bX.trans (bq.mono bX.size)
   have k16 := kept_of_below bq k1
   have k36 := kept_of_below bq k3
   have k46 := kept_of_below bq k4
   have e6 : w6.cell? ⟨w.heap.size + 1, 3, none⟩ = some (.string es) := (bq.cell (p := ⟨w.heap.size + 1, 3, none⟩) (by have := (Array.getElem?_eq_some_iff.1 k2).1; exact this)).trans ce3
   have C := rField_any (kOf s an) y es w6 (fld_len hsm an) hy.is
   have HE : nodeT s p r 7 es et ei [⟨4, aq, an⟩] = if (fldT (kOf s an).fs es).2 then ((fldT (kOf s an).fs es).1, 0) else (zT, 15) := by
    rw [← fieldT_eq]
    rfl
   have HN : (fldT (kOf s an).fs es).2 = true → an ≠ ⟨#[65, 99, 116, 105, 111, 110]⟩ := fun h e => by
    rw [e, kOf_none hna] at h
    cases h
   rw [fldV_T] at C
   obtain ⟨x, hx⟩ : ∃ x, x = fldT (kOf s an).fs es := ⟨_, rfl⟩
   rw [← hx] at C HE HN
   obtain ⟨⟨xk, xo, xn⟩, xb⟩ := x
   simp only at C HE HN
   have HE := hide HE
   clear hx hs2 hr2 CK hQK ce0 ce3 a0 a1 hy
   unfold N3.val at C
   obtain ⟨v0, v1, v2⟩ := bl3_ hV
   have HNh := hide HN
   clear HN
   go_wp2_with fail
   refine C.mono ?_
   clear C v0 v1 v2
   rintro e9 w7 ⟨rfl, b7⟩
   have b8 := blw1 w7 (.cells #[.int .i64 xk, .int .i64 xo, .string xn] 54)
   have h8 := alloc_heap w7 (.cells #[.int .i64 xk, .int .i64 xo, .string xn] 54)
   have b68 := b7.trans (b8.mono b7.size)
   have bX8 := bX6.trans (b68.mono bX6.size)
   have k38 := kept_of_below b68 k36
   have k48 := kept_of_below b68 k46
   have aa2 := ((bq.trans (b68.mono bq.size)).cell (p := ⟨g, off + 2, none⟩) hg2).trans a2
   clear a2
   go_upto_region 20 with fail
   generalize w7.alloc _ = w8 at *
   cases xb
   ·have HE := hide (show nodeT s p r 7 es et ei [⟨4, aq, an⟩] = (zT, 15) from unhide HE)
    obtain ⟨n0, n1, n2⟩ := bl3_ k48
    have HE := hide (show nodeT s p r 7 es et ei [⟨4, aq, an⟩] = (⟨0, 0, ⟨#[]⟩⟩, 15) from unhide HE)
    obtain ⟨z0, z1, z2⟩ := bl3_ k38
    have zf : ∀ o, w8.frozen? ⟨w.heap.size + 2, o, none⟩ = false := fun o => Lib.frozen_of_heap k38 o
    have HQ := hide (set3_all (.int .i64 0) (.int .i64 0) (.string ⟨#[]⟩) k38 bX8 (Nat.le_add_right _ 2))
    go_wp2
    obtain ⟨q0, q1, q2, qb⟩ := unhide HQ
    exact bodyPost_ret (v := .tuple #[.agg #[.int .i64 0, .int .i64 0, .string ⟨#[]⟩], .int .i64 15]) (by simp [results, Try.results43, go_sem, q0, q1, q2]) rfl ⟨by rw [unhide HE]; rfl, qb⟩
   ·have ga : (an.toList == [65, 99, 116, 105, 111, 110]) = false := lit_ne (by decide) (unhide HNh rfl)
    obtain ⟨t0, t1, t2⟩ := bl3_ h8
    have HE := hide (show nodeT s p r 7 es et ei [⟨4, aq, an⟩] = (⟨xk, xo, xn⟩, 0) from unhide HE)
    obtain ⟨z0, z1, z2⟩ := bl3_ k38
    have zf : ∀ o, w8.frozen? ⟨w.heap.size + 2, o, none⟩ = false := fun o => Lib.frozen_of_heap k38 o
    have HQ := hide (set3_all (.int .i64 xk) (.int .i64 xo) (.string xn) k38 bX8 (Nat.le_add_right _ 2))
    go_wp2
    obtain ⟨q0, q1, q2, qb⟩ := unhide HQ
    exact bodyPost_ret (v := .tuple #[.agg #[.int .i64 xk, .int .i64 xo, .string xn], .int .i64 0]) (by simp [results, Try.results43, go_sem, q0, q1, q2]) rfl ⟨by first | rfl | (rw [unhide HE]; rfl), qb⟩
 ·have gh1 : (ak == 4) = false := by simpa using h1
  have nh1 : (ak != 4) = true := by simpa using h1
  have Hh1 := hide h1
  clear h1 hs2 hr2
  obtain ⟨n0, n1, n2⟩ := bl3_ k4
  have HE := hide (show nodeT s p r 7 es et ei [⟨ak, aq, an⟩] = (⟨0, 0, ⟨#[]⟩⟩, 16) from by show (if ak = 4 then _ else _) = _; exact if_neg (unhide Hh1))
  obtain ⟨z0, z1, z2⟩ := bl3_ k3
  have zf : ∀ o, w2.frozen? ⟨w.heap.size + 2, o, none⟩ = false := fun o => Lib.frozen_of_heap k3 o
  have HQ := hide (set3_all (.int .i64 0) (.int .i64 0) (.string ⟨#[]⟩) k3 bX (Nat.le_add_right _ 2))
  go_wp2
  obtain ⟨q0, q1, q2, qb⟩ := unhide HQ
  exact bodyPost_ret (v := .tuple #[.agg #[.int .i64 0, .int .i64 0, .string ⟨#[]⟩], .int .i64 16]) (by simp [results, Try.results43, go_sem, q0, q1, q2]) rfl ⟨by rw [unhide HE]; rfl, qb⟩
set_option maxHeartbeats 8000000 in
set_option maxRecDepth 1000000 in
theorem rown_8 (s : SP) (v : Value) (p r : ByteArray) (eb : Bool) (en : Int) (es et ei : ByteArray) (elo : Option Addr) (ell elc : Nat) (ak aq : Int) (an : ByteArray) (lo : Option Addr) (cap : Nat) (w : World) (_hsm : SmS s) (hs : IsST w v s) (hr : RowT3 w lo [⟨ak, aq, an⟩]) : Calls Try.prog 43 #[v, .agg #[.int .i64 8, .bool eb, .int .i64 en, .string es, .string et, .string ei, .slice elo ell elc], .slice lo 1 cap] w fun e w' => e = .returned (nodeT s p r 8 es et ei [⟨ak, aq, an⟩]).ret ∧ Below w.heap.size w w' := by
 obtain ⟨ko, kc, ao, acp, rfl, _, _⟩ := hs.ex2
 obtain ⟨bX, zX, k1, k2, k3⟩ := alloc3 w (.cells #[.slice ko s.ks.length kc, .slice ao s.ac.length acp] 33) (.cells #[.int .i64 8, .bool eb, .int .i64 en, .string es, .string et, .string ei, .slice elo ell elc] 39) (.cells #[.int .i64 0, .int .i64 0, .string ⟨#[]⟩] 54)
 have HS := hide hs
 have HR := hide hr
 obtain ⟨g, off, rfl, hg, hat0⟩ := hr.get (Below.refl _ w) (show 0 < ([⟨ak, aq, an⟩] : List T3).length by simp)
 have hat0 : AtT3 w g off ⟨ak, aq, an⟩ := by simpa using hat0
 obtain ⟨a0, a1, a2⟩ := hat0
 simp only at a0 a1 a2
 clear hs hr
 go_enter Try.func43, Try.ntmps43
 go_upto_region 1 with fail
 generalize ((w.alloc _).alloc _).alloc _ = w1 at *
 clear zX
 have hw1 : w.heap.size ≤ w1.heap.size := bX.size
 have b2 := blw1 w1 (.cells #[.int .i64 0, .int .i64 0, .string ⟨#[]⟩] 54)
 have h2 := alloc_heap w1 (.cells #[.int .i64 0, .int .i64 0, .string ⟨#[]⟩] 54)
 have k4 := h2
 have B2 := b2
 obtain ⟨n0, n1, n2⟩ := bl3_ h2
 have nf : ∀ o, (w1.alloc (.cells #[.int .i64 0, .int .i64 0, .string ⟨#[]⟩] 54)).frozen? ⟨w1.heap.size, o, none⟩ = false := fun o => Lib.frozen_of_heap h2 o
 go_upto_region 2 with fail
 clear n0 n1 n2 nf b2 h2
 generalize w1.alloc _ = w2 at *
 have bX := bX.trans (B2.mono bX.size)
 have k1 := kept_of_below B2 k1
 have k2 := kept_of_below B2 k2
 have k3 := kept_of_below B2 k3
 have hs2 := (unhide HS).below bX
 have hr2 := (unhide HR).below bX
 clear B2
 have ce0 : w2.cell? ⟨w.heap.size + 1, 0, none⟩ = some (.int .i64 8) := lc_ k2 rfl
 have ce3 : w2.cell? ⟨w.heap.size + 1, 3, none⟩ = some (.string es) := lc_ k2 rfl
 have a0 := (bX.cell (p := ⟨g, off, none⟩) hg).trans a0
 have a1 := (bX.cell (p := ⟨g, off + 1, none⟩) hg).trans a1
 have a2 := (bX.cell (p := ⟨g, off + 2, none⟩) hg).trans a2
 clear hs2 hr2
 by_cases h1 : ak = 4
 ·have gh1 : (ak == 4) = true := by simpa using h1
  have nh1 : (ak != 4) = false := by simp [h1]
  have Hh1 := hide h1
  clear h1
  have C := r11of_any 1 w2
  have HE := hide (show nodeT s p r 8 es et ei [⟨ak, aq, an⟩] = (⟨1, 0, ⟨#[]⟩⟩, 0) from by show whereT (decide (ak = 4)) 1 = _; rw [decide_eq_true (unhide Hh1)]; rfl)
  go_wp2_with fail
  refine C.mono ?_
  clear C
  rintro e9 w9 ⟨rfl, b9⟩
  have hV9 := kept_of_below b9 k3
  have bb9 := bX.trans (b9.mono bX.size)
  obtain ⟨z0, z1, z2⟩ := bl3_ hV9
  have zf : ∀ o, w9.frozen? ⟨w.heap.size + 2, o, none⟩ = false := fun o => Lib.frozen_of_heap hV9 o
  have HQ := hide (set3_all (.int .i64 1) (.int .i64 0) (.string ⟨#[]⟩) hV9 bb9 (Nat.le_add_right _ 2))
  go_wp2
  obtain ⟨q0, q1, q2, qb⟩ := unhide HQ
  exact bodyPost_ret (v := .tuple #[.agg #[.int .i64 1, .int .i64 0, .string ⟨#[]⟩], .int .i64 0]) (by simp [results, Try.results43, go_sem, q0, q1, q2]) rfl ⟨by rw [unhide HE]; rfl, qb⟩
 ·have gh1 : (ak == 4) = false := by simpa using h1
  have nh1 : (ak != 4) = true := by simpa using h1
  have Hh1 := hide h1
  clear h1
  obtain ⟨n0, n1, n2⟩ := bl3_ k4
  have HE := hide (show nodeT s p r 8 es et ei [⟨ak, aq, an⟩] = (⟨0, 0, ⟨#[]⟩⟩, 16) from by show whereT (decide (ak = 4)) 1 = _; rw [decide_eq_false (unhide Hh1)]; rfl)
  obtain ⟨z0, z1, z2⟩ := bl3_ k3
  have zf : ∀ o, w2.frozen? ⟨w.heap.size + 2, o, none⟩ = false := fun o => Lib.frozen_of_heap k3 o
  have HQ := hide (set3_all (.int .i64 0) (.int .i64 0) (.string ⟨#[]⟩) k3 bX (Nat.le_add_right _ 2))
  go_wp2
  obtain ⟨q0, q1, q2, qb⟩ := unhide HQ
  exact bodyPost_ret (v := .tuple #[.agg #[.int .i64 0, .int .i64 0, .string ⟨#[]⟩], .int .i64 16]) (by simp [results, Try.results43, go_sem, q0, q1, q2]) rfl ⟨by rw [unhide HE]; rfl, qb⟩
end Go.Proofs.Ytagnbpobcijakaa

namespace Go.Proofs.Ytagnbpobcijakaa
open Go.RowKit Go.Sort

theorem setT_five {a : T3} {t : List T3} (h : a.k = 5) : setT (a :: t) = (zT, 16) := if_pos h
set_option maxHeartbeats 8000000 in
set_option maxRecDepth 1000000 in
theorem rown_6 (s : SP) (v : Value) (eb : Bool) (en : Int) (es et ei : ByteArray) (elo : Option Addr) (ell elc : Nat)  (lo : Option Addr) (cap : Nat) (w : World) (_hsm : SmS s) (hs : IsST w v s) (l : List T3) (Ln : Nat) (hL : Ln = l.length) (hl : l.length ≤ 281474976710656) (hr : RowT3 w lo l) : Calls Try.prog 43 #[v, .agg #[.int .i64 6, .bool eb, .int .i64 en, .string es, .string et, .string ei, .slice elo ell elc], .slice lo Ln cap] w fun e w' => e = .returned (setT l).ret ∧ Below w.heap.size w w' := by
 obtain ⟨ko, kc, ao, acp, rfl, _, _⟩ := hs.ex2
 obtain ⟨bX, zX, k1, k2, k3⟩ := alloc3 w (.cells #[.slice ko s.ks.length kc, .slice ao s.ac.length acp] 33) (.cells #[.int .i64 6, .bool eb, .int .i64 en, .string es, .string et, .string ei, .slice elo ell elc] 39) (.cells #[.int .i64 0, .int .i64 0, .string ⟨#[]⟩] 54)
 have HS := hide hs
 have HR := hide hr
 clear hs hr
 go_enter Try.func43, Try.ntmps43
 go_upto_region 1 with fail
 generalize ((w.alloc _).alloc _).alloc _ = w1 at *
 clear zX
 have hw1 : w.heap.size ≤ w1.heap.size := bX.size
 have b2 := blw1 w1 (.cells #[.int .i64 0, .int .i64 0, .string ⟨#[]⟩] 54)
 have h2 := alloc_heap w1 (.cells #[.int .i64 0, .int .i64 0, .string ⟨#[]⟩] 54)
 have k4 := h2
 have B2 := b2
 obtain ⟨n0, n1, n2⟩ := bl3_ h2
 have nf : ∀ o, (w1.alloc (.cells #[.int .i64 0, .int .i64 0, .string ⟨#[]⟩] 54)).frozen? ⟨w1.heap.size, o, none⟩ = false := fun o => Lib.frozen_of_heap h2 o
 go_upto_region 2 with fail
 clear n0 n1 n2 nf b2 h2
 generalize w1.alloc _ = w2 at *
 have bX := bX.trans (B2.mono bX.size)
 have k1 := kept_of_below B2 k1
 have k2 := kept_of_below B2 k2
 have k3 := kept_of_below B2 k3
 have hs2 := (unhide HS).below bX
 have hr2 := (unhide HR).below bX
 clear B2
 have ce0 : w2.cell? ⟨w.heap.size + 1, 0, none⟩ = some (.int .i64 6) := lc_ k2 rfl
 have ce3 : w2.cell? ⟨w.heap.size + 1, 3, none⟩ = some (.string es) := lc_ k2 rfl
 have hLb : Ln ≤ 281474976710656 := by rw [hL]; exact hl
 have HL := hide hL
 clear hL hl hs2
 cases l with
 | nil =>
  have e0 := unhide HL
  simp only [List.length_nil] at e0
  subst e0
  clear HL hr2 HR
  have HE0 := hide (show setT [] = (⟨0, 0, ⟨#[]⟩⟩, 16) from rfl)
  go_wp2_with fail
  go_loopw [9] (fun iv wr => iv = .int .i64 0 ∧ wr = w2) (fun _ _ => 0)
  case atStart => exact ⟨by go_num, rfl⟩
  case round =>
   obtain ⟨rfl, rfl⟩ := hrel
   obtain ⟨n0, n1, n2⟩ := bl3_ k4
   have HE := hide (show setT [] = (⟨0, 0, ⟨#[]⟩⟩, 16) from unhide HE0)
   obtain ⟨z0, z1, z2⟩ := bl3_ k3
   have zf : ∀ o, wr.frozen? ⟨w.heap.size + 2, o, none⟩ = false := fun o => Lib.frozen_of_heap k3 o
   have HQ := hide (set3_all (.int .i64 0) (.int .i64 0) (.string ⟨#[]⟩) k3 bX (Nat.le_add_right _ 2))
   go_wp2
   obtain ⟨q0, q1, q2, qb⟩ := unhide HQ
   exact bodyPost_ret (v := .tuple #[.agg #[.int .i64 0, .int .i64 0, .string ⟨#[]⟩], .int .i64 16]) (by simp [results, Try.results43, go_sem, q0, q1, q2]) rfl ⟨by rw [unhide HE]; rfl, qb⟩
 | cons a t =>
  obtain ⟨g, off, rfl, hg, hat⟩ := (unhide HR).get (Below.refl _ w) (show 0 < (a :: t).length by simp)
  have hat : AtT3 w g off a := by simpa using hat
  obtain ⟨a0, a1, a2⟩ := hat
  have L0 : 0 < Ln := by rw [unhide HL]; simp
  have l0 : ((Ln : Int) == 0) = false := by
   have : ¬ (Ln : Int) = 0 := by omega
   simpa using this
  have i00 : (0 : Int) < (Ln : Int) := by omega
  have HR2 := hide hr2
  clear hr2
  go_wp2_with fail
  go_loopw [9] (fun iv wr => ∃ i : Nat, iv = .int .i64 i ∧ i ≤ Ln ∧ Below w2.heap.size w2 wr ∧ (∀ j (hj : j < (a :: t).length), j < i → (a :: t)[j] = a) ∧ (0 < i → a.k ≠ 5)) (fun iv _ => Ln - (intOf iv).toNat)
  case atStart => exact ⟨0, by go_num, Nat.zero_le _, Below.refl _ _, fun j _ h => absurd h (Nat.not_lt_zero _), fun h => absurd h (Nat.lt_irrefl _)⟩
  case round =>
   obtain ⟨i, rfl, hil, hbw, hall, h5⟩ := hrel
   have Hall := hide hall
   have H5 := hide h5
   clear hall h5
   have bXw := bX.trans (hbw.mono bX.size)
   have k3w := kept_of_below hbw k3
   have k4w := kept_of_below hbw k4
   have y0 := (bXw.cell (p := ⟨g, off, none⟩) hg).trans a0
   have y1 := (bXw.cell (p := ⟨g, off + 1, none⟩) hg).trans a1
   have y2 := (bXw.cell (p := ⟨g, off + 2, none⟩) hg).trans a2
   by_cases hlt : i < Ln
   ·have i0 : (0 : Int) ≤ (i : Int) := by omega
    have i1 : (i : Int) < (Ln : Int) := by omega
    have hlt' : i < (a :: t).length := by rw [← unhide HL]; exact hlt
    obtain ⟨g', off', eg, _, ⟨c0, c1, c2⟩⟩ := (unhide HR2).get hbw hlt'
    cases eg
    have BT := binNeqT3 (a :: t)[i] a
    have HX := hide (show ∀ z, z = (!decide ((a :: t)[i] = a)) → (z = true → setT (a :: t) = (zT, 16)) ∧ (z = false → (a :: t)[i] = a) from fun z hz => ⟨fun h => setT_not hlt' (fun e => by rw [hz, e] at h; simp at h), fun h => by rw [hz] at h; simpa using h⟩)
    have HN := hide (show ((a :: t)[i] = a) → ∀ j (hj : j < (a :: t).length), j < i + 1 → (a :: t)[j] = a from fun e j hj hji => by
     by_cases h : j < i
     ·exact unhide Hall j hj h
     ·have : j = i := by omega
      subst this
      exact e)
    obtain ⟨z, hz⟩ : ∃ z, z = (!decide ((a :: t)[i] = a)) := ⟨_, rfl⟩
    rw [← hz] at BT
    have HZ := hide (unhide HX z hz)
    clear hz HX Hall
    generalize hai : (a :: t)[i] = b at *
    clear hai hlt'
    go_upto_region 7 with fail
    cases z
    ·have hba := (unhide HZ).2 rfl
     have H5b := hide (show b.k = 5 → setT (a :: t) = (zT, 16) from fun h => setT_five (by rw [← hba]; exact h))
     have Hba := hide hba
     clear hba
     by_cases hb5 : b.k = 5
     ·have gb : (b.k == 5) = true := by simpa using hb5
      have HE := hide (unhide H5b hb5)
      clear hb5
      have qy0 := cell_regrown y0
      have qy1 := cell_regrown y1
      have qy2 := cell_regrown y2
      have qc0 := cell_regrown c0
      have qc1 := cell_regrown c1
      have qc2 := cell_regrown c2
      clear y0 y1 y2 c0 c1 c2
      refine wp_region_quiet_below (by kernel_rfl) (by kernel_rfl) ?_
      repeat (first | go_big_quiet_step (fail) | quiet_step (fail))
      refine wpQuiet_nil ?_
      intro _ hw'
      obtain ⟨⟨dq2, osq2⟩, hw''⟩ := hw'
      subst hw''
      have b11 := below_regrown wr dq2 osq2
      generalize grow (redrawn wr dq2) osq2 = w6 at *
      clear qy0 qy1 qy2 qc0 qc1 qc2
      have k3w := kept_of_below b11 k3w
      have k4w := kept_of_below b11 k4w
      have bX6 := bXw.trans (b11.mono bXw.size)
      clear BT
      obtain ⟨n0, n1, n2⟩ := bl3_ k4w
      have HE := hide (show setT (a :: t) = (⟨0, 0, ⟨#[]⟩⟩, 16) from unhide HE)
      obtain ⟨z0, z1, z2⟩ := bl3_ k3w
      have zf : ∀ o, w6.frozen? ⟨w.heap.size + 2, o, none⟩ = false := fun o => Lib.frozen_of_heap k3w o
      have HQ := hide (set3_all (.int .i64 0) (.int .i64 0) (.string ⟨#[]⟩) k3w bX6 (Nat.le_add_right _ 2))
      go_wp2
      obtain ⟨q0, q1, q2, qb⟩ := unhide HQ
      exact bodyPost_ret (v := .tuple #[.agg #[.int .i64 0, .int .i64 0, .string ⟨#[]⟩], .int .i64 16]) (by simp [results, Try.results43, go_sem, q0, q1, q2]) rfl ⟨by rw [unhide HE]; rfl, qb⟩
     ·have gb : (b.k == 5) = false := by simpa using hb5
      have Hb5 := hide hb5
      clear hb5
      have qy0 := cell_regrown y0
      have qy1 := cell_regrown y1
      have qy2 := cell_regrown y2
      have qc0 := cell_regrown c0
      have qc1 := cell_regrown c1
      have qc2 := cell_regrown c2
      clear y0 y1 y2 c0 c1 c2
      refine wp_region_quiet_below (by kernel_rfl) (by kernel_rfl) ?_
      repeat (first | go_big_quiet_step (fail) | quiet_step (fail))
      refine wpQuiet_nil ?_
      intro _ hw'
      obtain ⟨⟨dq2, osq2⟩, hw''⟩ := hw'
      subst hw''
      have b11 := below_regrown wr dq2 osq2
      generalize grow (redrawn wr dq2) osq2 = w6 at *
      clear qy0 qy1 qy2 qc0 qc1 qc2
      have k3w := kept_of_below b11 k3w
      have k4w := kept_of_below b11 k4w
      have bX6 := bXw.trans (b11.mono bXw.size)
      clear BT
      go_wp2
      go_roundw
      case rel => exact ⟨i + 1, by go_num, by omega, hbw.trans (b11.mono hbw.size), unhide HN (unhide Hba), fun _ h => unhide Hb5 (by rw [unhide Hba]; exact h)⟩
      case measure =>
       simp only [intOf]
       omega
    ·have HE := hide (show setT (a :: t) = (zT, 16) from (unhide HZ).1 rfl)
     have qy0 := cell_regrown y0
     have qy1 := cell_regrown y1
     have qy2 := cell_regrown y2
     have qc0 := cell_regrown c0
     have qc1 := cell_regrown c1
     have qc2 := cell_regrown c2
     clear y0 y1 y2 c0 c1 c2
     refine wp_region_quiet_below (by kernel_rfl) (by kernel_rfl) ?_
     repeat (first | go_big_quiet_step (fail) | quiet_step (fail))
     refine wpQuiet_nil ?_
     intro _ hw'
     obtain ⟨⟨dq2, osq2⟩, hw''⟩ := hw'
     subst hw''
     have b11 := below_regrown wr dq2 osq2
     generalize grow (redrawn wr dq2) osq2 = w6 at *
     clear qy0 qy1 qy2 qc0 qc1 qc2
     have k3w := kept_of_below b11 k3w
     have k4w := kept_of_below b11 k4w
     have bX6 := bXw.trans (b11.mono bXw.size)
     clear BT
     obtain ⟨n0, n1, n2⟩ := bl3_ k4w
     have HE := hide (show setT (a :: t) = (⟨0, 0, ⟨#[]⟩⟩, 16) from unhide HE)
     obtain ⟨z0, z1, z2⟩ := bl3_ k3w
     have zf : ∀ o, w6.frozen? ⟨w.heap.size + 2, o, none⟩ = false := fun o => Lib.frozen_of_heap k3w o
     have HQ := hide (set3_all (.int .i64 0) (.int .i64 0) (.string ⟨#[]⟩) k3w bX6 (Nat.le_add_right _ 2))
     go_wp2
     obtain ⟨q0, q1, q2, qb⟩ := unhide HQ
     exact bodyPost_ret (v := .tuple #[.agg #[.int .i64 0, .int .i64 0, .string ⟨#[]⟩], .int .i64 16]) (by simp [results, Try.results43, go_sem, q0, q1, q2]) rfl ⟨by rw [unhide HE]; rfl, qb⟩
   ·have i1 : ¬ (i : Int) < (Ln : Int) := by omega
    have HE := hide (show setT (a :: t) = (⟨5, a.k, a.n⟩, 0) from setT_all (unhide H5 (by omega)) fun j hj => unhide Hall j hj (by have := unhide HL; omega))
    have hVlt : w.heap.size + 2 < wr.heap.size := (Array.getElem?_eq_some_iff.1 k3w).1
    have hVle : w.heap.size ≤ w.heap.size + 2 := Nat.le_add_right _ _
    clear Hall
    clear k1 k2 ce0 ce3
    go_upto_region 11 with fail
    refine wp_specsD (SpL [.slice (some ⟨g, off, none⟩) Ln cap, .pointer (some ⟨g, off, none⟩), .pointer (some ⟨g, off, none⟩), .int .i64 a.k, .slice (some ⟨g, off, none⟩) Ln cap, .pointer (some ⟨g, off, none⟩), .pointer (some ⟨g, off + 2, none⟩), .string a.n, .agg #[.int .i64 5, .int .i64 a.k, .string a.n], undef, .int .i64 0]) (RS 9 6 w wr (w.heap.size + 2) (5) (a.k) (a.n)) (by kernel_rfl) (by kernel_rfl) (by kernel_rfl) (RS.start _ bXw k3w rfl) ?_ ?_ ?_
    ·intro q o d ho hd L a' w' hL hw hRR hdep hslot hsz K hK
     have hqN : q < 11 := dstOf_lt hd
     have hR := hRR.below
     have x0 := (hR.cell (p := ⟨g, off, none⟩) hg).trans a0
     have x2 := (hR.cell (p := ⟨g, off + 2, none⟩) hg).trans a2
     have hs2 : a'.tmps.getD 2 undef = .slice (some ⟨g, off, none⟩) Ln cap := hslot 2 (fun q h => by have hl := dstOf_lt h; match q, hl with | 0, _ => cases h | 1, _ => cases h | 2, _ => cases h | 3, _ => cases h | 4, _ => cases h | 5, _ => cases h | 6, _ => cases h | 7, _ => cases h | 8, _ => cases h | 9, _ => cases h | 10, _ => cases h)
     have hc : q = 0 ∨ q = 1 ∨ q = 2 ∨ q = 3 ∨ q = 4 ∨ q = 5 ∨ q = 6 ∨ q = 7 ∨ q = 8 ∨ q = 9 ∨ q = 10 := by omega
     rcases hc with rfl | rfl | rfl | rfl | rfl | rfl | rfl | rfl | rfl | rfl | rfl
     ·cases ho
      cases hd
      have e0 := hs2
      clear x0 x2
      unfold Oper.wp
      go_simp
      exact hK _ _ rfl (hRR.step (Below.refl _ w') 0 46 _ (by decide) (by decide)) (fun _ _ h => h)
     ·cases ho
      cases hd
      have e0 : a'.tmps.getD 46 undef = .slice (some ⟨g, off, none⟩) Ln cap := hdep 0 46 rfl (by kernel_rfl)
      have e0' := gd_ e0
      clear x0 x2
      unfold Oper.wp
      go_simp
      exact hK _ _ rfl (hRR.step (Below.refl _ w') 1 47 _ (by decide) (by decide)) (fun _ _ h => h)
     ·cases ho
      cases hd
      have e0 : a'.tmps.getD 47 undef = .pointer (some ⟨g, off, none⟩) := hdep 1 47 rfl (by kernel_rfl)
      have e0' := gd_ e0
      clear x0 x2
      unfold Oper.wp
      go_simp
      exact hK _ _ rfl (hRR.step (Below.refl _ w') 2 48 _ (by decide) (by decide)) (fun _ _ h => h)
     ·cases ho
      cases hd
      have e0 : a'.tmps.getD 48 undef = .pointer (some ⟨g, off, none⟩) := hdep 2 48 rfl (by kernel_rfl)
      have e0' := gd_ e0
      clear x2
      unfold Oper.wp
      go_simp
      exact hK _ _ rfl (hRR.step (Below.refl _ w') 3 49 _ (by decide) (by decide)) (fun _ _ h => h)
     ·cases ho
      cases hd
      have e0 := hs2
      clear x0 x2
      unfold Oper.wp
      go_simp
      exact hK _ _ rfl (hRR.step (Below.refl _ w') 4 50 _ (by decide) (by decide)) (fun _ _ h => h)
     ·cases ho
      cases hd
      have e0 : a'.tmps.getD 50 undef = .slice (some ⟨g, off, none⟩) Ln cap := hdep 4 50 rfl (by kernel_rfl)
      have e0' := gd_ e0
      clear x0 x2
      unfold Oper.wp
      go_simp
      exact hK _ _ rfl (hRR.step (Below.refl _ w') 5 51 _ (by decide) (by decide)) (fun _ _ h => h)
     ·cases ho
      cases hd
      have e0 : a'.tmps.getD 51 undef = .pointer (some ⟨g, off, none⟩) := hdep 5 51 rfl (by kernel_rfl)
      have e0' := gd_ e0
      clear x0 x2
      unfold Oper.wp
      go_simp
      exact hK _ _ rfl (hRR.step (Below.refl _ w') 6 52 _ (by decide) (by decide)) (fun _ _ h => h)
     ·cases ho
      cases hd
      have e0 : a'.tmps.getD 52 undef = .pointer (some ⟨g, off + 2, none⟩) := hdep 6 52 rfl (by kernel_rfl)
      have e0' := gd_ e0
      clear x0
      unfold Oper.wp
      go_simp
      exact hK _ _ rfl (hRR.step (Below.refl _ w') 7 53 _ (by decide) (by decide)) (fun _ _ h => h)
     ·cases ho
      cases hd
      have e0 : a'.tmps.getD 49 undef = .int .i64 a.k := hdep 3 49 rfl (by kernel_rfl)
      have e0' := gd_ e0
      have e1 : a'.tmps.getD 53 undef = .string a.n := hdep 7 53 rfl (by kernel_rfl)
      have e1' := gd_ e1
      clear x0 x2
      have hb0 : 49 < a'.tmps.size := by rw [hsz]; first | decide | simp
      have e0'' : a'.tmps[49] = .int .i64 a.k := by simpa [hb0] using e0
      have hb1 : 53 < a'.tmps.size := by rw [hsz]; first | decide | simp
      have e1'' : a'.tmps[53] = .string a.n := by simpa [hb1] using e1
      unfold Oper.wp
      go_simp
      exact hK _ _ rfl (hRR.step (Below.refl _ w') 8 54 _ (by decide) (by decide)) (fun _ _ h => h)
     ·cases hd
     ·cases ho
      cases hd
      clear x0 x2
      unfold Oper.wp
      go_simp
      exact hK _ _ rfl (hRR.step (Below.refl _ w') 10 7 _ (by decide) (by decide)) (fun _ _ h => h)
    ·intro q o ho hd L a' w' hL hw hRR hdep K hK
     have hqN : q < 11 := (List.getElem?_eq_some_iff.1 ho).1
     have hR := hRR.below
     have x0 := (hR.cell (p := ⟨g, off, none⟩) hg).trans a0
     have x2 := (hR.cell (p := ⟨g, off + 2, none⟩) hg).trans a2
     have hc : q = 0 ∨ q = 1 ∨ q = 2 ∨ q = 3 ∨ q = 4 ∨ q = 5 ∨ q = 6 ∨ q = 7 ∨ q = 8 ∨ q = 9 ∨ q = 10 := by omega
     rcases hc with rfl | rfl | rfl | rfl | rfl | rfl | rfl | rfl | rfl | rfl | rfl
     ·cases hd
     ·cases hd
     ·cases hd
     ·cases hd
     ·cases hd
     ·cases hd
     ·cases hd
     ·cases hd
     ·cases hd
     ·cases ho
      have e0 : a'.tmps.getD 54 undef = .agg #[.int .i64 5, .int .i64 a.k, .string a.n] := hdep 8 54 rfl (by kernel_rfl)
      have e0' := gd_ e0
      have hz := hRR.zero hL
      obtain ⟨r0, r1, r2⟩ := bl3_ hz
      have fz := fun o => Lib.frozen_of_heap hz o
      have e1 : a'.tmps.getD 6 undef = .pointer (some ⟨w.heap.size + 2, 0, none⟩) := hRR.sl
      have HP := hide (hRR.put hVlt hVle hL)
      clear x0 x2 hz
      unfold Oper.wp
      go_simp
      exact hK _ (unhide HP) (fun _ _ h => h) undef
     ·cases hd
    ·intro v L w' hLa hRR hv
     have bE := hRR.below
     have hVf := hRR.full (hLa 9 (by decide))
     have f0 : v 0 = .slice (some ⟨g, off, none⟩) Ln cap := (hv 0 46 rfl).1
     have f1 : v 1 = .pointer (some ⟨g, off, none⟩) := (hv 1 47 rfl).1
     have f2 : v 2 = .pointer (some ⟨g, off, none⟩) := (hv 2 48 rfl).1
     have f3 : v 3 = .int .i64 a.k := (hv 3 49 rfl).1
     have f4 : v 4 = .slice (some ⟨g, off, none⟩) Ln cap := (hv 4 50 rfl).1
     have f5 : v 5 = .pointer (some ⟨g, off, none⟩) := (hv 5 51 rfl).1
     have f6 : v 6 = .pointer (some ⟨g, off + 2, none⟩) := (hv 6 52 rfl).1
     have f7 : v 7 = .string a.n := (hv 7 53 rfl).1
     have f8 : v 8 = .agg #[.int .i64 5, .int .i64 a.k, .string a.n] := (hv 8 54 rfl).1
     have f10 : v 10 = .int .i64 0 := (hv 10 7 rfl).1
     clear hRR hv hLa
     simp only [putAll, dstOf, List.getElem?_cons_zero, List.getElem?_cons_succ, Option.bind_some, List.length_cons, List.length_nil, f0, f1, f2, f3, f4, f5, f6, f7, f8, f10]
     clear f0 f1 f2 f3 f4 f5 f6 f7 f8 f10
     simp only [Act.put, List.setIfInBounds_toArray, List.set_cons_succ, List.set_cons_zero]
     generalize v 9 = vm
     obtain ⟨d0, d1, d2⟩ := bl3_ hVf
     go_wp2
     exact bodyPost_ret (v := .tuple #[.agg #[.int .i64 5, .int .i64 a.k, .string a.n], .int .i64 0]) (by simp [results, Try.results43, go_sem, d0, d1, d2]) rfl ⟨by rw [unhide HE]; rfl, bE⟩
end Go.Proofs.Ytagnbpobcijakaa
