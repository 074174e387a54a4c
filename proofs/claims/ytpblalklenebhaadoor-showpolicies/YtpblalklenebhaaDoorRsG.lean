/-
  chancelref6.Expr of a sign between two.
  chancelref6.Expr of leaves and sets.
  chancelref6.Expr: what it returns of any tree such as may be, and not too great.
-/
import Derived.Test.YtpblalklenebhaaDoorRsAE
import Derived.Test.YtpblalklenebhaaDoorShGH
namespace Go.Proofs.YtpblalklenebhaaDoor
open Go.RowKit Go.Sort

set_option maxHeartbeats 4000000 in
set_option maxRecDepth 1000000 in
theorem r6_two (r q0 q1 : R7) (w : World) (g off : Nat) (A B : ByteArray) (h1 : 13 ≤ r.k) (h2 : r.k ≤ 24) (hlo : r.lo = some ⟨g, off, none⟩) (hll : r.ll = 2) (hg : g < w.heap.size) (a0 : At7 w g off q0) (a1 : At7 w g (off + 7) q1) (hA : A.size ≤ 2000000000000000) (hB : B.size ≤ 2000000000000000) (K0 : KidR q0 w (firstL r.k) A) (K1 : KidR q1 w (lev r.k + 1) B) :
    NodeR r w (A ++ ⟨#[32]⟩ ++ ⟨(sgnO r.k).toArray⟩ ++ ⟨#[32]⟩ ++ B) := by
  unfold NodeR
  obtain ⟨k, b, n, s, t, i, lo, ll, lc⟩ := r
  simp only at h1 h2 hlo hll K0 K1 ⊢
  subst hlo hll
  have n1 := newS w (.cells #[.int .i64 k, .bool b, .int .i64 n, .string s, .string t, .string i, .slice (some ⟨g, off, none⟩) 2 lc] 32)
  have Z1 : (w.alloc (.cells #[.int .i64 k, .bool b, .int .i64 n, .string s, .string t, .string i, .slice (some ⟨g, off, none⟩) 2 lc] 32)).heap[w.heap.size]? = some (.cells #[.int .i64 k, .bool b, .int .i64 n, .string s, .string t, .string i, .slice (some ⟨g, off, none⟩) 2 lc] 32 (0, 0)) := alloc_heap _ _
  have L := fun w => r6level_any k (by omega) (by omega) w
  have S := fun w => r6sign_any k h1 h2 w
  have hS : (⟨(sgnO k).toArray⟩ : ByteArray).size ≤ 2 := by show (sgnO k).toArray.size ≤ 2; simpa using sgnO_len k
  have hlv : lev k = 1 ∨ lev k = 2 ∨ lev k = 3 ∨ lev k = 4 ∨ lev k = 5 := by
    clear K0 K1 L S hS n1 Z1
    unfold lev
    repeat' split
    all_goals omega
  unfold firstL at K0
  have c1 : ¬ k = 1 := by omega
  have c2 : ¬ k = 2 := by omega
  have c3 : ¬ k = 3 := by omega
  have c4 : ¬ k = 4 := by omega
  have c5 : ¬ k = 5 := by omega
  have c6 : ¬ k = 6 := by omega
  have c7 : ¬ k = 7 := by omega
  have c8 : ¬ k = 8 := by omega
  have c9 : ¬ k = 9 := by omega
  have c10 : ¬ k = 10 := by omega
  have c11 : ¬ k = 11 := by omega
  have c12 : ¬ k = 12 := by omega
  have c25 : ¬ k = 25 := by omega
  generalize (⟨(sgnO k).toArray⟩ : ByteArray) = Sg at *
  generalize lev k = lv at *
  have g1 : ¬ 9223372036854775807 < A.size + 1 := by omega
  have g2 : ¬ 9223372036854775807 < A.size + 1 + Sg.size := by omega
  have g3 : ¬ 9223372036854775807 < A.size + 1 + Sg.size + 1 := by omega
  have g4 : ¬ 9223372036854775807 < A.size + 1 + Sg.size + 1 + B.size := by omega
  have a0 := a0.below n1 hg
  have a1 := a1.below n1 hg
  have key : ∀ lf : Int, lf = (if lv = 3 then 4 else lv) → KidR q0 w lf A := fun lf h => h ▸ K0
  clear K0 hA hB hS h1 h2 hg
  unfold R7.val
  simp only
  rcases hlv with rfl | rfl | rfl | rfl | rfl
  · have K0 : KidR q0 w 1 A := key 1 rfl
    have K1 : KidR q1 w 2 B := K1
    clear key
    unfold KidR R7.val at K0 K1
    go_enter Tryd.func12, Tryd.ntmps12
    go_upto_region 1 with fail
    generalize w.alloc _ = w1 at *
    obtain ⟨x0, x1, x2, x3, x4, x5, x6, _⟩ := blk7 Z1
    go_upto_region 37 with fail
    have z0 := cell_regrown x0
    have cL := fun d os => Calls.regrown_of (w := w1) (d := d) (os := os) ((L (grow (redrawn w1 d) os)).mono fun e w' h => (⟨h.1, h.2 ▸ Below.refl _ _⟩ : _ ∧ Below (grow (redrawn w1 d) os).heap.size (grow (redrawn w1 d) os) w'))
    clear c1 c2 c3 c4 c5 c6 c7 c8 c9 c10 c11 c12 c25
    refine wp_region_quiet_below (by kernel_rfl) (by kernel_rfl) ?_
    repeat (quiet_step (exact cL _ _))
    clear cL
    refine wpQuiet_nil ?_
    intro _ hw'
    obtain ⟨⟨dq, osq⟩, hw''⟩ := hw'
    subst hw''
    have b12 := below_regrown w1 dq osq
    have b2 := n1.trans (b12.mono n1.size)
    have Z2 := kept_of_below b12 Z1
    have hg1 : g < w1.heap.size := block_lt_of_cell a0.c0
    have a0 := a0.below b12 hg1
    have a1 := a1.below b12 hg1
    clear x0 x1 x2 x3 x4 x5 x6 z0
    generalize grow (redrawn w1 dq) osq = w2 at *
    obtain ⟨x0, x1, x2, x3, x4, x5, x6, _⟩ := blk7 Z2
    go_upto_region 40 with fail
    have z0 := cell_regrown x0
    have z1 := cell_regrown x1
    have z2 := cell_regrown x2
    have z3 := cell_regrown x3
    have z4 := cell_regrown x4
    have z5 := cell_regrown x5
    have z6 := cell_regrown x6
    obtain ⟨u00, u01, u02, u03, u04, u05, u06⟩ := a0.up
    obtain ⟨u10, u11, u12, u13, u14, u15, u16⟩ := a1.up
    simp only [Nat.add_assoc, Nat.reduceAdd] at u11 u12 u13 u14 u15 u16
    have cA := fun d os => Calls.regrown_of (w := w2) (d := d) (os := os) (K0 (grow (redrawn w2 d) os) (b2.trans ((below_regrown w2 d os).mono b2.size)))
    have cB := fun d os => Calls.regrown_of (w := w2) (d := d) (os := os) (K1 (grow (redrawn w2 d) os) (b2.trans ((below_regrown w2 d os).mono b2.size)))
    have cS := fun d os => Calls.regrown_of (w := w2) (d := d) (os := os) ((S (grow (redrawn w2 d) os)).mono fun e w' h => (⟨h.1, h.2 ▸ Below.refl _ _⟩ : _ ∧ Below (grow (redrawn w2 d) os).heap.size (grow (redrawn w2 d) os) w'))
    clear x0 x1 x2 x3 x4 x5 x6 K0 K1 L S Z1 Z2 a0 a1
    refine wp_region_quiet_below (by kernel_rfl) (by kernel_rfl) ?_
    iterate 6 (quiet_step (exact cA _ _))
    clear cA
    iterate 4 (quiet_step (exact cS _ _))
    clear cS
    repeat (quiet_step (exact cB _ _))
    clear cB
    refine wpQuiet_nil ?_
    intro _ hw'
    obtain ⟨⟨dq2, osq2⟩, hw''⟩ := hw'
    subst hw''
    have b3 := b2.trans ((below_regrown w2 dq2 osq2).mono b2.size)
    generalize grow (redrawn w2 dq2) osq2 = w4 at *
    go_wp2
    go_ret
    exact ⟨rfl, b3⟩
  · have K0 : KidR q0 w 2 A := key 2 rfl
    have K1 : KidR q1 w 3 B := K1
    clear key
    unfold KidR R7.val at K0 K1
    go_enter Tryd.func12, Tryd.ntmps12
    go_upto_region 1 with fail
    generalize w.alloc _ = w1 at *
    obtain ⟨x0, x1, x2, x3, x4, x5, x6, _⟩ := blk7 Z1
    go_upto_region 37 with fail
    have z0 := cell_regrown x0
    have cL := fun d os => Calls.regrown_of (w := w1) (d := d) (os := os) ((L (grow (redrawn w1 d) os)).mono fun e w' h => (⟨h.1, h.2 ▸ Below.refl _ _⟩ : _ ∧ Below (grow (redrawn w1 d) os).heap.size (grow (redrawn w1 d) os) w'))
    clear c1 c2 c3 c4 c5 c6 c7 c8 c9 c10 c11 c12 c25
    refine wp_region_quiet_below (by kernel_rfl) (by kernel_rfl) ?_
    repeat (quiet_step (exact cL _ _))
    clear cL
    refine wpQuiet_nil ?_
    intro _ hw'
    obtain ⟨⟨dq, osq⟩, hw''⟩ := hw'
    subst hw''
    have b12 := below_regrown w1 dq osq
    have b2 := n1.trans (b12.mono n1.size)
    have Z2 := kept_of_below b12 Z1
    have hg1 : g < w1.heap.size := block_lt_of_cell a0.c0
    have a0 := a0.below b12 hg1
    have a1 := a1.below b12 hg1
    clear x0 x1 x2 x3 x4 x5 x6 z0
    generalize grow (redrawn w1 dq) osq = w2 at *
    obtain ⟨x0, x1, x2, x3, x4, x5, x6, _⟩ := blk7 Z2
    go_upto_region 40 with fail
    have z0 := cell_regrown x0
    have z1 := cell_regrown x1
    have z2 := cell_regrown x2
    have z3 := cell_regrown x3
    have z4 := cell_regrown x4
    have z5 := cell_regrown x5
    have z6 := cell_regrown x6
    obtain ⟨u00, u01, u02, u03, u04, u05, u06⟩ := a0.up
    obtain ⟨u10, u11, u12, u13, u14, u15, u16⟩ := a1.up
    simp only [Nat.add_assoc, Nat.reduceAdd] at u11 u12 u13 u14 u15 u16
    have cA := fun d os => Calls.regrown_of (w := w2) (d := d) (os := os) (K0 (grow (redrawn w2 d) os) (b2.trans ((below_regrown w2 d os).mono b2.size)))
    have cB := fun d os => Calls.regrown_of (w := w2) (d := d) (os := os) (K1 (grow (redrawn w2 d) os) (b2.trans ((below_regrown w2 d os).mono b2.size)))
    have cS := fun d os => Calls.regrown_of (w := w2) (d := d) (os := os) ((S (grow (redrawn w2 d) os)).mono fun e w' h => (⟨h.1, h.2 ▸ Below.refl _ _⟩ : _ ∧ Below (grow (redrawn w2 d) os).heap.size (grow (redrawn w2 d) os) w'))
    clear x0 x1 x2 x3 x4 x5 x6 K0 K1 L S Z1 Z2 a0 a1
    refine wp_region_quiet_below (by kernel_rfl) (by kernel_rfl) ?_
    iterate 6 (quiet_step (exact cA _ _))
    clear cA
    iterate 4 (quiet_step (exact cS _ _))
    clear cS
    repeat (quiet_step (exact cB _ _))
    clear cB
    refine wpQuiet_nil ?_
    intro _ hw'
    obtain ⟨⟨dq2, osq2⟩, hw''⟩ := hw'
    subst hw''
    have b3 := b2.trans ((below_regrown w2 dq2 osq2).mono b2.size)
    generalize grow (redrawn w2 dq2) osq2 = w4 at *
    go_wp2
    go_ret
    exact ⟨rfl, b3⟩
  · have K0 : KidR q0 w 4 A := key 4 rfl
    have K1 : KidR q1 w 4 B := K1
    clear key
    unfold KidR R7.val at K0 K1
    go_enter Tryd.func12, Tryd.ntmps12
    go_upto_region 1 with fail
    generalize w.alloc _ = w1 at *
    obtain ⟨x0, x1, x2, x3, x4, x5, x6, _⟩ := blk7 Z1
    go_upto_region 37 with fail
    have z0 := cell_regrown x0
    have cL := fun d os => Calls.regrown_of (w := w1) (d := d) (os := os) ((L (grow (redrawn w1 d) os)).mono fun e w' h => (⟨h.1, h.2 ▸ Below.refl _ _⟩ : _ ∧ Below (grow (redrawn w1 d) os).heap.size (grow (redrawn w1 d) os) w'))
    clear c1 c2 c3 c4 c5 c6 c7 c8 c9 c10 c11 c12 c25
    refine wp_region_quiet_below (by kernel_rfl) (by kernel_rfl) ?_
    repeat (quiet_step (exact cL _ _))
    clear cL
    refine wpQuiet_nil ?_
    intro _ hw'
    obtain ⟨⟨dq, osq⟩, hw''⟩ := hw'
    subst hw''
    have b12 := below_regrown w1 dq osq
    have b2 := n1.trans (b12.mono n1.size)
    have Z2 := kept_of_below b12 Z1
    have hg1 : g < w1.heap.size := block_lt_of_cell a0.c0
    have a0 := a0.below b12 hg1
    have a1 := a1.below b12 hg1
    clear x0 x1 x2 x3 x4 x5 x6 z0
    generalize grow (redrawn w1 dq) osq = w2 at *
    obtain ⟨x0, x1, x2, x3, x4, x5, x6, _⟩ := blk7 Z2
    go_upto_region 40 with fail
    have z0 := cell_regrown x0
    have z1 := cell_regrown x1
    have z2 := cell_regrown x2
    have z3 := cell_regrown x3
    have z4 := cell_regrown x4
    have z5 := cell_regrown x5
    have z6 := cell_regrown x6
    obtain ⟨u00, u01, u02, u03, u04, u05, u06⟩ := a0.up
    obtain ⟨u10, u11, u12, u13, u14, u15, u16⟩ := a1.up
    simp only [Nat.add_assoc, Nat.reduceAdd] at u11 u12 u13 u14 u15 u16
    have cA := fun d os => Calls.regrown_of (w := w2) (d := d) (os := os) (K0 (grow (redrawn w2 d) os) (b2.trans ((below_regrown w2 d os).mono b2.size)))
    have cB := fun d os => Calls.regrown_of (w := w2) (d := d) (os := os) (K1 (grow (redrawn w2 d) os) (b2.trans ((below_regrown w2 d os).mono b2.size)))
    have cS := fun d os => Calls.regrown_of (w := w2) (d := d) (os := os) ((S (grow (redrawn w2 d) os)).mono fun e w' h => (⟨h.1, h.2 ▸ Below.refl _ _⟩ : _ ∧ Below (grow (redrawn w2 d) os).heap.size (grow (redrawn w2 d) os) w'))
    clear x0 x1 x2 x3 x4 x5 x6 K0 K1 L S Z1 Z2 a0 a1
    refine wp_region_quiet_below (by kernel_rfl) (by kernel_rfl) ?_
    iterate 6 (quiet_step (exact cA _ _))
    clear cA
    iterate 4 (quiet_step (exact cS _ _))
    clear cS
    repeat (quiet_step (exact cB _ _))
    clear cB
    refine wpQuiet_nil ?_
    intro _ hw'
    obtain ⟨⟨dq2, osq2⟩, hw''⟩ := hw'
    subst hw''
    have b3 := b2.trans ((below_regrown w2 dq2 osq2).mono b2.size)
    generalize grow (redrawn w2 dq2) osq2 = w4 at *
    go_wp2
    go_ret
    exact ⟨rfl, b3⟩
  · have K0 : KidR q0 w 4 A := key 4 rfl
    have K1 : KidR q1 w 5 B := K1
    clear key
    unfold KidR R7.val at K0 K1
    go_enter Tryd.func12, Tryd.ntmps12
    go_upto_region 1 with fail
    generalize w.alloc _ = w1 at *
    obtain ⟨x0, x1, x2, x3, x4, x5, x6, _⟩ := blk7 Z1
    go_upto_region 37 with fail
    have z0 := cell_regrown x0
    have cL := fun d os => Calls.regrown_of (w := w1) (d := d) (os := os) ((L (grow (redrawn w1 d) os)).mono fun e w' h => (⟨h.1, h.2 ▸ Below.refl _ _⟩ : _ ∧ Below (grow (redrawn w1 d) os).heap.size (grow (redrawn w1 d) os) w'))
    clear c1 c2 c3 c4 c5 c6 c7 c8 c9 c10 c11 c12 c25
    refine wp_region_quiet_below (by kernel_rfl) (by kernel_rfl) ?_
    repeat (quiet_step (exact cL _ _))
    clear cL
    refine wpQuiet_nil ?_
    intro _ hw'
    obtain ⟨⟨dq, osq⟩, hw''⟩ := hw'
    subst hw''
    have b12 := below_regrown w1 dq osq
    have b2 := n1.trans (b12.mono n1.size)
    have Z2 := kept_of_below b12 Z1
    have hg1 : g < w1.heap.size := block_lt_of_cell a0.c0
    have a0 := a0.below b12 hg1
    have a1 := a1.below b12 hg1
    clear x0 x1 x2 x3 x4 x5 x6 z0
    generalize grow (redrawn w1 dq) osq = w2 at *
    obtain ⟨x0, x1, x2, x3, x4, x5, x6, _⟩ := blk7 Z2
    go_upto_region 40 with fail
    have z0 := cell_regrown x0
    have z1 := cell_regrown x1
    have z2 := cell_regrown x2
    have z3 := cell_regrown x3
    have z4 := cell_regrown x4
    have z5 := cell_regrown x5
    have z6 := cell_regrown x6
    obtain ⟨u00, u01, u02, u03, u04, u05, u06⟩ := a0.up
    obtain ⟨u10, u11, u12, u13, u14, u15, u16⟩ := a1.up
    simp only [Nat.add_assoc, Nat.reduceAdd] at u11 u12 u13 u14 u15 u16
    have cA := fun d os => Calls.regrown_of (w := w2) (d := d) (os := os) (K0 (grow (redrawn w2 d) os) (b2.trans ((below_regrown w2 d os).mono b2.size)))
    have cB := fun d os => Calls.regrown_of (w := w2) (d := d) (os := os) (K1 (grow (redrawn w2 d) os) (b2.trans ((below_regrown w2 d os).mono b2.size)))
    have cS := fun d os => Calls.regrown_of (w := w2) (d := d) (os := os) ((S (grow (redrawn w2 d) os)).mono fun e w' h => (⟨h.1, h.2 ▸ Below.refl _ _⟩ : _ ∧ Below (grow (redrawn w2 d) os).heap.size (grow (redrawn w2 d) os) w'))
    clear x0 x1 x2 x3 x4 x5 x6 K0 K1 L S Z1 Z2 a0 a1
    refine wp_region_quiet_below (by kernel_rfl) (by kernel_rfl) ?_
    iterate 6 (quiet_step (exact cA _ _))
    clear cA
    iterate 4 (quiet_step (exact cS _ _))
    clear cS
    repeat (quiet_step (exact cB _ _))
    clear cB
    refine wpQuiet_nil ?_
    intro _ hw'
    obtain ⟨⟨dq2, osq2⟩, hw''⟩ := hw'
    subst hw''
    have b3 := b2.trans ((below_regrown w2 dq2 osq2).mono b2.size)
    generalize grow (redrawn w2 dq2) osq2 = w4 at *
    go_wp2
    go_ret
    exact ⟨rfl, b3⟩
  · have K0 : KidR q0 w 5 A := key 5 rfl
    have K1 : KidR q1 w 6 B := K1
    clear key
    unfold KidR R7.val at K0 K1
    go_enter Tryd.func12, Tryd.ntmps12
    go_upto_region 1 with fail
    generalize w.alloc _ = w1 at *
    obtain ⟨x0, x1, x2, x3, x4, x5, x6, _⟩ := blk7 Z1
    go_upto_region 37 with fail
    have z0 := cell_regrown x0
    have cL := fun d os => Calls.regrown_of (w := w1) (d := d) (os := os) ((L (grow (redrawn w1 d) os)).mono fun e w' h => (⟨h.1, h.2 ▸ Below.refl _ _⟩ : _ ∧ Below (grow (redrawn w1 d) os).heap.size (grow (redrawn w1 d) os) w'))
    clear c1 c2 c3 c4 c5 c6 c7 c8 c9 c10 c11 c12 c25
    refine wp_region_quiet_below (by kernel_rfl) (by kernel_rfl) ?_
    repeat (quiet_step (exact cL _ _))
    clear cL
    refine wpQuiet_nil ?_
    intro _ hw'
    obtain ⟨⟨dq, osq⟩, hw''⟩ := hw'
    subst hw''
    have b12 := below_regrown w1 dq osq
    have b2 := n1.trans (b12.mono n1.size)
    have Z2 := kept_of_below b12 Z1
    have hg1 : g < w1.heap.size := block_lt_of_cell a0.c0
    have a0 := a0.below b12 hg1
    have a1 := a1.below b12 hg1
    clear x0 x1 x2 x3 x4 x5 x6 z0
    generalize grow (redrawn w1 dq) osq = w2 at *
    obtain ⟨x0, x1, x2, x3, x4, x5, x6, _⟩ := blk7 Z2
    go_upto_region 40 with fail
    have z0 := cell_regrown x0
    have z1 := cell_regrown x1
    have z2 := cell_regrown x2
    have z3 := cell_regrown x3
    have z4 := cell_regrown x4
    have z5 := cell_regrown x5
    have z6 := cell_regrown x6
    obtain ⟨u00, u01, u02, u03, u04, u05, u06⟩ := a0.up
    obtain ⟨u10, u11, u12, u13, u14, u15, u16⟩ := a1.up
    simp only [Nat.add_assoc, Nat.reduceAdd] at u11 u12 u13 u14 u15 u16
    have cA := fun d os => Calls.regrown_of (w := w2) (d := d) (os := os) (K0 (grow (redrawn w2 d) os) (b2.trans ((below_regrown w2 d os).mono b2.size)))
    have cB := fun d os => Calls.regrown_of (w := w2) (d := d) (os := os) (K1 (grow (redrawn w2 d) os) (b2.trans ((below_regrown w2 d os).mono b2.size)))
    have cS := fun d os => Calls.regrown_of (w := w2) (d := d) (os := os) ((S (grow (redrawn w2 d) os)).mono fun e w' h => (⟨h.1, h.2 ▸ Below.refl _ _⟩ : _ ∧ Below (grow (redrawn w2 d) os).heap.size (grow (redrawn w2 d) os) w'))
    clear x0 x1 x2 x3 x4 x5 x6 K0 K1 L S Z1 Z2 a0 a1
    refine wp_region_quiet_below (by kernel_rfl) (by kernel_rfl) ?_
    iterate 6 (quiet_step (exact cA _ _))
    clear cA
    iterate 4 (quiet_step (exact cS _ _))
    clear cS
    repeat (quiet_step (exact cB _ _))
    clear cB
    refine wpQuiet_nil ?_
    intro _ hw'
    obtain ⟨⟨dq2, osq2⟩, hw''⟩ := hw'
    subst hw''
    have b3 := b2.trans ((below_regrown w2 dq2 osq2).mono b2.size)
    generalize grow (redrawn w2 dq2) osq2 = w4 at *
    go_wp2
    go_ret
    exact ⟨rfl, b3⟩
end Go.Proofs.YtpblalklenebhaaDoor

namespace Go.Proofs.YtpblalklenebhaaDoor
open Go.RowKit Go.Sort

set_option maxHeartbeats 4000000 in
set_option maxRecDepth 1000000 in
theorem r6_long (r : R7) (w : World) (A : ByteArray) (hk : r.k = 2) (K0 : ∀ w', Below w.heap.size w w' → Calls Tryd.prog 29 #[.int .i64 r.n] w' fun e w'' => e = .returned (.string A) ∧ Below w'.heap.size w' w'') :
    NodeR r w A := by
  unfold NodeR
  obtain ⟨k, b, n, s, t, i, lo, ll, lc⟩ := r
  subst hk
  have n1 := newS w (.cells #[.int .i64 2, .bool b, .int .i64 n, .string s, .string t, .string i, .slice lo ll lc] 32)
  have Z1 : (w.alloc (.cells #[.int .i64 2, .bool b, .int .i64 n, .string s, .string t, .string i, .slice lo ll lc] 32)).heap[w.heap.size]? = some (.cells #[.int .i64 2, .bool b, .int .i64 n, .string s, .string t, .string i, .slice lo ll lc] 32 (0, 0)) := alloc_heap _ _
  have K := K0 _ n1
  clear K0
  unfold R7.val
  simp only at K ⊢
  go_enter Tryd.func12, Tryd.ntmps12
  go_upto_region 1 with fail
  generalize w.alloc _ = w1 at *
  obtain ⟨x0, x1, x2, x3, x4, x5, x6, _⟩ := blk7 Z1
  go_wp2_with fail
  refine K.mono ?_
  rintro e w2 ⟨rfl, b2⟩
  clear x0 x1 x2 x3 x4 x5 x6
  go_wp2
  go_ret
  exact ⟨rfl, n1.trans (b2.mono n1.size)⟩

set_option maxHeartbeats 4000000 in
set_option maxRecDepth 1000000 in
theorem r6_str (r : R7) (w : World) (A : ByteArray) (hk : r.k = 3) (K0 : ∀ w', Below w.heap.size w w' → Calls Tryd.prog 30 #[.string r.s] w' fun e w'' => e = .returned (.string A) ∧ Below w'.heap.size w' w'') :
    NodeR r w A := by
  unfold NodeR
  obtain ⟨k, b, n, s, t, i, lo, ll, lc⟩ := r
  subst hk
  have n1 := newS w (.cells #[.int .i64 3, .bool b, .int .i64 n, .string s, .string t, .string i, .slice lo ll lc] 32)
  have Z1 : (w.alloc (.cells #[.int .i64 3, .bool b, .int .i64 n, .string s, .string t, .string i, .slice lo ll lc] 32)).heap[w.heap.size]? = some (.cells #[.int .i64 3, .bool b, .int .i64 n, .string s, .string t, .string i, .slice lo ll lc] 32 (0, 0)) := alloc_heap _ _
  have K := K0 _ n1
  clear K0
  unfold R7.val
  simp only at K ⊢
  go_enter Tryd.func12, Tryd.ntmps12
  go_upto_region 1 with fail
  generalize w.alloc _ = w1 at *
  obtain ⟨x0, x1, x2, x3, x4, x5, x6, _⟩ := blk7 Z1
  go_wp2_with fail
  refine K.mono ?_
  rintro e w2 ⟨rfl, b2⟩
  clear x0 x1 x2 x3 x4 x5 x6
  go_wp2
  go_ret
  exact ⟨rfl, n1.trans (b2.mono n1.size)⟩

set_option maxHeartbeats 4000000 in
set_option maxRecDepth 1000000 in
theorem r6_uid (r : R7) (w : World) (A : ByteArray) (hk : r.k = 4) (K0 : ∀ w', Below w.heap.size w w' → Calls Tryd.prog 17 #[.agg #[.string r.t, .string r.i]] w' fun e w'' => e = .returned (.string A) ∧ Below w'.heap.size w' w'') :
    NodeR r w A := by
  unfold NodeR
  obtain ⟨k, b, n, s, t, i, lo, ll, lc⟩ := r
  subst hk
  have n1 := newS w (.cells #[.int .i64 4, .bool b, .int .i64 n, .string s, .string t, .string i, .slice lo ll lc] 32)
  have Z1 : (w.alloc (.cells #[.int .i64 4, .bool b, .int .i64 n, .string s, .string t, .string i, .slice lo ll lc] 32)).heap[w.heap.size]? = some (.cells #[.int .i64 4, .bool b, .int .i64 n, .string s, .string t, .string i, .slice lo ll lc] 32 (0, 0)) := alloc_heap _ _
  have K := K0 _ n1
  clear K0
  unfold R7.val
  simp only at K ⊢
  go_enter Tryd.func12, Tryd.ntmps12
  go_upto_region 1 with fail
  generalize w.alloc _ = w1 at *
  obtain ⟨x0, x1, x2, x3, x4, x5, x6, _⟩ := blk7 Z1
  go_wp2_with fail
  refine K.mono ?_
  rintro e w2 ⟨rfl, b2⟩
  clear x0 x1 x2 x3 x4 x5 x6
  go_wp2
  go_ret
  exact ⟨rfl, n1.trans (b2.mono n1.size)⟩

set_option maxHeartbeats 4000000 in
set_option maxRecDepth 1000000 in
theorem r6_var (r : R7) (w : World) (hk : r.k = 5) : NodeR r w r.s := by
  unfold NodeR
  obtain ⟨k, b, n, s, t, i, lo, ll, lc⟩ := r
  subst hk
  have n1 := newS w (.cells #[.int .i64 5, .bool b, .int .i64 n, .string s, .string t, .string i, .slice lo ll lc] 32)
  have Z1 : (w.alloc (.cells #[.int .i64 5, .bool b, .int .i64 n, .string s, .string t, .string i, .slice lo ll lc] 32)).heap[w.heap.size]? = some (.cells #[.int .i64 5, .bool b, .int .i64 n, .string s, .string t, .string i, .slice lo ll lc] 32 (0, 0)) := alloc_heap _ _
  unfold R7.val
  simp only
  go_enter Tryd.func12, Tryd.ntmps12
  go_upto_region 1 with fail
  generalize w.alloc _ = w1 at *
  obtain ⟨x0, x1, x2, x3, x4, x5, x6, _⟩ := blk7 Z1
  go_wp2
  go_ret
  exact ⟨rfl, n1⟩

set_option maxHeartbeats 4000000 in
set_option maxRecDepth 1000000 in
theorem r6_bool (r : R7) (w : World) (hk : r.k = 1) : NodeR r w (ba (if r.b then cTrue else cFalse)) := by
  unfold NodeR
  obtain ⟨k, b, n, s, t, i, lo, ll, lc⟩ := r
  subst hk
  have n1 := newS w (.cells #[.int .i64 1, .bool b, .int .i64 n, .string s, .string t, .string i, .slice lo ll lc] 32)
  have Z1 : (w.alloc (.cells #[.int .i64 1, .bool b, .int .i64 n, .string s, .string t, .string i, .slice lo ll lc] 32)).heap[w.heap.size]? = some (.cells #[.int .i64 1, .bool b, .int .i64 n, .string s, .string t, .string i, .slice lo ll lc] 32 (0, 0)) := alloc_heap _ _
  unfold R7.val
  simp only
  cases b with
  | true =>
    go_enter Tryd.func12, Tryd.ntmps12
    go_upto_region 1 with fail
    generalize w.alloc _ = w1 at *
    obtain ⟨x0, x1, x2, x3, x4, x5, x6, _⟩ := blk7 Z1
    go_wp2
    go_ret
    exact ⟨rfl, n1⟩
  | false =>
    go_enter Tryd.func12, Tryd.ntmps12
    go_upto_region 1 with fail
    generalize w.alloc _ = w1 at *
    obtain ⟨x0, x1, x2, x3, x4, x5, x6, _⟩ := blk7 Z1
    go_wp2
    go_ret
    exact ⟨rfl, n1⟩

theorem baApp (a b : List UInt8) : ba a ++ ba b = ba (a ++ b) := by
  simp [ba, ByteArray.ext_iff, ByteArray.data_append]
theorem joinS_step (l : List Ex) (j : Nat) (h : j < l.length) : joinS [44, 32] (textsL (l.take (j + 1))) = joinS [44, 32] (textsL (l.take j)) ++ (if j = 0 then [] else [44, 32]) ++ showE l[j] := by
  have hl : (textsL l).length = l.length := by simp [textsL]
  have ht : ∀ i, textsL (l.take i) = (textsL l).take i := fun i => by unfold textsL; rw [List.map_take]
  rw [ht, ht]
  cases j with
  | zero =>
    cases l with
    | nil => simp at h
    | cons x l => simp [textsL, joinS]
  | succ j =>
    rw [joinS_take [44, 32] (textsL l) j (by omega), if_neg (by omega)]
    congr 1
    simp [textsL]
theorem joinS_mono (l : List Ex) (j : Nat) : (joinS [44, 32] (textsL (l.take j))).length ≤ (joinS [44, 32] (textsL l)).length := by
  have ht : textsL (l.take j) = (textsL l).take j := by unfold textsL; rw [List.map_take]
  rw [ht]
  rcases Nat.eq_zero_or_pos ((textsL l).take j).length with h0 | h0
  · rw [List.length_eq_zero_iff.1 h0]
    simp [joinS]
  · have h1 : 0 < (textsL l).length := by rw [List.length_take] at h0; omega
    rw [joinS_len _ _ h0, joinS_len _ _ h1, List.length_take]
    have := sumL_le (textsL l) j
    have : min j (textsL l).length - 1 ≤ (textsL l).length - 1 := by omega
    simp only [List.length_cons, List.length_nil]
    omega

set_option maxHeartbeats 4000000 in
set_option maxRecDepth 1000000 in
theorem r6_set (l : List Ex) (r : R7) (P : Nat → Prop) (w : World) (hk : r.k = 6) (hll : r.ll = l.length) (hks : IsEs w P r.lo 0 l) (hl : l.length ≤ 100000) (C : ∀ j (hj : j < l.length), ShowsR P l[j]) (hlen : (joinS [44, 32] (textsL l)).length ≤ 10000000000000) :
    NodeR r w (⟨#[91]⟩ ++ ba (joinS [44, 32] (textsL l)) ++ ⟨#[93]⟩) := by
  unfold NodeR
  obtain ⟨k, b, n, s, t, i, lo, ll, lc⟩ := r
  simp only at hk hll hks
  subst hk
  have n1 := newS w (.cells #[.int .i64 6, .bool b, .int .i64 n, .string s, .string t, .string i, .slice lo ll lc] 32)
  have Z1 : (w.alloc (.cells #[.int .i64 6, .bool b, .int .i64 n, .string s, .string t, .string i, .slice lo ll lc] 32)).heap[w.heap.size]? = some (.cells #[.int .i64 6, .bool b, .int .i64 n, .string s, .string t, .string i, .slice lo ll lc] 32 (0, 0)) := alloc_heap _ _
  have hlb : ll ≤ 100000 := by omega
  have HLL := hide hll
  have HK := hide hks
  have HC := hide C
  have HLE := hide hlen
  obtain ⟨X, hX⟩ : ∃ X, X = (⟨#[91]⟩ : ByteArray) ++ ba (joinS [44, 32] (textsL l)) ++ ⟨#[93]⟩ := ⟨_, rfl⟩
  rw [← hX]
  have HX := hide hX
  clear hll hks C hlen hX hl
  unfold R7.val
  simp only
  go_enter Tryd.func12, Tryd.ntmps12
  go_upto_region 1 with fail
  generalize w.alloc _ = w1 at *
  obtain ⟨x0, x1, x2, x3, x4, x5, x6, _⟩ := blk7 Z1
  go_wp2_with fail
  clear x0 x1 x2 x3 x4 x5 x6
  go_loopw [3, 4] (fun sv iv wr => ∃ (j : Nat) (S : ByteArray), j ≤ ll ∧ iv = .int .i64 j ∧ sv = .string S ∧ S.size ≤ 10000000000001 ∧ Below w.heap.size w wr ∧ wr.heap[w.heap.size]? = some (.cells #[.int .i64 6, .bool b, .int .i64 n, .string s, .string t, .string i, .slice lo ll lc] 32 (0, 0)) ∧ Hid (S = ba ([91] ++ joinS [44, 32] (textsL (l.take j))))) (fun _ iv _ => ll - (intOf iv).toNat)
  case atStart => exact ⟨0, _, Nat.zero_le _, rfl, rfl, by decide, n1, Z1, hide rfl⟩
  case round =>
    obtain ⟨j, S, hj, rfl, rfl, hS, hbw, hZ, HS⟩ := hrel
    obtain ⟨x0, x1, x2, x3, x4, x5, x6, _⟩ := blk7 hZ
    by_cases hlt : j < ll
    · have i1 : (j : Int) < (ll : Int) := by omega
      have hlt' : j < l.length := by rw [← unhide HLL]; exact hlt
      obtain ⟨rk, g, off, hlo, hg, h7, hxk⟩ := IsEs.get l 0 j hlt' (unhide HK)
      rw [Nat.zero_add] at h7
      have h7 := h7.below hbw hg
      have CK := unhide HC j hlt' rk wr (IsE.turn hbw.size (fun b hb hb2 => ⟨hbw.block b hb2, hb⟩) rk _ hxk)
      have HJ := hide (joinS_step l j hlt')
      have hml : (joinS [44, 32] (textsL (l.take (j + 1)))).length ≤ 10000000000000 := Nat.le_trans (joinS_mono l (j + 1)) (unhide HLE)
      have hsz : S.size + (if j = 0 then 0 else 2) + (ba (showE l[j])).size ≤ 10000000000001 := by
        have h1 := congrArg List.length (unhide HJ)
        rw [List.length_append, List.length_append] at h1
        have h2 : S.size = 1 + (joinS [44, 32] (textsL (l.take j))).length := by rw [unhide HS, ba_size]; simp; omega
        rw [ba_size]
        by_cases h0 : j = 0
        · rw [if_pos h0] at h1 ⊢
          simp only [List.length_nil] at h1
          omega
        · rw [if_neg h0] at h1 ⊢
          simp only [List.length_cons, List.length_nil] at h1
          omega
      generalize showE l[j] = sx at *
      obtain ⟨T, hT⟩ : ∃ T, T = ba sx := ⟨_, rfl⟩
      rw [← hT] at CK hsz
      have HT := hide hT
      subst hlo
      obtain ⟨y0, y1, y2, y3, y4, y5, y6⟩ := h7
      unfold R7.val at CK
      clear hxk hml hT
      by_cases h0 : j = 0
      · subst h0
        rw [if_pos rfl] at hsz
        have g1 : ¬ 9223372036854775807 < S.size + T.size := by omega
        have y0 : wr.cell? ⟨g, off, none⟩ = some (.int .i64 rk.k) := by simpa using y0
        have y1 : wr.cell? ⟨g, off + 1, none⟩ = some (.bool rk.b) := by simpa using y1
        have y2 : wr.cell? ⟨g, off + 2, none⟩ = some (.int .i64 rk.n) := by simpa using y2
        have y3 : wr.cell? ⟨g, off + 3, none⟩ = some (.string rk.s) := by simpa using y3
        have y4 : wr.cell? ⟨g, off + 4, none⟩ = some (.string rk.t) := by simpa using y4
        have y5 : wr.cell? ⟨g, off + 5, none⟩ = some (.string rk.i) := by simpa using y5
        have y6 : wr.cell? ⟨g, off + 6, none⟩ = some (.slice rk.lo rk.ll rk.lc) := by simpa using y6
        have hpos : 0 < ll := hlt
        go_wp2_with fail
        refine CK.mono ?_
        rintro e w4 ⟨rfl, b4⟩
        have b04 := hbw.trans (b4.mono hbw.size)
        have hZ4 := kept_of_below b4 hZ
        clear x0 x1 x2 x3 x4 x5 x6 y0 y1 y2 y3 y4 y5 y6 CK
        go_wp2
        go_roundw
        case rel => exact ⟨1, S ++ T, hlt, by go_num, rfl, by rw [ByteArray.size_append]; omega, b04, hZ4, hide (by rw [unhide HJ, unhide HS, unhide HT, baApp]; simp)⟩
        case measure =>
          simp only [intOf]
          omega
      · rw [if_neg h0] at hsz
        have i2 : (0 : Int) < (j : Int) := by omega
        have g1 : ¬ 9223372036854775807 < S.size + 2 := by omega
        have g2 : ¬ 9223372036854775807 < S.size + 2 + T.size := by omega
        go_wp2_with fail
        refine CK.mono ?_
        rintro e w4 ⟨rfl, b4⟩
        have b04 := hbw.trans (b4.mono hbw.size)
        have hZ4 := kept_of_below b4 hZ
        clear x0 x1 x2 x3 x4 x5 x6 y0 y1 y2 y3 y4 y5 y6 CK
        go_wp2
        go_roundw
        case rel => exact ⟨j + 1, S ++ ⟨#[44, 32]⟩ ++ T, by omega, by go_num, rfl, by rw [ByteArray.size_append, ByteArray.size_append]; show S.size + 2 + T.size ≤ _; omega, b04, hZ4, hide (by rw [unhide HJ, if_neg h0, unhide HS, unhide HT]; show ba _ ++ ba [44, 32] ++ ba sx = _; rw [baApp, baApp]; simp)⟩
        case measure =>
          simp only [intOf]
          omega
    · obtain rfl : j = ll := by omega
      have i1 : ¬ (j : Int) < (j : Int) := by omega
      have g1 : ¬ 9223372036854775807 < S.size + 1 := by omega
      have hfin : S ++ ⟨#[93]⟩ = X := by
        rw [unhide HX, unhide HS, unhide HLL, List.take_length]
        show ba ([91] ++ _) ++ _ = ba [91] ++ _ ++ _
        rw [baApp]
      have HF := hide hfin
      clear hfin
      go_wp2
      go_ret
      exact ⟨by rw [← unhide HF]; rfl, hbw⟩
end Go.Proofs.YtpblalklenebhaaDoor

namespace Go.Proofs.YtpblalklenebhaaDoor
open Go.RowKit Go.Sort

theorem rquoteS (s : List UInt8) (w : World) (hs : s.length ≤ 1000) (hq : bquote s = quoteL s) :
    Calls Tryd.prog 30 #[.string (ba s)] w fun e w' => e = .returned (.string (ba (quoteL s))) ∧ Below w.heap.size w w' := by
  refine (rquote_any (ba s) w (by rw [ba_size]; omega)).mono ?_
  rintro e w' ⟨rfl, rfl⟩
  refine ⟨?_, Below.refl _ _⟩
  show Ending.returned (.string (ba (bquote s))) = _
  rw [hq]

set_option maxHeartbeats 1000000 in
set_option maxRecDepth 1000000 in
theorem ruidText_any (t i : List UInt8) (w : World) (ht : t.length ≤ 1000) (hi : i.length ≤ 1000) (hq : bquote i = quoteL i) :
    Calls Tryd.prog 42 #[.agg #[.string (ba t), .string (ba i)]] w fun e w' => e = .returned (.string (ba t ++ ⟨#[58, 58]⟩ ++ ba (quoteL i))) ∧ Below w.heap.size w w' := by
  have n1 := newS w (.cells #[.string (ba t), .string (ba i)] 29)
  have Z1 : (w.alloc (.cells #[.string (ba t), .string (ba i)] 29)).heap[w.heap.size]? = some (.cells #[.string (ba t), .string (ba i)] 29 (0, 0)) := alloc_heap _ _
  have Q := fun w' => rquoteS i w' hi hq
  have s1 : (ba t).size ≤ 1000 := by rw [ba_size]; exact ht
  have s2 : (ba (quoteL i)).size ≤ 7000 := by rw [ba_size]; have := quoteL_len i; omega
  generalize ba t = T at *
  generalize ba (quoteL i) = QI at *
  generalize ba i = I at *
  have g1 : ¬ 9223372036854775807 < T.size + 2 := by omega
  have g2 : ¬ 9223372036854775807 < T.size + 2 + QI.size := by omega
  clear ht hi s1 s2 hq
  go_enter Tryd.func42, Tryd.ntmps42
  go_upto_region 1 with fail
  generalize w.alloc _ = w1 at *
  have x0 : w1.cell? ⟨w.heap.size, 0, none⟩ = some (.string T) := by rw [Lib.cell_of_heap Z1]; rfl
  have x1 : w1.cell? ⟨w.heap.size, 1, none⟩ = some (.string I) := by rw [Lib.cell_of_heap Z1]; rfl
  have z0 := cell_regrown x0
  have z1 := cell_regrown x1
  have cA := fun d os => Calls.regrown_of (w := w1) (d := d) (os := os) (Q (grow (redrawn w1 d) os))
  clear x0 x1 Q Z1
  refine wp_region_quiet_below (by kernel_rfl) (by kernel_rfl) ?_
  repeat (quiet_step (exact cA _ _))
  clear cA
  refine wpQuiet_nil ?_
  intro _ hw'
  obtain ⟨⟨dq, osq⟩, hw''⟩ := hw'
  subst hw''
  have b3 := n1.trans ((below_regrown w1 dq osq).mono n1.size)
  generalize grow (redrawn w1 dq) osq = w4 at *
  clear z0 z1
  go_wp2
  go_ret
  exact ⟨rfl, b3⟩

set_option maxHeartbeats 1000000 in
set_option maxRecDepth 1000000 in
theorem r6uid_any (t i : List UInt8) (w : World) (ht : t.length ≤ 1000) (hi : i.length ≤ 1000) (hq : bquote i = quoteL i) :
    Calls Tryd.prog 17 #[.agg #[.string (ba t), .string (ba i)]] w fun e w' => e = .returned (.string (ba t ++ ⟨#[58, 58]⟩ ++ ba (quoteL i))) ∧ Below w.heap.size w w' := by
  have n1 := newS w (.cells #[.string (ba t), .string (ba i)] 29)
  have V := fun w' => ruidText_any t i w' ht hi hq
  generalize ba t ++ ⟨#[58, 58]⟩ ++ ba (quoteL i) = X at *
  generalize ba t = T at *
  generalize ba i = I at *
  clear ht hi hq
  go_enter Tryd.func17, Tryd.ntmps17
  go_wp2_with fail
  generalize w.alloc _ = w1 at *
  refine (V _).mono ?_
  rintro e w2 ⟨rfl, b2⟩
  go_wp2
  go_ret
  exact ⟨rfl, n1.trans (b2.mono n1.size)⟩

theorem kid_at {w : World} {P : Nat → Prop} {r : R7} {l : List Ex} (hks : IsEs w P r.lo 0 l) (h : 0 < l.length) : ∃ g off, r.lo = some ⟨g, off, none⟩ ∧ g < w.heap.size ∧ ∀ j (hj : j < l.length), ∃ q, At7 w g (off + j * 7) q ∧ IsE w P q l[j] := by
  obtain ⟨q, g, off, e, hg, _, _⟩ := IsEs.get l 0 0 h hks
  refine ⟨g, off, e, hg, fun j hj => ?_⟩
  obtain ⟨q', g', off', e', _, h7, hx⟩ := IsEs.get l 0 j hj hks
  rw [e] at e'
  cases e'
  exact ⟨q', by simpa using h7, hx⟩

theorem showsR_all (P : Nat → Prop) : ∀ (m : Nat) (x : Ex), depE x ≤ m → okR x → (showE x).length ≤ 10000000000000 → ShowsR P x := by
  intro m
  induction m with
  | zero =>
    intro x hd
    cases x
    unfold depE at hd
    omega
  | succ m ih =>
    intro x hd hok hlen r w hx
    obtain ⟨k, b, n, s, t, i, l⟩ := x
    unfold IsE at hx
    obtain ⟨hk, hb, hn, hs, ht, hi, hll, hks⟩ := hx
    unfold okR at hok
    obtain ⟨⟨k1, k2⟩, nn, s1, t1, i1, ar, l1, qs3, qi4, okl⟩ := hok
    have hdl : depL l ≤ m := by unfold depE at hd; omega
    have KS : ∀ j (hj : j < l.length), (showE l[j]).length ≤ 10000000000000 → ShowsR P l[j] := fun j hj h => ih l[j] (Nat.le_trans (depL_get l j hj) hdl) (okRs_get l j hj okl) h
    have KO : ∀ j (hj : j < l.length), 1 ≤ opE l[j] ∧ opE l[j] ≤ 25 := by
      intro j hj
      have := okRs_get l j hj okl
      revert this
      cases l[j]
      intro h
      unfold okR at h
      exact h.1
    have KT : ∀ j (hj : j < l.length) (asked : Int) (q : R7), IsE w P q l[j] → (kidT (showL l) j asked).length ≤ 10000000000000 → KidR q w asked (ba (kidT (showL l) j asked)) ∧ (ba (kidT (showL l) j asked)).size ≤ 2000000000000000 := by
      intro j hj asked q hq h
      have h' : (showE l[j]).length ≤ 10000000000000 := by
        rw [kidT_showL l j hj] at h
        have := brk_ge (decide (lev (opE l[j]) < asked)) (showE l[j])
        omega
      refine ⟨fun w' hb' => ?_, kidT_len hj (by omega)⟩
      rw [kidT_showL l j hj]
      exact r6kid_any l[j] q P w' asked (IsE.turn hb'.size (fun b hb1 hb2 => ⟨hb'.block b hb2, hb1⟩) q _ hq) (KS j hj h') (KO j hj).1 (KO j hj).2 (by omega)
    have KP : ∀ j (hj : j < l.length) (q : R7), IsE w P q l[j] → (kidT (showL l) j 0).length ≤ 10000000000000 → PlainR q w (ba (kidT (showL l) j 0)) ∧ (ba (kidT (showL l) j 0)).size ≤ 2000000000000000 := by
      intro j hj q hq h
      have h0 : kidT (showL l) j 0 = showE l[j] := by
        rw [kidT_showL l j hj, decide_eq_false (by have := (lev_range (opE l[j])).1; omega)]
        rfl
      rw [h0] at h ⊢
      exact ⟨fun w' hb' => KS j hj h q w' (IsE.turn hb'.size (fun b hb1 hb2 => ⟨hb'.block b hb2, hb1⟩) q _ hq), by rw [ba_size]; omega⟩
    have ss : (ba s).size ≤ 2000000000000000 := by rw [ba_size]; omega
    have qsz : (ba (quoteL s)).size ≤ 2000000000000000 := by rw [ba_size]; have := quoteL_len s; omega
    show NodeR r w (ba (showE _))
    rw [showE] at hlen ⊢
    by_cases h13 : 13 ≤ k ∧ k ≤ 24
    · have hw : wants k = 2 := by unfold wants; rw [if_neg (by omega), if_pos (by omega)]
      have hl2 : l.length = 2 := by rw [ar (by omega), hw]
      rw [body_two k b n s t i _ h13.1 h13.2] at hlen ⊢
      simp only [List.length_append, List.length_cons, List.length_nil] at hlen
      obtain ⟨g, off, hlo, hg, hat⟩ := kid_at hks (by omega)
      obtain ⟨q0, a0, hq0⟩ := hat 0 (by omega)
      obtain ⟨q1, a1, hq1⟩ := hat 1 (by omega)
      obtain ⟨K0, z0⟩ := KT 0 (by omega) (firstL k) q0 hq0 (by omega)
      obtain ⟨K1, z1⟩ := KT 1 (by omega) (lev k + 1) q1 hq1 (by omega)
      have := r6_two r q0 q1 w g off _ _ (by omega) (by omega) hlo (by omega) hg (by simpa using a0) (by simpa using a1) z0 z1 (by rw [hk]; exact K0) (by rw [hk]; exact K1)
      rw [hk] at this
      rw [← baApp, ← baApp, ← baApp, ← baApp]
      exact this
    · have hc : k = 1 ∨ k = 2 ∨ k = 3 ∨ k = 4 ∨ k = 5 ∨ k = 6 ∨ k = 7 ∨ k = 8 ∨ k = 9 ∨ k = 10 ∨ k = 11 ∨ k = 12 ∨ k = 25 := by omega
      clear h13
      rcases hc with rfl | rfl | rfl | rfl | rfl | rfl | rfl | rfl | rfl | rfl | rfl | rfl | rfl
      all_goals simp only [bodyE, reduceIte, Int.reduceEq] at hlen ⊢
      · have := r6_bool r w hk
        rw [hb] at this
        exact this
      · refine r6_long r w _ hk fun w' h => ?_
        rw [hn]
        exact rtext_any n nn w'
      · refine r6_str r w _ hk ?_
        rw [hs]
        exact fun w' _ => rquoteS s w' s1 (qs3 (.inl rfl))
      · rw [← baApp, ← baApp]
        refine r6_uid r w _ hk ?_
        rw [ht, hi]
        exact fun w' _ => r6uid_any t i w' t1 i1 (qi4 rfl)
      · have := r6_var r w hk
        rw [hs] at this
        exact this
      · rw [showL_texts] at hlen ⊢
        simp only [List.length_append, List.length_cons, List.length_nil] at hlen
        rw [← baApp, ← baApp]
        refine r6_set l r P w hk hll hks (by omega) (fun j hj => KS j hj ?_) (by omega)
        have := joinS_get (textsL l) j (by simpa [textsL] using hj)
        simp only [textsL, List.getElem_map] at this
        unfold textsL at hlen
        omega
      all_goals
        simp only [List.length_append, List.length_cons, List.length_nil] at hlen
        have hl2 := ar (by decide)
        simp only [wants, reduceIte, Int.reduceEq, Int.reduceLE, or_false, or_true, or_self, and_false, and_true] at hl2
        obtain ⟨g, off, hlo, hg, hat⟩ := kid_at hks (by omega)
        obtain ⟨q0, a0, hq0⟩ := hat 0 (by omega)
      · obtain ⟨K0, z0⟩ := KT 0 (by omega) 7 q0 hq0 (by omega)
        have := r6_get r q0 w g off _ hk hlo (by omega) hg (by simpa using a0) z0 K0 (by rw [hs]; exact ss)
        rw [hs] at this
        rw [← baApp, ← baApp]
        exact this
      · obtain ⟨K0, z0⟩ := KT 0 (by omega) 4 q0 hq0 (by omega)
        have := r6_has r q0 w g off _ hk hlo (by omega) hg (by simpa using a0) z0 K0 (by rw [hs]; exact ss)
        rw [hs] at this
        rw [← baApp, ← baApp]
        exact this
      · obtain ⟨q1, a1, hq1⟩ := hat 1 (by omega)
        obtain ⟨K0, z0⟩ := KT 0 (by omega) 7 q0 hq0 (by omega)
        obtain ⟨K1, z1⟩ := KP 1 (by omega) q1 hq1 (by omega)
        have := r6_holds r q0 q1 w g off _ _ hk hlo (by omega) hg (by simpa using a0) (by simpa using a1) z0 z1 K0 K1
        rw [← baApp, ← baApp, ← baApp]
        exact this
      · obtain ⟨K0, z0⟩ := KT 0 (by omega) 4 q0 hq0 (by omega)
        have := r6_like r q0 w g off _ hk hlo (by omega) hg (by simpa using a0) z0 K0 _ qsz (by rw [hs]; exact fun w' _ => rquoteS s w' s1 (qs3 (.inr rfl)))
        rw [← baApp, ← baApp]
        exact this
      · obtain ⟨K0, z0⟩ := KT 0 (by omega) 6 q0 hq0 (by omega)
        rw [← baApp]
        exact r6_not r q0 w g off _ hk hlo (by omega) hg (by simpa using a0) z0 K0
      · obtain ⟨K0, z0⟩ := KT 0 (by omega) 6 q0 hq0 (by omega)
        rw [← baApp]
        exact r6_neg r q0 w g off _ hk hlo (by omega) hg (by simpa using a0) z0 K0
      · obtain ⟨q1, a1, hq1⟩ := hat 1 (by omega)
        obtain ⟨q2, a2, hq2⟩ := hat 2 (by omega)
        obtain ⟨K0, z0⟩ := KP 0 (by omega) q0 hq0 (by omega)
        obtain ⟨K1, z1⟩ := KP 1 (by omega) q1 hq1 (by omega)
        obtain ⟨K2, z2⟩ := KP 2 (by omega) q2 hq2 (by omega)
        have := r6_if r q0 q1 q2 w g off _ _ _ hk hlo (by omega) hg (by simpa using a0) (by simpa using a1) (by simpa using a2) z0 z1 z2 K0 K1 K2
        rw [← baApp, ← baApp, ← baApp, ← baApp, ← baApp]
        exact this
end Go.Proofs.YtpblalklenebhaaDoor
