/-
  show.Expr of has, contains, if.
-/
import Derived.Test.YtpblalklenebhaaDoorShD
namespace Go.Proofs.YtpblalklenebhaaDoor
open Go.RowKit Go.Sort

set_option maxHeartbeats 4000000 in
set_option maxRecDepth 1000000 in
theorem expr_has (r : R7) (w : World) (A : ByteArray) (hk : r.k = 8) (hA : A.size ≤ 2000000000000000) (hs : r.s.size ≤ 2000000000000000) (K0 : KidIs r w 0 4 A) :
    NodeIs r w (A ++ ⟨#[32, 104, 97, 115, 32]⟩ ++ r.s) := by
  unfold NodeIs
  obtain ⟨k, b, n, s, t, i, lo, ll, lc⟩ := r
  subst hk
  have n1 := newS w (.cells #[.int .i64 8, .bool b, .int .i64 n, .string s, .string t, .string i, .slice lo ll lc] 32)
  have Z1 : (w.alloc (.cells #[.int .i64 8, .bool b, .int .i64 n, .string s, .string t, .string i, .slice lo ll lc] 32)).heap[w.heap.size]? = some (.cells #[.int .i64 8, .bool b, .int .i64 n, .string s, .string t, .string i, .slice lo ll lc] 32 (0, 0)) := alloc_heap _ _
  simp only at hs
  have g1 : ¬ 9223372036854775807 < A.size + 5 := by omega
  have g2 : ¬ 9223372036854775807 < A.size + 5 + s.size := by omega
  clear hA hs
  unfold KidIs R7.val at K0
  unfold R7.val
  simp only at K0 ⊢
  go_enter Tryd.func11, Tryd.ntmps11
  go_upto_region 1 with fail
  generalize w.alloc _ = w1 at *
  obtain ⟨x0, x1, x2, x3, x4, x5, x6, _⟩ := blk7 Z1
  go_upto_region 20 with fail
  have z0 := cell_regrown x0
  have z1 := cell_regrown x1
  have z2 := cell_regrown x2
  have z3 := cell_regrown x3
  have z4 := cell_regrown x4
  have z5 := cell_regrown x5
  have z6 := cell_regrown x6
  have cA := fun d os => Calls.regrown_of (w := w1) (d := d) (os := os) (K0 (grow (redrawn w1 d) os) (n1.trans ((below_regrown w1 d os).mono n1.size)))
  clear x0 x1 x2 x3 x4 x5 x6 K0 Z1
  refine wp_region_quiet_below (by kernel_rfl) (by kernel_rfl) ?_
  repeat (quiet_step (exact cA _ _))
  clear cA
  refine wpQuiet_nil ?_
  intro _ hw'
  obtain ⟨⟨dq, osq⟩, hw''⟩ := hw'
  subst hw''
  have b3 := n1.trans ((below_regrown w1 dq osq).mono n1.size)
  generalize grow (redrawn w1 dq) osq = w4 at *
  clear z0 z1 z2 z3 z4 z5 z6
  go_wp2
  go_ret
  exact ⟨rfl, b3⟩

set_option maxHeartbeats 4000000 in
set_option maxRecDepth 1000000 in
theorem expr_holds (r : R7) (w : World) (A B : ByteArray) (hk : r.k = 9) (hA : A.size ≤ 2000000000000000) (hB : B.size ≤ 2000000000000000) (K0 : KidIs r w 0 7 A) (K1 : KidIs r w 1 0 B) :
    NodeIs r w (A ++ ⟨#[46, 99, 111, 110, 116, 97, 105, 110, 115, 40]⟩ ++ B ++ ⟨#[41]⟩) := by
  unfold NodeIs
  obtain ⟨k, b, n, s, t, i, lo, ll, lc⟩ := r
  subst hk
  have n1 := newS w (.cells #[.int .i64 9, .bool b, .int .i64 n, .string s, .string t, .string i, .slice lo ll lc] 32)
  have Z1 : (w.alloc (.cells #[.int .i64 9, .bool b, .int .i64 n, .string s, .string t, .string i, .slice lo ll lc] 32)).heap[w.heap.size]? = some (.cells #[.int .i64 9, .bool b, .int .i64 n, .string s, .string t, .string i, .slice lo ll lc] 32 (0, 0)) := alloc_heap _ _
  have g1 : ¬ 9223372036854775807 < A.size + 10 := by omega
  have g2 : ¬ 9223372036854775807 < A.size + 10 + B.size := by omega
  have g3 : ¬ 9223372036854775807 < A.size + 10 + B.size + 1 := by omega
  clear hA hB
  unfold KidIs R7.val at K0 K1
  unfold R7.val
  simp only at K0 K1 ⊢
  go_enter Tryd.func11, Tryd.ntmps11
  go_upto_region 1 with fail
  generalize w.alloc _ = w1 at *
  obtain ⟨x0, x1, x2, x3, x4, x5, x6, _⟩ := blk7 Z1
  go_upto_region 25 with fail
  have z0 := cell_regrown x0
  have z1 := cell_regrown x1
  have z2 := cell_regrown x2
  have z3 := cell_regrown x3
  have z4 := cell_regrown x4
  have z5 := cell_regrown x5
  have z6 := cell_regrown x6
  have cA := fun d os => Calls.regrown_of (w := w1) (d := d) (os := os) (K0 (grow (redrawn w1 d) os) (n1.trans ((below_regrown w1 d os).mono n1.size)))
  have cB := fun d os => Calls.regrown_of (w := w1) (d := d) (os := os) (K1 (grow (redrawn w1 d) os) (n1.trans ((below_regrown w1 d os).mono n1.size)))
  clear x0 x1 x2 x3 x4 x5 x6 K0 K1 Z1
  refine wp_region_quiet_below (by kernel_rfl) (by kernel_rfl) ?_
  iterate 2 (quiet_step (exact cA _ _))
  clear cA
  repeat (quiet_step (exact cB _ _))
  clear cB
  refine wpQuiet_nil ?_
  intro _ hw'
  obtain ⟨⟨dq, osq⟩, hw''⟩ := hw'
  subst hw''
  have b3 := n1.trans ((below_regrown w1 dq osq).mono n1.size)
  generalize grow (redrawn w1 dq) osq = w4 at *
  clear z0 z1 z2 z3 z4 z5 z6
  go_wp2
  go_ret
  exact ⟨rfl, b3⟩

set_option maxHeartbeats 4000000 in
set_option maxRecDepth 1000000 in
theorem expr_if (r : R7) (w : World) (A B C : ByteArray) (hk : r.k = 25) (hA : A.size ≤ 2000000000000000) (hB : B.size ≤ 2000000000000000) (hC : C.size ≤ 2000000000000000) (K0 : KidIs r w 0 0 A) (K1 : KidIs r w 1 0 B) (K2 : KidIs r w 2 0 C) :
    NodeIs r w (⟨#[105, 102, 32]⟩ ++ A ++ ⟨#[32, 116, 104, 101, 110, 32]⟩ ++ B ++ ⟨#[32, 101, 108, 115, 101, 32]⟩ ++ C) := by
  unfold NodeIs
  obtain ⟨k, b, n, s, t, i, lo, ll, lc⟩ := r
  subst hk
  have n1 := newS w (.cells #[.int .i64 25, .bool b, .int .i64 n, .string s, .string t, .string i, .slice lo ll lc] 32)
  have Z1 : (w.alloc (.cells #[.int .i64 25, .bool b, .int .i64 n, .string s, .string t, .string i, .slice lo ll lc] 32)).heap[w.heap.size]? = some (.cells #[.int .i64 25, .bool b, .int .i64 n, .string s, .string t, .string i, .slice lo ll lc] 32 (0, 0)) := alloc_heap _ _
  have g1 : ¬ 9223372036854775807 < 3 + A.size := by omega
  have g2 : ¬ 9223372036854775807 < 3 + A.size + 6 := by omega
  have g3 : ¬ 9223372036854775807 < 3 + A.size + 6 + B.size := by omega
  have g4 : ¬ 9223372036854775807 < 3 + A.size + 6 + B.size + 6 := by omega
  have g5 : ¬ 9223372036854775807 < 3 + A.size + 6 + B.size + 6 + C.size := by omega
  clear hA hB hC
  unfold KidIs R7.val at K0 K1 K2
  unfold R7.val
  simp only at K0 K1 K2 ⊢
  go_enter Tryd.func11, Tryd.ntmps11
  go_upto_region 1 with fail
  generalize w.alloc _ = w1 at *
  obtain ⟨x0, x1, x2, x3, x4, x5, x6, _⟩ := blk7 Z1
  go_upto_region 28 with fail
  have z0 := cell_regrown x0
  have z1 := cell_regrown x1
  have z2 := cell_regrown x2
  have z3 := cell_regrown x3
  have z4 := cell_regrown x4
  have z5 := cell_regrown x5
  have z6 := cell_regrown x6
  have cA := fun d os => Calls.regrown_of (w := w1) (d := d) (os := os) (K0 (grow (redrawn w1 d) os) (n1.trans ((below_regrown w1 d os).mono n1.size)))
  have cB := fun d os => Calls.regrown_of (w := w1) (d := d) (os := os) (K1 (grow (redrawn w1 d) os) (n1.trans ((below_regrown w1 d os).mono n1.size)))
  have cC := fun d os => Calls.regrown_of (w := w1) (d := d) (os := os) (K2 (grow (redrawn w1 d) os) (n1.trans ((below_regrown w1 d os).mono n1.size)))
  clear x0 x1 x2 x3 x4 x5 x6 K0 K1 K2 Z1
  refine wp_region_quiet_below (by kernel_rfl) (by kernel_rfl) ?_
  iterate 2 (quiet_step (exact cA _ _))
  clear cA
  iterate 4 (quiet_step (exact cB _ _))
  clear cB
  repeat (quiet_step (exact cC _ _))
  clear cC
  refine wpQuiet_nil ?_
  intro _ hw'
  obtain ⟨⟨dq, osq⟩, hw''⟩ := hw'
  subst hw''
  have b3 := n1.trans ((below_regrown w1 dq osq).mono n1.size)
  generalize grow (redrawn w1 dq) osq = w4 at *
  clear z0 z1 z2 z3 z4 z5 z6
  go_wp2
  go_ret
  exact ⟨rfl, b3⟩

end Go.Proofs.YtpblalklenebhaaDoor
