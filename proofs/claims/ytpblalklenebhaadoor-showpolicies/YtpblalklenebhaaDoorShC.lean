/-
  show.ofTwo: what it returns.
-/
import Derived.Test.YtpblalklenebhaaDoorShB
import Derived.Lib.QuietBelow
import Derived.BigQuiet
import Derived.Deep.QuietTactic
namespace Go.Proofs.YtpblalklenebhaaDoor
open Go.RowKit Go.Sort

theorem sgnO_len (k : Int) : (sgnO k).length ≤ 2 := by
  unfold sgnO
  repeat' split
  all_goals simp
theorem sgnO_ne {k : Int} (h1 : 13 ≤ k) (h2 : k ≤ 24) : sgnO k ≠ [] := by
  have h : k = 13 ∨ k = 14 ∨ k = 15 ∨ k = 16 ∨ k = 17 ∨ k = 18 ∨ k = 19 ∨ k = 20 ∨ k = 21 ∨ k = 22 ∨ k = 23 ∨ k = 24 := by omega
  rcases h with rfl | rfl | rfl | rfl | rfl | rfl | rfl | rfl | rfl | rfl | rfl | rfl <;> decide
theorem lev_range (k : Int) : 0 ≤ lev k ∧ lev k ≤ 8 := by
  unfold lev
  repeat' split
  all_goals omega

/-- What show.kid is to return of a node's kid. -/
def KidIs (r : R7) (w : World) (j asked : Int) (A : ByteArray) : Prop :=
  ∀ w', Below w.heap.size w w' → Calls Tryd.prog 22 #[r.val, .int .i64 j, .int .i64 asked] w' fun e w'' => e = .returned (.string A) ∧ Below w'.heap.size w' w''

theorem KidIs.below {r : R7} {w w1 : World} {j asked : Int} {A : ByteArray} (h : KidIs r w j asked A) (hb : Below w.heap.size w w1) : KidIs r w1 j asked A :=
  fun w' h' => h w' (hb.trans (h'.mono hb.size))
theorem kidIs_of {k : Int} {b : Bool} {n : Int} {s t i : List UInt8} {l : List Ex} {r : R7} {P : Nat → Prop} {w : World} {j : Nat} {asked : Int} (hT : Tab6 w) (hx : IsE w P r (.mk k b n s t i l)) (hj : j < l.length)
    (C : Shows P l[j]) (hlen : (showE l[j]).length ≤ 1000000000000000) : KidIs r w j asked (ba (kidT (showL l) j asked)) :=
  fun w' hb => skid_any k b n s t i l r P w' j asked (hT.below hb) (IsE.turn hb.size (fun b hb1 hb2 => ⟨hb.block b hb2, hb1⟩) r _ hx) hj C hlen
theorem kidT_len {l : List Ex} {j : Nat} {asked : Int} (hj : j < l.length) (hlen : (showE l[j]).length ≤ 1000000000000000) : (ba (kidT (showL l) j asked)).size ≤ 2000000000000000 := by
  rw [ba_size, kidT_showL l j hj]
  have := brk_len (decide (lev (opE l[j]) < asked)) (showE l[j])
  omega

set_option maxHeartbeats 4000000 in
set_option maxRecDepth 1000000 in
theorem sofTwo_any (r : R7) (w : World) (A B : ByteArray) (h1 : 13 ≤ r.k) (h2 : r.k ≤ 24) (hA : A.size ≤ 2000000000000000) (hB : B.size ≤ 2000000000000000) (K0 : KidIs r w 0 (firstL r.k) A) (K1 : KidIs r w 1 (lev r.k + 1) B) :
    Calls Tryd.prog 28 #[r.val] w fun e w' => e = .returned (.string (A ++ ⟨#[32]⟩ ++ ⟨(sgnO r.k).toArray⟩ ++ ⟨#[32]⟩ ++ B)) ∧ Below w.heap.size w w' := by
  have n1 := newS w (.cells #[.int .i64 r.k, .bool r.b, .int .i64 r.n, .string r.s, .string r.t, .string r.i, .slice r.lo r.ll r.lc] 32)
  have Z1 : (w.alloc (.cells #[.int .i64 r.k, .bool r.b, .int .i64 r.n, .string r.s, .string r.t, .string r.i, .slice r.lo r.ll r.lc] 32)).heap[w.heap.size]? = some (.cells #[.int .i64 r.k, .bool r.b, .int .i64 r.n, .string r.s, .string r.t, .string r.i, .slice r.lo r.ll r.lc] 32 (0, 0)) := alloc_heap _ _
  have L := fun w => slevel_any r.k w
  have S := fun w => ssignOf_any r.k w
  have hS : (⟨(sgnO r.k).toArray⟩ : ByteArray).size ≤ 2 := by show (sgnO r.k).toArray.size ≤ 2; simpa using sgnO_len r.k
  have hSe : (⟨(sgnO r.k).toArray⟩ : ByteArray).toList.isEmpty = false := by
    have := sgnO_ne h1 h2
    rw [ByteArray.toList_eq]
    simpa using this
  have hlv : lev r.k = 1 ∨ lev r.k = 2 ∨ lev r.k = 3 ∨ lev r.k = 4 ∨ lev r.k = 5 := by
    clear K0 K1 L S hS hSe n1 Z1
    unfold lev
    repeat' split
    all_goals omega
  unfold firstL at K0
  generalize (⟨(sgnO r.k).toArray⟩ : ByteArray) = Sg at *
  generalize lev r.k = lv at *
  have g1 : ¬ 9223372036854775807 < A.size + 1 := by omega
  have g2 : ¬ 9223372036854775807 < A.size + 1 + Sg.size := by omega
  have g3 : ¬ 9223372036854775807 < A.size + 1 + Sg.size + 1 := by omega
  have g4 : ¬ 9223372036854775807 < A.size + 1 + Sg.size + 1 + B.size := by omega
  have key : ∀ lf : Int, lf = (if lv = 3 then 4 else lv) → KidIs r w 0 lf A := fun lf h => h ▸ K0
  clear K0 hA hB hS h1 h2
  rcases hlv with rfl | rfl | rfl | rfl | rfl
  · have K0 : KidIs r w 0 1 A := key 1 rfl
    have K1 : KidIs r w 1 2 B := K1
    clear key
    unfold KidIs R7.val at K0 K1
    unfold R7.val
    go_enter Tryd.func28, Tryd.ntmps28
    go_upto_region 1 with fail
    generalize w.alloc _ = w1 at *
    obtain ⟨x0, x1, x2, x3, x4, x5, x6, _⟩ := blk7 Z1
    go_wp2_with fail
    refine (S _).mono ?_
    rintro e w2 ⟨rfl, rfl⟩
    go_wp2_with fail
    refine (L _).mono ?_
    rintro e w3 ⟨rfl, rfl⟩
    go_upto_region 8 with fail
    have z0 := cell_regrown x0
    have z1 := cell_regrown x1
    have z2 := cell_regrown x2
    have z3 := cell_regrown x3
    have z4 := cell_regrown x4
    have z5 := cell_regrown x5
    have z6 := cell_regrown x6
    have cA := fun d os => Calls.regrown_of (w := w3) (d := d) (os := os) (K0 (grow (redrawn w3 d) os) (n1.trans ((below_regrown w3 d os).mono n1.size)))
    have cB := fun d os => Calls.regrown_of (w := w3) (d := d) (os := os) (K1 (grow (redrawn w3 d) os) (n1.trans ((below_regrown w3 d os).mono n1.size)))
    clear x0 x1 x2 x3 x4 x5 x6 K0 K1 L S Z1 hSe
    refine wp_region_quiet_below (by kernel_rfl) (by kernel_rfl) ?_
    iterate 3 (quiet_step (exact cA _ _))
    clear cA
    repeat (quiet_step (exact cB _ _))
    clear cB
    refine wpQuiet_nil ?_
    intro _ hw'
    obtain ⟨⟨dq, osq⟩, hw''⟩ := hw'
    subst hw''
    have b3 := n1.trans ((below_regrown w3 dq osq).mono n1.size)
    generalize grow (redrawn w3 dq) osq = w4 at *
    clear z0 z1 z2 z3 z4 z5 z6
    go_wp2
    go_ret
    exact ⟨rfl, b3⟩
  · have K0 : KidIs r w 0 2 A := key 2 rfl
    have K1 : KidIs r w 1 3 B := K1
    clear key
    unfold KidIs R7.val at K0 K1
    unfold R7.val
    go_enter Tryd.func28, Tryd.ntmps28
    go_upto_region 1 with fail
    generalize w.alloc _ = w1 at *
    obtain ⟨x0, x1, x2, x3, x4, x5, x6, _⟩ := blk7 Z1
    go_wp2_with fail
    refine (S _).mono ?_
    rintro e w2 ⟨rfl, rfl⟩
    go_wp2_with fail
    refine (L _).mono ?_
    rintro e w3 ⟨rfl, rfl⟩
    go_upto_region 8 with fail
    have z0 := cell_regrown x0
    have z1 := cell_regrown x1
    have z2 := cell_regrown x2
    have z3 := cell_regrown x3
    have z4 := cell_regrown x4
    have z5 := cell_regrown x5
    have z6 := cell_regrown x6
    have cA := fun d os => Calls.regrown_of (w := w3) (d := d) (os := os) (K0 (grow (redrawn w3 d) os) (n1.trans ((below_regrown w3 d os).mono n1.size)))
    have cB := fun d os => Calls.regrown_of (w := w3) (d := d) (os := os) (K1 (grow (redrawn w3 d) os) (n1.trans ((below_regrown w3 d os).mono n1.size)))
    clear x0 x1 x2 x3 x4 x5 x6 K0 K1 L S Z1 hSe
    refine wp_region_quiet_below (by kernel_rfl) (by kernel_rfl) ?_
    iterate 3 (quiet_step (exact cA _ _))
    clear cA
    repeat (quiet_step (exact cB _ _))
    clear cB
    refine wpQuiet_nil ?_
    intro _ hw'
    obtain ⟨⟨dq, osq⟩, hw''⟩ := hw'
    subst hw''
    have b3 := n1.trans ((below_regrown w3 dq osq).mono n1.size)
    generalize grow (redrawn w3 dq) osq = w4 at *
    clear z0 z1 z2 z3 z4 z5 z6
    go_wp2
    go_ret
    exact ⟨rfl, b3⟩
  · have K0 : KidIs r w 0 4 A := key 4 rfl
    have K1 : KidIs r w 1 4 B := K1
    clear key
    unfold KidIs R7.val at K0 K1
    unfold R7.val
    go_enter Tryd.func28, Tryd.ntmps28
    go_upto_region 1 with fail
    generalize w.alloc _ = w1 at *
    obtain ⟨x0, x1, x2, x3, x4, x5, x6, _⟩ := blk7 Z1
    go_wp2_with fail
    refine (S _).mono ?_
    rintro e w2 ⟨rfl, rfl⟩
    go_wp2_with fail
    refine (L _).mono ?_
    rintro e w3 ⟨rfl, rfl⟩
    go_upto_region 8 with fail
    have z0 := cell_regrown x0
    have z1 := cell_regrown x1
    have z2 := cell_regrown x2
    have z3 := cell_regrown x3
    have z4 := cell_regrown x4
    have z5 := cell_regrown x5
    have z6 := cell_regrown x6
    have cA := fun d os => Calls.regrown_of (w := w3) (d := d) (os := os) (K0 (grow (redrawn w3 d) os) (n1.trans ((below_regrown w3 d os).mono n1.size)))
    have cB := fun d os => Calls.regrown_of (w := w3) (d := d) (os := os) (K1 (grow (redrawn w3 d) os) (n1.trans ((below_regrown w3 d os).mono n1.size)))
    clear x0 x1 x2 x3 x4 x5 x6 K0 K1 L S Z1 hSe
    refine wp_region_quiet_below (by kernel_rfl) (by kernel_rfl) ?_
    iterate 3 (quiet_step (exact cA _ _))
    clear cA
    repeat (quiet_step (exact cB _ _))
    clear cB
    refine wpQuiet_nil ?_
    intro _ hw'
    obtain ⟨⟨dq, osq⟩, hw''⟩ := hw'
    subst hw''
    have b3 := n1.trans ((below_regrown w3 dq osq).mono n1.size)
    generalize grow (redrawn w3 dq) osq = w4 at *
    clear z0 z1 z2 z3 z4 z5 z6
    go_wp2
    go_ret
    exact ⟨rfl, b3⟩
  · have K0 : KidIs r w 0 4 A := key 4 rfl
    have K1 : KidIs r w 1 5 B := K1
    clear key
    unfold KidIs R7.val at K0 K1
    unfold R7.val
    go_enter Tryd.func28, Tryd.ntmps28
    go_upto_region 1 with fail
    generalize w.alloc _ = w1 at *
    obtain ⟨x0, x1, x2, x3, x4, x5, x6, _⟩ := blk7 Z1
    go_wp2_with fail
    refine (S _).mono ?_
    rintro e w2 ⟨rfl, rfl⟩
    go_wp2_with fail
    refine (L _).mono ?_
    rintro e w3 ⟨rfl, rfl⟩
    go_upto_region 8 with fail
    have z0 := cell_regrown x0
    have z1 := cell_regrown x1
    have z2 := cell_regrown x2
    have z3 := cell_regrown x3
    have z4 := cell_regrown x4
    have z5 := cell_regrown x5
    have z6 := cell_regrown x6
    have cA := fun d os => Calls.regrown_of (w := w3) (d := d) (os := os) (K0 (grow (redrawn w3 d) os) (n1.trans ((below_regrown w3 d os).mono n1.size)))
    have cB := fun d os => Calls.regrown_of (w := w3) (d := d) (os := os) (K1 (grow (redrawn w3 d) os) (n1.trans ((below_regrown w3 d os).mono n1.size)))
    clear x0 x1 x2 x3 x4 x5 x6 K0 K1 L S Z1 hSe
    refine wp_region_quiet_below (by kernel_rfl) (by kernel_rfl) ?_
    iterate 3 (quiet_step (exact cA _ _))
    clear cA
    repeat (quiet_step (exact cB _ _))
    clear cB
    refine wpQuiet_nil ?_
    intro _ hw'
    obtain ⟨⟨dq, osq⟩, hw''⟩ := hw'
    subst hw''
    have b3 := n1.trans ((below_regrown w3 dq osq).mono n1.size)
    generalize grow (redrawn w3 dq) osq = w4 at *
    clear z0 z1 z2 z3 z4 z5 z6
    go_wp2
    go_ret
    exact ⟨rfl, b3⟩
  · have K0 : KidIs r w 0 5 A := key 5 rfl
    have K1 : KidIs r w 1 6 B := K1
    clear key
    unfold KidIs R7.val at K0 K1
    unfold R7.val
    go_enter Tryd.func28, Tryd.ntmps28
    go_upto_region 1 with fail
    generalize w.alloc _ = w1 at *
    obtain ⟨x0, x1, x2, x3, x4, x5, x6, _⟩ := blk7 Z1
    go_wp2_with fail
    refine (S _).mono ?_
    rintro e w2 ⟨rfl, rfl⟩
    go_wp2_with fail
    refine (L _).mono ?_
    rintro e w3 ⟨rfl, rfl⟩
    go_upto_region 8 with fail
    have z0 := cell_regrown x0
    have z1 := cell_regrown x1
    have z2 := cell_regrown x2
    have z3 := cell_regrown x3
    have z4 := cell_regrown x4
    have z5 := cell_regrown x5
    have z6 := cell_regrown x6
    have cA := fun d os => Calls.regrown_of (w := w3) (d := d) (os := os) (K0 (grow (redrawn w3 d) os) (n1.trans ((below_regrown w3 d os).mono n1.size)))
    have cB := fun d os => Calls.regrown_of (w := w3) (d := d) (os := os) (K1 (grow (redrawn w3 d) os) (n1.trans ((below_regrown w3 d os).mono n1.size)))
    clear x0 x1 x2 x3 x4 x5 x6 K0 K1 L S Z1 hSe
    refine wp_region_quiet_below (by kernel_rfl) (by kernel_rfl) ?_
    iterate 3 (quiet_step (exact cA _ _))
    clear cA
    repeat (quiet_step (exact cB _ _))
    clear cB
    refine wpQuiet_nil ?_
    intro _ hw'
    obtain ⟨⟨dq, osq⟩, hw''⟩ := hw'
    subst hw''
    have b3 := n1.trans ((below_regrown w3 dq osq).mono n1.size)
    generalize grow (redrawn w3 dq) osq = w4 at *
    clear z0 z1 z2 z3 z4 z5 z6
    go_wp2
    go_ret
    exact ⟨rfl, b3⟩
end Go.Proofs.YtpblalklenebhaaDoor
