/-
  parse: what a tree's node may have.
-/
import Derived.Test.YtlakgnnjokienaaGreatDoorPaA
namespace Go.Proofs.YtlakgnnjokienaaGreatDoor
open Go.RowKit Go.Sort

def kidV (k : Int) : Int := if ary k = -2 then 0 else ary k
def kidB (k : Int) : Bool := !decide (ary k = -2)
set_option maxHeartbeats 4000000 in
set_option maxRecDepth 1000000 in
theorem kidsOf_any (k : Int) (w : World) :
    Calls Tryz.prog 58 #[.int .i64 k] w fun e w' => e = .returned (.tuple #[.int .i64 (kidV k), .bool (kidB k)]) ∧ w' = w := by
  by_cases hk : 1 ≤ k ∧ k ≤ 25
  · have h : k = 1 ∨ k = 2 ∨ k = 3 ∨ k = 4 ∨ k = 5 ∨ k = 6 ∨ k = 7 ∨ k = 8 ∨ k = 9 ∨ k = 10 ∨ k = 11 ∨ k = 12 ∨ k = 13 ∨ k = 14 ∨ k = 15 ∨ k = 16 ∨ k = 17 ∨ k = 18 ∨ k = 19 ∨ k = 20 ∨ k = 21 ∨ k = 22 ∨ k = 23 ∨ k = 24 ∨ k = 25 := by omega
    clear hk
    rcases h with rfl | rfl | rfl | rfl | rfl | rfl | rfl | rfl | rfl | rfl | rfl | rfl | rfl | rfl | rfl | rfl | rfl | rfl | rfl | rfl | rfl | rfl | rfl | rfl | rfl
    all_goals
      simp only [kidV, kidB, ary, reduceIte, Int.reduceEq, Int.reduceLE, Int.reduceNeg, and_true, and_false, and_self, or_false, or_true, or_self, decide_false, Bool.not_false]
      go_enter Tryz.func58, Tryz.ntmps58
      go_wp2
      exact bodyPost_ret (by simp [results, Tryz.results58, go_sem]) rfl ⟨rfl, rfl⟩
  · have e : ary k = -2 := by
      unfold ary
      rw [if_neg (by omega), if_neg (by omega), if_neg (by omega), if_neg (by omega), if_neg (by omega)]
    have e1 : kidV k = 0 := by unfold kidV; rw [if_pos e]
    have e2 : kidB k = false := by unfold kidB; rw [decide_eq_true e]; rfl
    rw [e1, e2]
    have c1 : ¬ k = 1 := by omega
    have c2 : ¬ k = 2 := by omega
    have c3 : ¬ k = 3 := by omega
    have c4 : ¬ k = 4 := by omega
    have c5 : ¬ k = 5 := by omega
    have c6 : ¬ k = 6 := by omega
    have c7 : ¬ k = 7 := by omega
    have c8 : ¬ k = 8 := by omega
    have c9 : ¬ k = 9 := by omega
    have c10 : ¬ k = 10 := by omega
    have c11 : ¬ k = 11 := by omega
    have c12 : ¬ k = 12 := by omega
    have c13 : ¬ k = 13 := by omega
    have c14 : ¬ k = 14 := by omega
    have c15 : ¬ k = 15 := by omega
    have c16 : ¬ k = 16 := by omega
    have c17 : ¬ k = 17 := by omega
    have c18 : ¬ k = 18 := by omega
    have c19 : ¬ k = 19 := by omega
    have c20 : ¬ k = 20 := by omega
    have c21 : ¬ k = 21 := by omega
    have c22 : ¬ k = 22 := by omega
    have c23 : ¬ k = 23 := by omega
    have c24 : ¬ k = 24 := by omega
    have c25 : ¬ k = 25 := by omega
    clear e e1 e2 hk
    go_enter Tryz.func58, Tryz.ntmps58
    go_wp2
    exact bodyPost_ret (by simp [results, Tryz.results58, go_sem]) rfl ⟨rfl, rfl⟩

def bareX (r : R7) : R7 := ⟨r.k, if r.k = 1 then r.b else false, if r.k = 2 then r.n else 0, if txOp r.k then r.s else ⟨#[]⟩, if r.k = 4 then r.t else ⟨#[]⟩, if r.k = 4 then r.i else ⟨#[]⟩, none, 0, 0⟩
theorem box2 (w : World) (o o' : Obj) : Below w.heap.size w ((w.alloc o).alloc o') := (new1 w o).trans ((new1 (w.alloc o) o').mono (new1 w o).size)
set_option maxHeartbeats 4000000 in
set_option maxRecDepth 1000000 in
theorem bare_any (r : R7) (w : World) :
    Calls Tryz.prog 60 #[r.val] w fun e w' => e = .returned (bareX r).val ∧ Below w.heap.size w w' := by
  obtain ⟨k, b, n, s, t, i, lo, ll, lc⟩ := r
  unfold bareX R7.val
  simp only
  have b3 : ∀ o o' o'', Below w.heap.size w (((w.alloc o).alloc o').alloc o'') := fun o o' o'' => (box2 w o o').trans ((new1 _ o'').mono (box2 w o o').size)
  by_cases hk : k = 1 ∨ k = 2 ∨ k = 3 ∨ k = 4 ∨ k = 5 ∨ k = 7 ∨ k = 8 ∨ k = 10
  · rcases hk with rfl | rfl | rfl | rfl | rfl | rfl | rfl | rfl
    all_goals
      simp only [txOp, reduceIte, decide_true, decide_false, Int.reduceEq, or_false, or_true, or_self, Bool.false_eq_true]
      go_enter Tryz.func60, Tryz.ntmps60
      go_wp2
      exact bodyPost_ret (by simp [results, Tryz.results60, go_sem]) rfl ⟨rfl, b3 _ _ _⟩
  · have c1 : ¬ k = 1 := by omega
    have c2 : ¬ k = 2 := by omega
    have c3 : ¬ k = 3 := by omega
    have c4 : ¬ k = 4 := by omega
    have c5 : ¬ k = 5 := by omega
    have c7 : ¬ k = 7 := by omega
    have c8 : ¬ k = 8 := by omega
    have c10 : ¬ k = 10 := by omega
    have c : txOp k = false := by unfold txOp; exact decide_eq_false (by omega)
    rw [if_neg c1, if_neg c2, c, if_neg c4, if_neg c4, if_neg (by simp)]
    clear hk c
    go_enter Tryz.func60, Tryz.ntmps60
    go_wp2
    exact bodyPost_ret (by simp [results, Tryz.results60, go_sem]) rfl ⟨rfl, b3 _ _ _⟩

def SameX (r r' : R7) : Prop := r.b = r'.b ∧ r.n = r'.n ∧ r.s = r'.s ∧ r.t = r'.t ∧ r.i = r'.i
set_option maxHeartbeats 2000000 in
set_option maxRecDepth 1000000 in
theorem phasMore_yes (r r' : R7) (w : World) (h : ¬ SameX r r') :
    Calls Tryz.prog 59 #[r.val, r'.val] w fun e w' => e = .returned (.bool true) ∧ Below w.heap.size w w' := by
  obtain ⟨k, b, n, s, t, i, lo, ll, lc⟩ := r
  obtain ⟨k', b', n', s', t', i', lo', ll', lc'⟩ := r'
  unfold SameX at h
  unfold R7.val
  simp only at h ⊢
  by_cases hb0 : b = b'
  case neg =>
    have hb : (b == b') = false := by simpa using hb0
    clear h
    go_enter Tryz.func59, Tryz.ntmps59
    go_wp2
    go_ret
    exact ⟨rfl, box2 _ _ _⟩
  subst hb0
  by_cases hn : n = n'
  case neg =>
    have hb : (n == n') = false := by simpa using hn
    clear h
    go_enter Tryz.func59, Tryz.ntmps59
    go_wp2
    go_ret
    exact ⟨rfl, box2 _ _ _⟩
  subst hn
  by_cases hs : s = s'
  case neg =>
    have hb : (s.toList == s'.toList) = false := bytes_ne hs
    clear h
    go_enter Tryz.func59, Tryz.ntmps59
    go_wp2
    go_ret
    exact ⟨rfl, box2 _ _ _⟩
  subst hs
  by_cases ht : t = t'
  case neg =>
    have hb : (t.toList == t'.toList) = false := bytes_ne ht
    clear h
    go_enter Tryz.func59, Tryz.ntmps59
    go_wp2
    go_ret
    exact ⟨rfl, box2 _ _ _⟩
  subst ht
  by_cases hi : i = i'
  case neg =>
    have hb : (i.toList == i'.toList) = false := bytes_ne hi
    clear h
    go_enter Tryz.func59, Tryz.ntmps59
    go_wp2
    go_ret
    exact ⟨ret_bool (by simp), box2 _ _ _⟩
  subst hi
  exact absurd ⟨rfl, rfl, rfl, rfl, rfl⟩ h

set_option maxHeartbeats 2000000 in
set_option maxRecDepth 1000000 in
theorem phasMore_no (r r' : R7) (w : World) (h : SameX r r') :
    Calls Tryz.prog 59 #[r.val, r'.val] w fun e w' => e = .returned (.bool false) ∧ Below w.heap.size w w' := by
  obtain ⟨k, b, n, s, t, i, lo, ll, lc⟩ := r
  obtain ⟨k', b', n', s', t', i', lo', ll', lc'⟩ := r'
  unfold SameX at h
  unfold R7.val
  simp only at h ⊢
  obtain ⟨rfl, rfl, rfl, rfl, rfl⟩ := h
  go_enter Tryz.func59, Tryz.ntmps59
  go_wp2
  go_ret
  exact ⟨ret_bool (by simp), box2 _ _ _⟩

instance (r r' : R7) : Decidable (SameX r r') := by unfold SameX; infer_instance
def moreX (r : R7) : Bool := decide (¬ SameX r (bareX r))
theorem phasMore_any (r : R7) (w : World) : Calls Tryz.prog 59 #[r.val, (bareX r).val] w fun e w' => e = .returned (.bool (moreX r)) ∧ Below w.heap.size w w' := by
  unfold moreX
  by_cases h : SameX r (bareX r)
  · rw [decide_eq_false (by simpa using h)]
    exact phasMore_no r _ w h
  · rw [decide_eq_true h]
    exact phasMore_yes r _ w h

set_option maxRecDepth 1000000 in
theorem checkName_any (b : Bool) (w : World) : Calls Tryz.prog 71 #[.bool b] w fun e w' => e = .returned (.int .i64 (if b then 0 else 15)) ∧ w' = w := by
  cases b
  all_goals
    go_enter Tryz.func71, Tryz.ntmps71
    go_wp2
    go_ret
    exact ⟨rfl, rfl⟩
set_option maxRecDepth 1000000 in
theorem ident_any (s : ByteArray) (w : World) (hs : s.size ≤ 1099511627776) : Calls Tryz.prog 73 #[.string s] w fun e w' => e = .returned (.bool (nameB s.data.toList)) ∧ Below w.heap.size w w' := by
  have N := fun w => isName_any s w hs
  go_enter Tryz.func73, Tryz.ntmps73
  go_wp2_with fail
  refine (N _).mono ?_
  rintro e w1 ⟨rfl, b1⟩
  go_wp2
  go_ret
  exact ⟨rfl, b1⟩
end Go.Proofs.YtlakgnnjokienaaGreatDoor
