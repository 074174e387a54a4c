/-
  show.Expr: what it returns of any tree such as may be, and not too great.
-/
import Derived.Test.YtpblalklenebhaaDoorShE
import Derived.Test.YtpblalklenebhaaDoorShF
import Derived.Test.YtpblalklenebhaaDoorShH
import Derived.Test.YtpblalklenebhaaDoorShU
import Derived.Test.YtpblalklenebhaaDoorNRefT
namespace Go.Proofs.YtpblalklenebhaaDoor
open Go.RowKit Go.Sort

theorem ba_append (a b : List UInt8) : ba a ++ ba b = ba (a ++ b) := by
  simp [ba, ByteArray.ext_iff, ByteArray.data_append]
/-- How many kids an operation wants. -/
def wants (k : Int) : Nat := if k = 7 ∨ k = 8 ∨ k = 10 ∨ k = 11 ∨ k = 12 then 1 else if k = 9 ∨ (13 ≤ k ∧ k ≤ 24) then 2 else if k = 25 then 3 else 0
mutual
def okS : Ex → Bool
  | .mk k _ n s t i l => decide (1 ≤ k ∧ k ≤ 25) && (decide (-9223372036854775808 ≤ n ∧ n ≤ 9223372036854775807) && (decide (s.length ≤ 1000000000) && (decide (t.length ≤ 1000000000) && (decide (i.length ≤ 1000000000) && (decide (wants k ≤ l.length) && (decide (l.length ≤ 100000) && okSs l))))))
def okSs : List Ex → Bool
  | [] => true
  | e :: l => okS e && okSs l
end
theorem okSs_get : ∀ (l : List Ex) (j : Nat) (h : j < l.length), okSs l = true → okS l[j] = true
  | [], j, h, _ => by simp at h
  | e :: l, 0, _, h => by
    unfold okSs at h
    simp only [Bool.and_eq_true] at h
    exact h.1
  | e :: l, j + 1, hj, h => by
    unfold okSs at h
    simp only [Bool.and_eq_true] at h
    exact okSs_get l j (by simpa using hj) h.2
theorem showL_texts : ∀ l : List Ex, (showL l).map (·.2) = textsL l
  | [] => rfl
  | x :: l => by
    have := showL_texts l
    unfold textsL at this
    rw [showL, List.map_cons, this]
    rfl
theorem sumL_get : ∀ (l : List (List UInt8)) (j : Nat) (h : j < l.length), l[j].length ≤ sumL l
  | [], j, h => by simp at h
  | s :: l, 0, _ => by simp [sumL]
  | s :: l, j + 1, h => by
    have := sumL_get l j (by simpa using h)
    simp only [List.getElem_cons_succ]
    simp only [sumL, List.map_cons, List.sum_cons] at this ⊢
    omega
theorem joinS_get (l : List (List UInt8)) (j : Nat) (h : j < l.length) : l[j].length ≤ (joinS [44, 32] l).length := by
  have := sumL_get l j h
  rw [joinS_len _ _ (by omega)]
  omega
theorem body_two (k : Int) (b : Bool) (n : Int) (s t i : List UInt8) (ks : List (Int × List UInt8)) (h1 : 13 ≤ k) (h2 : k ≤ 24) : bodyE k b n s t i ks = kidT ks 0 (firstL k) ++ [32] ++ sgnO k ++ [32] ++ kidT ks 1 (lev k + 1) := by
  unfold bodyE
  rw [if_neg (by omega), if_neg (by omega), if_neg (by omega), if_neg (by omega), if_neg (by omega), if_neg (by omega), if_neg (by omega), if_neg (by omega), if_neg (by omega), if_neg (by omega), if_neg (by omega), if_neg (by omega), if_neg (by omega), if_pos ⟨h1, h2⟩]

theorem shows_all (P : Nat → Prop) : ∀ (m : Nat) (x : Ex), depE x ≤ m → okS x = true → (showE x).length ≤ 10000000000000 → Shows P x := by
  intro m
  induction m with
  | zero =>
    intro x hd
    cases x
    unfold depE at hd
    omega
  | succ m ih =>
    intro x hd hok hlen r w hT hx
    obtain ⟨k, b, n, s, t, i, l⟩ := x
    have hx0 := hx
    unfold IsE at hx
    obtain ⟨hk, hb, hn, hs, ht, hi, hll, hks⟩ := hx
    unfold okS at hok
    simp only [Bool.and_eq_true, decide_eq_true_eq] at hok
    obtain ⟨⟨k1, k2⟩, nn, s1, t1, i1, ar, l1, okl⟩ := hok
    have hdl : depL l ≤ m := by unfold depE at hd; omega
    have KS : ∀ j (hj : j < l.length), (showE l[j]).length ≤ 10000000000000 → Shows P l[j] := fun j hj h => ih l[j] (Nat.le_trans (depL_get l j hj) hdl) (okSs_get l j hj okl) h
    have KT : ∀ j (hj : j < l.length) (asked : Int), (kidT (showL l) j asked).length ≤ 10000000000000 → KidIs r w j asked (ba (kidT (showL l) j asked)) ∧ (ba (kidT (showL l) j asked)).size ≤ 2000000000000000 := by
      intro j hj asked h
      have h' : (showE l[j]).length ≤ 10000000000000 := by
        rw [kidT_showL l j hj] at h
        have := brk_ge (decide (lev (opE l[j]) < asked)) (showE l[j])
        omega
      exact ⟨kidIs_of hT hx0 hj (KS j hj h') (by omega), kidT_len hj (by omega)⟩
    have QS := fun w' (h : Below w.heap.size w w') => quoteS s w' (hT.below h) (by omega)
    have qs : (ba (quoteL s)).size ≤ 2000000000000000 := by rw [ba_size]; have := quoteL_len s; omega
    have ss : (ba s).size ≤ 2000000000000000 := by rw [ba_size]; omega
    show NodeIs r w (ba (showE _))
    rw [showE] at hlen ⊢
    by_cases h13 : 13 ≤ k ∧ k ≤ 24
    · have hw : wants k = 2 := by unfold wants; rw [if_neg (by omega), if_pos (by omega)]
      rw [body_two k b n s t i _ h13.1 h13.2] at hlen ⊢
      simp only [List.length_append, List.length_cons, List.length_nil] at hlen
      obtain ⟨K0, z0⟩ := KT 0 (by omega) (firstL k) (by omega)
      obtain ⟨K1, z1⟩ := KT 1 (by omega) (lev k + 1) (by omega)
      have := expr_two r w _ _ (by omega) (by omega) z0 z1 (by rw [hk]; exact K0) (by rw [hk]; exact K1)
      rw [hk] at this
      rw [← ba_append, ← ba_append, ← ba_append, ← ba_append]
      exact this
    · have hc : k = 1 ∨ k = 2 ∨ k = 3 ∨ k = 4 ∨ k = 5 ∨ k = 6 ∨ k = 7 ∨ k = 8 ∨ k = 9 ∨ k = 10 ∨ k = 11 ∨ k = 12 ∨ k = 25 := by omega
      clear h13
      rcases hc with rfl | rfl | rfl | rfl | rfl | rfl | rfl | rfl | rfl | rfl | rfl | rfl | rfl
      all_goals simp only [bodyE, reduceIte, Int.reduceEq] at hlen ⊢
      · refine expr_bool r w _ hk fun w' _ => ?_
        rw [hb]
        refine (Tryd.strconv_FormatBool b w').mono ?_
        rintro e w'' ⟨rfl, rfl⟩
        exact ⟨by cases b <;> rfl, Below.refl _ _⟩
      · refine expr_long r w _ hk fun w' h => ?_
        rw [hn]
        exact text_any n nn w' (hT.below h).1
      · refine expr_str r w _ hk qs ?_
        rw [hs]
        exact QS
      · have hu := fun w' (h : Below w.heap.size w w') => suid_any t i w' (hT.below h) t1 i1
        rw [← ba_append, ← ba_append]
        refine expr_uid r w _ hk ?_
        rw [ht, hi]
        exact hu
      · have := expr_var r w hk (by rw [hs]; exact ss)
        rw [hs] at this
        exact this
      · rw [showL_texts] at hlen ⊢
        simp only [List.length_append, List.length_cons, List.length_nil] at hlen
        rw [← ba_append, ← ba_append]
        refine expr_set l r P w hT hk hll hks l1 (fun j hj => KS j hj ?_) (by omega)
        have := joinS_get (textsL l) j (by simpa [textsL] using hj)
        simp only [textsL, List.getElem_map] at this
        unfold textsL at hlen
        omega
      · have hw : wants 7 = 1 := rfl
        simp only [List.length_append, List.length_cons, List.length_nil] at hlen
        obtain ⟨K0, z0⟩ := KT 0 (by omega) 7 (by omega)
        have := expr_get r w _ hk z0 (by rw [hs]; exact ss) K0
        rw [hs] at this
        rw [← ba_append, ← ba_append]
        exact this
      · have hw : wants 8 = 1 := rfl
        simp only [List.length_append, List.length_cons, List.length_nil] at hlen
        obtain ⟨K0, z0⟩ := KT 0 (by omega) 4 (by omega)
        have := expr_has r w _ hk z0 (by rw [hs]; exact ss) K0
        rw [hs] at this
        rw [← ba_append, ← ba_append]
        exact this
      · have hw : wants 9 = 2 := rfl
        simp only [List.length_append, List.length_cons, List.length_nil] at hlen
        obtain ⟨K0, z0⟩ := KT 0 (by omega) 7 (by omega)
        obtain ⟨K1, z1⟩ := KT 1 (by omega) 0 (by omega)
        have := expr_holds r w _ _ hk z0 z1 K0 K1
        rw [← ba_append, ← ba_append, ← ba_append]
        exact this
      · have hw : wants 10 = 1 := rfl
        simp only [List.length_append, List.length_cons, List.length_nil] at hlen
        obtain ⟨K0, z0⟩ := KT 0 (by omega) 4 (by omega)
        have := expr_like r w _ _ hk z0 qs K0 (by rw [hs]; exact QS)
        rw [← ba_append, ← ba_append]
        exact this
      · have hw : wants 11 = 1 := rfl
        simp only [List.length_append, List.length_cons, List.length_nil] at hlen
        obtain ⟨K0, z0⟩ := KT 0 (by omega) 6 (by omega)
        rw [← ba_append]
        exact expr_not r w _ hk z0 K0
      · have hw : wants 12 = 1 := rfl
        simp only [List.length_append, List.length_cons, List.length_nil] at hlen
        obtain ⟨K0, z0⟩ := KT 0 (by omega) 6 (by omega)
        rw [← ba_append]
        exact expr_neg r w _ hk z0 K0
      · have hw : wants 25 = 3 := rfl
        simp only [List.length_append, List.length_cons, List.length_nil] at hlen
        obtain ⟨K0, z0⟩ := KT 0 (by omega) 0 (by omega)
        obtain ⟨K1, z1⟩ := KT 1 (by omega) 0 (by omega)
        obtain ⟨K2, z2⟩ := KT 2 (by omega) 0 (by omega)
        have := expr_if r w _ _ _ hk z0 z1 z2 K0 K1 K2
        rw [← ba_append, ← ba_append, ← ba_append, ← ba_append, ← ba_append]
        exact this
end Go.Proofs.YtpblalklenebhaaDoor
