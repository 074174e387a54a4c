/-
  show.Expr: what it returns of any tree such as may be, and not too great.
  chancellaw6.known.
  Plain: chains of dots and signs, and their texts.
-/
import Derived.Test.YtpblalklenebhaaDoorShE
import Derived.Test.YtpblalklenebhaaDoorShF
import Derived.Test.YtpblalklenebhaaDoorShGH
import Derived.Test.YtpblalklenebhaaDoorShU
import Derived.Test.YtpblalklenebhaaDoorNRefT
import Derived.Deep.Cut
import Derived.BigRegion
namespace Go.Proofs.YtpblalklenebhaaDoor
open Go.RowKit Go.Sort

theorem ba_append (a b : List UInt8) : ba a ++ ba b = ba (a ++ b) := by
  simp [ba, ByteArray.ext_iff, ByteArray.data_append]
/-- How many kids an operation wants. -/
def wants (k : Int) : Nat := if k = 7 ∨ k = 8 ∨ k = 10 ∨ k = 11 ∨ k = 12 then 1 else if k = 9 ∨ (13 ≤ k ∧ k ≤ 24) then 2 else if k = 25 then 3 else 0
mutual
def okS : Ex → Bool
  | .mk k _ n s t i l => decide (1 ≤ k ∧ k ≤ 25) && (decide (-9223372036854775808 ≤ n ∧ n ≤ 9223372036854775807) && (decide (s.length ≤ 1000000000) && (decide (t.length ≤ 1000000000) && (decide (i.length ≤ 1000000000) && (decide (wants k ≤ l.length) && (decide (l.length ≤ 100000) && okSs l))))))
def okSs : List Ex → Bool
  | [] => true
  | e :: l => okS e && okSs l
end
theorem okSs_get : ∀ (l : List Ex) (j : Nat) (h : j < l.length), okSs l = true → okS l[j] = true
  | [], j, h, _ => by simp at h
  | e :: l, 0, _, h => by
    unfold okSs at h
    simp only [Bool.and_eq_true] at h
    exact h.1
  | e :: l, j + 1, hj, h => by
    unfold okSs at h
    simp only [Bool.and_eq_true] at h
    exact okSs_get l j (by simpa using hj) h.2
theorem showL_texts : ∀ l : List Ex, (showL l).map (·.2) = textsL l
  | [] => rfl
  | x :: l => by
    have := showL_texts l
    unfold textsL at this
    rw [showL, List.map_cons, this]
    rfl
theorem sumL_get : ∀ (l : List (List UInt8)) (j : Nat) (h : j < l.length), l[j].length ≤ sumL l
  | [], j, h => by simp at h
  | s :: l, 0, _ => by simp [sumL]
  | s :: l, j + 1, h => by
    have := sumL_get l j (by simpa using h)
    simp only [List.getElem_cons_succ]
    simp only [sumL, List.map_cons, List.sum_cons] at this ⊢
    omega
theorem joinS_get (l : List (List UInt8)) (j : Nat) (h : j < l.length) : l[j].length ≤ (joinS [44, 32] l).length := by
  have := sumL_get l j h
  rw [joinS_len _ _ (by omega)]
  omega
theorem body_two (k : Int) (b : Bool) (n : Int) (s t i : List UInt8) (ks : List (Int × List UInt8)) (h1 : 13 ≤ k) (h2 : k ≤ 24) : bodyE k b n s t i ks = kidT ks 0 (firstL k) ++ [32] ++ sgnO k ++ [32] ++ kidT ks 1 (lev k + 1) := by
  unfold bodyE
  rw [if_neg (by omega), if_neg (by omega), if_neg (by omega), if_neg (by omega), if_neg (by omega), if_neg (by omega), if_neg (by omega), if_neg (by omega), if_neg (by omega), if_neg (by omega), if_neg (by omega), if_neg (by omega), if_neg (by omega), if_pos ⟨h1, h2⟩]

theorem shows_all (P : Nat → Prop) : ∀ (m : Nat) (x : Ex), depE x ≤ m → okS x = true → (showE x).length ≤ 10000000000000 → Shows P x := by
  intro m
  induction m with
  | zero =>
    intro x hd
    cases x
    unfold depE at hd
    omega
  | succ m ih =>
    intro x hd hok hlen r w hT hx
    obtain ⟨k, b, n, s, t, i, l⟩ := x
    have hx0 := hx
    unfold IsE at hx
    obtain ⟨hk, hb, hn, hs, ht, hi, hll, hks⟩ := hx
    unfold okS at hok
    simp only [Bool.and_eq_true, decide_eq_true_eq] at hok
    obtain ⟨⟨k1, k2⟩, nn, s1, t1, i1, ar, l1, okl⟩ := hok
    have hdl : depL l ≤ m := by unfold depE at hd; omega
    have KS : ∀ j (hj : j < l.length), (showE l[j]).length ≤ 10000000000000 → Shows P l[j] := fun j hj h => ih l[j] (Nat.le_trans (depL_get l j hj) hdl) (okSs_get l j hj okl) h
    have KT : ∀ j (hj : j < l.length) (asked : Int), (kidT (showL l) j asked).length ≤ 10000000000000 → KidIs r w j asked (ba (kidT (showL l) j asked)) ∧ (ba (kidT (showL l) j asked)).size ≤ 2000000000000000 := by
      intro j hj asked h
      have h' : (showE l[j]).length ≤ 10000000000000 := by
        rw [kidT_showL l j hj] at h
        have := brk_ge (decide (lev (opE l[j]) < asked)) (showE l[j])
        omega
      exact ⟨kidIs_of hT hx0 hj (KS j hj h') (by omega), kidT_len hj (by omega)⟩
    have QS := fun w' (h : Below w.heap.size w w') => quoteS s w' (hT.below h) (by omega)
    have qs : (ba (quoteL s)).size ≤ 2000000000000000 := by rw [ba_size]; have := quoteL_len s; omega
    have ss : (ba s).size ≤ 2000000000000000 := by rw [ba_size]; omega
    show NodeIs r w (ba (showE _))
    rw [showE] at hlen ⊢
    by_cases h13 : 13 ≤ k ∧ k ≤ 24
    · have hw : wants k = 2 := by unfold wants; rw [if_neg (by omega), if_pos (by omega)]
      rw [body_two k b n s t i _ h13.1 h13.2] at hlen ⊢
      simp only [List.length_append, List.length_cons, List.length_nil] at hlen
      obtain ⟨K0, z0⟩ := KT 0 (by omega) (firstL k) (by omega)
      obtain ⟨K1, z1⟩ := KT 1 (by omega) (lev k + 1) (by omega)
      have := expr_two r w _ _ (by omega) (by omega) z0 z1 (by rw [hk]; exact K0) (by rw [hk]; exact K1)
      rw [hk] at this
      rw [← ba_append, ← ba_append, ← ba_append, ← ba_append]
      exact this
    · have hc : k = 1 ∨ k = 2 ∨ k = 3 ∨ k = 4 ∨ k = 5 ∨ k = 6 ∨ k = 7 ∨ k = 8 ∨ k = 9 ∨ k = 10 ∨ k = 11 ∨ k = 12 ∨ k = 25 := by omega
      clear h13
      rcases hc with rfl | rfl | rfl | rfl | rfl | rfl | rfl | rfl | rfl | rfl | rfl | rfl | rfl
      all_goals simp only [bodyE, reduceIte, Int.reduceEq] at hlen ⊢
      · refine expr_bool r w _ hk fun w' _ => ?_
        rw [hb]
        refine (Tryd.strconv_FormatBool b w').mono ?_
        rintro e w'' ⟨rfl, rfl⟩
        exact ⟨by cases b <;> rfl, Below.refl _ _⟩
      · refine expr_long r w _ hk fun w' h => ?_
        rw [hn]
        exact text_any n nn w' (hT.below h).1
      · refine expr_str r w _ hk qs ?_
        rw [hs]
        exact QS
      · have hu := fun w' (h : Below w.heap.size w w') => suid_any t i w' (hT.below h) t1 i1
        rw [← ba_append, ← ba_append]
        refine expr_uid r w _ hk ?_
        rw [ht, hi]
        exact hu
      · have := expr_var r w hk (by rw [hs]; exact ss)
        rw [hs] at this
        exact this
      · rw [showL_texts] at hlen ⊢
        simp only [List.length_append, List.length_cons, List.length_nil] at hlen
        rw [← ba_append, ← ba_append]
        refine expr_set l r P w hT hk hll hks l1 (fun j hj => KS j hj ?_) (by omega)
        have := joinS_get (textsL l) j (by simpa [textsL] using hj)
        simp only [textsL, List.getElem_map] at this
        unfold textsL at hlen
        omega
      · have hw : wants 7 = 1 := rfl
        simp only [List.length_append, List.length_cons, List.length_nil] at hlen
        obtain ⟨K0, z0⟩ := KT 0 (by omega) 7 (by omega)
        have := expr_get r w _ hk z0 (by rw [hs]; exact ss) K0
        rw [hs] at this
        rw [← ba_append, ← ba_append]
        exact this
      · have hw : wants 8 = 1 := rfl
        simp only [List.length_append, List.length_cons, List.length_nil] at hlen
        obtain ⟨K0, z0⟩ := KT 0 (by omega) 4 (by omega)
        have := expr_has r w _ hk z0 (by rw [hs]; exact ss) K0
        rw [hs] at this
        rw [← ba_append, ← ba_append]
        exact this
      · have hw : wants 9 = 2 := rfl
        simp only [List.length_append, List.length_cons, List.length_nil] at hlen
        obtain ⟨K0, z0⟩ := KT 0 (by omega) 7 (by omega)
        obtain ⟨K1, z1⟩ := KT 1 (by omega) 0 (by omega)
        have := expr_holds r w _ _ hk z0 z1 K0 K1
        rw [← ba_append, ← ba_append, ← ba_append]
        exact this
      · have hw : wants 10 = 1 := rfl
        simp only [List.length_append, List.length_cons, List.length_nil] at hlen
        obtain ⟨K0, z0⟩ := KT 0 (by omega) 4 (by omega)
        have := expr_like r w _ _ hk z0 qs K0 (by rw [hs]; exact QS)
        rw [← ba_append, ← ba_append]
        exact this
      · have hw : wants 11 = 1 := rfl
        simp only [List.length_append, List.length_cons, List.length_nil] at hlen
        obtain ⟨K0, z0⟩ := KT 0 (by omega) 6 (by omega)
        rw [← ba_append]
        exact expr_not r w _ hk z0 K0
      · have hw : wants 12 = 1 := rfl
        simp only [List.length_append, List.length_cons, List.length_nil] at hlen
        obtain ⟨K0, z0⟩ := KT 0 (by omega) 6 (by omega)
        rw [← ba_append]
        exact expr_neg r w _ hk z0 K0
      · have hw : wants 25 = 3 := rfl
        simp only [List.length_append, List.length_cons, List.length_nil] at hlen
        obtain ⟨K0, z0⟩ := KT 0 (by omega) 0 (by omega)
        obtain ⟨K1, z1⟩ := KT 1 (by omega) 0 (by omega)
        obtain ⟨K2, z2⟩ := KT 2 (by omega) 0 (by omega)
        have := expr_if r w _ _ _ hk z0 z1 z2 K0 K1 K2
        rw [← ba_append, ← ba_append, ← ba_append, ← ba_append, ← ba_append]
        exact this
end Go.Proofs.YtpblalklenebhaaDoor

namespace Go.Proofs.YtpblalklenebhaaDoor
open Go.RowKit Go.Sort

/-- Seven cells of a block. -/
theorem at7_blk {w : World} {b : Nat} {cs : Array Value} {T : TypeId} {fr : Nat × Nat} (h : w.heap[b]? = some (.cells cs T fr)) (o : Nat) (r : R7)
    (h0 : cs[o]? = some (.int .i64 r.k)) (h1 : cs[o + 1]? = some (.bool r.b)) (h2 : cs[o + 2]? = some (.int .i64 r.n)) (h3 : cs[o + 3]? = some (.string r.s)) (h4 : cs[o + 4]? = some (.string r.t)) (h5 : cs[o + 5]? = some (.string r.i)) (h6 : cs[o + 6]? = some (.slice r.lo r.ll r.lc)) : At7 w b o r :=
  ⟨by rw [Lib.cell_of_heap h]; exact h0, by rw [Lib.cell_of_heap h]; exact h1, by rw [Lib.cell_of_heap h]; exact h2, by rw [Lib.cell_of_heap h]; exact h3, by rw [Lib.cell_of_heap h]; exact h4, by rw [Lib.cell_of_heap h]; exact h5, by rw [Lib.cell_of_heap h]; exact h6⟩
def anyB : Nat → Prop := fun _ => True
def rLong (n : Int) : R7 := ⟨2, false, n, ⟨#[]⟩, ⟨#[]⟩, ⟨#[]⟩, none, 0, 0⟩
def rOp (k : Int) (g off n c : Nat) : R7 := ⟨k, false, 0, ⟨#[]⟩, ⟨#[]⟩, ⟨#[]⟩, some ⟨g, off, none⟩, n, c⟩
theorem is_long (w : World) (n : Int) : IsE w anyB (rLong n) (eLong n) := by unfold eLong IsE IsEs rLong; simp [ba]
theorem is_two {w : World} {g off c : Nat} {rx ry : R7} {x y : Ex} (k : Int) (hg : g < w.heap.size) (a1 : At7 w g off rx) (a2 : At7 w g (off + 7) ry) (h1 : IsE w anyB rx x) (h2 : IsE w anyB ry y) : IsE w anyB (rOp k g off 2 c) (eOp k [x, y]) := by
  unfold eOp IsE rOp
  refine ⟨rfl, rfl, rfl, rfl, rfl, rfl, rfl, ?_⟩
  unfold IsEs
  refine ⟨⟨rx, g, off, rfl, trivial, hg, by simpa using a1, h1⟩, ?_⟩
  unfold IsEs
  refine ⟨⟨ry, g, off, rfl, trivial, hg, by simpa using a2, h2⟩, ?_⟩
  unfold IsEs
  trivial
theorem is_one {w : World} {g off c : Nat} {rx : R7} {x : Ex} (k : Int) (s : List UInt8) (hg : g < w.heap.size) (a1 : At7 w g off rx) (h1 : IsE w anyB rx x) : IsE w anyB ⟨k, false, 0, ba s, ⟨#[]⟩, ⟨#[]⟩, some ⟨g, off, none⟩, 1, c⟩ (eTx k s [x]) := by
  unfold eTx IsE
  refine ⟨rfl, rfl, rfl, rfl, rfl, rfl, rfl, ?_⟩
  unfold IsEs
  refine ⟨⟨rx, g, off, rfl, trivial, hg, by simpa using a1, h1⟩, ?_⟩
  unfold IsEs
  trivial

/-- A tree's text, at once. -/
theorem shows_of {x : Ex} {m : Nat} {X : List UInt8} (h1 : depE x ≤ m) (h2 : okS x = true) (h3 : showE x = X) (h4 : X.length ≤ 10000000000000) : ∀ (r : R7) (w : World), Tab6 w → IsE w anyB r x → Calls Tryd.prog 11 #[r.val] w fun e w' => e = .returned (.string (ba X)) ∧ Below w.heap.size w w' := by
  have := shows_all anyB m x h1 h2 (by rw [h3]; exact h4)
  unfold Shows at this
  rw [h3] at this
  exact this

theorem alloc2_fst (w : World) (o o' : Obj) : (((w.alloc o).alloc o').drew).heap[w.heap.size]? = some o := kept_of_below (newS (w.alloc o) o') (alloc_heap w o)
theorem alloc2_snd (w : World) (o o' : Obj) : (((w.alloc o).alloc o').drew).heap[w.heap.size + 1]? = some o' := by
  have := alloc_heap (w.alloc o) o'
  rw [show (w.alloc o).heap.size = w.heap.size + 1 by simp] at this
  exact this
theorem alloc2_below (w : World) (o o' : Obj) : Below w.heap.size w (((w.alloc o).alloc o').drew) := ((newS w o).trans ((newS (w.alloc o) o').mono (newS w o).size)).drew
theorem box_at {w : World} {b : Nat} {r : R7} {T : TypeId} {fr : Nat × Nat} (h : w.heap[b]? = some (.cells #[.int .i64 r.k, .bool r.b, .int .i64 r.n, .string r.s, .string r.t, .string r.i, .slice r.lo r.ll r.lc] T fr)) : At7 w b 0 r :=
  at7_blk h 0 r rfl rfl rfl rfl rfl rfl rfl

def kn1 : Ex := eOp 15 [eLong 1, eOp 15 [eLong 2, eLong 3]]
def kn2 : Ex := eOp 15 [eOp 15 [eLong 1, eLong 2], eLong 3]
theorem kn1_text : showE kn1 = [49, 32, 45, 32, 40, 50, 32, 45, 32, 51, 41] := by decide +kernel
theorem kn2_text : showE kn2 = [49, 32, 45, 32, 50, 32, 45, 32, 51] := by decide +kernel

set_option maxHeartbeats 4000000 in
set_option maxRecDepth 1000000 in
theorem known6_any (w : World) (hT : Tab6 w) : Calls Tryd.prog 8 #[] w fun e w' => e = .returned (.bool true) ∧ Below w.heap.size w w' := by
  have S1 := shows_of (m := 5) (x := kn1) (by decide +kernel) (by decide +kernel) kn1_text (by decide)
  have S2 := shows_of (m := 5) (x := kn2) (by decide +kernel) (by decide +kernel) kn2_text (by decide)
  have HS1 := hide S1
  have HS2 := hide S2
  have HT := hide hT
  clear S1 S2 hT
  go_enter Tryd.func8, Tryd.ntmps8
  go_upto_region 2 with fail
  have n1 := newS w (.cells #[.int .i64 2, .bool false, .int .i64 1, .string ⟨#[]⟩, .string ⟨#[]⟩, .string ⟨#[]⟩, .slice none 0 0, .int .i64 2, .bool false, .int .i64 2, .string ⟨#[]⟩, .string ⟨#[]⟩, .string ⟨#[]⟩, .slice none 0 0, .int .i64 2, .bool false, .int .i64 3, .string ⟨#[]⟩, .string ⟨#[]⟩, .string ⟨#[]⟩, .slice none 0 0] 32)
  have Z1 : (w.alloc (.cells #[.int .i64 2, .bool false, .int .i64 1, .string ⟨#[]⟩, .string ⟨#[]⟩, .string ⟨#[]⟩, .slice none 0 0, .int .i64 2, .bool false, .int .i64 2, .string ⟨#[]⟩, .string ⟨#[]⟩, .string ⟨#[]⟩, .slice none 0 0, .int .i64 2, .bool false, .int .i64 3, .string ⟨#[]⟩, .string ⟨#[]⟩, .string ⟨#[]⟩, .slice none 0 0] 32)).heap[w.heap.size]? = some (.cells #[.int .i64 2, .bool false, .int .i64 1, .string ⟨#[]⟩, .string ⟨#[]⟩, .string ⟨#[]⟩, .slice none 0 0, .int .i64 2, .bool false, .int .i64 2, .string ⟨#[]⟩, .string ⟨#[]⟩, .string ⟨#[]⟩, .slice none 0 0, .int .i64 2, .bool false, .int .i64 3, .string ⟨#[]⟩, .string ⟨#[]⟩, .string ⟨#[]⟩, .slice none 0 0] 32 (0, 0)) := alloc_heap _ _
  generalize w.alloc _ = w1 at *
  have x0 : w1.cell? ⟨w.heap.size, 0, none⟩ = some (.int .i64 2) := by rw [Lib.cell_of_heap Z1]; rfl
  have x1 : w1.cell? ⟨w.heap.size, 1, none⟩ = some (.bool false) := by rw [Lib.cell_of_heap Z1]; rfl
  have x2 : w1.cell? ⟨w.heap.size, 2, none⟩ = some (.int .i64 1) := by rw [Lib.cell_of_heap Z1]; rfl
  have x3 : w1.cell? ⟨w.heap.size, 3, none⟩ = some (.string ⟨#[]⟩) := by rw [Lib.cell_of_heap Z1]; rfl
  have x4 : w1.cell? ⟨w.heap.size, 4, none⟩ = some (.string ⟨#[]⟩) := by rw [Lib.cell_of_heap Z1]; rfl
  have x5 : w1.cell? ⟨w.heap.size, 5, none⟩ = some (.string ⟨#[]⟩) := by rw [Lib.cell_of_heap Z1]; rfl
  have x6 : w1.cell? ⟨w.heap.size, 6, none⟩ = some (.slice none 0 0) := by rw [Lib.cell_of_heap Z1]; rfl
  have hlt : w.heap.size < w1.heap.size := (Array.getElem?_eq_some_iff.1 Z1).1
  go_cut [2] from 8 (fun s2 wc => ∃ b2 ba : Nat, s2 = .pointer (some ⟨b2, 0, none⟩) ∧ Below w1.heap.size w1 wc ∧ wc.heap[b2]? = some (.cells #[.int .i64 15, .bool false, .int .i64 0, .string ⟨#[]⟩, .string ⟨#[]⟩, .string ⟨#[]⟩, .slice (some ⟨ba, 0, none⟩) 2 2] 32 (0, 0)) ∧ wc.heap[ba]? = some (.cells #[.int .i64 2, .bool false, .int .i64 1, .string ⟨#[]⟩, .string ⟨#[]⟩, .string ⟨#[]⟩, .slice none 0 0, .int .i64 15, .bool false, .int .i64 0, .string ⟨#[]⟩, .string ⟨#[]⟩, .string ⟨#[]⟩, .slice (some ⟨w.heap.size, 7, none⟩) 2 2] 32 (0, 0)))
  case first =>
    go_region
    · go_wp2_with fail
      go_meet
      case rel => exact ⟨w1.heap.size + 1, w1.heap.size, rfl, alloc2_below _ _ _, alloc2_snd _ _ _, alloc2_fst _ _ _⟩
    · go_wp2_with fail
      go_meet
      case rel => exact ⟨w1.heap.size, w1.heap.size + 1, rfl, alloc2_below _ _ _, alloc2_fst _ _ _, alloc2_snd _ _ _⟩
  obtain ⟨b2, ba2, rfl, bw2, Y2, Y3⟩ := hcut
  obtain ⟨w2, rfl⟩ : ∃ w2, w2 = wc := ⟨_, rfl⟩
  clear x0 x1 x2 x3 x4 x5 x6
  have Z2 := kept_of_below bw2 Z1
  have x0 : w2.cell? ⟨w.heap.size, 14, none⟩ = some (.int .i64 2) := by rw [Lib.cell_of_heap Z2]; rfl
  have x1 : w2.cell? ⟨w.heap.size, 15, none⟩ = some (.bool false) := by rw [Lib.cell_of_heap Z2]; rfl
  have x2 : w2.cell? ⟨w.heap.size, 16, none⟩ = some (.int .i64 3) := by rw [Lib.cell_of_heap Z2]; rfl
  have x3 : w2.cell? ⟨w.heap.size, 17, none⟩ = some (.string ⟨#[]⟩) := by rw [Lib.cell_of_heap Z2]; rfl
  have x4 : w2.cell? ⟨w.heap.size, 18, none⟩ = some (.string ⟨#[]⟩) := by rw [Lib.cell_of_heap Z2]; rfl
  have x5 : w2.cell? ⟨w.heap.size, 19, none⟩ = some (.string ⟨#[]⟩) := by rw [Lib.cell_of_heap Z2]; rfl
  have x6 : w2.cell? ⟨w.heap.size, 20, none⟩ = some (.slice none 0 0) := by rw [Lib.cell_of_heap Z2]; rfl
  have hlt2 : w.heap.size < w2.heap.size := (Array.getElem?_eq_some_iff.1 Z2).1
  go_upto_region 3 with fail
  go_cut [3] from 16 (fun s3 wd => ∃ b3 bb : Nat, s3 = .pointer (some ⟨b3, 0, none⟩) ∧ Below w2.heap.size w2 wd ∧ wd.heap[b3]? = some (.cells #[.int .i64 15, .bool false, .int .i64 0, .string ⟨#[]⟩, .string ⟨#[]⟩, .string ⟨#[]⟩, .slice (some ⟨bb, 0, none⟩) 2 2] 32 (0, 0)) ∧ wd.heap[bb]? = some (.cells #[.int .i64 15, .bool false, .int .i64 0, .string ⟨#[]⟩, .string ⟨#[]⟩, .string ⟨#[]⟩, .slice (some ⟨w.heap.size, 0, none⟩) 2 3, .int .i64 2, .bool false, .int .i64 3, .string ⟨#[]⟩, .string ⟨#[]⟩, .string ⟨#[]⟩, .slice none 0 0] 32 (0, 0)))
  case first =>
    go_region
    · go_wp2_with fail
      go_meet
      case rel => exact ⟨w2.heap.size + 1, w2.heap.size, rfl, alloc2_below _ _ _, alloc2_snd _ _ _, alloc2_fst _ _ _⟩
    · go_wp2_with fail
      go_meet
      case rel => exact ⟨w2.heap.size, w2.heap.size + 1, rfl, alloc2_below _ _ _, alloc2_fst _ _ _, alloc2_snd _ _ _⟩
  obtain ⟨b3, bb, rfl, bw3, Y4, Y5⟩ := hcut
  clear x0 x1 x2 x3 x4 x5 x6
  have Z3 := kept_of_below bw3 Z2
  have Y2 := kept_of_below bw3 Y2
  have Y3 := kept_of_below bw3 Y3
  have b02 := n1.trans (bw2.mono n1.size)
  have b03 := b02.trans (bw3.mono b02.size)
  have sz : ∀ {k : Nat} {o : Obj}, wc.heap[k]? = some o → k < wc.heap.size := fun h => (Array.getElem?_eq_some_iff.1 h).1
  have E1 : IsE wc anyB (rOp 15 ba2 0 2 2) kn1 := is_two 15 (sz Y3) (at7_blk Y3 0 (rLong 1) rfl rfl rfl rfl rfl rfl rfl) (at7_blk Y3 7 (rOp 15 w.heap.size 7 2 2) rfl rfl rfl rfl rfl rfl rfl) (is_long _ _) (is_two 15 (sz Z3) (at7_blk Z3 7 (rLong 2) rfl rfl rfl rfl rfl rfl rfl) (at7_blk Z3 14 (rLong 3) rfl rfl rfl rfl rfl rfl rfl) (is_long _ _) (is_long _ _))
  have E2 : IsE wc anyB (rOp 15 bb 0 2 2) kn2 := is_two 15 (sz Y5) (at7_blk Y5 0 (rOp 15 w.heap.size 0 2 3) rfl rfl rfl rfl rfl rfl rfl) (at7_blk Y5 7 (rLong 3) rfl rfl rfl rfl rfl rfl rfl) (is_two 15 (sz Z3) (at7_blk Z3 0 (rLong 1) rfl rfl rfl rfl rfl rfl rfl) (at7_blk Z3 7 (rLong 2) rfl rfl rfl rfl rfl rfl rfl) (is_long _ _) (is_long _ _)) (is_long _ _)
  have C1 := unhide HS1 _ wc ((unhide HT).below b03) E1
  have HE2 := hide E2
  unfold rOp R7.val at C1
  simp only at C1
  obtain ⟨y0, y1, y2, y3, y4, y5, y6, _⟩ := blk7 Y2
  clear E1 E2 HS1
  have q1 : ((ba [49, 32, 45, 32, 40, 50, 32, 45, 32, 51, 41]).toList == [49, 32, 45, 32, 40, 50, 32, 45, 32, 51, 41]) = true := by rw [ba_list]; rfl
  have q2 : ((ba [49, 32, 45, 32, 50, 32, 45, 32, 51]).toList == [49, 32, 45, 32, 50, 32, 45, 32, 51]) = true := by rw [ba_list]; rfl
  go_wp2_with fail
  refine C1.mono ?_
  rintro e w4 ⟨rfl, b4⟩
  have b04 := b03.trans (b4.mono b03.size)
  have C2 := unhide HS2 _ w4 ((unhide HT).below b04) (IsE.turn b4.size (fun b hb hb2 => ⟨b4.block b hb2, hb⟩) _ _ (unhide HE2))
  unfold rOp R7.val at C2
  simp only at C2
  clear y0 y1 y2 y3 y4 y5 y6 C1
  obtain ⟨y0, y1, y2, y3, y4, y5, y6, _⟩ := blk7 (kept_of_below b4 Y4)
  go_wp2_with fail
  refine C2.mono ?_
  rintro e w5 ⟨rfl, b5⟩
  go_wp2
  go_ret
  exact ⟨rfl, b04.trans (b5.mono b04.size)⟩
end Go.Proofs.YtpblalklenebhaaDoor

namespace Go.Proofs.YtpblalklenebhaaDoor
open Go.RowKit

def chB (ls : Bool) : Ex := if ls then eOp 14 [eLong 1, eLong 2] else eVar cPrincipal
def chG (ls : Bool) : Nat → Ex
  | 0 => chB ls
  | k + 1 => eTx 7 [97] [chG ls k]
def chN (ls : Bool) (a : Nat) : Nat → Ex
  | 0 => chG ls a
  | k + 1 => eOp (11 + ((k % 2 : Nat) : Int)) [chN ls a k]
def tB (ls : Bool) : List UInt8 := if ls then [40, 49, 32, 43, 32, 50, 41] else cPrincipal
def tG (ls : Bool) : Nat → List UInt8
  | 0 => tB ls
  | k + 1 => tG ls k ++ [46, 97]
def tN (ls : Bool) (a : Nat) : Nat → List UInt8
  | 0 => tG ls a
  | k + 1 => (if k % 2 = 0 then [33] else [45]) ++ tN ls a k
def tAll (ls : Bool) (a m : Nat) : List UInt8 := if ls = true ∧ a = 0 ∧ m = 0 then [49, 32, 43, 32, 50] else tN ls a m
theorem ch_text : ∀ (ls : Bool) (a m : Fin 4), showE (chN ls a m) = tAll ls a m ∧ okS (chN ls a m) = true ∧ depE (chN ls a m) ≤ 20 ∧ (tAll ls a m).length ≤ 100 := by decide +kernel
theorem tG_len (ls : Bool) : ∀ k, (tG ls k).length ≤ 9 + 2 * k
  | 0 => by cases ls <;> decide
  | k + 1 => by
    have := tG_len ls k
    unfold tG
    simp
    omega
theorem tN_len (ls : Bool) (a : Nat) : ∀ k, (tN ls a k).length ≤ 9 + 2 * a + k
  | 0 => by
    have := tG_len ls a
    unfold tN
    omega
  | k + 1 => by
    have := tN_len ls a k
    unfold tN
    split <;> simp <;> omega

def set7S (w : World) (b : Nat) (v0 v1 v2 v3 v4 v5 v6 : Value) : World :=
  ((((((w.setCell ⟨b, 0, none⟩ v0).setCell ⟨b, 1, none⟩ v1).setCell ⟨b, 2, none⟩ v2).setCell ⟨b, 3, none⟩ v3).setCell ⟨b, 4, none⟩ v4).setCell ⟨b, 5, none⟩ v5).setCell ⟨b, 6, none⟩ v6
theorem set7S_heap (w : World) (b k : Nat) (v0 v1 v2 v3 v4 v5 v6 : Value) (h : k ≠ b) : (set7S w b v0 v1 v2 v3 v4 v5 v6).heap[k]? = w.heap[k]? := by
  unfold set7S
  rw [Below.heap_setCell _ _ _ _ h, Below.heap_setCell _ _ _ _ h, Below.heap_setCell _ _ _ _ h, Below.heap_setCell _ _ _ _ h, Below.heap_setCell _ _ _ _ h, Below.heap_setCell _ _ _ _ h, Below.heap_setCell _ _ _ _ h]
theorem set7S_at {w : World} {b : Nat} {u0 u1 u2 u3 u4 u5 u6 : Value} {T : TypeId} (h : w.heap[b]? = some (.cells #[u0, u1, u2, u3, u4, u5, u6] T (0, 0))) (v0 v1 v2 v3 v4 v5 v6 : Value) :
    (set7S w b v0 v1 v2 v3 v4 v5 v6).heap[b]? = some (.cells #[v0, v1, v2, v3, v4, v5, v6] T (0, 0)) := by
  simp [set7S, World.setCell, Array.getElem?_modify, h]
theorem set7S_size (w : World) (b : Nat) (v0 v1 v2 v3 v4 v5 v6 : Value) : (set7S w b v0 v1 v2 v3 v4 v5 v6).heap.size = w.heap.size := by
  simp [set7S, World.setCell]
theorem set7S_below {B b : Nat} {a w : World} (h : Below B a w) (hb : B ≤ b) (v0 v1 v2 v3 v4 v5 v6 : Value) : Below B a (set7S w b v0 v1 v2 v3 v4 v5 v6) :=
  ((((((h.setCell (p := ⟨b, 0, none⟩) hb _).setCell (p := ⟨b, 1, none⟩) hb _).setCell (p := ⟨b, 2, none⟩) hb _).setCell (p := ⟨b, 3, none⟩) hb _).setCell (p := ⟨b, 4, none⟩) hb _).setCell (p := ⟨b, 5, none⟩) hb _).setCell (p := ⟨b, 6, none⟩) hb _

/-- The tree in its variable, a block that none of its parts lies in. -/
structure Holds (w wr : World) (p : Nat) (x : Ex) : Prop where
  below : Below w.heap.size w wr
  lt : w.heap.size ≤ p
  at' : ∃ r : R7, wr.heap[p]? = some (.cells #[.int .i64 r.k, .bool r.b, .int .i64 r.n, .string r.s, .string r.t, .string r.i, .slice r.lo r.ll r.lc] 32 (0, 0)) ∧ IsE wr (fun b => b ≠ p) r x

/-- One more about it. -/
theorem Holds.more {w wr : World} {p : Nat} {x : Ex} {r : R7} (hb : Below w.heap.size w wr) (hp : w.heap.size ≤ p) (h : wr.heap[p]? = some (.cells #[.int .i64 r.k, .bool r.b, .int .i64 r.n, .string r.s, .string r.t, .string r.i, .slice r.lo r.ll r.lc] 32 (0, 0))) (hx : IsE wr (fun b => b ≠ p) r x) (k : Int) (s : List UInt8) :
    Holds w ((set7S wr p (.int .i64 k) (.bool false) (.int .i64 0) (.string (ba s)) (.string ⟨#[]⟩) (.string ⟨#[]⟩) (.slice (some ⟨wr.heap.size, 0, none⟩) 1 1)).alloc (.cells #[.int .i64 r.k, .bool r.b, .int .i64 r.n, .string r.s, .string r.t, .string r.i, .slice r.lo r.ll r.lc] 32)) p (eTx k s [x]) := by
  have hpl := (Array.getElem?_eq_some_iff.1 h).1
  have hz := set7S_size wr p (.int .i64 k) (.bool false) (.int .i64 0) (.string (ba s)) (.string ⟨#[]⟩) (.string ⟨#[]⟩) (.slice (some ⟨wr.heap.size, 0, none⟩) 1 1)
  have h1 := set7S_at h (.int .i64 k) (.bool false) (.int .i64 0) (.string (ba s)) (.string ⟨#[]⟩) (.string ⟨#[]⟩) (.slice (some ⟨wr.heap.size, 0, none⟩) 1 1)
  have hb1 := set7S_below hb hp (.int .i64 k) (.bool false) (.int .i64 0) (.string (ba s)) (.string ⟨#[]⟩) (.string ⟨#[]⟩) (.slice (some ⟨wr.heap.size, 0, none⟩) 1 1)
  have hold : ∀ b, b ≠ p → (set7S wr p (.int .i64 k) (.bool false) (.int .i64 0) (.string (ba s)) (.string ⟨#[]⟩) (.string ⟨#[]⟩) (.slice (some ⟨wr.heap.size, 0, none⟩) 1 1)).heap[b]? = wr.heap[b]? := fun b hb => set7S_heap _ _ _ _ _ _ _ _ _ _ hb
  generalize set7S wr p (.int .i64 k) (.bool false) (.int .i64 0) (.string (ba s)) (.string ⟨#[]⟩) (.string ⟨#[]⟩) (.slice (some ⟨wr.heap.size, 0, none⟩) 1 1) = w1 at *
  have n2 := newS w1 (.cells #[.int .i64 r.k, .bool r.b, .int .i64 r.n, .string r.s, .string r.t, .string r.i, .slice r.lo r.ll r.lc] 32)
  have Z2 : (w1.alloc (.cells #[.int .i64 r.k, .bool r.b, .int .i64 r.n, .string r.s, .string r.t, .string r.i, .slice r.lo r.ll r.lc] 32)).heap[wr.heap.size]? = _ := hz ▸ alloc_heap w1 _
  refine ⟨hb1.trans (n2.mono hb1.size), hp, ⟨k, false, 0, ba s, ⟨#[]⟩, ⟨#[]⟩, some ⟨wr.heap.size, 0, none⟩, 1, 1⟩, kept_of_below n2 h1, ?_⟩
  unfold eTx IsE
  refine ⟨rfl, rfl, rfl, rfl, rfl, rfl, rfl, ?_⟩
  unfold IsEs
  refine ⟨⟨r, wr.heap.size, 0, rfl, by omega, (Array.getElem?_eq_some_iff.1 Z2).1, at7_blk Z2 0 r rfl rfl rfl rfl rfl rfl rfl, ?_⟩, ?_⟩
  · exact IsE.turn (by have := n2.size; omega) (fun b hb hb2 => ⟨(n2.block b (by omega)).trans (hold b hb), hb⟩) r x hx
  · unfold IsEs
    trivial
end Go.Proofs.YtpblalklenebhaaDoor
