/-
  show.Expr of leaves and of signs ahead.
-/
import Derived.Test.YtpblalklenebhaaDoorShD
namespace Go.Proofs.YtpblalklenebhaaDoor
open Go.RowKit Go.Sort

set_option maxHeartbeats 4000000 in
set_option maxRecDepth 1000000 in
theorem expr_neg (r : R7) (w : World) (A : ByteArray) (hk : r.k = 12) (hA : A.size ≤ 2000000000000000) (K0 : KidIs r w 0 6 A) :
    NodeIs r w (⟨#[45]⟩ ++ A) := by
  unfold NodeIs
  obtain ⟨k, b, n, s, t, i, lo, ll, lc⟩ := r
  subst hk
  have n1 := newS w (.cells #[.int .i64 12, .bool b, .int .i64 n, .string s, .string t, .string i, .slice lo ll lc] 32)
  have Z1 : (w.alloc (.cells #[.int .i64 12, .bool b, .int .i64 n, .string s, .string t, .string i, .slice lo ll lc] 32)).heap[w.heap.size]? = some (.cells #[.int .i64 12, .bool b, .int .i64 n, .string s, .string t, .string i, .slice lo ll lc] 32 (0, 0)) := alloc_heap _ _
  have K := K0 _ n1
  have g1 : ¬ 9223372036854775807 < 1 + A.size := by omega
  clear K0 hA
  unfold R7.val at K ⊢
  simp only at K ⊢
  go_enter Tryd.func11, Tryd.ntmps11
  go_upto_region 1 with fail
  generalize w.alloc _ = w1 at *
  obtain ⟨x0, x1, x2, x3, x4, x5, x6, _⟩ := blk7 Z1
  go_wp2_with fail
  refine K.mono ?_
  rintro e w2 ⟨rfl, b2⟩
  clear x0 x1 x2 x3 x4 x5 x6
  go_wp2
  go_ret
  exact ⟨rfl, n1.trans (b2.mono n1.size)⟩

set_option maxHeartbeats 4000000 in
set_option maxRecDepth 1000000 in
theorem expr_long (r : R7) (w : World) (A : ByteArray) (hk : r.k = 2) (K0 : ∀ w', Below w.heap.size w w' → Calls Tryd.prog 25 #[.int .i64 r.n] w' fun e w'' => e = .returned (.string A) ∧ Below w'.heap.size w' w'') :
    NodeIs r w A := by
  unfold NodeIs
  obtain ⟨k, b, n, s, t, i, lo, ll, lc⟩ := r
  subst hk
  have n1 := newS w (.cells #[.int .i64 2, .bool b, .int .i64 n, .string s, .string t, .string i, .slice lo ll lc] 32)
  have Z1 : (w.alloc (.cells #[.int .i64 2, .bool b, .int .i64 n, .string s, .string t, .string i, .slice lo ll lc] 32)).heap[w.heap.size]? = some (.cells #[.int .i64 2, .bool b, .int .i64 n, .string s, .string t, .string i, .slice lo ll lc] 32 (0, 0)) := alloc_heap _ _
  have K := K0 _ n1
  clear K0
  unfold R7.val
  simp only at K ⊢
  go_enter Tryd.func11, Tryd.ntmps11
  go_upto_region 1 with fail
  generalize w.alloc _ = w1 at *
  obtain ⟨x0, x1, x2, x3, x4, x5, x6, _⟩ := blk7 Z1
  go_wp2_with fail
  refine K.mono ?_
  rintro e w2 ⟨rfl, b2⟩
  clear x0 x1 x2 x3 x4 x5 x6
  go_wp2
  go_ret
  exact ⟨rfl, n1.trans (b2.mono n1.size)⟩

set_option maxHeartbeats 4000000 in
set_option maxRecDepth 1000000 in
theorem expr_bool (r : R7) (w : World) (A : ByteArray) (hk : r.k = 1) (K0 : ∀ w', Below w.heap.size w w' → Calls Tryd.prog 24 #[.bool r.b] w' fun e w'' => e = .returned (.string A) ∧ Below w'.heap.size w' w'') :
    NodeIs r w A := by
  unfold NodeIs
  obtain ⟨k, b, n, s, t, i, lo, ll, lc⟩ := r
  subst hk
  have n1 := newS w (.cells #[.int .i64 1, .bool b, .int .i64 n, .string s, .string t, .string i, .slice lo ll lc] 32)
  have Z1 : (w.alloc (.cells #[.int .i64 1, .bool b, .int .i64 n, .string s, .string t, .string i, .slice lo ll lc] 32)).heap[w.heap.size]? = some (.cells #[.int .i64 1, .bool b, .int .i64 n, .string s, .string t, .string i, .slice lo ll lc] 32 (0, 0)) := alloc_heap _ _
  have K := K0 _ n1
  clear K0
  unfold R7.val
  simp only at K ⊢
  go_enter Tryd.func11, Tryd.ntmps11
  go_upto_region 1 with fail
  generalize w.alloc _ = w1 at *
  obtain ⟨x0, x1, x2, x3, x4, x5, x6, _⟩ := blk7 Z1
  go_wp2_with fail
  refine K.mono ?_
  rintro e w2 ⟨rfl, b2⟩
  clear x0 x1 x2 x3 x4 x5 x6
  go_wp2
  go_ret
  exact ⟨rfl, n1.trans (b2.mono n1.size)⟩

set_option maxHeartbeats 4000000 in
set_option maxRecDepth 1000000 in
theorem expr_uid (r : R7) (w : World) (A : ByteArray) (hk : r.k = 4) (K0 : ∀ w', Below w.heap.size w w' → Calls Tryd.prog 16 #[.agg #[.string r.t, .string r.i]] w' fun e w'' => e = .returned (.string A) ∧ Below w'.heap.size w' w'') :
    NodeIs r w A := by
  unfold NodeIs
  obtain ⟨k, b, n, s, t, i, lo, ll, lc⟩ := r
  subst hk
  have n1 := newS w (.cells #[.int .i64 4, .bool b, .int .i64 n, .string s, .string t, .string i, .slice lo ll lc] 32)
  have Z1 : (w.alloc (.cells #[.int .i64 4, .bool b, .int .i64 n, .string s, .string t, .string i, .slice lo ll lc] 32)).heap[w.heap.size]? = some (.cells #[.int .i64 4, .bool b, .int .i64 n, .string s, .string t, .string i, .slice lo ll lc] 32 (0, 0)) := alloc_heap _ _
  have K := K0 _ n1
  clear K0
  unfold R7.val
  simp only at K ⊢
  go_enter Tryd.func11, Tryd.ntmps11
  go_upto_region 1 with fail
  generalize w.alloc _ = w1 at *
  obtain ⟨x0, x1, x2, x3, x4, x5, x6, _⟩ := blk7 Z1
  go_wp2_with fail
  refine K.mono ?_
  rintro e w2 ⟨rfl, b2⟩
  clear x0 x1 x2 x3 x4 x5 x6
  go_wp2
  go_ret
  exact ⟨rfl, n1.trans (b2.mono n1.size)⟩

set_option maxHeartbeats 4000000 in
set_option maxRecDepth 1000000 in
theorem expr_str (r : R7) (w : World) (A : ByteArray) (hk : r.k = 3) (hA : A.size ≤ 2000000000000000) (K0 : ∀ w', Below w.heap.size w w' → Calls Tryd.prog 23 #[.string r.s] w' fun e w'' => e = .returned (.string A) ∧ Below w'.heap.size w' w'') :
    NodeIs r w A := by
  unfold NodeIs
  obtain ⟨k, b, n, s, t, i, lo, ll, lc⟩ := r
  subst hk
  have n1 := newS w (.cells #[.int .i64 3, .bool b, .int .i64 n, .string s, .string t, .string i, .slice lo ll lc] 32)
  have Z1 : (w.alloc (.cells #[.int .i64 3, .bool b, .int .i64 n, .string s, .string t, .string i, .slice lo ll lc] 32)).heap[w.heap.size]? = some (.cells #[.int .i64 3, .bool b, .int .i64 n, .string s, .string t, .string i, .slice lo ll lc] 32 (0, 0)) := alloc_heap _ _
  have K := K0 _ n1
  have g1 : ¬ 9223372036854775807 < 0 + A.size := by omega
  have g2 : ¬ 9223372036854775807 < A.size := by omega
  have e1 : (⟨#[]⟩ : ByteArray) ++ A = A := by simp [ByteArray.ext_iff, ByteArray.data_append]
  clear K0 hA
  unfold R7.val
  simp only at K ⊢
  go_enter Tryd.func11, Tryd.ntmps11
  go_upto_region 1 with fail
  generalize w.alloc _ = w1 at *
  obtain ⟨x0, x1, x2, x3, x4, x5, x6, _⟩ := blk7 Z1
  go_wp2_with fail
  refine K.mono ?_
  rintro e w2 ⟨rfl, b2⟩
  clear x0 x1 x2 x3 x4 x5 x6
  go_wp2
  go_ret
  exact ⟨by first | rfl | rw [e1], n1.trans (b2.mono n1.size)⟩

set_option maxHeartbeats 4000000 in
set_option maxRecDepth 1000000 in
theorem expr_var (r : R7) (w : World) (hk : r.k = 5) (hA : r.s.size ≤ 2000000000000000) :
    NodeIs r w r.s := by
  unfold NodeIs
  obtain ⟨k, b, n, s, t, i, lo, ll, lc⟩ := r
  subst hk
  have n1 := newS w (.cells #[.int .i64 5, .bool b, .int .i64 n, .string s, .string t, .string i, .slice lo ll lc] 32)
  have Z1 : (w.alloc (.cells #[.int .i64 5, .bool b, .int .i64 n, .string s, .string t, .string i, .slice lo ll lc] 32)).heap[w.heap.size]? = some (.cells #[.int .i64 5, .bool b, .int .i64 n, .string s, .string t, .string i, .slice lo ll lc] 32 (0, 0)) := alloc_heap _ _
  simp only at hA ⊢
  have g1 : ¬ 9223372036854775807 < 0 + s.size := by omega
  have g2 : ¬ 9223372036854775807 < s.size := by omega
  have e1 : (⟨#[]⟩ : ByteArray) ++ s = s := by simp [ByteArray.ext_iff, ByteArray.data_append]
  clear hA
  unfold R7.val
  simp only
  go_enter Tryd.func11, Tryd.ntmps11
  go_upto_region 1 with fail
  generalize w.alloc _ = w1 at *
  obtain ⟨x0, x1, x2, x3, x4, x5, x6, _⟩ := blk7 Z1
  go_wp2
  go_ret
  exact ⟨by first | rfl | rw [e1], n1⟩

set_option maxHeartbeats 4000000 in
set_option maxRecDepth 1000000 in
theorem expr_get (r : R7) (w : World) (A : ByteArray) (hk : r.k = 7) (hA : A.size ≤ 2000000000000000) (hs : r.s.size ≤ 2000000000000000) (K0 : KidIs r w 0 7 A) :
    NodeIs r w (A ++ ⟨#[46]⟩ ++ r.s) := by
  unfold NodeIs
  obtain ⟨k, b, n, s, t, i, lo, ll, lc⟩ := r
  subst hk
  have n1 := newS w (.cells #[.int .i64 7, .bool b, .int .i64 n, .string s, .string t, .string i, .slice lo ll lc] 32)
  have Z1 : (w.alloc (.cells #[.int .i64 7, .bool b, .int .i64 n, .string s, .string t, .string i, .slice lo ll lc] 32)).heap[w.heap.size]? = some (.cells #[.int .i64 7, .bool b, .int .i64 n, .string s, .string t, .string i, .slice lo ll lc] 32 (0, 0)) := alloc_heap _ _
  have K := K0 _ n1
  simp only at hs
  have g1 : ¬ 9223372036854775807 < A.size + 1 := by omega
  have g2 : ¬ 9223372036854775807 < A.size + 1 + s.size := by omega
  clear K0 hA hs
  unfold R7.val at K ⊢
  simp only at K ⊢
  go_enter Tryd.func11, Tryd.ntmps11
  go_upto_region 1 with fail
  generalize w.alloc _ = w1 at *
  obtain ⟨x0, x1, x2, x3, x4, x5, x6, _⟩ := blk7 Z1
  go_wp2_with fail
  refine K.mono ?_
  rintro e w2 ⟨rfl, b2⟩
  clear x0 x1 x2 x3 x4 x5 x6
  obtain ⟨_, _, _, x3, _⟩ := blk7 (kept_of_below b2 Z1)
  go_wp2
  go_ret
  exact ⟨rfl, n1.trans (b2.mono n1.size)⟩

set_option maxHeartbeats 4000000 in
set_option maxRecDepth 1000000 in
theorem expr_like (r : R7) (w : World) (A B : ByteArray) (hk : r.k = 10) (hA : A.size ≤ 2000000000000000) (hB : B.size ≤ 2000000000000000) (K0 : KidIs r w 0 4 A)
    (K1 : ∀ w', Below w.heap.size w w' → Calls Tryd.prog 23 #[.string r.s] w' fun e w'' => e = .returned (.string B) ∧ Below w'.heap.size w' w'') :
    NodeIs r w (A ++ ⟨#[32, 108, 105, 107, 101, 32]⟩ ++ B) := by
  unfold NodeIs
  obtain ⟨k, b, n, s, t, i, lo, ll, lc⟩ := r
  subst hk
  have n1 := newS w (.cells #[.int .i64 10, .bool b, .int .i64 n, .string s, .string t, .string i, .slice lo ll lc] 32)
  have Z1 : (w.alloc (.cells #[.int .i64 10, .bool b, .int .i64 n, .string s, .string t, .string i, .slice lo ll lc] 32)).heap[w.heap.size]? = some (.cells #[.int .i64 10, .bool b, .int .i64 n, .string s, .string t, .string i, .slice lo ll lc] 32 (0, 0)) := alloc_heap _ _
  have K := K0 _ n1
  have g1 : ¬ 9223372036854775807 < A.size + 6 := by omega
  have g2 : ¬ 9223372036854775807 < A.size + 6 + B.size := by omega
  clear K0 hA hB
  unfold R7.val at K ⊢
  simp only at K K1 ⊢
  go_enter Tryd.func11, Tryd.ntmps11
  go_upto_region 1 with fail
  generalize w.alloc _ = w1 at *
  obtain ⟨x0, x1, x2, x3, x4, x5, x6, _⟩ := blk7 Z1
  go_wp2_with fail
  refine K.mono ?_
  rintro e w2 ⟨rfl, b2⟩
  clear x0 x1 x2 x3 x4 x5 x6
  have b02 := n1.trans (b2.mono n1.size)
  have K2 := K1 _ b02
  obtain ⟨_, _, _, x3, _⟩ := blk7 (kept_of_below b2 Z1)
  go_wp2_with fail
  refine K2.mono ?_
  rintro e w3 ⟨rfl, b3⟩
  go_wp2
  go_ret
  exact ⟨rfl, b02.trans (b3.mono b02.size)⟩
end Go.Proofs.YtpblalklenebhaaDoor
