/-
  show.Expr of a node, out of what its kids' texts are.
-/
import Derived.Test.YtpblalklenebhaaDoorShC
namespace Go.Proofs.YtpblalklenebhaaDoor
open Go.RowKit Go.Sort

/-- Show of the node returns this. -/
def NodeIs (r : R7) (w : World) (A : ByteArray) : Prop :=
  Calls Tryd.prog 11 #[r.val] w fun e w' => e = .returned (.string A) ∧ Below w.heap.size w w'

set_option maxHeartbeats 4000000 in
set_option maxRecDepth 1000000 in
theorem expr_two (r : R7) (w : World) (A B : ByteArray) (h1 : 13 ≤ r.k) (h2 : r.k ≤ 24) (hA : A.size ≤ 2000000000000000) (hB : B.size ≤ 2000000000000000) (K0 : KidIs r w 0 (firstL r.k) A) (K1 : KidIs r w 1 (lev r.k + 1) B) :
    NodeIs r w (A ++ ⟨#[32]⟩ ++ ⟨(sgnO r.k).toArray⟩ ++ ⟨#[32]⟩ ++ B) := by
  unfold NodeIs
  have n1 := newS w (.cells #[.int .i64 r.k, .bool r.b, .int .i64 r.n, .string r.s, .string r.t, .string r.i, .slice r.lo r.ll r.lc] 32)
  have Z1 : (w.alloc (.cells #[.int .i64 r.k, .bool r.b, .int .i64 r.n, .string r.s, .string r.t, .string r.i, .slice r.lo r.ll r.lc] 32)).heap[w.heap.size]? = some (.cells #[.int .i64 r.k, .bool r.b, .int .i64 r.n, .string r.s, .string r.t, .string r.i, .slice r.lo r.ll r.lc] 32 (0, 0)) := alloc_heap _ _
  have T := sofTwo_any r _ A B h1 h2 hA hB (K0.below n1) (K1.below n1)
  have c1 : ¬ r.k = 1 := by omega
  have c2 : ¬ r.k = 2 := by omega
  have c3 : ¬ r.k = 3 := by omega
  have c4 : ¬ r.k = 4 := by omega
  have c5 : ¬ r.k = 5 := by omega
  have c6 : ¬ r.k = 6 := by omega
  have c7 : ¬ r.k = 7 := by omega
  have c8 : ¬ r.k = 8 := by omega
  have c9 : ¬ r.k = 9 := by omega
  have c10 : ¬ r.k = 10 := by omega
  have c11 : ¬ r.k = 11 := by omega
  have c12 : ¬ r.k = 12 := by omega
  have c25 : ¬ r.k = 25 := by omega
  clear K0 K1 h1 h2 hA hB
  generalize A ++ ⟨#[32]⟩ ++ ⟨(sgnO r.k).toArray⟩ ++ ⟨#[32]⟩ ++ B = X at *
  unfold R7.val at T ⊢
  go_enter Tryd.func11, Tryd.ntmps11
  go_upto_region 1 with fail
  generalize w.alloc _ = w1 at *
  obtain ⟨x0, x1, x2, x3, x4, x5, x6, _⟩ := blk7 Z1
  go_wp2_with fail
  refine T.mono ?_
  rintro e w2 ⟨rfl, b2⟩
  clear x0 x1 x2 x3 x4 x5 x6
  go_wp2
  go_ret
  exact ⟨rfl, n1.trans (b2.mono n1.size)⟩

set_option maxHeartbeats 4000000 in
set_option maxRecDepth 1000000 in
theorem expr_not (r : R7) (w : World) (A : ByteArray) (hk : r.k = 11) (hA : A.size ≤ 2000000000000000) (K0 : KidIs r w 0 6 A) :
    NodeIs r w (⟨#[33]⟩ ++ A) := by
  unfold NodeIs
  obtain ⟨k, b, n, s, t, i, lo, ll, lc⟩ := r
  subst hk
  have n1 := newS w (.cells #[.int .i64 11, .bool b, .int .i64 n, .string s, .string t, .string i, .slice lo ll lc] 32)
  have Z1 : (w.alloc (.cells #[.int .i64 11, .bool b, .int .i64 n, .string s, .string t, .string i, .slice lo ll lc] 32)).heap[w.heap.size]? = some (.cells #[.int .i64 11, .bool b, .int .i64 n, .string s, .string t, .string i, .slice lo ll lc] 32 (0, 0)) := alloc_heap _ _
  have K := K0 _ n1
  have g1 : ¬ 9223372036854775807 < 1 + A.size := by omega
  clear K0 hA
  unfold R7.val at K ⊢
  simp only at K ⊢
  go_enter Tryd.func11, Tryd.ntmps11
  go_upto_region 1 with fail
  generalize w.alloc _ = w1 at *
  obtain ⟨x0, x1, x2, x3, x4, x5, x6, _⟩ := blk7 Z1
  go_wp2_with fail
  refine K.mono ?_
  rintro e w2 ⟨rfl, b2⟩
  clear x0 x1 x2 x3 x4 x5 x6
  go_wp2
  go_ret
  exact ⟨rfl, n1.trans (b2.mono n1.size)⟩
end Go.Proofs.YtpblalklenebhaaDoor
