/-
  show.listed, show.Expr of a set.
-/
import Derived.Test.YtpblalklenebhaaDoorShG
namespace Go.Proofs.YtpblalklenebhaaDoor
open Go.RowKit Go.Sort

set_option maxHeartbeats 1000000 in
set_option maxRecDepth 1000000 in
theorem listed_any (l : List (List UInt8)) (ao : Option Addr) (c : Nat) (w : World) (hc : l.length ≤ c) (hr : StrRow w ao l) (hlen : (joinS [44, 32] l).length ≤ 100000000000000) :
    Calls Tryd.prog 26 #[.slice ao l.length c] w fun e w' => e = .returned (.string (ba (joinS [44, 32] l))) ∧ Below w.heap.size w w' := by
  have J := join_any l ao c w hc hr hlen
  generalize ba (joinS [44, 32] l) = X at *
  generalize l.length = n at *
  clear hlen
  go_enter Tryd.func26, Tryd.ntmps26
  go_wp2_with fail
  refine J.mono ?_
  rintro e w1 ⟨rfl, b1⟩
  go_wp2
  go_ret
  exact ⟨rfl, b1⟩

set_option maxHeartbeats 4000000 in
set_option maxRecDepth 1000000 in
theorem expr_set (l : List Ex) (r : R7) (P : Nat → Prop) (w : World) (hT : Tab6 w) (hk : r.k = 6) (hll : r.ll = l.length) (hks : IsEs w P r.lo 0 l) (hl : l.length ≤ 100000) (C : ∀ j (hj : j < l.length), Shows P l[j]) (hlen : (joinS [44, 32] (textsL l)).length ≤ 10000000000000) :
    NodeIs r w (⟨#[91]⟩ ++ ba (joinS [44, 32] (textsL l)) ++ ⟨#[93]⟩) := by
  unfold NodeIs
  obtain ⟨k, b, n, s, t, i, lo, ll, lc⟩ := r
  subst hk
  simp only at hll hks
  have n1 := newS w (.cells #[.int .i64 6, .bool b, .int .i64 n, .string s, .string t, .string i, .slice lo ll lc] 32)
  have Z1 : (w.alloc (.cells #[.int .i64 6, .bool b, .int .i64 n, .string s, .string t, .string i, .slice lo ll lc] 32)).heap[w.heap.size]? = some (.cells #[.int .i64 6, .bool b, .int .i64 n, .string s, .string t, .string i, .slice lo ll lc] 32 (0, 0)) := alloc_heap _ _
  have E := each_any l ll hll.symm lo lc P _ (hT.below n1) (IsEs.turn n1.size (fun b hb1 hb2 => ⟨n1.block b hb2, hb1⟩) lo 0 l hks) (by omega) C
  have htl : (textsL l).length = ll := by rw [hll]; simp [textsL]
  have hbs := ba_size (joinS [44, 32] (textsL l))
  have g1 : ¬ 9223372036854775807 < 1 + (ba (joinS [44, 32] (textsL l))).size := by omega
  have g2 : ¬ 9223372036854775807 < 1 + (ba (joinS [44, 32] (textsL l))).size + 1 := by omega
  have HL := hide (listed_any (textsL l))
  obtain ⟨X, hX⟩ : ∃ X, X = ba (joinS [44, 32] (textsL l)) := ⟨_, rfl⟩
  rw [← hX] at g1 g2 ⊢
  have HX := hide hX
  have HTL := hide htl
  have HLE := hide (show (joinS [44, 32] (textsL l)).length ≤ 100000000000000 by omega)
  clear hT hks C hlen hbs htl hll hl hX
  unfold R7.val
  simp only
  go_enter Tryd.func11, Tryd.ntmps11
  go_upto_region 1 with fail
  generalize w.alloc _ = w1 at *
  obtain ⟨x0, x1, x2, x3, x4, x5, x6, _⟩ := blk7 Z1
  go_wp2_with fail
  refine E.mono ?_
  rintro e w2 ⟨v, rfl, hown, b2⟩
  clear x0 x1 x2 x3 x4 x5 x6 E
  rw [← unhide HTL] at hown
  obtain ⟨ao, cap, rfl, hcap, hrow⟩ := strRow_own hown
  have L := unhide HL ao cap w2 hcap hrow (unhide HLE)
  rw [unhide HTL] at L ⊢
  rw [← unhide HX] at L
  clear hown hcap hrow
  go_wp2_with fail
  refine L.mono ?_
  rintro e w3 ⟨rfl, b3⟩
  have b02 := n1.trans (b2.mono n1.size)
  go_wp2
  go_ret
  exact ⟨rfl, b02.trans (b3.mono b02.size)⟩
end Go.Proofs.YtpblalklenebhaaDoor
