/-
  chancellaw4.known, within: what they return.
-/
import Derived.Test.YtfkbbenjmhngcaaDoorLexF
namespace Go.Proofs.YtfkbbenjmhngcaaDoor
open Go.RowKit

/-- The cells of a row that is owned. -/
theorem owns_cells {w : World} {B : Nat} {e : TypeId} {v : Value} {z n : Nat} {xs : List Value} (h : w.ownsRow B e z v n xs) (hn : 0 < n) :
    ∃ g cap, v = .slice (some ⟨g, 0, none⟩) n cap ∧ B ≤ g ∧ g < w.heap.size ∧ n ≤ cap ∧ ∀ (j : Nat) u, xs[j]? = some u → w.cell? ⟨g, j, none⟩ = some u := by
  rcases h.2 with ⟨_, h0⟩ | ⟨g, cap, cur, hv, hbg, hg, hnc, _, _, htake⟩
  · omega
  · refine ⟨g, cap, hv, hbg, (Array.getElem?_eq_some_iff.1 hg).1, hnc, fun j u hj => ?_⟩
    rw [Lib.cell_of_heap hg]
    rw [← htake, List.getElem?_take] at hj
    split at hj
    · simpa using hj
    · cases hj

set_option maxHeartbeats 1000000 in
theorem within4_any (a n : Int) (hn : 0 < n) (hn1 : n ≤ 4294967296) (w : World) :
    Calls Tryd.prog 11 #[.int .i64 a, .int .i64 n] w fun e w' => e = .returned (.int .i64 (a % n)) ∧ w' = w := by
  go_enter Tryd.func11, Tryd.ntmps11
  go_wp2
  · go_ret
    exact ⟨ret_int (tmod_neg a n hn hn1 (by assumption)), rfl⟩
  · go_ret
    exact ⟨ret_int (tmod_pos a n hn (by assumption)), rfl⟩

theorem toks_known : toks [97, 45, 62, 49] = ([⟨1, [97], 0, 0⟩, ⟨4, [45, 62], 0, 1⟩, ⟨2, [], 1, 3⟩], 0) := by kernel_rfl

set_option maxHeartbeats 1000000 in
set_option maxRecDepth 1000000 in
theorem known4_any (w : World) (hS : Signs w) : Calls Tryd.prog 9 #[] w fun e w' => e = .returned (.bool true) ∧ Below w.heap.size w w' := by
  have T := tokens_any ⟨#[97, 45, 62, 49]⟩ w hS (by decide)
  rw [show (ByteArray.mk #[97, 45, 62, 49]).data.toList = [97, 45, 62, 49] from rfl, toks_known] at T
  go_enter Tryd.func9, Tryd.ntmps9
  go_wp2_with fail
  refine T.mono ?_
  rintro e w1 ⟨v, rfl, hown, b1⟩
  obtain ⟨g, cap, rfl, _, _, hcap, hc⟩ := owns_cells hown (by decide)
  have c1 := hc 1 _ rfl
  have c5 := hc 5 _ rfl
  have c10 := hc 10 _ rfl
  clear hc hown
  go_wp2
  go_ret
  exact ⟨rfl, b1⟩
end Go.Proofs.YtfkbbenjmhngcaaDoor
