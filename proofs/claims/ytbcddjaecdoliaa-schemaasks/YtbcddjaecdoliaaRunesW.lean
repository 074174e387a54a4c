/-
  within, text.broken, text.Check, text.Runes, text.Of: what they return.
-/
import Derived.Test.YtbcddjaecdoliaaBuild
import Derived.Test.YtbcddjaecdoliaaWorlds
import Derived.Test.YtbcddjaecdoliaaRunesP
import Derived.Lib.RuneCount
import Derived.WalkSmall
namespace Go.Proofs.Ytbcddjaecdoliaa
open Go.RowKit

theorem infoRune : (Try.prog.info? 21).map (fun i => (i.zero, i.size, i.bytes)) = some (some (.int .i32 0), 1, 4) := by kernel_rfl

theorem tmod_cases (a n : Int) (hn : 0 < n) : a.tmod n = a % n ∨ a.tmod n + n = a % n := by
  rw [Int.tmod_eq_emod]
  have : ((n.natAbs : Nat) : Int) = n := by omega
  split
  · left; omega
  · right; omega
theorem tmod_pos (a n : Int) (hn : 0 < n) (h : 0 ≤ a.tmod n) : a.tmod n = a % n := by
  have h1 := Int.emod_lt_of_pos a hn
  rcases tmod_cases a n hn with e | e
  · exact e
  · omega
theorem tmod_neg (a n : Int) (hn : 0 < n) (hn1 : n ≤ 4294967296) (h : a.tmod n < 0) : wrap64 (a.tmod n + n) = a % n := by
  have h0 := Int.emod_nonneg a (show n ≠ 0 by omega)
  have h1 := Int.emod_lt_of_pos a hn
  rcases tmod_cases a n hn with e | e
  · omega
  · rw [e]
    simp only [wrap64]
    omega

set_option maxHeartbeats 1000000 in
theorem within_any (a n : Int) (hn : 0 < n) (hn1 : n ≤ 4294967296) (w : World) :
    Calls Try.prog 64 #[.int .i64 a, .int .i64 n] w fun e w' => e = .returned (.int .i64 (a % n)) ∧ w' = w := by
  go_enter Try.func64, Try.ntmps64
  go_wp2
  · go_ret
    exact ⟨ret_int (tmod_neg a n hn hn1 (by assumption)), rfl⟩
  · go_ret
    exact ⟨ret_int (tmod_pos a n hn (by assumption)), rfl⟩

/-- The cells of a slice of runes. -/
def RowAt (w : World) (ao : Option Addr) (xs : List Int) : Prop :=
  ∀ j (hj : j < xs.length), ∃ b off, ao = some ⟨b, off, none⟩ ∧ b < w.heap.size ∧ w.cell? ⟨b, off + j, none⟩ = some (.int .i32 xs[j])

theorem RowAt.below {w w' : World} {ao : Option Addr} {xs : List Int} (h : RowAt w ao xs) (hb : Below w.heap.size w w') : RowAt w' ao xs := by
  intro j hj
  obtain ⟨b, off, e, hlt, hc⟩ := h j hj
  have := hb.size
  exact ⟨b, off, e, by omega, (hb.cell (p := ⟨b, off + j, none⟩) hlt).trans hc⟩
end Go.Proofs.Ytbcddjaecdoliaa
