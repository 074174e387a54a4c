/-
  chancellaw3.id, Uid: what they return.
-/
import Derived.Test.YtppincbcaijcbaaGreatVdE
import Derived.Deep.RegionWith
namespace Go.Proofs.YtppincbcaijcbaaGreat
open Go.RowKit Go.Sort

/-- The text of an id. -/
def idt (xs : List Int) : List UInt8 := txt (xs.take 30)

theorem IntsAt.take {w : World} {ao : Option Addr} {xs : List Int} (h : IntsAt w ao xs) (n : Nat) : IntsAt w ao (xs.take n) := by
  intro j hj
  rw [List.length_take] at hj
  obtain ⟨b, off, e, hb, hc⟩ := h j (by omega)
  exact ⟨b, off, e, hb, by rw [hc, List.getElem_take]⟩

set_option maxHeartbeats 1000000 in
set_option maxRecDepth 1000000 in
theorem id3_any (xs : List Int) (ao : Option Addr) (c : Nat) (w : World) (hl : xs.length ≤ 9223372036854775807) (hc : xs.length ≤ c) (hz : IntsAt w ao xs) :
    Calls Tryz.prog 42 #[.slice ao xs.length c] w fun e w' => e = .returned (.string (ba (idt xs))) ∧ Below w.heap.size w w' := by
  by_cases h30 : 30 < xs.length
  · have O := lawOf_any (xs.take 30) ao c w (by rw [List.length_take]; omega) (hz.take 30)
    rw [List.length_take, Nat.min_eq_left (by omega)] at O
    have i1 : (30 : Int) < (xs.length : Int) := by omega
    have i2 : (30 : Int) ≤ (c : Int) := by omega
    go_enter Tryz.func42, Tryz.ntmps42
    go_wp2_with fail
    refine O.mono ?_
    rintro e w2 ⟨rfl, b2⟩
    go_wp2
    go_ret
    exact ⟨rfl, b2⟩
  · have e1 : xs.take 30 = xs := List.take_of_length_le (by omega)
    have O := lawOf_any xs ao c w hl hz
    have i1 : ¬ (30 : Int) < (xs.length : Int) := by omega
    unfold idt
    rw [e1]
    go_enter Tryz.func42, Tryz.ntmps42
    go_wp2_with fail
    refine O.mono ?_
    rintro e w2 ⟨rfl, b2⟩
    go_wp2
    go_ret
    exact ⟨rfl, b2⟩
end Go.Proofs.YtppincbcaijcbaaGreat
