/-
  chancellaw13: an evaluation without entities; known, within.
  chancelref11.Envs of a schema that has nothing: none.
-/
import Derived.Test.YtldmfdkmkjiabaaGreatEvPQ
import Derived.Test.YtldmfdkmkjiabaaGreatExBS
import Derived.Test.YtldmfdkmkjiabaaGreatEoMq
import Derived.Test.YtldmfdkmkjiabaaGreatMpEG
import Derived.Test.YtldmfdkmkjiabaaGreatElAO
namespace Go.Proofs.YtldmfdkmkjiabaaGreat
open Go.RowKit Go.Sort

def zU : U2 := ⟨⟨#[]⟩, ⟨#[]⟩⟩
/-- No entities. -/
def noD (p a r : U2) : EvD := ⟨p, a, r, [], fun u x => decide (u = x)⟩
theorem way_nil {u x : U2} : Way (upS []) u x ↔ u = x := by
  constructor
  · intro h
    induction h with
    | here => rfl
    | step _ hx => cases hx
  · rintro rfl
    exact .here _
theorem ew_nil (w : World) (hf : FitL w) (p a r : U2) : EW w none [] (noD p a r) where
  row := rowG_nil _ _ _
  all := ⟨rfl, fun j h => absurd h (Nat.not_lt_zero _)⟩
  len := by simp
  inA := fun cap u x w' _ => by
    have hS := steps_up (w := w') (P := fun _ => True) (es := []) (ps := []) ⟨rfl, fun j h => absurd h (Nat.not_lt_zero _)⟩ (by simp) (by simp)
    refine (in_any (upS []) [] none cap u x [] w' (by simp) (rowG_nil _ _ _) hS (fun _ v hv => by cases hv) (by simp)).mono ?_
    rintro e w'' ⟨hb, z, rfl, hz⟩
    refine ⟨?_, hb⟩
    rw [way_nil] at hz
    have : z = decide (u = x) := by
      cases z with
      | true => exact (decide_eq_true (hz.1 rfl)).symm
      | false => exact (decide_eq_false (fun h => by cases hz.2 h)).symm
    rw [this]
    rfl
  ok := fun p hp => by cases hp
  fit := hf
def tBad : Ex := eOp 14 [eLong 1, eBool true]
def tAnd : Ex := eOp 23 [eBool false, tBad]
end Go.Proofs.YtldmfdkmkjiabaaGreat

namespace Go.Proofs.YtldmfdkmkjiabaaGreat
open Go.RowKit Go.Sort

set_option maxHeartbeats 4000000 in
set_option maxRecDepth 1000000 in
theorem noEnvs_any (w : World) : Calls Tryz.prog 18 #[.agg #[.slice none 0 0, .slice none 0 0], .agg #[.bool false, .int .i64 0, .string ⟨#[]⟩, .string ⟨#[]⟩, .int .i64 0, .string ⟨#[]⟩, .string ⟨#[]⟩, .int .i64 0, .string ⟨#[]⟩, .string ⟨#[]⟩, .slice none 0 0]] w fun e w' => e = .returned (.slice none 0 0) ∧ Below w.heap.size w w' := by
  obtain ⟨b2, z2, k1, k2⟩ := ev2 w (.cells #[.slice none 0 0, .slice none 0 0] 35) (.cells #[.bool false, .int .i64 0, .string ⟨#[]⟩, .string ⟨#[]⟩, .int .i64 0, .string ⟨#[]⟩, .string ⟨#[]⟩, .int .i64 0, .string ⟨#[]⟩, .string ⟨#[]⟩, .slice none 0 0] 46)
  clear z2
  go_enter Tryz.func18, Tryz.ntmps18
  go_upto_region 1 with fail
  generalize (w.alloc _).alloc _ = w2 at *
  have c1 : w2.cell? ⟨w.heap.size, 1, none⟩ = some (.slice none 0 0) := by rw [Lib.cell_of_heap k1]; rfl
  clear k1 k2
  go_wp2_with fail
  go_loopw [5, 6, 7, 8, 9] (fun ov iv _ _ _ wr => ov = .slice none 0 0 ∧ iv = .int .i64 0 ∧ wr = w2) (fun _ _ _ _ _ _ => 0)
  case atStart => exact ⟨rfl, rfl, rfl⟩
  case round =>
    rename World => wr
    obtain ⟨rfl, rfl, rfl⟩ := hrel
    go_wp2
    go_ret
    exact ⟨rfl, b2⟩
end Go.Proofs.YtldmfdkmkjiabaaGreat
