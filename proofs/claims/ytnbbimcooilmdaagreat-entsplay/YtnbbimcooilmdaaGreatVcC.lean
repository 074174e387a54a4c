/-
  value.compareUids, the uids' compare.
-/
import Derived.Test.YtnbbimcooilmdaaGreatVcB
import Derived.Test.YtnbbimcooilmdaaGreatVcK
namespace Go.Proofs.YtnbbimcooilmdaaGreat
open Go.RowKit Go.Sort

def orI (x y : Int) : Int := if x ≠ 0 then x else y

set_option maxHeartbeats 1000000 in
set_option maxRecDepth 100000 in
theorem cmpOr_two (x y : Int) (b c : Nat) (w : World) (h0 : w.cell? ⟨b, 0, none⟩ = some (.int .i64 x)) (h1 : w.cell? ⟨b, 1, none⟩ = some (.int .i64 y)) :
    Calls Tryz.prog 69 #[.slice (some ⟨b, 0, none⟩) 2 c] w fun e w' => e = .returned (.int .i64 (orI x y)) ∧ w' = w := by
  by_cases hx : x = 0
  · have e1 : orI x y = y := by simp [orI, hx]
    rw [e1]
    have hxb : (x == 0) = true := by simpa using hx
    subst hx
    clear hxb e1
    by_cases hy : y = 0
    · subst hy
      go_enter Tryz.func69, Tryz.ntmps69
      go_wp2
      go_loop [8] (fun i => ∃ j : Nat, j ≤ 2 ∧ i = .int .i64 j) (fun i => 2 - (intOf i).toNat)
      case atStart => exact ⟨0, by omega, rfl⟩
      case round =>
        obtain ⟨j, hj, rfl⟩ := hrel
        match j, hj with
        | 0, _ =>
          go_wp2
          go_round
          case rel => exact ⟨1, by omega, rfl⟩
          case measure => decide
        | 1, _ =>
          go_wp2
          go_round
          case rel => exact ⟨2, by omega, rfl⟩
          case measure => decide
        | 2, _ =>
          go_wp2
          go_ret
          exact ⟨rfl, rfl⟩
    · have hyb : (y == 0) = false := by simpa using hy
      go_enter Tryz.func69, Tryz.ntmps69
      go_wp2
      go_loop [8] (fun i => ∃ j : Nat, j ≤ 1 ∧ i = .int .i64 j) (fun i => 2 - (intOf i).toNat)
      case atStart => exact ⟨0, by omega, rfl⟩
      case round =>
        obtain ⟨j, hj, rfl⟩ := hrel
        match j, hj with
        | 0, _ =>
          go_wp2
          go_round
          case rel => exact ⟨1, by omega, rfl⟩
          case measure => decide
        | 1, _ =>
          go_wp2
          go_ret
          exact ⟨rfl, rfl⟩
  · have e1 : orI x y = x := by simp [orI, hx]
    rw [e1]
    have hxb : (x == 0) = false := by simpa using hx
    go_enter Tryz.func69, Tryz.ntmps69
    go_wp2
    go_loop [8] (fun i => i = .int .i64 0) (fun _ => 0)
    case atStart => exact rfl
    case round =>
      subst hrel
      go_wp2
      go_ret
      exact ⟨rfl, rfl⟩

theorem cmpUid_or (t i u j : List UInt8) : orI (cmpB t u) (cmpB i j) = cmpP (.uid t i) (.uid u j) := by
  unfold orI cmpP cmpB lessP
  rcases bytes_tri t u with h | h | h
  · have h1 : t ≠ u := by rintro rfl; exact bytes_irr _ h
    have h2 : u ≠ t := h1.symm
    have h3 : ¬ u < t := fun x => bytes_irr _ (bytes_trans h x)
    simp [h, h1]
  · subst h
    have := bytes_irr t
    simp [this]
  · have h1 : u ≠ t := by rintro rfl; exact bytes_irr _ h
    have h2 : t ≠ u := h1.symm
    have h3 : ¬ t < u := fun x => bytes_irr _ (bytes_trans h x)
    simp [h, h1, h2, h3]

set_option maxHeartbeats 4000000 in
set_option maxRecDepth 100000 in
theorem compareUids_any (t i u j : List UInt8) (w : World) :
    Calls Tryz.prog 58 #[.agg #[.string (ba t), .string (ba i)], .agg #[.string (ba u), .string (ba j)]] w fun e w' => e = .returned (.int .i64 (cmpP (.uid t i) (.uid u j))) ∧ Below w.heap.size w w' := by
  rw [← cmpUid_or]
  go_enter Tryz.func58, Tryz.ntmps58
  go_wp2
  refine wp_still_tail 10 (by kernel_rfl) (by kernel_rfl) ?_
  simp only [List.take_succ_cons, List.take_zero, List.drop_succ_cons, List.drop_zero]
  repeat (first | still_step | still_call (cmpString_any _ _ _))
  refine wpStill_nil ?_
  go_wp2_with (go_at_call 69; refine (cmpOr_two (cmpB t u) (cmpB i j) _ _ _ (by simp [World.cell?_alloc_at]) (by simp [World.cell?_alloc_at])).mono ?_; rintro e w' ⟨rfl, rfl⟩)
  go_ret
  refine ⟨rfl, ?_⟩
  exact (below2 w _ _).drew.alloc (by simp; omega) _



set_option maxHeartbeats 400000 in
set_option maxRecDepth 100000 in
theorem uidCmp_any (t i u j : List UInt8) (w : World) :
    Calls Tryz.prog 129 #[.agg #[.string (ba t), .string (ba i)], conP (.uid u j)] w fun e w' => e = .returned (.int .i64 (cmpP (.uid t i) (.uid u j))) ∧ Below w.heap.size w w' := by
  have U := compareUids_any t i u j
  generalize cmpP (.uid t i) (.uid u j) = r at *
  unfold conP
  have T := ta_uid
  go_enter Tryz.func129, Tryz.ntmps129
  go_wp2_with fail
  refine wp_still_tail 3 (by kernel_rfl) (by kernel_rfl) ?_
  simp only [List.take_succ_cons, List.take_zero, List.drop_succ_cons, List.drop_zero]
  repeat still_step
  refine wpStill_nil ?_
  go_wp2_with (go_at_call 58; refine (U _).mono ?_)
  rintro e w1 ⟨rfl, b1⟩
  go_wp2
  go_ret
  refine ⟨rfl, ?_⟩
  exact (below1 w _).drew.trans (b1.mono (by simp))
end Go.Proofs.YtnbbimcooilmdaaGreat
