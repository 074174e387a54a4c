/-
  strings.Join of two texts of one byte each.
-/
import Derived.Test.YtgeibceijlaoaaaGreatVcN
namespace Go.Proofs.YtgeibceijlaoaaaGreat
open Go.RowKit

set_option maxHeartbeats 4000000 in
set_option maxRecDepth 1000000 in
theorem join_two (x y : UInt8) (bk c : Nat) (w : World) (hbk : bk < w.heap.size) (h0 : w.cell? ⟨bk, 0, none⟩ = some (.string ⟨#[x]⟩)) (h1 : w.cell? ⟨bk, 1, none⟩ = some (.string ⟨#[y]⟩)) (hc : 2 ≤ c) :
    Calls Tryz.prog 102 #[.slice (some ⟨bk, 0, none⟩) 2 c, .string ⟨#[44, 32]⟩] w fun e w' => e = .returned (.string ⟨#[x, 44, 32, y]⟩) ∧ Below w.heap.size w w' := by
  have hc1 : ¬ c = 1 := by omega
  go_enter Tryz.func102, Tryz.ntmps102
  go_wp2
  go_loop [5, 41] (fun nv iv => ∃ j : Nat, j ≤ 2 ∧ iv = .int .i64 j ∧ nv = .int .i64 (2 + j : Nat)) (fun _ iv => 2 - (intOf iv).toNat)
  case atStart => exact ⟨0, by omega, rfl, rfl⟩
  case round =>
    obtain ⟨j, hj, rfl, rfl⟩ := hrel
    match j, hj with
    | 0, _ =>
      go_wp2
      go_round
      case rel => exact ⟨1, by omega, rfl, rfl⟩
      case measure => decide
    | 1, _ =>
      go_wp2
      go_round
      case rel => exact ⟨2, by omega, rfl, rfl⟩
      case measure => decide
    | 2, _ =>
      go_wp2_with fail
      have hnew : (w.alloc (.cells #[.pointer none, .slice none 0 0] 126)).heap[w.heap.size]? = some (.cells #[.pointer none, .slice none 0 0] 126 (0, 0)) := heap_alloc_new w _
      have b01 : Below w.heap.size w (w.alloc (.cells #[.pointer none, .slice none 0 0] 126)) := below1 _ _
      generalize w.alloc _ = w1 at *
      refine (bGrow_fresh w.heap.size w.heap.size 4 w1 (Nat.le_refl _) hnew b01.size (by omega) (by omega)).mono ?_
      rintro e w2 ⟨rfl, hB2, b12⟩
      have b02 := b01.trans b12
      have d0 := (b02.cell (p := ⟨bk, 0, none⟩) hbk).trans h0
      have d1 := (b02.cell (p := ⟨bk, 1, none⟩) hbk).trans h1
      have W1 := writeString w.heap.size w.heap.size [] ⟨#[x]⟩ w2 (.inr (Lib.BuilderAtF.of hB2)) (show (1 : Nat) ≤ 140737488355328 by omega) b02.size
      clear hB2 hnew
      go_wp2_with fail
      refine W1.mono ?_
      rintro e w3 ⟨rfl, hB3, b23, _⟩
      have b03 := b02.trans b23
      have d1' := (b03.cell (p := ⟨bk, 1, none⟩) hbk).trans h1
      clear d0 d1 W1
      go_wp2_with fail
      go_loopw [65] (fun iv wr => ∃ j : Nat, j ≤ 1 ∧ iv = .int .i64 j ∧ Below w.heap.size w wr ∧ Lib.BuilderAtF 126 5 w.heap.size w.heap.size (.pointer (some ⟨w.heap.size, 0, none⟩)) (Lib.byteCells (if j = 0 then [x] else [x, 44, 32, y])) wr) (fun iv _ => 1 - (intOf iv).toNat)
      case atStart => exact ⟨0, by omega, rfl, b03, hB3⟩
      case round =>
        obtain ⟨j, hj, rfl, hbw, hBw⟩ := hrel
        have e1 := (hbw.cell (p := ⟨bk, 1, none⟩) hbk).trans h1
        match j, hj with
        | 0, _ =>
          have W2 := writeString w.heap.size w.heap.size (Lib.byteCells [x]) ⟨#[44, 32]⟩ wr (.inr hBw) (show (3 : Nat) ≤ 140737488355328 by omega) hbw.size
          go_wp2_with fail
          refine W2.mono ?_
          rintro e w4 ⟨rfl, hB4, b4, _⟩
          have b04 := hbw.trans b4
          have W3 := writeString w.heap.size w.heap.size _ ⟨#[y]⟩ w4 (.inr hB4) (show (4 : Nat) ≤ 140737488355328 by omega) b04.size
          clear W2
          go_wp2_with fail
          refine W3.mono ?_
          rintro e w5 ⟨rfl, hB5, b5, _⟩
          have b05 := b04.trans b5
          clear W3
          go_wp2
          go_roundw
          case rel => exact ⟨1, by omega, rfl, b05, hB5⟩
          case measure => decide
        | 1, _ =>
          have S := Tryz.Builder_String_any_k w.heap.size w.heap.size [x, 44, 32, y] wr (.inr hBw) hbw.size
          go_wp2_with fail
          refine S.mono ?_
          rintro e w6 ⟨rfl, _, b6, _⟩
          go_wp2
          go_ret
          exact ⟨rfl, hbw.trans b6⟩
end Go.Proofs.YtgeibceijlaoaaaGreat
