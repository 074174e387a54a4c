/-
  chancellaw14: within, known, cond.
  chancellaw14: a row of conditions in memory, which grows in a policy's place.
  chancellaw14.DecideCounts: rows of named policies, rows of names, in memory (plain).
-/
import Derived.Test.YtldmfdkmkjiabaaGreatDcCD
import Derived.Test.YtldmfdkmkjiabaaGreatEvS
namespace Go.Proofs.YtldmfdkmkjiabaaGreat
open Go.RowKit Go.Sort

set_option maxHeartbeats 400000 in
set_option maxRecDepth 100000 in
theorem within14_any (a n : Int) (hn : 0 < n) (hn1 : n ≤ 4294967296) (w : World) :
    Calls Tryz.prog 9 #[.int .i64 a, .int .i64 n] w fun e w' => e = .returned (.int .i64 (a % n)) ∧ w' = w := by
  go_enter Tryz.func9, Tryz.ntmps9
  go_wp2
  · go_ret
    exact ⟨ret_int5 (tmod_neg a n hn hn1 (by assumption)), rfl⟩
  · go_ret
    exact ⟨ret_int5 (tmod_pos a n hn (by assumption)), rfl⟩

def condK (n : Nat) : Nat := n / 2 % 4
def condU (n : Nat) : Bool := decide (n % 2 = 1)
/-- A condition's tree, by its number. -/
def condX (n : Nat) : Ex := match condK n with
  | 0 => eBool true
  | 1 => eBool false
  | 2 => eTx 7 [97] [eVar [112, 114, 105, 110, 99, 105, 112, 97, 108]]
  | _ => eLong 0
def condR7 (kb n : Nat) : R7 := match condK n with
  | 0 => ⟨1, true, 0, ⟨#[]⟩, ⟨#[]⟩, ⟨#[]⟩, none, 0, 0⟩
  | 1 => ⟨1, false, 0, ⟨#[]⟩, ⟨#[]⟩, ⟨#[]⟩, none, 0, 0⟩
  | 2 => ⟨7, false, 0, ⟨#[97]⟩, ⟨#[]⟩, ⟨#[]⟩, some ⟨kb, 0, none⟩, 1, 1⟩
  | _ => ⟨2, false, 0, ⟨#[]⟩, ⟨#[]⟩, ⟨#[]⟩, none, 0, 0⟩
/-- What lies in memory of it: its kid. -/
def CondM (w : World) (kb n : Nat) : Prop := condK n = 2 → w.heap[kb]? = some (.cells #[.int .i64 5, .bool false, .int .i64 0, .string ⟨#[112, 114, 105, 110, 99, 105, 112, 97, 108]⟩, .string ⟨#[]⟩, .string ⟨#[]⟩, .slice none 0 0] 54 (0, 0))
theorem CondM.isE {w : World} {kb n : Nat} (h : CondM w kb n) : IsE w (fun _ => True) (condR7 kb n) (condX n) := by
  unfold CondM at h
  unfold condR7 condX
  generalize condK n = k at *
  match k with
  | 0 => exact isE_leaf w 1 true 0 [] [] [] 0 none
  | 1 => exact isE_leaf w 1 false 0 [] [] [] 0 none
  | 2 => exact isE_node (s := [97]) (t := []) (i := []) rfl (isEs_block [⟨5, false, 0, ⟨#[112, 114, 105, 110, 99, 105, 112, 97, 108]⟩, ⟨#[]⟩, ⟨#[]⟩, none, 0, 0⟩] [eVar [112, 114, 105, 110, 99, 105, 112, 97, 108]] (h rfl) rfl (.cons (isE_leaf w 5 false 0 [112, 114, 105, 110, 99, 105, 112, 97, 108] [] [] 0 none) .nil))
  | _ + 3 => exact isE_leaf w 2 false 0 [] [] [] 0 none
theorem CondM.turn {w w' : World} {kb n : Nat} (h : CondM w kb n) (hk : ∀ b, b = kb → b < w.heap.size → w'.heap[b]? = w.heap[b]?) : CondM w' kb n := fun h2 => (hk kb rfl (Array.getElem?_eq_some_iff.1 (h h2)).1).trans (h h2)
theorem condX_ok (n : Nat) : okEv (condX n) = true := by
  unfold condX
  match condK n with
  | 0 => decide +kernel
  | 1 => decide +kernel
  | 2 => decide +kernel
  | _ + 3 => exact (by decide +kernel : okEv (eLong 0) = true)
/-- What a condition of a number comes to. -/
def CondPost (w : World) (n : Nat) (e : Ending) (w' : World) : Prop := Below w.heap.size w w' ∧ ∃ kb, w.heap.size ≤ kb ∧ CondM w' kb n ∧
  e = .returned (.agg #[.bool (condU n), .int .i64 (condR7 kb n).k, .bool (condR7 kb n).b, .int .i64 (condR7 kb n).n, .string (condR7 kb n).s, .string (condR7 kb n).t, .string (condR7 kb n).i, .slice (condR7 kb n).lo (condR7 kb n).ll (condR7 kb n).lc])
set_option maxHeartbeats 4000000 in
set_option maxRecDepth 1000000 in
theorem cond14_0 (w : World) : Calls Tryz.prog 13 #[.int .i64 0] w (CondPost w 0) := by
  have CW := fun w' => within14_any 0 4 (by decide) (by decide) w'
  rw [show ((0 : Int) % 4) = 0 from rfl] at CW
  obtain ⟨b9, z9, k1, k2⟩ := ev2 w (.cells #[.bool false, .int .i64 1, .bool true, .int .i64 0, .string ⟨#[]⟩, .string ⟨#[]⟩, .string ⟨#[]⟩, .slice none 0 0] 56) (.cells #[.bool false, .int .i64 1, .bool true, .int .i64 0, .string ⟨#[]⟩, .string ⟨#[]⟩, .string ⟨#[]⟩, .slice none 0 0] 56)
  go_enter Tryz.func13, Tryz.ntmps13
  go_wp2_with fail
  refine (CW _).mono ?_
  clear CW
  rintro e w2 ⟨rfl, rfl⟩
  go_wp2
  generalize (w.alloc _).alloc _ = w9 at *
  have d0 : w9.cell? ⟨w.heap.size, 0, none⟩ = some (.bool false) := by rw [Lib.cell_of_heap k1]; rfl
  have d1 : w9.cell? ⟨w.heap.size, 1, none⟩ = some (.int .i64 1) := by rw [Lib.cell_of_heap k1]; rfl
  have d2 : w9.cell? ⟨w.heap.size, 2, none⟩ = some (.bool true) := by rw [Lib.cell_of_heap k1]; rfl
  have d3 : w9.cell? ⟨w.heap.size, 3, none⟩ = some (.int .i64 0) := by rw [Lib.cell_of_heap k1]; rfl
  have d4 : w9.cell? ⟨w.heap.size, 4, none⟩ = some (.string ⟨#[]⟩) := by rw [Lib.cell_of_heap k1]; rfl
  have d5 : w9.cell? ⟨w.heap.size, 5, none⟩ = some (.string ⟨#[]⟩) := by rw [Lib.cell_of_heap k1]; rfl
  have d6 : w9.cell? ⟨w.heap.size, 6, none⟩ = some (.string ⟨#[]⟩) := by rw [Lib.cell_of_heap k1]; rfl
  have d7 : w9.cell? ⟨w.heap.size, 7, none⟩ = some (.slice none 0 0) := by rw [Lib.cell_of_heap k1]; rfl
  exact bodyPost_ret (v := .agg #[.bool false, .int .i64 1, .bool true, .int .i64 0, .string ⟨#[]⟩, .string ⟨#[]⟩, .string ⟨#[]⟩, .slice none 0 0]) (by simp [results, Tryz.results13, go_sem, d0, d1, d2, d3, d4, d5, d6, d7]) rfl ⟨b9, w.heap.size + 2, by omega, fun h => absurd h (by decide), rfl⟩
set_option maxHeartbeats 4000000 in
set_option maxRecDepth 1000000 in
theorem cond14_1 (w : World) : Calls Tryz.prog 13 #[.int .i64 1] w (CondPost w 1) := by
  have CW := fun w' => within14_any 0 4 (by decide) (by decide) w'
  rw [show ((0 : Int) % 4) = 0 from rfl] at CW
  obtain ⟨b9, z9, k1, k2⟩ := ev2 w (.cells #[.bool true, .int .i64 1, .bool true, .int .i64 0, .string ⟨#[]⟩, .string ⟨#[]⟩, .string ⟨#[]⟩, .slice none 0 0] 56) (.cells #[.bool true, .int .i64 1, .bool true, .int .i64 0, .string ⟨#[]⟩, .string ⟨#[]⟩, .string ⟨#[]⟩, .slice none 0 0] 56)
  go_enter Tryz.func13, Tryz.ntmps13
  go_wp2_with fail
  refine (CW _).mono ?_
  clear CW
  rintro e w2 ⟨rfl, rfl⟩
  go_wp2
  generalize (w.alloc _).alloc _ = w9 at *
  have d0 : w9.cell? ⟨w.heap.size, 0, none⟩ = some (.bool true) := by rw [Lib.cell_of_heap k1]; rfl
  have d1 : w9.cell? ⟨w.heap.size, 1, none⟩ = some (.int .i64 1) := by rw [Lib.cell_of_heap k1]; rfl
  have d2 : w9.cell? ⟨w.heap.size, 2, none⟩ = some (.bool true) := by rw [Lib.cell_of_heap k1]; rfl
  have d3 : w9.cell? ⟨w.heap.size, 3, none⟩ = some (.int .i64 0) := by rw [Lib.cell_of_heap k1]; rfl
  have d4 : w9.cell? ⟨w.heap.size, 4, none⟩ = some (.string ⟨#[]⟩) := by rw [Lib.cell_of_heap k1]; rfl
  have d5 : w9.cell? ⟨w.heap.size, 5, none⟩ = some (.string ⟨#[]⟩) := by rw [Lib.cell_of_heap k1]; rfl
  have d6 : w9.cell? ⟨w.heap.size, 6, none⟩ = some (.string ⟨#[]⟩) := by rw [Lib.cell_of_heap k1]; rfl
  have d7 : w9.cell? ⟨w.heap.size, 7, none⟩ = some (.slice none 0 0) := by rw [Lib.cell_of_heap k1]; rfl
  exact bodyPost_ret (v := .agg #[.bool true, .int .i64 1, .bool true, .int .i64 0, .string ⟨#[]⟩, .string ⟨#[]⟩, .string ⟨#[]⟩, .slice none 0 0]) (by simp [results, Tryz.results13, go_sem, d0, d1, d2, d3, d4, d5, d6, d7]) rfl ⟨b9, w.heap.size + 2, by omega, fun h => absurd h (by decide), rfl⟩
set_option maxHeartbeats 4000000 in
set_option maxRecDepth 1000000 in
theorem cond14_2 (w : World) : Calls Tryz.prog 13 #[.int .i64 2] w (CondPost w 2) := by
  have CW := fun w' => within14_any 1 4 (by decide) (by decide) w'
  rw [show ((1 : Int) % 4) = 1 from rfl] at CW
  obtain ⟨b9, z9, k1, k2⟩ := ev2 w (.cells #[.bool false, .int .i64 1, .bool false, .int .i64 0, .string ⟨#[]⟩, .string ⟨#[]⟩, .string ⟨#[]⟩, .slice none 0 0] 56) (.cells #[.bool false, .int .i64 1, .bool false, .int .i64 0, .string ⟨#[]⟩, .string ⟨#[]⟩, .string ⟨#[]⟩, .slice none 0 0] 56)
  go_enter Tryz.func13, Tryz.ntmps13
  go_wp2_with fail
  refine (CW _).mono ?_
  clear CW
  rintro e w2 ⟨rfl, rfl⟩
  go_wp2
  generalize (w.alloc _).alloc _ = w9 at *
  have d0 : w9.cell? ⟨w.heap.size, 0, none⟩ = some (.bool false) := by rw [Lib.cell_of_heap k1]; rfl
  have d1 : w9.cell? ⟨w.heap.size, 1, none⟩ = some (.int .i64 1) := by rw [Lib.cell_of_heap k1]; rfl
  have d2 : w9.cell? ⟨w.heap.size, 2, none⟩ = some (.bool false) := by rw [Lib.cell_of_heap k1]; rfl
  have d3 : w9.cell? ⟨w.heap.size, 3, none⟩ = some (.int .i64 0) := by rw [Lib.cell_of_heap k1]; rfl
  have d4 : w9.cell? ⟨w.heap.size, 4, none⟩ = some (.string ⟨#[]⟩) := by rw [Lib.cell_of_heap k1]; rfl
  have d5 : w9.cell? ⟨w.heap.size, 5, none⟩ = some (.string ⟨#[]⟩) := by rw [Lib.cell_of_heap k1]; rfl
  have d6 : w9.cell? ⟨w.heap.size, 6, none⟩ = some (.string ⟨#[]⟩) := by rw [Lib.cell_of_heap k1]; rfl
  have d7 : w9.cell? ⟨w.heap.size, 7, none⟩ = some (.slice none 0 0) := by rw [Lib.cell_of_heap k1]; rfl
  exact bodyPost_ret (v := .agg #[.bool false, .int .i64 1, .bool false, .int .i64 0, .string ⟨#[]⟩, .string ⟨#[]⟩, .string ⟨#[]⟩, .slice none 0 0]) (by simp [results, Tryz.results13, go_sem, d0, d1, d2, d3, d4, d5, d6, d7]) rfl ⟨b9, w.heap.size + 2, by omega, fun h => absurd h (by decide), rfl⟩
set_option maxHeartbeats 4000000 in
set_option maxRecDepth 1000000 in
theorem cond14_3 (w : World) : Calls Tryz.prog 13 #[.int .i64 3] w (CondPost w 3) := by
  have CW := fun w' => within14_any 1 4 (by decide) (by decide) w'
  rw [show ((1 : Int) % 4) = 1 from rfl] at CW
  obtain ⟨b9, z9, k1, k2⟩ := ev2 w (.cells #[.bool true, .int .i64 1, .bool false, .int .i64 0, .string ⟨#[]⟩, .string ⟨#[]⟩, .string ⟨#[]⟩, .slice none 0 0] 56) (.cells #[.bool true, .int .i64 1, .bool false, .int .i64 0, .string ⟨#[]⟩, .string ⟨#[]⟩, .string ⟨#[]⟩, .slice none 0 0] 56)
  go_enter Tryz.func13, Tryz.ntmps13
  go_wp2_with fail
  refine (CW _).mono ?_
  clear CW
  rintro e w2 ⟨rfl, rfl⟩
  go_wp2
  generalize (w.alloc _).alloc _ = w9 at *
  have d0 : w9.cell? ⟨w.heap.size, 0, none⟩ = some (.bool true) := by rw [Lib.cell_of_heap k1]; rfl
  have d1 : w9.cell? ⟨w.heap.size, 1, none⟩ = some (.int .i64 1) := by rw [Lib.cell_of_heap k1]; rfl
  have d2 : w9.cell? ⟨w.heap.size, 2, none⟩ = some (.bool false) := by rw [Lib.cell_of_heap k1]; rfl
  have d3 : w9.cell? ⟨w.heap.size, 3, none⟩ = some (.int .i64 0) := by rw [Lib.cell_of_heap k1]; rfl
  have d4 : w9.cell? ⟨w.heap.size, 4, none⟩ = some (.string ⟨#[]⟩) := by rw [Lib.cell_of_heap k1]; rfl
  have d5 : w9.cell? ⟨w.heap.size, 5, none⟩ = some (.string ⟨#[]⟩) := by rw [Lib.cell_of_heap k1]; rfl
  have d6 : w9.cell? ⟨w.heap.size, 6, none⟩ = some (.string ⟨#[]⟩) := by rw [Lib.cell_of_heap k1]; rfl
  have d7 : w9.cell? ⟨w.heap.size, 7, none⟩ = some (.slice none 0 0) := by rw [Lib.cell_of_heap k1]; rfl
  exact bodyPost_ret (v := .agg #[.bool true, .int .i64 1, .bool false, .int .i64 0, .string ⟨#[]⟩, .string ⟨#[]⟩, .string ⟨#[]⟩, .slice none 0 0]) (by simp [results, Tryz.results13, go_sem, d0, d1, d2, d3, d4, d5, d6, d7]) rfl ⟨b9, w.heap.size + 2, by omega, fun h => absurd h (by decide), rfl⟩
set_option maxHeartbeats 4000000 in
set_option maxRecDepth 1000000 in
theorem cond14_4 (w : World) : Calls Tryz.prog 13 #[.int .i64 4] w (CondPost w 4) := by
  have CW := fun w' => within14_any 2 4 (by decide) (by decide) w'
  rw [show ((2 : Int) % 4) = 2 from rfl] at CW
  obtain ⟨b9, z9, k1, k2, k3⟩ := ev3 w (.cells #[.bool false, .int .i64 7, .bool false, .int .i64 0, .string ⟨#[97]⟩, .string ⟨#[]⟩, .string ⟨#[]⟩, .slice (some ⟨w.heap.size + 2, 0, none⟩) 1 1] 56) (.cells #[.bool false, .int .i64 7, .bool false, .int .i64 0, .string ⟨#[97]⟩, .string ⟨#[]⟩, .string ⟨#[]⟩, .slice (some ⟨w.heap.size + 2, 0, none⟩) 1 1] 56) (.cells #[.int .i64 5, .bool false, .int .i64 0, .string ⟨#[112, 114, 105, 110, 99, 105, 112, 97, 108]⟩, .string ⟨#[]⟩, .string ⟨#[]⟩, .slice none 0 0] 54)
  go_enter Tryz.func13, Tryz.ntmps13
  go_wp2_with fail
  refine (CW _).mono ?_
  clear CW
  rintro e w2 ⟨rfl, rfl⟩
  go_wp2
  generalize ((w.alloc _).alloc _).alloc _ = w9 at *
  have d0 : w9.cell? ⟨w.heap.size, 0, none⟩ = some (.bool false) := by rw [Lib.cell_of_heap k1]; rfl
  have d1 : w9.cell? ⟨w.heap.size, 1, none⟩ = some (.int .i64 7) := by rw [Lib.cell_of_heap k1]; rfl
  have d2 : w9.cell? ⟨w.heap.size, 2, none⟩ = some (.bool false) := by rw [Lib.cell_of_heap k1]; rfl
  have d3 : w9.cell? ⟨w.heap.size, 3, none⟩ = some (.int .i64 0) := by rw [Lib.cell_of_heap k1]; rfl
  have d4 : w9.cell? ⟨w.heap.size, 4, none⟩ = some (.string ⟨#[97]⟩) := by rw [Lib.cell_of_heap k1]; rfl
  have d5 : w9.cell? ⟨w.heap.size, 5, none⟩ = some (.string ⟨#[]⟩) := by rw [Lib.cell_of_heap k1]; rfl
  have d6 : w9.cell? ⟨w.heap.size, 6, none⟩ = some (.string ⟨#[]⟩) := by rw [Lib.cell_of_heap k1]; rfl
  have d7 : w9.cell? ⟨w.heap.size, 7, none⟩ = some (.slice (some ⟨w.heap.size + 2, 0, none⟩) 1 1) := by rw [Lib.cell_of_heap k1]; rfl
  exact bodyPost_ret (v := .agg #[.bool false, .int .i64 7, .bool false, .int .i64 0, .string ⟨#[97]⟩, .string ⟨#[]⟩, .string ⟨#[]⟩, .slice (some ⟨w.heap.size + 2, 0, none⟩) 1 1]) (by simp [results, Tryz.results13, go_sem, d0, d1, d2, d3, d4, d5, d6, d7]) rfl ⟨b9, w.heap.size + 2, by omega, fun _ => k3, rfl⟩
set_option maxHeartbeats 4000000 in
set_option maxRecDepth 1000000 in
theorem cond14_5 (w : World) : Calls Tryz.prog 13 #[.int .i64 5] w (CondPost w 5) := by
  have CW := fun w' => within14_any 2 4 (by decide) (by decide) w'
  rw [show ((2 : Int) % 4) = 2 from rfl] at CW
  obtain ⟨b9, z9, k1, k2, k3⟩ := ev3 w (.cells #[.bool true, .int .i64 7, .bool false, .int .i64 0, .string ⟨#[97]⟩, .string ⟨#[]⟩, .string ⟨#[]⟩, .slice (some ⟨w.heap.size + 2, 0, none⟩) 1 1] 56) (.cells #[.bool true, .int .i64 7, .bool false, .int .i64 0, .string ⟨#[97]⟩, .string ⟨#[]⟩, .string ⟨#[]⟩, .slice (some ⟨w.heap.size + 2, 0, none⟩) 1 1] 56) (.cells #[.int .i64 5, .bool false, .int .i64 0, .string ⟨#[112, 114, 105, 110, 99, 105, 112, 97, 108]⟩, .string ⟨#[]⟩, .string ⟨#[]⟩, .slice none 0 0] 54)
  go_enter Tryz.func13, Tryz.ntmps13
  go_wp2_with fail
  refine (CW _).mono ?_
  clear CW
  rintro e w2 ⟨rfl, rfl⟩
  go_wp2
  generalize ((w.alloc _).alloc _).alloc _ = w9 at *
  have d0 : w9.cell? ⟨w.heap.size, 0, none⟩ = some (.bool true) := by rw [Lib.cell_of_heap k1]; rfl
  have d1 : w9.cell? ⟨w.heap.size, 1, none⟩ = some (.int .i64 7) := by rw [Lib.cell_of_heap k1]; rfl
  have d2 : w9.cell? ⟨w.heap.size, 2, none⟩ = some (.bool false) := by rw [Lib.cell_of_heap k1]; rfl
  have d3 : w9.cell? ⟨w.heap.size, 3, none⟩ = some (.int .i64 0) := by rw [Lib.cell_of_heap k1]; rfl
  have d4 : w9.cell? ⟨w.heap.size, 4, none⟩ = some (.string ⟨#[97]⟩) := by rw [Lib.cell_of_heap k1]; rfl
  have d5 : w9.cell? ⟨w.heap.size, 5, none⟩ = some (.string ⟨#[]⟩) := by rw [Lib.cell_of_heap k1]; rfl
  have d6 : w9.cell? ⟨w.heap.size, 6, none⟩ = some (.string ⟨#[]⟩) := by rw [Lib.cell_of_heap k1]; rfl
  have d7 : w9.cell? ⟨w.heap.size, 7, none⟩ = some (.slice (some ⟨w.heap.size + 2, 0, none⟩) 1 1) := by rw [Lib.cell_of_heap k1]; rfl
  exact bodyPost_ret (v := .agg #[.bool true, .int .i64 7, .bool false, .int .i64 0, .string ⟨#[97]⟩, .string ⟨#[]⟩, .string ⟨#[]⟩, .slice (some ⟨w.heap.size + 2, 0, none⟩) 1 1]) (by simp [results, Tryz.results13, go_sem, d0, d1, d2, d3, d4, d5, d6, d7]) rfl ⟨b9, w.heap.size + 2, by omega, fun _ => k3, rfl⟩
set_option maxHeartbeats 4000000 in
set_option maxRecDepth 1000000 in
theorem cond14_6 (w : World) : Calls Tryz.prog 13 #[.int .i64 6] w (CondPost w 6) := by
  have CW := fun w' => within14_any 3 4 (by decide) (by decide) w'
  rw [show ((3 : Int) % 4) = 3 from rfl] at CW
  obtain ⟨b9, z9, k1, k2⟩ := ev2 w (.cells #[.bool false, .int .i64 2, .bool false, .int .i64 0, .string ⟨#[]⟩, .string ⟨#[]⟩, .string ⟨#[]⟩, .slice none 0 0] 56) (.cells #[.bool false, .int .i64 2, .bool false, .int .i64 0, .string ⟨#[]⟩, .string ⟨#[]⟩, .string ⟨#[]⟩, .slice none 0 0] 56)
  go_enter Tryz.func13, Tryz.ntmps13
  go_wp2_with fail
  refine (CW _).mono ?_
  clear CW
  rintro e w2 ⟨rfl, rfl⟩
  go_wp2
  generalize (w.alloc _).alloc _ = w9 at *
  have d0 : w9.cell? ⟨w.heap.size, 0, none⟩ = some (.bool false) := by rw [Lib.cell_of_heap k1]; rfl
  have d1 : w9.cell? ⟨w.heap.size, 1, none⟩ = some (.int .i64 2) := by rw [Lib.cell_of_heap k1]; rfl
  have d2 : w9.cell? ⟨w.heap.size, 2, none⟩ = some (.bool false) := by rw [Lib.cell_of_heap k1]; rfl
  have d3 : w9.cell? ⟨w.heap.size, 3, none⟩ = some (.int .i64 0) := by rw [Lib.cell_of_heap k1]; rfl
  have d4 : w9.cell? ⟨w.heap.size, 4, none⟩ = some (.string ⟨#[]⟩) := by rw [Lib.cell_of_heap k1]; rfl
  have d5 : w9.cell? ⟨w.heap.size, 5, none⟩ = some (.string ⟨#[]⟩) := by rw [Lib.cell_of_heap k1]; rfl
  have d6 : w9.cell? ⟨w.heap.size, 6, none⟩ = some (.string ⟨#[]⟩) := by rw [Lib.cell_of_heap k1]; rfl
  have d7 : w9.cell? ⟨w.heap.size, 7, none⟩ = some (.slice none 0 0) := by rw [Lib.cell_of_heap k1]; rfl
  exact bodyPost_ret (v := .agg #[.bool false, .int .i64 2, .bool false, .int .i64 0, .string ⟨#[]⟩, .string ⟨#[]⟩, .string ⟨#[]⟩, .slice none 0 0]) (by simp [results, Tryz.results13, go_sem, d0, d1, d2, d3, d4, d5, d6, d7]) rfl ⟨b9, w.heap.size + 2, by omega, fun h => absurd h (by decide), rfl⟩
set_option maxHeartbeats 4000000 in
set_option maxRecDepth 1000000 in
theorem cond14_7 (w : World) : Calls Tryz.prog 13 #[.int .i64 7] w (CondPost w 7) := by
  have CW := fun w' => within14_any 3 4 (by decide) (by decide) w'
  rw [show ((3 : Int) % 4) = 3 from rfl] at CW
  obtain ⟨b9, z9, k1, k2⟩ := ev2 w (.cells #[.bool true, .int .i64 2, .bool false, .int .i64 0, .string ⟨#[]⟩, .string ⟨#[]⟩, .string ⟨#[]⟩, .slice none 0 0] 56) (.cells #[.bool true, .int .i64 2, .bool false, .int .i64 0, .string ⟨#[]⟩, .string ⟨#[]⟩, .string ⟨#[]⟩, .slice none 0 0] 56)
  go_enter Tryz.func13, Tryz.ntmps13
  go_wp2_with fail
  refine (CW _).mono ?_
  clear CW
  rintro e w2 ⟨rfl, rfl⟩
  go_wp2
  generalize (w.alloc _).alloc _ = w9 at *
  have d0 : w9.cell? ⟨w.heap.size, 0, none⟩ = some (.bool true) := by rw [Lib.cell_of_heap k1]; rfl
  have d1 : w9.cell? ⟨w.heap.size, 1, none⟩ = some (.int .i64 2) := by rw [Lib.cell_of_heap k1]; rfl
  have d2 : w9.cell? ⟨w.heap.size, 2, none⟩ = some (.bool false) := by rw [Lib.cell_of_heap k1]; rfl
  have d3 : w9.cell? ⟨w.heap.size, 3, none⟩ = some (.int .i64 0) := by rw [Lib.cell_of_heap k1]; rfl
  have d4 : w9.cell? ⟨w.heap.size, 4, none⟩ = some (.string ⟨#[]⟩) := by rw [Lib.cell_of_heap k1]; rfl
  have d5 : w9.cell? ⟨w.heap.size, 5, none⟩ = some (.string ⟨#[]⟩) := by rw [Lib.cell_of_heap k1]; rfl
  have d6 : w9.cell? ⟨w.heap.size, 6, none⟩ = some (.string ⟨#[]⟩) := by rw [Lib.cell_of_heap k1]; rfl
  have d7 : w9.cell? ⟨w.heap.size, 7, none⟩ = some (.slice none 0 0) := by rw [Lib.cell_of_heap k1]; rfl
  exact bodyPost_ret (v := .agg #[.bool true, .int .i64 2, .bool false, .int .i64 0, .string ⟨#[]⟩, .string ⟨#[]⟩, .string ⟨#[]⟩, .slice none 0 0]) (by simp [results, Tryz.results13, go_sem, d0, d1, d2, d3, d4, d5, d6, d7]) rfl ⟨b9, w.heap.size + 2, by omega, fun h => absurd h (by decide), rfl⟩
/-- Any condition of a number below eight. -/
theorem cond14_any (n : Nat) (hn : n < 8) (w : World) : Calls Tryz.prog 13 #[.int .i64 n] w (CondPost w n) := by
  match n, hn with
  | 0, _ => exact cond14_0 w
  | 1, _ => exact cond14_1 w
  | 2, _ => exact cond14_2 w
  | 3, _ => exact cond14_3 w
  | 4, _ => exact cond14_4 w
  | 5, _ => exact cond14_5 w
  | 6, _ => exact cond14_6 w
  | 7, _ => exact cond14_7 w
  | n + 8, h => exact absurd h (by omega)

def pol0 : PolD := ⟨false, ⟨0, zU⟩, ⟨0, zU⟩, ⟨0, zU⟩, []⟩
def oneP : List (ByteArray × PolD) := [(⟨#[112]⟩, pol0)]
set_option maxHeartbeats 4000000 in
set_option maxRecDepth 1000000 in
theorem known14_any (w : World) (hf : FitL w) : Calls Tryz.prog 6 #[] w fun e w' => e = .returned (.bool true) ∧ Below w.heap.size w w' := by
  have C1 := fun w' (hb : Below w.heap.size w w') => dAll_any none [] 0 0 (noD zU zU zU) [] none 0 0 w' rfl (ew_nil w' (hf.below hb) _ _ _) rfl (by omega) (fun j h => absurd h (Nat.not_lt_zero _)) (fun x h => by cases h)
  rw [show alwD (noD zU zU zU) [] = false from rfl, show rsnD (noD zU zU zU) [] = [] from rfl, show tlyD (noD zU zU zU) [] 2 = [] from rfl] at C1
  have C2 := fun b w' (hb : Below w.heap.size w w') (hr : RowNm w' (some ⟨b, 0, none⟩) oneP) => dAll_any none [] 0 0 (noD zU zU zU) oneP (some ⟨b, 0, none⟩) 1 1 w' rfl (ew_nil w' (hf.below hb) _ _ _) rfl (by omega) hr (fun x h => by
    have hx : x = (⟨#[112]⟩, pol0) := by simpa [oneP] using h
    subst hx
    exact ⟨by decide, fun c hc => by cases hc⟩)
  rw [show alwD (noD zU zU zU) oneP = true from by kernel_rfl, show rsnD (noD zU zU zU) oneP = [⟨#[112]⟩] from by kernel_rfl, show tlyD (noD zU zU zU) oneP 2 = [] from by kernel_rfl] at C2
  go_enter Tryz.func6, Tryz.ntmps6
  go_wp2_with fail
  refine (C1 w (Below.refl _ _)).mono ?_
  clear C1
  rintro e w2 ⟨⟨ao, ac, bo, bc, rfl, h1, h2⟩, b2⟩
  dsimp only [List.length_nil]
  obtain ⟨bb, z4, k1, k2⟩ := ev2 w2 (.cells #[.bool false, .slice ao 0 ac, .slice bo 0 bc] 65) (.cells #[.string ⟨#[112]⟩, .bool false, .int .i64 0, .string ⟨#[]⟩, .string ⟨#[]⟩, .int .i64 0, .string ⟨#[]⟩, .string ⟨#[]⟩, .int .i64 0, .string ⟨#[]⟩, .string ⟨#[]⟩, .slice none 0 0] 63)
  have C := C2 (w2.heap.size + 1) _ (b2.trans (bb.mono b2.size)) (fun j hj => by
    have j0 : j = 0 := by
      have : j < 1 := hj
      omega
    subst j0
    refine ⟨w2.heap.size + 1, 0, none, 0, rfl, (Array.getElem?_eq_some_iff.1 k2).1, ?_, fun j h => absurd h (Nat.not_lt_zero _)⟩
    refine ⟨?_, ?_, ?_, ?_, ?_, ?_, ?_, ?_, ?_, ?_, ?_, ?_⟩ <;> (rw [Lib.cell_of_heap k2]; rfl))
  clear C2 z4
  go_wp2_with fail
  generalize (w2.alloc _).alloc _ = w4 at *
  refine C.mono ?_
  clear C
  rintro e w5 ⟨⟨po, pc, qo, qc, rfl, h3, h4⟩, b5⟩
  dsimp only [List.length_nil, List.length_cons]
  have B5 := b2.trans ((bb.trans (b5.mono bb.size)).mono b2.size)
  have k15 := kept_of_below b5 k1
  obtain ⟨b, off, rfl, hb, hc⟩ := h3 0 (by decide)
  have c0 := hc 0 (.string ⟨#[112]⟩) rfl
  have b6 := ev1 w5 (.cells #[.bool true, .slice (some ⟨b, off, none⟩) 1 pc, .slice qo 0 qc] 65)
  have h6 := alloc_heap w5 (.cells #[.bool true, .slice (some ⟨b, off, none⟩) 1 pc, .slice qo 0 qc] 65)
  have k16 := kept_of_below b6 k15
  have c6 := (b6.cell (p := ⟨b, off + 0 * 1 + 0, none⟩) hb).trans c0
  have B6 := B5.trans (b6.mono B5.size)
  clear k1 k2 k15 c0 hc h1 h2 h3 h4 hf
  go_upto_region 3 with fail
  generalize w5.alloc _ = w6 at *
  have x0 : w6.cell? ⟨w2.heap.size, 0, none⟩ = some (.bool false) := by rw [Lib.cell_of_heap k16]; rfl
  have x1 : w6.cell? ⟨w2.heap.size, 1, none⟩ = some (.slice ao 0 ac) := by rw [Lib.cell_of_heap k16]; rfl
  have y0 : w6.cell? ⟨w5.heap.size, 0, none⟩ = some (.bool true) := by rw [Lib.cell_of_heap h6]; rfl
  have y1 : w6.cell? ⟨w5.heap.size, 1, none⟩ = some (.slice (some ⟨b, off, none⟩) 1 pc) := by rw [Lib.cell_of_heap h6]; rfl
  have y2 : w6.cell? ⟨b, off, none⟩ = some (.string ⟨#[112]⟩) := by simpa using c6
  clear k16 h6
  go_wp2
  go_ret
  exact ⟨rfl, B6⟩
end Go.Proofs.YtldmfdkmkjiabaaGreat

namespace Go.Proofs.YtldmfdkmkjiabaaGreat
open Go.RowKit Go.Sort

/-- A condition's cells, by its number and its kid's block. -/
def cCells (p : Nat × Nat) : List Value := [.bool (condU p.1), .int .i64 (condR7 p.2 p.1).k, .bool (condR7 p.2 p.1).b, .int .i64 (condR7 p.2 p.1).n, .string (condR7 p.2 p.1).s, .string (condR7 p.2 p.1).t, .string (condR7 p.2 p.1).i, .slice (condR7 p.2 p.1).lo (condR7 p.2 p.1).ll (condR7 p.2 p.1).lc]
def polC (pv : Value) : Array Value := #[.bool false, .int .i64 0, .string ⟨#[]⟩, .string ⟨#[]⟩, .int .i64 0, .string ⟨#[]⟩, .string ⟨#[]⟩, .int .i64 0, .string ⟨#[]⟩, .string ⟨#[]⟩, pv]
def condsOf (ns : List Nat) : List (Bool × Ex) := ns.map fun n => (condU n, condX n)
theorem lenC8 (L : List (Nat × Nat)) : ∀ c ∈ L.map cCells, c.length = 8 := by
  intro c hc
  obtain ⟨p, _, rfl⟩ := List.mem_map.1 hc
  rfl
theorem one_cCells (p : Nat × Nat) : ∀ u ∈ cCells p, u.oneCell' = true := by
  intro u hu
  simp only [cCells, List.mem_cons, List.not_mem_nil, or_false] at hu
  rcases hu with rfl | rfl | rfl | rfl | rfl | rfl | rfl | rfl <;> rfl
theorem infoCond : (Tryz.prog.info? 56).map (fun i => (i.zero, i.size, i.bytes)) = some (some (.agg #[.bool false, .int .i64 0, .bool false, .int .i64 0, .string ⟨#[]⟩, .string ⟨#[]⟩, .string ⟨#[]⟩, .slice none 0 0]), 8, 104) := by kernel_rfl
/-- A row of conditions that the law has made, its kids behind B. -/
structure OwnC (w : World) (B : Nat) (pv : Value) (L : List (Nat × Nat)) : Prop where
  own : w.ownsRow B 56 8 pv L.length (L.map cCells).flatten
  mem : ∀ p ∈ L, B ≤ p.2 ∧ CondM w p.2 p.1
theorem OwnC.nil (w : World) (B : Nat) : OwnC w B (.slice none 0 0) [] := ⟨World.ownsRow_nil _ _ _ _, fun p h => by cases h⟩
theorem OwnC.kept {w w' : World} {B : Nat} {pv : Value} {L : List (Nat × Nat)} (h : OwnC w B pv L) (hk : ∀ b, B ≤ b → b < w.heap.size → w'.heap[b]? = w.heap[b]?) : OwnC w' B pv L :=
  ⟨own_keptS h.own fun g e hg => hk g (h.own.lt g e).1 hg, fun p hp => ⟨(h.mem p hp).1, (h.mem p hp).2.turn fun b e hb => hk b (e ▸ (h.mem p hp).1) hb⟩⟩
theorem OwnC.row {w : World} {B : Nat} {pv : Value} {L : List (Nat × Nat)} (h : OwnC w B pv L) : ∃ ao cap, pv = .slice ao L.length cap ∧ RowCd w ao (condsOf (L.map Prod.fst)) := by
  have h' : w.ownsRow B 56 8 pv (L.map cCells).length (L.map cCells).flatten := by rw [List.length_map]; exact h.own
  obtain ⟨ao, cap, hv, hr, _, _⟩ := rowG_ownE (lenC8 L) h'
  rw [List.length_map] at hv
  refine ⟨ao, cap, hv, fun j hj => ?_⟩
  have hj' : j < L.length := by simpa [condsOf] using hj
  obtain ⟨b, off, e, hb, hc⟩ := hr j (by simpa using hj')
  have hg : (L.map cCells)[j]'(by simpa using hj') = cCells L[j] := by simp
  rw [hg] at hc
  have he : (condsOf (L.map Prod.fst))[j] = (condU L[j].1, condX L[j].1) := by simp [condsOf]
  rw [he]
  refine ⟨condR7 L[j].2 L[j].1, b, off, e, hb, ⟨hc 0 _ rfl, hc 1 _ rfl, hc 2 _ rfl, hc 3 _ rfl, hc 4 _ rfl, hc 5 _ rfl, hc 6 _ rfl, hc 7 _ rfl⟩, (h.mem L[j] (List.getElem_mem hj')).2.isE⟩

/-- While one more condition is laid behind a policy's row: which operations are done (5: the append, 7: the store). -/
structure RcC (w wr : World) (P B : Nat) (pv : Value) (n : Nat) (L : List (Nat × Nat)) (Lb : Nat → Bool) (a' : Act) (w' : World) : Prop where
  bel : Below w.heap.size w w'
  size : wr.heap.size ≤ w'.heap.size
  keep : ∀ b, b < wr.heap.size → b ≠ P → pv.ownBlock ≠ some b → w'.heap[b]? = wr.heap[b]?
  low : Lb 5 = false → Below wr.heap.size wr w'
  pol : Lb 7 = false → w'.heap[P]? = some (.cells (polC pv) 46 (0, 0))
  ord : Lb 7 = true → ∀ j, j < 7 → Lb j = true
  app : Lb 5 = true → ∃ ao m c kb, a'.tmps.getD 32 undef = .slice ao m c ∧ wr.heap.size ≤ kb ∧ CondM w' kb n ∧ w'.ownsRow B 56 8 (.slice ao m c) (L.length + 1) ((L.map cCells).flatten ++ cCells (n, kb)) ∧ (Lb 7 = true → w'.heap[P]? = some (.cells (polC (.slice ao m c)) 46 (0, 0)))
theorem put_neC (a : Act) (d s : Nat) (v : Value) (h : s ≠ d) : (a.put (some d) v).tmps.getD s undef = a.tmps.getD s undef := by
  simp [Act.put, Array.getElem?_setIfInBounds_ne (Ne.symm h)]
section
variable {w wr w' w'' : World} {P B : Nat} {pv : Value} {n : Nat} {L : List (Nat × Nat)} {Lb : Nat → Bool} {a' : Act}
theorem RcC.start (hb : Below w.heap.size w wr) (hp : wr.heap[P]? = some (.cells (polC pv) 46 (0, 0))) (a : Act) : RcC w wr P B pv n L (fun _ => false) a wr.drew :=
  ⟨hb.drew, Nat.le_refl _, fun _ _ _ _ => rfl, fun _ => (Below.refl _ wr).drew, fun _ => hp, fun h => (by cases h), fun h => (by cases h)⟩
/-- A step that changes nothing of what was there. -/
theorem RcC.grow (h : RcC w wr P B pv n L Lb a' w') (hP : P < wr.heap.size) (i d : Nat) (v : Value) (h5 : i ≠ 5) (h7 : i ≠ 7) (hd : d ≠ 32) (hb : Below w'.heap.size w' w'') : RcC w wr P B pv n L (fun j => decide (j = i) || Lb j) (a'.put (some d) v) w'' := by
  have e5 : ((fun j => decide (j = i) || Lb j) 5) = Lb 5 := by simp [Ne.symm h5]
  have e7 : ((fun j => decide (j = i) || Lb j) 7) = Lb 7 := by simp [Ne.symm h7]
  have hP' : P < w'.heap.size := Nat.lt_of_lt_of_le hP h.size
  refine ⟨h.bel.trans (hb.mono h.bel.size), Nat.le_trans h.size hb.size, fun b h1 h2 h3 => (hb.block b (Nat.lt_of_lt_of_le h1 h.size)).trans (h.keep b h1 h2 h3), fun e => (h.low (e5 ▸ e)).trans (hb.mono h.size), fun e => (hb.block P hP').trans (h.pol (e7 ▸ e)), fun e j hj => by simp [h.ord (e7 ▸ e) j hj], fun e => ?_⟩
  obtain ⟨ao, m, c, kb, k1, k2, k3, k4, k5⟩ := h.app (e5 ▸ e)
  exact ⟨ao, m, c, kb, (put_neC a' d 32 v (Ne.symm hd)).trans k1, k2, k3.turn fun b _ hl => hb.block b hl, own_keptS k4 fun g _ hl => hb.block g hl, fun e => (hb.block P hP').trans (k5 (e7 ▸ e))⟩
/-- The append. -/
theorem RcC.appd (h : RcC w wr P B pv n L Lb a' w') (hL : Lb 5 = false) (hwB : w.heap.size ≤ B) (ho : wr.ownsRow B 56 8 pv L.length (L.map cCells).flatten) (hs : 32 < a'.tmps.size) (hP : wr.heap[P]? = some (.cells (polC pv) 46 (0, 0))) {kb : Nat} (hkb : wr.heap.size ≤ kb) (hm : CondM w' kb n) {v : Value}
    (hown : w''.ownsRow B 56 8 v (L.length + 1) ((L.map cCells).flatten ++ cCells (n, kb))) (hg : w'.grownBy w'' pv.ownBlock) : RcC w wr P B pv n L (fun j => decide (j = 5) || Lb j) (a'.put (some 32) v) w'' := by
  have h7 : Lb 7 = false := by
    cases e : Lb 7 with
    | false => rfl
    | true => rw [h.ord e 5 (by decide)] at hL; cases hL
  have hlow := h.low hL
  have hlt : ∀ g, pv.ownBlock = some g → g < wr.heap.size := fun g e => (ho.lt g e).2
  have hPl : P < wr.heap.size := (Array.getElem?_eq_some_iff.1 hP).1
  have hPn : pv.ownBlock ≠ some P := own_notS (show 56 ≠ 46 by decide) ho hP
  refine ⟨h.bel.grown hg h.bel.size fun k e => Nat.le_trans hwB (ho.lt k e).1, Nat.le_trans h.size hg.size, fun b h1 h2 h3 => (hg.block b (Nat.lt_of_lt_of_le h1 h.size) (fun e => h3 e.symm)).trans (h.keep b h1 h2 h3), fun e => by simp at e, fun _ => (hg.block P (Nat.lt_of_lt_of_le hPl h.size) (fun e => hPn e.symm)).trans (h.pol h7), fun e => by simp [h7] at e, fun _ => ?_⟩
  obtain ⟨ao, m, c, rfl⟩ : ∃ ao m c, v = .slice ao m c := by
    rcases hown.2 with ⟨hv, _⟩ | ⟨g, cap, cur, hv, _⟩
    · exact ⟨_, _, _, hv⟩
    · exact ⟨_, _, _, hv⟩
  refine ⟨ao, m, c, kb, by simp [Act.put, hs], hkb, hm.turn fun b e hl => hg.block b hl (fun e2 => by have := hlt b e2.symm; omega), hown, fun e => ?_⟩
  simp [h7] at e
/-- The store. -/
theorem RcC.stor (h : RcC w wr P B pv n L Lb a' w') (hL : Lb 7 = false) (hall : ∀ j, j < 7 → Lb j = true) (hwP : w.heap.size ≤ P) (hP : P < wr.heap.size) {ao : Option Addr} {m c : Nat} (hv : a'.tmps.getD 32 undef = .slice ao m c) : RcC w wr P B pv n L (fun j => decide (j = 7) || Lb j) a' (w'.setCell ⟨P, 10, none⟩ (.slice ao m c)) := by
  have hk := h.pol hL
  have h5 := hall 5 (by decide)
  have hset := heap_setCell_same w' P 10 _ _ (.slice ao m c) hk
  have hoth : ∀ b, b ≠ P → (w'.setCell ⟨P, 10, none⟩ (.slice ao m c)).heap[b]? = w'.heap[b]? := fun b hb => Below.heap_setCell w' ⟨P, 10, none⟩ _ b hb
  refine ⟨h.bel.setCell (p := ⟨P, 10, none⟩) hwP _, by rw [World.size_setCell]; exact h.size, fun b h1 h2 h3 => (hoth b h2).trans (h.keep b h1 h2 h3), fun e => ?_, fun e => by simp at e, fun _ j hj => by simp [hall j hj], fun _ => ?_⟩
  · simp [h5] at e
  · obtain ⟨ao', m', c', kb, k1, k2, k3, k4, _⟩ := h.app h5
    have e := hv.symm.trans k1
    injection e with e1 e2 e3
    subst e1 e2 e3
    exact ⟨ao, m, c, kb, hv, k2, k3.turn fun b e _ => hoth b (by omega), own_keptS k4 fun g e _ => hoth g (fun e2 => own_notS (show 56 ≠ 46 by decide) k4 hk (e2 ▸ e)), fun _ => hset⟩
end
/-- What the region's operations answer. -/
def dcSp (P W : Nat) (pv : Value) (n : Nat) : Nat → Value → World → Prop
  | 0, v, _ => v = .pointer (some ⟨P, 10, none⟩)
  | 1, v, _ => v = pv
  | 2, v, _ => v = .int .i64 n
  | 3, v, w' => ∃ kb, W ≤ kb ∧ CondM w' kb n ∧ v = .agg (cCells (n, kb)).toArray
  | 4, v, w' => ∃ kb g, W ≤ kb ∧ W ≤ g ∧ CondM w' kb n ∧ w'.heap[g]? = some (.cells (cCells (n, kb)).toArray 56 (0, 0)) ∧ v = .slice (some ⟨g, 0, none⟩) 1 1
  | 6, v, _ => v = .pointer (some ⟨P, 10, none⟩)
  | _, _, _ => True
theorem dcSp_up {P W : Nat} {pv : Value} {n : Nat} {w' w'' : World} (hk : ∀ b, W ≤ b → b < w'.heap.size → w''.heap[b]? = w'.heap[b]?) (j : Nat) (u : Value) (h : dcSp P W pv n j u w') : dcSp P W pv n j u w'' := by
  match j with
  | 0 | 1 | 2 | 6 => exact h
  | 3 =>
    obtain ⟨kb, h1, h2, h3⟩ := h
    exact ⟨kb, h1, h2.turn fun b e hl => hk b (e ▸ h1) hl, h3⟩
  | 4 =>
    obtain ⟨kb, g, h1, h2, h3, h4, h5⟩ := h
    exact ⟨kb, g, h1, h2, h3.turn fun b e hl => hk b (e ▸ h1) hl, (hk g h2 (Array.getElem?_eq_some_iff.1 h4).1).trans h4, h5⟩
  | 5 => trivial
  | _ + 7 => trivial
theorem condsC_push (D : EvD) (l : List (Bool × Ex)) (c : Bool × Ex) : condsC D (l ++ [c]) = match condsC D l with
    | .inl true => condR (evalE D c.2) c.1
    | .inl false => .inl false
    | .inr e => .inr e := by
  induction l with
  | nil =>
    show condsC D [c] = condR (evalE D c.2) c.1
    unfold condsC
    generalize condR (evalE D c.2) c.1 = r
    match r with
    | .inl true => rfl
    | .inl false => rfl
    | .inr e => rfl
  | cons a t ih =>
    show condsC D (a :: (t ++ [c])) = match condsC D (a :: t) with
      | .inl true => condR (evalE D c.2) c.1
      | .inl false => .inl false
      | .inr e => .inr e
    unfold condsC
    generalize condR (evalE D a.2) a.1 = r
    match r with
    | .inl true => exact ih
    | .inl false => rfl
    | .inr e => rfl
def aU : U2 := ⟨⟨#[65]⟩, ⟨#[]⟩⟩
/-- What a condition of a number comes to, where there are no entities. -/
def condW (n : Nat) : Bool ⊕ Int := match condK n with
  | 0 => .inl (!condU n)
  | 1 => .inl (condU n)
  | 2 => .inr 18
  | _ => .inr 16
theorem condW0 (u : Bool) : condR (evalE (noD aU zU zU) (eBool true)) u = .inl (!u) := by cases u <;> kernel_rfl
theorem condW1 (u : Bool) : condR (evalE (noD aU zU zU) (eBool false)) u = .inl u := by cases u <;> kernel_rfl
theorem condW2 (u : Bool) : condR (evalE (noD aU zU zU) (eTx 7 [97] [eVar [112, 114, 105, 110, 99, 105, 112, 97, 108]])) u = .inr 18 := by cases u <;> kernel_rfl
theorem condW3 (u : Bool) : condR (evalE (noD aU zU zU) (eLong 0)) u = .inr 16 := by cases u <;> kernel_rfl
theorem condW_is (n : Nat) : condR (evalE (noD aU zU zU) (condX n)) (condU n) = condW n := by
  unfold condW condX
  match condK n with
  | 0 => exact condW0 _
  | 1 => exact condW1 _
  | 2 => exact condW2 _
  | k + 3 => exact condW3 _
end Go.Proofs.YtldmfdkmkjiabaaGreat

namespace Go.Proofs.YtldmfdkmkjiabaaGreat
open Go.RowKit Go.Sort

structure NIt where
  nm : ByteArray
  n : Nat
  cb : Nat
  kb : Nat
def polN (n : Nat) : PolD := ⟨decide (n % 2 = 1), ⟨0, zU⟩, ⟨0, zU⟩, ⟨0, zU⟩, [(condU (n / 2), condX (n / 2))]⟩
def nCells (it : NIt) : List Value := [.string it.nm, .bool (decide (it.n % 2 = 1)), .int .i64 0, .string ⟨#[]⟩, .string ⟨#[]⟩, .int .i64 0, .string ⟨#[]⟩, .string ⟨#[]⟩, .int .i64 0, .string ⟨#[]⟩, .string ⟨#[]⟩, .slice (some ⟨it.cb, 0, none⟩) 1 1]
def lN (L : List NIt) : List (ByteArray × PolD) := L.map fun it => (it.nm, polN it.n)
theorem lenN12 (L : List NIt) : ∀ c ∈ L.map nCells, c.length = 12 := by
  intro c hc
  obtain ⟨p, _, rfl⟩ := List.mem_map.1 hc
  rfl
theorem one_nCells (it : NIt) : ∀ u ∈ nCells it, u.oneCell' = true := by
  intro u hu
  simp only [nCells, List.mem_cons, List.not_mem_nil, or_false] at hu
  rcases hu with rfl | rfl | rfl | rfl | rfl | rfl | rfl | rfl | rfl | rfl | rfl | rfl <;> rfl
theorem infoNamed : (Tryz.prog.info? 63).map (fun i => (i.zero, i.size, i.bytes)) = some (some (.agg #[.string ⟨#[]⟩, .bool false, .int .i64 0, .string ⟨#[]⟩, .string ⟨#[]⟩, .int .i64 0, .string ⟨#[]⟩, .string ⟨#[]⟩, .int .i64 0, .string ⟨#[]⟩, .string ⟨#[]⟩, .slice none 0 0]), 12, 168) := by kernel_rfl
/-- All blocks of other types than T0 stay. -/
structure KTy (w w' : World) (T0 : TypeId) : Prop where
  size : w.heap.size ≤ w'.heap.size
  keep : ∀ (b : Nat) (cs : Array Value) (T : TypeId) (fz : Nat × Nat), w.heap[b]? = some (Obj.cells cs T fz) → T ≠ T0 → w'.heap[b]? = w.heap[b]?
theorem KTy.of_grown {w w' : World} {B n k : Nat} {T0 : TypeId} {v : Value} {xs : List Value} (h : w.ownsRow B T0 n v k xs) (hg : w.grownBy w' v.ownBlock) : KTy w w' T0 :=
  ⟨hg.size, fun b _ _ _ hb hT => hg.block b (Array.getElem?_eq_some_iff.1 hb).1 fun e => own_notS (Ne.symm hT) h hb e.symm⟩
theorem KTy.own {w w' : World} {T0 : TypeId} (hk : KTy w w' T0) {B n k : Nat} {T : TypeId} {v : Value} {xs : List Value} (h : w.ownsRow B T n v k xs) (hT : T ≠ T0) : w'.ownsRow B T n v k xs := by
  refine ⟨h.1, h.2.imp id ?_⟩
  rintro ⟨g, cap, cur, h1, h2, h3, h4⟩
  exact ⟨g, cap, cur, h1, h2, (hk.keep g _ _ _ h3 hT).trans h3, h4⟩
theorem KTy.cond {w w' : World} {T0 : TypeId} (hk : KTy w w' T0) (hT : 54 ≠ T0) {kb n : Nat} (h : CondM w kb n) : CondM w' kb n := fun h2 => (hk.keep kb _ _ _ (h h2) hT).trans (h h2)
/-- A row of named policies that the law has made. -/
structure OwnN (w : World) (B : Nat) (pv : Value) (L : List NIt) : Prop where
  own : w.ownsRow B 63 12 pv L.length (L.map nCells).flatten
  mem : ∀ it ∈ L, w.heap[it.cb]? = some (.cells (cCells (it.n / 2, it.kb)).toArray 56 (0, 0)) ∧ CondM w it.kb (it.n / 2)
theorem OwnN.nil (w : World) (B : Nat) : OwnN w B (.slice none 0 0) [] := ⟨World.ownsRow_nil _ _ _ _, fun p h => by cases h⟩
theorem OwnN.kty {w w' : World} {B : Nat} {pv : Value} {L : List NIt} (h : OwnN w B pv L) {T0 : TypeId} (hk : KTy w w' T0) (h1 : 63 ≠ T0) (h2 : 56 ≠ T0) (h3 : 54 ≠ T0) : OwnN w' B pv L :=
  ⟨hk.own h.own h1, fun it hi => ⟨(hk.keep _ _ _ _ (h.mem it hi).1 h2).trans (h.mem it hi).1, hk.cond h3 (h.mem it hi).2⟩⟩
theorem OwnN.below {w w' : World} {B : Nat} {pv : Value} {L : List NIt} (h : OwnN w B pv L) (hb : Below w.heap.size w w') : OwnN w' B pv L :=
  ⟨own_keptS h.own fun g _ hg => hb.block g hg, fun it hi => ⟨kept_of_below hb (h.mem it hi).1, (h.mem it hi).2.turn fun b _ hl => hb.block b hl⟩⟩
theorem OwnN.push {w w' : World} {B : Nat} {pv v : Value} {L : List NIt} (h : OwnN w B pv L) (it : NIt) (hc : w.heap[it.cb]? = some (.cells (cCells (it.n / 2, it.kb)).toArray 56 (0, 0))) (hm : CondM w it.kb (it.n / 2)) (hown : w'.ownsRow B 63 12 v (L.length + 1) ((L.map nCells).flatten ++ nCells it)) (hg : w.grownBy w' pv.ownBlock) : OwnN w' B v (L ++ [it]) := by
  have hk := KTy.of_grown h.own hg
  refine ⟨?_, fun x hx => ?_⟩
  · rw [List.length_append, List.map_append, List.flatten_append]
    simpa using hown
  · rcases List.mem_append.1 hx with hx | hx
    · exact ⟨(hk.keep _ _ _ _ (h.mem x hx).1 (by decide)).trans (h.mem x hx).1, hk.cond (by decide) (h.mem x hx).2⟩
    · rw [List.mem_singleton.1 hx]
      exact ⟨(hk.keep _ _ _ _ hc (by decide)).trans hc, hk.cond (by decide) hm⟩
theorem OwnN.row {w : World} {B : Nat} {pv : Value} {L : List NIt} (h : OwnN w B pv L) : ∃ ao cap, pv = .slice ao L.length cap ∧ RowNm w ao (lN L) := by
  have h' : w.ownsRow B 63 12 pv (L.map nCells).length (L.map nCells).flatten := by rw [List.length_map]; exact h.own
  obtain ⟨ao, cap, hv, hr, _, _⟩ := rowG_ownE (lenN12 L) h'
  rw [List.length_map] at hv
  refine ⟨ao, cap, hv, fun j hj => ?_⟩
  have hj' : j < L.length := by simpa [lN] using hj
  obtain ⟨b, off, e, hb, hc⟩ := hr j (by simpa using hj')
  have hg : (L.map nCells)[j]'(by simpa using hj') = nCells L[j] := by simp
  rw [hg] at hc
  have he : (lN L)[j] = (L[j].nm, polN L[j].n) := by simp [lN]
  rw [he]
  obtain ⟨hm1, hm2⟩ := h.mem L[j] (List.getElem_mem hj')
  refine ⟨b, off, some ⟨L[j].cb, 0, none⟩, 1, e, hb, ⟨hc 0 _ rfl, hc 1 _ rfl, hc 2 _ rfl, hc 3 _ rfl, hc 4 _ rfl, hc 5 _ rfl, hc 6 _ rfl, hc 7 _ rfl, hc 8 _ rfl, hc 9 _ rfl, hc 10 _ rfl, hc 11 _ rfl⟩, fun k hk => ?_⟩
  have k0 : k = 0 := by
    have : k < 1 := hk
    omega
  subst k0
  refine ⟨condR7 L[j].kb (L[j].n / 2), L[j].cb, 0, rfl, (Array.getElem?_eq_some_iff.1 hm1).1, ⟨?_, ?_, ?_, ?_, ?_, ?_, ?_, ?_⟩, hm2.isE⟩ <;> (rw [Lib.cell_of_heap hm1]; rfl)
theorem lN_ok (L : List NIt) : okNm (lN L) := by
  intro x hx
  obtain ⟨it, _, rfl⟩ := List.mem_map.1 hx
  refine ⟨by show 1 ≤ 100000; decide, fun c hc => ?_⟩
  have : c = (condU (it.n / 2), condX (it.n / 2)) := by simpa [polN] using hc
  rw [this]
  exact condX_ok _
theorem tlyD_push (D : EvD) (L : List NIt) (it : NIt) (i : Nat) : tlyD D (lN (L ++ [it])) i = tlyD D (lN L) i ++ (if clsD D (polN it.n) = i then [it.nm] else []) := by
  unfold tlyD lN
  rw [List.map_append, List.filter_append, List.map_append]
  congr 1
  show List.map Prod.fst (List.filter _ [(it.nm, polN it.n)]) = _
  by_cases h : clsD D (polN it.n) = i
  · rw [if_pos h, List.filter_cons_of_pos (by simpa using h)]
    rfl
  · rw [if_neg h, List.filter_cons_of_neg (by simpa using h)]
    rfl
/-- What becomes of a policy of a number, where there are no entities. -/
def kN (n : Nat) : Nat := match condW (n / 2) with
  | .inl true => if n % 2 = 1 then 1 else 0
  | .inl false => 3
  | .inr _ => 2
theorem kN_is (n : Nat) : clsD (noD aU zU zU) (polN n) = kN n := by
  unfold clsD dcOne
  rw [if_pos (show scsC (noD aU zU zU) (polN n) = true from rfl)]
  show (match condsC (noD aU zU zU) [(condU (n / 2), condX (n / 2))] with
    | .inl true => if decide (n % 2 = 1) = true then 1 else 0
    | .inl false => 3
    | .inr _ => 2) = _
  have h := condsC_push (noD aU zU zU) [] (condU (n / 2), condX (n / 2))
  rw [List.nil_append, condW_is] at h
  have h : condsC (noD aU zU zU) [(condU (n / 2), condX (n / 2))] = condW (n / 2) := h
  rw [h]
  unfold kN
  match condW (n / 2) with
  | .inl true => simp
  | .inl false => rfl
  | .inr _ => rfl
/-- Three rows of names, apart. -/
structure Rows3 (w : World) (B : Nat) (V : Nat → Value) (S : Nat → List ByteArray) : Prop where
  own : ∀ i, i < 3 → w.ownsRow B 9 1 (V i) (S i).length (strsV (S i))
  apart : ∀ i k, i < 3 → k < 3 → i ≠ k → ∀ g, (V i).ownBlock = some g → (V k).ownBlock ≠ some g
theorem Rows3.kty {w w' : World} {B : Nat} {V : Nat → Value} {S : Nat → List ByteArray} (h : Rows3 w B V S) {T0 : TypeId} (hk : KTy w w' T0) (h1 : 9 ≠ T0) : Rows3 w' B V S := ⟨fun i hi => hk.own (h.own i hi) h1, h.apart⟩
theorem Rows3.below {w w' : World} {B : Nat} {V : Nat → Value} {S : Nat → List ByteArray} (h : Rows3 w B V S) (hb : Below w.heap.size w w') : Rows3 w' B V S := ⟨fun i hi => own_keptS (h.own i hi) fun g _ hg => hb.block g hg, h.apart⟩
theorem Rows3.next {w w' : World} {B : Nat} {V : Nat → Value} {S S' : Nat → List ByteArray} (h : Rows3 w B V S) (i : Nat) (hi : i < 3) (nm : ByteArray) (hS : ∀ k, S' k = S k ++ (if i = k then [nm] else [])) {v6 : Value}
    (hown : w'.ownsRow B 9 1 v6 ((S i).length + 1) (strsV (S i) ++ [.string nm])) (hg : w.grownBy w' (V i).ownBlock) (hat : v6.ownBlock = (V i).ownBlock ∨ v6.ownBlock = some w.heap.size) : Rows3 w' B (updV V i v6) S' := by
  have hlt : ∀ k, k < 3 → ∀ g, (V k).ownBlock = some g → g < w.heap.size := fun k hk g e => ((h.own k hk).lt g e).2
  have hne : ∀ k, k < 3 → k ≠ i → ∀ g, (V k).ownBlock = some g → v6.ownBlock ≠ some g := fun k hk hki g e e6 => by
    rcases hat with ha | ha
    · exact h.apart k i hk hi hki g e (ha ▸ e6)
    · rw [ha] at e6
      injection e6 with e6
      have := hlt k hk g e
      omega
  refine ⟨fun k hk => ?_, fun k m hk hm hkm g => ?_⟩
  · rw [hS k]
    unfold updV
    by_cases hki : k = i
    · subst hki
      rw [if_pos rfl, if_pos rfl, List.length_append, show strsV (S k ++ [nm]) = strsV (S k) ++ [.string nm] by unfold strsV; rw [List.map_append]; rfl]
      exact hown
    · rw [if_neg hki, if_neg (Ne.symm hki), List.append_nil]
      exact own_keptS (h.own k hk) fun g e hgl => hg.block g hgl fun e2 => h.apart k i hk hi hki g e e2.symm
  · unfold updV
    by_cases hki : k = i
    · by_cases hmi : m = i
      · exact absurd (hki.trans hmi.symm) hkm
      · rw [if_pos hki, if_neg hmi]
        exact fun e e2 => hne m hm hmi g e2 e
    · by_cases hmi : m = i
      · rw [if_neg hki, if_pos hmi]
        exact fun e => hne k hk hki g e
      · rw [if_neg hki, if_neg hmi]
        exact h.apart k m hk hm hkm g
def V3 (a b c : Value) : Nat → Value := fun i => if i = 0 then a else if i = 1 then b else if i = 2 then c else .slice none 0 0
theorem V3_0 (a b c v : Value) : updV (V3 a b c) 0 v = V3 v b c := funext fun i => by
  unfold updV V3
  by_cases h : i = 0 <;> simp [h]
theorem V3_1 (a b c v : Value) : updV (V3 a b c) 1 v = V3 a v c := funext fun i => by
  unfold updV V3
  by_cases h : i = 1 <;> simp [h]
theorem V3_2 (a b c v : Value) : updV (V3 a b c) 2 v = V3 a b v := funext fun i => by
  unfold updV V3
  by_cases h : i = 2 <;> simp [h]
theorem V3_nil (w : World) (B : Nat) (D : EvD) : Rows3 w B (V3 (.slice none 0 0) (.slice none 0 0) (.slice none 0 0)) (tlyD D (lN [])) := by
  have h : V3 (.slice none 0 0) (.slice none 0 0) (.slice none 0 0) = fun _ => .slice none 0 0 := funext fun i => by unfold V3; simp
  rw [h]
  exact ⟨fun i _ => World.ownsRow_nil _ _ _ _, fun i k _ _ _ g e => by cases e⟩
theorem Rows3.same {w : World} {B : Nat} {V : Nat → Value} {S S' : Nat → List ByteArray} (h : Rows3 w B V S) (hS : ∀ i, i < 3 → S' i = S i) : Rows3 w B V S' := ⟨fun i hi => by rw [hS i hi]; exact h.own i hi, h.apart⟩
/-- A letter out of a byte. -/
def letN (m : Nat) : ByteArray := ⟨#[UInt8.ofNat (97 + m)]⟩
theorem conv14 (b m : Nat) (W : World) (hm : m < 100) (h : W.heap[b]? = some (.cells #[.int .u8 (97 + (m : Int))] 5 (0, 0))) : (convert 61 9 (.slice (some ⟨b, 0, none⟩) 1 1)).run Tryz.prog W = .ok (.string (letN m)) W := by
  obtain ⟨c, hc⟩ : ∃ c, c = UInt8.ofNat (97 + m) := ⟨_, rfl⟩
  have hcn : (c.toNat : Int) = 97 + (m : Int) := by
    rw [hc, UInt8.toNat_ofNat']
    omega
  have e1 : letN m = ⟨#[c]⟩ := by rw [hc]; rfl
  rw [e1]
  refine run_convert_bytes_back _ 61 9 5 ⟨b, 0, none⟩ 1 [c] Tryz.underlying61 Tryz.underlying5 Tryz.underlying9 ?_
  intro j hj
  have hj0 : j = 0 := by simpa using hj
  subst hj0
  show _ = some (Value.int .u8 ((c.toNat : Nat) : Int))
  rw [hcn, Addr.add_lit, Lib.cell_of_heap h]
  rfl
end Go.Proofs.YtldmfdkmkjiabaaGreat
