/-
  chancellaw14: within, known, cond.
  chancellaw14: a row of conditions in memory, which grows in a policy's place.
  chancellaw14.DecideConds: the walk.
-/
import Derived.Test.YtldmfdkmkjiabaaGreatDcCD
import Derived.Test.YtldmfdkmkjiabaaGreatEvS
namespace Go.Proofs.YtldmfdkmkjiabaaGreat
open Go.RowKit Go.Sort

set_option maxHeartbeats 400000 in
set_option maxRecDepth 100000 in
theorem within14_any (a n : Int) (hn : 0 < n) (hn1 : n ≤ 4294967296) (w : World) :
    Calls Tryz.prog 9 #[.int .i64 a, .int .i64 n] w fun e w' => e = .returned (.int .i64 (a % n)) ∧ w' = w := by
  go_enter Tryz.func9, Tryz.ntmps9
  go_wp2
  · go_ret
    exact ⟨ret_int5 (tmod_neg a n hn hn1 (by assumption)), rfl⟩
  · go_ret
    exact ⟨ret_int5 (tmod_pos a n hn (by assumption)), rfl⟩

def condK (n : Nat) : Nat := n / 2 % 4
def condU (n : Nat) : Bool := decide (n % 2 = 1)
/-- A condition's tree, by its number. -/
def condX (n : Nat) : Ex := match condK n with
  | 0 => eBool true
  | 1 => eBool false
  | 2 => eTx 7 [97] [eVar [112, 114, 105, 110, 99, 105, 112, 97, 108]]
  | _ => eLong 0
def condR7 (kb n : Nat) : R7 := match condK n with
  | 0 => ⟨1, true, 0, ⟨#[]⟩, ⟨#[]⟩, ⟨#[]⟩, none, 0, 0⟩
  | 1 => ⟨1, false, 0, ⟨#[]⟩, ⟨#[]⟩, ⟨#[]⟩, none, 0, 0⟩
  | 2 => ⟨7, false, 0, ⟨#[97]⟩, ⟨#[]⟩, ⟨#[]⟩, some ⟨kb, 0, none⟩, 1, 1⟩
  | _ => ⟨2, false, 0, ⟨#[]⟩, ⟨#[]⟩, ⟨#[]⟩, none, 0, 0⟩
/-- What lies in memory of it: its kid. -/
def CondM (w : World) (kb n : Nat) : Prop := condK n = 2 → w.heap[kb]? = some (.cells #[.int .i64 5, .bool false, .int .i64 0, .string ⟨#[112, 114, 105, 110, 99, 105, 112, 97, 108]⟩, .string ⟨#[]⟩, .string ⟨#[]⟩, .slice none 0 0] 54 (0, 0))
theorem CondM.isE {w : World} {kb n : Nat} (h : CondM w kb n) : IsE w (fun _ => True) (condR7 kb n) (condX n) := by
  unfold CondM at h
  unfold condR7 condX
  generalize condK n = k at *
  match k with
  | 0 => exact isE_leaf w 1 true 0 [] [] [] 0 none
  | 1 => exact isE_leaf w 1 false 0 [] [] [] 0 none
  | 2 => exact isE_node (s := [97]) (t := []) (i := []) rfl (isEs_block [⟨5, false, 0, ⟨#[112, 114, 105, 110, 99, 105, 112, 97, 108]⟩, ⟨#[]⟩, ⟨#[]⟩, none, 0, 0⟩] [eVar [112, 114, 105, 110, 99, 105, 112, 97, 108]] (h rfl) rfl (.cons (isE_leaf w 5 false 0 [112, 114, 105, 110, 99, 105, 112, 97, 108] [] [] 0 none) .nil))
  | _ + 3 => exact isE_leaf w 2 false 0 [] [] [] 0 none
theorem CondM.turn {w w' : World} {kb n : Nat} (h : CondM w kb n) (hk : ∀ b, b = kb → b < w.heap.size → w'.heap[b]? = w.heap[b]?) : CondM w' kb n := fun h2 => (hk kb rfl (Array.getElem?_eq_some_iff.1 (h h2)).1).trans (h h2)
theorem condX_ok (n : Nat) : okEv (condX n) = true := by
  unfold condX
  match condK n with
  | 0 => decide +kernel
  | 1 => decide +kernel
  | 2 => decide +kernel
  | _ + 3 => exact (by decide +kernel : okEv (eLong 0) = true)
/-- What a condition of a number comes to. -/
def CondPost (w : World) (n : Nat) (e : Ending) (w' : World) : Prop := Below w.heap.size w w' ∧ ∃ kb, w.heap.size ≤ kb ∧ CondM w' kb n ∧
  e = .returned (.agg #[.bool (condU n), .int .i64 (condR7 kb n).k, .bool (condR7 kb n).b, .int .i64 (condR7 kb n).n, .string (condR7 kb n).s, .string (condR7 kb n).t, .string (condR7 kb n).i, .slice (condR7 kb n).lo (condR7 kb n).ll (condR7 kb n).lc])
set_option maxHeartbeats 4000000 in
set_option maxRecDepth 1000000 in
theorem cond14_0 (w : World) : Calls Tryz.prog 13 #[.int .i64 0] w (CondPost w 0) := by
  have CW := fun w' => within14_any 0 4 (by decide) (by decide) w'
  rw [show ((0 : Int) % 4) = 0 from rfl] at CW
  obtain ⟨b9, z9, k1, k2⟩ := ev2 w (.cells #[.bool false, .int .i64 1, .bool true, .int .i64 0, .string ⟨#[]⟩, .string ⟨#[]⟩, .string ⟨#[]⟩, .slice none 0 0] 56) (.cells #[.bool false, .int .i64 1, .bool true, .int .i64 0, .string ⟨#[]⟩, .string ⟨#[]⟩, .string ⟨#[]⟩, .slice none 0 0] 56)
  go_enter Tryz.func13, Tryz.ntmps13
  go_wp2_with fail
  refine (CW _).mono ?_
  clear CW
  rintro e w2 ⟨rfl, rfl⟩
  go_wp2
  generalize (w.alloc _).alloc _ = w9 at *
  have d0 : w9.cell? ⟨w.heap.size, 0, none⟩ = some (.bool false) := by rw [Lib.cell_of_heap k1]; rfl
  have d1 : w9.cell? ⟨w.heap.size, 1, none⟩ = some (.int .i64 1) := by rw [Lib.cell_of_heap k1]; rfl
  have d2 : w9.cell? ⟨w.heap.size, 2, none⟩ = some (.bool true) := by rw [Lib.cell_of_heap k1]; rfl
  have d3 : w9.cell? ⟨w.heap.size, 3, none⟩ = some (.int .i64 0) := by rw [Lib.cell_of_heap k1]; rfl
  have d4 : w9.cell? ⟨w.heap.size, 4, none⟩ = some (.string ⟨#[]⟩) := by rw [Lib.cell_of_heap k1]; rfl
  have d5 : w9.cell? ⟨w.heap.size, 5, none⟩ = some (.string ⟨#[]⟩) := by rw [Lib.cell_of_heap k1]; rfl
  have d6 : w9.cell? ⟨w.heap.size, 6, none⟩ = some (.string ⟨#[]⟩) := by rw [Lib.cell_of_heap k1]; rfl
  have d7 : w9.cell? ⟨w.heap.size, 7, none⟩ = some (.slice none 0 0) := by rw [Lib.cell_of_heap k1]; rfl
  exact bodyPost_ret (v := .agg #[.bool false, .int .i64 1, .bool true, .int .i64 0, .string ⟨#[]⟩, .string ⟨#[]⟩, .string ⟨#[]⟩, .slice none 0 0]) (by simp [results, Tryz.results13, go_sem, d0, d1, d2, d3, d4, d5, d6, d7]) rfl ⟨b9, w.heap.size + 2, by omega, fun h => absurd h (by decide), rfl⟩
set_option maxHeartbeats 4000000 in
set_option maxRecDepth 1000000 in
theorem cond14_1 (w : World) : Calls Tryz.prog 13 #[.int .i64 1] w (CondPost w 1) := by
  have CW := fun w' => within14_any 0 4 (by decide) (by decide) w'
  rw [show ((0 : Int) % 4) = 0 from rfl] at CW
  obtain ⟨b9, z9, k1, k2⟩ := ev2 w (.cells #[.bool true, .int .i64 1, .bool true, .int .i64 0, .string ⟨#[]⟩, .string ⟨#[]⟩, .string ⟨#[]⟩, .slice none 0 0] 56) (.cells #[.bool true, .int .i64 1, .bool true, .int .i64 0, .string ⟨#[]⟩, .string ⟨#[]⟩, .string ⟨#[]⟩, .slice none 0 0] 56)
  go_enter Tryz.func13, Tryz.ntmps13
  go_wp2_with fail
  refine (CW _).mono ?_
  clear CW
  rintro e w2 ⟨rfl, rfl⟩
  go_wp2
  generalize (w.alloc _).alloc _ = w9 at *
  have d0 : w9.cell? ⟨w.heap.size, 0, none⟩ = some (.bool true) := by rw [Lib.cell_of_heap k1]; rfl
  have d1 : w9.cell? ⟨w.heap.size, 1, none⟩ = some (.int .i64 1) := by rw [Lib.cell_of_heap k1]; rfl
  have d2 : w9.cell? ⟨w.heap.size, 2, none⟩ = some (.bool true) := by rw [Lib.cell_of_heap k1]; rfl
  have d3 : w9.cell? ⟨w.heap.size, 3, none⟩ = some (.int .i64 0) := by rw [Lib.cell_of_heap k1]; rfl
  have d4 : w9.cell? ⟨w.heap.size, 4, none⟩ = some (.string ⟨#[]⟩) := by rw [Lib.cell_of_heap k1]; rfl
  have d5 : w9.cell? ⟨w.heap.size, 5, none⟩ = some (.string ⟨#[]⟩) := by rw [Lib.cell_of_heap k1]; rfl
  have d6 : w9.cell? ⟨w.heap.size, 6, none⟩ = some (.string ⟨#[]⟩) := by rw [Lib.cell_of_heap k1]; rfl
  have d7 : w9.cell? ⟨w.heap.size, 7, none⟩ = some (.slice none 0 0) := by rw [Lib.cell_of_heap k1]; rfl
  exact bodyPost_ret (v := .agg #[.bool true, .int .i64 1, .bool true, .int .i64 0, .string ⟨#[]⟩, .string ⟨#[]⟩, .string ⟨#[]⟩, .slice none 0 0]) (by simp [results, Tryz.results13, go_sem, d0, d1, d2, d3, d4, d5, d6, d7]) rfl ⟨b9, w.heap.size + 2, by omega, fun h => absurd h (by decide), rfl⟩
set_option maxHeartbeats 4000000 in
set_option maxRecDepth 1000000 in
theorem cond14_2 (w : World) : Calls Tryz.prog 13 #[.int .i64 2] w (CondPost w 2) := by
  have CW := fun w' => within14_any 1 4 (by decide) (by decide) w'
  rw [show ((1 : Int) % 4) = 1 from rfl] at CW
  obtain ⟨b9, z9, k1, k2⟩ := ev2 w (.cells #[.bool false, .int .i64 1, .bool false, .int .i64 0, .string ⟨#[]⟩, .string ⟨#[]⟩, .string ⟨#[]⟩, .slice none 0 0] 56) (.cells #[.bool false, .int .i64 1, .bool false, .int .i64 0, .string ⟨#[]⟩, .string ⟨#[]⟩, .string ⟨#[]⟩, .slice none 0 0] 56)
  go_enter Tryz.func13, Tryz.ntmps13
  go_wp2_with fail
  refine (CW _).mono ?_
  clear CW
  rintro e w2 ⟨rfl, rfl⟩
  go_wp2
  generalize (w.alloc _).alloc _ = w9 at *
  have d0 : w9.cell? ⟨w.heap.size, 0, none⟩ = some (.bool false) := by rw [Lib.cell_of_heap k1]; rfl
  have d1 : w9.cell? ⟨w.heap.size, 1, none⟩ = some (.int .i64 1) := by rw [Lib.cell_of_heap k1]; rfl
  have d2 : w9.cell? ⟨w.heap.size, 2, none⟩ = some (.bool false) := by rw [Lib.cell_of_heap k1]; rfl
  have d3 : w9.cell? ⟨w.heap.size, 3, none⟩ = some (.int .i64 0) := by rw [Lib.cell_of_heap k1]; rfl
  have d4 : w9.cell? ⟨w.heap.size, 4, none⟩ = some (.string ⟨#[]⟩) := by rw [Lib.cell_of_heap k1]; rfl
  have d5 : w9.cell? ⟨w.heap.size, 5, none⟩ = some (.string ⟨#[]⟩) := by rw [Lib.cell_of_heap k1]; rfl
  have d6 : w9.cell? ⟨w.heap.size, 6, none⟩ = some (.string ⟨#[]⟩) := by rw [Lib.cell_of_heap k1]; rfl
  have d7 : w9.cell? ⟨w.heap.size, 7, none⟩ = some (.slice none 0 0) := by rw [Lib.cell_of_heap k1]; rfl
  exact bodyPost_ret (v := .agg #[.bool false, .int .i64 1, .bool false, .int .i64 0, .string ⟨#[]⟩, .string ⟨#[]⟩, .string ⟨#[]⟩, .slice none 0 0]) (by simp [results, Tryz.results13, go_sem, d0, d1, d2, d3, d4, d5, d6, d7]) rfl ⟨b9, w.heap.size + 2, by omega, fun h => absurd h (by decide), rfl⟩
set_option maxHeartbeats 4000000 in
set_option maxRecDepth 1000000 in
theorem cond14_3 (w : World) : Calls Tryz.prog 13 #[.int .i64 3] w (CondPost w 3) := by
  have CW := fun w' => within14_any 1 4 (by decide) (by decide) w'
  rw [show ((1 : Int) % 4) = 1 from rfl] at CW
  obtain ⟨b9, z9, k1, k2⟩ := ev2 w (.cells #[.bool true, .int .i64 1, .bool false, .int .i64 0, .string ⟨#[]⟩, .string ⟨#[]⟩, .string ⟨#[]⟩, .slice none 0 0] 56) (.cells #[.bool true, .int .i64 1, .bool false, .int .i64 0, .string ⟨#[]⟩, .string ⟨#[]⟩, .string ⟨#[]⟩, .slice none 0 0] 56)
  go_enter Tryz.func13, Tryz.ntmps13
  go_wp2_with fail
  refine (CW _).mono ?_
  clear CW
  rintro e w2 ⟨rfl, rfl⟩
  go_wp2
  generalize (w.alloc _).alloc _ = w9 at *
  have d0 : w9.cell? ⟨w.heap.size, 0, none⟩ = some (.bool true) := by rw [Lib.cell_of_heap k1]; rfl
  have d1 : w9.cell? ⟨w.heap.size, 1, none⟩ = some (.int .i64 1) := by rw [Lib.cell_of_heap k1]; rfl
  have d2 : w9.cell? ⟨w.heap.size, 2, none⟩ = some (.bool false) := by rw [Lib.cell_of_heap k1]; rfl
  have d3 : w9.cell? ⟨w.heap.size, 3, none⟩ = some (.int .i64 0) := by rw [Lib.cell_of_heap k1]; rfl
  have d4 : w9.cell? ⟨w.heap.size, 4, none⟩ = some (.string ⟨#[]⟩) := by rw [Lib.cell_of_heap k1]; rfl
  have d5 : w9.cell? ⟨w.heap.size, 5, none⟩ = some (.string ⟨#[]⟩) := by rw [Lib.cell_of_heap k1]; rfl
  have d6 : w9.cell? ⟨w.heap.size, 6, none⟩ = some (.string ⟨#[]⟩) := by rw [Lib.cell_of_heap k1]; rfl
  have d7 : w9.cell? ⟨w.heap.size, 7, none⟩ = some (.slice none 0 0) := by rw [Lib.cell_of_heap k1]; rfl
  exact bodyPost_ret (v := .agg #[.bool true, .int .i64 1, .bool false, .int .i64 0, .string ⟨#[]⟩, .string ⟨#[]⟩, .string ⟨#[]⟩, .slice none 0 0]) (by simp [results, Tryz.results13, go_sem, d0, d1, d2, d3, d4, d5, d6, d7]) rfl ⟨b9, w.heap.size + 2, by omega, fun h => absurd h (by decide), rfl⟩
set_option maxHeartbeats 4000000 in
set_option maxRecDepth 1000000 in
theorem cond14_4 (w : World) : Calls Tryz.prog 13 #[.int .i64 4] w (CondPost w 4) := by
  have CW := fun w' => within14_any 2 4 (by decide) (by decide) w'
  rw [show ((2 : Int) % 4) = 2 from rfl] at CW
  obtain ⟨b9, z9, k1, k2, k3⟩ := ev3 w (.cells #[.bool false, .int .i64 7, .bool false, .int .i64 0, .string ⟨#[97]⟩, .string ⟨#[]⟩, .string ⟨#[]⟩, .slice (some ⟨w.heap.size + 2, 0, none⟩) 1 1] 56) (.cells #[.bool false, .int .i64 7, .bool false, .int .i64 0, .string ⟨#[97]⟩, .string ⟨#[]⟩, .string ⟨#[]⟩, .slice (some ⟨w.heap.size + 2, 0, none⟩) 1 1] 56) (.cells #[.int .i64 5, .bool false, .int .i64 0, .string ⟨#[112, 114, 105, 110, 99, 105, 112, 97, 108]⟩, .string ⟨#[]⟩, .string ⟨#[]⟩, .slice none 0 0] 54)
  go_enter Tryz.func13, Tryz.ntmps13
  go_wp2_with fail
  refine (CW _).mono ?_
  clear CW
  rintro e w2 ⟨rfl, rfl⟩
  go_wp2
  generalize ((w.alloc _).alloc _).alloc _ = w9 at *
  have d0 : w9.cell? ⟨w.heap.size, 0, none⟩ = some (.bool false) := by rw [Lib.cell_of_heap k1]; rfl
  have d1 : w9.cell? ⟨w.heap.size, 1, none⟩ = some (.int .i64 7) := by rw [Lib.cell_of_heap k1]; rfl
  have d2 : w9.cell? ⟨w.heap.size, 2, none⟩ = some (.bool false) := by rw [Lib.cell_of_heap k1]; rfl
  have d3 : w9.cell? ⟨w.heap.size, 3, none⟩ = some (.int .i64 0) := by rw [Lib.cell_of_heap k1]; rfl
  have d4 : w9.cell? ⟨w.heap.size, 4, none⟩ = some (.string ⟨#[97]⟩) := by rw [Lib.cell_of_heap k1]; rfl
  have d5 : w9.cell? ⟨w.heap.size, 5, none⟩ = some (.string ⟨#[]⟩) := by rw [Lib.cell_of_heap k1]; rfl
  have d6 : w9.cell? ⟨w.heap.size, 6, none⟩ = some (.string ⟨#[]⟩) := by rw [Lib.cell_of_heap k1]; rfl
  have d7 : w9.cell? ⟨w.heap.size, 7, none⟩ = some (.slice (some ⟨w.heap.size + 2, 0, none⟩) 1 1) := by rw [Lib.cell_of_heap k1]; rfl
  exact bodyPost_ret (v := .agg #[.bool false, .int .i64 7, .bool false, .int .i64 0, .string ⟨#[97]⟩, .string ⟨#[]⟩, .string ⟨#[]⟩, .slice (some ⟨w.heap.size + 2, 0, none⟩) 1 1]) (by simp [results, Tryz.results13, go_sem, d0, d1, d2, d3, d4, d5, d6, d7]) rfl ⟨b9, w.heap.size + 2, by omega, fun _ => k3, rfl⟩
set_option maxHeartbeats 4000000 in
set_option maxRecDepth 1000000 in
theorem cond14_5 (w : World) : Calls Tryz.prog 13 #[.int .i64 5] w (CondPost w 5) := by
  have CW := fun w' => within14_any 2 4 (by decide) (by decide) w'
  rw [show ((2 : Int) % 4) = 2 from rfl] at CW
  obtain ⟨b9, z9, k1, k2, k3⟩ := ev3 w (.cells #[.bool true, .int .i64 7, .bool false, .int .i64 0, .string ⟨#[97]⟩, .string ⟨#[]⟩, .string ⟨#[]⟩, .slice (some ⟨w.heap.size + 2, 0, none⟩) 1 1] 56) (.cells #[.bool true, .int .i64 7, .bool false, .int .i64 0, .string ⟨#[97]⟩, .string ⟨#[]⟩, .string ⟨#[]⟩, .slice (some ⟨w.heap.size + 2, 0, none⟩) 1 1] 56) (.cells #[.int .i64 5, .bool false, .int .i64 0, .string ⟨#[112, 114, 105, 110, 99, 105, 112, 97, 108]⟩, .string ⟨#[]⟩, .string ⟨#[]⟩, .slice none 0 0] 54)
  go_enter Tryz.func13, Tryz.ntmps13
  go_wp2_with fail
  refine (CW _).mono ?_
  clear CW
  rintro e w2 ⟨rfl, rfl⟩
  go_wp2
  generalize ((w.alloc _).alloc _).alloc _ = w9 at *
  have d0 : w9.cell? ⟨w.heap.size, 0, none⟩ = some (.bool true) := by rw [Lib.cell_of_heap k1]; rfl
  have d1 : w9.cell? ⟨w.heap.size, 1, none⟩ = some (.int .i64 7) := by rw [Lib.cell_of_heap k1]; rfl
  have d2 : w9.cell? ⟨w.heap.size, 2, none⟩ = some (.bool false) := by rw [Lib.cell_of_heap k1]; rfl
  have d3 : w9.cell? ⟨w.heap.size, 3, none⟩ = some (.int .i64 0) := by rw [Lib.cell_of_heap k1]; rfl
  have d4 : w9.cell? ⟨w.heap.size, 4, none⟩ = some (.string ⟨#[97]⟩) := by rw [Lib.cell_of_heap k1]; rfl
  have d5 : w9.cell? ⟨w.heap.size, 5, none⟩ = some (.string ⟨#[]⟩) := by rw [Lib.cell_of_heap k1]; rfl
  have d6 : w9.cell? ⟨w.heap.size, 6, none⟩ = some (.string ⟨#[]⟩) := by rw [Lib.cell_of_heap k1]; rfl
  have d7 : w9.cell? ⟨w.heap.size, 7, none⟩ = some (.slice (some ⟨w.heap.size + 2, 0, none⟩) 1 1) := by rw [Lib.cell_of_heap k1]; rfl
  exact bodyPost_ret (v := .agg #[.bool true, .int .i64 7, .bool false, .int .i64 0, .string ⟨#[97]⟩, .string ⟨#[]⟩, .string ⟨#[]⟩, .slice (some ⟨w.heap.size + 2, 0, none⟩) 1 1]) (by simp [results, Tryz.results13, go_sem, d0, d1, d2, d3, d4, d5, d6, d7]) rfl ⟨b9, w.heap.size + 2, by omega, fun _ => k3, rfl⟩
set_option maxHeartbeats 4000000 in
set_option maxRecDepth 1000000 in
theorem cond14_6 (w : World) : Calls Tryz.prog 13 #[.int .i64 6] w (CondPost w 6) := by
  have CW := fun w' => within14_any 3 4 (by decide) (by decide) w'
  rw [show ((3 : Int) % 4) = 3 from rfl] at CW
  obtain ⟨b9, z9, k1, k2⟩ := ev2 w (.cells #[.bool false, .int .i64 2, .bool false, .int .i64 0, .string ⟨#[]⟩, .string ⟨#[]⟩, .string ⟨#[]⟩, .slice none 0 0] 56) (.cells #[.bool false, .int .i64 2, .bool false, .int .i64 0, .string ⟨#[]⟩, .string ⟨#[]⟩, .string ⟨#[]⟩, .slice none 0 0] 56)
  go_enter Tryz.func13, Tryz.ntmps13
  go_wp2_with fail
  refine (CW _).mono ?_
  clear CW
  rintro e w2 ⟨rfl, rfl⟩
  go_wp2
  generalize (w.alloc _).alloc _ = w9 at *
  have d0 : w9.cell? ⟨w.heap.size, 0, none⟩ = some (.bool false) := by rw [Lib.cell_of_heap k1]; rfl
  have d1 : w9.cell? ⟨w.heap.size, 1, none⟩ = some (.int .i64 2) := by rw [Lib.cell_of_heap k1]; rfl
  have d2 : w9.cell? ⟨w.heap.size, 2, none⟩ = some (.bool false) := by rw [Lib.cell_of_heap k1]; rfl
  have d3 : w9.cell? ⟨w.heap.size, 3, none⟩ = some (.int .i64 0) := by rw [Lib.cell_of_heap k1]; rfl
  have d4 : w9.cell? ⟨w.heap.size, 4, none⟩ = some (.string ⟨#[]⟩) := by rw [Lib.cell_of_heap k1]; rfl
  have d5 : w9.cell? ⟨w.heap.size, 5, none⟩ = some (.string ⟨#[]⟩) := by rw [Lib.cell_of_heap k1]; rfl
  have d6 : w9.cell? ⟨w.heap.size, 6, none⟩ = some (.string ⟨#[]⟩) := by rw [Lib.cell_of_heap k1]; rfl
  have d7 : w9.cell? ⟨w.heap.size, 7, none⟩ = some (.slice none 0 0) := by rw [Lib.cell_of_heap k1]; rfl
  exact bodyPost_ret (v := .agg #[.bool false, .int .i64 2, .bool false, .int .i64 0, .string ⟨#[]⟩, .string ⟨#[]⟩, .string ⟨#[]⟩, .slice none 0 0]) (by simp [results, Tryz.results13, go_sem, d0, d1, d2, d3, d4, d5, d6, d7]) rfl ⟨b9, w.heap.size + 2, by omega, fun h => absurd h (by decide), rfl⟩
set_option maxHeartbeats 4000000 in
set_option maxRecDepth 1000000 in
theorem cond14_7 (w : World) : Calls Tryz.prog 13 #[.int .i64 7] w (CondPost w 7) := by
  have CW := fun w' => within14_any 3 4 (by decide) (by decide) w'
  rw [show ((3 : Int) % 4) = 3 from rfl] at CW
  obtain ⟨b9, z9, k1, k2⟩ := ev2 w (.cells #[.bool true, .int .i64 2, .bool false, .int .i64 0, .string ⟨#[]⟩, .string ⟨#[]⟩, .string ⟨#[]⟩, .slice none 0 0] 56) (.cells #[.bool true, .int .i64 2, .bool false, .int .i64 0, .string ⟨#[]⟩, .string ⟨#[]⟩, .string ⟨#[]⟩, .slice none 0 0] 56)
  go_enter Tryz.func13, Tryz.ntmps13
  go_wp2_with fail
  refine (CW _).mono ?_
  clear CW
  rintro e w2 ⟨rfl, rfl⟩
  go_wp2
  generalize (w.alloc _).alloc _ = w9 at *
  have d0 : w9.cell? ⟨w.heap.size, 0, none⟩ = some (.bool true) := by rw [Lib.cell_of_heap k1]; rfl
  have d1 : w9.cell? ⟨w.heap.size, 1, none⟩ = some (.int .i64 2) := by rw [Lib.cell_of_heap k1]; rfl
  have d2 : w9.cell? ⟨w.heap.size, 2, none⟩ = some (.bool false) := by rw [Lib.cell_of_heap k1]; rfl
  have d3 : w9.cell? ⟨w.heap.size, 3, none⟩ = some (.int .i64 0) := by rw [Lib.cell_of_heap k1]; rfl
  have d4 : w9.cell? ⟨w.heap.size, 4, none⟩ = some (.string ⟨#[]⟩) := by rw [Lib.cell_of_heap k1]; rfl
  have d5 : w9.cell? ⟨w.heap.size, 5, none⟩ = some (.string ⟨#[]⟩) := by rw [Lib.cell_of_heap k1]; rfl
  have d6 : w9.cell? ⟨w.heap.size, 6, none⟩ = some (.string ⟨#[]⟩) := by rw [Lib.cell_of_heap k1]; rfl
  have d7 : w9.cell? ⟨w.heap.size, 7, none⟩ = some (.slice none 0 0) := by rw [Lib.cell_of_heap k1]; rfl
  exact bodyPost_ret (v := .agg #[.bool true, .int .i64 2, .bool false, .int .i64 0, .string ⟨#[]⟩, .string ⟨#[]⟩, .string ⟨#[]⟩, .slice none 0 0]) (by simp [results, Tryz.results13, go_sem, d0, d1, d2, d3, d4, d5, d6, d7]) rfl ⟨b9, w.heap.size + 2, by omega, fun h => absurd h (by decide), rfl⟩
/-- Any condition of a number below eight. -/
theorem cond14_any (n : Nat) (hn : n < 8) (w : World) : Calls Tryz.prog 13 #[.int .i64 n] w (CondPost w n) := by
  match n, hn with
  | 0, _ => exact cond14_0 w
  | 1, _ => exact cond14_1 w
  | 2, _ => exact cond14_2 w
  | 3, _ => exact cond14_3 w
  | 4, _ => exact cond14_4 w
  | 5, _ => exact cond14_5 w
  | 6, _ => exact cond14_6 w
  | 7, _ => exact cond14_7 w
  | n + 8, h => exact absurd h (by omega)

def pol0 : PolD := ⟨false, ⟨0, zU⟩, ⟨0, zU⟩, ⟨0, zU⟩, []⟩
def oneP : List (ByteArray × PolD) := [(⟨#[112]⟩, pol0)]
set_option maxHeartbeats 4000000 in
set_option maxRecDepth 1000000 in
theorem known14_any (w : World) (hf : FitL w) : Calls Tryz.prog 6 #[] w fun e w' => e = .returned (.bool true) ∧ Below w.heap.size w w' := by
  have C1 := fun w' (hb : Below w.heap.size w w') => dAll_any none [] 0 0 (noD zU zU zU) [] none 0 0 w' rfl (ew_nil w' (hf.below hb) _ _ _) rfl (by omega) (fun j h => absurd h (Nat.not_lt_zero _)) (fun x h => by cases h)
  rw [show alwD (noD zU zU zU) [] = false from rfl, show rsnD (noD zU zU zU) [] = [] from rfl, show tlyD (noD zU zU zU) [] 2 = [] from rfl] at C1
  have C2 := fun b w' (hb : Below w.heap.size w w') (hr : RowNm w' (some ⟨b, 0, none⟩) oneP) => dAll_any none [] 0 0 (noD zU zU zU) oneP (some ⟨b, 0, none⟩) 1 1 w' rfl (ew_nil w' (hf.below hb) _ _ _) rfl (by omega) hr (fun x h => by
    have hx : x = (⟨#[112]⟩, pol0) := by simpa [oneP] using h
    subst hx
    exact ⟨by decide, fun c hc => by cases hc⟩)
  rw [show alwD (noD zU zU zU) oneP = true from by kernel_rfl, show rsnD (noD zU zU zU) oneP = [⟨#[112]⟩] from by kernel_rfl, show tlyD (noD zU zU zU) oneP 2 = [] from by kernel_rfl] at C2
  go_enter Tryz.func6, Tryz.ntmps6
  go_wp2_with fail
  refine (C1 w (Below.refl _ _)).mono ?_
  clear C1
  rintro e w2 ⟨⟨ao, ac, bo, bc, rfl, h1, h2⟩, b2⟩
  dsimp only [List.length_nil]
  obtain ⟨bb, z4, k1, k2⟩ := ev2 w2 (.cells #[.bool false, .slice ao 0 ac, .slice bo 0 bc] 65) (.cells #[.string ⟨#[112]⟩, .bool false, .int .i64 0, .string ⟨#[]⟩, .string ⟨#[]⟩, .int .i64 0, .string ⟨#[]⟩, .string ⟨#[]⟩, .int .i64 0, .string ⟨#[]⟩, .string ⟨#[]⟩, .slice none 0 0] 63)
  have C := C2 (w2.heap.size + 1) _ (b2.trans (bb.mono b2.size)) (fun j hj => by
    have j0 : j = 0 := by
      have : j < 1 := hj
      omega
    subst j0
    refine ⟨w2.heap.size + 1, 0, none, 0, rfl, (Array.getElem?_eq_some_iff.1 k2).1, ?_, fun j h => absurd h (Nat.not_lt_zero _)⟩
    refine ⟨?_, ?_, ?_, ?_, ?_, ?_, ?_, ?_, ?_, ?_, ?_, ?_⟩ <;> (rw [Lib.cell_of_heap k2]; rfl))
  clear C2 z4
  go_wp2_with fail
  generalize (w2.alloc _).alloc _ = w4 at *
  refine C.mono ?_
  clear C
  rintro e w5 ⟨⟨po, pc, qo, qc, rfl, h3, h4⟩, b5⟩
  dsimp only [List.length_nil, List.length_cons]
  have B5 := b2.trans ((bb.trans (b5.mono bb.size)).mono b2.size)
  have k15 := kept_of_below b5 k1
  obtain ⟨b, off, rfl, hb, hc⟩ := h3 0 (by decide)
  have c0 := hc 0 (.string ⟨#[112]⟩) rfl
  have b6 := ev1 w5 (.cells #[.bool true, .slice (some ⟨b, off, none⟩) 1 pc, .slice qo 0 qc] 65)
  have h6 := alloc_heap w5 (.cells #[.bool true, .slice (some ⟨b, off, none⟩) 1 pc, .slice qo 0 qc] 65)
  have k16 := kept_of_below b6 k15
  have c6 := (b6.cell (p := ⟨b, off + 0 * 1 + 0, none⟩) hb).trans c0
  have B6 := B5.trans (b6.mono B5.size)
  clear k1 k2 k15 c0 hc h1 h2 h3 h4 hf
  go_upto_region 3 with fail
  generalize w5.alloc _ = w6 at *
  have x0 : w6.cell? ⟨w2.heap.size, 0, none⟩ = some (.bool false) := by rw [Lib.cell_of_heap k16]; rfl
  have x1 : w6.cell? ⟨w2.heap.size, 1, none⟩ = some (.slice ao 0 ac) := by rw [Lib.cell_of_heap k16]; rfl
  have y0 : w6.cell? ⟨w5.heap.size, 0, none⟩ = some (.bool true) := by rw [Lib.cell_of_heap h6]; rfl
  have y1 : w6.cell? ⟨w5.heap.size, 1, none⟩ = some (.slice (some ⟨b, off, none⟩) 1 pc) := by rw [Lib.cell_of_heap h6]; rfl
  have y2 : w6.cell? ⟨b, off, none⟩ = some (.string ⟨#[112]⟩) := by simpa using c6
  clear k16 h6
  go_wp2
  go_ret
  exact ⟨rfl, B6⟩
end Go.Proofs.YtldmfdkmkjiabaaGreat

namespace Go.Proofs.YtldmfdkmkjiabaaGreat
open Go.RowKit Go.Sort

/-- A condition's cells, by its number and its kid's block. -/
def cCells (p : Nat × Nat) : List Value := [.bool (condU p.1), .int .i64 (condR7 p.2 p.1).k, .bool (condR7 p.2 p.1).b, .int .i64 (condR7 p.2 p.1).n, .string (condR7 p.2 p.1).s, .string (condR7 p.2 p.1).t, .string (condR7 p.2 p.1).i, .slice (condR7 p.2 p.1).lo (condR7 p.2 p.1).ll (condR7 p.2 p.1).lc]
def polC (pv : Value) : Array Value := #[.bool false, .int .i64 0, .string ⟨#[]⟩, .string ⟨#[]⟩, .int .i64 0, .string ⟨#[]⟩, .string ⟨#[]⟩, .int .i64 0, .string ⟨#[]⟩, .string ⟨#[]⟩, pv]
def condsOf (ns : List Nat) : List (Bool × Ex) := ns.map fun n => (condU n, condX n)
theorem lenC8 (L : List (Nat × Nat)) : ∀ c ∈ L.map cCells, c.length = 8 := by
  intro c hc
  obtain ⟨p, _, rfl⟩ := List.mem_map.1 hc
  rfl
theorem one_cCells (p : Nat × Nat) : ∀ u ∈ cCells p, u.oneCell' = true := by
  intro u hu
  simp only [cCells, List.mem_cons, List.not_mem_nil, or_false] at hu
  rcases hu with rfl | rfl | rfl | rfl | rfl | rfl | rfl | rfl <;> rfl
theorem infoCond : (Tryz.prog.info? 56).map (fun i => (i.zero, i.size, i.bytes)) = some (some (.agg #[.bool false, .int .i64 0, .bool false, .int .i64 0, .string ⟨#[]⟩, .string ⟨#[]⟩, .string ⟨#[]⟩, .slice none 0 0]), 8, 104) := by kernel_rfl
/-- A row of conditions that the law has made, its kids behind B. -/
structure OwnC (w : World) (B : Nat) (pv : Value) (L : List (Nat × Nat)) : Prop where
  own : w.ownsRow B 56 8 pv L.length (L.map cCells).flatten
  mem : ∀ p ∈ L, B ≤ p.2 ∧ CondM w p.2 p.1
theorem OwnC.nil (w : World) (B : Nat) : OwnC w B (.slice none 0 0) [] := ⟨World.ownsRow_nil _ _ _ _, fun p h => by cases h⟩
theorem OwnC.kept {w w' : World} {B : Nat} {pv : Value} {L : List (Nat × Nat)} (h : OwnC w B pv L) (hk : ∀ b, B ≤ b → b < w.heap.size → w'.heap[b]? = w.heap[b]?) : OwnC w' B pv L :=
  ⟨own_keptS h.own fun g e hg => hk g (h.own.lt g e).1 hg, fun p hp => ⟨(h.mem p hp).1, (h.mem p hp).2.turn fun b e hb => hk b (e ▸ (h.mem p hp).1) hb⟩⟩
theorem OwnC.row {w : World} {B : Nat} {pv : Value} {L : List (Nat × Nat)} (h : OwnC w B pv L) : ∃ ao cap, pv = .slice ao L.length cap ∧ RowCd w ao (condsOf (L.map Prod.fst)) := by
  have h' : w.ownsRow B 56 8 pv (L.map cCells).length (L.map cCells).flatten := by rw [List.length_map]; exact h.own
  obtain ⟨ao, cap, hv, hr, _, _⟩ := rowG_ownE (lenC8 L) h'
  rw [List.length_map] at hv
  refine ⟨ao, cap, hv, fun j hj => ?_⟩
  have hj' : j < L.length := by simpa [condsOf] using hj
  obtain ⟨b, off, e, hb, hc⟩ := hr j (by simpa using hj')
  have hg : (L.map cCells)[j]'(by simpa using hj') = cCells L[j] := by simp
  rw [hg] at hc
  have he : (condsOf (L.map Prod.fst))[j] = (condU L[j].1, condX L[j].1) := by simp [condsOf]
  rw [he]
  refine ⟨condR7 L[j].2 L[j].1, b, off, e, hb, ⟨hc 0 _ rfl, hc 1 _ rfl, hc 2 _ rfl, hc 3 _ rfl, hc 4 _ rfl, hc 5 _ rfl, hc 6 _ rfl, hc 7 _ rfl⟩, (h.mem L[j] (List.getElem_mem hj')).2.isE⟩

/-- While one more condition is laid behind a policy's row: which operations are done (5: the append, 7: the store). -/
structure RcC (w wr : World) (P B : Nat) (pv : Value) (n : Nat) (L : List (Nat × Nat)) (Lb : Nat → Bool) (a' : Act) (w' : World) : Prop where
  bel : Below w.heap.size w w'
  size : wr.heap.size ≤ w'.heap.size
  keep : ∀ b, b < wr.heap.size → b ≠ P → pv.ownBlock ≠ some b → w'.heap[b]? = wr.heap[b]?
  low : Lb 5 = false → Below wr.heap.size wr w'
  pol : Lb 7 = false → w'.heap[P]? = some (.cells (polC pv) 46 (0, 0))
  ord : Lb 7 = true → ∀ j, j < 7 → Lb j = true
  app : Lb 5 = true → ∃ ao m c kb, a'.tmps.getD 32 undef = .slice ao m c ∧ wr.heap.size ≤ kb ∧ CondM w' kb n ∧ w'.ownsRow B 56 8 (.slice ao m c) (L.length + 1) ((L.map cCells).flatten ++ cCells (n, kb)) ∧ (Lb 7 = true → w'.heap[P]? = some (.cells (polC (.slice ao m c)) 46 (0, 0)))
theorem put_neC (a : Act) (d s : Nat) (v : Value) (h : s ≠ d) : (a.put (some d) v).tmps.getD s undef = a.tmps.getD s undef := by
  simp [Act.put, Array.getElem?_setIfInBounds_ne (Ne.symm h)]
section
variable {w wr w' w'' : World} {P B : Nat} {pv : Value} {n : Nat} {L : List (Nat × Nat)} {Lb : Nat → Bool} {a' : Act}
theorem RcC.start (hb : Below w.heap.size w wr) (hp : wr.heap[P]? = some (.cells (polC pv) 46 (0, 0))) (a : Act) : RcC w wr P B pv n L (fun _ => false) a wr.drew :=
  ⟨hb.drew, Nat.le_refl _, fun _ _ _ _ => rfl, fun _ => (Below.refl _ wr).drew, fun _ => hp, fun h => (by cases h), fun h => (by cases h)⟩
/-- A step that changes nothing of what was there. -/
theorem RcC.grow (h : RcC w wr P B pv n L Lb a' w') (hP : P < wr.heap.size) (i d : Nat) (v : Value) (h5 : i ≠ 5) (h7 : i ≠ 7) (hd : d ≠ 32) (hb : Below w'.heap.size w' w'') : RcC w wr P B pv n L (fun j => decide (j = i) || Lb j) (a'.put (some d) v) w'' := by
  have e5 : ((fun j => decide (j = i) || Lb j) 5) = Lb 5 := by simp [Ne.symm h5]
  have e7 : ((fun j => decide (j = i) || Lb j) 7) = Lb 7 := by simp [Ne.symm h7]
  have hP' : P < w'.heap.size := Nat.lt_of_lt_of_le hP h.size
  refine ⟨h.bel.trans (hb.mono h.bel.size), Nat.le_trans h.size hb.size, fun b h1 h2 h3 => (hb.block b (Nat.lt_of_lt_of_le h1 h.size)).trans (h.keep b h1 h2 h3), fun e => (h.low (e5 ▸ e)).trans (hb.mono h.size), fun e => (hb.block P hP').trans (h.pol (e7 ▸ e)), fun e j hj => by simp [h.ord (e7 ▸ e) j hj], fun e => ?_⟩
  obtain ⟨ao, m, c, kb, k1, k2, k3, k4, k5⟩ := h.app (e5 ▸ e)
  exact ⟨ao, m, c, kb, (put_neC a' d 32 v (Ne.symm hd)).trans k1, k2, k3.turn fun b _ hl => hb.block b hl, own_keptS k4 fun g _ hl => hb.block g hl, fun e => (hb.block P hP').trans (k5 (e7 ▸ e))⟩
/-- The append. -/
theorem RcC.appd (h : RcC w wr P B pv n L Lb a' w') (hL : Lb 5 = false) (hwB : w.heap.size ≤ B) (ho : wr.ownsRow B 56 8 pv L.length (L.map cCells).flatten) (hs : 32 < a'.tmps.size) (hP : wr.heap[P]? = some (.cells (polC pv) 46 (0, 0))) {kb : Nat} (hkb : wr.heap.size ≤ kb) (hm : CondM w' kb n) {v : Value}
    (hown : w''.ownsRow B 56 8 v (L.length + 1) ((L.map cCells).flatten ++ cCells (n, kb))) (hg : w'.grownBy w'' pv.ownBlock) : RcC w wr P B pv n L (fun j => decide (j = 5) || Lb j) (a'.put (some 32) v) w'' := by
  have h7 : Lb 7 = false := by
    cases e : Lb 7 with
    | false => rfl
    | true => rw [h.ord e 5 (by decide)] at hL; cases hL
  have hlow := h.low hL
  have hlt : ∀ g, pv.ownBlock = some g → g < wr.heap.size := fun g e => (ho.lt g e).2
  have hPl : P < wr.heap.size := (Array.getElem?_eq_some_iff.1 hP).1
  have hPn : pv.ownBlock ≠ some P := own_notS (show 56 ≠ 46 by decide) ho hP
  refine ⟨h.bel.grown hg h.bel.size fun k e => Nat.le_trans hwB (ho.lt k e).1, Nat.le_trans h.size hg.size, fun b h1 h2 h3 => (hg.block b (Nat.lt_of_lt_of_le h1 h.size) (fun e => h3 e.symm)).trans (h.keep b h1 h2 h3), fun e => by simp at e, fun _ => (hg.block P (Nat.lt_of_lt_of_le hPl h.size) (fun e => hPn e.symm)).trans (h.pol h7), fun e => by simp [h7] at e, fun _ => ?_⟩
  obtain ⟨ao, m, c, rfl⟩ : ∃ ao m c, v = .slice ao m c := by
    rcases hown.2 with ⟨hv, _⟩ | ⟨g, cap, cur, hv, _⟩
    · exact ⟨_, _, _, hv⟩
    · exact ⟨_, _, _, hv⟩
  refine ⟨ao, m, c, kb, by simp [Act.put, hs], hkb, hm.turn fun b e hl => hg.block b hl (fun e2 => by have := hlt b e2.symm; omega), hown, fun e => ?_⟩
  simp [h7] at e
/-- The store. -/
theorem RcC.stor (h : RcC w wr P B pv n L Lb a' w') (hL : Lb 7 = false) (hall : ∀ j, j < 7 → Lb j = true) (hwP : w.heap.size ≤ P) (hP : P < wr.heap.size) {ao : Option Addr} {m c : Nat} (hv : a'.tmps.getD 32 undef = .slice ao m c) : RcC w wr P B pv n L (fun j => decide (j = 7) || Lb j) a' (w'.setCell ⟨P, 10, none⟩ (.slice ao m c)) := by
  have hk := h.pol hL
  have h5 := hall 5 (by decide)
  have hset := heap_setCell_same w' P 10 _ _ (.slice ao m c) hk
  have hoth : ∀ b, b ≠ P → (w'.setCell ⟨P, 10, none⟩ (.slice ao m c)).heap[b]? = w'.heap[b]? := fun b hb => Below.heap_setCell w' ⟨P, 10, none⟩ _ b hb
  refine ⟨h.bel.setCell (p := ⟨P, 10, none⟩) hwP _, by rw [World.size_setCell]; exact h.size, fun b h1 h2 h3 => (hoth b h2).trans (h.keep b h1 h2 h3), fun e => ?_, fun e => by simp at e, fun _ j hj => by simp [hall j hj], fun _ => ?_⟩
  · simp [h5] at e
  · obtain ⟨ao', m', c', kb, k1, k2, k3, k4, _⟩ := h.app h5
    have e := hv.symm.trans k1
    injection e with e1 e2 e3
    subst e1 e2 e3
    exact ⟨ao, m, c, kb, hv, k2, k3.turn fun b e _ => hoth b (by omega), own_keptS k4 fun g e _ => hoth g (fun e2 => own_notS (show 56 ≠ 46 by decide) k4 hk (e2 ▸ e)), fun _ => hset⟩
end
/-- What the region's operations answer. -/
def dcSp (P W : Nat) (pv : Value) (n : Nat) : Nat → Value → World → Prop
  | 0, v, _ => v = .pointer (some ⟨P, 10, none⟩)
  | 1, v, _ => v = pv
  | 2, v, _ => v = .int .i64 n
  | 3, v, w' => ∃ kb, W ≤ kb ∧ CondM w' kb n ∧ v = .agg (cCells (n, kb)).toArray
  | 4, v, w' => ∃ kb g, W ≤ kb ∧ W ≤ g ∧ CondM w' kb n ∧ w'.heap[g]? = some (.cells (cCells (n, kb)).toArray 56 (0, 0)) ∧ v = .slice (some ⟨g, 0, none⟩) 1 1
  | 6, v, _ => v = .pointer (some ⟨P, 10, none⟩)
  | _, _, _ => True
theorem dcSp_up {P W : Nat} {pv : Value} {n : Nat} {w' w'' : World} (hk : ∀ b, W ≤ b → b < w'.heap.size → w''.heap[b]? = w'.heap[b]?) (j : Nat) (u : Value) (h : dcSp P W pv n j u w') : dcSp P W pv n j u w'' := by
  match j with
  | 0 | 1 | 2 | 6 => exact h
  | 3 =>
    obtain ⟨kb, h1, h2, h3⟩ := h
    exact ⟨kb, h1, h2.turn fun b e hl => hk b (e ▸ h1) hl, h3⟩
  | 4 =>
    obtain ⟨kb, g, h1, h2, h3, h4, h5⟩ := h
    exact ⟨kb, g, h1, h2, h3.turn fun b e hl => hk b (e ▸ h1) hl, (hk g h2 (Array.getElem?_eq_some_iff.1 h4).1).trans h4, h5⟩
  | 5 => trivial
  | _ + 7 => trivial
theorem condsC_push (D : EvD) (l : List (Bool × Ex)) (c : Bool × Ex) : condsC D (l ++ [c]) = match condsC D l with
    | .inl true => condR (evalE D c.2) c.1
    | .inl false => .inl false
    | .inr e => .inr e := by
  induction l with
  | nil =>
    show condsC D [c] = condR (evalE D c.2) c.1
    unfold condsC
    generalize condR (evalE D c.2) c.1 = r
    match r with
    | .inl true => rfl
    | .inl false => rfl
    | .inr e => rfl
  | cons a t ih =>
    show condsC D (a :: (t ++ [c])) = match condsC D (a :: t) with
      | .inl true => condR (evalE D c.2) c.1
      | .inl false => .inl false
      | .inr e => .inr e
    unfold condsC
    generalize condR (evalE D a.2) a.1 = r
    match r with
    | .inl true => exact ih
    | .inl false => rfl
    | .inr e => rfl
def aU : U2 := ⟨⟨#[65]⟩, ⟨#[]⟩⟩
/-- What a condition of a number comes to, where there are no entities. -/
def condW (n : Nat) : Bool ⊕ Int := match condK n with
  | 0 => .inl (!condU n)
  | 1 => .inl (condU n)
  | 2 => .inr 18
  | _ => .inr 16
theorem condW0 (u : Bool) : condR (evalE (noD aU zU zU) (eBool true)) u = .inl (!u) := by cases u <;> kernel_rfl
theorem condW1 (u : Bool) : condR (evalE (noD aU zU zU) (eBool false)) u = .inl u := by cases u <;> kernel_rfl
theorem condW2 (u : Bool) : condR (evalE (noD aU zU zU) (eTx 7 [97] [eVar [112, 114, 105, 110, 99, 105, 112, 97, 108]])) u = .inr 18 := by cases u <;> kernel_rfl
theorem condW3 (u : Bool) : condR (evalE (noD aU zU zU) (eLong 0)) u = .inr 16 := by cases u <;> kernel_rfl
theorem condW_is (n : Nat) : condR (evalE (noD aU zU zU) (condX n)) (condU n) = condW n := by
  unfold condW condX
  match condK n with
  | 0 => exact condW0 _
  | 1 => exact condW1 _
  | 2 => exact condW2 _
  | k + 3 => exact condW3 _
end Go.Proofs.YtldmfdkmkjiabaaGreat

namespace Go.Proofs.YtldmfdkmkjiabaaGreat
open Go.RowKit Go.Sort

theorem RcC.fin {w wr w' : World} {P : Nat} {pv : Value} {n : Nat} {L : List (Nat × Nat)} {Lb : Nat → Bool} {a' : Act} (h : RcC w wr P (P + 1) pv n L Lb a' w') (h5 : Lb 5 = true) (h7 : Lb 7 = true) (hC : OwnC wr (P + 1) pv L) (hP : wr.heap[P]? = some (.cells (polC pv) 46 (0, 0))) :
    ∃ ao m c kb, Below w.heap.size w w' ∧ w'.heap[P]? = some (.cells (polC (.slice ao m c)) 46 (0, 0)) ∧ OwnC w' (P + 1) (.slice ao m c) (L ++ [(n, kb)]) := by
  obtain ⟨ao, m, c, kb, _, k2, k3, k4, k5⟩ := h.app h5
  have hPl := (Array.getElem?_eq_some_iff.1 hP).1
  refine ⟨ao, m, c, kb, h.bel, k5 h7, ⟨?_, fun p hp => ?_⟩⟩
  · rw [List.length_append, List.map_append, List.flatten_append]
    simpa using k4
  · rcases List.mem_append.1 hp with hp | hp
    · obtain ⟨hb, hm⟩ := hC.mem p hp
      refine ⟨hb, fun h2 => ?_⟩
      have hh := hm h2
      exact (h.keep p.2 (Array.getElem?_eq_some_iff.1 hh).1 (by omega) (own_notS (show 56 ≠ 54 by decide) hC.own hh)).trans hh
    · rw [List.mem_singleton.1 hp]
      exact ⟨by show P + 1 ≤ kb; omega, k3⟩
def cnum (x : Int) : Nat := (x % 8).toNat
theorem cnum_lt (x : Int) : cnum x < 8 := by unfold cnum; omega
theorem cnum_is (x : Int) : x % 8 = (cnum x : Int) := by unfold cnum; omega
def clsN (xs : List Int) (j : Nat) : List Nat := (xs.take j).map cnum
theorem clsN_succ (xs : List Int) (j : Nat) (h : j < xs.length) : clsN xs (j + 1) = clsN xs j ++ [cnum xs[j]] := by
  unfold clsN
  rw [List.take_succ_eq_append_getElem h, List.map_append]
  rfl
theorem conds_next (xs : List Int) (j : Nat) (h : j < xs.length) : condsC (noD aU zU zU) (condsOf (clsN xs (j + 1))) = match condsC (noD aU zU zU) (condsOf (clsN xs j)) with
    | .inl true => condW (cnum xs[j])
    | .inl false => .inl false
    | .inr e => .inr e := by
  rw [clsN_succ xs j h]
  unfold condsOf
  rw [List.map_append]
  show condsC _ (_ ++ [(condU (cnum xs[j]), condX (cnum xs[j]))]) = _
  rw [condsC_push, condW_is]
  all_goals rfl

set_option maxHeartbeats 16000000 in
set_option maxRecDepth 1000000 in
theorem dconds_walk (ao : Option Addr) (xs : List Int) (cap : Nat) (w : World) (_hl : xs.length ≤ 9223372036854775807) (hr : IntsAt w ao xs) (hf : FitL w) :
    Calls Tryz.prog 4 #[.slice ao xs.length cap] w fun e w' => e = .returned (.bool true) ∧ Below w.heap.size w w' := by
  obtain ⟨i0, hi, hz0, hz1, hz2⟩ := info_partsE infoCond
  have K0 := known14_any w hf
  have HR := hide hr
  obtain ⟨N, hN⟩ : ∃ N, N = xs.length := ⟨_, rfl⟩
  rw [← hN] at ⊢
  have HN := hide hN
  have HF := hide hf
  clear hr hN hf
  go_enter Tryz.func4, Tryz.ntmps4
  go_wp2_with fail
  refine K0.mono ?_
  clear K0
  rintro x w1 ⟨rfl, b1⟩
  have b2 := ev1 w1 (.cells #[.bool false, .int .i64 0, .string ⟨#[]⟩, .string ⟨#[]⟩, .int .i64 0, .string ⟨#[]⟩, .string ⟨#[]⟩, .int .i64 0, .string ⟨#[]⟩, .string ⟨#[]⟩, .slice none 0 0] 46)
  have h2 := alloc_heap w1 (.cells #[.bool false, .int .i64 0, .string ⟨#[]⟩, .string ⟨#[]⟩, .int .i64 0, .string ⟨#[]⟩, .string ⟨#[]⟩, .int .i64 0, .string ⟨#[]⟩, .string ⟨#[]⟩, .slice none 0 0] 46)
  have B2 := b1.trans (b2.mono b1.size)
  have z1 := b1.size
  go_wp2
  generalize hw2 : w1.alloc _ = w2 at *
  have zP : w1.heap.size < w2.heap.size := (Array.getElem?_eq_some_iff.1 h2).1
  obtain ⟨P, hPd⟩ : ∃ P, P = w1.heap.size := ⟨_, rfl⟩
  rw [← hPd] at h2 zP z1 ⊢
  have hwP : w.heap.size ≤ P := z1
  clear hw2 b2 b1 hPd z1
  have HP2 := hide h2
  clear h2
  go_loopw [4, 5, 6] (fun a b c wr => ∃ (j : Nat) (wt : Bool) (er : Int) (pv : Value) (L : List (Nat × Nat)), a = .bool wt ∧ b = .int .i64 er ∧ c = .int .i64 j ∧ j ≤ N ∧ j ≤ 4 ∧ L.map Prod.fst = clsN xs j ∧ Below w.heap.size w wr ∧ wr.heap[P]? = some (.cells (polC pv) 46 (0, 0)) ∧ OwnC wr (P + 1) pv L ∧ condsC (noD aU zU zU) (condsOf (clsN xs j)) = (if er = 0 then .inl wt else .inr er)) (fun _ _ c _ => 4 - (intOf c).toNat)
  case atStart => exact ⟨0, true, 0, .slice none 0 0, [], rfl, rfl, rfl, Nat.zero_le _, Nat.zero_le _, rfl, B2, unhide HP2, OwnC.nil _ _, rfl⟩
  case round =>
    obtain ⟨j, wt, er, pv, L, rfl, rfl, rfl, hjN, hj4, hLs, bw, hPC, hOC, hrel⟩ := hrel
    have HPC := hide hPC
    have HOC := hide hOC
    have hPl : P < wr.heap.size := (Array.getElem?_eq_some_iff.1 hPC).1
    have HLL := hide (show L.length = j by
      have := congrArg List.length hLs
      rw [List.length_map] at this
      rw [this]
      unfold clsN
      rw [List.length_map, List.length_take]
      have := unhide HN
      omega)
    have HLS := hide hLs
    have HREL := hide hrel
    clear hPC hOC hLs hrel
    by_cases h1 : j < N
    · have i1 : (j : Int) < (N : Int) := by omega
      by_cases h2 : j < 4
      · have i2 : (j : Int) < 4 := by omega
        have hjl : j < xs.length := by rw [← unhide HN]; exact h1
        obtain ⟨b, off, rfl, hb, hc⟩ := unhide HR j hjl
        have hc := (bw.cell (p := ⟨b, off + j, none⟩) hb).trans hc
        have CW := fun w' => within14_any xs[j] 8 (by decide) (by decide) w'
        rw [cnum_is] at CW
        have HNX := hide (conds_next xs j hjl)
        have HCS := hide (clsN_succ xs j hjl)
        obtain ⟨n, hn⟩ : ∃ n, n = cnum xs[j] := ⟨_, rfl⟩
        have hn8 : n < 8 := by rw [hn]; exact cnum_lt _
        rw [← hn] at CW HNX HCS
        have CC := fun w' => cond14_any n hn8 w'
        have HN8 := hide hn8
        generalize xs[j] = x at *
        clear hn
        have x0 : (0 : Int) ≤ (j : Int) := by omega
        go_wp2_with fail
        refine (CW _).mono ?_
        clear CW hc
        rintro e wr ⟨rfl, rfl⟩
        go_upto_region 9 with fail
        refine wp_specsB 7 (dcSp P wr.heap.size pv n) (RcC w wr P (P + 1) pv n L) (by kernel_rfl) (by kernel_rfl) (by kernel_rfl) (RcC.start bw (unhide HPC) _) ?_ ?_ ?_
        · intro i o hi' ho Lb a' w' hL hw hR hdep hslot hsz K hK
          match i, hi' with
          | 0, _ =>
            cases ho
            have e3 : a'.tmps.getD 3 undef = .pointer (some ⟨P, 0, none⟩) := hslot 3 (by decide)
            unfold Oper.wp
            go_simp
            exact hK _ _ rfl (hR.grow hPl 0 27 _ (by decide) (by decide) (by decide) (Below.refl _ _)) (fun _ _ h => h)
          | 1, _ =>
            cases ho
            have e0 : a'.tmps.getD 27 undef = .pointer (some ⟨P, 10, none⟩) := hdep 0 (by decide) (by kernel_rfl)
            have h7 : Lb 7 = false := by
              cases e : Lb 7 with
              | false => rfl
              | true => rw [hR.ord e 1 (by decide)] at hL; cases hL
            have hp := hR.pol h7
            have x10 : w'.cell? ⟨P, 10, none⟩ = some pv := by rw [Lib.cell_of_heap hp]; rfl
            unfold Oper.wp
            go_simp
            exact hK _ _ rfl (hR.grow hPl 1 28 _ (by decide) (by decide) (by decide) (Below.refl _ _)) (fun _ _ h => h)
          | 2, _ =>
            cases ho
            have e7 : a'.tmps.getD 7 undef = .int .i64 n := hslot 7 (by decide)
            unfold Oper.wp
            go_simp
            exact hK _ _ rfl (hR.grow hPl 2 29 _ (by decide) (by decide) (by decide) (Below.refl _ _)) (fun _ _ h => h)
          | 3, _ =>
            cases ho
            have e0 : a'.tmps.getD 29 undef = .int .i64 n := hdep 2 (by decide) (by kernel_rfl)
            have e0' : a'.tmps[29]?.getD undef = .int .i64 n := by simpa using e0
            have C := CC w'
            unfold Oper.wp
            go_simp
            refine C.mono ?_
            rintro e w7 ⟨b7, kb, hkb, hm, rfl⟩
            exact hK _ _ ⟨kb, Nat.le_trans hR.size hkb, hm, rfl⟩ (hR.grow hPl 3 30 _ (by decide) (by decide) (by decide) b7) (fun j u h => dcSp_up (fun b _ hl => b7.block b hl) j u h)
          | 4, _ =>
            cases ho
            obtain ⟨kb, hkb, hm, e0⟩ : dcSp P wr.heap.size pv n 3 (a'.tmps.getD 30 undef) w' := hdep 3 (by decide) (by kernel_rfl)
            have e0 : a'.tmps.getD 30 undef = .agg #[.bool (condU n), .int .i64 (condR7 kb n).k, .bool (condR7 kb n).b, .int .i64 (condR7 kb n).n, .string (condR7 kb n).s, .string (condR7 kb n).t, .string (condR7 kb n).i, .slice (condR7 kb n).lo (condR7 kb n).ll (condR7 kb n).lc] := e0
            have e0' : a'.tmps[30]?.getD undef = .agg #[.bool (condU n), .int .i64 (condR7 kb n).k, .bool (condR7 kb n).b, .int .i64 (condR7 kb n).n, .string (condR7 kb n).s, .string (condR7 kb n).t, .string (condR7 kb n).i, .slice (condR7 kb n).lo (condR7 kb n).ll (condR7 kb n).lc] := by simpa using e0
            have b4 := ev1 w' (.cells (cCells (n, kb)).toArray 56)
            have h4 := alloc_heap w' (.cells (cCells (n, kb)).toArray 56)
            have HS := hide (And.intro hkb (And.intro hm (And.intro b4 h4)))
            have HRR := hide hR
            clear hm b4 h4 hsz
            clear hR
            unfold Oper.wp
            go_simp
            obtain ⟨hkb, hm, b4, h4⟩ := unhide HS
            exact hK _ _ ⟨kb, w'.heap.size, hkb, (unhide HRR).size, hm.turn fun b _ hl => b4.block b hl, h4, rfl⟩ ((unhide HRR).grow hPl 4 31 _ (by decide) (by decide) (by decide) b4) (fun j u h => dcSp_up (fun b _ hl => b4.block b hl) j u h)
          | 5, _ =>
            cases ho
            have e1 : a'.tmps.getD 28 undef = pv := hdep 1 (by decide) (by kernel_rfl)
            obtain ⟨kb, g, hkb, hg0, hm, hg, e4⟩ : dcSp P wr.heap.size pv n 4 (a'.tmps.getD 31 undef) w' := hdep 4 (by decide) (by kernel_rfl)
            have hlow := hR.low hL
            have hown := own_keptS (unhide HOC).own fun b e hl => hlow.block b hl
            have hcell : ∀ jj u, (cCells (n, kb))[jj]? = some u → w'.cell? ((⟨g, 0, none⟩ : Addr).add jj) = some u := by
              intro jj u hu
              rw [Addr.add_lit, Nat.zero_add, Lib.cell_of_heap hg]
              simpa using hu
            have hLL := unhide HLL
            obtain ⟨v', w'', hr, hown', hgr, _, _⟩ := run_append_own_at (P := Tryz.prog) w' (P + 1) 44 44 56 i0 _ 8 104 Tryz.underlying44 hi hz0 hz1 hz2 rfl (by decide) pv L.length _ hown ⟨g, 0, none⟩ 1 1 (cCells (n, kb)) rfl hcell (one_cCells (n, kb)) (by unfold maxLen; omega) (by omega) (by have := hR.size; omega)
            have hs : a'.eval (.tmp 28) = pv := e1
            have hx : a'.eval (.tmp 31) = .slice (some ⟨g, 0, none⟩) 1 1 := e4
            have hR2 := hR.appd hL (by omega) (unhide HOC).own (by rw [hsz]; exact Nat.le_of_ble_eq_true (by kernel_rfl)) (unhide HPC) hkb hm hown' hgr
            unfold Oper.wp execOp
            simp only [resolve, invoke, builtin, Sem.run_bind, Sem.run_pure, Result.andThen_ok, List.map_toArray, List.map_cons, List.map_nil, hs, hx, hr]
            exact hK _ _ trivial hR2 (fun j u h => dcSp_up (fun b hb hl => hgr.block b hl (fun e => by have := ((unhide HOC).own.lt b e.symm).2; omega)) j u h)
          | 6, _ =>
            cases ho
            have e3 : a'.tmps.getD 3 undef = .pointer (some ⟨P, 0, none⟩) := hslot 3 (by decide)
            unfold Oper.wp
            go_simp
            exact hK _ _ rfl (hR.grow hPl 6 33 _ (by decide) (by decide) (by decide) (Below.refl _ _)) (fun _ _ h => h)
          | i + 7, h => exact absurd h (by omega)
        · intro i o hi' ho Lb a' w' hL hw hR hdep K hK
          have : i = 7 := by
            have h := (List.getElem?_eq_some_iff.1 ho).1
            simp only [List.length_cons, List.length_nil] at h
            omega
          subst this
          cases ho
          have hall : ∀ j, j < 7 → Lb j = true := fun j hj => by
            match j, hj with
            | 0, _ => exact hw 0 (by kernel_rfl)
            | 1, _ => exact hw 1 (by kernel_rfl)
            | 2, _ => exact hw 2 (by kernel_rfl)
            | 3, _ => exact hw 3 (by kernel_rfl)
            | 4, _ => exact hw 4 (by kernel_rfl)
            | 5, _ => exact hw 5 (by kernel_rfl)
            | 6, _ => exact hw 6 (by kernel_rfl)
            | j + 7, h => exact absurd h (by omega)
          have h5 := hall 5 (by decide)
          obtain ⟨ao7, n7, c7, kb7, e1, _⟩ := hR.app h5
          have e2 : a'.tmps.getD 33 undef = .pointer (some ⟨P, 10, none⟩) := hdep 6 (by decide) (by kernel_rfl)
          have hST := hide (hR.stor hL hall hwP hPl e1)
          have hp := hR.pol hL
          have x10 : w'.cell? ⟨P, 10, none⟩ = some pv := by rw [Lib.cell_of_heap hp]; rfl
          have f10 : w'.frozen? ⟨P, 10, none⟩ = false := Lib.frozen_of_heap hp 10
          have hup : ∀ j u, dcSp P wr.heap.size pv n j u w' → dcSp P wr.heap.size pv n j u (w'.setCell ⟨P, 10, none⟩ (.slice ao7 n7 c7)) := fun j u h => dcSp_up (fun b hb _ => Below.heap_setCell w' ⟨P, 10, none⟩ _ b (fun e => by have e : b = P := e; omega)) j u h
          have HUP := hide hup
          clear hp hup
          unfold Oper.wp
          go_simp
          exact hK _ (unhide hST) (unhide HUP) undef
        · intro v Lb w5 hall hR hsp
          obtain ⟨ao7, n7, c7, kb7, b5, hP5, hC5⟩ := hR.fin (hall 5 (by decide)) (hall 7 (by decide)) (unhide HOC) (unhide HPC)
          clear hR hall hsp
          have HOC5 := hide hC5
          have HPC5 := hide hP5
          clear hC5 hP5
          simp only [putAll, dstOf, List.getElem?_cons_zero, List.getElem?_cons_succ, Option.bind_some]
          simp only [Act.put, List.setIfInBounds_toArray, List.set_cons_succ, List.set_cons_zero]
          generalize v 0 = v0
          generalize v 1 = v1
          generalize v 2 = v2
          generalize v 3 = v3
          generalize v 4 = v4
          generalize v 5 = v5
          generalize v 6 = v6
          have HLS5 := hide (show (L ++ [(n, kb7)]).map Prod.fst = clsN xs (j + 1) by rw [List.map_append, unhide HLS, unhide HCS]; rfl)
          clear hn8 x0 i2 i1
          by_cases he : er = 0
          · subst he
            cases wt with
            | false =>
              have HRL := hide (show condsC (noD aU zU zU) (condsOf (clsN xs (j + 1))) = (if (0 : Int) = 0 then .inl false else .inr 0) by rw [unhide HNX, unhide HREL]; rfl)
              go_wp2
              go_roundw
              case rel => exact ⟨j + 1, false, 0, _, _, rfl, rfl, by go_num, by omega, by omega, unhide HLS5, b5, unhide HPC5, unhide HOC5, unhide HRL⟩
              case measure =>
                simp only [intOf]
                omega
            | true =>
              have HRW := hide (show condsC (noD aU zU zU) (condsOf (clsN xs (j + 1))) = condW n by rw [unhide HNX, unhide HREL]; rfl)
              match n, HN8 with
              | 0, _ =>
                have HRL := hide (show condsC (noD aU zU zU) (condsOf (clsN xs (j + 1))) = (if (0 : Int) = 0 then .inl true else .inr 0) from (unhide HRW).trans (by kernel_rfl))
                clear HRW
                go_wp2
                go_roundw
                case rel => exact ⟨j + 1, true, 0, _, _, rfl, rfl, by go_num, by omega, by omega, unhide HLS5, b5, unhide HPC5, unhide HOC5, unhide HRL⟩
                case measure =>
                  simp only [intOf]
                  omega
              | 1, _ =>
                have HRL := hide (show condsC (noD aU zU zU) (condsOf (clsN xs (j + 1))) = (if (0 : Int) = 0 then .inl false else .inr 0) from (unhide HRW).trans (by kernel_rfl))
                clear HRW
                go_wp2
                go_roundw
                case rel => exact ⟨j + 1, false, 0, _, _, rfl, rfl, by go_num, by omega, by omega, unhide HLS5, b5, unhide HPC5, unhide HOC5, unhide HRL⟩
                case measure =>
                  simp only [intOf]
                  omega
              | 2, _ =>
                have HRL := hide (show condsC (noD aU zU zU) (condsOf (clsN xs (j + 1))) = (if (0 : Int) = 0 then .inl false else .inr 0) from (unhide HRW).trans (by kernel_rfl))
                clear HRW
                go_wp2
                go_roundw
                case rel => exact ⟨j + 1, false, 0, _, _, rfl, rfl, by go_num, by omega, by omega, unhide HLS5, b5, unhide HPC5, unhide HOC5, unhide HRL⟩
                case measure =>
                  simp only [intOf]
                  omega
              | 3, _ =>
                have HRL := hide (show condsC (noD aU zU zU) (condsOf (clsN xs (j + 1))) = (if (0 : Int) = 0 then .inl true else .inr 0) from (unhide HRW).trans (by kernel_rfl))
                clear HRW
                go_wp2
                go_roundw
                case rel => exact ⟨j + 1, true, 0, _, _, rfl, rfl, by go_num, by omega, by omega, unhide HLS5, b5, unhide HPC5, unhide HOC5, unhide HRL⟩
                case measure =>
                  simp only [intOf]
                  omega
              | 4, _ =>
                have HRL := hide (show condsC (noD aU zU zU) (condsOf (clsN xs (j + 1))) = (if (18 : Int) = 0 then .inl true else .inr 18) from (unhide HRW).trans (by kernel_rfl))
                clear HRW
                go_wp2
                go_roundw
                case rel => exact ⟨j + 1, true, 18, _, _, rfl, rfl, by go_num, by omega, by omega, unhide HLS5, b5, unhide HPC5, unhide HOC5, unhide HRL⟩
                case measure =>
                  simp only [intOf]
                  omega
              | 5, _ =>
                have HRL := hide (show condsC (noD aU zU zU) (condsOf (clsN xs (j + 1))) = (if (18 : Int) = 0 then .inl true else .inr 18) from (unhide HRW).trans (by kernel_rfl))
                clear HRW
                go_wp2
                go_roundw
                case rel => exact ⟨j + 1, true, 18, _, _, rfl, rfl, by go_num, by omega, by omega, unhide HLS5, b5, unhide HPC5, unhide HOC5, unhide HRL⟩
                case measure =>
                  simp only [intOf]
                  omega
              | 6, _ =>
                have HRL := hide (show condsC (noD aU zU zU) (condsOf (clsN xs (j + 1))) = (if (16 : Int) = 0 then .inl true else .inr 16) from (unhide HRW).trans (by kernel_rfl))
                clear HRW
                go_wp2
                go_roundw
                case rel => exact ⟨j + 1, true, 16, _, _, rfl, rfl, by go_num, by omega, by omega, unhide HLS5, b5, unhide HPC5, unhide HOC5, unhide HRL⟩
                case measure =>
                  simp only [intOf]
                  omega
              | 7, _ =>
                have HRL := hide (show condsC (noD aU zU zU) (condsOf (clsN xs (j + 1))) = (if (16 : Int) = 0 then .inl true else .inr 16) from (unhide HRW).trans (by kernel_rfl))
                clear HRW
                go_wp2
                go_roundw
                case rel => exact ⟨j + 1, true, 16, _, _, rfl, rfl, by go_num, by omega, by omega, unhide HLS5, b5, unhide HPC5, unhide HOC5, unhide HRL⟩
                case measure =>
                  simp only [intOf]
                  omega
              | n + 8, h => exact absurd (unhide h) (by omega)
          · have ge : (er != 0) = true := by simpa using he
            have HRL := hide (show condsC (noD aU zU zU) (condsOf (clsN xs (j + 1))) = (if er = 0 then .inl wt else .inr er) by rw [unhide HNX, unhide HREL, if_neg he])
            clear he
            cases wt with
            | false =>
              go_wp2
              go_roundw
              case rel => exact ⟨j + 1, false, er, _, _, rfl, rfl, by go_num, by omega, by omega, unhide HLS5, b5, unhide HPC5, unhide HOC5, unhide HRL⟩
              case measure =>
                simp only [intOf]
                omega
            | true =>
              go_wp2
              go_roundw
              case rel => exact ⟨j + 1, true, er, _, _, rfl, rfl, by go_num, by omega, by omega, unhide HLS5, b5, unhide HPC5, unhide HOC5, unhide HRL⟩
              case measure =>
                simp only [intOf]
                omega
      · have i2 : ¬ (j : Int) < 4 := by omega
        obtain ⟨lo, c, rfl, hcd⟩ := (unhide HOC).row
        rw [unhide HLS] at hcd
        obtain ⟨cs, hcs⟩ : ∃ cs, cs = condsOf (clsN xs j) := ⟨_, rfl⟩
        have hln : cs.length = L.length := by
          rw [hcs, ← unhide HLS]
          simp [condsOf]
        have hokc : ∀ x ∈ cs, okEv x.2 = true := by
          intro x hx
          rw [hcs] at hx
          obtain ⟨m, _, rfl⟩ := List.mem_map.1 hx
          exact condX_ok m
        rw [← hcs] at hcd
        have HREL := hide (show condsC (noD aU zU zU) cs = (if er = 0 then .inl wt else .inr er) by rw [hcs]; exact unhide HREL)
        have hL4 : L.length ≤ 100000 := by rw [unhide HLL]; omega
        have CO := dOne_any none [] 0 0 (noD aU zU zU) ⟨false, ⟨0, zU⟩, ⟨0, zU⟩, ⟨0, zU⟩, cs⟩ lo L.length c wr rfl (ew_nil wr ((unhide HF).below bw) _ _ _) hln hL4 hcd hokc
        rw [show dcOne (noD aU zU zU) ⟨false, ⟨0, zU⟩, ⟨0, zU⟩, ⟨0, zU⟩, cs⟩ = condsC (noD aU zU zU) cs from rfl, unhide HREL] at CO
        have hPC := unhide HPC
        obtain ⟨ln, hln2⟩ : ∃ ln, ln = L.length := ⟨_, rfl⟩
        rw [← hln2] at CO hPC
        clear hln hokc hcs hcd hL4 hln2
        have p0 : wr.cell? ⟨P, 0, none⟩ = some (.bool false) := by rw [Lib.cell_of_heap hPC]; rfl
        have p1 : wr.cell? ⟨P, 1, none⟩ = some (.int .i64 0) := by rw [Lib.cell_of_heap hPC]; rfl
        have p2 : wr.cell? ⟨P, 2, none⟩ = some (.string ⟨#[]⟩) := by rw [Lib.cell_of_heap hPC]; rfl
        have p3 : wr.cell? ⟨P, 3, none⟩ = some (.string ⟨#[]⟩) := by rw [Lib.cell_of_heap hPC]; rfl
        have p4 : wr.cell? ⟨P, 4, none⟩ = some (.int .i64 0) := by rw [Lib.cell_of_heap hPC]; rfl
        have p5 : wr.cell? ⟨P, 5, none⟩ = some (.string ⟨#[]⟩) := by rw [Lib.cell_of_heap hPC]; rfl
        have p6 : wr.cell? ⟨P, 6, none⟩ = some (.string ⟨#[]⟩) := by rw [Lib.cell_of_heap hPC]; rfl
        have p7 : wr.cell? ⟨P, 7, none⟩ = some (.int .i64 0) := by rw [Lib.cell_of_heap hPC]; rfl
        have p8 : wr.cell? ⟨P, 8, none⟩ = some (.string ⟨#[]⟩) := by rw [Lib.cell_of_heap hPC]; rfl
        have p9 : wr.cell? ⟨P, 9, none⟩ = some (.string ⟨#[]⟩) := by rw [Lib.cell_of_heap hPC]; rfl
        have p10 : wr.cell? ⟨P, 10, none⟩ = some (.slice lo ln c) := by rw [Lib.cell_of_heap hPC]; rfl
        clear hPC
        go_wp2_with fail
        refine CO.mono ?_
        clear CO p0 p1 p2 p3 p4 p5 p6 p7 p8 p9 p10
        rintro e w7 ⟨⟨b, kk, rfl, hrb⟩, b7⟩
        have B7 := bw.trans (b7.mono bw.size)
        by_cases he : er = 0
        · subst he
          rw [if_pos rfl] at hrb
          obtain ⟨rfl, rfl⟩ : kk = 0 ∧ b = wt := hrb
          cases b with
          | false =>
            go_wp2
            go_ret
            exact ⟨rfl, B7⟩
          | true =>
            go_wp2
            go_ret
            exact ⟨rfl, B7⟩
        · rw [if_neg he] at hrb
          obtain ⟨hk, _, rfl⟩ : kk = er ∧ er ≠ 0 ∧ b = false := hrb
          subst hk
          have ge : (kk != 0) = true := by simpa using he
          clear he
          go_wp2
          go_ret
          exact ⟨rfl, B7⟩
    · have i1 : ¬ (j : Int) < (N : Int) := by omega
      obtain ⟨lo, c, rfl, hcd⟩ := (unhide HOC).row
      rw [unhide HLS] at hcd
      obtain ⟨cs, hcs⟩ : ∃ cs, cs = condsOf (clsN xs j) := ⟨_, rfl⟩
      have hln : cs.length = L.length := by
        rw [hcs, ← unhide HLS]
        simp [condsOf]
      have hokc : ∀ x ∈ cs, okEv x.2 = true := by
        intro x hx
        rw [hcs] at hx
        obtain ⟨m, _, rfl⟩ := List.mem_map.1 hx
        exact condX_ok m
      rw [← hcs] at hcd
      have HREL := hide (show condsC (noD aU zU zU) cs = (if er = 0 then .inl wt else .inr er) by rw [hcs]; exact unhide HREL)
      have hL4 : L.length ≤ 100000 := by rw [unhide HLL]; omega
      have CO := dOne_any none [] 0 0 (noD aU zU zU) ⟨false, ⟨0, zU⟩, ⟨0, zU⟩, ⟨0, zU⟩, cs⟩ lo L.length c wr rfl (ew_nil wr ((unhide HF).below bw) _ _ _) hln hL4 hcd hokc
      rw [show dcOne (noD aU zU zU) ⟨false, ⟨0, zU⟩, ⟨0, zU⟩, ⟨0, zU⟩, cs⟩ = condsC (noD aU zU zU) cs from rfl, unhide HREL] at CO
      have hPC := unhide HPC
      obtain ⟨ln, hln2⟩ : ∃ ln, ln = L.length := ⟨_, rfl⟩
      rw [← hln2] at CO hPC
      clear hln hokc hcs hcd hL4 hln2
      have p0 : wr.cell? ⟨P, 0, none⟩ = some (.bool false) := by rw [Lib.cell_of_heap hPC]; rfl
      have p1 : wr.cell? ⟨P, 1, none⟩ = some (.int .i64 0) := by rw [Lib.cell_of_heap hPC]; rfl
      have p2 : wr.cell? ⟨P, 2, none⟩ = some (.string ⟨#[]⟩) := by rw [Lib.cell_of_heap hPC]; rfl
      have p3 : wr.cell? ⟨P, 3, none⟩ = some (.string ⟨#[]⟩) := by rw [Lib.cell_of_heap hPC]; rfl
      have p4 : wr.cell? ⟨P, 4, none⟩ = some (.int .i64 0) := by rw [Lib.cell_of_heap hPC]; rfl
      have p5 : wr.cell? ⟨P, 5, none⟩ = some (.string ⟨#[]⟩) := by rw [Lib.cell_of_heap hPC]; rfl
      have p6 : wr.cell? ⟨P, 6, none⟩ = some (.string ⟨#[]⟩) := by rw [Lib.cell_of_heap hPC]; rfl
      have p7 : wr.cell? ⟨P, 7, none⟩ = some (.int .i64 0) := by rw [Lib.cell_of_heap hPC]; rfl
      have p8 : wr.cell? ⟨P, 8, none⟩ = some (.string ⟨#[]⟩) := by rw [Lib.cell_of_heap hPC]; rfl
      have p9 : wr.cell? ⟨P, 9, none⟩ = some (.string ⟨#[]⟩) := by rw [Lib.cell_of_heap hPC]; rfl
      have p10 : wr.cell? ⟨P, 10, none⟩ = some (.slice lo ln c) := by rw [Lib.cell_of_heap hPC]; rfl
      clear hPC
      go_wp2_with fail
      refine CO.mono ?_
      clear CO p0 p1 p2 p3 p4 p5 p6 p7 p8 p9 p10
      rintro e w7 ⟨⟨b, kk, rfl, hrb⟩, b7⟩
      have B7 := bw.trans (b7.mono bw.size)
      by_cases he : er = 0
      · subst he
        rw [if_pos rfl] at hrb
        obtain ⟨rfl, rfl⟩ : kk = 0 ∧ b = wt := hrb
        cases b with
        | false =>
          go_wp2
          go_ret
          exact ⟨rfl, B7⟩
        | true =>
          go_wp2
          go_ret
          exact ⟨rfl, B7⟩
      · rw [if_neg he] at hrb
        obtain ⟨hk, _, rfl⟩ : kk = er ∧ er ≠ 0 ∧ b = false := hrb
        subst hk
        have ge : (kk != 0) = true := by simpa using he
        clear he
        go_wp2
        go_ret
        exact ⟨rfl, B7⟩
end Go.Proofs.YtldmfdkmkjiabaaGreat
