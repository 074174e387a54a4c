/-
  The laws' known, within.
-/
import Derived.Test.YtlakgnnjokienaaGreatDoorPlA
import Derived.Deep.Cut
namespace Go.Proofs.YtlakgnnjokienaaGreatDoor
open Go.RowKit Go.Sort

theorem ret_int5 {a b : Int} (h : a = b) : Ending.returned (.int .i64 a) = .returned (.int .i64 b) := by rw [h]
set_option maxRecDepth 1000000 in
theorem within5_any (a n : Int) (hn : 0 < n) (hn1 : n ≤ 4294967296) (w : World) :
    Calls Tryz.prog 7 #[.int .i64 a, .int .i64 n] w fun e w' => e = .returned (.int .i64 (a % n)) ∧ w' = w := by
  go_enter Tryz.func7, Tryz.ntmps7
  go_wp2
  · go_ret
    exact ⟨ret_int5 (tmod_neg a n hn hn1 (by assumption)), rfl⟩
  · go_ret
    exact ⟨ret_int5 (tmod_pos a n hn (by assumption)), rfl⟩

set_option maxHeartbeats 2000000 in
set_option maxRecDepth 1000000 in
theorem known5_any (w : World) (hT : Tabs w) : Calls Tryz.prog 6 #[] w fun e w' => e = .returned (.bool true) ∧ Below w.heap.size w w' := by
  have T := pexpr_any ⟨#[49, 32, 45, 32, 50, 32, 45, 32, 51]⟩ w hT (by decide) known_mild
  rw [show (ByteArray.mk #[49, 32, 45, 32, 50, 32, 45, 32, 51]).data.toList = [49, 32, 45, 32, 50, 32, 45, 32, 51] from rfl, known_plain] at T
  simp only at T
  clear hT
  go_enter Tryz.func6, Tryz.ntmps6
  go_wp2_with fail
  refine T.mono ?_
  rintro e w1 ⟨r, rfl, b1, hE⟩
  clear T
  have n2 := new1 w1 (.cells #[.int .i64 r.k, .bool r.b, .int .i64 r.n, .string r.s, .string r.t, .string r.i, .slice r.lo r.ll r.lc] 28)
  have Z2 : (w1.alloc (.cells #[.int .i64 r.k, .bool r.b, .int .i64 r.n, .string r.s, .string r.t, .string r.i, .slice r.lo r.ll r.lc] 28)).heap[w1.heap.size]? = some (.cells #[.int .i64 r.k, .bool r.b, .int .i64 r.n, .string r.s, .string r.t, .string r.i, .slice r.lo r.ll r.lc] 28 (0, 0)) := alloc_heap _ _
  have hE := hide (IsE.turn n2.size (fun b hb hb2 => ⟨n2.block b hb2, hb⟩) r _ hE)
  have b12 := b1.trans (n2.mono b1.size)
  clear n2 b1
  unfold R7.val
  go_upto_region 2 with fail
  generalize w1.alloc _ = w2 at *
  have hE := unhide hE
  obtain ⟨x0, _, _, _, _, _, x6, _⟩ := blk7 Z2
  obtain ⟨e1, _, e2⟩ := top hE
  obtain ⟨ra, g, off, e3, hg, ha, hEa⟩ := kid0 hE
  obtain ⟨rc, g', off', e4, hg', hb, hEb⟩ := kid1 hE
  rw [e3] at e4
  cases e4
  obtain ⟨e5, _, _⟩ := top hEa
  obtain ⟨_, e6, _⟩ := top hEb
  have a0 := ha.c0
  have c2 := hb.c2
  rw [e5] at a0
  rw [e6, show off + 7 + 2 = off + 9 by omega] at c2
  rw [e1] at x0
  rw [e2, e3] at x6
  have x6 : w2.cell? ⟨w1.heap.size, 6, none⟩ = some (.slice (some ⟨g, off, none⟩) 2 r.lc) := x6
  clear Z2 ha hb hEa hEb hE e1 e2 e3 e5 e6
  go_wp2
  go_ret
  exact ⟨rfl, b12⟩
end Go.Proofs.YtlakgnnjokienaaGreatDoor
