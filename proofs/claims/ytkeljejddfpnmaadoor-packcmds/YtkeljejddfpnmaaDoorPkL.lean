/-
  pack.Cmd: what it returns.
-/
import Derived.Test.YtkeljejddfpnmaaDoorPkK
namespace Go.Proofs.YtkeljejddfpnmaaDoor
open Go.RowKit Go.Sort

theorem cmd_bad (c : C5) (w : World) (he : errC c ≠ 0) :
    Calls Tryd.prog 7 #[c.val] w fun e w' => e = .returned (.tuple #[.slice none 0 0, .int .i64 (errC c)]) ∧ Below w.heap.size w w' := by
  have n1 := new1 w c.obj
  have C := checkCmd_any c (w.alloc c.obj)
  unfold C5.val at C ⊢
  unfold C5.obj at C n1
  generalize errC c = E at *
  have hE : (E == 0) = false := beq_false_of_ne he
  clear he
  go_enter Tryd.func7, Tryd.ntmps7
  go_wp2_with fail
  refine C.mono ?_
  rintro e w1 ⟨rfl, b1⟩
  go_wp2
  go_ret2
  exact ⟨rfl, n1.trans (b1.mono n1.size)⟩

theorem errC_zero {c : C5} (h : errC c = 0) : (1 ≤ c.kd ∧ c.kd ≤ 5) ∧ (1 ≤ c.cl ∧ c.cl ≤ 8 ∧ 1 ≤ c.sq) ∧ c.nm.size ≤ 12 ∧ c.tx.size ≤ 600 := by
  unfold errC at h
  split at h
  · omega
  · split at h
    · omega
    · split at h
      · omega
      · omega

set_option maxHeartbeats 8000000 in
set_option maxRecDepth 1000000 in
theorem cmd_ok (c : C5) (w : World) (he : errC c = 0) :
    Calls Tryd.prog 7 #[c.val] w fun e w' => ∃ g, e = .returned (.tuple #[.slice (some ⟨g, 0, none⟩) (cmdB c).length (cmdB c).length, .int .i64 0]) ∧ w.heap.size ≤ g ∧ Below w.heap.size w w' ∧ w'.heap[g]? = some (.cells (u8s (cmdB c)).toArray 5 (0, 0)) := by
  obtain ⟨_, _, hn, ht⟩ := errC_zero he
  have C := fun w' => checkCmd_any c w'
  rw [he] at C
  have S := fun w' => cmdSize_any c hn ht w'
  obtain ⟨N, hN⟩ : ∃ N : Nat, N = 14 + c.nm.size + c.tx.size := ⟨_, rfl⟩
  rw [← hN] at S
  rw [cmdB_len, ← hN]
  have n1 := new1 w c.obj
  have z1 := alloc_heap w c.obj
  obtain ⟨rest, hr, hmk⟩ := make_bytes N (N : Int) rfl (by omega)
  have HB := hide (show cmdB c = _ from rfl)
  obtain ⟨F, hF⟩ : ∃ F, F = cmdB c := ⟨_, rfl⟩
  have hFl : F.length = N := by rw [hF, cmdB_len, hN]
  rw [← hF]
  have HF := hide hF
  have HFL := hide hFl
  unfold C5.val at C S ⊢
  unfold C5.obj at n1 z1
  clear hF hFl he
  have hN1 : N ≤ 700 := by omega
  have HN := hide hN
  clear hN
  go_enter Tryd.func7, Tryd.ntmps7
  go_upto_region 1 with fail
  generalize w.alloc _ = w1 at *
  obtain ⟨c0, c1, c2, c3, c4, _⟩ := blk5 z1
  go_wp2_with fail
  refine (C w1).mono ?_
  rintro e w2 ⟨rfl, b12⟩
  have b2 := n1.trans (b12.mono n1.size)
  have z2 := kept_of_below b12 z1
  obtain ⟨c0, c1, c2, c3, c4, _⟩ := blk5 z2
  go_wp2_with fail
  refine (S w2).mono ?_
  rintro e w3 ⟨rfl, b23⟩
  have b3 := b2.trans (b23.mono b2.size)
  have z3 := kept_of_below b23 z2
  have wr4 := wr_new w3 rest N hr
  have b34 := below2 w3 (.cells rest.toArray 5) (.cells #[.slice (some ⟨w3.heap.size, 0, none⟩) N N] 51)
  have z4 := kept_of_below b34 z3
  have lw : w.heap.size < w3.heap.size := (Array.getElem?_eq_some_iff.1 z3).1
  clear c0 c1 c2 c3 c4 z1 z2 C S
  go_upto_region 6 with fail
  generalize (w3.alloc _).alloc _ = w4 at *
  have b4 := b3.trans (b34.mono b3.size)
  obtain ⟨c0, c1, c2, c3, c4, _⟩ := blk5 z4
  have N1 := wnumber_any 1 (by decide) c.cl w4 (w3.heap.size + 1) w3.heap.size N [] wr4 (by omega)
  go_wp2_with fail
  refine N1.mono ?_
  rintro e w5 ⟨rfl, k45, h5⟩
  have hx : w.heap.size ≠ w3.heap.size + 1 := by omega
  have hy : w.heap.size ≠ w3.heap.size := by omega
  have l4 : w.heap.size < w4.heap.size := (Array.getElem?_eq_some_iff.1 z4).1
  have z5 := (k45.block _ l4 hx hy).trans z4
  have b5 := k45.below b4 (by omega) (by omega) b4.size
  obtain ⟨c0, c1, c2, c3, c4, _⟩ := blk5 z5
  have N2 := wnumber_any 8 (by decide) c.sq w5 (w3.heap.size + 1) w3.heap.size N _ h5 (by omega)
  go_wp2_with fail
  refine N2.mono ?_
  rintro e w6 ⟨rfl, k56, h6⟩
  have l5 := b5.size
  have z6 := (k56.block _ (Array.getElem?_eq_some_iff.1 z5).1 hx hy).trans z5
  have b6 := k56.below b5 (by omega) (by omega) b5.size
  obtain ⟨c0, c1, c2, c3, c4, _⟩ := blk5 z6
  have N3 := wnumber_any 1 (by decide) c.kd w6 (w3.heap.size + 1) w3.heap.size N _ h6 (by omega)
  go_wp2_with fail
  refine N3.mono ?_
  rintro e w7 ⟨rfl, k67, h7⟩
  have z7 := (k67.block _ (Array.getElem?_eq_some_iff.1 z6).1 hx hy).trans z6
  have b7 := k67.below b6 (by omega) (by omega) b6.size
  obtain ⟨c0, c1, c2, c3, c4, _⟩ := blk5 z7
  obtain ⟨cap8, w8, hcv8, _, hr8, b78⟩ := bytes_run w7 c.nm
  have z8 := kept_of_below b78 z7
  have h8 := h7.below b78
  have b8 := b7.trans (b78.mono b7.size)
  have l7 := h7.lt
  have B1 := wbytes_any c.nm.data.toList (some ⟨w7.heap.size, 0, none⟩) cap8 _ (w3.heap.size + 1) w3.heap.size N _ h8 (fun _ x o e => by cases e; omega) hr8 (by rw [← Lib.size_eq]; omega) (by omega)
  rw [← Lib.size_eq] at B1
  go_wp2_with fail
  clear hcv8
  refine B1.mono ?_
  rintro e w9 ⟨rfl, k89, h9⟩
  have z9 := (k89.block _ (Array.getElem?_eq_some_iff.1 z8).1 hx hy).trans z8
  have b9 := k89.below b8 (by omega) (by omega) b8.size
  obtain ⟨c0, c1, c2, c3, c4, _⟩ := blk5 z9
  obtain ⟨cap10, w10, hcv10, _, hr10, b910⟩ := bytes_run w9 c.tx
  have z10 := kept_of_below b910 z9
  have h10 := h9.below b910
  have b10 := b9.trans (b910.mono b9.size)
  have l9 := h9.lt
  have B2 := wbytes_any c.tx.data.toList (some ⟨w9.heap.size, 0, none⟩) cap10 _ (w3.heap.size + 1) w3.heap.size N _ h10 (fun _ x o e => by cases e; omega) hr10 (by rw [← Lib.size_eq]; omega) (by omega)
  rw [← Lib.size_eq] at B2
  go_wp2_with fail
  clear hcv10
  refine B2.mono ?_
  rintro e w11 ⟨rfl, k1011, h11⟩
  have b11 := k1011.below b10 (by omega) (by omega) b10.size
  have eF : [] ++ beN 1 c.cl ++ beN 8 c.sq ++ beN 1 c.kd ++ (beN 2 c.nm.size ++ c.nm.data.toList) ++ (beN 2 c.tx.size ++ c.tx.data.toList) = F := by
    rw [unhide HF]
    simp [cmdB, textB, List.append_assoc]
  rw [eF] at h11
  go_wp2
  go_ret2
  exact ⟨w3.heap.size, rfl, by omega, b11, h11.room.full (unhide HFL)⟩
end Go.Proofs.YtkeljejddfpnmaaDoor
