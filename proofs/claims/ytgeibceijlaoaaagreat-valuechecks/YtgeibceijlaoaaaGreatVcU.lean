/-
  chancellaw3.known: the chapter's example holds.
-/
import Derived.Test.YtgeibceijlaoaaaGreatVcT
import Derived.Test.YtgeibceijlaoaaaGreatVcR
namespace Go.Proofs.YtgeibceijlaoaaaGreat
open Go.RowKit Go.Sort

theorem set212 : setOf lessP [.long 2, .long 1, .long 2] = [.long 1, .long 2] := by decide

theorem row212 (w : World) : RowV (w.alloc (.cells #[.int .i64 2, .bool false, .int .i64 2, .string ⟨#[]⟩, .string ⟨#[]⟩, .string ⟨#[]⟩, .slice none 0 0, .int .i64 2, .bool false, .int .i64 1, .string ⟨#[]⟩, .string ⟨#[]⟩, .string ⟨#[]⟩, .slice none 0 0, .int .i64 2, .bool false, .int .i64 2, .string ⟨#[]⟩, .string ⟨#[]⟩, .string ⟨#[]⟩, .slice none 0 0] 26)) (some ⟨w.heap.size, 0, none⟩) ([.long 2, .long 1, .long 2].map ofP) := by
  intro j hj
  refine ⟨w.heap.size, 0, rfl, by simp, fun c v hv => ?_⟩
  have hc : c < 7 := by
    have := (List.getElem?_eq_some_iff.1 hv).1
    rwa [cells_len] at this
  rw [World.cell?_alloc_at _ _ _ _ rfl, ← hv]
  match j, hj, c, hc with
  | 0, _, 0, _ | 0, _, 1, _ | 0, _, 2, _ | 0, _, 3, _ | 0, _, 4, _ | 0, _, 5, _ | 0, _, 6, _ => rfl
  | 1, _, 0, _ | 1, _, 1, _ | 1, _, 2, _ | 1, _, 3, _ | 1, _, 4, _ | 1, _, 5, _ | 1, _, 6, _ => rfl
  | 2, _, 0, _ | 2, _, 1, _ | 2, _, 2, _ | 2, _, 3, _ | 2, _, 4, _ | 2, _, 5, _ | 2, _, 6, _ => rfl

set_option maxHeartbeats 2000000 in
set_option maxRecDepth 1000000 in
theorem known3_any (w : World) : Calls Tryz.prog 7 #[] w fun e w' => e = .returned (.bool true) ∧ Below w.heap.size w w' := by
  go_enter Tryz.func7, Tryz.ntmps7
  go_wp2_with fail
  generalize hw2 : (w.alloc (.cells #[.int .i64 2, .bool false, .int .i64 1, .string ⟨#[]⟩, .string ⟨#[]⟩, .string ⟨#[]⟩, .slice none 0 0] 26)).alloc (.cells #[.int .i64 2, .bool false, .int .i64 2, .string ⟨#[]⟩, .string ⟨#[]⟩, .string ⟨#[]⟩, .slice none 0 0] 26) = w2
  have b02 : Below w.heap.size w w2 := by rw [← hw2]; exact below2 _ _ _
  have z2 : w2.heap.size = w.heap.size + 1 + 1 := by rw [← hw2]; simp
  have A2 : At7 w2 w.heap.size 0 (ofP (.long 1)) := by
    rw [← hw2]
    exact (at7_new w (ofP (.long 1))).below (below1 _ _) (by simp)
  clear hw2
  have hr := row212 w2
  have b3 := below1 w2 (.cells #[.int .i64 2, .bool false, .int .i64 2, .string ⟨#[]⟩, .string ⟨#[]⟩, .string ⟨#[]⟩, .slice none 0 0, .int .i64 2, .bool false, .int .i64 1, .string ⟨#[]⟩, .string ⟨#[]⟩, .string ⟨#[]⟩, .slice none 0 0, .int .i64 2, .bool false, .int .i64 2, .string ⟨#[]⟩, .string ⟨#[]⟩, .string ⟨#[]⟩, .slice none 0 0] 26)
  rw [z2] at hr
  generalize w2.alloc _ = w3 at *
  have A3 := A2.below b3 (by omega)
  refine (set_plain [.long 2, .long 1, .long 2] _ 3 w3 (by decide) hr (by decide)).mono ?_
  rintro e w4 ⟨b34, h4⟩
  rw [set212] at h4
  obtain ⟨_, ao, c, rfl, hown⟩ : _ ∧ ∃ ao c, e = .returned (.tuple #[(setR ao 2 c).val, .int .i64 0]) ∧ w4.ownsRow w3.heap.size 26 7 (.slice ao 2 c) 2 (cellsOf [.long 1, .long 2]) := by
    rcases h4 with h | ⟨h, _⟩
    · exact h
    · exact absurd h (by decide)
  have A4 := A3.below b34 (by have := b3.size; omega)
  have b4 := (b02.trans (b3.mono b02.size)).trans (b34.mono (by have := b3.size; omega))
  obtain ⟨ao', c', e', hrow⟩ := rowV_own (l := [.long 1, .long 2]) hown
  cases e'
  clear A2 A3 hr h4 hown
  unfold setR R7.val
  simp only
  go_wp2_with fail
  have A5 := at7_new w4 (setR ao 2 c)
  have b5 := below1 w4 (.cells #[.int .i64 (setR ao 2 c).k, .bool (setR ao 2 c).b, .int .i64 (setR ao 2 c).n, .string (setR ao 2 c).s, .string (setR ao 2 c).t, .string (setR ao 2 c).i, .slice (setR ao 2 c).lo (setR ao 2 c).ll (setR ao 2 c).lc] 26)
  have A4' := A4.below b5 (by have := b34.size; have := b3.size; omega)
  have z5 : (w4.alloc (.cells #[.int .i64 (setR ao 2 c).k, .bool (setR ao 2 c).b, .int .i64 (setR ao 2 c).n, .string (setR ao 2 c).s, .string (setR ao 2 c).t, .string (setR ao 2 c).i, .slice (setR ao 2 c).lo (setR ao 2 c).ll (setR ao 2 c).lc] 26)).heap.size = w4.heap.size + 1 := by simp
  have T := text_12 ao c _ (hrow.below b5)
  have z4 : w.heap.size < w4.heap.size := by have := b34.size; have := b3.size; omega
  refine T.mono ?_
  clear T
  have b45 := b4.trans (b5.mono b4.size)
  have hrow5 := hrow.below b5
  generalize w4.alloc _ = w5 at *
  rintro e w6 ⟨rfl, b56⟩
  have b6 := b45.trans (b56.mono b45.size)
  have A6 := A5.below b56 (by omega)
  have A6' := A4'.below b56 (by omega)
  have H := holds_plain [.long 1, .long 2] (.long 1) ao c w6 (by decide) (hrow5.below b56)
  clear A5 A4' A4 hrow hrow5
  unfold setR R7.val at H
  obtain ⟨a0, a1, a2, a3, a4, a5, a6⟩ := A6
  obtain ⟨o0, o1, o2, o3, o4, o5, o6⟩ := A6'
  simp only [Nat.zero_add] at a1 a2 a3 a4 a5 a6 o1 o2 o3 o4 o5 o6
  unfold setR at a0 a1 a2 a3 a4 a5 a6
  unfold ofP at o0 o1 o2 o3 o4 o5 o6 H
  simp only at a0 a1 a2 a3 a4 a5 a6 o0 o1 o2 o3 o4 o5 o6 H
  go_wp2_with fail
  refine H.mono ?_
  rintro e w7 ⟨rfl, b67⟩
  go_wp2
  go_ret
  exact ⟨rfl, b6.trans (b67.mono b6.size)⟩
end Go.Proofs.YtgeibceijlaoaaaGreat
