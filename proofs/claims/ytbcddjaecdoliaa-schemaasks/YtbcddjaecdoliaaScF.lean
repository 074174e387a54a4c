/-
  schema.Check: what it returns.
-/
import Derived.Test.YtbcddjaecdoliaaScE
namespace Go.Proofs.Ytbcddjaecdoliaa
open Go.RowKit Go.Sort

/-- All of a schema has room. -/
structure SmallAll (s : SP) : Prop where
  sm : SmallS s
  k : ∀ j (h : j < s.ks.length), SmallK s.ks[j]
  a : ∀ j (h : j < s.ac.length), SmallA s.ac[j]
theorem kindsC_drop (l : List ByteArray) (ahead : ByteArray) (ks : List KP) (j : Nat) (hj : j < ks.length) : kindsC l ahead (ks.drop j) = if takenB ks[j].nm then 15 else if nameC ks[j].nm ahead ≠ 0 then nameC ks[j].nm ahead else if kindC l ks[j] ≠ 0 then kindC l ks[j] else kindsC l ks[j].nm (ks.drop (j + 1)) := by
  rw [List.drop_eq_getElem_cons hj]
  rfl
theorem actsC_drop (l : List ByteArray) (ahead : ByteArray) (ks : List AP) (j : Nat) (hj : j < ks.length) : actsC l ahead (ks.drop j) = if nameC ks[j].nm ahead ≠ 0 then nameC ks[j].nm ahead else if actC l ks[j] ≠ 0 then actC l ks[j] else actsC l ks[j].nm (ks.drop (j + 1)) := by
  rw [List.drop_eq_getElem_cons hj]
  rfl

set_option maxHeartbeats 4000000 in
set_option maxRecDepth 1000000 in
theorem checkAction_any (s : SP) (v : Value) (x : N3) (k : AP) (w : World) (hl : SmallS s) (hk : SmallA k) (hs : IsS w v s) (hx : IsA w x k) :
    Calls Try.prog 51 #[v, x.val] w fun e w' => e = .returned (.int .i64 (actC s.names k)) ∧ Below w.heap.size w w' := by
  obtain ⟨ko, kc, ao, ac, rfl, _, _⟩ := hs.ex
  obtain ⟨xn, xao, xal, xac, xbo, xbl, xbc⟩ := x
  obtain ⟨h1, h2, h3, h4, h5⟩ := hx
  simp only at h1 h2 h3 h4 h5
  subst h1 h2 h4
  unfold N3.val
  simp only
  have B := blw2 w (.cells #[.slice ko s.ks.length kc, .slice ao s.ac.length ac] 25) (.cells #[.string k.nm, .slice xao k.pr.length xac, .slice xbo k.re.length xbc] 44)
  have c0 : ((w.alloc (.cells #[.slice ko s.ks.length kc, .slice ao s.ac.length ac] 25)).alloc (.cells #[.string k.nm, .slice xao k.pr.length xac, .slice xbo k.re.length xbc] 44)).cell? ⟨w.heap.size, 0, none⟩ = some (.slice ko s.ks.length kc) := by simp
  have c1 : ((w.alloc (.cells #[.slice ko s.ks.length kc, .slice ao s.ac.length ac] 25)).alloc (.cells #[.string k.nm, .slice xao k.pr.length xac, .slice xbo k.re.length xbc] 44)).cell? ⟨w.heap.size, 1, none⟩ = some (.slice ao s.ac.length ac) := by simp
  have d2 : ((w.alloc (.cells #[.slice ko s.ks.length kc, .slice ao s.ac.length ac] 25)).alloc (.cells #[.string k.nm, .slice xao k.pr.length xac, .slice xbo k.re.length xbc] 44)).cell? ⟨w.heap.size + 1, 2, none⟩ = some (.slice xbo k.re.length xbc) := by simp
  have z : ((w.alloc (.cells #[.slice ko s.ks.length kc, .slice ao s.ac.length ac] 25)).alloc (.cells #[.string k.nm, .slice xao k.pr.length xac, .slice xbo k.re.length xbc] 44)).heap.size = w.heap.size + 2 := by simp
  have hs1 := hs.below B
  have C := checkAreKinds_any s _ k.pr xao xac ((w.alloc (.cells #[.slice ko s.ks.length kc, .slice ao s.ac.length ac] 25)).alloc (.cells #[.string k.nm, .slice xao k.pr.length xac, .slice xbo k.re.length xbc] 44)) hl hk.pr hs1 (h3.below B)
  have C2 := fun w' (hb : Below ((w.alloc (.cells #[.slice ko s.ks.length kc, .slice ao s.ac.length ac] 25)).alloc (.cells #[.string k.nm, .slice xao k.pr.length xac, .slice xbo k.re.length xbc] 44)).heap.size ((w.alloc (.cells #[.slice ko s.ks.length kc, .slice ao s.ac.length ac] 25)).alloc (.cells #[.string k.nm, .slice xao k.pr.length xac, .slice xbo k.re.length xbc] 44)) w') => checkAreKinds_any s _ k.re xbo xbc w' hl hk.re (hs1.below hb) ((h5.below B).below hb)
  have hk1 := hk.pr
  have hk2 := hk.re
  obtain ⟨KC, hKC⟩ : ∃ z, z = actC s.names k := ⟨_, rfl⟩
  rw [← hKC]
  have HE := hide (hKC.trans rfl : KC = if k.pr.length = 0 ∨ k.re.length = 0 then 13 else if 6 < k.pr.length ∨ 6 < k.re.length then 4 else if areC s.names k.pr ≠ 0 then areC s.names k.pr else areC s.names k.re)
  clear hs hs1 h3 h5 hk hKC
  by_cases m1 : k.pr.length = 0
  · have HE := hide ((unhide HE).trans (if_pos (.inl m1)))
    clear C C2
    go_enter Try.func51, Try.ntmps51
    go_wp2
    go_ret
    exact ⟨by rw [unhide HE]; rfl, by first | exact B | (rw [m1] at B; exact B)⟩
  have m1' : ((k.pr.length : Int) == 0) = false := by
    rw [beq_eq_false_iff_ne]
    omega
  by_cases m2 : k.re.length = 0
  · have HE := hide ((unhide HE).trans (if_pos (.inr m2)))
    clear C C2
    go_enter Try.func51, Try.ntmps51
    go_wp2
    go_ret
    exact ⟨by rw [unhide HE]; rfl, by first | exact B | (rw [m2] at B; exact B)⟩
  have m2' : ((k.re.length : Int) == 0) = false := by
    rw [beq_eq_false_iff_ne]
    omega
  have HE := hide ((unhide HE).trans (if_neg (by omega)))
  by_cases m5 : 6 < k.pr.length
  · have m5' : (6 : Int) < (k.pr.length : Int) := by omega
    have HE := hide ((unhide HE).trans (if_pos (.inl m5)))
    clear C C2
    go_enter Try.func51, Try.ntmps51
    go_wp2
    go_ret
    exact ⟨by rw [unhide HE]; rfl, B⟩
  have m5' : ¬ (6 : Int) < (k.pr.length : Int) := by omega
  by_cases m4 : 6 < k.re.length
  · have m4' : (6 : Int) < (k.re.length : Int) := by omega
    have HE := hide ((unhide HE).trans (if_pos (.inr m4)))
    clear C C2
    go_enter Try.func51, Try.ntmps51
    go_wp2
    go_ret
    exact ⟨by rw [unhide HE]; rfl, B⟩
  have m4' : ¬ (6 : Int) < (k.re.length : Int) := by omega
  have HE := hide ((unhide HE).trans (if_neg (by omega)))
  generalize areC s.names k.pr = y at *
  clear m1 m2
  go_enter Try.func51, Try.ntmps51
  go_wp2_with fail
  generalize (w.alloc _).alloc _ = w2 at *
  refine C.mono ?_
  rintro e w3 ⟨rfl, b3⟩
  clear C
  have B3 := B.trans (b3.mono B.size)
  have C2 := C2 w3 b3
  by_cases hy : y = 0
  case neg =>
    have hyb : (y == 0) = false := by simpa using hy
    clear C2
    go_wp2
    go_ret
    exact ⟨by rw [unhide HE, if_pos hy]; rfl, B3⟩
  have HE := hide ((unhide HE).trans (if_neg (by simpa using hy)))
  subst hy
  have d2' := (b3.cell (p := ⟨w.heap.size + 1, 2, none⟩) (by show w.heap.size + 1 < _; omega)).trans d2
  have c0' := (b3.cell (p := ⟨w.heap.size, 0, none⟩) (by show w.heap.size < _; omega)).trans c0
  have c1' := (b3.cell (p := ⟨w.heap.size, 1, none⟩) (by show w.heap.size < _; omega)).trans c1
  clear d2 c0 c1 b3
  generalize areC s.names k.re = y2 at *
  go_wp2_with fail
  refine C2.mono ?_
  rintro e w4 ⟨rfl, b4⟩
  go_wp2
  go_ret
  exact ⟨by rw [unhide HE]; rfl, B3.trans (b4.mono B3.size)⟩
end Go.Proofs.Ytbcddjaecdoliaa
