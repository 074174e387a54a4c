/-
  schema: what a function of the check returns.
-/
import Derived.Test.YtbcddjaecdoliaaScG
import Derived.Test.YtbcddjaecdoliaaScH
namespace Go.Proofs.Ytbcddjaecdoliaa
open Go.RowKit Go.Sort

set_option maxHeartbeats 4000000 in
set_option maxRecDepth 1000000 in
theorem scheck_any (s : SP) (v : Value) (w : World) (hl : SmallAll s) (hs : IsS w v s) :
    Calls Try.prog 12 #[v] w fun e w' => e = .returned (.int .i64 (checkS s)) ∧ Below w.heap.size w w' := by
  obtain ⟨ko, kc, ao, ac, rfl, _, _⟩ := hs.ex
  have B := blw1 w (.cells #[.slice ko s.ks.length kc, .slice ao s.ac.length ac] 25)
  have c0 : (w.alloc (.cells #[.slice ko s.ks.length kc, .slice ao s.ac.length ac] 25)).cell? ⟨w.heap.size, 0, none⟩ = some (.slice ko s.ks.length kc) := by simp
  have c1 : (w.alloc (.cells #[.slice ko s.ks.length kc, .slice ao s.ac.length ac] 25)).cell? ⟨w.heap.size, 1, none⟩ = some (.slice ao s.ac.length ac) := by simp
  have z : (w.alloc (.cells #[.slice ko s.ks.length kc, .slice ao s.ac.length ac] 25)).heap.size = w.heap.size + 1 := by simp
  have hs1 := hs.below B
  have C1 := checkKinds_any s _ _ hl hs1
  have C2 := fun w' (hb : Below (w.alloc (.cells #[.slice ko s.ks.length kc, .slice ao s.ac.length ac] 25)).heap.size (w.alloc (.cells #[.slice ko s.ks.length kc, .slice ao s.ac.length ac] 25)) w') => checkActions_any s _ w' hl (hs1.below hb)
  obtain ⟨KC, hKC⟩ : ∃ z, z = checkS s := ⟨_, rfl⟩
  rw [← hKC]
  have HE := hide (hKC.trans rfl : KC = if 6 < s.ks.length ∨ 6 < s.ac.length then 4 else if kindsC s.names ⟨#[]⟩ s.ks ≠ 0 then kindsC s.names ⟨#[]⟩ s.ks else actsC s.names ⟨#[]⟩ s.ac)
  have hk1 := hl.sm.ks
  have hk2 := hl.sm.ac
  clear hs hs1 hKC
  by_cases m5 : 6 < s.ks.length
  · have m5' : (6 : Int) < (s.ks.length : Int) := by omega
    have HE := hide ((unhide HE).trans (if_pos (.inl m5)))
    clear C1 C2
    go_enter Try.func12, Try.ntmps12
    go_wp2
    go_ret
    exact ⟨by rw [unhide HE]; rfl, B⟩
  have m5' : ¬ (6 : Int) < (s.ks.length : Int) := by omega
  by_cases m4 : 6 < s.ac.length
  · have m4' : (6 : Int) < (s.ac.length : Int) := by omega
    have HE := hide ((unhide HE).trans (if_pos (.inr m4)))
    clear C1 C2
    go_enter Try.func12, Try.ntmps12
    go_wp2
    go_ret
    exact ⟨by rw [unhide HE]; rfl, B⟩
  have m4' : ¬ (6 : Int) < (s.ac.length : Int) := by omega
  have HE := hide ((unhide HE).trans (if_neg (by omega)))
  generalize kindsC s.names ⟨#[]⟩ s.ks = y at *
  go_enter Try.func12, Try.ntmps12
  go_wp2_with fail
  generalize w.alloc _ = w2 at *
  refine C1.mono ?_
  rintro e w3 ⟨rfl, b3⟩
  clear C1
  have B3 := B.trans (b3.mono B.size)
  have C2 := C2 w3 b3
  by_cases hy : y = 0
  case neg =>
    have hyb : (y == 0) = false := by simpa using hy
    clear C2
    go_wp2
    go_ret
    exact ⟨by rw [unhide HE, if_pos hy]; rfl, B3⟩
  have HE := hide ((unhide HE).trans (if_neg (by simpa using hy)))
  subst hy
  have c0' := (b3.cell (p := ⟨w.heap.size, 0, none⟩) (by show w.heap.size < _; omega)).trans c0
  have c1' := (b3.cell (p := ⟨w.heap.size, 1, none⟩) (by show w.heap.size < _; omega)).trans c1
  clear c0 c1 b3
  generalize actsC s.names ⟨#[]⟩ s.ac = y2 at *
  go_wp2_with fail
  refine C2.mono ?_
  rintro e w4 ⟨rfl, b4⟩
  go_wp2
  go_ret
  exact ⟨by rw [unhide HE]; rfl, B3.trans (b4.mono B3.size)⟩
end Go.Proofs.Ytbcddjaecdoliaa
