/-
  schema.checkType: what it returns.
-/
import Derived.Test.YtbcddjaecdoliaaScC
namespace Go.Proofs.Ytbcddjaecdoliaa
open Go.RowKit Go.Sort

set_option maxHeartbeats 4000000 in
set_option maxRecDepth 1000000 in
theorem checkType_any (s : SP) (v : Value) (f : F4) (w : World) (hl : SmallS s) (hs : IsS w v s) :
    Calls Try.prog 63 #[v, f.typ] w fun e w' => e = .returned (.int .i64 (typeC s.names f)) ∧ Below w.heap.size w w' := by
  obtain ⟨ko, kc, ao, ac, rfl, _, _⟩ := hs.ex
  obtain ⟨fnm, k, o, tn⟩ := f
  unfold F4.typ
  simp only
  have B := fun k : Int => blw2 w (.cells #[.slice ko s.ks.length kc, .slice ao s.ac.length ac] 25) (.cells #[.int .i64 k, .int .i64 o, .string tn] 29)
  have C := fun (k q : Int) => checkTypeName_any s _ q tn ((w.alloc (.cells #[.slice ko s.ks.length kc, .slice ao s.ac.length ac] 25)).alloc (.cells #[.int .i64 k, .int .i64 o, .string tn] 29)) hl (hs.below (B k))
  clear hs
  by_cases h1 : k = 1
  · subst h1
    by_cases ho : o = 0
    · subst ho
      rw [show typeC s.names ⟨fnm, 1, 0, tn⟩ = typeNC s.names 1 tn from rfl]
      have B := B 1
      have C := C 1 1
      generalize typeNC s.names 1 tn = y at *
      go_enter Try.func63, Try.ntmps63
      go_wp2_with fail
      generalize (w.alloc _).alloc _ = w2 at *
      refine C.mono ?_
      rintro e w3 ⟨rfl, b3⟩
      clear C
      go_wp2
      go_ret
      exact ⟨rfl, B.trans (b3.mono B.size)⟩
    · have hb : (o == 0) = false := by simpa using ho
      have HT := hide (show typeC s.names ⟨fnm, 1, o, tn⟩ = 1 by unfold typeC; simp [ho])
      have B := B 1
      clear C
      go_enter Try.func63, Try.ntmps63
      go_wp2
      go_ret
      exact ⟨by rw [unhide HT]; rfl, B⟩
  have e1 : (k == 1) = false := by simpa using h1
  by_cases h2 : k = 2
  · subst h2
    by_cases ho : o = 0
    · subst ho
      rw [show typeC s.names ⟨fnm, 2, 0, tn⟩ = typeNC s.names 2 tn from rfl]
      have B := B 2
      have C := C 2 2
      generalize typeNC s.names 2 tn = y at *
      go_enter Try.func63, Try.ntmps63
      go_wp2_with fail
      generalize (w.alloc _).alloc _ = w2 at *
      refine C.mono ?_
      rintro e w3 ⟨rfl, b3⟩
      clear C
      go_wp2
      go_ret
      exact ⟨rfl, B.trans (b3.mono B.size)⟩
    · have hb : (o == 0) = false := by simpa using ho
      have HT := hide (show typeC s.names ⟨fnm, 2, o, tn⟩ = 1 by unfold typeC; simp [ho])
      have B := B 2
      clear C
      go_enter Try.func63, Try.ntmps63
      go_wp2
      go_ret
      exact ⟨by rw [unhide HT]; rfl, B⟩
  have e2 : (k == 2) = false := by simpa using h2
  by_cases h3 : k = 3
  · subst h3
    by_cases ho : o = 0
    · subst ho
      rw [show typeC s.names ⟨fnm, 3, 0, tn⟩ = typeNC s.names 3 tn from rfl]
      have B := B 3
      have C := C 3 3
      generalize typeNC s.names 3 tn = y at *
      go_enter Try.func63, Try.ntmps63
      go_wp2_with fail
      generalize (w.alloc _).alloc _ = w2 at *
      refine C.mono ?_
      rintro e w3 ⟨rfl, b3⟩
      clear C
      go_wp2
      go_ret
      exact ⟨rfl, B.trans (b3.mono B.size)⟩
    · have hb : (o == 0) = false := by simpa using ho
      have HT := hide (show typeC s.names ⟨fnm, 3, o, tn⟩ = 1 by unfold typeC; simp [ho])
      have B := B 3
      clear C
      go_enter Try.func63, Try.ntmps63
      go_wp2
      go_ret
      exact ⟨by rw [unhide HT]; rfl, B⟩
  have e3 : (k == 3) = false := by simpa using h3
  by_cases h4 : k = 4
  · subst h4
    by_cases ho : o = 0
    · subst ho
      rw [show typeC s.names ⟨fnm, 4, 0, tn⟩ = typeNC s.names 4 tn from rfl]
      have B := B 4
      have C := C 4 4
      generalize typeNC s.names 4 tn = y at *
      go_enter Try.func63, Try.ntmps63
      go_wp2_with fail
      generalize (w.alloc _).alloc _ = w2 at *
      refine C.mono ?_
      rintro e w3 ⟨rfl, b3⟩
      clear C
      go_wp2
      go_ret
      exact ⟨rfl, B.trans (b3.mono B.size)⟩
    · have hb : (o == 0) = false := by simpa using ho
      have HT := hide (show typeC s.names ⟨fnm, 4, o, tn⟩ = 1 by unfold typeC; simp [ho])
      have B := B 4
      clear C
      go_enter Try.func63, Try.ntmps63
      go_wp2
      go_ret
      exact ⟨by rw [unhide HT]; rfl, B⟩
  have e4 : (k == 4) = false := by simpa using h4
  by_cases h5 : k = 5
  · subst h5
    clear h1 h2 h3 h4 e1 e2 e3 e4
    have B := B 5
    have C := C 5 o
    by_cases l1 : 1 ≤ o
    · by_cases l4 : o ≤ 4
      · have HT := hide (show typeC s.names ⟨fnm, 5, o, tn⟩ = typeNC s.names o tn by unfold typeC; simp [l1, l4])
        generalize typeNC s.names o tn = y at *
        go_enter Try.func63, Try.ntmps63
        go_wp2_with fail
        generalize (w.alloc _).alloc _ = w2 at *
        refine C.mono ?_
        rintro e w3 ⟨rfl, b3⟩
        clear C
        go_wp2
        go_ret
        exact ⟨by rw [unhide HT]; rfl, B.trans (b3.mono B.size)⟩
      · have HT := hide (show typeC s.names ⟨fnm, 5, o, tn⟩ = 3 by unfold typeC; simp [l4])
        clear C
        go_enter Try.func63, Try.ntmps63
        go_wp2
        go_ret
        exact ⟨by rw [unhide HT]; rfl, B⟩
    · have HT := hide (show typeC s.names ⟨fnm, 5, o, tn⟩ = 3 by unfold typeC; simp [l1])
      clear C
      go_enter Try.func63, Try.ntmps63
      go_wp2
      go_ret
      exact ⟨by rw [unhide HT]; rfl, B⟩
  have e5 : (k == 5) = false := by simpa using h5
  have HT := hide (show typeC s.names ⟨fnm, k, o, tn⟩ = 3 by unfold typeC; simp [h1, h2, h3, h4, h5])
  have B := B k
  clear C h1 h2 h3 h4 h5
  go_enter Try.func63, Try.ntmps63
  go_wp2
  go_ret
  exact ⟨by rw [unhide HT]; rfl, B⟩
end Go.Proofs.Ytbcddjaecdoliaa
