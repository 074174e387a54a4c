/-
  pack.read and pack.ParseCmd: what they return.
-/
import Derived.Test.YtkeljejddfpnmaaDoorPkS
namespace Go.Proofs.YtkeljejddfpnmaaDoor
open Go.RowKit Go.Sort

theorem set5_below {B b : Nat} {a w : World} (h : Below B a w) (hb : B ≤ b) (c : C5) : Below B a (set5 w b c) :=
  ((((h.setCell (p := ⟨b, 0, none⟩) hb _).setCell (p := ⟨b, 1, none⟩) hb _).setCell (p := ⟨b, 2, none⟩) hb _).setCell (p := ⟨b, 3, none⟩) hb _).setCell (p := ⟨b, 4, none⟩) hb _

set_option maxHeartbeats 8000000 in
set_option maxRecDepth 1000000 in
theorem read7_any (l : List UInt8) (ao : Option Addr) (cap : Nat) (w : World) (h : BRow w ao l) (hc : l.length ≤ cap) :
    Calls Tryd.prog 26 #[.slice ao l.length cap, .func (.func 27) #[] #[], .func (.func 19) #[] #[]] w fun e w' => e = .returned (.tuple #[(pcmd l).1.val, .int .i64 (pcmd l).2]) ∧ Below w.heap.size w w' := by
  rw [pcmd_pack]
  have b2 := below2 w (C5.obj zeroC) (C5.obj zeroC)
  have zr := kept_of_below (new1 _ (C5.obj zeroC)) (alloc_heap w (C5.obj zeroC))
  have zn := alloc_heap (w.alloc (C5.obj zeroC)) (C5.obj zeroC)
  rw [show (w.alloc (C5.obj zeroC)).heap.size = w.heap.size + 1 by simp] at zn
  have hsz : ((w.alloc (C5.obj zeroC)).alloc (C5.obj zeroC)).heap.size = w.heap.size + 2 := by simp
  have hr3 := RdK.new _ ao l cap (h.below b2) hc
  have b3 := new1 ((w.alloc (C5.obj zeroC)).alloc (C5.obj zeroC)) (.cells #[.slice ao l.length cap, .bool false, .bool false] 68)
  rw [hsz] at hr3
  have HZ := hide hsz
  clear hsz
  unfold C5.obj zeroC at b2 zr zn hr3 b3 HZ
  simp only [] at b2 zr zn hr3 b3 HZ
  obtain ⟨C, hC⟩ : ∃ C, C = cmdV ⟨l, false, false⟩ := ⟨_, rfl⟩
  obtain ⟨S, hS⟩ : ∃ S, S = cmdS ⟨l, false, false⟩ := ⟨_, rfl⟩
  have R := fun w' h' => rcmd_any ⟨l, false, false⟩ w' (w.heap.size + 2) h'
  rw [← hC, ← hS] at R
  rw [← hC, ← hS]
  have CK := fun w' => checkCmd_any C w'
  have F := fun w' h' => fault_any S w' (w.heap.size + 2) h'
  have HC := hide hC
  clear hC hS h hc
  unfold C5.val at R CK ⊢
  generalize fltE S = E at *
  generalize errC C = E2 at *
  by_cases hE : E = 0
  · rw [if_pos hE]
    by_cases hE2 : E2 = 0
    · rw [if_pos hE2]
      subst hE
      subst hE2
      simp only []
      go_enter Tryd.func26, Tryd.ntmps26
      go_upto_region 2 with fail
      generalize (w.alloc _).alloc _ = w2 at *
      go_upto_region 3 with fail
      rw [unhide HZ] at *
      generalize w2.alloc _ = w3 at *
      have zr3 := kept_of_below b3 zr
      have zn3 := kept_of_below b3 zn
      have bb3 := b2.trans (b3.mono b2.size)
      go_wp2_with fail
      refine (R w3 hr3).mono ?_
      rintro e w4 ⟨rfl, k4, h4⟩
      have zr4 : w4.heap[w.heap.size]? = some (C5.obj ⟨0, 0, 0, ⟨#[]⟩, ⟨#[]⟩⟩) := k4.bl (by omega) (by omega) zr3
      have zn4 : w4.heap[w.heap.size + 1]? = some (C5.obj ⟨0, 0, 0, ⟨#[]⟩, ⟨#[]⟩⟩) := k4.bl (by omega) (by omega) zn3
      have bb4 := k4.below bb3 (by omega) (by omega) bb3.size
      have n5 := new1 w4 C.obj
      have zc5 := alloc_heap w4 C.obj
      have zr5 := kept_of_below n5 zr4
      have zn5 := kept_of_below n5 zn4
      have h5 := h4.below n5
      have bb5 := bb4.trans (n5.mono bb4.size)
      unfold C5.obj at n5 zc5 zr5 zn5 h5 bb5
      simp only [] at zr5 zn5
      go_upto_region 4 with fail
      clear zr zn zr3 zn3 zr4 zn4 h4 k4 hr3 b3 b2 bb3 R
      generalize w4.alloc _ = w5 at *
      go_wp2_with fail
      refine (F w5 h5).mono ?_
      rintro e w5' ⟨rfl, rfl⟩
      clear F h5
      obtain ⟨c0, c1, c2, c3, c4, _⟩ := blk5 zc5
      go_wp2_with fail
      refine (CK w5').mono ?_
      rintro e w6 ⟨rfl, b6⟩
      have zc6 := kept_of_below b6 zc5
      have zr6 := kept_of_below b6 zr5
      have zn6 := kept_of_below b6 zn5
      have bb6 := bb5.trans (b6.mono bb5.size)
      clear c0 c1 c2 c3 c4 zc5 zr5 zn5 CK
      obtain ⟨c0, c1, c2, c3, c4, _⟩ := blk5 zc6
      obtain ⟨r0, r1, r2, r3, r4, rf⟩ := blk5 zr6
      go_wp2
      exact bodyPost_ret (v := .tuple #[.agg #[.int .i64 C.cl, .int .i64 C.sq, .int .i64 C.kd, .string C.nm, .string C.tx], .int .i64 0]) (by simp [results, Tryd.results26, go_sem, r0, r1, r2, r3, r4]) rfl ⟨rfl, set5_below bb6 (Nat.le_refl _) C⟩
    · rw [if_neg hE2]
      subst hE
      have q2 : (E2 == 0) = false := beq_false_of_ne hE2
      unfold zeroC
      simp only []
      clear hE2
      go_enter Tryd.func26, Tryd.ntmps26
      go_upto_region 2 with fail
      generalize (w.alloc _).alloc _ = w2 at *
      go_upto_region 3 with fail
      rw [unhide HZ] at *
      generalize w2.alloc _ = w3 at *
      have zr3 := kept_of_below b3 zr
      have zn3 := kept_of_below b3 zn
      have bb3 := b2.trans (b3.mono b2.size)
      go_wp2_with fail
      refine (R w3 hr3).mono ?_
      rintro e w4 ⟨rfl, k4, h4⟩
      have zr4 : w4.heap[w.heap.size]? = some (C5.obj ⟨0, 0, 0, ⟨#[]⟩, ⟨#[]⟩⟩) := k4.bl (by omega) (by omega) zr3
      have zn4 : w4.heap[w.heap.size + 1]? = some (C5.obj ⟨0, 0, 0, ⟨#[]⟩, ⟨#[]⟩⟩) := k4.bl (by omega) (by omega) zn3
      have bb4 := k4.below bb3 (by omega) (by omega) bb3.size
      have n5 := new1 w4 C.obj
      have zc5 := alloc_heap w4 C.obj
      have zr5 := kept_of_below n5 zr4
      have zn5 := kept_of_below n5 zn4
      have h5 := h4.below n5
      have bb5 := bb4.trans (n5.mono bb4.size)
      unfold C5.obj at n5 zc5 zr5 zn5 h5 bb5
      simp only [] at zr5 zn5
      go_upto_region 4 with fail
      clear zr zn zr3 zn3 zr4 zn4 h4 k4 hr3 b3 b2 bb3 R
      generalize w4.alloc _ = w5 at *
      go_wp2_with fail
      refine (F w5 h5).mono ?_
      rintro e w5' ⟨rfl, rfl⟩
      clear F h5
      obtain ⟨c0, c1, c2, c3, c4, _⟩ := blk5 zc5
      go_wp2_with fail
      refine (CK w5').mono ?_
      rintro e w6 ⟨rfl, b6⟩
      have zc6 := kept_of_below b6 zc5
      have zr6 := kept_of_below b6 zr5
      have zn6 := kept_of_below b6 zn5
      have bb6 := bb5.trans (b6.mono bb5.size)
      clear c0 c1 c2 c3 c4 zc5 zr5 zn5 CK
      obtain ⟨a0, a1, a2, a3, a4, _⟩ := blk5 zn6
      obtain ⟨r0, r1, r2, r3, r4, rf⟩ := blk5 zr6
      go_wp2
      exact bodyPost_ret (v := .tuple #[.agg #[.int .i64 0, .int .i64 0, .int .i64 0, .string ⟨#[]⟩, .string ⟨#[]⟩], .int .i64 E2]) (by simp [results, Tryd.results26, go_sem, r0, r1, r2, r3, r4]) rfl ⟨rfl, set5_below bb6 (Nat.le_refl _) ⟨0, 0, 0, ⟨#[]⟩, ⟨#[]⟩⟩⟩
  · rw [if_neg hE]
    have q1 : (E == 0) = false := beq_false_of_ne hE
    unfold zeroC
    simp only []
    clear hE
    go_enter Tryd.func26, Tryd.ntmps26
    go_upto_region 2 with fail
    generalize (w.alloc _).alloc _ = w2 at *
    go_upto_region 3 with fail
    rw [unhide HZ] at *
    generalize w2.alloc _ = w3 at *
    have zr3 := kept_of_below b3 zr
    have zn3 := kept_of_below b3 zn
    have bb3 := b2.trans (b3.mono b2.size)
    go_wp2_with fail
    refine (R w3 hr3).mono ?_
    rintro e w4 ⟨rfl, k4, h4⟩
    have zr4 : w4.heap[w.heap.size]? = some (C5.obj ⟨0, 0, 0, ⟨#[]⟩, ⟨#[]⟩⟩) := k4.bl (by omega) (by omega) zr3
    have zn4 : w4.heap[w.heap.size + 1]? = some (C5.obj ⟨0, 0, 0, ⟨#[]⟩, ⟨#[]⟩⟩) := k4.bl (by omega) (by omega) zn3
    have bb4 := k4.below bb3 (by omega) (by omega) bb3.size
    have n5 := new1 w4 C.obj
    have zc5 := alloc_heap w4 C.obj
    have zr5 := kept_of_below n5 zr4
    have zn5 := kept_of_below n5 zn4
    have h5 := h4.below n5
    have bb5 := bb4.trans (n5.mono bb4.size)
    unfold C5.obj at n5 zc5 zr5 zn5 h5 bb5
    simp only [] at zr5 zn5
    go_upto_region 4 with fail
    clear zr zn zr3 zn3 zr4 zn4 h4 k4 hr3 b3 b2 bb3 R
    generalize w4.alloc _ = w5 at *
    go_wp2_with fail
    refine (F w5 h5).mono ?_
    rintro e w5' ⟨rfl, rfl⟩
    clear F h5
    obtain ⟨a0, a1, a2, a3, a4, _⟩ := blk5 zn5
    obtain ⟨r0, r1, r2, r3, r4, rf⟩ := blk5 zr5
    go_wp2
    exact bodyPost_ret (v := .tuple #[.agg #[.int .i64 0, .int .i64 0, .int .i64 0, .string ⟨#[]⟩, .string ⟨#[]⟩], .int .i64 E]) (by simp [results, Tryd.results26, go_sem, r0, r1, r2, r3, r4]) rfl ⟨rfl, set5_below bb5 (Nat.le_refl _) ⟨0, 0, 0, ⟨#[]⟩, ⟨#[]⟩⟩⟩

set_option maxHeartbeats 8000000 in
set_option maxRecDepth 1000000 in
theorem parseCmd_any (l : List UInt8) (ao : Option Addr) (cap : Nat) (w : World) (h : BRow w ao l) (hc : l.length ≤ cap) :
    Calls Tryd.prog 9 #[.slice ao l.length cap] w fun e w' => e = .returned (.tuple #[(pcmd l).1.val, .int .i64 (pcmd l).2]) ∧ Below w.heap.size w w' := by
  have n1 := new1 w (C5.obj zeroC)
  have z1 := alloc_heap w (C5.obj zeroC)
  have R := read7_any l ao cap _ (h.below n1) hc
  generalize pcmd l = P at *
  obtain ⟨C, E⟩ := P
  unfold C5.val at R ⊢
  unfold C5.obj zeroC at n1 z1 R
  simp only [] at n1 z1 R ⊢
  go_enter Tryd.func9, Tryd.ntmps9
  go_upto_region 1 with fail
  generalize w.alloc _ = w1 at *
  go_wp2_with fail
  refine R.mono ?_
  rintro e w2 ⟨rfl, b2⟩
  have z2 := kept_of_below b2 z1
  obtain ⟨r0, r1, r2, r3, r4, rf⟩ := blk5 z2
  go_wp2
  exact bodyPost_ret (v := .tuple #[.agg #[.int .i64 C.cl, .int .i64 C.sq, .int .i64 C.kd, .string C.nm, .string C.tx], .int .i64 E]) (by simp [results, Tryd.results9, go_sem, r0, r1, r2, r3, r4]) rfl ⟨rfl, set5_below (n1.trans (b2.mono n1.size)) (Nat.le_refl _) C⟩
end Go.Proofs.YtkeljejddfpnmaaDoor
