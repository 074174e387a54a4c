/-
  Package eval: ofOne.
  Package eval: uidsOf.
  Package eval: ofIn.
-/
import Derived.Test.YtbbongdnnmanlaaGreatEvDF
import Derived.Test.YtbbongdnnmanlaaGreatLike
import Derived.Test.YtbbongdnnmanlaaGreatEcCF
import Derived.Maps.AppendAt
namespace Go.Proofs.YtbbongdnnmanlaaGreat
open Go.RowKit Go.Sort

theorem like13 (s p : List UInt8) (w : World) (hf : FitL w) (hs : s.length < 4294967281) (hp : p.length < 4294967281) :
    Calls Tryz.prog 33 #[.string (ba s), .string (ba p)] w fun e w' => e = .returned (.bool (likeL p s false [])) ∧ Below w.heap.size w w' := by
  obtain ⟨h1, m, hm⟩ := hf
  exact like_any (ba s) (ba p) m w (by simpa [ba, ByteArray.size] using hs) (by simpa [ba, ByteArray.size] using hp) h1 hm
theorem likeC_no {a : GV} {s : List UInt8} (h : ∀ x, a ≠ .pl (.str x)) : likeC a s = .inr 16 := by
  unfold likeC
  split
  · exact absurd rfl (h _)
  · rfl
theorem notC_no {a : GV} (h : ∀ x, a ≠ .pl (.bool x)) : notC a = .inr 16 := by
  unfold notC
  split
  · exact absurd rfl (h _)
  · rfl
theorem negC_no {a : GV} (h : ∀ x, a ≠ .pl (.long x)) : negC a = .inr 16 := by
  unfold negC
  split
  · exact absurd rfl (h _)
  · rfl

set_option maxHeartbeats 8000000 in
set_option maxRecDepth 1000000 in
theorem one_any13 (lo : Option Addr) (gs : List E4) (c : Nat) (D : EvD) (k : Int) (b : Bool) (m : Int) (s : List UInt8) (st si : ByteArray) (eo : Option Addr) (el ec : Nat) (a : GV) (va : Value) (w : World) (hE : EW w lo gs D) (ha : IsC w a va) (hs : s.length < 4294967281) :
    Calls Tryz.prog 25 #[wV lo gs.length c D, .agg #[.int .i64 k, .bool b, .int .i64 m, .string (ba s), .string st, .string si, .slice eo el ec], va] w fun e w' => RetC w' (oneC D k s a) e ∧ Below w.heap.size w w' := by
  obtain ⟨N, hN⟩ : ∃ N, N = gs.length := ⟨_, rfl⟩
  have CG := fun w' (hb : Below w.heap.size w w') => get13_any lo gs c D a va (ba s) w' (hE.below hb) (ha.below hb)
  have CL := fun (x : List UInt8) w' (hb : Below w.heap.size w w') (hx : x.length < 4294967281) => like13 x s w' (hE.fit.below hb) hx hs
  rw [← hN] at CG ⊢
  clear hN hE hs
  obtain ⟨r, hr⟩ : ∃ r, r = oneC D k s a := ⟨_, rfl⟩
  rw [← hr]
  have HR := hide hr
  clear hr
  obtain ⟨sb, hsb⟩ : ∃ sb, sb = ba s := ⟨_, rfl⟩
  rw [← hsb] at CG CL ⊢
  have HSB := hide hsb
  clear hsb
  obtain ⟨b1, z1, k1, k2⟩ := ev2 w (wO lo N c D) (.cells #[.int .i64 k, .bool b, .int .i64 m, .string sb, .string st, .string si, .slice eo el ec] 35)
  unfold wV at *
  unfold wO at b1 k1 k2 z1
  have CW := cwhere_any
  by_cases h7 : k = 7
  · subst h7
    have HX := hide ((unhide HR).trans (show oneC D 7 s a = getC D.ps a (ba s) from rfl))
    rw [← unhide HSB] at HX
    clear CL CW
    go_enter Tryz.func25, Tryz.ntmps25
    go_upto_region 1 with fail
    generalize (w.alloc _).alloc _ = w1 at *
    have cw0 : w1.cell? ⟨w.heap.size, 0, none⟩ = some (.slice lo N c) := by rw [Lib.cell_of_heap k1]; rfl
    have cw1 : w1.cell? ⟨w.heap.size, 1, none⟩ = some (.string D.p.t) := by rw [Lib.cell_of_heap k1]; rfl
    have cw2 : w1.cell? ⟨w.heap.size, 2, none⟩ = some (.string D.p.i) := by rw [Lib.cell_of_heap k1]; rfl
    have cw3 : w1.cell? ⟨w.heap.size, 3, none⟩ = some (.string D.a.t) := by rw [Lib.cell_of_heap k1]; rfl
    have cw4 : w1.cell? ⟨w.heap.size, 4, none⟩ = some (.string D.a.i) := by rw [Lib.cell_of_heap k1]; rfl
    have cw5 : w1.cell? ⟨w.heap.size, 5, none⟩ = some (.string D.r.t) := by rw [Lib.cell_of_heap k1]; rfl
    have cw6 : w1.cell? ⟨w.heap.size, 6, none⟩ = some (.string D.r.i) := by rw [Lib.cell_of_heap k1]; rfl
    have ce0 : w1.cell? ⟨w.heap.size + 1, 0, none⟩ = some (.int .i64 7) := by rw [Lib.cell_of_heap k2]; rfl
    have ce1 : w1.cell? ⟨w.heap.size + 1, 1, none⟩ = some (.bool b) := by rw [Lib.cell_of_heap k2]; rfl
    have ce2 : w1.cell? ⟨w.heap.size + 1, 2, none⟩ = some (.int .i64 m) := by rw [Lib.cell_of_heap k2]; rfl
    have ce3 : w1.cell? ⟨w.heap.size + 1, 3, none⟩ = some (.string sb) := by rw [Lib.cell_of_heap k2]; rfl
    have ce4 : w1.cell? ⟨w.heap.size + 1, 4, none⟩ = some (.string st) := by rw [Lib.cell_of_heap k2]; rfl
    have ce5 : w1.cell? ⟨w.heap.size + 1, 5, none⟩ = some (.string si) := by rw [Lib.cell_of_heap k2]; rfl
    have ce6 : w1.cell? ⟨w.heap.size + 1, 6, none⟩ = some (.slice eo el ec) := by rw [Lib.cell_of_heap k2]; rfl
    have C := CG w1 b1
    clear CG
    go_wp2_with fail
    refine C.mono ?_
    rintro e w3 ⟨⟨v, kk, rfl, hrc⟩, b3⟩
    have H3 := hide hrc
    clear hrc C
    go_wp2
    go_ret2
    refine ⟨⟨_, _, rfl, ?_⟩, b1.trans (b3.mono b1.size)⟩
    rw [unhide HX]
    exact unhide H3
  have g7 := ne_beq h7
  by_cases h8 : k = 8
  · subst h8
    have HX := hide ((unhide HR).trans (show oneC D 8 s a = hasC D.ps a (ba s) from rfl))
    rw [← unhide HSB] at HX
    clear CL h7
    go_enter Tryz.func25, Tryz.ntmps25
    go_upto_region 1 with fail
    generalize (w.alloc _).alloc _ = w1 at *
    have cw0 : w1.cell? ⟨w.heap.size, 0, none⟩ = some (.slice lo N c) := by rw [Lib.cell_of_heap k1]; rfl
    have cw1 : w1.cell? ⟨w.heap.size, 1, none⟩ = some (.string D.p.t) := by rw [Lib.cell_of_heap k1]; rfl
    have cw2 : w1.cell? ⟨w.heap.size, 2, none⟩ = some (.string D.p.i) := by rw [Lib.cell_of_heap k1]; rfl
    have cw3 : w1.cell? ⟨w.heap.size, 3, none⟩ = some (.string D.a.t) := by rw [Lib.cell_of_heap k1]; rfl
    have cw4 : w1.cell? ⟨w.heap.size, 4, none⟩ = some (.string D.a.i) := by rw [Lib.cell_of_heap k1]; rfl
    have cw5 : w1.cell? ⟨w.heap.size, 5, none⟩ = some (.string D.r.t) := by rw [Lib.cell_of_heap k1]; rfl
    have cw6 : w1.cell? ⟨w.heap.size, 6, none⟩ = some (.string D.r.i) := by rw [Lib.cell_of_heap k1]; rfl
    have ce0 : w1.cell? ⟨w.heap.size + 1, 0, none⟩ = some (.int .i64 8) := by rw [Lib.cell_of_heap k2]; rfl
    have ce1 : w1.cell? ⟨w.heap.size + 1, 1, none⟩ = some (.bool b) := by rw [Lib.cell_of_heap k2]; rfl
    have ce2 : w1.cell? ⟨w.heap.size + 1, 2, none⟩ = some (.int .i64 m) := by rw [Lib.cell_of_heap k2]; rfl
    have ce3 : w1.cell? ⟨w.heap.size + 1, 3, none⟩ = some (.string sb) := by rw [Lib.cell_of_heap k2]; rfl
    have ce4 : w1.cell? ⟨w.heap.size + 1, 4, none⟩ = some (.string st) := by rw [Lib.cell_of_heap k2]; rfl
    have ce5 : w1.cell? ⟨w.heap.size + 1, 5, none⟩ = some (.string si) := by rw [Lib.cell_of_heap k2]; rfl
    have ce6 : w1.cell? ⟨w.heap.size + 1, 6, none⟩ = some (.slice eo el ec) := by rw [Lib.cell_of_heap k2]; rfl
    have C := CG w1 b1
    clear CG
    go_wp2_with fail
    refine C.mono ?_
    rintro e w3 ⟨⟨v, kk, rfl, hrc⟩, b3⟩
    have H3 := hide hrc.err
    have B3 := b1.trans (b3.mono b1.size)
    clear hrc C
    by_cases e16 : kk = 16
    · subst e16
      have C := CW false false w3
      clear CW
      go_wp2_with fail
      refine C.mono ?_
      rintro e w9 ⟨⟨v9, kk9, rfl, hrc⟩, b9⟩
      have H9 := hide hrc
      clear hrc C
      go_wp2
      go_ret2
      refine ⟨⟨_, _, rfl, ?_⟩, B3.trans (b9.mono B3.size)⟩
      have := unhide H9
      rw [unhide HX]
      unfold hasC
      rw [← unhide H3, if_pos rfl]
      exact this
    have g16 : (kk != 16) = true := by simpa using e16
    by_cases e0 : kk = 0
    · subst e0
      have C := CW true true w3
      clear CW
      go_wp2_with fail
      refine C.mono ?_
      rintro e w9 ⟨⟨v9, kk9, rfl, hrc⟩, b9⟩
      have H9 := hide hrc
      clear hrc C
      go_wp2
      go_ret2
      refine ⟨⟨_, _, rfl, ?_⟩, B3.trans (b9.mono B3.size)⟩
      have := unhide H9
      rw [unhide HX]
      unfold hasC
      rw [← unhide H3, if_neg (by decide)]
      exact this
    have g0 := ne_beq e0
    have C := CW true false w3
    clear CW
    go_wp2_with fail
    refine C.mono ?_
    rintro e w9 ⟨⟨v9, kk9, rfl, hrc⟩, b9⟩
    have H9 := hide hrc
    clear hrc C
    go_wp2
    go_ret2
    refine ⟨⟨_, _, rfl, ?_⟩, B3.trans (b9.mono B3.size)⟩
    have := unhide H9
    rw [unhide HX]
    unfold hasC
    rw [← unhide H3, if_neg e16, g0]
    exact this
  have g8 := ne_beq h8
  clear CG
  by_cases h10 : k = 10
  · subst h10
    have HX := hide ((unhide HR).trans (show oneC D 10 s a = likeC a s from rfl))
    clear h7 h8
    have T := ct_str
    rcases c_str ha with ⟨y, rfl, rfl, hy⟩ | ⟨hna, S, x, rfl, TA⟩
    · clear ha
      go_enter Tryz.func25, Tryz.ntmps25
      go_upto_region 1 with fail
      generalize (w.alloc _).alloc _ = w1 at *
      have ce0 : w1.cell? ⟨w.heap.size + 1, 0, none⟩ = some (.int .i64 10) := by rw [Lib.cell_of_heap k2]; rfl
      have ce1 : w1.cell? ⟨w.heap.size + 1, 1, none⟩ = some (.bool b) := by rw [Lib.cell_of_heap k2]; rfl
      have ce2 : w1.cell? ⟨w.heap.size + 1, 2, none⟩ = some (.int .i64 m) := by rw [Lib.cell_of_heap k2]; rfl
      have ce3 : w1.cell? ⟨w.heap.size + 1, 3, none⟩ = some (.string sb) := by rw [Lib.cell_of_heap k2]; rfl
      have ce4 : w1.cell? ⟨w.heap.size + 1, 4, none⟩ = some (.string st) := by rw [Lib.cell_of_heap k2]; rfl
      have ce5 : w1.cell? ⟨w.heap.size + 1, 5, none⟩ = some (.string si) := by rw [Lib.cell_of_heap k2]; rfl
      have ce6 : w1.cell? ⟨w.heap.size + 1, 6, none⟩ = some (.slice eo el ec) := by rw [Lib.cell_of_heap k2]; rfl
      have C := CL (y) w1 b1 hy
      clear CL
      rw [show likeC (.pl (.str y)) s = boolC (likeL s y false []) from rfl] at HX
      generalize likeL s y false [] = z at *
      generalize ba y = by_ at *
      clear hy
      go_wp2_with fail
      refine C.mono ?_
      rintro e w3 ⟨rfl, b3⟩
      have B3 := b1.trans (b3.mono b1.size)
      clear C
      have C := CW true z w3
      clear CW
      go_wp2_with fail
      refine C.mono ?_
      rintro e w9 ⟨⟨v9, kk9, rfl, hrc⟩, b9⟩
      have H9 := hide hrc
      clear hrc C
      go_wp2
      go_ret2
      refine ⟨⟨_, _, rfl, ?_⟩, B3.trans (b9.mono B3.size)⟩
      rw [unhide HX]
      exact unhide H9
    · have HX := hide ((unhide HX).trans (likeC_no hna))
      clear ha hna T
      go_enter Tryz.func25, Tryz.ntmps25
      go_upto_region 1 with fail
      generalize (w.alloc _).alloc _ = w1 at *
      have ce0 : w1.cell? ⟨w.heap.size + 1, 0, none⟩ = some (.int .i64 10) := by rw [Lib.cell_of_heap k2]; rfl
      have ce1 : w1.cell? ⟨w.heap.size + 1, 1, none⟩ = some (.bool b) := by rw [Lib.cell_of_heap k2]; rfl
      have ce2 : w1.cell? ⟨w.heap.size + 1, 2, none⟩ = some (.int .i64 m) := by rw [Lib.cell_of_heap k2]; rfl
      have ce3 : w1.cell? ⟨w.heap.size + 1, 3, none⟩ = some (.string sb) := by rw [Lib.cell_of_heap k2]; rfl
      have ce4 : w1.cell? ⟨w.heap.size + 1, 4, none⟩ = some (.string st) := by rw [Lib.cell_of_heap k2]; rfl
      have ce5 : w1.cell? ⟨w.heap.size + 1, 5, none⟩ = some (.string si) := by rw [Lib.cell_of_heap k2]; rfl
      have ce6 : w1.cell? ⟨w.heap.size + 1, 6, none⟩ = some (.slice eo el ec) := by rw [Lib.cell_of_heap k2]; rfl
      have C := CL ([]) w1 b1 (by decide)
      clear CL
      rw [show (ba [] : ByteArray) = ⟨#[]⟩ from rfl] at C
      generalize likeL s [] false [] = z at *
      go_wp2_with fail
      refine C.mono ?_
      rintro e w3 ⟨rfl, b3⟩
      have B3 := b1.trans (b3.mono b1.size)
      clear C
      have C := CW false z w3
      clear CW
      go_wp2_with fail
      refine C.mono ?_
      rintro e w9 ⟨⟨v9, kk9, rfl, hrc⟩, b9⟩
      have H9 := hide hrc
      clear hrc C
      go_wp2
      go_ret2
      refine ⟨⟨_, _, rfl, ?_⟩, B3.trans (b9.mono B3.size)⟩
      rw [unhide HX]
      exact unhide H9
  have g10 := ne_beq h10
  clear CL
  by_cases h11 : k = 11
  · subst h11
    have HX := hide ((unhide HR).trans (show oneC D 11 s a = notC a from rfl))
    clear h7 h8 h10
    have T := ct_truth
    rcases c_bool ha with ⟨y, rfl, rfl⟩ | ⟨hna, S, x, rfl, TA⟩
    · clear ha
      go_enter Tryz.func25, Tryz.ntmps25
      go_upto_region 1 with fail
      generalize (w.alloc _).alloc _ = w1 at *
      have ce0 : w1.cell? ⟨w.heap.size + 1, 0, none⟩ = some (.int .i64 11) := by rw [Lib.cell_of_heap k2]; rfl
      have ce1 : w1.cell? ⟨w.heap.size + 1, 1, none⟩ = some (.bool b) := by rw [Lib.cell_of_heap k2]; rfl
      have ce2 : w1.cell? ⟨w.heap.size + 1, 2, none⟩ = some (.int .i64 m) := by rw [Lib.cell_of_heap k2]; rfl
      have ce3 : w1.cell? ⟨w.heap.size + 1, 3, none⟩ = some (.string sb) := by rw [Lib.cell_of_heap k2]; rfl
      have ce4 : w1.cell? ⟨w.heap.size + 1, 4, none⟩ = some (.string st) := by rw [Lib.cell_of_heap k2]; rfl
      have ce5 : w1.cell? ⟨w.heap.size + 1, 5, none⟩ = some (.string si) := by rw [Lib.cell_of_heap k2]; rfl
      have ce6 : w1.cell? ⟨w.heap.size + 1, 6, none⟩ = some (.slice eo el ec) := by rw [Lib.cell_of_heap k2]; rfl
      have C := CW true (!y) w1
      clear CW
      go_wp2_with fail
      refine C.mono ?_
      rintro e w9 ⟨⟨v9, kk9, rfl, hrc⟩, b9⟩
      have H9 := hide hrc
      clear hrc C
      go_wp2
      go_ret2
      refine ⟨⟨_, _, rfl, ?_⟩, b1.trans (b9.mono b1.size)⟩
      rw [unhide HX]
      exact unhide H9
    · have HX := hide ((unhide HX).trans (notC_no hna))
      clear ha hna T
      go_enter Tryz.func25, Tryz.ntmps25
      go_upto_region 1 with fail
      generalize (w.alloc _).alloc _ = w1 at *
      have ce0 : w1.cell? ⟨w.heap.size + 1, 0, none⟩ = some (.int .i64 11) := by rw [Lib.cell_of_heap k2]; rfl
      have ce1 : w1.cell? ⟨w.heap.size + 1, 1, none⟩ = some (.bool b) := by rw [Lib.cell_of_heap k2]; rfl
      have ce2 : w1.cell? ⟨w.heap.size + 1, 2, none⟩ = some (.int .i64 m) := by rw [Lib.cell_of_heap k2]; rfl
      have ce3 : w1.cell? ⟨w.heap.size + 1, 3, none⟩ = some (.string sb) := by rw [Lib.cell_of_heap k2]; rfl
      have ce4 : w1.cell? ⟨w.heap.size + 1, 4, none⟩ = some (.string st) := by rw [Lib.cell_of_heap k2]; rfl
      have ce5 : w1.cell? ⟨w.heap.size + 1, 5, none⟩ = some (.string si) := by rw [Lib.cell_of_heap k2]; rfl
      have ce6 : w1.cell? ⟨w.heap.size + 1, 6, none⟩ = some (.slice eo el ec) := by rw [Lib.cell_of_heap k2]; rfl
      have C := CW false true w1
      clear CW
      go_wp2_with fail
      refine C.mono ?_
      rintro e w9 ⟨⟨v9, kk9, rfl, hrc⟩, b9⟩
      have H9 := hide hrc
      clear hrc C
      go_wp2
      go_ret2
      refine ⟨⟨_, _, rfl, ?_⟩, b1.trans (b9.mono b1.size)⟩
      rw [unhide HX]
      exact unhide H9
  have g11 := ne_beq h11
  by_cases h12 : k = 12
  · subst h12
    have HX := hide ((unhide HR).trans (show oneC D 12 s a = negC a from rfl))
    clear h7 h8 h10 h11
    have T := ct_long
    rcases c_long ha with ⟨y, rfl, rfl, hy⟩ | ⟨hna, S, x, rfl, TA⟩
    · clear ha
      have C1 := fun w => neg_any y hy w
      have C2 := fun w => cnumber_any (-y) w
      clear hy
      rw [show negC (.pl (.long y)) = numC (-y) from rfl] at HX
      generalize -y = z at *
      go_enter Tryz.func25, Tryz.ntmps25
      go_upto_region 1 with fail
      generalize (w.alloc _).alloc _ = w1 at *
      have ce0 : w1.cell? ⟨w.heap.size + 1, 0, none⟩ = some (.int .i64 12) := by rw [Lib.cell_of_heap k2]; rfl
      have ce1 : w1.cell? ⟨w.heap.size + 1, 1, none⟩ = some (.bool b) := by rw [Lib.cell_of_heap k2]; rfl
      have ce2 : w1.cell? ⟨w.heap.size + 1, 2, none⟩ = some (.int .i64 m) := by rw [Lib.cell_of_heap k2]; rfl
      have ce3 : w1.cell? ⟨w.heap.size + 1, 3, none⟩ = some (.string sb) := by rw [Lib.cell_of_heap k2]; rfl
      have ce4 : w1.cell? ⟨w.heap.size + 1, 4, none⟩ = some (.string st) := by rw [Lib.cell_of_heap k2]; rfl
      have ce5 : w1.cell? ⟨w.heap.size + 1, 5, none⟩ = some (.string si) := by rw [Lib.cell_of_heap k2]; rfl
      have ce6 : w1.cell? ⟨w.heap.size + 1, 6, none⟩ = some (.slice eo el ec) := by rw [Lib.cell_of_heap k2]; rfl
      have C1 := C1 w1
      go_wp2_with fail
      refine C1.mono ?_
      rintro e w3 ⟨rfl, rfl⟩
      have C := C2 w3
      clear CW C1 C2
      go_wp2_with fail
      refine C.mono ?_
      rintro e w9 ⟨⟨v9, kk9, rfl, hrc⟩, b9⟩
      have H9 := hide hrc
      clear hrc C
      go_wp2
      go_ret2
      refine ⟨⟨_, _, rfl, ?_⟩, b1.trans (b9.mono b1.size)⟩
      rw [unhide HX]
      exact unhide H9
    · have HX := hide ((unhide HX).trans (negC_no hna))
      clear ha hna T
      go_enter Tryz.func25, Tryz.ntmps25
      go_upto_region 1 with fail
      generalize (w.alloc _).alloc _ = w1 at *
      have ce0 : w1.cell? ⟨w.heap.size + 1, 0, none⟩ = some (.int .i64 12) := by rw [Lib.cell_of_heap k2]; rfl
      have ce1 : w1.cell? ⟨w.heap.size + 1, 1, none⟩ = some (.bool b) := by rw [Lib.cell_of_heap k2]; rfl
      have ce2 : w1.cell? ⟨w.heap.size + 1, 2, none⟩ = some (.int .i64 m) := by rw [Lib.cell_of_heap k2]; rfl
      have ce3 : w1.cell? ⟨w.heap.size + 1, 3, none⟩ = some (.string sb) := by rw [Lib.cell_of_heap k2]; rfl
      have ce4 : w1.cell? ⟨w.heap.size + 1, 4, none⟩ = some (.string st) := by rw [Lib.cell_of_heap k2]; rfl
      have ce5 : w1.cell? ⟨w.heap.size + 1, 5, none⟩ = some (.string si) := by rw [Lib.cell_of_heap k2]; rfl
      have ce6 : w1.cell? ⟨w.heap.size + 1, 6, none⟩ = some (.slice eo el ec) := by rw [Lib.cell_of_heap k2]; rfl
      go_wp2
      go_ret2
      refine ⟨⟨_, _, rfl, ?_⟩, b1⟩
      rw [unhide HX]
      exact rc_err _ (by decide)
  have g12 := ne_beq h12
  have HX := hide (show r = .inr 13 by
    rw [unhide HR]
    unfold oneC
    rw [if_neg h7, if_neg h8, if_neg h10, if_neg h11, if_neg h12])
  clear h7 h8 h10 h11 h12 CW ha
  go_enter Tryz.func25, Tryz.ntmps25
  go_upto_region 1 with fail
  generalize (w.alloc _).alloc _ = w1 at *
  have ce0 : w1.cell? ⟨w.heap.size + 1, 0, none⟩ = some (.int .i64 k) := by rw [Lib.cell_of_heap k2]; rfl
  have ce1 : w1.cell? ⟨w.heap.size + 1, 1, none⟩ = some (.bool b) := by rw [Lib.cell_of_heap k2]; rfl
  have ce2 : w1.cell? ⟨w.heap.size + 1, 2, none⟩ = some (.int .i64 m) := by rw [Lib.cell_of_heap k2]; rfl
  have ce3 : w1.cell? ⟨w.heap.size + 1, 3, none⟩ = some (.string sb) := by rw [Lib.cell_of_heap k2]; rfl
  have ce4 : w1.cell? ⟨w.heap.size + 1, 4, none⟩ = some (.string st) := by rw [Lib.cell_of_heap k2]; rfl
  have ce5 : w1.cell? ⟨w.heap.size + 1, 5, none⟩ = some (.string si) := by rw [Lib.cell_of_heap k2]; rfl
  have ce6 : w1.cell? ⟨w.heap.size + 1, 6, none⟩ = some (.slice eo el ec) := by rw [Lib.cell_of_heap k2]; rfl
  go_wp2
  go_ret2
  refine ⟨⟨_, _, rfl, ?_⟩, b1⟩
  rw [unhide HX]
  exact rc_err _ (by decide)
end Go.Proofs.YtbbongdnnmanlaaGreat

namespace Go.Proofs.YtbbongdnnmanlaaGreat
open Go.RowKit Go.Sort

theorem infoUidV : (Tryz.prog.info? 28).map (fun i => (i.zero, i.size, i.bytes)) = some (some (.agg #[.string ⟨#[]⟩, .string ⟨#[]⟩]), 2, 32) := by kernel_rfl
theorem info_partsE {T : TypeId} {z : Value} {s b : Nat} (h : (Tryz.prog.info? T).map (fun i => (i.zero, i.size, i.bytes)) = some (some z, s, b)) : ∃ i, Tryz.prog.info? T = some i ∧ i.zero = some z ∧ i.size = s ∧ i.bytes = b := by
  cases hi : Tryz.prog.info? T with
  | none => rw [hi] at h; cases h
  | some i =>
    rw [hi] at h
    simp only [Option.map_some, Option.some.injEq, Prod.mk.injEq] at h
    exact ⟨i, rfl, h.1, h.2.1, h.2.2⟩
/-- What is told of the uids that stand there. -/
def UidsPost (w : World) (o : Option (List U2)) (e : Ending) (w' : World) : Prop := Below w.heap.size w w' ∧ ∃ lo n c b, e = .returned (.tuple #[.slice lo n c, .bool b]) ∧ (match o with
  | none => b = false
  | some us => b = true ∧ n = us.length ∧ us.length ≤ 1048576 ∧ RowG w' lo 2 (us.map U2.cells))
theorem uids_none {w w' : World} {lo : Option Addr} {n c : Nat} (h : Below w.heap.size w w') : UidsPost w none (.returned (.tuple #[.slice lo n c, .bool false])) w' := ⟨h, _, _, _, _, rfl, rfl⟩
theorem uids_some {w w' : World} {us : List U2} {lo : Option Addr} {n c : Nat} (h : Below w.heap.size w w') (hn : n = us.length) (hl : us.length ≤ 1048576) (hr : RowG w' lo 2 (us.map U2.cells)) : UidsPost w (some us) (.returned (.tuple #[.slice lo n c, .bool true])) w' := ⟨h, _, _, _, _, rfl, rfl, hn, hl, hr⟩
theorem rowG_ownE {w : World} {B n : Nat} {T : TypeId} {v : Value} {l : List (List Value)} (hn : ∀ c ∈ l, c.length = n) (h : w.ownsRow B T n v l.length l.flatten) : ∃ ao cap, v = .slice ao l.length cap ∧ RowG w ao n l ∧ l.length ≤ cap ∧ ∀ ad, ao = some ad → ad.off = 0 ∧ B ≤ ad.block := by
  rcases h.2 with ⟨hv, h0⟩ | ⟨g, cap, cur, hv, hB, hg, hcap, _, hcs, hxs⟩
  · exact ⟨none, 0, by rw [hv, h0], fun j hj => by omega, by omega, fun _ e => by cases e⟩
  · refine ⟨_, cap, hv, fun j hj => ⟨g, 0, rfl, (Array.getElem?_eq_some_iff.1 hg).1, fun c u hu => ?_⟩, hcap, fun ad e => by cases e; exact ⟨rfl, hB⟩⟩
    have hc : c < n := by
      have := (List.getElem?_eq_some_iff.1 hu).1
      rwa [hn _ (List.getElem_mem hj)] at this
    rw [Lib.cell_of_heap hg, Nat.zero_add]
    rw [← flat_get l hn j c hj hc, ← hxs, List.getElem?_take] at hu
    split at hu
    · simpa using hu
    · cases hu
theorem lenU2 (l : List U2) : ∀ c ∈ l.map U2.cells, c.length = 2 := fun c hc => by
  obtain ⟨u, _, rfl⟩ := List.mem_map.1 hc
  rfl
theorem own_rowU {w : World} {B : Nat} {v : Value} {us : List U2} (h : w.ownsRow B 28 2 v us.length (us.map U2.cells).flatten) : ∃ ao cap, v = .slice ao us.length cap ∧ RowG w ao 2 (us.map U2.cells) := by
  have h' : w.ownsRow B 28 2 v (us.map U2.cells).length (us.map U2.cells).flatten := by rw [List.length_map]; exact h
  obtain ⟨ao, cap, hv, hr, _⟩ := rowG_ownE (lenU2 us) h'
  rw [List.length_map] at hv
  exact ⟨ao, cap, hv, hr⟩
theorem isU_form {p : PV} (h : p.kind = 4) : ∃ t i, p = .uid t i := by
  cases p with
  | bool _ => cases h
  | long _ => cases h
  | str _ => cases h
  | uid t i => exact ⟨t, i, rfl⟩
theorem uidsP_none {l : List PV} {j : Nat} (hj : j < l.length) (h : l[j].kind ≠ 4) : uidsP (.set l) = none := by
  show (if l.all isU = true then some (l.map uOf) else none) = none
  rw [if_neg]
  intro h0
  exact h (of_decide_eq_true (List.all_eq_true.1 h0 _ (List.getElem_mem hj)))
theorem uidsP_some {l : List PV} (h : ∀ k (hk : k < l.length), l[k].kind = 4) : uidsP (.set l) = some (l.map uOf) := by
  show (if l.all isU = true then some (l.map uOf) else none) = some (l.map uOf)
  rw [if_pos]
  rw [List.all_eq_true]
  intro p hp
  obtain ⟨k, hk, rfl⟩ := List.mem_iff_getElem.1 hp
  exact decide_eq_true (h k hk)

set_option maxHeartbeats 8000000 in
set_option maxRecDepth 1000000 in
theorem uids_any (g : GV) (v : Value) (w : World) (h : IsC w g v) :
    Calls Tryz.prog 58 #[v] w (UidsPost w (uidsP g)) := by
  have T := ct_uid
  rcases c_uid h with ⟨t, i, rfl, rfl⟩ | ⟨hnu, S, x, rfl, TA⟩
  · clear h
    obtain ⟨b2, z2, k1, k2⟩ := ev2 w (.cells #[.string (ba t), .string (ba i)] 79) (.cells #[.string (ba t), .string (ba i)] 28)
    rw [show uidsP (.pl (.uid t i)) = some [⟨ba t, ba i⟩] from rfl]
    generalize ba t = bt at *
    generalize ba i = bi at *
    go_enter Tryz.func58, Tryz.ntmps58
    go_wp2
    generalize (w.alloc _).alloc _ = w2 at *
    go_ret2
    refine uids_some b2 (by simp) (by simp) (fun j hj => ?_)
    have j0 : j = 0 := by simpa using hj
    subst j0
    refine ⟨w.heap.size + 1, 0, by simp, by omega, fun c u hu => ?_⟩
    rw [Lib.cell_of_heap k2]
    simpa [U2.cells] using hu
  · rcases c_set h with ⟨l, ao, cp, rfl, e, hr, _, hl⟩ | ⟨hns, S2, x2, e, TB⟩
    · injection e with e1 e2
      subst e1 e2
      have TS := ct_set
      clear h hnu T
      obtain ⟨iU, hiU, hz0, hz1, hz2⟩ := info_partsE infoUidV
      obtain ⟨N, hN⟩ : ∃ N, N = l.length := ⟨_, rfl⟩
      rw [← hN] at hl ⊢ TA
      have HN := hide hN
      have HRW := hide hr
      obtain ⟨o, ho⟩ : ∃ o, o = uidsP (.set l) := ⟨_, rfl⟩
      rw [← ho]
      have HO := hide ho
      clear hN ho hr
      go_enter Tryz.func58, Tryz.ntmps58
      go_wp2
      go_loopw [6, 20] (fun kv iv wr => ∃ j : Nat, iv = .int .i64 j ∧ j ≤ N ∧ Below w.heap.size w wr ∧ (∀ k (hk : k < l.length), k < j → l[k].kind = 4) ∧ wr.ownsRow w.heap.size 28 2 kv ((l.take j).map uOf).length (((l.take j).map uOf).map U2.cells).flatten) (fun _ iv _ => N - (intOf iv).toNat)
      case atStart => exact ⟨0, by go_num, Nat.zero_le _, Below.refl _ _, fun k hk h => absurd h (Nat.not_lt_zero _), World.ownsRow_nil _ _ _ _⟩
      case round =>
        rename Value => kv
        obtain ⟨j, rfl, hj, hbw, hall, hown⟩ := hrel
        have Hown := hide hown
        have Hall := hide hall
        clear hown hall
        by_cases hlt : j < N
        · have i0 : (0 : Int) ≤ (j : Int) := by omega
          have i1 : (j : Int) < (N : Int) := by omega
          have hjl : j < l.length := by rw [← unhide HN]; exact hlt
          obtain ⟨b, off, rfl, B, hb⟩ := rowV_at (unhide HRW) hbw (j := j) (by rw [List.length_map]; exact hjl)
          rw [List.getElem_map] at B
          have HT := hide (show (l.take (j + 1)).map uOf = (l.take j).map uOf ++ [uOf l[j]] by rw [List.take_succ_eq_append_getElem hjl, List.map_append]; rfl)
          have HNO := hide (fun h => uidsP_none (l := l) (j := j) hjl h)
          have HYES := hide (show ∀ k (hk : k < l.length), k < j + 1 → l[j].kind = 4 → l[k].kind = 4 from fun k hk h1 h2 => by
            by_cases e : k = j
            · subst e; exact h2
            · exact unhide Hall k hk (by omega))
          have hlen : ((l.take j).map uOf).length = j := by rw [List.length_map, List.length_take]; omega
          obtain ⟨us, hus⟩ : ∃ us, us = (l.take j).map uOf := ⟨_, rfl⟩
          rw [← hus] at Hown HT hlen
          have HLEN := hide hlen
          clear hus hlen
          obtain ⟨p, ep⟩ : ∃ p, p = l[j] := ⟨_, rfl⟩
          rw [← ep] at B HT HNO HYES
          clear ep
          by_cases hk : p.kind = 4
          · obtain ⟨t, i, rfl⟩ := isU_form hk
            obtain ⟨a0, a1, a2, a3, a4, a5, a6⟩ := B
            simp only [ofP] at a0 a1 a2 a3 a4 a5 a6
            have HT := hide ((unhide HT).trans (show us ++ [uOf (.uid t i)] = us ++ [⟨ba t, ba i⟩] from rfl))
            have HYES := hide (fun k hk2 h1 => unhide HYES k hk2 h1 hk)
            clear hk HNO
            generalize ba t = bt at *
            generalize ba i = bi at *
            generalize ba [] = b0 at *
            obtain ⟨b4, z4, k1, k2⟩ := ev2 wr (.cells #[.int .i64 4, .bool false, .int .i64 0, .string b0, .string bt, .string bi, .slice none 0 0] 31) (.cells #[.string bt, .string bi] 28)
            have Hown4 := hide (owns_below b4 (unhide Hown))
            have bw4 := hbw.trans (b4.mono hbw.size)
            have z7 := bw4.size
            clear Hown
            go_wp2_with (at_builtin; refine wpList_append_own_at _ rfl _ _ 103 rfl w.heap.size 28 iU _ 2 32 Tryz.underlying103 hiU hz0 hz1 hz2 rfl (by decide) _ _ _ rfl (unhide Hown4) ⟨wr.heap.size + 1, 0, none⟩ 1 1 [.string bt, .string bi] rfl rfl ?p1 ?p2 ?p3 ?p4 ?p5 ?_)
            case p1 =>
              intro c u hu
              rw [Addr.add_lit, Nat.zero_add, Lib.cell_of_heap k2]
              simpa using hu
            case p2 =>
              intro u hu
              simp only [List.mem_cons, List.not_mem_nil, or_false] at hu
              rcases hu with rfl | rfl <;> rfl
            case p3 => have := unhide HLEN; unfold maxLen; omega
            case p4 => have := unhide HLEN; omega
            case p5 => first | exact z7 | simpa using z7
            intro v8 w8 hown8 hgrow _ _
            have hown8' : w8.ownsRow w.heap.size 28 2 v8 ((l.take (j + 1)).map uOf).length (((l.take (j + 1)).map uOf).map U2.cells).flatten := by
              rw [unhide HT, List.map_append, List.flatten_append, List.length_append]
              exact hown8
            have bw8 : Below w.heap.size w w8 := bw4.grown hgrow bw4.size (fun j hj => ((unhide Hown4).lt j hj).1)
            have H8 := hide hown8'
            clear hown8 hown8' hgrow Hown4 k1 k2 a0 a1 a2 a3 a4 a5 a6
            go_wp2
            go_roundw
            case rel => exact ⟨j + 1, by go_num, by omega, bw8, unhide HYES, unhide H8⟩
            case measure =>
              simp only [intOf]
              omega
          · have hkk : ((ofP p).k != 4) = true := by
              rw [ofP_k]
              have : ¬ ((p.kind : Int) = 4) := by omega
              simpa using this
            have HE := hide ((unhide HO).trans (unhide HNO hk))
            have b4 := ev1 wr (.cells #[.int .i64 (ofP p).k, .bool (ofP p).b, .int .i64 (ofP p).n, .string (ofP p).s, .string (ofP p).t, .string (ofP p).i, .slice (ofP p).lo (ofP p).ll (ofP p).lc] 31)
            have bw4 := hbw.trans (b4.mono hbw.size)
            obtain ⟨a0, a1, a2, a3, a4, a5, a6⟩ := B
            clear hk HNO HYES HT
            generalize ofP p = r at *
            go_wp2
            go_ret2
            rw [unhide HE]
            exact uids_none bw4
        · have i1 : ¬ (j : Int) < (N : Int) := by omega
          have hjN : j = N := by omega
          have HE := hide (show o = some (l.map uOf) from (unhide HO).trans (uidsP_some fun k hk => unhide Hall k hk (by rw [hjN, unhide HN]; exact hk)))
          have hown := unhide Hown
          rw [hjN, unhide HN, List.take_length] at hown
          obtain ⟨lo, c, rfl, hrow⟩ := own_rowU hown
          have HROW := hide hrow
          have HLL := hide (show (l.map uOf).length = l.length by simp)
          clear hown hrow hjN Hall
          obtain ⟨us, hus⟩ : ∃ us, us = l.map uOf := ⟨_, rfl⟩
          rw [← hus] at HE HROW HLL ⊢
          clear hus Hown
          go_wp2
          go_ret2
          rw [unhide HE]
          exact uids_some hbw rfl (by rw [unhide HLL, ← unhide HN]; exact hl) (unhide HROW)
    · injection e with e1 e2
      subst e1 e2
      have HE := hide (show uidsP g = none by
        cases g with
        | pl p =>
          cases p with
          | uid t i => exact absurd rfl (hnu t i)
          | _ => rfl
        | set l => exact absurd rfl (hns l))
      generalize uidsP g = o at *
      clear h hnu hns T
      go_enter Tryz.func58, Tryz.ntmps58
      go_wp2
      go_ret2
      rw [unhide HE]
      exact uids_none (Below.refl _ _)
end Go.Proofs.YtbbongdnnmanlaaGreat

namespace Go.Proofs.YtbbongdnnmanlaaGreat
open Go.RowKit Go.Sort

set_option maxHeartbeats 2000000 in
set_option maxRecDepth 1000000 in
theorem in1_any (lo : Option Addr) (gs : List E4) (N c : Nat) (D : EvD) (u x : U2) (b1 b2 : Nat) (w : World) (hN : N = gs.length) (hE : EW w lo gs D) (h1 : w.heap[b1]? = some (.cells #[.slice lo N c, .string D.p.t, .string D.p.i, .string D.a.t, .string D.a.i, .string D.r.t, .string D.r.i] 54 (0, 0))) (h2 : w.heap[b2]? = some (.cells #[.string u.t, .string u.i] 79 (0, 0))) :
    Calls Tryz.prog 59 #[.agg #[.string x.t, .string x.i], .pointer (some ⟨b1, 0, none⟩), .pointer (some ⟨b2, 0, none⟩)] w fun e w' => e = .returned (.bool (D.f u x)) ∧ Below w.heap.size w w' := by
  have CI := fun w' (hb : Below w.heap.size w w') => hE.inA c u x w' hb
  rw [← hN] at CI
  clear hE hN
  obtain ⟨y, hy⟩ : ∃ y, y = D.f u x := ⟨_, rfl⟩
  rw [← hy] at CI ⊢
  clear hy
  have bX := ev1 w (.cells #[.string x.t, .string x.i] 28)
  have k1 := kept_of_below bX h1
  have k2 := kept_of_below bX h2
  have k3 := alloc_heap w (.cells #[.string x.t, .string x.i] 28)
  go_enter Tryz.func59, Tryz.ntmps59
  go_upto_region 1 with fail
  generalize w.alloc _ = w1 at *
  have cw0 : w1.cell? ⟨b1, 0, none⟩ = some (.slice lo N c) := by rw [Lib.cell_of_heap k1]; rfl
  have u0 : w1.cell? ⟨b2, 0, none⟩ = some (.string u.t) := by rw [Lib.cell_of_heap k2]; rfl
  have u1 : w1.cell? ⟨b2, 1, none⟩ = some (.string u.i) := by rw [Lib.cell_of_heap k2]; rfl
  have x0 : w1.cell? ⟨w.heap.size, 0, none⟩ = some (.string x.t) := by rw [Lib.cell_of_heap k3]; rfl
  have x1 : w1.cell? ⟨w.heap.size, 1, none⟩ = some (.string x.i) := by rw [Lib.cell_of_heap k3]; rfl
  have C := CI w1 bX
  clear CI
  go_wp2_with fail
  refine C.mono ?_
  rintro e w3 ⟨rfl, b3⟩
  go_wp2
  go_ret
  exact ⟨rfl, bX.trans (b3.mono bX.size)⟩

set_option maxHeartbeats 2000000 in
set_option maxRecDepth 1000000 in
theorem idxUid_any (l : List U2) (g : U2 → Bool) (ao : Option Addr) (c b1 b2 : Nat) (w : World) (hl : l.length ≤ 1048576) (hr : RowG w ao 2 (l.map U2.cells)) (CF : ∀ x w', Below w.heap.size w w' → Calls Tryz.prog 59 #[.agg #[.string x.t, .string x.i], .pointer (some ⟨b1, 0, none⟩), .pointer (some ⟨b2, 0, none⟩)] w' fun e w'' => e = .returned (.bool (g x)) ∧ Below w'.heap.size w' w'') :
    Calls Tryz.prog 75 #[.slice ao l.length c, .func (.func 59) #[] #[.pointer (some ⟨b1, 0, none⟩), .pointer (some ⟨b2, 0, none⟩)]] w fun x w' => x = .returned (.int .i64 (idxFrom 0 (l.map g))) ∧ Below w.heap.size w w' := by
  obtain ⟨bs, hbs⟩ : ∃ bs, bs = l.map g := ⟨_, rfl⟩
  rw [← hbs]
  have hlen : bs.length = l.length := by rw [hbs]; simp
  have hget : ∀ j (h : j < l.length) (h' : j < bs.length), bs[j] = g l[j] := fun j h h' => by simp [hbs]
  have HG := hide hget
  have HLN := hide hlen
  clear hget hbs hlen
  go_enter Tryz.func75, Tryz.ntmps75
  go_wp2
  go_loopw [8] (fun iv wr => ∃ i : Nat, iv = .int .i64 i ∧ i ≤ l.length ∧ Below w.heap.size w wr ∧ idxFrom 0 bs = idxFrom i (bs.drop i)) (fun iv _ => l.length - (intOf iv).toNat)
  case atStart => exact ⟨0, by go_num, Nat.zero_le _, Below.refl _ _, by simp⟩
  case round =>
    obtain ⟨j, rfl, hj, hbw, hacc⟩ := hrel
    have Hacc := hide hacc
    clear hacc
    by_cases hlt : j < l.length
    · have i1 : (j : Int) < (l.length : Int) := by omega
      obtain ⟨b, off, rfl, hb, hc⟩ := rowG_at hr hbw hlt
      have B := AtE2.of hc
      have F := CF l[j] wr hbw
      have HX := hide (idxFrom_at bs j j (by rw [unhide HLN]; exact hlt))
      rw [unhide HG j hlt (by rw [unhide HLN]; exact hlt)] at HX
      clear hc
      obtain ⟨e, ep⟩ : ∃ e, e = l[j] := ⟨_, rfl⟩
      rw [← ep] at B F HX
      clear ep
      obtain ⟨x, hx⟩ : ∃ x, x = g e := ⟨_, rfl⟩
      rw [← hx] at F HX
      clear hx
      obtain ⟨a0, a1⟩ := B
      go_wp2_with fail
      refine F.mono ?_
      rintro e9 w2 ⟨rfl, b2⟩
      have b3 := hbw.trans (b2.mono hbw.size)
      clear F
      cases x
      · go_wp2
        go_roundw
        case rel => exact ⟨j + 1, by go_num, by omega, b3, by rw [unhide Hacc, unhide HX]; rfl⟩
        case measure =>
          simp only [intOf]
          omega
      · go_wp2
        go_ret
        exact ⟨(by first | (rw [unhide Hacc, unhide HX]; done) | (rw [unhide Hacc, unhide HX]; rfl)), b3⟩
    · have i1 : ¬ (j : Int) < (l.length : Int) := by omega
      have HE := hide (show idxFrom 0 bs = -1 by rw [unhide Hacc, List.drop_eq_nil_of_le (by rw [unhide HLN]; omega)]; rfl)
      go_wp2
      go_ret
      exact ⟨(by first | (rw [unhide HE]; done) | (rw [unhide HE]; rfl)), hbw⟩
theorem idxFrom_any (l : List U2) (g : U2 → Bool) : decide (0 ≤ idxFrom 0 (l.map g)) = l.any g := by
  rcases idxFrom_cases (l.map g) 0 with ⟨h1, h2⟩ | ⟨j, hj, h1, h2, _⟩
  · rw [h1]
    symm
    show l.any g = false
    rw [List.any_eq_false]
    intro x hx
    obtain ⟨k, hk, rfl⟩ := List.mem_iff_getElem.1 hx
    have := h2 k (by simpa using hk)
    rw [List.getElem_map] at this
    simp [this]
  · rw [h1]
    have e : l.any g = true := by
      rw [List.any_eq_true]
      refine ⟨l[j]'(by simpa using hj), List.getElem_mem _, ?_⟩
      rw [List.getElem_map] at h2
      exact h2
    rw [e]
    exact decide_eq_true (by omega)

set_option maxHeartbeats 2000000 in
set_option maxRecDepth 1000000 in
theorem conUid_any (l : List U2) (g : U2 → Bool) (ao : Option Addr) (c b1 b2 : Nat) (w : World) (hl : l.length ≤ 1048576) (hr : RowG w ao 2 (l.map U2.cells)) (CF : ∀ x w', Below w.heap.size w w' → Calls Tryz.prog 59 #[.agg #[.string x.t, .string x.i], .pointer (some ⟨b1, 0, none⟩), .pointer (some ⟨b2, 0, none⟩)] w' fun e w'' => e = .returned (.bool (g x)) ∧ Below w'.heap.size w' w'') :
    Calls Tryz.prog 61 #[.slice ao l.length c, .func (.func 59) #[] #[.pointer (some ⟨b1, 0, none⟩), .pointer (some ⟨b2, 0, none⟩)]] w fun x w' => x = .returned (.bool (l.any g)) ∧ Below w.heap.size w w' := by
  have I := idxUid_any l g ao c b1 b2 w hl hr CF
  have HA := hide (idxFrom_any l g)
  generalize idxFrom 0 (l.map g) = i at *
  clear CF
  go_enter Tryz.func61, Tryz.ntmps61
  go_wp2_with fail
  refine I.mono ?_
  rintro e w2 ⟨rfl, b2⟩
  clear I
  go_wp2
  go_ret
  exact ⟨(by first | (rw [← unhide HA]; done) | (rw [← unhide HA]; rfl)), b2⟩

theorem inC_no {f : U2 → U2 → Bool} {a b : GV} (h : ∀ t i, a ≠ .pl (.uid t i)) : inC f a b = .inr 16 := by
  unfold inC
  split
  · exact absurd rfl (h _ _)
  · rfl
theorem inC_none {f : U2 → U2 → Bool} {a b : GV} (h : uidsP b = none) : inC f a b = .inr 16 := by
  unfold inC
  rw [h]
  split
  · rename_i h0
    cases h0
  · rfl
theorem inC_some {f : U2 → U2 → Bool} {t i : List UInt8} {b : GV} {us : List U2} (h : uidsP b = some us) : inC f (.pl (.uid t i)) b = boolC (us.any fun x => f ⟨ba t, ba i⟩ x) := by
  unfold inC
  rw [h]

set_option maxHeartbeats 4000000 in
set_option maxRecDepth 1000000 in
theorem in13_any (lo : Option Addr) (gs : List E4) (c : Nat) (D : EvD) (a b : GV) (va vb : Value) (w : World) (hE : EW w lo gs D) (ha : IsC w a va) (hb : IsC w b vb) :
    Calls Tryz.prog 39 #[wV lo gs.length c D, va, vb] w fun e w' => RetC w' (inC D.f a b) e ∧ Below w.heap.size w w' := by
  have T := ct_uid
  obtain ⟨N, hN⟩ : ∃ N, N = gs.length := ⟨_, rfl⟩
  have CU := fun w' (h : Below w.heap.size w w') => uids_any b vb w' (hb.below h)
  clear hb
  have HE := hide hE
  clear hE
  have HN := hide hN
  rw [← hN]
  clear hN
  rcases c_uid ha with ⟨t, i, rfl, rfl⟩ | ⟨hna, S, x, rfl, TA⟩
  · clear ha
    obtain ⟨b3, z3, k1, k2⟩ := ev2 w (wO lo N c D) (.cells #[.string (ba t), .string (ba i)] 79)
    unfold wV
    unfold wO at b3 k1 k2 z3
    have HS := hide (fun us h => inC_some (f := D.f) (t := t) (i := i) (b := b) (us := us) h)
    have HNO := hide (fun h => inC_none (f := D.f) (a := .pl (.uid t i)) (b := b) h)
    obtain ⟨r, hr⟩ : ∃ r, r = inC D.f (.pl (.uid t i)) b := ⟨_, rfl⟩
    rw [← hr] at HS HNO ⊢
    clear hr
    generalize ba t = bt at *
    generalize ba i = bi at *
    go_enter Tryz.func39, Tryz.ntmps39
    go_upto_region 2 with fail
    generalize (w.alloc _).alloc _ = w3 at *
    have C := CU w3 b3
    clear CU
    go_wp2_with fail
    refine C.mono ?_
    rintro e w4 ⟨b4, uo, un, uc, ub, rfl, hu⟩
    have B4 := b3.trans (b4.mono b3.size)
    have k14 := kept_of_below b4 k1
    have k24 := kept_of_below b4 k2
    clear C
    cases ho : uidsP b with
    | none =>
      rw [ho] at hu
      have hu : ub = false := hu
      subst hu
      have HX := hide (unhide HNO ho)
      clear ho HNO HS
      go_wp2
      go_ret2
      refine ⟨⟨_, _, rfl, ?_⟩, B4⟩
      rw [unhide HX]
      exact rc_err _ (by decide)
    | some us =>
      rw [ho] at hu
      obtain ⟨rfl, hul, hus, hrow⟩ : ub = true ∧ un = us.length ∧ us.length ≤ 1048576 ∧ RowG w4 uo 2 (us.map U2.cells) := hu
      have HX := hide (unhide HS us ho)
      have CC := conUid_any us (fun x => D.f ⟨bt, bi⟩ x) uo uc w.heap.size (w.heap.size + 1) w4 hus hrow (fun x w' hw' => in1_any lo gs N c D ⟨bt, bi⟩ x w.heap.size (w.heap.size + 1) w' (unhide HN) ((unhide HE).below (B4.trans (hw'.mono B4.size))) (kept_of_below hw' k14) (kept_of_below hw' k24))
      rw [← hul] at CC
      generalize (us.any fun x => D.f ⟨bt, bi⟩ x) = y at *
      clear ho HNO HS hul hus hrow
      go_wp2_with fail
      refine CC.mono ?_
      rintro e w5 ⟨rfl, b5⟩
      clear CC
      go_wp2
      go_ret2
      refine ⟨⟨_, _, rfl, ?_⟩, B4.trans (b5.mono B4.size)⟩
      rw [unhide HX]
      exact rc_bool _ _
  · rw [inC_no hna]
    clear ha hna
    obtain ⟨b3, z3, k1, k2⟩ := ev2 w (wO lo N c D) (.cells #[.string ⟨#[]⟩, .string ⟨#[]⟩] 79)
    unfold wV
    unfold wO at b3 k1 k2 z3
    clear k1 k2 z3
    go_enter Tryz.func39, Tryz.ntmps39
    go_upto_region 2 with fail
    generalize (w.alloc _).alloc _ = w3 at *
    have C := CU w3 b3
    clear CU
    go_wp2_with fail
    refine C.mono ?_
    rintro e w4 ⟨b4, uo, un, uc, ub, rfl, _⟩
    have B4 := b3.trans (b4.mono b3.size)
    clear C
    go_wp2
    go_ret2
    exact ⟨⟨_, _, rfl, rc_err _ (by decide)⟩, B4⟩
end Go.Proofs.YtbbongdnnmanlaaGreat
