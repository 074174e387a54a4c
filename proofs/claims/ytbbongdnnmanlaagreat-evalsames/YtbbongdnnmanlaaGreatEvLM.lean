/-
  Package eval: ofTwo.
  Package eval: ofSet.
-/
import Derived.Test.YtbbongdnnmanlaaGreatEvGK
namespace Go.Proofs.YtbbongdnnmanlaaGreat
open Go.RowKit Go.Sort

theorem holdsC_no {a b : GV} (h : ∀ l, a ≠ .set l) : holdsC a b = .inr 16 := by
  cases a with
  | pl p => rfl
  | set l => exact absurd rfl (h l)

set_option maxHeartbeats 8000000 in
set_option maxRecDepth 1000000 in
theorem two13_any (lo : Option Addr) (gs : List E4) (c : Nat) (D : EvD) (k : Int) (a b : GV) (va vb : Value) (w : World) (hE : EW w lo gs D) (ha : IsC w a va) (hb : IsC w b vb) :
    Calls Tryz.prog 26 #[wV lo gs.length c D, .int .i64 k, va, vb] w fun e w' => RetC w' (twoC D k a b) e ∧ Below w.heap.size w w' := by
  obtain ⟨N, hN⟩ : ∃ N, N = gs.length := ⟨_, rfl⟩
  have CI := fun w' (h : Below w.heap.size w w') => in13_any lo gs c D a b va vb w' (hE.below h) (ha.below h) (hb.below h)
  have CN := fun w' (h : Below w.heap.size w w') => numbers_any k a b va vb w' (ha.below h) (hb.below h)
  rw [← hN] at CI ⊢
  clear hN hE
  obtain ⟨r, hr⟩ : ∃ r, r = twoC D k a b := ⟨_, rfl⟩
  rw [← hr]
  have HR := hide hr
  clear hr
  have b1 := ev1 w (wO lo N c D)
  have k1 := alloc_heap w (wO lo N c D)
  unfold wV at *
  unfold wO at b1 k1
  have CW := cwhere_any
  by_cases h9 : k = 9
  · subst h9
    have HX := hide ((unhide HR).trans (show twoC D 9 a b = holdsC a b from rfl))
    clear CI CN
    obtain ⟨Tb, fb, xb, Rb, rfl, gB, sB, nB, mB, eB, CB⟩ := c_value hb
    clear hb
    have TS := ct_set
    rcases c_set ha with ⟨l, ao, cp, rfl, rfl, hrow, _, hl⟩ | ⟨hna, S, x, rfl, TA⟩
    · rw [show holdsC (.set l) b = boolC (hasG l b) from rfl] at HX
      have CS := fun w' => csetVal_any ao l.length cp w'
      have CH := fun w' (h : Below w.heap.size w w') => holds_G l b Rb ao cp w' hl (hrow.below h) (gB.below h) sB
      generalize hasG l b = y at *
      clear ha hrow gB sB hl
      generalize l.length = n at *
      unfold setR R7.val at CS CH
      unfold R7.val at CB
      simp only at CS CH
      go_enter Tryz.func26, Tryz.ntmps26
      go_upto_region 1 with fail
      generalize w.alloc _ = w1 at *
      have C := CS w1
      go_wp2_with fail
      refine C.mono ?_
      rintro e3 w3 ⟨rfl, b3⟩
      have B3 := b1.trans (b3.mono b1.size)
      clear C
      have C := CB w3
      go_wp2_with fail
      refine C.mono ?_
      rintro e4 w4 ⟨rfl, b4⟩
      have B4 := B3.trans (b4.mono B3.size)
      clear C
      have C := CH w4 B4
      go_wp2_with fail
      refine C.mono ?_
      rintro e5 w5 ⟨rfl, b5⟩
      have B5 := B4.trans (b5.mono B4.size)
      clear C
      clear CS CB CH
      have C := CW true y w5
      go_wp2_with fail
      refine C.mono ?_
      rintro e9 w9 ⟨⟨v9, kk9, rfl, hrc⟩, b9⟩
      have H9 := hide hrc
      clear hrc C
      go_wp2
      go_ret2
      refine ⟨⟨_, _, rfl, ?_⟩, B5.trans (b9.mono B5.size)⟩
      rw [unhide HX]
      exact unhide H9
    · have HX := hide ((unhide HX).trans (holdsC_no hna))
      have CS := fun w' => csetVal_any none 0 0 w'
      have CH := fun w' (h : Below w.heap.size w w') => holds_G [] b Rb none 0 w' (by simp) (fun j hj => absurd hj (Nat.not_lt_zero _)) (gB.below h) sB
      clear ha hna gB sB
      unfold setR R7.val at CS CH
      unfold R7.val at CB
      simp only [List.length_nil] at CS CH
      generalize hasG [] b = y at *
      go_enter Tryz.func26, Tryz.ntmps26
      go_upto_region 1 with fail
      generalize w.alloc _ = w1 at *
      have C := CS w1
      go_wp2_with fail
      refine C.mono ?_
      rintro e3 w3 ⟨rfl, b3⟩
      have B3 := b1.trans (b3.mono b1.size)
      clear C
      have C := CB w3
      go_wp2_with fail
      refine C.mono ?_
      rintro e4 w4 ⟨rfl, b4⟩
      have B4 := B3.trans (b4.mono B3.size)
      clear C
      have C := CH w4 B4
      go_wp2_with fail
      refine C.mono ?_
      rintro e5 w5 ⟨rfl, b5⟩
      have B5 := B4.trans (b5.mono B4.size)
      clear C
      clear CS CB CH
      have C := CW false y w5
      go_wp2_with fail
      refine C.mono ?_
      rintro e9 w9 ⟨⟨v9, kk9, rfl, hrc⟩, b9⟩
      have H9 := hide hrc
      clear hrc C
      go_wp2
      go_ret2
      refine ⟨⟨_, _, rfl, ?_⟩, B5.trans (b9.mono B5.size)⟩
      rw [unhide HX]
      exact unhide H9
  have g9 := ne_beq h9
  clear CW
  by_cases h20 : k = 20
  · subst h20
    have HX := hide ((unhide HR).trans (show twoC D 20 a b = boolC (sameG a b) from rfl))
    clear CI CN h9
    obtain ⟨Ta, fa, xa, Ra, rfl, gA, sA, nA, mA, eA, CA⟩ := c_value ha
    obtain ⟨Tb, fb, xb, Rb, rfl, gB, sB, nB, mB, eB, CB⟩ := c_value hb
    have CS := fun w' (h : Below w.heap.size w w') => same_G a b Ra Rb w' (gA.below h) (gB.below h) sA sB
    generalize sameG a b = y at *
    clear ha hb gA gB sA sB
    unfold R7.val at CA CB CS
    go_enter Tryz.func26, Tryz.ntmps26
    go_upto_region 1 with fail
    generalize w.alloc _ = w1 at *
    have C := CA w1
    go_wp2_with fail
    refine C.mono ?_
    rintro e3 w3 ⟨rfl, b3⟩
    have B3 := b1.trans (b3.mono b1.size)
    clear C
    have C := CB w3
    go_wp2_with fail
    refine C.mono ?_
    rintro e4 w4 ⟨rfl, b4⟩
    have B4 := B3.trans (b4.mono B3.size)
    clear C
    have C := CS w4 B4
    go_wp2_with fail
    refine C.mono ?_
    rintro e5 w5 ⟨rfl, b5⟩
    have B5 := B4.trans (b5.mono B4.size)
    clear C
    clear CA CB CS
    go_wp2
    go_ret2
    refine ⟨⟨_, _, rfl, ?_⟩, B5⟩
    rw [unhide HX]
    exact rc_bool _ _
  have g20 := ne_beq h20
  by_cases h21 : k = 21
  · subst h21
    have HX := hide ((unhide HR).trans (show twoC D 21 a b = boolC (!sameG a b) from rfl))
    clear CI CN h9 h20
    obtain ⟨Ta, fa, xa, Ra, rfl, gA, sA, nA, mA, eA, CA⟩ := c_value ha
    obtain ⟨Tb, fb, xb, Rb, rfl, gB, sB, nB, mB, eB, CB⟩ := c_value hb
    have CS := fun w' (h : Below w.heap.size w w') => same_G a b Ra Rb w' (gA.below h) (gB.below h) sA sB
    generalize sameG a b = y at *
    clear ha hb gA gB sA sB
    unfold R7.val at CA CB CS
    go_enter Tryz.func26, Tryz.ntmps26
    go_upto_region 1 with fail
    generalize w.alloc _ = w1 at *
    have C := CA w1
    go_wp2_with fail
    refine C.mono ?_
    rintro e3 w3 ⟨rfl, b3⟩
    have B3 := b1.trans (b3.mono b1.size)
    clear C
    have C := CB w3
    go_wp2_with fail
    refine C.mono ?_
    rintro e4 w4 ⟨rfl, b4⟩
    have B4 := B3.trans (b4.mono B3.size)
    clear C
    have C := CS w4 B4
    go_wp2_with fail
    refine C.mono ?_
    rintro e5 w5 ⟨rfl, b5⟩
    have B5 := B4.trans (b5.mono B4.size)
    clear C
    clear CA CB CS
    go_wp2
    go_ret2
    refine ⟨⟨_, _, rfl, ?_⟩, B5⟩
    rw [unhide HX]
    exact rc_bool _ _
  have g21 := ne_beq h21
  by_cases h22 : k = 22
  · subst h22
    have HX := hide ((unhide HR).trans (show twoC D 22 a b = inC D.f a b from rfl))
    clear CN h9 h20 h21 ha hb
    go_enter Tryz.func26, Tryz.ntmps26
    go_upto_region 1 with fail
    generalize w.alloc _ = w1 at *
    have cw0 : w1.cell? ⟨w.heap.size, 0, none⟩ = some (.slice lo N c) := by rw [Lib.cell_of_heap k1]; rfl
    have cw1 : w1.cell? ⟨w.heap.size, 1, none⟩ = some (.string D.p.t) := by rw [Lib.cell_of_heap k1]; rfl
    have cw2 : w1.cell? ⟨w.heap.size, 2, none⟩ = some (.string D.p.i) := by rw [Lib.cell_of_heap k1]; rfl
    have cw3 : w1.cell? ⟨w.heap.size, 3, none⟩ = some (.string D.a.t) := by rw [Lib.cell_of_heap k1]; rfl
    have cw4 : w1.cell? ⟨w.heap.size, 4, none⟩ = some (.string D.a.i) := by rw [Lib.cell_of_heap k1]; rfl
    have cw5 : w1.cell? ⟨w.heap.size, 5, none⟩ = some (.string D.r.t) := by rw [Lib.cell_of_heap k1]; rfl
    have cw6 : w1.cell? ⟨w.heap.size, 6, none⟩ = some (.string D.r.i) := by rw [Lib.cell_of_heap k1]; rfl
    have C := CI w1 b1
    go_wp2_with fail
    refine C.mono ?_
    rintro e9 w9 ⟨⟨v9, kk9, rfl, hrc⟩, b9⟩
    have H9 := hide hrc
    clear hrc C
    go_wp2
    go_ret2
    refine ⟨⟨_, _, rfl, ?_⟩, b1.trans (b9.mono b1.size)⟩
    rw [unhide HX]
    exact unhide H9
  have g22 := ne_beq h22
  have HX := hide (show r = numbersC k a b by
    rw [unhide HR]
    unfold twoC
    rw [if_neg h9, if_neg h20, if_neg h21, if_neg h22])
  clear CI h9 h20 h21 h22 ha hb
  go_enter Tryz.func26, Tryz.ntmps26
  go_upto_region 1 with fail
  generalize w.alloc _ = w1 at *
  have C := CN w1 b1
  go_wp2_with fail
  refine C.mono ?_
  rintro e9 w9 ⟨⟨v9, kk9, rfl, hrc⟩, b9⟩
  have H9 := hide hrc
  clear hrc C
  go_wp2
  go_ret2
  refine ⟨⟨_, _, rfl, ?_⟩, b1.trans (b9.mono b1.size)⟩
  rw [unhide HX]
  exact unhide H9
end Go.Proofs.YtbbongdnnmanlaaGreat

namespace Go.Proofs.YtbbongdnnmanlaaGreat
open Go.RowKit Go.Sort

/-- A slice of contents. -/
def RowC (w : World) (lo : Option Addr) (vs : List Value) : Prop := ∀ j (hj : j < vs.length), ∃ b off, lo = some ⟨b, off, none⟩ ∧ b < w.heap.size ∧ w.cell? ⟨b, off + j, none⟩ = some vs[j]
theorem RowC.below {w w' : World} {lo : Option Addr} {vs : List Value} (h : RowC w lo vs) (hb : Below w.heap.size w w') : RowC w' lo vs := fun j hj => by
  obtain ⟨b, off, e, hlt, hc⟩ := h j hj
  exact ⟨b, off, e, Nat.lt_of_lt_of_le hlt hb.size, (hb.cell (p := ⟨b, off + j, none⟩) hlt).trans hc⟩
def AllC (w : World) (gs : List GV) (vs : List Value) : Prop := gs.length = vs.length ∧ ∀ j (h : j < gs.length) (h' : j < vs.length), IsC w gs[j] vs[j]
theorem AllC.below {w w' : World} {gs : List GV} {vs : List Value} (h : AllC w gs vs) (hb : Below w.heap.size w w') : AllC w' gs vs := ⟨h.1, fun j h1 h2 => (h.2 j h1 h2).below hb⟩
theorem make_rowZ {P : Program} (t e : TypeId) (s by_ n : Nat) (N : Int) (ht : P.underlying t = some (.slice e)) (hi : (P.info? e).map (fun i => (i.zero.isSome, i.size, i.bytes)) = some (true, s, by_)) (hN : N = (n : Int)) (hn : n ≤ 2097152) (hb : by_ ≤ 1000) :
    ∃ rest : List Value, rest.length = n * s ∧ ∀ W : World, (Instr.makeSlice t (.int .i64 0) (.int .i64 N)).run P W = .ok (.slice (some ⟨W.heap.size, 0, none⟩) 0 n) (W.alloc (.cells rest.toArray e)) := by
  cases h : P.info? e with
  | none => rw [h] at hi; cases hi
  | some i =>
    rw [h] at hi
    simp only [Option.map_some, Option.some.injEq, Prod.mk.injEq] at hi
    obtain ⟨h1, h2, h3⟩ := hi
    obtain ⟨z, hz⟩ := Option.isSome_iff_exists.1 h1
    have hbb : (by_ : Int) * N ≤ 281474976710656 := by
      have := Nat.mul_le_mul hb hn
      rw [hN]
      omega
    refine ⟨(madeCells z.cells (n * s)).toList, by simp [size_madeCells], fun W => ?_⟩
    have := run_make (P := P) W t e i z ht h hz .i64 .i64 0 N (by omega) (by omega) (by rw [h3]; exact hbb) (by omega)
    rw [this, h2, hN]
    simp
theorem isG_kind {w : World} {g : GV} {R : R7} (h : IsG w g R) : R.k = (kindV g : Int) := by
  cases g with
  | pl p =>
    have h : R = ofP p := h
    rw [h]
    exact ofP_k p
  | set l =>
    obtain ⟨ao, c, rfl, _⟩ := h
    rfl
def AllG (w : World) (gs : List GV) (Rs : List R7) : Prop := gs.length = Rs.length ∧ ∀ j (h : j < gs.length) (h' : j < Rs.length), IsG w gs[j] Rs[j]
theorem AllG.below {w w' : World} {gs : List GV} {Rs : List R7} (h : AllG w gs Rs) (hb : Below w.heap.size w w') : AllG w' gs Rs := ⟨h.1, fun j h1 h2 => (h.2 j h1 h2).below hb⟩
theorem AllG.snoc {w : World} {gs : List GV} {Rs : List R7} {g : GV} {R : R7} (h : AllG w gs Rs) (hg : IsG w g R) : AllG w (gs ++ [g]) (Rs ++ [R]) := by
  refine ⟨by simp [h.1], fun j h1 h2 => ?_⟩
  by_cases hj : j < gs.length
  · rw [List.getElem_append_left hj, List.getElem_append_left (by rw [← h.1]; exact hj)]
    exact h.2 j hj _
  · have e : j = gs.length := by simp at h1; omega
    subst e
    rw [List.getElem_append_right (Nat.le_refl _), List.getElem_append_right (by rw [h.1]; exact Nat.le_refl _)]
    simpa using hg
/-- Of like kinds: plain values all. -/
theorem likeK_yes {w : World} {gs : List GV} {Rs : List R7} (hk : likeK gs = true) (h : AllG w gs Rs) : Rs = (plsOf gs).map ofP ∧ (∀ p ∈ plsOf gs, ∀ q ∈ plsOf gs, p.kind = q.kind) ∧ (plsOf gs).length = gs.length := by
  have hp : ∃ ps : List PV, gs = ps.map GV.pl ∧ ∀ p ∈ ps, ∀ q ∈ ps, p.kind = q.kind := by
    cases gs with
    | nil => exact ⟨[], rfl, by simp⟩
    | cons g t =>
      have hk : ((g :: t).all fun x => decide (kindV x = kindV g) && decide (kindV x ≠ 5)) = true := hk
      rw [List.all_eq_true] at hk
      have h2 : ∀ x ∈ g :: t, ∃ p, x = GV.pl p ∧ p.kind = kindV g := fun x hx => by
        have := hk x hx
        simp only [Bool.and_eq_true, decide_eq_true_eq] at this
        cases x with
        | pl p => exact ⟨p, rfl, this.1⟩
        | set l => exact absurd rfl this.2
      have h3 : ∀ l : List GV, (∀ x ∈ l, ∃ p, x = GV.pl p ∧ p.kind = kindV g) → ∃ ps : List PV, l = ps.map GV.pl ∧ ∀ p ∈ ps, p.kind = kindV g := by
        intro l
        induction l with
        | nil => exact fun _ => ⟨[], rfl, by simp⟩
        | cons x l ih =>
          intro hl
          obtain ⟨ps, e, hps⟩ := ih fun y hy => hl y (List.mem_cons_of_mem _ hy)
          obtain ⟨p, rfl, hpk⟩ := hl x List.mem_cons_self
          exact ⟨p :: ps, by rw [e]; rfl, by simp [hpk]; exact hps⟩
      obtain ⟨ps, e, hps⟩ := h3 _ h2
      exact ⟨ps, e, fun p hp q hq => (hps p hp).trans (hps q hq).symm⟩
  obtain ⟨ps, rfl, hps⟩ := hp
  have e : plsOf (ps.map GV.pl) = ps := by
    unfold plsOf
    rw [List.filterMap_map]
    exact List.filterMap_some
  rw [e]
  refine ⟨?_, hps, by simp⟩
  apply List.ext_getElem
  · have := h.1
    simp at this ⊢
    omega
  · intro j h1 h2
    have := h.2 j (by simpa using h2) h1
    rw [List.getElem_map] at this ⊢
    exact this
theorem likeK_no {w : World} {gs : List GV} {Rs : List R7} (hk : likeK gs = false) (h : AllG w gs Rs) : 0 < Rs.length ∧ ∃ (j : Nat) (hj : j < Rs.length) (h0 : 0 < Rs.length), mayB Rs[j].k Rs[0].k = false := by
  cases gs with
  | nil => cases hk
  | cons g t =>
    have hk : ((g :: t).all fun x => decide (kindV x = kindV g) && decide (kindV x ≠ 5)) = false := hk
    have hl := h.1
    have h0 : 0 < Rs.length := by rw [← hl]; simp
    rw [List.all_eq_false] at hk
    obtain ⟨x, hx, hf⟩ := hk
    obtain ⟨j, hj, rfl⟩ := List.mem_iff_getElem.1 hx
    refine ⟨h0, j, by rw [← hl]; exact hj, h0, ?_⟩
    have e1 := isG_kind (h.2 j hj (by rw [← hl]; exact hj))
    have e2 := isG_kind (h.2 0 (by simp) h0)
    simp only [List.getElem_cons_zero] at e2
    rw [e1, e2]
    unfold mayB
    simp only [Bool.and_eq_true, decide_eq_true_eq, not_and] at hf
    by_cases e5 : kindV (g :: t)[j] = 5
    · simp [e5]
    · have : ¬ ((kindV (g :: t)[j] : Int) = (kindV g : Int)) := fun h => hf (by omega) e5
      simp [this]
theorem infoValE : (Tryz.prog.info? 31).map (fun i => (i.zero, i.size, i.bytes)) = some (some (.agg #[.int .i64 0, .bool false, .int .i64 0, .string ⟨#[]⟩, .string ⟨#[]⟩, .string ⟨#[]⟩, .slice none 0 0]), 7, 96) := by kernel_rfl
theorem lenR7 (l : List R7) : ∀ c ∈ l.map R7.cells, c.length = 7 := fun c hc => by
  obtain ⟨u, _, rfl⟩ := List.mem_map.1 hc
  rfl
theorem own_rowR {w : World} {B : Nat} {v : Value} {Rs : List R7} (h : w.ownsRow B 31 7 v Rs.length (Rs.map R7.cells).flatten) : ∃ ao cap, v = .slice ao Rs.length cap ∧ RowV w ao Rs ∧ ∀ ad, ao = some ad → ad.off = 0 := by
  have h' : w.ownsRow B 31 7 v (Rs.map R7.cells).length (Rs.map R7.cells).flatten := by rw [List.length_map]; exact h
  obtain ⟨ao, cap, hv, hr, _, h4⟩ := rowG_ownE (lenR7 Rs) h'
  rw [List.length_map] at hv
  exact ⟨ao, cap, hv, rowG_V.2 hr, fun ad e => (h4 ad e).1⟩
theorem setC_yes {l : List GV} (h : likeK l = true) : setC l = if (setOf lessP (plsOf l)).length ≤ 8 then .inl (.set (setOf lessP (plsOf l))) else .inr 4 := if_pos h
theorem setC_no {l : List GV} (h : likeK l = false) : setC l = .inr 16 := by
  unfold setC
  rw [h]
  rfl
/-- What value.Set tells of a row of values of whatever kinds. -/
def SetRet (w : World) (r : EvR) (e : Ending) (w' : World) : Prop := Below w.heap.size w w' ∧ ∃ R : R7, ∃ k : Int, e = .returned (.tuple #[.agg #[.int .i64 R.k, .bool R.b, .int .i64 R.n, .string R.s, .string R.t, .string R.i, .slice R.lo R.ll R.lc], .int .i64 k]) ∧ (match r with
  | .inl g => k = 0 ∧ ∃ S, g = .set S ∧ S.length ≤ 8 ∧ R.ll = S.length ∧ RowV w' R.lo (S.map ofP) ∧ TyV w' R.lo
  | .inr e => k = e ∧ e ≠ 0)
theorem setAll_any {gs : List GV} {Rs : List R7} (ao : Option Addr) (cap : Nat) (w : World) (hl : Rs.length ≤ 1048576) (hr : RowV w ao Rs) (h : AllG w gs Rs) : Calls Tryz.prog 29 #[.slice ao Rs.length cap] w (SetRet w (setC gs)) := by
  cases hk : likeK gs with
  | false =>
    rw [setC_no hk]
    obtain ⟨h0, j, hj, h0', hm⟩ := likeK_no hk h
    refine (set_bad Rs ao cap w hl hr h0 ⟨j, hj, hm⟩).mono ?_
    rintro e w' ⟨rfl, hb⟩
    exact ⟨hb, zero7, 16, rfl, rfl, by decide⟩
  | true =>
    rw [setC_yes hk]
    obtain ⟨rfl, hps, hlen⟩ := likeK_yes hk h
    rw [List.length_map] at hl ⊢
    refine (set_plain (plsOf gs) ao cap w hl hr hps).mono ?_
    rintro e w' ⟨hb, ⟨h8, ao', c, rfl, hown⟩ | ⟨h8, rfl⟩⟩
    · rw [if_pos h8]
      refine ⟨hb, setR ao' (setOf lessP (plsOf gs)).length c, 0, rfl, rfl, _, rfl, h8, rfl, ?_⟩
      obtain ⟨ao2, cap2, hv, hrow⟩ := rowV_own hown
      injection hv with e1 _ e2
      subst e1 e2
      refine ⟨hrow, fun ad e => ?_⟩
      have e : ao' = some ad := e
      rcases hown.2 with ⟨h0, _⟩ | ⟨g, cc, cur, hv2, _, hg2, _⟩
      · injection h0 with e3
        rw [e] at e3
        cases e3
      · injection hv2 with e3
        rw [e] at e3
        injection e3 with e4
        subst e4
        exact ⟨rfl, _, _, hg2⟩
    · rw [if_neg (by omega)]
      exact ⟨hb, zero7, 4, rfl, rfl, by decide⟩

set_option maxHeartbeats 8000000 in
set_option maxRecDepth 1000000 in
theorem set13_any (gs : List GV) (vs : List Value) (lo : Option Addr) (cap n : Nat) (w : World) (hn : n = vs.length) (hl : n ≤ 100000) (hr : RowC w lo vs) (ha : AllC w gs vs) :
    Calls Tryz.prog 23 #[.slice lo n cap] w fun e w' => RetC w' (setC gs) e ∧ Below w.heap.size w w' := by
  have HRC := hide hr
  have HA := hide ha
  have HN := hide hn
  obtain ⟨r, hr2⟩ : ∃ r, r = setC gs := ⟨_, rfl⟩
  rw [← hr2]
  have HR := hide hr2
  obtain ⟨rest, hre, hmk⟩ := make_rowZ (P := Tryz.prog) 29 31 7 96 n (n : Int) Tryz.underlying29 inValueE rfl (by omega) (by decide)
  obtain ⟨iV, hiV, hz0, hz1, hz2⟩ := info_partsE infoValE
  have b2 := ev1 w (.cells rest.toArray 31)
  have own2 : (w.alloc (.cells rest.toArray 31)).ownsRow w.heap.size 31 7 (.slice (some ⟨w.heap.size, 0, none⟩) 0 n) 0 [] := ⟨rfl, .inr ⟨w.heap.size, n, _, rfl, Nat.le_refl _, alloc_heap _ _, Nat.zero_le _, by unfold maxLen; omega, by simp [hre], by simp⟩⟩
  have Hown2 := hide own2
  clear hr ha hn hr2 hre own2
  go_enter Tryz.func23, Tryz.ntmps23
  go_upto_region 2 with fail
  generalize w.alloc _ = w2 at *
  clear hmk
  go_wp2
  go_loopw [4, 14] (fun kv iv wr => ∃ (j : Nat) (Rs : List R7), iv = .int .i64 j ∧ j ≤ n ∧ Rs.length = j ∧ Below w.heap.size w wr ∧ wr.ownsRow w.heap.size 31 7 kv Rs.length (Rs.map R7.cells).flatten ∧ AllG w (gs.take j) Rs) (fun _ iv _ => n - (intOf iv).toNat)
  case atStart => exact ⟨0, [], by go_num, Nat.zero_le _, rfl, b2, unhide Hown2, rfl, fun j h => absurd h (Nat.not_lt_zero _)⟩
  case round =>
    rename Value => kv
    obtain ⟨j, Rs, rfl, hj, hlen, hbw, hown, hall⟩ := hrel
    have Hown := hide hown
    have Hall := hide hall
    have Hlen := hide hlen
    clear hown hall hlen
    by_cases hlt : j < n
    · have i0 : (0 : Int) ≤ (j : Int) := by omega
      have i1 : (j : Int) < (n : Int) := by omega
      have hjv : j < vs.length := by rw [← unhide HN]; exact hlt
      have hjg : j < gs.length := by rw [(unhide HA).1]; exact hjv
      obtain ⟨b, off, rfl, hb, hc⟩ := (unhide HRC) j hjv
      have hc := (hbw.cell (p := ⟨b, off + j, none⟩) hb).trans hc
      have hI := (unhide HA).2 j hjg hjv
      have HTK := hide (show gs.take (j + 1) = gs.take j ++ [gs[j]] from List.take_succ_eq_append_getElem hjg)
      obtain ⟨Tb, fb, xb, Rb, ev, gB, sB, nB, mB, eB, CB⟩ := c_value hI
      rw [ev] at hc
      have HG := hide gB
      clear ev hI gB sB
      unfold R7.val at CB
      have CB1 := CB wr
      go_wp2_with fail
      refine CB1.mono ?_
      rintro e3 w3 ⟨rfl, b3⟩
      have B3 := hbw.trans (b3.mono hbw.size)
      clear CB CB1 nB mB eB hc
      have b4 := ev1 w3 (.cells #[.int .i64 Rb.k, .bool Rb.b, .int .i64 Rb.n, .string Rb.s, .string Rb.t, .string Rb.i, .slice Rb.lo Rb.ll Rb.lc] 31)
      have h4 := alloc_heap w3 (.cells #[.int .i64 Rb.k, .bool Rb.b, .int .i64 Rb.n, .string Rb.s, .string Rb.t, .string Rb.i, .slice Rb.lo Rb.ll Rb.lc] 31)
      have B4 := B3.trans (b4.mono B3.size)
      have Hown4 := hide (owns_below b4 (owns_below b3 (unhide Hown)))
      have Hall4 := hide ((unhide Hall).snoc (unhide HG))
      have z7 := B4.size
      clear Hown Hall HG
      go_wp2_with (at_builtin; refine wpList_append_own_at _ rfl _ _ 29 rfl w.heap.size 31 iV _ 7 96 Tryz.underlying29 hiV hz0 hz1 hz2 rfl (by decide) _ _ _ rfl (unhide Hown4) ⟨w3.heap.size, 0, none⟩ 1 1 [.int .i64 Rb.k, .bool Rb.b, .int .i64 Rb.n, .string Rb.s, .string Rb.t, .string Rb.i, .slice Rb.lo Rb.ll Rb.lc] rfl rfl ?p1 ?p2 ?p3 ?p4 ?p5 ?_)
      case p1 =>
        intro c u hu
        rw [Addr.add_lit, Nat.zero_add, Lib.cell_of_heap h4]
        simpa using hu
      case p2 =>
        intro u hu
        simp only [List.mem_cons, List.not_mem_nil, or_false] at hu
        rcases hu with rfl | rfl | rfl | rfl | rfl | rfl | rfl <;> rfl
      case p3 => have := unhide Hlen; unfold maxLen; omega
      case p4 => have := unhide Hlen; omega
      case p5 => first | exact z7 | simpa using z7
      intro v8 w8 hown8 hgrow _ _
      have hown8' : w8.ownsRow w.heap.size 31 7 v8 (Rs ++ [Rb]).length ((Rs ++ [Rb]).map R7.cells).flatten := by
        rw [List.map_append, List.flatten_append, List.length_append]
        exact hown8
      have bw8 : Below w.heap.size w w8 := B4.grown hgrow B4.size (fun j hj => ((unhide Hown4).lt j hj).1)
      have H8 := hide hown8'
      have HALL8 := hide (show AllG w (gs.take (j + 1)) (Rs ++ [Rb]) by
        rw [unhide HTK]
        exact unhide Hall4)
      clear hown8 hown8' hgrow Hown4 Hall4 h4
      go_wp2
      go_roundw
      case rel => exact ⟨j + 1, Rs ++ [Rb], by go_num, by omega, by rw [List.length_append]; simp [unhide Hlen], bw8, unhide H8, unhide HALL8⟩
      case measure =>
        simp only [intOf]
        omega
    · have i1 : ¬ (j : Int) < (n : Int) := by omega
      have hjn : j = n := by omega
      have hall := unhide Hall
      rw [hjn, List.take_of_length_le (by rw [(unhide HA).1, unhide HN]; exact Nat.le_refl _)] at hall
      obtain ⟨ao, cp, rfl, hrow, _⟩ := own_rowR (unhide Hown)
      have C := setAll_any ao cp wr (by rw [unhide Hlen]; omega) hrow (hall.below hbw)
      rw [← unhide HR] at C
      clear hall hrow hjn Hall Hown
      generalize Rs.length = rl at *
      go_wp2_with fail
      refine C.mono ?_
      rintro e3 w3 ⟨b3, R, kk, rfl, hm⟩
      have B3 := hbw.trans (b3.mono hbw.size)
      clear C
      have b4 := ev1 w3 (.cells #[.int .i64 R.k, .bool R.b, .int .i64 R.n, .string R.s, .string R.t, .string R.i, .slice R.lo R.ll R.lc] 31)
      have B4 := B3.trans (b4.mono B3.size)
      cases r with
      | inl g =>
        obtain ⟨rfl, S, rfl, h8, hll, hrow, hoff⟩ : kk = 0 ∧ ∃ S, g = .set S ∧ S.length ≤ 8 ∧ R.ll = S.length ∧ RowV w3 R.lo (S.map ofP) ∧ TyV w3 R.lo := hm
        have HP := hide (And.intro h8 (And.intro hll (And.intro (hrow.below b4) (hoff.below b4))))
        clear h8 hll hrow hoff
        go_wp2
        go_ret2
        obtain ⟨h8, hll, hrow, hoff⟩ := unhide HP
        exact ⟨⟨_, _, rfl, rfl, by show S.length ≤ 1048576; omega, R.lo, R.lc, by rw [← hll]; rfl, hrow, hoff⟩, B4⟩
      | inr x =>
        obtain ⟨rfl, hx⟩ : kk = x ∧ x ≠ 0 := hm
        have gx : (kk == 0) = false := by simpa using hx
        have gx' : (kk != 0) = true := by simpa using hx
        have HX := hide hx
        clear hx
        go_wp2
        go_ret2
        exact ⟨⟨_, _, rfl, rc_err _ (unhide HX)⟩, B4⟩
end Go.Proofs.YtbbongdnnmanlaaGreat
