/-
  Package eval: ofNode.
  Package eval: truthOf, ofBoth, ofIf.
-/
import Derived.Test.YtbbongdnnmanlaaGreatEvLM
import Derived.Test.YtbbongdnnmanlaaGreatVeMN
namespace Go.Proofs.YtbbongdnnmanlaaGreat
open Go.RowKit Go.Sort

/-- What the slots of a region hold: values, then what a call told, taken apart twice. -/
def evSp : List Value → EvR → Nat → Value → World → Prop
  | v :: _, _, 0, u, _ => u = v
  | _ :: l, r, q + 1, u, w => evSp l r q u w
  | [], r, 0, u, w => ∃ v k, u = .tuple #[v, .int .i64 k] ∧ RC w r v k
  | [], r, 1, u, w => ∃ k, RC w r u k
  | [], r, 2, u, w => ∃ v k, u = .int .i64 k ∧ RC w r v k
  | [], r, 3, u, w => ∃ k, RC w r u k
  | [], r, 4, u, w => ∃ v k, u = .int .i64 k ∧ RC w r v k
  | [], _, _ + 5, _, _ => True
theorem evSp_up {r : EvR} {w w' : World} (hb : Below w.heap.size w w') : ∀ {l : List Value} (q : Nat) (u : Value), evSp l r q u w → evSp l r q u w'
  | _ :: _, 0, _, h => h
  | _ :: l, q + 1, u, h => evSp_up hb (l := l) q u h
  | [], 0, _, ⟨v, k, e, h⟩ => ⟨v, k, e, h.below hb⟩
  | [], 1, _, ⟨k, h⟩ => ⟨k, h.below hb⟩
  | [], 2, _, ⟨v, k, e, h⟩ => ⟨v, k, e, h.below hb⟩
  | [], 3, _, ⟨k, h⟩ => ⟨k, h.below hb⟩
  | [], 4, _, ⟨v, k, e, h⟩ => ⟨v, k, e, h.below hb⟩
  | [], _ + 5, _, _ => trivial
def kidC (D : EvD) (k : Int) (b : Bool) (n : Int) (s t i : List UInt8) (l : List GV) : EvR := match l with
  | [] => leafC D k b n s t i
  | [x] => oneC D k s x
  | [x, y] => twoC D k x y
  | _ => .inr 13
theorem nodeC_ne {D : EvD} {k : Int} {b : Bool} {n : Int} {s t i : List UInt8} {l : List GV} (h : ¬ k = 6) : nodeC D k b n s t i l = kidC D k b n s t i l := by
  unfold nodeC kidC
  rw [if_neg h]
  match l with
  | [] => rfl
  | [_] => rfl
  | [_, _] => rfl
  | _ :: _ :: _ :: _ => rfl
theorem RC.both {w : World} {r : EvR} {v v' : Value} {k k' : Int} (h : RC w r v k) (h' : RC w r v' k') : RC w r v k' := by
  cases r with
  | inl g => exact ⟨h'.1, h.2⟩
  | inr e => exact h'

set_option maxHeartbeats 8000000 in
set_option maxRecDepth 1000000 in
theorem node13_any (glo : Option Addr) (gs : List E4) (c : Nat) (D : EvD) (k : Int) (b : Bool) (m : Int) (s t i : List UInt8) (eo : Option Addr) (el ec : Nat) (kids : List GV) (vs : List Value) (lo : Option Addr) (cap n : Nat) (w : World) (hE : EW w glo gs D) (hm : InR m) (hs : s.length < 4294967281) (hn : n = vs.length) (hl : n ≤ 100000) (hr : RowC w lo vs) (ha : AllC w kids vs) :
    Calls Tryz.prog 19 #[wV glo gs.length c D, .agg #[.int .i64 k, .bool b, .int .i64 m, .string (ba s), .string (ba t), .string (ba i), .slice eo el ec], .slice lo n cap] w fun e w' => RetC w' (nodeC D k b m s t i kids) e ∧ Below w.heap.size w w' := by
  have HSET := fun w' (hb : Below w.heap.size w w') => set13_any kids vs lo cap n w' hn hl (hr.below hb) (ha.below hb)
  have HLEAF := fun w' => leaf_any glo gs.length c D k b m s t i eo el ec w' hm hs
  have HONE := fun a va w' (hb : Below w.heap.size w w') (h : IsC w a va) => one_any13 glo gs c D k b m s (ba t) (ba i) eo el ec a va w' (hE.below hb) (h.below hb) hs
  have HTWO := fun a a2 va vb w' (hb : Below w.heap.size w w') (h : IsC w a va) (h2 : IsC w a2 vb) => two13_any glo gs c D k a a2 va vb w' (hE.below hb) (h.below hb) (h2.below hb)
  obtain ⟨N, hN⟩ : ∃ N, N = gs.length := ⟨_, rfl⟩
  rw [← hN] at HLEAF HONE HTWO ⊢
  clear hN hE hm hs
  obtain ⟨r, hr2⟩ : ∃ r, r = nodeC D k b m s t i kids := ⟨_, rfl⟩
  rw [← hr2]
  have HR := hide hr2
  have HRW := hide hr
  have HA := hide ha
  have HN := hide hn
  clear hr2 hr ha hn
  obtain ⟨b1, z1, k1, k2⟩ := ev2 w (wO glo N c D) (.cells #[.int .i64 k, .bool b, .int .i64 m, .string (ba s), .string (ba t), .string (ba i), .slice eo el ec] 35)
  unfold wV at *
  unfold wO at b1 k1 k2 z1
  by_cases h6 : k = 6
  · have HX := hide ((unhide HR).trans (show nodeC D k b m s t i kids = setC kids from if_pos h6))
    subst h6
    clear HLEAF HONE HTWO
    go_enter Tryz.func19, Tryz.ntmps19
    go_upto_region 1 with fail
    generalize (w.alloc _).alloc _ = w1 at *
    have ce0 : w1.cell? ⟨w.heap.size + 1, 0, none⟩ = some (.int .i64 6) := by rw [Lib.cell_of_heap k2]; rfl
    have C := HSET w1 b1
    go_wp2_with fail
    refine C.mono ?_
    rintro e9 w9 ⟨⟨v9, kk9, rfl, hrc⟩, b9⟩
    have H9 := hide hrc
    clear hrc C
    go_wp2
    go_ret2
    refine ⟨⟨_, _, rfl, ?_⟩, b1.trans (b9.mono b1.size)⟩
    rw [unhide HX]
    exact unhide H9
  have g6 := ne_beq h6
  have HE := hide ((unhide HR).trans (nodeC_ne h6))
  clear HSET h6
  match kids, vs, unhide HA with
  | [], [], _ =>
    have n0 : n = 0 := unhide HN
    subst n0
    have HX := hide (show r = leafC D k b m s t i from unhide HE)
    clear HONE HTWO
    go_enter Tryz.func19, Tryz.ntmps19
    go_upto_region 1 with fail
    generalize (w.alloc _).alloc _ = w1 at *
    have ce0 : w1.cell? ⟨w.heap.size + 1, 0, none⟩ = some (.int .i64 k) := by rw [Lib.cell_of_heap k2]; rfl
    have cw0 : w1.cell? ⟨w.heap.size, 0, none⟩ = some (.slice glo N c) := by rw [Lib.cell_of_heap k1]; rfl
    have cw1 : w1.cell? ⟨w.heap.size, 1, none⟩ = some (.string D.p.t) := by rw [Lib.cell_of_heap k1]; rfl
    have cw2 : w1.cell? ⟨w.heap.size, 2, none⟩ = some (.string D.p.i) := by rw [Lib.cell_of_heap k1]; rfl
    have cw3 : w1.cell? ⟨w.heap.size, 3, none⟩ = some (.string D.a.t) := by rw [Lib.cell_of_heap k1]; rfl
    have cw4 : w1.cell? ⟨w.heap.size, 4, none⟩ = some (.string D.a.i) := by rw [Lib.cell_of_heap k1]; rfl
    have cw5 : w1.cell? ⟨w.heap.size, 5, none⟩ = some (.string D.r.t) := by rw [Lib.cell_of_heap k1]; rfl
    have cw6 : w1.cell? ⟨w.heap.size, 6, none⟩ = some (.string D.r.i) := by rw [Lib.cell_of_heap k1]; rfl
    have ce0 : w1.cell? ⟨w.heap.size + 1, 0, none⟩ = some (.int .i64 k) := by rw [Lib.cell_of_heap k2]; rfl
    have ce1 : w1.cell? ⟨w.heap.size + 1, 1, none⟩ = some (.bool b) := by rw [Lib.cell_of_heap k2]; rfl
    have ce2 : w1.cell? ⟨w.heap.size + 1, 2, none⟩ = some (.int .i64 m) := by rw [Lib.cell_of_heap k2]; rfl
    have ce3 : w1.cell? ⟨w.heap.size + 1, 3, none⟩ = some (.string (ba s)) := by rw [Lib.cell_of_heap k2]; rfl
    have ce4 : w1.cell? ⟨w.heap.size + 1, 4, none⟩ = some (.string (ba t)) := by rw [Lib.cell_of_heap k2]; rfl
    have ce5 : w1.cell? ⟨w.heap.size + 1, 5, none⟩ = some (.string (ba i)) := by rw [Lib.cell_of_heap k2]; rfl
    have ce6 : w1.cell? ⟨w.heap.size + 1, 6, none⟩ = some (.slice eo el ec) := by rw [Lib.cell_of_heap k2]; rfl
    have C := HLEAF w1
    go_wp2_with fail
    refine C.mono ?_
    rintro e9 w9 ⟨⟨v9, kk9, rfl, hrc⟩, b9⟩
    have H9 := hide hrc
    clear hrc C
    go_wp2
    go_ret2
    refine ⟨⟨_, _, rfl, ?_⟩, b1.trans (b9.mono b1.size)⟩
    rw [unhide HX]
    exact unhide H9
  | [a], [va], _ =>
    have n1 : n = 1 := unhide HN
    subst n1
    have HX := hide (show r = oneC D k s a from unhide HE)
    have hI : IsC w a va := (unhide HA).2 0 (by simp) (by simp)
    obtain ⟨g, off, rfl, hg, c0⟩ := (unhide HRW) 0 (by simp)
    have c0 : w.cell? ⟨g, off, none⟩ = some va := c0
    have c0 := (b1.cell (p := ⟨g, off, none⟩) hg).trans c0
    have HI := hide hI
    clear HLEAF HTWO hI
    go_enter Tryz.func19, Tryz.ntmps19
    go_upto_region 1 with fail
    generalize (w.alloc _).alloc _ = w1 at *
    have ce0 : w1.cell? ⟨w.heap.size + 1, 0, none⟩ = some (.int .i64 k) := by rw [Lib.cell_of_heap k2]; rfl
    go_upto_region 7 with fail
    have hI := unhide HI
    clear ce0
    refine wp_specsD (evSp [.agg #[.slice glo N c, .string D.p.t, .string D.p.i, .string D.a.t, .string D.a.i, .string D.r.t, .string D.r.i], .agg #[.int .i64 k, .bool b, .int .i64 m, .string (ba s), .string (ba t), .string (ba i), .slice eo el ec], .slice (some ⟨g, off, none⟩) 1 cap, .pointer (some ⟨g, off, none⟩), va] (oneC D k s a)) (fun _ _ w' => Below w1.heap.size w1 w') (by kernel_rfl) (by kernel_rfl) (by kernel_rfl) (Below.refl _ w1).drew ?_ ?_ ?_
    · intro q o d ho hd L a' w' hL hw hRR hdep hslot hsz K hK
      have hqN : q < 10 := dstOf_lt hd
      have m1 := kept_of_below hRR k1
      have m2 := kept_of_below hRR k2
      have y0 : w'.cell? ⟨w.heap.size, 0, none⟩ = some (.slice glo N c) := by rw [Lib.cell_of_heap m1]; rfl
      have y1 : w'.cell? ⟨w.heap.size, 1, none⟩ = some (.string D.p.t) := by rw [Lib.cell_of_heap m1]; rfl
      have y2 : w'.cell? ⟨w.heap.size, 2, none⟩ = some (.string D.p.i) := by rw [Lib.cell_of_heap m1]; rfl
      have y3 : w'.cell? ⟨w.heap.size, 3, none⟩ = some (.string D.a.t) := by rw [Lib.cell_of_heap m1]; rfl
      have y4 : w'.cell? ⟨w.heap.size, 4, none⟩ = some (.string D.a.i) := by rw [Lib.cell_of_heap m1]; rfl
      have y5 : w'.cell? ⟨w.heap.size, 5, none⟩ = some (.string D.r.t) := by rw [Lib.cell_of_heap m1]; rfl
      have y6 : w'.cell? ⟨w.heap.size, 6, none⟩ = some (.string D.r.i) := by rw [Lib.cell_of_heap m1]; rfl
      have x0 : w'.cell? ⟨w.heap.size + 1, 0, none⟩ = some (.int .i64 k) := by rw [Lib.cell_of_heap m2]; rfl
      have x1 : w'.cell? ⟨w.heap.size + 1, 1, none⟩ = some (.bool b) := by rw [Lib.cell_of_heap m2]; rfl
      have x2 : w'.cell? ⟨w.heap.size + 1, 2, none⟩ = some (.int .i64 m) := by rw [Lib.cell_of_heap m2]; rfl
      have x3 : w'.cell? ⟨w.heap.size + 1, 3, none⟩ = some (.string (ba s)) := by rw [Lib.cell_of_heap m2]; rfl
      have x4 : w'.cell? ⟨w.heap.size + 1, 4, none⟩ = some (.string (ba t)) := by rw [Lib.cell_of_heap m2]; rfl
      have x5 : w'.cell? ⟨w.heap.size + 1, 5, none⟩ = some (.string (ba i)) := by rw [Lib.cell_of_heap m2]; rfl
      have x6 : w'.cell? ⟨w.heap.size + 1, 6, none⟩ = some (.slice eo el ec) := by rw [Lib.cell_of_heap m2]; rfl
      clear m1 m2
      have d0 := (hRR.cell (p := ⟨g, off, none⟩) (by show g < _; have := b1.size; omega)).trans c0
      have hs2 : a'.tmps.getD 2 undef = .slice (some ⟨g, off, none⟩) 1 cap := hslot 2 (fun q h => by have hl := dstOf_lt h; match q, hl with | 0, _ => cases h | 1, _ => cases h | 2, _ => cases h | 3, _ => cases h | 4, _ => cases h | 5, _ => cases h | 6, _ => cases h | 7, _ => cases h | 8, _ => cases h | 9, _ => cases h)
      have hs3 : a'.tmps.getD 3 undef = .pointer (some ⟨w.heap.size, 0, none⟩) := hslot 3 (fun q h => by have hl := dstOf_lt h; match q, hl with | 0, _ => cases h | 1, _ => cases h | 2, _ => cases h | 3, _ => cases h | 4, _ => cases h | 5, _ => cases h | 6, _ => cases h | 7, _ => cases h | 8, _ => cases h | 9, _ => cases h)
      have hs4 : a'.tmps.getD 4 undef = .pointer (some ⟨w.heap.size + 1, 0, none⟩) := hslot 4 (fun q h => by have hl := dstOf_lt h; match q, hl with | 0, _ => cases h | 1, _ => cases h | 2, _ => cases h | 3, _ => cases h | 4, _ => cases h | 5, _ => cases h | 6, _ => cases h | 7, _ => cases h | 8, _ => cases h | 9, _ => cases h)
      have hc : q = 0 ∨ q = 1 ∨ q = 2 ∨ q = 3 ∨ q = 4 ∨ q = 5 ∨ q = 6 ∨ q = 7 ∨ q = 8 ∨ q = 9 := by omega
      rcases hc with rfl | rfl | rfl | rfl | rfl | rfl | rfl | rfl | rfl | rfl
      · cases ho
        cases hd
        have e0 := hs3
        have e0' : a'.tmps[3]?.getD undef = .pointer (some ⟨w.heap.size, 0, none⟩) := by simpa using e0
        clear x0 x1 x2 x3 x4 x5 x6 d0
        unfold Oper.wp
        go_simp
        exact hK _ _ rfl hRR (fun _ _ h => h)
      · cases ho
        cases hd
        have e0 := hs4
        have e0' : a'.tmps[4]?.getD undef = .pointer (some ⟨w.heap.size + 1, 0, none⟩) := by simpa using e0
        clear y0 y1 y2 y3 y4 y5 y6 d0
        unfold Oper.wp
        go_simp
        exact hK _ _ rfl hRR (fun _ _ h => h)
      · cases ho
        cases hd
        have e0 := hs2
        have e0' : a'.tmps[2]?.getD undef = .slice (some ⟨g, off, none⟩) 1 cap := by simpa using e0
        clear y0 y1 y2 y3 y4 y5 y6 x0 x1 x2 x3 x4 x5 x6 d0
        unfold Oper.wp
        go_simp
        exact hK _ _ rfl hRR (fun _ _ h => h)
      · cases ho
        cases hd
        have e0 : a'.tmps.getD 28 undef = .slice (some ⟨g, off, none⟩) 1 cap := hdep 2 28 rfl (by kernel_rfl)
        have e0' : a'.tmps[28]?.getD undef = .slice (some ⟨g, off, none⟩) 1 cap := by simpa using e0
        clear y0 y1 y2 y3 y4 y5 y6 x0 x1 x2 x3 x4 x5 x6 d0
        unfold Oper.wp
        go_simp
        exact hK _ _ rfl hRR (fun _ _ h => h)
      · cases ho
        cases hd
        have e0 : a'.tmps.getD 29 undef = .pointer (some ⟨g, off, none⟩) := hdep 3 29 rfl (by kernel_rfl)
        have e0' : a'.tmps[29]?.getD undef = .pointer (some ⟨g, off, none⟩) := by simpa using e0
        clear y0 y1 y2 y3 y4 y5 y6 x0 x1 x2 x3 x4 x5 x6
        unfold Oper.wp
        go_simp
        exact hK _ _ rfl hRR (fun _ _ h => h)
      · cases ho
        cases hd
        have e0 : a'.tmps.getD 26 undef = .agg #[.slice glo N c, .string D.p.t, .string D.p.i, .string D.a.t, .string D.a.i, .string D.r.t, .string D.r.i] := hdep 0 26 rfl (by kernel_rfl)
        have e0' : a'.tmps[26]?.getD undef = .agg #[.slice glo N c, .string D.p.t, .string D.p.i, .string D.a.t, .string D.a.i, .string D.r.t, .string D.r.i] := by simpa using e0
        have e1 : a'.tmps.getD 27 undef = .agg #[.int .i64 k, .bool b, .int .i64 m, .string (ba s), .string (ba t), .string (ba i), .slice eo el ec] := hdep 1 27 rfl (by kernel_rfl)
        have e1' : a'.tmps[27]?.getD undef = .agg #[.int .i64 k, .bool b, .int .i64 m, .string (ba s), .string (ba t), .string (ba i), .slice eo el ec] := by simpa using e1
        have e2 : a'.tmps.getD 30 undef = va := hdep 4 30 rfl (by kernel_rfl)
        have e2' : a'.tmps[30]?.getD undef = va := by simpa using e2
        clear y0 y1 y2 y3 y4 y5 y6 x0 x1 x2 x3 x4 x5 x6 d0
        have CC := HONE a va w' (b1.trans (hRR.mono b1.size)) hI
        unfold Oper.wp
        go_simp
        refine CC.mono ?_
        rintro e w9 ⟨⟨v9, kk9, rfl, hrc⟩, b9⟩
        exact hK _ _ ⟨v9, kk9, rfl, hrc⟩ (hRR.trans (b9.mono hRR.size)) (evSp_up b9)
      · cases ho
        cases hd
        clear y0 y1 y2 y3 y4 y5 y6 x0 x1 x2 x3 x4 x5 x6 d0
        obtain ⟨v8, kk8, e0, hrc⟩ : evSp [.agg #[.slice glo N c, .string D.p.t, .string D.p.i, .string D.a.t, .string D.a.i, .string D.r.t, .string D.r.i], .agg #[.int .i64 k, .bool b, .int .i64 m, .string (ba s), .string (ba t), .string (ba i), .slice eo el ec], .slice (some ⟨g, off, none⟩) 1 cap, .pointer (some ⟨g, off, none⟩), va] (oneC D k s a) 5 (a'.tmps.getD 31 undef) w' := hdep 5 31 rfl (by kernel_rfl)
        have e0' : a'.tmps[31]?.getD undef = .tuple #[v8, .int .i64 kk8] := by simpa using e0
        have HRC := hide hrc
        clear hrc
        unfold Oper.wp
        go_simp
        exact hK _ _ ⟨kk8, unhide HRC⟩ hRR (fun _ _ h => h)
      · cases ho
        cases hd
        clear y0 y1 y2 y3 y4 y5 y6 x0 x1 x2 x3 x4 x5 x6 d0
        obtain ⟨v8, kk8, e0, hrc⟩ : evSp [.agg #[.slice glo N c, .string D.p.t, .string D.p.i, .string D.a.t, .string D.a.i, .string D.r.t, .string D.r.i], .agg #[.int .i64 k, .bool b, .int .i64 m, .string (ba s), .string (ba t), .string (ba i), .slice eo el ec], .slice (some ⟨g, off, none⟩) 1 cap, .pointer (some ⟨g, off, none⟩), va] (oneC D k s a) 5 (a'.tmps.getD 31 undef) w' := hdep 5 31 rfl (by kernel_rfl)
        have e0' : a'.tmps[31]?.getD undef = .tuple #[v8, .int .i64 kk8] := by simpa using e0
        have HRC := hide hrc
        clear hrc
        unfold Oper.wp
        go_simp
        exact hK _ _ ⟨v8, kk8, rfl, unhide HRC⟩ hRR (fun _ _ h => h)
      · cases ho
        cases hd
        clear y0 y1 y2 y3 y4 y5 y6 x0 x1 x2 x3 x4 x5 x6 d0
        obtain ⟨u8, hu8⟩ : ∃ u8, u8 = a'.tmps.getD 32 undef := ⟨_, rfl⟩
        obtain ⟨kk8, hrc⟩ : evSp [.agg #[.slice glo N c, .string D.p.t, .string D.p.i, .string D.a.t, .string D.a.i, .string D.r.t, .string D.r.i], .agg #[.int .i64 k, .bool b, .int .i64 m, .string (ba s), .string (ba t), .string (ba i), .slice eo el ec], .slice (some ⟨g, off, none⟩) 1 cap, .pointer (some ⟨g, off, none⟩), va] (oneC D k s a) 6 (a'.tmps.getD 32 undef) w' := hdep 6 32 rfl (by kernel_rfl)
        rw [← hu8] at hrc
        have HRC := hide hrc
        clear hrc
        have e0 := hu8.symm
        clear hu8
        have e0' : a'.tmps[32]?.getD undef = u8 := by simpa using e0
        unfold Oper.wp
        go_simp
        exact hK _ _ ⟨kk8, unhide HRC⟩ hRR (fun _ _ h => h)
      · cases ho
        cases hd
        clear y0 y1 y2 y3 y4 y5 y6 x0 x1 x2 x3 x4 x5 x6 d0
        obtain ⟨v8, kk8, e0, hrc⟩ : evSp [.agg #[.slice glo N c, .string D.p.t, .string D.p.i, .string D.a.t, .string D.a.i, .string D.r.t, .string D.r.i], .agg #[.int .i64 k, .bool b, .int .i64 m, .string (ba s), .string (ba t), .string (ba i), .slice eo el ec], .slice (some ⟨g, off, none⟩) 1 cap, .pointer (some ⟨g, off, none⟩), va] (oneC D k s a) 7 (a'.tmps.getD 33 undef) w' := hdep 7 33 rfl (by kernel_rfl)
        have e0' : a'.tmps[33]?.getD undef = .int .i64 kk8 := by simpa using e0
        have HRC := hide hrc
        clear hrc
        unfold Oper.wp
        go_simp
        exact hK _ _ ⟨v8, kk8, rfl, unhide HRC⟩ hRR (fun _ _ h => h)
    · intro q o ho hd L a' w' hL hw hRR hdep K hK
      have hqN : q < 10 := (List.getElem?_eq_some_iff.1 ho).1
      have m1 := kept_of_below hRR k1
      have m2 := kept_of_below hRR k2
      have y0 : w'.cell? ⟨w.heap.size, 0, none⟩ = some (.slice glo N c) := by rw [Lib.cell_of_heap m1]; rfl
      have y1 : w'.cell? ⟨w.heap.size, 1, none⟩ = some (.string D.p.t) := by rw [Lib.cell_of_heap m1]; rfl
      have y2 : w'.cell? ⟨w.heap.size, 2, none⟩ = some (.string D.p.i) := by rw [Lib.cell_of_heap m1]; rfl
      have y3 : w'.cell? ⟨w.heap.size, 3, none⟩ = some (.string D.a.t) := by rw [Lib.cell_of_heap m1]; rfl
      have y4 : w'.cell? ⟨w.heap.size, 4, none⟩ = some (.string D.a.i) := by rw [Lib.cell_of_heap m1]; rfl
      have y5 : w'.cell? ⟨w.heap.size, 5, none⟩ = some (.string D.r.t) := by rw [Lib.cell_of_heap m1]; rfl
      have y6 : w'.cell? ⟨w.heap.size, 6, none⟩ = some (.string D.r.i) := by rw [Lib.cell_of_heap m1]; rfl
      have x0 : w'.cell? ⟨w.heap.size + 1, 0, none⟩ = some (.int .i64 k) := by rw [Lib.cell_of_heap m2]; rfl
      have x1 : w'.cell? ⟨w.heap.size + 1, 1, none⟩ = some (.bool b) := by rw [Lib.cell_of_heap m2]; rfl
      have x2 : w'.cell? ⟨w.heap.size + 1, 2, none⟩ = some (.int .i64 m) := by rw [Lib.cell_of_heap m2]; rfl
      have x3 : w'.cell? ⟨w.heap.size + 1, 3, none⟩ = some (.string (ba s)) := by rw [Lib.cell_of_heap m2]; rfl
      have x4 : w'.cell? ⟨w.heap.size + 1, 4, none⟩ = some (.string (ba t)) := by rw [Lib.cell_of_heap m2]; rfl
      have x5 : w'.cell? ⟨w.heap.size + 1, 5, none⟩ = some (.string (ba i)) := by rw [Lib.cell_of_heap m2]; rfl
      have x6 : w'.cell? ⟨w.heap.size + 1, 6, none⟩ = some (.slice eo el ec) := by rw [Lib.cell_of_heap m2]; rfl
      clear m1 m2
      have d0 := (hRR.cell (p := ⟨g, off, none⟩) (by show g < _; have := b1.size; omega)).trans c0
      have hc : q = 0 ∨ q = 1 ∨ q = 2 ∨ q = 3 ∨ q = 4 ∨ q = 5 ∨ q = 6 ∨ q = 7 ∨ q = 8 ∨ q = 9 := by omega
      rcases hc with rfl | rfl | rfl | rfl | rfl | rfl | rfl | rfl | rfl | rfl
      · cases hd
      · cases hd
      · cases hd
      · cases hd
      · cases hd
      · cases hd
      · cases hd
      · cases hd
      · cases hd
      · cases hd
    · intro v L w' hLa hRR hv
      have f0 : v 0 = .agg #[.slice glo N c, .string D.p.t, .string D.p.i, .string D.a.t, .string D.a.i, .string D.r.t, .string D.r.i] := (hv 0 26 rfl).1
      have f1 : v 1 = .agg #[.int .i64 k, .bool b, .int .i64 m, .string (ba s), .string (ba t), .string (ba i), .slice eo el ec] := (hv 1 27 rfl).1
      have f2 : v 2 = .slice (some ⟨g, off, none⟩) 1 cap := (hv 2 28 rfl).1
      have f3 : v 3 = .pointer (some ⟨g, off, none⟩) := (hv 3 29 rfl).1
      have f4 : v 4 = va := (hv 4 30 rfl).1
      obtain ⟨v8, kk8, f9, hrc8⟩ : evSp [.agg #[.slice glo N c, .string D.p.t, .string D.p.i, .string D.a.t, .string D.a.i, .string D.r.t, .string D.r.i], .agg #[.int .i64 k, .bool b, .int .i64 m, .string (ba s), .string (ba t), .string (ba i), .slice eo el ec], .slice (some ⟨g, off, none⟩) 1 cap, .pointer (some ⟨g, off, none⟩), va] (oneC D k s a) 9 (v 9) w' := (hv 9 7 rfl).1
      obtain ⟨kk7, hrc7⟩ : evSp [.agg #[.slice glo N c, .string D.p.t, .string D.p.i, .string D.a.t, .string D.a.i, .string D.r.t, .string D.r.i], .agg #[.int .i64 k, .bool b, .int .i64 m, .string (ba s), .string (ba t), .string (ba i), .slice eo el ec], .slice (some ⟨g, off, none⟩) 1 cap, .pointer (some ⟨g, off, none⟩), va] (oneC D k s a) 8 (v 8) w' := (hv 8 6 rfl).1
      have HRC := hide (hrc7.both hrc8)
      clear hrc7 hrc8
      have bE := hRR
      clear hRR hv hLa
      simp only [putAll, dstOf, List.getElem?_cons_zero, List.getElem?_cons_succ, Option.bind_some, List.length_cons, List.length_nil, f0, f1, f2, f3, f4, f9]
      clear f0 f1 f2 f3 f4 f9
      simp only [Act.put, List.setIfInBounds_toArray, List.set_cons_succ, List.set_cons_zero]
      generalize v 8 = vR at *
      generalize v 5 = vv5
      generalize v 6 = vv6
      generalize v 7 = vv7
      go_wp2
      go_ret2
      refine ⟨⟨_, _, rfl, ?_⟩, b1.trans (bE.mono b1.size)⟩
      rw [unhide HX]
      exact unhide HRC
  | [a, a2], [va, vb], _ =>
    have n1 : n = 2 := unhide HN
    subst n1
    have HX := hide (show r = twoC D k a a2 from unhide HE)
    have hI : IsC w a va := (unhide HA).2 0 (by simp) (by simp)
    have hI2 : IsC w a2 vb := (unhide HA).2 1 (by simp) (by simp)
    obtain ⟨g, off, rfl, hg, c0⟩ := (unhide HRW) 0 (by simp)
    obtain ⟨g_, off_, eg, _, c1⟩ := (unhide HRW) 1 (by simp)
    cases eg
    have c0 : w.cell? ⟨g, off, none⟩ = some va := c0
    have c1 : w.cell? ⟨g, off + 1, none⟩ = some vb := c1
    have c0 := (b1.cell (p := ⟨g, off, none⟩) hg).trans c0
    have c1 := (b1.cell (p := ⟨g, off + 1, none⟩) hg).trans c1
    have HI := hide hI
    have HI2 := hide hI2
    clear HLEAF HONE hI hI2
    go_enter Tryz.func19, Tryz.ntmps19
    go_upto_region 1 with fail
    generalize (w.alloc _).alloc _ = w1 at *
    have ce0 : w1.cell? ⟨w.heap.size + 1, 0, none⟩ = some (.int .i64 k) := by rw [Lib.cell_of_heap k2]; rfl
    go_upto_region 9 with fail
    have hI := unhide HI
    have hI2 := unhide HI2
    clear ce0
    refine wp_specsD (evSp [.agg #[.slice glo N c, .string D.p.t, .string D.p.i, .string D.a.t, .string D.a.i, .string D.r.t, .string D.r.i], .pointer (some ⟨w.heap.size + 1, 0, none⟩), .int .i64 k, .slice (some ⟨g, off, none⟩) 2 cap, .pointer (some ⟨g, off, none⟩), va, .slice (some ⟨g, off, none⟩) 2 cap, .pointer (some ⟨g, off + 1, none⟩), vb] (twoC D k a a2)) (fun _ _ w' => Below w1.heap.size w1 w') (by kernel_rfl) (by kernel_rfl) (by kernel_rfl) (Below.refl _ w1).drew ?_ ?_ ?_
    · intro q o d ho hd L a' w' hL hw hRR hdep hslot hsz K hK
      have hqN : q < 14 := dstOf_lt hd
      have m1 := kept_of_below hRR k1
      have m2 := kept_of_below hRR k2
      have y0 : w'.cell? ⟨w.heap.size, 0, none⟩ = some (.slice glo N c) := by rw [Lib.cell_of_heap m1]; rfl
      have y1 : w'.cell? ⟨w.heap.size, 1, none⟩ = some (.string D.p.t) := by rw [Lib.cell_of_heap m1]; rfl
      have y2 : w'.cell? ⟨w.heap.size, 2, none⟩ = some (.string D.p.i) := by rw [Lib.cell_of_heap m1]; rfl
      have y3 : w'.cell? ⟨w.heap.size, 3, none⟩ = some (.string D.a.t) := by rw [Lib.cell_of_heap m1]; rfl
      have y4 : w'.cell? ⟨w.heap.size, 4, none⟩ = some (.string D.a.i) := by rw [Lib.cell_of_heap m1]; rfl
      have y5 : w'.cell? ⟨w.heap.size, 5, none⟩ = some (.string D.r.t) := by rw [Lib.cell_of_heap m1]; rfl
      have y6 : w'.cell? ⟨w.heap.size, 6, none⟩ = some (.string D.r.i) := by rw [Lib.cell_of_heap m1]; rfl
      have x0 : w'.cell? ⟨w.heap.size + 1, 0, none⟩ = some (.int .i64 k) := by rw [Lib.cell_of_heap m2]; rfl
      have x1 : w'.cell? ⟨w.heap.size + 1, 1, none⟩ = some (.bool b) := by rw [Lib.cell_of_heap m2]; rfl
      have x2 : w'.cell? ⟨w.heap.size + 1, 2, none⟩ = some (.int .i64 m) := by rw [Lib.cell_of_heap m2]; rfl
      have x3 : w'.cell? ⟨w.heap.size + 1, 3, none⟩ = some (.string (ba s)) := by rw [Lib.cell_of_heap m2]; rfl
      have x4 : w'.cell? ⟨w.heap.size + 1, 4, none⟩ = some (.string (ba t)) := by rw [Lib.cell_of_heap m2]; rfl
      have x5 : w'.cell? ⟨w.heap.size + 1, 5, none⟩ = some (.string (ba i)) := by rw [Lib.cell_of_heap m2]; rfl
      have x6 : w'.cell? ⟨w.heap.size + 1, 6, none⟩ = some (.slice eo el ec) := by rw [Lib.cell_of_heap m2]; rfl
      clear m1 m2
      have d0 := (hRR.cell (p := ⟨g, off, none⟩) (by show g < _; have := b1.size; omega)).trans c0
      have d1 := (hRR.cell (p := ⟨g, off + 1, none⟩) (by show g < _; have := b1.size; omega)).trans c1
      have hs2 : a'.tmps.getD 2 undef = .slice (some ⟨g, off, none⟩) 2 cap := hslot 2 (fun q h => by have hl := dstOf_lt h; match q, hl with | 0, _ => cases h | 1, _ => cases h | 2, _ => cases h | 3, _ => cases h | 4, _ => cases h | 5, _ => cases h | 6, _ => cases h | 7, _ => cases h | 8, _ => cases h | 9, _ => cases h | 10, _ => cases h | 11, _ => cases h | 12, _ => cases h | 13, _ => cases h)
      have hs3 : a'.tmps.getD 3 undef = .pointer (some ⟨w.heap.size, 0, none⟩) := hslot 3 (fun q h => by have hl := dstOf_lt h; match q, hl with | 0, _ => cases h | 1, _ => cases h | 2, _ => cases h | 3, _ => cases h | 4, _ => cases h | 5, _ => cases h | 6, _ => cases h | 7, _ => cases h | 8, _ => cases h | 9, _ => cases h | 10, _ => cases h | 11, _ => cases h | 12, _ => cases h | 13, _ => cases h)
      have hs4 : a'.tmps.getD 4 undef = .pointer (some ⟨w.heap.size + 1, 0, none⟩) := hslot 4 (fun q h => by have hl := dstOf_lt h; match q, hl with | 0, _ => cases h | 1, _ => cases h | 2, _ => cases h | 3, _ => cases h | 4, _ => cases h | 5, _ => cases h | 6, _ => cases h | 7, _ => cases h | 8, _ => cases h | 9, _ => cases h | 10, _ => cases h | 11, _ => cases h | 12, _ => cases h | 13, _ => cases h)
      have hc : q = 0 ∨ q = 1 ∨ q = 2 ∨ q = 3 ∨ q = 4 ∨ q = 5 ∨ q = 6 ∨ q = 7 ∨ q = 8 ∨ q = 9 ∨ q = 10 ∨ q = 11 ∨ q = 12 ∨ q = 13 := by omega
      rcases hc with rfl | rfl | rfl | rfl | rfl | rfl | rfl | rfl | rfl | rfl | rfl | rfl | rfl | rfl
      · cases ho
        cases hd
        have e0 := hs3
        have e0' : a'.tmps[3]?.getD undef = .pointer (some ⟨w.heap.size, 0, none⟩) := by simpa using e0
        clear x0 x1 x2 x3 x4 x5 x6 d0 d1
        unfold Oper.wp
        go_simp
        exact hK _ _ rfl hRR (fun _ _ h => h)
      · cases ho
        cases hd
        have e0 := hs4
        have e0' : a'.tmps[4]?.getD undef = .pointer (some ⟨w.heap.size + 1, 0, none⟩) := by simpa using e0
        clear y0 y1 y2 y3 y4 y5 y6 x0 x1 x2 x3 x4 x5 x6 d0 d1
        unfold Oper.wp
        go_simp
        exact hK _ _ rfl hRR (fun _ _ h => h)
      · cases ho
        cases hd
        have e0 : a'.tmps.getD 37 undef = .pointer (some ⟨w.heap.size + 1, 0, none⟩) := hdep 1 37 rfl (by kernel_rfl)
        have e0' : a'.tmps[37]?.getD undef = .pointer (some ⟨w.heap.size + 1, 0, none⟩) := by simpa using e0
        clear y0 y1 y2 y3 y4 y5 y6 x1 x2 x3 x4 x5 x6 d0 d1
        unfold Oper.wp
        go_simp
        exact hK _ _ rfl hRR (fun _ _ h => h)
      · cases ho
        cases hd
        have e0 := hs2
        have e0' : a'.tmps[2]?.getD undef = .slice (some ⟨g, off, none⟩) 2 cap := by simpa using e0
        clear y0 y1 y2 y3 y4 y5 y6 x0 x1 x2 x3 x4 x5 x6 d0 d1
        unfold Oper.wp
        go_simp
        exact hK _ _ rfl hRR (fun _ _ h => h)
      · cases ho
        cases hd
        have e0 : a'.tmps.getD 39 undef = .slice (some ⟨g, off, none⟩) 2 cap := hdep 3 39 rfl (by kernel_rfl)
        have e0' : a'.tmps[39]?.getD undef = .slice (some ⟨g, off, none⟩) 2 cap := by simpa using e0
        clear y0 y1 y2 y3 y4 y5 y6 x0 x1 x2 x3 x4 x5 x6 d0 d1
        unfold Oper.wp
        go_simp
        exact hK _ _ rfl hRR (fun _ _ h => h)
      · cases ho
        cases hd
        have e0 : a'.tmps.getD 40 undef = .pointer (some ⟨g, off, none⟩) := hdep 4 40 rfl (by kernel_rfl)
        have e0' : a'.tmps[40]?.getD undef = .pointer (some ⟨g, off, none⟩) := by simpa using e0
        clear y0 y1 y2 y3 y4 y5 y6 x0 x1 x2 x3 x4 x5 x6 d1
        unfold Oper.wp
        go_simp
        exact hK _ _ rfl hRR (fun _ _ h => h)
      · cases ho
        cases hd
        have e0 := hs2
        have e0' : a'.tmps[2]?.getD undef = .slice (some ⟨g, off, none⟩) 2 cap := by simpa using e0
        clear y0 y1 y2 y3 y4 y5 y6 x0 x1 x2 x3 x4 x5 x6 d0 d1
        unfold Oper.wp
        go_simp
        exact hK _ _ rfl hRR (fun _ _ h => h)
      · cases ho
        cases hd
        have e0 : a'.tmps.getD 42 undef = .slice (some ⟨g, off, none⟩) 2 cap := hdep 6 42 rfl (by kernel_rfl)
        have e0' : a'.tmps[42]?.getD undef = .slice (some ⟨g, off, none⟩) 2 cap := by simpa using e0
        clear y0 y1 y2 y3 y4 y5 y6 x0 x1 x2 x3 x4 x5 x6 d0 d1
        unfold Oper.wp
        go_simp
        exact hK _ _ rfl hRR (fun _ _ h => h)
      · cases ho
        cases hd
        have e0 : a'.tmps.getD 43 undef = .pointer (some ⟨g, off + 1, none⟩) := hdep 7 43 rfl (by kernel_rfl)
        have e0' : a'.tmps[43]?.getD undef = .pointer (some ⟨g, off + 1, none⟩) := by simpa using e0
        clear y0 y1 y2 y3 y4 y5 y6 x0 x1 x2 x3 x4 x5 x6 d0
        unfold Oper.wp
        go_simp
        exact hK _ _ rfl hRR (fun _ _ h => h)
      · cases ho
        cases hd
        have e0 : a'.tmps.getD 36 undef = .agg #[.slice glo N c, .string D.p.t, .string D.p.i, .string D.a.t, .string D.a.i, .string D.r.t, .string D.r.i] := hdep 0 36 rfl (by kernel_rfl)
        have e0' : a'.tmps[36]?.getD undef = .agg #[.slice glo N c, .string D.p.t, .string D.p.i, .string D.a.t, .string D.a.i, .string D.r.t, .string D.r.i] := by simpa using e0
        have e1 : a'.tmps.getD 38 undef = .int .i64 k := hdep 2 38 rfl (by kernel_rfl)
        have e1' : a'.tmps[38]?.getD undef = .int .i64 k := by simpa using e1
        have e2 : a'.tmps.getD 41 undef = va := hdep 5 41 rfl (by kernel_rfl)
        have e2' : a'.tmps[41]?.getD undef = va := by simpa using e2
        have e3 : a'.tmps.getD 44 undef = vb := hdep 8 44 rfl (by kernel_rfl)
        have e3' : a'.tmps[44]?.getD undef = vb := by simpa using e3
        clear y0 y1 y2 y3 y4 y5 y6 x0 x1 x2 x3 x4 x5 x6 d0 d1
        have CC := HTWO a a2 va vb w' (b1.trans (hRR.mono b1.size)) hI hI2
        unfold Oper.wp
        go_simp
        refine CC.mono ?_
        rintro e w9 ⟨⟨v9, kk9, rfl, hrc⟩, b9⟩
        exact hK _ _ ⟨v9, kk9, rfl, hrc⟩ (hRR.trans (b9.mono hRR.size)) (evSp_up b9)
      · cases ho
        cases hd
        clear y0 y1 y2 y3 y4 y5 y6 x0 x1 x2 x3 x4 x5 x6 d0 d1
        obtain ⟨v8, kk8, e0, hrc⟩ : evSp [.agg #[.slice glo N c, .string D.p.t, .string D.p.i, .string D.a.t, .string D.a.i, .string D.r.t, .string D.r.i], .pointer (some ⟨w.heap.size + 1, 0, none⟩), .int .i64 k, .slice (some ⟨g, off, none⟩) 2 cap, .pointer (some ⟨g, off, none⟩), va, .slice (some ⟨g, off, none⟩) 2 cap, .pointer (some ⟨g, off + 1, none⟩), vb] (twoC D k a a2) 9 (a'.tmps.getD 45 undef) w' := hdep 9 45 rfl (by kernel_rfl)
        have e0' : a'.tmps[45]?.getD undef = .tuple #[v8, .int .i64 kk8] := by simpa using e0
        have HRC := hide hrc
        clear hrc
        unfold Oper.wp
        go_simp
        exact hK _ _ ⟨kk8, unhide HRC⟩ hRR (fun _ _ h => h)
      · cases ho
        cases hd
        clear y0 y1 y2 y3 y4 y5 y6 x0 x1 x2 x3 x4 x5 x6 d0 d1
        obtain ⟨v8, kk8, e0, hrc⟩ : evSp [.agg #[.slice glo N c, .string D.p.t, .string D.p.i, .string D.a.t, .string D.a.i, .string D.r.t, .string D.r.i], .pointer (some ⟨w.heap.size + 1, 0, none⟩), .int .i64 k, .slice (some ⟨g, off, none⟩) 2 cap, .pointer (some ⟨g, off, none⟩), va, .slice (some ⟨g, off, none⟩) 2 cap, .pointer (some ⟨g, off + 1, none⟩), vb] (twoC D k a a2) 9 (a'.tmps.getD 45 undef) w' := hdep 9 45 rfl (by kernel_rfl)
        have e0' : a'.tmps[45]?.getD undef = .tuple #[v8, .int .i64 kk8] := by simpa using e0
        have HRC := hide hrc
        clear hrc
        unfold Oper.wp
        go_simp
        exact hK _ _ ⟨v8, kk8, rfl, unhide HRC⟩ hRR (fun _ _ h => h)
      · cases ho
        cases hd
        clear y0 y1 y2 y3 y4 y5 y6 x0 x1 x2 x3 x4 x5 x6 d0 d1
        obtain ⟨u8, hu8⟩ : ∃ u8, u8 = a'.tmps.getD 46 undef := ⟨_, rfl⟩
        obtain ⟨kk8, hrc⟩ : evSp [.agg #[.slice glo N c, .string D.p.t, .string D.p.i, .string D.a.t, .string D.a.i, .string D.r.t, .string D.r.i], .pointer (some ⟨w.heap.size + 1, 0, none⟩), .int .i64 k, .slice (some ⟨g, off, none⟩) 2 cap, .pointer (some ⟨g, off, none⟩), va, .slice (some ⟨g, off, none⟩) 2 cap, .pointer (some ⟨g, off + 1, none⟩), vb] (twoC D k a a2) 10 (a'.tmps.getD 46 undef) w' := hdep 10 46 rfl (by kernel_rfl)
        rw [← hu8] at hrc
        have HRC := hide hrc
        clear hrc
        have e0 := hu8.symm
        clear hu8
        have e0' : a'.tmps[46]?.getD undef = u8 := by simpa using e0
        unfold Oper.wp
        go_simp
        exact hK _ _ ⟨kk8, unhide HRC⟩ hRR (fun _ _ h => h)
      · cases ho
        cases hd
        clear y0 y1 y2 y3 y4 y5 y6 x0 x1 x2 x3 x4 x5 x6 d0 d1
        obtain ⟨v8, kk8, e0, hrc⟩ : evSp [.agg #[.slice glo N c, .string D.p.t, .string D.p.i, .string D.a.t, .string D.a.i, .string D.r.t, .string D.r.i], .pointer (some ⟨w.heap.size + 1, 0, none⟩), .int .i64 k, .slice (some ⟨g, off, none⟩) 2 cap, .pointer (some ⟨g, off, none⟩), va, .slice (some ⟨g, off, none⟩) 2 cap, .pointer (some ⟨g, off + 1, none⟩), vb] (twoC D k a a2) 11 (a'.tmps.getD 47 undef) w' := hdep 11 47 rfl (by kernel_rfl)
        have e0' : a'.tmps[47]?.getD undef = .int .i64 kk8 := by simpa using e0
        have HRC := hide hrc
        clear hrc
        unfold Oper.wp
        go_simp
        exact hK _ _ ⟨v8, kk8, rfl, unhide HRC⟩ hRR (fun _ _ h => h)
    · intro q o ho hd L a' w' hL hw hRR hdep K hK
      have hqN : q < 14 := (List.getElem?_eq_some_iff.1 ho).1
      have m1 := kept_of_below hRR k1
      have m2 := kept_of_below hRR k2
      have y0 : w'.cell? ⟨w.heap.size, 0, none⟩ = some (.slice glo N c) := by rw [Lib.cell_of_heap m1]; rfl
      have y1 : w'.cell? ⟨w.heap.size, 1, none⟩ = some (.string D.p.t) := by rw [Lib.cell_of_heap m1]; rfl
      have y2 : w'.cell? ⟨w.heap.size, 2, none⟩ = some (.string D.p.i) := by rw [Lib.cell_of_heap m1]; rfl
      have y3 : w'.cell? ⟨w.heap.size, 3, none⟩ = some (.string D.a.t) := by rw [Lib.cell_of_heap m1]; rfl
      have y4 : w'.cell? ⟨w.heap.size, 4, none⟩ = some (.string D.a.i) := by rw [Lib.cell_of_heap m1]; rfl
      have y5 : w'.cell? ⟨w.heap.size, 5, none⟩ = some (.string D.r.t) := by rw [Lib.cell_of_heap m1]; rfl
      have y6 : w'.cell? ⟨w.heap.size, 6, none⟩ = some (.string D.r.i) := by rw [Lib.cell_of_heap m1]; rfl
      have x0 : w'.cell? ⟨w.heap.size + 1, 0, none⟩ = some (.int .i64 k) := by rw [Lib.cell_of_heap m2]; rfl
      have x1 : w'.cell? ⟨w.heap.size + 1, 1, none⟩ = some (.bool b) := by rw [Lib.cell_of_heap m2]; rfl
      have x2 : w'.cell? ⟨w.heap.size + 1, 2, none⟩ = some (.int .i64 m) := by rw [Lib.cell_of_heap m2]; rfl
      have x3 : w'.cell? ⟨w.heap.size + 1, 3, none⟩ = some (.string (ba s)) := by rw [Lib.cell_of_heap m2]; rfl
      have x4 : w'.cell? ⟨w.heap.size + 1, 4, none⟩ = some (.string (ba t)) := by rw [Lib.cell_of_heap m2]; rfl
      have x5 : w'.cell? ⟨w.heap.size + 1, 5, none⟩ = some (.string (ba i)) := by rw [Lib.cell_of_heap m2]; rfl
      have x6 : w'.cell? ⟨w.heap.size + 1, 6, none⟩ = some (.slice eo el ec) := by rw [Lib.cell_of_heap m2]; rfl
      clear m1 m2
      have d0 := (hRR.cell (p := ⟨g, off, none⟩) (by show g < _; have := b1.size; omega)).trans c0
      have d1 := (hRR.cell (p := ⟨g, off + 1, none⟩) (by show g < _; have := b1.size; omega)).trans c1
      have hc : q = 0 ∨ q = 1 ∨ q = 2 ∨ q = 3 ∨ q = 4 ∨ q = 5 ∨ q = 6 ∨ q = 7 ∨ q = 8 ∨ q = 9 ∨ q = 10 ∨ q = 11 ∨ q = 12 ∨ q = 13 := by omega
      rcases hc with rfl | rfl | rfl | rfl | rfl | rfl | rfl | rfl | rfl | rfl | rfl | rfl | rfl | rfl
      · cases hd
      · cases hd
      · cases hd
      · cases hd
      · cases hd
      · cases hd
      · cases hd
      · cases hd
      · cases hd
      · cases hd
      · cases hd
      · cases hd
      · cases hd
      · cases hd
    · intro v L w' hLa hRR hv
      have f0 : v 0 = .agg #[.slice glo N c, .string D.p.t, .string D.p.i, .string D.a.t, .string D.a.i, .string D.r.t, .string D.r.i] := (hv 0 36 rfl).1
      have f1 : v 1 = .pointer (some ⟨w.heap.size + 1, 0, none⟩) := (hv 1 37 rfl).1
      have f2 : v 2 = .int .i64 k := (hv 2 38 rfl).1
      have f3 : v 3 = .slice (some ⟨g, off, none⟩) 2 cap := (hv 3 39 rfl).1
      have f4 : v 4 = .pointer (some ⟨g, off, none⟩) := (hv 4 40 rfl).1
      have f5 : v 5 = va := (hv 5 41 rfl).1
      have f6 : v 6 = .slice (some ⟨g, off, none⟩) 2 cap := (hv 6 42 rfl).1
      have f7 : v 7 = .pointer (some ⟨g, off + 1, none⟩) := (hv 7 43 rfl).1
      have f8 : v 8 = vb := (hv 8 44 rfl).1
      obtain ⟨v8, kk8, f13, hrc8⟩ : evSp [.agg #[.slice glo N c, .string D.p.t, .string D.p.i, .string D.a.t, .string D.a.i, .string D.r.t, .string D.r.i], .pointer (some ⟨w.heap.size + 1, 0, none⟩), .int .i64 k, .slice (some ⟨g, off, none⟩) 2 cap, .pointer (some ⟨g, off, none⟩), va, .slice (some ⟨g, off, none⟩) 2 cap, .pointer (some ⟨g, off + 1, none⟩), vb] (twoC D k a a2) 13 (v 13) w' := (hv 13 7 rfl).1
      obtain ⟨kk7, hrc7⟩ : evSp [.agg #[.slice glo N c, .string D.p.t, .string D.p.i, .string D.a.t, .string D.a.i, .string D.r.t, .string D.r.i], .pointer (some ⟨w.heap.size + 1, 0, none⟩), .int .i64 k, .slice (some ⟨g, off, none⟩) 2 cap, .pointer (some ⟨g, off, none⟩), va, .slice (some ⟨g, off, none⟩) 2 cap, .pointer (some ⟨g, off + 1, none⟩), vb] (twoC D k a a2) 12 (v 12) w' := (hv 12 6 rfl).1
      have HRC := hide (hrc7.both hrc8)
      clear hrc7 hrc8
      have bE := hRR
      clear hRR hv hLa
      simp only [putAll, dstOf, List.getElem?_cons_zero, List.getElem?_cons_succ, Option.bind_some, List.length_cons, List.length_nil, f0, f1, f2, f3, f4, f5, f6, f7, f8, f13]
      clear f0 f1 f2 f3 f4 f5 f6 f7 f8 f13
      simp only [Act.put, List.setIfInBounds_toArray, List.set_cons_succ, List.set_cons_zero]
      generalize v 12 = vR at *
      generalize v 9 = vv9
      generalize v 10 = vv10
      generalize v 11 = vv11
      go_wp2
      go_ret2
      refine ⟨⟨_, _, rfl, ?_⟩, b1.trans (bE.mono b1.size)⟩
      rw [unhide HX]
      exact unhide HRC
  | x :: y :: z :: q, vs, hA =>
    have HX := hide (show r = .inr 13 from unhide HE)
    have h3 : 3 ≤ n := by
      have := hA.1
      have h2 := unhide HN
      simp only [List.length_cons] at this
      omega
    have q0 : ((n : Int) == 0) = false := ne_beq (by omega)
    have q1 : ((n : Int) == 1) = false := ne_beq (by omega)
    have q2 : ((n : Int) == 2) = false := ne_beq (by omega)
    clear HLEAF HONE HTWO hA h3
    go_enter Tryz.func19, Tryz.ntmps19
    go_upto_region 1 with fail
    generalize (w.alloc _).alloc _ = w1 at *
    have ce0 : w1.cell? ⟨w.heap.size + 1, 0, none⟩ = some (.int .i64 k) := by rw [Lib.cell_of_heap k2]; rfl
    go_wp2
    go_ret2
    refine ⟨⟨_, _, rfl, ?_⟩, b1⟩
    rw [unhide HX]
    exact rc_err _ (by decide)
  | [], _ :: _, hA => exact absurd hA.1 (by simp)
  | [_], [], hA => exact absurd hA.1 (by simp)
  | [_], _ :: _ :: _, hA => exact absurd hA.1 (by simp)
  | [_, _], [], hA => exact absurd hA.1 (by simp)
  | [_, _], [_], hA => exact absurd hA.1 (by simp)
  | [_, _], _ :: _ :: _ :: _, hA => exact absurd hA.1 (by simp)
end Go.Proofs.YtbbongdnnmanlaaGreat

namespace Go.Proofs.YtbbongdnnmanlaaGreat
open Go.RowKit Go.Sort

def RetT (r : Bool ⊕ Int) (e : Ending) : Prop := ∃ b k, e = .returned (.tuple #[.bool b, .int .i64 k]) ∧ RT r b k
theorem truC_no {g : GV} (h : ∀ x, g ≠ .pl (.bool x)) : truC (.inl g) = .inr 16 := by
  unfold truC
  split
  · rename_i e
    injection e with e
    exact absurd e (h _)
  · rfl
  · rename_i e
    cases e

set_option maxHeartbeats 4000000 in
set_option maxRecDepth 1000000 in
theorem truth13_any (glo : Option Addr) (N c : Nat) (D : EvD) (q : R7) (r : EvR) (w : World) (CO : (∀ w', Below w.heap.size w w' → Calls Tryz.prog 13 #[.agg #[.slice glo N c, .string D.p.t, .string D.p.i, .string D.a.t, .string D.a.i, .string D.r.t, .string D.r.i], .agg #[.int .i64 q.k, .bool q.b, .int .i64 q.n, .string q.s, .string q.t, .string q.i, .slice q.lo q.ll q.lc]] w' fun e w'' => RetC w'' r e ∧ Below w'.heap.size w' w'')) :
    Calls Tryz.prog 22 #[.agg #[.slice glo N c, .string D.p.t, .string D.p.i, .string D.a.t, .string D.a.i, .string D.r.t, .string D.r.i], .agg #[.int .i64 q.k, .bool q.b, .int .i64 q.n, .string q.s, .string q.t, .string q.i, .slice q.lo q.ll q.lc]] w fun e w' => RetT (truC r) e ∧ Below w.heap.size w w' := by
  obtain ⟨b1, z1, k1, k2⟩ := ev2 w (.cells #[.slice glo N c, .string D.p.t, .string D.p.i, .string D.a.t, .string D.a.i, .string D.r.t, .string D.r.i] 54) (.cells #[.int .i64 q.k, .bool q.b, .int .i64 q.n, .string q.s, .string q.t, .string q.i, .slice q.lo q.ll q.lc] 35)
  have TY := ct_truth
  go_enter Tryz.func22, Tryz.ntmps22
  go_upto_region 1 with fail
  generalize (w.alloc _).alloc _ = w1 at *
  have cw0 : w1.cell? ⟨w.heap.size, 0, none⟩ = some (.slice glo N c) := by rw [Lib.cell_of_heap k1]; rfl
  have cw1 : w1.cell? ⟨w.heap.size, 1, none⟩ = some (.string D.p.t) := by rw [Lib.cell_of_heap k1]; rfl
  have cw2 : w1.cell? ⟨w.heap.size, 2, none⟩ = some (.string D.p.i) := by rw [Lib.cell_of_heap k1]; rfl
  have cw3 : w1.cell? ⟨w.heap.size, 3, none⟩ = some (.string D.a.t) := by rw [Lib.cell_of_heap k1]; rfl
  have cw4 : w1.cell? ⟨w.heap.size, 4, none⟩ = some (.string D.a.i) := by rw [Lib.cell_of_heap k1]; rfl
  have cw5 : w1.cell? ⟨w.heap.size, 5, none⟩ = some (.string D.r.t) := by rw [Lib.cell_of_heap k1]; rfl
  have cw6 : w1.cell? ⟨w.heap.size, 6, none⟩ = some (.string D.r.i) := by rw [Lib.cell_of_heap k1]; rfl
  have ce0 : w1.cell? ⟨w.heap.size + 1, 0, none⟩ = some (.int .i64 q.k) := by rw [Lib.cell_of_heap k2]; rfl
  have ce1 : w1.cell? ⟨w.heap.size + 1, 1, none⟩ = some (.bool q.b) := by rw [Lib.cell_of_heap k2]; rfl
  have ce2 : w1.cell? ⟨w.heap.size + 1, 2, none⟩ = some (.int .i64 q.n) := by rw [Lib.cell_of_heap k2]; rfl
  have ce3 : w1.cell? ⟨w.heap.size + 1, 3, none⟩ = some (.string q.s) := by rw [Lib.cell_of_heap k2]; rfl
  have ce4 : w1.cell? ⟨w.heap.size + 1, 4, none⟩ = some (.string q.t) := by rw [Lib.cell_of_heap k2]; rfl
  have ce5 : w1.cell? ⟨w.heap.size + 1, 5, none⟩ = some (.string q.i) := by rw [Lib.cell_of_heap k2]; rfl
  have ce6 : w1.cell? ⟨w.heap.size + 1, 6, none⟩ = some (.slice q.lo q.ll q.lc) := by rw [Lib.cell_of_heap k2]; rfl
  have C := CO w1 b1
  clear CO
  go_wp2_with fail
  refine C.mono ?_
  rintro e w3 ⟨⟨v, kk, rfl, hrc⟩, b3⟩
  have B3 := b1.trans (b3.mono b1.size)
  clear C cw0 ce0 cw1 ce1 cw2 ce2 cw3 ce3 cw4 ce4 cw5 ce5 cw6 ce6
  cases r with
  | inr x =>
    obtain ⟨rfl, hx⟩ : kk = x ∧ x ≠ 0 := hrc
    have gx : (kk != 0) = true := by simpa using hx
    have HX := hide hx
    clear hx
    go_wp2
    go_ret2
    exact ⟨⟨_, _, rfl, rfl, unhide HX⟩, B3⟩
  | inl g =>
    obtain ⟨rfl, hc⟩ : kk = 0 ∧ IsC w3 g v := hrc
    rcases c_bool hc with ⟨y, rfl, rfl⟩ | ⟨hna, S, x, rfl, TA⟩
    · clear hc
      go_wp2
      go_ret2
      exact ⟨⟨_, _, rfl, rfl, rfl⟩, B3⟩
    · have HX := hide (truC_no hna)
      clear hc hna
      go_wp2
      go_ret2
      refine ⟨⟨_, _, rfl, ?_⟩, B3⟩
      rw [unhide HX]
      exact ⟨rfl, by decide⟩

set_option maxHeartbeats 4000000 in
set_option maxRecDepth 1000000 in
theorem both13_any (glo : Option Addr) (N c : Nat) (D : EvD) (op : Int) (o : Bool) (ho : (op == 24) = o) (qa qb : R7) (ra rb : EvR) (w : World) (CA : (∀ w', Below w.heap.size w w' → Calls Tryz.prog 22 #[.agg #[.slice glo N c, .string D.p.t, .string D.p.i, .string D.a.t, .string D.a.i, .string D.r.t, .string D.r.i], .agg #[.int .i64 qa.k, .bool qa.b, .int .i64 qa.n, .string qa.s, .string qa.t, .string qa.i, .slice qa.lo qa.ll qa.lc]] w' fun e w'' => RetT (truC ra) e ∧ Below w'.heap.size w' w'')) (CB : (∀ w', Below w.heap.size w w' → Calls Tryz.prog 22 #[.agg #[.slice glo N c, .string D.p.t, .string D.p.i, .string D.a.t, .string D.a.i, .string D.r.t, .string D.r.i], .agg #[.int .i64 qb.k, .bool qb.b, .int .i64 qb.n, .string qb.s, .string qb.t, .string qb.i, .slice qb.lo qb.ll qb.lc]] w' fun e w'' => RetT (truC rb) e ∧ Below w'.heap.size w' w'')) :
    Calls Tryz.prog 17 #[.agg #[.slice glo N c, .string D.p.t, .string D.p.i, .string D.a.t, .string D.a.i, .string D.r.t, .string D.r.i], .int .i64 op, .agg #[.int .i64 qa.k, .bool qa.b, .int .i64 qa.n, .string qa.s, .string qa.t, .string qa.i, .slice qa.lo qa.ll qa.lc], .agg #[.int .i64 qb.k, .bool qb.b, .int .i64 qb.n, .string qb.s, .string qb.t, .string qb.i, .slice qb.lo qb.ll qb.lc]] w fun e w' => RetC w' (bothC o ra rb) e ∧ Below w.heap.size w w' := by
  obtain ⟨b1, z1, k1, k2, k3⟩ := ev3 w (.cells #[.slice glo N c, .string D.p.t, .string D.p.i, .string D.a.t, .string D.a.i, .string D.r.t, .string D.r.i] 54) (.cells #[.int .i64 qa.k, .bool qa.b, .int .i64 qa.n, .string qa.s, .string qa.t, .string qa.i, .slice qa.lo qa.ll qa.lc] 35) (.cells #[.int .i64 qb.k, .bool qb.b, .int .i64 qb.n, .string qb.s, .string qb.t, .string qb.i, .slice qb.lo qb.ll qb.lc] 35)
  unfold bothC
  generalize truC ra = ta at *
  generalize truC rb = tb at *
  go_enter Tryz.func17, Tryz.ntmps17
  go_upto_region 1 with fail
  generalize ((w.alloc _).alloc _).alloc _ = w1 at *
  have cw0 : w1.cell? ⟨w.heap.size, 0, none⟩ = some (.slice glo N c) := by rw [Lib.cell_of_heap k1]; rfl
  have cw1 : w1.cell? ⟨w.heap.size, 1, none⟩ = some (.string D.p.t) := by rw [Lib.cell_of_heap k1]; rfl
  have cw2 : w1.cell? ⟨w.heap.size, 2, none⟩ = some (.string D.p.i) := by rw [Lib.cell_of_heap k1]; rfl
  have cw3 : w1.cell? ⟨w.heap.size, 3, none⟩ = some (.string D.a.t) := by rw [Lib.cell_of_heap k1]; rfl
  have cw4 : w1.cell? ⟨w.heap.size, 4, none⟩ = some (.string D.a.i) := by rw [Lib.cell_of_heap k1]; rfl
  have cw5 : w1.cell? ⟨w.heap.size, 5, none⟩ = some (.string D.r.t) := by rw [Lib.cell_of_heap k1]; rfl
  have cw6 : w1.cell? ⟨w.heap.size, 6, none⟩ = some (.string D.r.i) := by rw [Lib.cell_of_heap k1]; rfl
  have ce0 : w1.cell? ⟨w.heap.size + 1, 0, none⟩ = some (.int .i64 qa.k) := by rw [Lib.cell_of_heap k2]; rfl
  have ce1 : w1.cell? ⟨w.heap.size + 1, 1, none⟩ = some (.bool qa.b) := by rw [Lib.cell_of_heap k2]; rfl
  have ce2 : w1.cell? ⟨w.heap.size + 1, 2, none⟩ = some (.int .i64 qa.n) := by rw [Lib.cell_of_heap k2]; rfl
  have ce3 : w1.cell? ⟨w.heap.size + 1, 3, none⟩ = some (.string qa.s) := by rw [Lib.cell_of_heap k2]; rfl
  have ce4 : w1.cell? ⟨w.heap.size + 1, 4, none⟩ = some (.string qa.t) := by rw [Lib.cell_of_heap k2]; rfl
  have ce5 : w1.cell? ⟨w.heap.size + 1, 5, none⟩ = some (.string qa.i) := by rw [Lib.cell_of_heap k2]; rfl
  have ce6 : w1.cell? ⟨w.heap.size + 1, 6, none⟩ = some (.slice qa.lo qa.ll qa.lc) := by rw [Lib.cell_of_heap k2]; rfl
  have C := CA w1 b1
  clear CA
  go_wp2_with fail
  refine C.mono ?_
  rintro e w3 ⟨⟨x, kk, rfl, hrt⟩, b3⟩
  have B3 := b1.trans (b3.mono b1.size)
  have k13 := kept_of_below b3 k1
  have k33 := kept_of_below b3 k3
  clear C cw0 ce0 cw1 ce1 cw2 ce2 cw3 ce3 cw4 ce4 cw5 ce5 cw6 ce6
  cases ta with
  | inr y =>
    obtain ⟨rfl, hx⟩ : kk = y ∧ y ≠ 0 := hrt
    have gx : (kk != 0) = true := by simpa using hx
    have HX := hide hx
    clear hx CB
    go_wp2
    go_ret2
    exact ⟨⟨_, _, rfl, rc_err _ (unhide HX)⟩, B3⟩
  | inl y =>
    obtain ⟨rfl, rfl⟩ : kk = 0 ∧ x = y := hrt
    by_cases hxo : x = o
    · subst hxo
      have gq : (x == x) = true := by simp
      clear CB
      go_wp2
      go_ret2
      refine ⟨⟨_, _, rfl, ?_⟩, B3⟩
      exact rc_bool _ _
    · have gq : (x == o) = false := by simpa using hxo
      have HXO := hide hxo
      clear hxo
      have cw0 : w3.cell? ⟨w.heap.size, 0, none⟩ = some (.slice glo N c) := by rw [Lib.cell_of_heap k13]; rfl
      have cw1 : w3.cell? ⟨w.heap.size, 1, none⟩ = some (.string D.p.t) := by rw [Lib.cell_of_heap k13]; rfl
      have cw2 : w3.cell? ⟨w.heap.size, 2, none⟩ = some (.string D.p.i) := by rw [Lib.cell_of_heap k13]; rfl
      have cw3 : w3.cell? ⟨w.heap.size, 3, none⟩ = some (.string D.a.t) := by rw [Lib.cell_of_heap k13]; rfl
      have cw4 : w3.cell? ⟨w.heap.size, 4, none⟩ = some (.string D.a.i) := by rw [Lib.cell_of_heap k13]; rfl
      have cw5 : w3.cell? ⟨w.heap.size, 5, none⟩ = some (.string D.r.t) := by rw [Lib.cell_of_heap k13]; rfl
      have cw6 : w3.cell? ⟨w.heap.size, 6, none⟩ = some (.string D.r.i) := by rw [Lib.cell_of_heap k13]; rfl
      have ce0 : w3.cell? ⟨w.heap.size + 2, 0, none⟩ = some (.int .i64 qb.k) := by rw [Lib.cell_of_heap k33]; rfl
      have ce1 : w3.cell? ⟨w.heap.size + 2, 1, none⟩ = some (.bool qb.b) := by rw [Lib.cell_of_heap k33]; rfl
      have ce2 : w3.cell? ⟨w.heap.size + 2, 2, none⟩ = some (.int .i64 qb.n) := by rw [Lib.cell_of_heap k33]; rfl
      have ce3 : w3.cell? ⟨w.heap.size + 2, 3, none⟩ = some (.string qb.s) := by rw [Lib.cell_of_heap k33]; rfl
      have ce4 : w3.cell? ⟨w.heap.size + 2, 4, none⟩ = some (.string qb.t) := by rw [Lib.cell_of_heap k33]; rfl
      have ce5 : w3.cell? ⟨w.heap.size + 2, 5, none⟩ = some (.string qb.i) := by rw [Lib.cell_of_heap k33]; rfl
      have ce6 : w3.cell? ⟨w.heap.size + 2, 6, none⟩ = some (.slice qb.lo qb.ll qb.lc) := by rw [Lib.cell_of_heap k33]; rfl
      have C := CB w3 B3
      clear CB
      go_wp2_with fail
      refine C.mono ?_
      rintro e w4 ⟨⟨x4, kk4, rfl, hrt⟩, b4⟩
      have HRT := hide hrt
      clear hrt C cw0 ce0 cw1 ce1 cw2 ce2 cw3 ce3 cw4 ce4 cw5 ce5 cw6 ce6
      go_wp2
      go_ret2
      refine ⟨⟨_, _, rfl, ?_⟩, B3.trans (b4.mono B3.size)⟩
      exact (unhide HRT).rc

set_option maxHeartbeats 4000000 in
set_option maxRecDepth 1000000 in
theorem if13_any (glo : Option Addr) (N c : Nat) (D : EvD) (qa qb qc : R7) (ra rb rc : EvR) (w : World) (CA : (∀ w', Below w.heap.size w w' → Calls Tryz.prog 22 #[.agg #[.slice glo N c, .string D.p.t, .string D.p.i, .string D.a.t, .string D.a.i, .string D.r.t, .string D.r.i], .agg #[.int .i64 qa.k, .bool qa.b, .int .i64 qa.n, .string qa.s, .string qa.t, .string qa.i, .slice qa.lo qa.ll qa.lc]] w' fun e w'' => RetT (truC ra) e ∧ Below w'.heap.size w' w'')) (CB : (∀ w', Below w.heap.size w w' → Calls Tryz.prog 13 #[.agg #[.slice glo N c, .string D.p.t, .string D.p.i, .string D.a.t, .string D.a.i, .string D.r.t, .string D.r.i], .agg #[.int .i64 qb.k, .bool qb.b, .int .i64 qb.n, .string qb.s, .string qb.t, .string qb.i, .slice qb.lo qb.ll qb.lc]] w' fun e w'' => RetC w'' rb e ∧ Below w'.heap.size w' w'')) (CC : (∀ w', Below w.heap.size w w' → Calls Tryz.prog 13 #[.agg #[.slice glo N c, .string D.p.t, .string D.p.i, .string D.a.t, .string D.a.i, .string D.r.t, .string D.r.i], .agg #[.int .i64 qc.k, .bool qc.b, .int .i64 qc.n, .string qc.s, .string qc.t, .string qc.i, .slice qc.lo qc.ll qc.lc]] w' fun e w'' => RetC w'' rc e ∧ Below w'.heap.size w' w'')) :
    Calls Tryz.prog 18 #[.agg #[.slice glo N c, .string D.p.t, .string D.p.i, .string D.a.t, .string D.a.i, .string D.r.t, .string D.r.i], .agg #[.int .i64 qa.k, .bool qa.b, .int .i64 qa.n, .string qa.s, .string qa.t, .string qa.i, .slice qa.lo qa.ll qa.lc], .agg #[.int .i64 qb.k, .bool qb.b, .int .i64 qb.n, .string qb.s, .string qb.t, .string qb.i, .slice qb.lo qb.ll qb.lc], .agg #[.int .i64 qc.k, .bool qc.b, .int .i64 qc.n, .string qc.s, .string qc.t, .string qc.i, .slice qc.lo qc.ll qc.lc]] w fun e w' => RetC w' (ifC ra rb rc) e ∧ Below w.heap.size w w' := by
  obtain ⟨b1, z1, k1, k2, k3, k4⟩ := ev4 w (.cells #[.slice glo N c, .string D.p.t, .string D.p.i, .string D.a.t, .string D.a.i, .string D.r.t, .string D.r.i] 54) (.cells #[.int .i64 qa.k, .bool qa.b, .int .i64 qa.n, .string qa.s, .string qa.t, .string qa.i, .slice qa.lo qa.ll qa.lc] 35) (.cells #[.int .i64 qb.k, .bool qb.b, .int .i64 qb.n, .string qb.s, .string qb.t, .string qb.i, .slice qb.lo qb.ll qb.lc] 35) (.cells #[.int .i64 qc.k, .bool qc.b, .int .i64 qc.n, .string qc.s, .string qc.t, .string qc.i, .slice qc.lo qc.ll qc.lc] 35)
  unfold ifC
  generalize truC ra = ta at *
  go_enter Tryz.func18, Tryz.ntmps18
  go_upto_region 1 with fail
  generalize (((w.alloc _).alloc _).alloc _).alloc _ = w1 at *
  have cw0 : w1.cell? ⟨w.heap.size, 0, none⟩ = some (.slice glo N c) := by rw [Lib.cell_of_heap k1]; rfl
  have cw1 : w1.cell? ⟨w.heap.size, 1, none⟩ = some (.string D.p.t) := by rw [Lib.cell_of_heap k1]; rfl
  have cw2 : w1.cell? ⟨w.heap.size, 2, none⟩ = some (.string D.p.i) := by rw [Lib.cell_of_heap k1]; rfl
  have cw3 : w1.cell? ⟨w.heap.size, 3, none⟩ = some (.string D.a.t) := by rw [Lib.cell_of_heap k1]; rfl
  have cw4 : w1.cell? ⟨w.heap.size, 4, none⟩ = some (.string D.a.i) := by rw [Lib.cell_of_heap k1]; rfl
  have cw5 : w1.cell? ⟨w.heap.size, 5, none⟩ = some (.string D.r.t) := by rw [Lib.cell_of_heap k1]; rfl
  have cw6 : w1.cell? ⟨w.heap.size, 6, none⟩ = some (.string D.r.i) := by rw [Lib.cell_of_heap k1]; rfl
  have ce0 : w1.cell? ⟨w.heap.size + 1, 0, none⟩ = some (.int .i64 qa.k) := by rw [Lib.cell_of_heap k2]; rfl
  have ce1 : w1.cell? ⟨w.heap.size + 1, 1, none⟩ = some (.bool qa.b) := by rw [Lib.cell_of_heap k2]; rfl
  have ce2 : w1.cell? ⟨w.heap.size + 1, 2, none⟩ = some (.int .i64 qa.n) := by rw [Lib.cell_of_heap k2]; rfl
  have ce3 : w1.cell? ⟨w.heap.size + 1, 3, none⟩ = some (.string qa.s) := by rw [Lib.cell_of_heap k2]; rfl
  have ce4 : w1.cell? ⟨w.heap.size + 1, 4, none⟩ = some (.string qa.t) := by rw [Lib.cell_of_heap k2]; rfl
  have ce5 : w1.cell? ⟨w.heap.size + 1, 5, none⟩ = some (.string qa.i) := by rw [Lib.cell_of_heap k2]; rfl
  have ce6 : w1.cell? ⟨w.heap.size + 1, 6, none⟩ = some (.slice qa.lo qa.ll qa.lc) := by rw [Lib.cell_of_heap k2]; rfl
  have C := CA w1 b1
  clear CA
  go_wp2_with fail
  refine C.mono ?_
  rintro e w3 ⟨⟨x, kk, rfl, hrt⟩, b3⟩
  have B3 := b1.trans (b3.mono b1.size)
  have k13 := kept_of_below b3 k1
  have k33 := kept_of_below b3 k3
  have k43 := kept_of_below b3 k4
  clear C cw0 ce0 cw1 ce1 cw2 ce2 cw3 ce3 cw4 ce4 cw5 ce5 cw6 ce6
  cases ta with
  | inr y =>
    obtain ⟨rfl, hx⟩ : kk = y ∧ y ≠ 0 := hrt
    have gx : (kk != 0) = true := by simpa using hx
    have HX := hide hx
    clear hx CB CC
    go_wp2
    go_ret2
    exact ⟨⟨_, _, rfl, rc_err _ (unhide HX)⟩, B3⟩
  | inl y =>
    obtain ⟨rfl, rfl⟩ : kk = 0 ∧ x = y := hrt
    have cw0 : w3.cell? ⟨w.heap.size, 0, none⟩ = some (.slice glo N c) := by rw [Lib.cell_of_heap k13]; rfl
    have cw1 : w3.cell? ⟨w.heap.size, 1, none⟩ = some (.string D.p.t) := by rw [Lib.cell_of_heap k13]; rfl
    have cw2 : w3.cell? ⟨w.heap.size, 2, none⟩ = some (.string D.p.i) := by rw [Lib.cell_of_heap k13]; rfl
    have cw3 : w3.cell? ⟨w.heap.size, 3, none⟩ = some (.string D.a.t) := by rw [Lib.cell_of_heap k13]; rfl
    have cw4 : w3.cell? ⟨w.heap.size, 4, none⟩ = some (.string D.a.i) := by rw [Lib.cell_of_heap k13]; rfl
    have cw5 : w3.cell? ⟨w.heap.size, 5, none⟩ = some (.string D.r.t) := by rw [Lib.cell_of_heap k13]; rfl
    have cw6 : w3.cell? ⟨w.heap.size, 6, none⟩ = some (.string D.r.i) := by rw [Lib.cell_of_heap k13]; rfl
    cases x
    · have ce0 : w3.cell? ⟨w.heap.size + 3, 0, none⟩ = some (.int .i64 qc.k) := by rw [Lib.cell_of_heap k43]; rfl
      have ce1 : w3.cell? ⟨w.heap.size + 3, 1, none⟩ = some (.bool qc.b) := by rw [Lib.cell_of_heap k43]; rfl
      have ce2 : w3.cell? ⟨w.heap.size + 3, 2, none⟩ = some (.int .i64 qc.n) := by rw [Lib.cell_of_heap k43]; rfl
      have ce3 : w3.cell? ⟨w.heap.size + 3, 3, none⟩ = some (.string qc.s) := by rw [Lib.cell_of_heap k43]; rfl
      have ce4 : w3.cell? ⟨w.heap.size + 3, 4, none⟩ = some (.string qc.t) := by rw [Lib.cell_of_heap k43]; rfl
      have ce5 : w3.cell? ⟨w.heap.size + 3, 5, none⟩ = some (.string qc.i) := by rw [Lib.cell_of_heap k43]; rfl
      have ce6 : w3.cell? ⟨w.heap.size + 3, 6, none⟩ = some (.slice qc.lo qc.ll qc.lc) := by rw [Lib.cell_of_heap k43]; rfl
      have C := CC w3 B3
      clear CB CC
      go_wp2_with fail
      refine C.mono ?_
      rintro e w4 ⟨⟨x4, kk4, rfl, hrc⟩, b4⟩
      have HRC := hide hrc
      clear hrc C cw0 ce0 cw1 ce1 cw2 ce2 cw3 ce3 cw4 ce4 cw5 ce5 cw6 ce6
      go_wp2
      go_ret2
      exact ⟨⟨_, _, rfl, unhide HRC⟩, B3.trans (b4.mono B3.size)⟩
    · have ce0 : w3.cell? ⟨w.heap.size + 2, 0, none⟩ = some (.int .i64 qb.k) := by rw [Lib.cell_of_heap k33]; rfl
      have ce1 : w3.cell? ⟨w.heap.size + 2, 1, none⟩ = some (.bool qb.b) := by rw [Lib.cell_of_heap k33]; rfl
      have ce2 : w3.cell? ⟨w.heap.size + 2, 2, none⟩ = some (.int .i64 qb.n) := by rw [Lib.cell_of_heap k33]; rfl
      have ce3 : w3.cell? ⟨w.heap.size + 2, 3, none⟩ = some (.string qb.s) := by rw [Lib.cell_of_heap k33]; rfl
      have ce4 : w3.cell? ⟨w.heap.size + 2, 4, none⟩ = some (.string qb.t) := by rw [Lib.cell_of_heap k33]; rfl
      have ce5 : w3.cell? ⟨w.heap.size + 2, 5, none⟩ = some (.string qb.i) := by rw [Lib.cell_of_heap k33]; rfl
      have ce6 : w3.cell? ⟨w.heap.size + 2, 6, none⟩ = some (.slice qb.lo qb.ll qb.lc) := by rw [Lib.cell_of_heap k33]; rfl
      have C := CB w3 B3
      clear CB CC
      go_wp2_with fail
      refine C.mono ?_
      rintro e w4 ⟨⟨x4, kk4, rfl, hrc⟩, b4⟩
      have HRC := hide hrc
      clear hrc C cw0 ce0 cw1 ce1 cw2 ce2 cw3 ce3 cw4 ce4 cw5 ce5 cw6 ce6
      go_wp2
      go_ret2
      exact ⟨⟨_, _, rfl, unhide HRC⟩, B3.trans (b4.mono B3.size)⟩
end Go.Proofs.YtbbongdnnmanlaaGreat
