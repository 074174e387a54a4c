/-
  Package eval: of, Expr.
  Package eval: Expr: what it returns.
-/
import Derived.Test.YtbbongdnnmanlaaGreatEvNO
import Derived.Deep.CutRange
namespace Go.Proofs.YtbbongdnnmanlaaGreat
open Go.RowKit Go.Sort

theorem getD_map {D : EvD} (l : List Ex) (j : Nat) (h : j < l.length) (d : EvR) : (l.map (evalE D)).getD j d = evalE D l[j] := by
  simp [List.getD, h]
def kidsC (D : EvD) (k : Int) (b : Bool) (m : Int) (s t i : List UInt8) : List GV ⊕ Int → EvR
  | .inl gs => nodeC D k b m s t i gs
  | .inr e => .inr e
theorem combC_two {D : EvD} {k : Int} {b : Bool} {m : Int} {s t i : List UInt8} {l : List Ex} (h : (decide (k = 23) || decide (k = 24)) = true) (hl : l.length = 2) : combC D k b m s t i (l.map (evalE D)) = bothC (decide (k = 24)) (evalE D (l[0]'(by omega))) (evalE D (l[1]'(by omega))) := by
  unfold combC
  rw [if_pos ⟨by simpa using h, by simpa using hl⟩]
  congr 1
  · exact getD_map l _ (by omega) _
  · exact getD_map l _ (by omega) _
theorem combC_three {D : EvD} {b : Bool} {m : Int} {s t i : List UInt8} {l : List Ex} (hl : l.length = 3) : combC D 25 b m s t i (l.map (evalE D)) = ifC (evalE D (l[0]'(by omega))) (evalE D (l[1]'(by omega))) (evalE D (l[2]'(by omega))) := by
  unfold combC
  rw [if_neg (fun h => by rcases h.1 with h | h <;> cases h), if_pos ⟨rfl, by simpa using hl⟩]
  congr 1
  · exact getD_map l _ (by omega) _
  · exact getD_map l _ (by omega) _
  · exact getD_map l _ (by omega) _
theorem combC_else {D : EvD} {k : Int} {b : Bool} {m : Int} {s t i : List UInt8} {l : List Ex} (h1 : ((decide (k = 23) || decide (k = 24)) && decide (l.length = 2)) = false) (h2 : (decide (k = 25) && decide (l.length = 3)) = false) : combC D k b m s t i (l.map (evalE D)) = kidsC D k b m s t i (allR (l.map (evalE D))) := by
  unfold combC
  rw [List.length_map, if_neg (fun h => by rcases h with ⟨h | h, h'⟩ <;> simp [h, h'] at h1), if_neg (fun h => by simp [h.1, h.2] at h2)]
  cases allR (l.map (evalE D)) <;> rfl
/-- The kids that are looked at so far all came to something. -/
structure AllI (l : List EvR) (j : Nat) (gs : List GV) : Prop where
  le : j ≤ l.length
  len : gs.length = j
  at_ : ∀ k (h : k < l.length) (h' : k < gs.length), l[k] = .inl gs[k]
theorem AllI.done : ∀ {l : List EvR} {gs : List GV}, AllI l l.length gs → allR l = .inl gs
  | [], gs, h => by
    have := h.len
    rw [List.eq_nil_of_length_eq_zero this]
    rfl
  | r :: l, [], h => by
    have := h.len
    simp at this
  | r :: l, g :: gs, h => by
    have h0 : r = .inl g := h.at_ 0 (by simp) (by simp)
    have ih : AllI l l.length gs := ⟨Nat.le_refl _, by have := h.len; simpa using this, fun k hk hk' => h.at_ (k + 1) (by simpa using hk) (by simpa using hk')⟩
    rw [h0, allR, ih.done]
theorem AllI.err : ∀ {l : List EvR} {gs : List GV} {j : Nat} {e : Int}, AllI l j gs → ∀ (h : j < l.length), l[j] = .inr e → allR l = .inr e
  | [], _, _, _, _, h, _ => absurd h (Nat.not_lt_zero _)
  | r :: l, [], j, e, h, hj, he => by
    have := h.len
    simp at this
    subst this
    have he : r = .inr e := he
    rw [he]
    rfl
  | r :: l, g :: gs, j, e, h, hj, he => by
    have h0 : r = .inl g := h.at_ 0 (by simp) (by simp)
    have hl := h.len
    cases j with
    | zero => simp at hl
    | succ j =>
      have ih : AllI l j gs := ⟨by have := h.le; simpa using this, by simpa using hl, fun k hk hk' => h.at_ (k + 1) (by simpa using hk) (by simpa using hk')⟩
      have := ih.err (by simpa using hj) (by simpa using he)
      rw [h0, allR, this]
theorem AllI.next {l : List EvR} {j : Nat} {gs : List GV} {g : GV} (h : AllI l j gs) (hj : j < l.length) (hg : l[j] = .inl g) : AllI l (j + 1) (gs ++ [g]) := by
  refine ⟨hj, by simp [h.len], fun k hk hk' => ?_⟩
  by_cases hkg : k < gs.length
  · rw [List.getElem_append_left hkg]
    exact h.at_ k hk hkg
  · have e : k = gs.length := by simp at hk'; omega
    subst e
    rw [List.getElem_append_right (Nat.le_refl _)]
    have hl := h.len
    subst hl
    simpa using hg
theorem inConE : (Tryz.prog.info? 51).map (fun i => (i.zero.isSome, i.size, i.bytes)) = some (true, 1, 16) := by kernel_rfl
theorem infoConE : (Tryz.prog.info? 51).map (fun i => (i.zero, i.size, i.bytes)) = some (some .nilIface, 1, 16) := by kernel_rfl
/-- Contents stay as they are where only a block of contents is turned. -/
theorem IsC.turn {w w' : World} {g : GV} {v : Value} {blk : Option Nat} (h : IsC w g v) (hg : w.grownBy w' blk) (hb : ∀ k, blk = some k → ∃ cur fz, w.heap[k]? = some (.cells cur 51 fz)) : IsC w' g v := by
  obtain ⟨h0, h⟩ := h
  refine ⟨h0, ?_⟩
  cases g with
  | pl p => exact h
  | set l =>
    obtain ⟨ao, c, e, hr, hty⟩ := h
    have key : ∀ ad, ao = some ad → ad.block < w.heap.size ∧ w'.heap[ad.block]? = w.heap[ad.block]? := fun ad ea => by
      obtain ⟨_, cur, fz, hc⟩ := hty ad ea
      have hlt := (Array.getElem?_eq_some_iff.1 hc).1
      refine ⟨hlt, hg.block _ hlt fun e2 => ?_⟩
      obtain ⟨cur2, fz2, hc2⟩ := hb _ e2.symm
      rw [hc] at hc2
      injection hc2 with hc2
      injection hc2 with _ hT
      exact absurd hT (by decide)
    refine ⟨ao, c, e, fun j hj => ?_, fun ad ea => ?_⟩
    · obtain ⟨b, off, ea, hlt, hc⟩ := hr j hj
      obtain ⟨_, hk⟩ := key _ ea
      refine ⟨b, off, ea, Nat.lt_of_lt_of_le hlt hg.size, fun cc u hu => ?_⟩
      exact (World.cell?_of_block (w := w) (w' := w') (a := ⟨b, off + j * 7 + cc, none⟩) hk).trans (hc cc u hu)
    · obtain ⟨h1, cur, fz, hc⟩ := hty ad ea
      exact ⟨h1, cur, fz, (key ad ea).2.trans hc⟩
theorem own_tyC {w : World} {B : Nat} {v : Value} {n : Nat} {xs : List Value} (h : w.ownsRow B 51 1 v n xs) : ∀ k, v.ownBlock = some k → ∃ cur fz, w.heap[k]? = some (.cells cur 51 fz) := fun k hk => by
  rcases h.2 with ⟨rfl, _⟩ | ⟨g, c, cur, rfl, _, hg, _⟩
  · cases hk
  · injection hk with hk
    subst hk
    exact ⟨cur, _, hg⟩
theorem AllC.snoc {w : World} {gs : List GV} {vs : List Value} {g : GV} {v : Value} (h : AllC w gs vs) (hg : IsC w g v) : AllC w (gs ++ [g]) (vs ++ [v]) := by
  refine ⟨by simp [h.1], fun j h1 h2 => ?_⟩
  by_cases hj : j < gs.length
  · rw [List.getElem_append_left hj, List.getElem_append_left (by rw [← h.1]; exact hj)]
    exact h.2 j hj _
  · have e : j = gs.length := by simp at h1; omega
    subst e
    rw [List.getElem_append_right (Nat.le_refl _), List.getElem_append_right (by rw [h.1]; exact Nat.le_refl _)]
    simpa [h.1] using hg
theorem rowC_own {w : World} {B : Nat} {v : Value} {vs : List Value} (h : w.ownsRow B 51 1 v vs.length vs) : ∃ ao cap, v = .slice ao vs.length cap ∧ RowC w ao vs := by
  obtain ⟨ao, cap, hv⟩ := owns_slice h
  refine ⟨ao, cap, hv, fun j hj => ?_⟩
  obtain ⟨g, cap2, hv2, _, hg, _, hc⟩ := owns_open h (by omega)
  rw [hv] at hv2
  injection hv2 with e1
  exact ⟨g, 0, e1, hg, by rw [Nat.zero_add]; exact hc j _ (List.getElem?_eq_getElem hj)⟩
theorem liftX {w w' : World} {q : R7} {e : Ex} (h : IsE w (fun _ => True) q e) (hb : Below w.heap.size w w') : IsE w' (fun _ => True) q e := IsE.turn hb.size (fun b _ hl => ⟨hb.block b hl, trivial⟩) q e h

set_option maxHeartbeats 8000000 in
set_option maxRecDepth 1000000 in
theorem of13_any (glo : Option Addr) (gs : List E4) (c : Nat) (D : EvD) : ∀ (n : Nat) (e : Ex), depE e ≤ n → okEv e = true → ∀ (q : R7) (w : World), EW w glo gs D → IsE w (fun _ => True) q e →
    Calls Tryz.prog 13 #[wV glo gs.length c D, .agg #[.int .i64 q.k, .bool q.b, .int .i64 q.n, .string q.s, .string q.t, .string q.i, .slice q.lo q.ll q.lc]] w fun en w' => RetC w' (evalE D e) en ∧ Below w.heap.size w w' := by
  intro n
  induction n with
  | zero =>
    intro e hd
    cases e
    unfold depE at hd
    omega
  | succ n ih =>
    intro e hd hok q w hE hq
    obtain ⟨k, b, m, s, t, i, l⟩ := e
    unfold IsE at hq
    obtain ⟨q1, q2, q3, q4, q5, q6, q7, q8⟩ := hq
    obtain ⟨qk, qb, qn, qs, qt, qi, lo, Ln, lc⟩ := q
    simp only at q1 q2 q3 q4 q5 q6 q7 q8
    subst q1 q2 q3 q4 q5 q6
    simp only
    rw [okEv] at hok
    simp only [Bool.and_eq_true, decide_eq_true_eq] at hok
    obtain ⟨⟨⟨hm, hs⟩, hl5⟩, hokl⟩ := hok
    have hdl : depL l ≤ n := by
      unfold depE at hd
      omega
    have hLb : Ln ≤ 100000 := by rw [q7]; exact hl5
    obtain ⟨N, hN⟩ : ∃ N, N = gs.length := ⟨_, rfl⟩
    have IH := fun (j : Nat) (hj : j < l.length) (x : R7) (w' : World) (hb : Below w.heap.size w w') (hx : IsE w (fun _ => True) x l[j]) => ih l[j] (Nat.le_trans (depL_get l j hj) hdl) (okEvL_get l j hj hokl) x w' (hE.below hb) (liftX hx hb)
    have HND := fun (kids : List GV) (vs : List Value) (lo2 : Option Addr) (cap2 n2 : Nat) (w' : World) (hb : Below w.heap.size w w') => node13_any glo gs c D qk qb qn s t i lo Ln lc kids vs lo2 cap2 n2 w' (hE.below hb) hm hs
    unfold wV at IH HND ⊢
    rw [← hN] at IH HND ⊢
    have HIH := hide IH
    have HNODE := hide HND
    clear IH HND ih hd hdl hokl hm hs hE hl5 hN
    have HK := hide q8
    have HL := hide q7
    clear q7 q8
    obtain ⟨r, hr⟩ : ∃ r, r = evalE D (.mk qk qb qn s t i l) := ⟨_, rfl⟩
    rw [← hr]
    have HR := hide (hr.trans (evalE_mk D qk qb qn s t i l))
    clear hr
    obtain ⟨y1, hy1⟩ : ∃ y, y = ((decide (qk = 23) || decide (qk = 24)) && decide (Ln = 2)) := ⟨_, rfl⟩
    obtain ⟨y2, hy2⟩ : ∃ y, y = (decide (qk = 25) && decide (Ln = 3)) := ⟨_, rfl⟩
    have HY1 := hide hy1
    have HY2 := hide hy2
    clear hy1 hy2
    obtain ⟨b1, zz0, k1, k2⟩ := ev2 w (.cells #[.slice glo N c, .string D.p.t, .string D.p.i, .string D.a.t, .string D.a.i, .string D.r.t, .string D.r.i] 54) (.cells #[.int .i64 qk, .bool qb, .int .i64 qn, .string (ba s), .string (ba t), .string (ba i), .slice lo Ln lc] 35)
    have zz := Nat.le_of_eq zz0.symm
    clear zz0
    go_enter Tryz.func13, Tryz.ntmps13
    go_upto_region 1 with fail
    generalize (w.alloc _).alloc _ = w1 at *
    have ce0 : w1.cell? ⟨w.heap.size + 1, 0, none⟩ = some (.int .i64 qk) := by rw [Lib.cell_of_heap k2]; rfl
    have ce6 : w1.cell? ⟨w.heap.size + 1, 6, none⟩ = some (.slice lo Ln lc) := by rw [Lib.cell_of_heap k2]; rfl
    go_cut [11] from 12 to 25 (fun v wx => v = .bool y1 ∧ wx = w1)
    case first =>
      by_cases h23 : qk = 23
      · have g23 : (qk == 23) = true := by simpa using h23
        by_cases hL2 : Ln = 2
        · have gL : ((Ln : Int) == 2) = true := by rw [hL2]; rfl
          have HZ := hide (show true = y1 by rw [unhide HY1, h23, hL2]; rfl)
          clear h23 hL2
          go_wp2_with fail
          go_meet
          case rel => exact ⟨by rw [← unhide HZ], rfl⟩
        · have gL : ((Ln : Int) == 2) = false := ne_beq (by omega)
          have HZ := hide (show false = y1 by rw [unhide HY1, decide_eq_false hL2, Bool.and_false])
          clear h23 hL2
          go_wp2_with fail
          go_meet
          case rel => exact ⟨by rw [← unhide HZ], rfl⟩
      · have g23 := ne_beq h23
        by_cases h24 : qk = 24
        · have g24 : (qk == 24) = true := by simpa using h24
          by_cases hL2 : Ln = 2
          · have gL : ((Ln : Int) == 2) = true := by rw [hL2]; rfl
            have HZ := hide (show true = y1 by rw [unhide HY1, h24, hL2]; rfl)
            clear h23 h24 hL2
            go_wp2_with fail
            go_meet
            case rel => exact ⟨by rw [← unhide HZ], rfl⟩
          · have gL : ((Ln : Int) == 2) = false := ne_beq (by omega)
            have HZ := hide (show false = y1 by rw [unhide HY1, decide_eq_false hL2, Bool.and_false])
            clear h23 h24 hL2
            go_wp2_with fail
            go_meet
            case rel => exact ⟨by rw [← unhide HZ], rfl⟩
        · have g24 := ne_beq h24
          have HZ := hide (show false = y1 by rw [unhide HY1, decide_eq_false h23, decide_eq_false h24]; rfl)
          clear h23 h24
          go_wp2_with fail
          go_meet
          case rel => exact ⟨by rw [← unhide HZ], rfl⟩
    case rest =>
      rename World => wx
      obtain ⟨rfl, rfl⟩ := hcut
      cases y1
      · go_upto_region 3 with fail
        go_cut [40] from 41 to 49 (fun v wx2 => v = .bool y2 ∧ wx2 = wx)
        case first =>
          by_cases h25 : qk = 25
          · have g25 : (qk == 25) = true := by simpa using h25
            by_cases hL3 : Ln = 3
            · have gL : ((Ln : Int) == 3) = true := by rw [hL3]; rfl
              have HZ := hide (show true = y2 by rw [unhide HY2, h25, hL3]; rfl)
              clear h25 hL3
              go_wp2_with fail
              go_meet
              case rel => exact ⟨by rw [← unhide HZ], rfl⟩
            · have gL : ((Ln : Int) == 3) = false := ne_beq (by omega)
              have HZ := hide (show false = y2 by rw [unhide HY2, decide_eq_false hL3, Bool.and_false])
              clear h25 hL3
              go_wp2_with fail
              go_meet
              case rel => exact ⟨by rw [← unhide HZ], rfl⟩
          · have g25 := ne_beq h25
            have HZ := hide (show false = y2 by rw [unhide HY2, decide_eq_false h25]; rfl)
            clear h25
            go_wp2_with fail
            go_meet
            case rel => exact ⟨by rw [← unhide HZ], rfl⟩
        case rest =>
          rename World => wy
          obtain ⟨rfl, rfl⟩ := hcut
          cases y2
          · have HX := hide ((unhide HR).trans (combC_else (by rw [← unhide HL]; exact (unhide HY1).symm) (by rw [← unhide HL]; exact (unhide HY2).symm)))
            clear HR HY1 HY2 ce0
            obtain ⟨rest, hre, hmk⟩ := make_rowZ (P := Tryz.prog) 61 51 1 16 Ln (Ln : Int) Tryz.underlying61 inConE rfl (by omega) (by decide)
            obtain ⟨iV, hiV, hz0, hz1, hz2⟩ := info_partsE infoConE
            have b2 := ev1 wy (.cells rest.toArray 51)
            have own2 : (wy.alloc (.cells rest.toArray 51)).ownsRow wy.heap.size 51 1 (.slice (some ⟨wy.heap.size, 0, none⟩) 0 Ln) 0 [] := ⟨rfl, .inr ⟨wy.heap.size, Ln, _, rfl, Nat.le_refl _, alloc_heap _ _, Nat.zero_le _, by unfold maxLen; omega, by simp [hre], by simp⟩⟩
            have ce6' := (b2.cell (p := ⟨w.heap.size + 1, 6, none⟩) (by show w.heap.size + 1 < _; omega)).trans ce6
            have Hown2 := hide own2
            clear hre own2
            go_upto_region 6 with fail
            generalize wy.alloc _ = w2 at *
            clear ce6 hmk
            go_wp2_with fail
            clear ce6'
            go_loopw [6, 73] (fun kv iv wr => ∃ (j : Nat) (vs : List Value) (gs' : List GV), iv = .int .i64 j ∧ j ≤ Ln ∧ vs.length = j ∧ Below wy.heap.size wy wr ∧ wr.ownsRow wy.heap.size 51 1 kv vs.length vs ∧ AllC wr gs' vs ∧ AllI (l.map (evalE D)) j gs') (fun _ iv _ => Ln - (intOf iv).toNat)
            case atStart => exact ⟨0, [], [], by go_num, Nat.zero_le _, rfl, b2, unhide Hown2, ⟨rfl, fun j h => absurd h (Nat.not_lt_zero _)⟩, ⟨Nat.zero_le _, rfl, fun k h h' => absurd h' (Nat.not_lt_zero _)⟩⟩
            case round =>
              rename Value => kv
              obtain ⟨j, vs, gs', rfl, hjl, hvl, hbw, hown, hall, hi⟩ := hrel
              have Hown := hide hown
              have Hall := hide hall
              have Hi := hide hi
              have Hvl := hide hvl
              clear hown hall hi hvl
              have b0r := b1.trans (hbw.mono b1.size)
              have k1r := kept_of_below hbw k1
              have k2r := kept_of_below hbw k2
              by_cases hlt : j < Ln
              · have i0 : (0 : Int) ≤ (j : Int) := by omega
                have i1 : (j : Int) < (Ln : Int) := by omega
                have hlt' : j < l.length := by rw [← unhide HL]; exact hlt
                obtain ⟨x, g, off, rfl, hg, hat0, hx⟩ := IsEs.get l 0 j hlt' (unhide HK)
                have hat := hat0.below b0r hg
                rw [Nat.zero_add] at hat
                obtain ⟨a0, a1, a2, a3, a4, a5, a6⟩ := hat
                have C := fun w' (hb : Below w.heap.size w w') => unhide HIH j hlt' x w' hb hx
                have HAT := hide (show ∀ (h : j < (l.map (evalE D)).length), (l.map (evalE D))[j] = evalE D l[j] from fun h => List.getElem_map _)
                obtain ⟨X, hX⟩ : ∃ X, X = evalE D l[j] := ⟨_, rfl⟩
                rw [← hX] at C HAT
                have HJ := hide (show j < (l.map (evalE D)).length by rw [List.length_map]; exact hlt')
                clear hX hat0 hx hlt'
                have b4 := ev1 wr (.cells #[.int .i64 x.k, .bool x.b, .int .i64 x.n, .string x.s, .string x.t, .string x.i, .slice x.lo x.ll x.lc] 35)
                have h4 := alloc_heap wr (.cells #[.int .i64 x.k, .bool x.b, .int .i64 x.n, .string x.s, .string x.t, .string x.i, .slice x.lo x.ll x.lc] 35)
                have b04 := b0r.trans (b4.mono b0r.size)
                have k14 := kept_of_below b4 k1r
                have bw4 := hbw.trans (b4.mono hbw.size)
                go_upto_region 9 with fail
                have Hown4 := hide (owns_below b4 (unhide Hown))
                have Hall4 := hide ((unhide Hall).below b4)
                generalize wr.alloc _ = w4 at *
                clear a0 a1 a2 a3 a4 a5 a6 Hown Hall
                have cw0 : w4.cell? ⟨w.heap.size, 0, none⟩ = some (.slice glo N c) := by rw [Lib.cell_of_heap k14]; rfl
                have cw1 : w4.cell? ⟨w.heap.size, 1, none⟩ = some (.string D.p.t) := by rw [Lib.cell_of_heap k14]; rfl
                have cw2 : w4.cell? ⟨w.heap.size, 2, none⟩ = some (.string D.p.i) := by rw [Lib.cell_of_heap k14]; rfl
                have cw3 : w4.cell? ⟨w.heap.size, 3, none⟩ = some (.string D.a.t) := by rw [Lib.cell_of_heap k14]; rfl
                have cw4 : w4.cell? ⟨w.heap.size, 4, none⟩ = some (.string D.a.i) := by rw [Lib.cell_of_heap k14]; rfl
                have cw5 : w4.cell? ⟨w.heap.size, 5, none⟩ = some (.string D.r.t) := by rw [Lib.cell_of_heap k14]; rfl
                have cw6 : w4.cell? ⟨w.heap.size, 6, none⟩ = some (.string D.r.i) := by rw [Lib.cell_of_heap k14]; rfl
                have cx0 : w4.cell? ⟨wr.heap.size, 0, none⟩ = some (.int .i64 x.k) := by rw [Lib.cell_of_heap h4]; rfl
                have cx1 : w4.cell? ⟨wr.heap.size, 1, none⟩ = some (.bool x.b) := by rw [Lib.cell_of_heap h4]; rfl
                have cx2 : w4.cell? ⟨wr.heap.size, 2, none⟩ = some (.int .i64 x.n) := by rw [Lib.cell_of_heap h4]; rfl
                have cx3 : w4.cell? ⟨wr.heap.size, 3, none⟩ = some (.string x.s) := by rw [Lib.cell_of_heap h4]; rfl
                have cx4 : w4.cell? ⟨wr.heap.size, 4, none⟩ = some (.string x.t) := by rw [Lib.cell_of_heap h4]; rfl
                have cx5 : w4.cell? ⟨wr.heap.size, 5, none⟩ = some (.string x.i) := by rw [Lib.cell_of_heap h4]; rfl
                have cx6 : w4.cell? ⟨wr.heap.size, 6, none⟩ = some (.slice x.lo x.ll x.lc) := by rw [Lib.cell_of_heap h4]; rfl
                have C := C w4 b04
                go_wp2_with fail
                refine C.mono ?_
                rintro e9 w5 ⟨⟨v5, kk, rfl, hrc⟩, b5⟩
                have b05 := b04.trans (b5.mono b04.size)
                have bw5 := bw4.trans (b5.mono bw4.size)
                have Hown5 := hide (owns_below b5 (unhide Hown4))
                have Hall5 := hide ((unhide Hall4).below b5)
                clear C cw0 cw1 cw2 cw3 cw4 cw5 cw6 cx0 cx1 cx2 cx3 cx4 cx5 cx6 Hown4 Hall4
                cases X with
                | inr y =>
                  obtain ⟨rfl, hy⟩ : kk = y ∧ y ≠ 0 := hrc
                  have gx : (kk != 0) = true := by simpa using hy
                  have HE2 := hide ((unhide HX).trans (show kidsC D qk qb qn s t i (allR (l.map (evalE D))) = .inr kk by rw [(unhide Hi).err (unhide HJ) (unhide HAT (unhide HJ))]; rfl))
                  have HY := hide hy
                  clear hy
                  go_wp2
                  go_ret2
                  refine ⟨⟨_, _, rfl, ?_⟩, b05⟩
                  rw [unhide HE2]
                  exact rc_err _ (unhide HY)
                | inl y =>
                  obtain ⟨rfl, hc⟩ : kk = 0 ∧ IsC w5 y v5 := hrc
                  obtain ⟨vT, vx, rfl, _⟩ := c_form hc
                  have Hi2 := hide ((unhide Hi).next (unhide HJ) (unhide HAT (unhide HJ)))
                  have b6 := ev1 w5 (.cells #[.iface vT vx] 51)
                  have h6 := alloc_heap w5 (.cells #[.iface vT vx] 51)
                  have Hown6 := hide (owns_below b6 (unhide Hown5))
                  have Hall6 := hide (((unhide Hall5).below b6).snoc (hc.below b6))
                  have bw6 := bw5.trans (b6.mono bw5.size)
                  have z6 := bw6.size
                  clear hc Hown5 Hall5 Hi
                  go_wp2_with (at_builtin; refine wpList_append_own_at _ rfl _ _ 61 rfl wy.heap.size 51 iV _ 1 16 Tryz.underlying61 hiV hz0 hz1 hz2 rfl (by decide) _ _ _ rfl (unhide Hown6) ⟨w5.heap.size, 0, none⟩ 1 1 [.iface vT vx] rfl rfl ?p1 ?p2 ?p3 ?p4 ?p5 ?_)
                  case p1 =>
                    intro cc u hu
                    rw [Addr.add_lit, Nat.zero_add, Lib.cell_of_heap h6]
                    simpa using hu
                  case p2 =>
                    intro u hu
                    simp only [List.mem_cons, List.not_mem_nil, or_false] at hu
                    rw [hu]
                    rfl
                  case p3 => have := unhide Hvl; unfold maxLen; omega
                  case p4 => have := unhide Hvl; omega
                  case p5 => first | exact z6 | simpa using z6
                  intro v8 w8 hown8 hgrow _ _
                  have hown8' : w8.ownsRow wy.heap.size 51 1 v8 (vs ++ [Value.iface vT vx]).length (vs ++ [Value.iface vT vx]) := by
                    rw [List.length_append]
                    exact hown8
                  have bw8 : Below wy.heap.size wy w8 := bw6.grown hgrow bw6.size (fun j hj => ((unhide Hown6).lt j hj).1)
                  have hall8 : AllC w8 (gs' ++ [y]) (vs ++ [Value.iface vT vx]) := ⟨(unhide Hall6).1, fun a h1 h2 => ((unhide Hall6).2 a h1 h2).turn hgrow (own_tyC (unhide Hown6))⟩
                  have H8 := hide hown8'
                  have HA8 := hide hall8
                  clear hown8 hown8' hgrow hall8 Hown6 Hall6 h6
                  go_wp2
                  go_roundw
                  case rel => exact ⟨j + 1, vs ++ [Value.iface vT vx], gs' ++ [y], by go_num, by omega, by rw [List.length_append]; simp [unhide Hvl], bw8, unhide H8, unhide HA8, unhide Hi2⟩
                  case measure =>
                    simp only [intOf]
                    omega
              · have i1 : ¬ (j : Int) < (Ln : Int) := by omega
                have HE2 := hide ((unhide HX).trans (show kidsC D qk qb qn s t i (allR (l.map (evalE D))) = nodeC D qk qb qn s t i gs' by
                  have h9 := unhide Hi
                  have : j = (l.map (evalE D)).length := by
                    rw [List.length_map, ← unhide HL]
                    omega
                  rw [this] at h9
                  rw [h9.done]
                  rfl))
                obtain ⟨ao, cp, rfl, hrow⟩ := rowC_own (unhide Hown)
                have C := unhide HNODE gs' vs ao cp vs.length wr b0r rfl (by rw [unhide Hvl]; omega) hrow (unhide Hall)
                rw [← unhide HE2] at C
                clear hrow Hown Hall Hi
                generalize vs.length = vl at *
                have cw0 : wr.cell? ⟨w.heap.size, 0, none⟩ = some (.slice glo N c) := by rw [Lib.cell_of_heap k1r]; rfl
                have cw1 : wr.cell? ⟨w.heap.size, 1, none⟩ = some (.string D.p.t) := by rw [Lib.cell_of_heap k1r]; rfl
                have cw2 : wr.cell? ⟨w.heap.size, 2, none⟩ = some (.string D.p.i) := by rw [Lib.cell_of_heap k1r]; rfl
                have cw3 : wr.cell? ⟨w.heap.size, 3, none⟩ = some (.string D.a.t) := by rw [Lib.cell_of_heap k1r]; rfl
                have cw4 : wr.cell? ⟨w.heap.size, 4, none⟩ = some (.string D.a.i) := by rw [Lib.cell_of_heap k1r]; rfl
                have cw5 : wr.cell? ⟨w.heap.size, 5, none⟩ = some (.string D.r.t) := by rw [Lib.cell_of_heap k1r]; rfl
                have cw6 : wr.cell? ⟨w.heap.size, 6, none⟩ = some (.string D.r.i) := by rw [Lib.cell_of_heap k1r]; rfl
                have ce0 : wr.cell? ⟨w.heap.size + 1, 0, none⟩ = some (.int .i64 qk) := by rw [Lib.cell_of_heap k2r]; rfl
                have ce1 : wr.cell? ⟨w.heap.size + 1, 1, none⟩ = some (.bool qb) := by rw [Lib.cell_of_heap k2r]; rfl
                have ce2 : wr.cell? ⟨w.heap.size + 1, 2, none⟩ = some (.int .i64 qn) := by rw [Lib.cell_of_heap k2r]; rfl
                have ce3 : wr.cell? ⟨w.heap.size + 1, 3, none⟩ = some (.string (ba s)) := by rw [Lib.cell_of_heap k2r]; rfl
                have ce4 : wr.cell? ⟨w.heap.size + 1, 4, none⟩ = some (.string (ba t)) := by rw [Lib.cell_of_heap k2r]; rfl
                have ce5 : wr.cell? ⟨w.heap.size + 1, 5, none⟩ = some (.string (ba i)) := by rw [Lib.cell_of_heap k2r]; rfl
                have ce6 : wr.cell? ⟨w.heap.size + 1, 6, none⟩ = some (.slice lo Ln lc) := by rw [Lib.cell_of_heap k2r]; rfl
                go_wp2_with fail
                refine C.mono ?_
                rintro e9 w5 ⟨⟨v5, kk, rfl, hrc⟩, b5⟩
                have HRC := hide hrc
                clear hrc C cw0 cw1 cw2 cw3 cw4 cw5 cw6 ce0 ce1 ce2 ce3 ce4 ce5 ce6
                go_wp2
                go_ret2
                exact ⟨⟨_, _, rfl, unhide HRC⟩, b0r.trans (b5.mono b0r.size)⟩
          · have hL3 : Ln = 3 := by
              have := (Bool.and_eq_true_iff.1 (unhide HY2).symm).2
              exact of_decide_eq_true this
            have h25 : qk = 25 := by
              have := (Bool.and_eq_true_iff.1 (unhide HY2).symm).1
              exact of_decide_eq_true this
            subst hL3 h25
            have HLL := hide (unhide HL).symm
            have hX := (unhide HR).trans (combC_three (unhide HLL))
            obtain ⟨x0, g, off, rfl, hg, hat0, hx0⟩ := IsEs.get l 0 0 (by rw [unhide HLL]; decide) (unhide HK)
            obtain ⟨x1, g_, off_, eg, _, hat1, hx1⟩ := IsEs.get l 0 1 (by rw [unhide HLL]; decide) (unhide HK)
            cases eg
            obtain ⟨x2, g_, off_, eg, _, hat2, hx2⟩ := IsEs.get l 0 2 (by rw [unhide HLL]; decide) (unhide HK)
            cases eg
            have CT := fun w' (hb : Below w.heap.size w w') => if13_any glo N c D x0 x1 x2 _ _ _ w' (fun w'' hb2 => truth13_any glo N c D x0 _ w'' (fun w3 hb3 => unhide HIH 0 (by rw [unhide HLL]; decide) x0 w3 (hb.trans ((hb2.trans (hb3.mono hb2.size)).mono hb.size)) hx0)) (fun w'' hb2 => unhide HIH 1 (by rw [unhide HLL]; decide) x1 w'' (hb.trans (hb2.mono hb.size)) hx1) (fun w'' hb2 => unhide HIH 2 (by rw [unhide HLL]; decide) x2 w'' (hb.trans (hb2.mono hb.size)) hx2)
            simp only [← hX] at CT
            simp only [Nat.zero_mul, Nat.add_zero, Nat.zero_add, Nat.one_mul, Nat.reduceMul] at hat0 hat1 hat2
            obtain ⟨ka0, ka1, ka2, ka3, ka4, ka5, ka6⟩ := hat0
            have ka0 : w.cell? ⟨g, off, none⟩ = some (.int .i64 x0.k) := ka0
            have ka1 : w.cell? ⟨g, off + 1, none⟩ = some (.bool x0.b) := ka1
            have ka2 : w.cell? ⟨g, off + 2, none⟩ = some (.int .i64 x0.n) := ka2
            have ka3 : w.cell? ⟨g, off + 3, none⟩ = some (.string x0.s) := ka3
            have ka4 : w.cell? ⟨g, off + 4, none⟩ = some (.string x0.t) := ka4
            have ka5 : w.cell? ⟨g, off + 5, none⟩ = some (.string x0.i) := ka5
            have ka6 : w.cell? ⟨g, off + 6, none⟩ = some (.slice x0.lo x0.ll x0.lc) := ka6
            obtain ⟨kb0, kb1, kb2, kb3, kb4, kb5, kb6⟩ := hat1
            have kb0 : w.cell? ⟨g, off + 7, none⟩ = some (.int .i64 x1.k) := kb0
            have kb1 : w.cell? ⟨g, off + 8, none⟩ = some (.bool x1.b) := kb1
            have kb2 : w.cell? ⟨g, off + 9, none⟩ = some (.int .i64 x1.n) := kb2
            have kb3 : w.cell? ⟨g, off + 10, none⟩ = some (.string x1.s) := kb3
            have kb4 : w.cell? ⟨g, off + 11, none⟩ = some (.string x1.t) := kb4
            have kb5 : w.cell? ⟨g, off + 12, none⟩ = some (.string x1.i) := kb5
            have kb6 : w.cell? ⟨g, off + 13, none⟩ = some (.slice x1.lo x1.ll x1.lc) := kb6
            obtain ⟨kd0, kd1, kd2, kd3, kd4, kd5, kd6⟩ := hat2
            have kd0 : w.cell? ⟨g, off + 14, none⟩ = some (.int .i64 x2.k) := kd0
            have kd1 : w.cell? ⟨g, off + 15, none⟩ = some (.bool x2.b) := kd1
            have kd2 : w.cell? ⟨g, off + 16, none⟩ = some (.int .i64 x2.n) := kd2
            have kd3 : w.cell? ⟨g, off + 17, none⟩ = some (.string x2.s) := kd3
            have kd4 : w.cell? ⟨g, off + 18, none⟩ = some (.string x2.t) := kd4
            have kd5 : w.cell? ⟨g, off + 19, none⟩ = some (.string x2.i) := kd5
            have kd6 : w.cell? ⟨g, off + 20, none⟩ = some (.slice x2.lo x2.ll x2.lc) := kd6
            have HX := hide hX
            clear hX hx0 hx1 hx2 ce0 ce6
            go_upto_region 4 with fail
            refine wp_specsD (evSp [.agg #[.slice glo N c, .string D.p.t, .string D.p.i, .string D.a.t, .string D.a.i, .string D.r.t, .string D.r.i], .pointer (some ⟨w.heap.size + 1, 6, none⟩), .slice (some ⟨g, off, none⟩) 3 lc, .pointer (some ⟨g, off, none⟩), .agg #[.int .i64 x0.k, .bool x0.b, .int .i64 x0.n, .string x0.s, .string x0.t, .string x0.i, .slice x0.lo x0.ll x0.lc], .pointer (some ⟨w.heap.size + 1, 6, none⟩), .slice (some ⟨g, off, none⟩) 3 lc, .pointer (some ⟨g, off + 7, none⟩), .agg #[.int .i64 x1.k, .bool x1.b, .int .i64 x1.n, .string x1.s, .string x1.t, .string x1.i, .slice x1.lo x1.ll x1.lc], .pointer (some ⟨w.heap.size + 1, 6, none⟩), .slice (some ⟨g, off, none⟩) 3 lc, .pointer (some ⟨g, off + 14, none⟩), .agg #[.int .i64 x2.k, .bool x2.b, .int .i64 x2.n, .string x2.s, .string x2.t, .string x2.i, .slice x2.lo x2.ll x2.lc]] r) (fun _ _ w' => Below wy.heap.size wy w') (by kernel_rfl) (by kernel_rfl) (by kernel_rfl) (Below.refl _ wy).drew ?_ ?_ ?_
            · intro q o d ho hd L a' w' hL hw hRR hdep hslot hsz K hK
              have hqN : q < 18 := dstOf_lt hd
              have m1 := kept_of_below hRR k1
              have m2 := kept_of_below hRR k2
              have y0 : w'.cell? ⟨w.heap.size, 0, none⟩ = some (.slice glo N c) := by rw [Lib.cell_of_heap m1]; rfl
              have y1 : w'.cell? ⟨w.heap.size, 1, none⟩ = some (.string D.p.t) := by rw [Lib.cell_of_heap m1]; rfl
              have y2 : w'.cell? ⟨w.heap.size, 2, none⟩ = some (.string D.p.i) := by rw [Lib.cell_of_heap m1]; rfl
              have y3 : w'.cell? ⟨w.heap.size, 3, none⟩ = some (.string D.a.t) := by rw [Lib.cell_of_heap m1]; rfl
              have y4 : w'.cell? ⟨w.heap.size, 4, none⟩ = some (.string D.a.i) := by rw [Lib.cell_of_heap m1]; rfl
              have y5 : w'.cell? ⟨w.heap.size, 5, none⟩ = some (.string D.r.t) := by rw [Lib.cell_of_heap m1]; rfl
              have y6 : w'.cell? ⟨w.heap.size, 6, none⟩ = some (.string D.r.i) := by rw [Lib.cell_of_heap m1]; rfl
              have z0 : w'.cell? ⟨w.heap.size + 1, 0, none⟩ = some (.int .i64 25) := by rw [Lib.cell_of_heap m2]; rfl
              have z6 : w'.cell? ⟨w.heap.size + 1, 6, none⟩ = some (.slice (some ⟨g, off, none⟩) 3 lc) := by rw [Lib.cell_of_heap m2]; rfl
              clear m1 m2
              have ka0' := (((b1).trans (hRR.mono (b1).size)).cell (p := ⟨g, off, none⟩) hg).trans ka0
              have ka1' := (((b1).trans (hRR.mono (b1).size)).cell (p := ⟨g, off + 1, none⟩) hg).trans ka1
              have ka2' := (((b1).trans (hRR.mono (b1).size)).cell (p := ⟨g, off + 2, none⟩) hg).trans ka2
              have ka3' := (((b1).trans (hRR.mono (b1).size)).cell (p := ⟨g, off + 3, none⟩) hg).trans ka3
              have ka4' := (((b1).trans (hRR.mono (b1).size)).cell (p := ⟨g, off + 4, none⟩) hg).trans ka4
              have ka5' := (((b1).trans (hRR.mono (b1).size)).cell (p := ⟨g, off + 5, none⟩) hg).trans ka5
              have ka6' := (((b1).trans (hRR.mono (b1).size)).cell (p := ⟨g, off + 6, none⟩) hg).trans ka6
              have kb0' := (((b1).trans (hRR.mono (b1).size)).cell (p := ⟨g, off + 7, none⟩) hg).trans kb0
              have kb1' := (((b1).trans (hRR.mono (b1).size)).cell (p := ⟨g, off + 8, none⟩) hg).trans kb1
              have kb2' := (((b1).trans (hRR.mono (b1).size)).cell (p := ⟨g, off + 9, none⟩) hg).trans kb2
              have kb3' := (((b1).trans (hRR.mono (b1).size)).cell (p := ⟨g, off + 10, none⟩) hg).trans kb3
              have kb4' := (((b1).trans (hRR.mono (b1).size)).cell (p := ⟨g, off + 11, none⟩) hg).trans kb4
              have kb5' := (((b1).trans (hRR.mono (b1).size)).cell (p := ⟨g, off + 12, none⟩) hg).trans kb5
              have kb6' := (((b1).trans (hRR.mono (b1).size)).cell (p := ⟨g, off + 13, none⟩) hg).trans kb6
              have kd0' := (((b1).trans (hRR.mono (b1).size)).cell (p := ⟨g, off + 14, none⟩) hg).trans kd0
              have kd1' := (((b1).trans (hRR.mono (b1).size)).cell (p := ⟨g, off + 15, none⟩) hg).trans kd1
              have kd2' := (((b1).trans (hRR.mono (b1).size)).cell (p := ⟨g, off + 16, none⟩) hg).trans kd2
              have kd3' := (((b1).trans (hRR.mono (b1).size)).cell (p := ⟨g, off + 17, none⟩) hg).trans kd3
              have kd4' := (((b1).trans (hRR.mono (b1).size)).cell (p := ⟨g, off + 18, none⟩) hg).trans kd4
              have kd5' := (((b1).trans (hRR.mono (b1).size)).cell (p := ⟨g, off + 19, none⟩) hg).trans kd5
              have kd6' := (((b1).trans (hRR.mono (b1).size)).cell (p := ⟨g, off + 20, none⟩) hg).trans kd6
              have hs2 : a'.tmps.getD 2 undef = .pointer (some ⟨w.heap.size, 0, none⟩) := hslot 2 (fun q h => by have hl := dstOf_lt h; match q, hl with | 0, _ => cases h | 1, _ => cases h | 2, _ => cases h | 3, _ => cases h | 4, _ => cases h | 5, _ => cases h | 6, _ => cases h | 7, _ => cases h | 8, _ => cases h | 9, _ => cases h | 10, _ => cases h | 11, _ => cases h | 12, _ => cases h | 13, _ => cases h | 14, _ => cases h | 15, _ => cases h | 16, _ => cases h | 17, _ => cases h)
              have hs3 : a'.tmps.getD 3 undef = .pointer (some ⟨w.heap.size + 1, 0, none⟩) := hslot 3 (fun q h => by have hl := dstOf_lt h; match q, hl with | 0, _ => cases h | 1, _ => cases h | 2, _ => cases h | 3, _ => cases h | 4, _ => cases h | 5, _ => cases h | 6, _ => cases h | 7, _ => cases h | 8, _ => cases h | 9, _ => cases h | 10, _ => cases h | 11, _ => cases h | 12, _ => cases h | 13, _ => cases h | 14, _ => cases h | 15, _ => cases h | 16, _ => cases h | 17, _ => cases h)
              have hc : q = 0 ∨ q = 1 ∨ q = 2 ∨ q = 3 ∨ q = 4 ∨ q = 5 ∨ q = 6 ∨ q = 7 ∨ q = 8 ∨ q = 9 ∨ q = 10 ∨ q = 11 ∨ q = 12 ∨ q = 13 ∨ q = 14 ∨ q = 15 ∨ q = 16 ∨ q = 17 := by omega
              rcases hc with rfl | rfl | rfl | rfl | rfl | rfl | rfl | rfl | rfl | rfl | rfl | rfl | rfl | rfl | rfl | rfl | rfl | rfl
              · cases ho
                cases hd
                have e0 := hs2
                have e0' : a'.tmps[2]?.getD undef = .pointer (some ⟨w.heap.size, 0, none⟩) := by simpa using e0
                clear z0 z6 ka0' ka1' ka2' ka3' ka4' ka5' ka6' kb0' kb1' kb2' kb3' kb4' kb5' kb6' kd0' kd1' kd2' kd3' kd4' kd5' kd6'
                unfold Oper.wp
                go_simp
                exact hK _ _ rfl hRR (fun _ _ h => h)
              · cases ho
                cases hd
                have e0 := hs3
                have e0' : a'.tmps[3]?.getD undef = .pointer (some ⟨w.heap.size + 1, 0, none⟩) := by simpa using e0
                clear y0 y1 y2 y3 y4 y5 y6 z0 z6 ka0' ka1' ka2' ka3' ka4' ka5' ka6' kb0' kb1' kb2' kb3' kb4' kb5' kb6' kd0' kd1' kd2' kd3' kd4' kd5' kd6'
                unfold Oper.wp
                go_simp
                exact hK _ _ rfl hRR (fun _ _ h => h)
              · cases ho
                cases hd
                have e0 : a'.tmps.getD 51 undef = .pointer (some ⟨w.heap.size + 1, 6, none⟩) := hdep 1 51 rfl (by kernel_rfl)
                have e0' : a'.tmps[51]?.getD undef = .pointer (some ⟨w.heap.size + 1, 6, none⟩) := by simpa using e0
                clear y0 y1 y2 y3 y4 y5 y6 z0 ka0' ka1' ka2' ka3' ka4' ka5' ka6' kb0' kb1' kb2' kb3' kb4' kb5' kb6' kd0' kd1' kd2' kd3' kd4' kd5' kd6'
                unfold Oper.wp
                go_simp
                exact hK _ _ rfl hRR (fun _ _ h => h)
              · cases ho
                cases hd
                have e0 : a'.tmps.getD 52 undef = .slice (some ⟨g, off, none⟩) 3 lc := hdep 2 52 rfl (by kernel_rfl)
                have e0' : a'.tmps[52]?.getD undef = .slice (some ⟨g, off, none⟩) 3 lc := by simpa using e0
                clear y0 y1 y2 y3 y4 y5 y6 z0 z6 ka0' ka1' ka2' ka3' ka4' ka5' ka6' kb0' kb1' kb2' kb3' kb4' kb5' kb6' kd0' kd1' kd2' kd3' kd4' kd5' kd6'
                unfold Oper.wp
                go_simp
                exact hK _ _ rfl hRR (fun _ _ h => h)
              · cases ho
                cases hd
                have e0 : a'.tmps.getD 53 undef = .pointer (some ⟨g, off, none⟩) := hdep 3 53 rfl (by kernel_rfl)
                have e0' : a'.tmps[53]?.getD undef = .pointer (some ⟨g, off, none⟩) := by simpa using e0
                clear y0 y1 y2 y3 y4 y5 y6 z0 z6 kb0' kb1' kb2' kb3' kb4' kb5' kb6' kd0' kd1' kd2' kd3' kd4' kd5' kd6'
                unfold Oper.wp
                go_simp
                exact hK _ _ rfl hRR (fun _ _ h => h)
              · cases ho
                cases hd
                have e0 := hs3
                have e0' : a'.tmps[3]?.getD undef = .pointer (some ⟨w.heap.size + 1, 0, none⟩) := by simpa using e0
                clear y0 y1 y2 y3 y4 y5 y6 z0 z6 ka0' ka1' ka2' ka3' ka4' ka5' ka6' kb0' kb1' kb2' kb3' kb4' kb5' kb6' kd0' kd1' kd2' kd3' kd4' kd5' kd6'
                unfold Oper.wp
                go_simp
                exact hK _ _ rfl hRR (fun _ _ h => h)
              · cases ho
                cases hd
                have e0 : a'.tmps.getD 55 undef = .pointer (some ⟨w.heap.size + 1, 6, none⟩) := hdep 5 55 rfl (by kernel_rfl)
                have e0' : a'.tmps[55]?.getD undef = .pointer (some ⟨w.heap.size + 1, 6, none⟩) := by simpa using e0
                clear y0 y1 y2 y3 y4 y5 y6 z0 ka0' ka1' ka2' ka3' ka4' ka5' ka6' kb0' kb1' kb2' kb3' kb4' kb5' kb6' kd0' kd1' kd2' kd3' kd4' kd5' kd6'
                unfold Oper.wp
                go_simp
                exact hK _ _ rfl hRR (fun _ _ h => h)
              · cases ho
                cases hd
                have e0 : a'.tmps.getD 56 undef = .slice (some ⟨g, off, none⟩) 3 lc := hdep 6 56 rfl (by kernel_rfl)
                have e0' : a'.tmps[56]?.getD undef = .slice (some ⟨g, off, none⟩) 3 lc := by simpa using e0
                clear y0 y1 y2 y3 y4 y5 y6 z0 z6 ka0' ka1' ka2' ka3' ka4' ka5' ka6' kb0' kb1' kb2' kb3' kb4' kb5' kb6' kd0' kd1' kd2' kd3' kd4' kd5' kd6'
                unfold Oper.wp
                go_simp
                exact hK _ _ rfl hRR (fun _ _ h => h)
              · cases ho
                cases hd
                have e0 : a'.tmps.getD 57 undef = .pointer (some ⟨g, off + 7, none⟩) := hdep 7 57 rfl (by kernel_rfl)
                have e0' : a'.tmps[57]?.getD undef = .pointer (some ⟨g, off + 7, none⟩) := by simpa using e0
                clear y0 y1 y2 y3 y4 y5 y6 z0 z6 ka0' ka1' ka2' ka3' ka4' ka5' ka6' kd0' kd1' kd2' kd3' kd4' kd5' kd6'
                unfold Oper.wp
                go_simp
                exact hK _ _ rfl hRR (fun _ _ h => h)
              · cases ho
                cases hd
                have e0 := hs3
                have e0' : a'.tmps[3]?.getD undef = .pointer (some ⟨w.heap.size + 1, 0, none⟩) := by simpa using e0
                clear y0 y1 y2 y3 y4 y5 y6 z0 z6 ka0' ka1' ka2' ka3' ka4' ka5' ka6' kb0' kb1' kb2' kb3' kb4' kb5' kb6' kd0' kd1' kd2' kd3' kd4' kd5' kd6'
                unfold Oper.wp
                go_simp
                exact hK _ _ rfl hRR (fun _ _ h => h)
              · cases ho
                cases hd
                have e0 : a'.tmps.getD 59 undef = .pointer (some ⟨w.heap.size + 1, 6, none⟩) := hdep 9 59 rfl (by kernel_rfl)
                have e0' : a'.tmps[59]?.getD undef = .pointer (some ⟨w.heap.size + 1, 6, none⟩) := by simpa using e0
                clear y0 y1 y2 y3 y4 y5 y6 z0 ka0' ka1' ka2' ka3' ka4' ka5' ka6' kb0' kb1' kb2' kb3' kb4' kb5' kb6' kd0' kd1' kd2' kd3' kd4' kd5' kd6'
                unfold Oper.wp
                go_simp
                exact hK _ _ rfl hRR (fun _ _ h => h)
              · cases ho
                cases hd
                have e0 : a'.tmps.getD 60 undef = .slice (some ⟨g, off, none⟩) 3 lc := hdep 10 60 rfl (by kernel_rfl)
                have e0' : a'.tmps[60]?.getD undef = .slice (some ⟨g, off, none⟩) 3 lc := by simpa using e0
                clear y0 y1 y2 y3 y4 y5 y6 z0 z6 ka0' ka1' ka2' ka3' ka4' ka5' ka6' kb0' kb1' kb2' kb3' kb4' kb5' kb6' kd0' kd1' kd2' kd3' kd4' kd5' kd6'
                unfold Oper.wp
                go_simp
                exact hK _ _ rfl hRR (fun _ _ h => h)
              · cases ho
                cases hd
                have e0 : a'.tmps.getD 61 undef = .pointer (some ⟨g, off + 14, none⟩) := hdep 11 61 rfl (by kernel_rfl)
                have e0' : a'.tmps[61]?.getD undef = .pointer (some ⟨g, off + 14, none⟩) := by simpa using e0
                clear y0 y1 y2 y3 y4 y5 y6 z0 z6 ka0' ka1' ka2' ka3' ka4' ka5' ka6' kb0' kb1' kb2' kb3' kb4' kb5' kb6'
                unfold Oper.wp
                go_simp
                exact hK _ _ rfl hRR (fun _ _ h => h)
              · cases ho
                cases hd
                have e0 : a'.tmps.getD 50 undef = .agg #[.slice glo N c, .string D.p.t, .string D.p.i, .string D.a.t, .string D.a.i, .string D.r.t, .string D.r.i] := hdep 0 50 rfl (by kernel_rfl)
                have e0' : a'.tmps[50]?.getD undef = .agg #[.slice glo N c, .string D.p.t, .string D.p.i, .string D.a.t, .string D.a.i, .string D.r.t, .string D.r.i] := by simpa using e0
                have e1 : a'.tmps.getD 54 undef = .agg #[.int .i64 x0.k, .bool x0.b, .int .i64 x0.n, .string x0.s, .string x0.t, .string x0.i, .slice x0.lo x0.ll x0.lc] := hdep 4 54 rfl (by kernel_rfl)
                have e1' : a'.tmps[54]?.getD undef = .agg #[.int .i64 x0.k, .bool x0.b, .int .i64 x0.n, .string x0.s, .string x0.t, .string x0.i, .slice x0.lo x0.ll x0.lc] := by simpa using e1
                have e2 : a'.tmps.getD 58 undef = .agg #[.int .i64 x1.k, .bool x1.b, .int .i64 x1.n, .string x1.s, .string x1.t, .string x1.i, .slice x1.lo x1.ll x1.lc] := hdep 8 58 rfl (by kernel_rfl)
                have e2' : a'.tmps[58]?.getD undef = .agg #[.int .i64 x1.k, .bool x1.b, .int .i64 x1.n, .string x1.s, .string x1.t, .string x1.i, .slice x1.lo x1.ll x1.lc] := by simpa using e2
                have e3 : a'.tmps.getD 62 undef = .agg #[.int .i64 x2.k, .bool x2.b, .int .i64 x2.n, .string x2.s, .string x2.t, .string x2.i, .slice x2.lo x2.ll x2.lc] := hdep 12 62 rfl (by kernel_rfl)
                have e3' : a'.tmps[62]?.getD undef = .agg #[.int .i64 x2.k, .bool x2.b, .int .i64 x2.n, .string x2.s, .string x2.t, .string x2.i, .slice x2.lo x2.ll x2.lc] := by simpa using e3
                clear y0 y1 y2 y3 y4 y5 y6 z0 z6 ka0' ka1' ka2' ka3' ka4' ka5' ka6' kb0' kb1' kb2' kb3' kb4' kb5' kb6' kd0' kd1' kd2' kd3' kd4' kd5' kd6'
                have CC := CT w' (b1.trans (hRR.mono b1.size))
                unfold Oper.wp
                go_simp
                refine CC.mono ?_
                rintro e w9 ⟨⟨v9, kk9, rfl, hrc⟩, b9⟩
                exact hK _ _ ⟨v9, kk9, rfl, hrc⟩ (hRR.trans (b9.mono hRR.size)) (evSp_up b9)
              · cases ho
                cases hd
                clear y0 y1 y2 y3 y4 y5 y6 z0 z6 ka0' ka1' ka2' ka3' ka4' ka5' ka6' kb0' kb1' kb2' kb3' kb4' kb5' kb6' kd0' kd1' kd2' kd3' kd4' kd5' kd6'
                obtain ⟨v8, kk8, e0, hrc⟩ : evSp [.agg #[.slice glo N c, .string D.p.t, .string D.p.i, .string D.a.t, .string D.a.i, .string D.r.t, .string D.r.i], .pointer (some ⟨w.heap.size + 1, 6, none⟩), .slice (some ⟨g, off, none⟩) 3 lc, .pointer (some ⟨g, off, none⟩), .agg #[.int .i64 x0.k, .bool x0.b, .int .i64 x0.n, .string x0.s, .string x0.t, .string x0.i, .slice x0.lo x0.ll x0.lc], .pointer (some ⟨w.heap.size + 1, 6, none⟩), .slice (some ⟨g, off, none⟩) 3 lc, .pointer (some ⟨g, off + 7, none⟩), .agg #[.int .i64 x1.k, .bool x1.b, .int .i64 x1.n, .string x1.s, .string x1.t, .string x1.i, .slice x1.lo x1.ll x1.lc], .pointer (some ⟨w.heap.size + 1, 6, none⟩), .slice (some ⟨g, off, none⟩) 3 lc, .pointer (some ⟨g, off + 14, none⟩), .agg #[.int .i64 x2.k, .bool x2.b, .int .i64 x2.n, .string x2.s, .string x2.t, .string x2.i, .slice x2.lo x2.ll x2.lc]] r 13 (a'.tmps.getD 63 undef) w' := hdep 13 63 rfl (by kernel_rfl)
                have e0' : a'.tmps[63]?.getD undef = .tuple #[v8, .int .i64 kk8] := by simpa using e0
                have HRC := hide hrc
                clear hrc
                unfold Oper.wp
                go_simp
                exact hK _ _ ⟨kk8, unhide HRC⟩ hRR (fun _ _ h => h)
              · cases ho
                cases hd
                clear y0 y1 y2 y3 y4 y5 y6 z0 z6 ka0' ka1' ka2' ka3' ka4' ka5' ka6' kb0' kb1' kb2' kb3' kb4' kb5' kb6' kd0' kd1' kd2' kd3' kd4' kd5' kd6'
                obtain ⟨v8, kk8, e0, hrc⟩ : evSp [.agg #[.slice glo N c, .string D.p.t, .string D.p.i, .string D.a.t, .string D.a.i, .string D.r.t, .string D.r.i], .pointer (some ⟨w.heap.size + 1, 6, none⟩), .slice (some ⟨g, off, none⟩) 3 lc, .pointer (some ⟨g, off, none⟩), .agg #[.int .i64 x0.k, .bool x0.b, .int .i64 x0.n, .string x0.s, .string x0.t, .string x0.i, .slice x0.lo x0.ll x0.lc], .pointer (some ⟨w.heap.size + 1, 6, none⟩), .slice (some ⟨g, off, none⟩) 3 lc, .pointer (some ⟨g, off + 7, none⟩), .agg #[.int .i64 x1.k, .bool x1.b, .int .i64 x1.n, .string x1.s, .string x1.t, .string x1.i, .slice x1.lo x1.ll x1.lc], .pointer (some ⟨w.heap.size + 1, 6, none⟩), .slice (some ⟨g, off, none⟩) 3 lc, .pointer (some ⟨g, off + 14, none⟩), .agg #[.int .i64 x2.k, .bool x2.b, .int .i64 x2.n, .string x2.s, .string x2.t, .string x2.i, .slice x2.lo x2.ll x2.lc]] r 13 (a'.tmps.getD 63 undef) w' := hdep 13 63 rfl (by kernel_rfl)
                have e0' : a'.tmps[63]?.getD undef = .tuple #[v8, .int .i64 kk8] := by simpa using e0
                have HRC := hide hrc
                clear hrc
                unfold Oper.wp
                go_simp
                exact hK _ _ ⟨v8, kk8, rfl, unhide HRC⟩ hRR (fun _ _ h => h)
              · cases ho
                cases hd
                clear y0 y1 y2 y3 y4 y5 y6 z0 z6 ka0' ka1' ka2' ka3' ka4' ka5' ka6' kb0' kb1' kb2' kb3' kb4' kb5' kb6' kd0' kd1' kd2' kd3' kd4' kd5' kd6'
                obtain ⟨u8, hu8⟩ : ∃ u8, u8 = a'.tmps.getD 64 undef := ⟨_, rfl⟩
                obtain ⟨kk8, hrc⟩ : evSp [.agg #[.slice glo N c, .string D.p.t, .string D.p.i, .string D.a.t, .string D.a.i, .string D.r.t, .string D.r.i], .pointer (some ⟨w.heap.size + 1, 6, none⟩), .slice (some ⟨g, off, none⟩) 3 lc, .pointer (some ⟨g, off, none⟩), .agg #[.int .i64 x0.k, .bool x0.b, .int .i64 x0.n, .string x0.s, .string x0.t, .string x0.i, .slice x0.lo x0.ll x0.lc], .pointer (some ⟨w.heap.size + 1, 6, none⟩), .slice (some ⟨g, off, none⟩) 3 lc, .pointer (some ⟨g, off + 7, none⟩), .agg #[.int .i64 x1.k, .bool x1.b, .int .i64 x1.n, .string x1.s, .string x1.t, .string x1.i, .slice x1.lo x1.ll x1.lc], .pointer (some ⟨w.heap.size + 1, 6, none⟩), .slice (some ⟨g, off, none⟩) 3 lc, .pointer (some ⟨g, off + 14, none⟩), .agg #[.int .i64 x2.k, .bool x2.b, .int .i64 x2.n, .string x2.s, .string x2.t, .string x2.i, .slice x2.lo x2.ll x2.lc]] r 14 (a'.tmps.getD 64 undef) w' := hdep 14 64 rfl (by kernel_rfl)
                rw [← hu8] at hrc
                have HRC := hide hrc
                clear hrc
                have e0 := hu8.symm
                clear hu8
                have e0' : a'.tmps[64]?.getD undef = u8 := by simpa using e0
                unfold Oper.wp
                go_simp
                exact hK _ _ ⟨kk8, unhide HRC⟩ hRR (fun _ _ h => h)
              · cases ho
                cases hd
                clear y0 y1 y2 y3 y4 y5 y6 z0 z6 ka0' ka1' ka2' ka3' ka4' ka5' ka6' kb0' kb1' kb2' kb3' kb4' kb5' kb6' kd0' kd1' kd2' kd3' kd4' kd5' kd6'
                obtain ⟨v8, kk8, e0, hrc⟩ : evSp [.agg #[.slice glo N c, .string D.p.t, .string D.p.i, .string D.a.t, .string D.a.i, .string D.r.t, .string D.r.i], .pointer (some ⟨w.heap.size + 1, 6, none⟩), .slice (some ⟨g, off, none⟩) 3 lc, .pointer (some ⟨g, off, none⟩), .agg #[.int .i64 x0.k, .bool x0.b, .int .i64 x0.n, .string x0.s, .string x0.t, .string x0.i, .slice x0.lo x0.ll x0.lc], .pointer (some ⟨w.heap.size + 1, 6, none⟩), .slice (some ⟨g, off, none⟩) 3 lc, .pointer (some ⟨g, off + 7, none⟩), .agg #[.int .i64 x1.k, .bool x1.b, .int .i64 x1.n, .string x1.s, .string x1.t, .string x1.i, .slice x1.lo x1.ll x1.lc], .pointer (some ⟨w.heap.size + 1, 6, none⟩), .slice (some ⟨g, off, none⟩) 3 lc, .pointer (some ⟨g, off + 14, none⟩), .agg #[.int .i64 x2.k, .bool x2.b, .int .i64 x2.n, .string x2.s, .string x2.t, .string x2.i, .slice x2.lo x2.ll x2.lc]] r 15 (a'.tmps.getD 65 undef) w' := hdep 15 65 rfl (by kernel_rfl)
                have e0' : a'.tmps[65]?.getD undef = .int .i64 kk8 := by simpa using e0
                have HRC := hide hrc
                clear hrc
                unfold Oper.wp
                go_simp
                exact hK _ _ ⟨v8, kk8, rfl, unhide HRC⟩ hRR (fun _ _ h => h)
            · intro q o ho hd L a' w' hL hw hRR hdep K hK
              have hqN : q < 18 := (List.getElem?_eq_some_iff.1 ho).1
              have m1 := kept_of_below hRR k1
              have m2 := kept_of_below hRR k2
              have y0 : w'.cell? ⟨w.heap.size, 0, none⟩ = some (.slice glo N c) := by rw [Lib.cell_of_heap m1]; rfl
              have y1 : w'.cell? ⟨w.heap.size, 1, none⟩ = some (.string D.p.t) := by rw [Lib.cell_of_heap m1]; rfl
              have y2 : w'.cell? ⟨w.heap.size, 2, none⟩ = some (.string D.p.i) := by rw [Lib.cell_of_heap m1]; rfl
              have y3 : w'.cell? ⟨w.heap.size, 3, none⟩ = some (.string D.a.t) := by rw [Lib.cell_of_heap m1]; rfl
              have y4 : w'.cell? ⟨w.heap.size, 4, none⟩ = some (.string D.a.i) := by rw [Lib.cell_of_heap m1]; rfl
              have y5 : w'.cell? ⟨w.heap.size, 5, none⟩ = some (.string D.r.t) := by rw [Lib.cell_of_heap m1]; rfl
              have y6 : w'.cell? ⟨w.heap.size, 6, none⟩ = some (.string D.r.i) := by rw [Lib.cell_of_heap m1]; rfl
              have z0 : w'.cell? ⟨w.heap.size + 1, 0, none⟩ = some (.int .i64 25) := by rw [Lib.cell_of_heap m2]; rfl
              have z6 : w'.cell? ⟨w.heap.size + 1, 6, none⟩ = some (.slice (some ⟨g, off, none⟩) 3 lc) := by rw [Lib.cell_of_heap m2]; rfl
              clear m1 m2
              have ka0' := (((b1).trans (hRR.mono (b1).size)).cell (p := ⟨g, off, none⟩) hg).trans ka0
              have ka1' := (((b1).trans (hRR.mono (b1).size)).cell (p := ⟨g, off + 1, none⟩) hg).trans ka1
              have ka2' := (((b1).trans (hRR.mono (b1).size)).cell (p := ⟨g, off + 2, none⟩) hg).trans ka2
              have ka3' := (((b1).trans (hRR.mono (b1).size)).cell (p := ⟨g, off + 3, none⟩) hg).trans ka3
              have ka4' := (((b1).trans (hRR.mono (b1).size)).cell (p := ⟨g, off + 4, none⟩) hg).trans ka4
              have ka5' := (((b1).trans (hRR.mono (b1).size)).cell (p := ⟨g, off + 5, none⟩) hg).trans ka5
              have ka6' := (((b1).trans (hRR.mono (b1).size)).cell (p := ⟨g, off + 6, none⟩) hg).trans ka6
              have kb0' := (((b1).trans (hRR.mono (b1).size)).cell (p := ⟨g, off + 7, none⟩) hg).trans kb0
              have kb1' := (((b1).trans (hRR.mono (b1).size)).cell (p := ⟨g, off + 8, none⟩) hg).trans kb1
              have kb2' := (((b1).trans (hRR.mono (b1).size)).cell (p := ⟨g, off + 9, none⟩) hg).trans kb2
              have kb3' := (((b1).trans (hRR.mono (b1).size)).cell (p := ⟨g, off + 10, none⟩) hg).trans kb3
              have kb4' := (((b1).trans (hRR.mono (b1).size)).cell (p := ⟨g, off + 11, none⟩) hg).trans kb4
              have kb5' := (((b1).trans (hRR.mono (b1).size)).cell (p := ⟨g, off + 12, none⟩) hg).trans kb5
              have kb6' := (((b1).trans (hRR.mono (b1).size)).cell (p := ⟨g, off + 13, none⟩) hg).trans kb6
              have kd0' := (((b1).trans (hRR.mono (b1).size)).cell (p := ⟨g, off + 14, none⟩) hg).trans kd0
              have kd1' := (((b1).trans (hRR.mono (b1).size)).cell (p := ⟨g, off + 15, none⟩) hg).trans kd1
              have kd2' := (((b1).trans (hRR.mono (b1).size)).cell (p := ⟨g, off + 16, none⟩) hg).trans kd2
              have kd3' := (((b1).trans (hRR.mono (b1).size)).cell (p := ⟨g, off + 17, none⟩) hg).trans kd3
              have kd4' := (((b1).trans (hRR.mono (b1).size)).cell (p := ⟨g, off + 18, none⟩) hg).trans kd4
              have kd5' := (((b1).trans (hRR.mono (b1).size)).cell (p := ⟨g, off + 19, none⟩) hg).trans kd5
              have kd6' := (((b1).trans (hRR.mono (b1).size)).cell (p := ⟨g, off + 20, none⟩) hg).trans kd6
              have hc : q = 0 ∨ q = 1 ∨ q = 2 ∨ q = 3 ∨ q = 4 ∨ q = 5 ∨ q = 6 ∨ q = 7 ∨ q = 8 ∨ q = 9 ∨ q = 10 ∨ q = 11 ∨ q = 12 ∨ q = 13 ∨ q = 14 ∨ q = 15 ∨ q = 16 ∨ q = 17 := by omega
              rcases hc with rfl | rfl | rfl | rfl | rfl | rfl | rfl | rfl | rfl | rfl | rfl | rfl | rfl | rfl | rfl | rfl | rfl | rfl
              · cases hd
              · cases hd
              · cases hd
              · cases hd
              · cases hd
              · cases hd
              · cases hd
              · cases hd
              · cases hd
              · cases hd
              · cases hd
              · cases hd
              · cases hd
              · cases hd
              · cases hd
              · cases hd
              · cases hd
              · cases hd
            · intro v L w' hLa hRR hv
              have f0 : v 0 = .agg #[.slice glo N c, .string D.p.t, .string D.p.i, .string D.a.t, .string D.a.i, .string D.r.t, .string D.r.i] := (hv 0 50 rfl).1
              have f1 : v 1 = .pointer (some ⟨w.heap.size + 1, 6, none⟩) := (hv 1 51 rfl).1
              have f2 : v 2 = .slice (some ⟨g, off, none⟩) 3 lc := (hv 2 52 rfl).1
              have f3 : v 3 = .pointer (some ⟨g, off, none⟩) := (hv 3 53 rfl).1
              have f4 : v 4 = .agg #[.int .i64 x0.k, .bool x0.b, .int .i64 x0.n, .string x0.s, .string x0.t, .string x0.i, .slice x0.lo x0.ll x0.lc] := (hv 4 54 rfl).1
              have f5 : v 5 = .pointer (some ⟨w.heap.size + 1, 6, none⟩) := (hv 5 55 rfl).1
              have f6 : v 6 = .slice (some ⟨g, off, none⟩) 3 lc := (hv 6 56 rfl).1
              have f7 : v 7 = .pointer (some ⟨g, off + 7, none⟩) := (hv 7 57 rfl).1
              have f8 : v 8 = .agg #[.int .i64 x1.k, .bool x1.b, .int .i64 x1.n, .string x1.s, .string x1.t, .string x1.i, .slice x1.lo x1.ll x1.lc] := (hv 8 58 rfl).1
              have f9 : v 9 = .pointer (some ⟨w.heap.size + 1, 6, none⟩) := (hv 9 59 rfl).1
              have f10 : v 10 = .slice (some ⟨g, off, none⟩) 3 lc := (hv 10 60 rfl).1
              have f11 : v 11 = .pointer (some ⟨g, off + 14, none⟩) := (hv 11 61 rfl).1
              have f12 : v 12 = .agg #[.int .i64 x2.k, .bool x2.b, .int .i64 x2.n, .string x2.s, .string x2.t, .string x2.i, .slice x2.lo x2.ll x2.lc] := (hv 12 62 rfl).1
              obtain ⟨v8, kk8, f17, hrc8⟩ : evSp [.agg #[.slice glo N c, .string D.p.t, .string D.p.i, .string D.a.t, .string D.a.i, .string D.r.t, .string D.r.i], .pointer (some ⟨w.heap.size + 1, 6, none⟩), .slice (some ⟨g, off, none⟩) 3 lc, .pointer (some ⟨g, off, none⟩), .agg #[.int .i64 x0.k, .bool x0.b, .int .i64 x0.n, .string x0.s, .string x0.t, .string x0.i, .slice x0.lo x0.ll x0.lc], .pointer (some ⟨w.heap.size + 1, 6, none⟩), .slice (some ⟨g, off, none⟩) 3 lc, .pointer (some ⟨g, off + 7, none⟩), .agg #[.int .i64 x1.k, .bool x1.b, .int .i64 x1.n, .string x1.s, .string x1.t, .string x1.i, .slice x1.lo x1.ll x1.lc], .pointer (some ⟨w.heap.size + 1, 6, none⟩), .slice (some ⟨g, off, none⟩) 3 lc, .pointer (some ⟨g, off + 14, none⟩), .agg #[.int .i64 x2.k, .bool x2.b, .int .i64 x2.n, .string x2.s, .string x2.t, .string x2.i, .slice x2.lo x2.ll x2.lc]] r 17 (v 17) w' := (hv 17 5 rfl).1
              obtain ⟨kk7, hrc7⟩ : evSp [.agg #[.slice glo N c, .string D.p.t, .string D.p.i, .string D.a.t, .string D.a.i, .string D.r.t, .string D.r.i], .pointer (some ⟨w.heap.size + 1, 6, none⟩), .slice (some ⟨g, off, none⟩) 3 lc, .pointer (some ⟨g, off, none⟩), .agg #[.int .i64 x0.k, .bool x0.b, .int .i64 x0.n, .string x0.s, .string x0.t, .string x0.i, .slice x0.lo x0.ll x0.lc], .pointer (some ⟨w.heap.size + 1, 6, none⟩), .slice (some ⟨g, off, none⟩) 3 lc, .pointer (some ⟨g, off + 7, none⟩), .agg #[.int .i64 x1.k, .bool x1.b, .int .i64 x1.n, .string x1.s, .string x1.t, .string x1.i, .slice x1.lo x1.ll x1.lc], .pointer (some ⟨w.heap.size + 1, 6, none⟩), .slice (some ⟨g, off, none⟩) 3 lc, .pointer (some ⟨g, off + 14, none⟩), .agg #[.int .i64 x2.k, .bool x2.b, .int .i64 x2.n, .string x2.s, .string x2.t, .string x2.i, .slice x2.lo x2.ll x2.lc]] r 16 (v 16) w' := (hv 16 4 rfl).1
              have HRC := hide (hrc7.both hrc8)
              clear hrc7 hrc8
              have bE := hRR
              clear hRR hv hLa
              simp only [putAll, dstOf, List.getElem?_cons_zero, List.getElem?_cons_succ, Option.bind_some, List.length_cons, List.length_nil, f0, f1, f2, f3, f4, f5, f6, f7, f8, f9, f10, f11, f12, f17]
              clear f0 f1 f2 f3 f4 f5 f6 f7 f8 f9 f10 f11 f12 f17
              simp only [Act.put, List.setIfInBounds_toArray, List.set_cons_succ, List.set_cons_zero]
              generalize v 16 = vR at *
              generalize v 13 = vv13
              generalize v 14 = vv14
              generalize v 15 = vv15
              go_wp2
              go_ret2
              exact ⟨⟨_, _, rfl, unhide HRC⟩, b1.trans (bE.mono b1.size)⟩
      · have hL2 : Ln = 2 := by
          have := (Bool.and_eq_true_iff.1 (unhide HY1).symm).2
          exact of_decide_eq_true this
        have hk2 := (Bool.and_eq_true_iff.1 (unhide HY1).symm).1
        subst hL2
        have HLL := hide (unhide HL).symm
        have hX := (unhide HR).trans (combC_two hk2 (unhide HLL))
        obtain ⟨x0, g, off, rfl, hg, hat0, hx0⟩ := IsEs.get l 0 0 (by rw [unhide HLL]; decide) (unhide HK)
        obtain ⟨x1, g_, off_, eg, _, hat1, hx1⟩ := IsEs.get l 0 1 (by rw [unhide HLL]; decide) (unhide HK)
        cases eg
        have CT := fun w' (hb : Below w.heap.size w w') => both13_any glo N c D qk (decide (qk = 24)) (by by_cases h : qk = 24 <;> simp [h]) x0 x1 _ _ w' (fun w'' hb2 => truth13_any glo N c D x0 _ w'' (fun w3 hb3 => unhide HIH 0 (by rw [unhide HLL]; decide) x0 w3 (hb.trans ((hb2.trans (hb3.mono hb2.size)).mono hb.size)) hx0)) (fun w'' hb2 => truth13_any glo N c D x1 _ w'' (fun w3 hb3 => unhide HIH 1 (by rw [unhide HLL]; decide) x1 w3 (hb.trans ((hb2.trans (hb3.mono hb2.size)).mono hb.size)) hx1))
        simp only [← hX] at CT
        simp only [Nat.zero_mul, Nat.add_zero, Nat.zero_add, Nat.one_mul] at hat0 hat1
        obtain ⟨ka0, ka1, ka2, ka3, ka4, ka5, ka6⟩ := hat0
        have ka0 : w.cell? ⟨g, off, none⟩ = some (.int .i64 x0.k) := ka0
        have ka1 : w.cell? ⟨g, off + 1, none⟩ = some (.bool x0.b) := ka1
        have ka2 : w.cell? ⟨g, off + 2, none⟩ = some (.int .i64 x0.n) := ka2
        have ka3 : w.cell? ⟨g, off + 3, none⟩ = some (.string x0.s) := ka3
        have ka4 : w.cell? ⟨g, off + 4, none⟩ = some (.string x0.t) := ka4
        have ka5 : w.cell? ⟨g, off + 5, none⟩ = some (.string x0.i) := ka5
        have ka6 : w.cell? ⟨g, off + 6, none⟩ = some (.slice x0.lo x0.ll x0.lc) := ka6
        obtain ⟨kb0, kb1, kb2, kb3, kb4, kb5, kb6⟩ := hat1
        have kb0 : w.cell? ⟨g, off + 7, none⟩ = some (.int .i64 x1.k) := kb0
        have kb1 : w.cell? ⟨g, off + 8, none⟩ = some (.bool x1.b) := kb1
        have kb2 : w.cell? ⟨g, off + 9, none⟩ = some (.int .i64 x1.n) := kb2
        have kb3 : w.cell? ⟨g, off + 10, none⟩ = some (.string x1.s) := kb3
        have kb4 : w.cell? ⟨g, off + 11, none⟩ = some (.string x1.t) := kb4
        have kb5 : w.cell? ⟨g, off + 12, none⟩ = some (.string x1.i) := kb5
        have kb6 : w.cell? ⟨g, off + 13, none⟩ = some (.slice x1.lo x1.ll x1.lc) := kb6
        have HX := hide hX
        clear hX hx0 hx1 ce0 ce6 hk2
        go_upto_region 2 with fail
        refine wp_specsD (evSp [.agg #[.slice glo N c, .string D.p.t, .string D.p.i, .string D.a.t, .string D.a.i, .string D.r.t, .string D.r.i], .pointer (some ⟨w.heap.size + 1, 0, none⟩), .int .i64 qk, .pointer (some ⟨w.heap.size + 1, 6, none⟩), .slice (some ⟨g, off, none⟩) 2 lc, .pointer (some ⟨g, off, none⟩), .agg #[.int .i64 x0.k, .bool x0.b, .int .i64 x0.n, .string x0.s, .string x0.t, .string x0.i, .slice x0.lo x0.ll x0.lc], .pointer (some ⟨w.heap.size + 1, 6, none⟩), .slice (some ⟨g, off, none⟩) 2 lc, .pointer (some ⟨g, off + 7, none⟩), .agg #[.int .i64 x1.k, .bool x1.b, .int .i64 x1.n, .string x1.s, .string x1.t, .string x1.i, .slice x1.lo x1.ll x1.lc]] r) (fun _ _ w' => Below wx.heap.size wx w') (by kernel_rfl) (by kernel_rfl) (by kernel_rfl) (Below.refl _ wx).drew ?_ ?_ ?_
        · intro q o d ho hd L a' w' hL hw hRR hdep hslot hsz K hK
          have hqN : q < 16 := dstOf_lt hd
          have m1 := kept_of_below hRR k1
          have m2 := kept_of_below hRR k2
          have y0 : w'.cell? ⟨w.heap.size, 0, none⟩ = some (.slice glo N c) := by rw [Lib.cell_of_heap m1]; rfl
          have y1 : w'.cell? ⟨w.heap.size, 1, none⟩ = some (.string D.p.t) := by rw [Lib.cell_of_heap m1]; rfl
          have y2 : w'.cell? ⟨w.heap.size, 2, none⟩ = some (.string D.p.i) := by rw [Lib.cell_of_heap m1]; rfl
          have y3 : w'.cell? ⟨w.heap.size, 3, none⟩ = some (.string D.a.t) := by rw [Lib.cell_of_heap m1]; rfl
          have y4 : w'.cell? ⟨w.heap.size, 4, none⟩ = some (.string D.a.i) := by rw [Lib.cell_of_heap m1]; rfl
          have y5 : w'.cell? ⟨w.heap.size, 5, none⟩ = some (.string D.r.t) := by rw [Lib.cell_of_heap m1]; rfl
          have y6 : w'.cell? ⟨w.heap.size, 6, none⟩ = some (.string D.r.i) := by rw [Lib.cell_of_heap m1]; rfl
          have z0 : w'.cell? ⟨w.heap.size + 1, 0, none⟩ = some (.int .i64 qk) := by rw [Lib.cell_of_heap m2]; rfl
          have z6 : w'.cell? ⟨w.heap.size + 1, 6, none⟩ = some (.slice (some ⟨g, off, none⟩) 2 lc) := by rw [Lib.cell_of_heap m2]; rfl
          clear m1 m2
          have ka0' := (((b1).trans (hRR.mono (b1).size)).cell (p := ⟨g, off, none⟩) hg).trans ka0
          have ka1' := (((b1).trans (hRR.mono (b1).size)).cell (p := ⟨g, off + 1, none⟩) hg).trans ka1
          have ka2' := (((b1).trans (hRR.mono (b1).size)).cell (p := ⟨g, off + 2, none⟩) hg).trans ka2
          have ka3' := (((b1).trans (hRR.mono (b1).size)).cell (p := ⟨g, off + 3, none⟩) hg).trans ka3
          have ka4' := (((b1).trans (hRR.mono (b1).size)).cell (p := ⟨g, off + 4, none⟩) hg).trans ka4
          have ka5' := (((b1).trans (hRR.mono (b1).size)).cell (p := ⟨g, off + 5, none⟩) hg).trans ka5
          have ka6' := (((b1).trans (hRR.mono (b1).size)).cell (p := ⟨g, off + 6, none⟩) hg).trans ka6
          have kb0' := (((b1).trans (hRR.mono (b1).size)).cell (p := ⟨g, off + 7, none⟩) hg).trans kb0
          have kb1' := (((b1).trans (hRR.mono (b1).size)).cell (p := ⟨g, off + 8, none⟩) hg).trans kb1
          have kb2' := (((b1).trans (hRR.mono (b1).size)).cell (p := ⟨g, off + 9, none⟩) hg).trans kb2
          have kb3' := (((b1).trans (hRR.mono (b1).size)).cell (p := ⟨g, off + 10, none⟩) hg).trans kb3
          have kb4' := (((b1).trans (hRR.mono (b1).size)).cell (p := ⟨g, off + 11, none⟩) hg).trans kb4
          have kb5' := (((b1).trans (hRR.mono (b1).size)).cell (p := ⟨g, off + 12, none⟩) hg).trans kb5
          have kb6' := (((b1).trans (hRR.mono (b1).size)).cell (p := ⟨g, off + 13, none⟩) hg).trans kb6
          have hs2 : a'.tmps.getD 2 undef = .pointer (some ⟨w.heap.size, 0, none⟩) := hslot 2 (fun q h => by have hl := dstOf_lt h; match q, hl with | 0, _ => cases h | 1, _ => cases h | 2, _ => cases h | 3, _ => cases h | 4, _ => cases h | 5, _ => cases h | 6, _ => cases h | 7, _ => cases h | 8, _ => cases h | 9, _ => cases h | 10, _ => cases h | 11, _ => cases h | 12, _ => cases h | 13, _ => cases h | 14, _ => cases h | 15, _ => cases h)
          have hs3 : a'.tmps.getD 3 undef = .pointer (some ⟨w.heap.size + 1, 0, none⟩) := hslot 3 (fun q h => by have hl := dstOf_lt h; match q, hl with | 0, _ => cases h | 1, _ => cases h | 2, _ => cases h | 3, _ => cases h | 4, _ => cases h | 5, _ => cases h | 6, _ => cases h | 7, _ => cases h | 8, _ => cases h | 9, _ => cases h | 10, _ => cases h | 11, _ => cases h | 12, _ => cases h | 13, _ => cases h | 14, _ => cases h | 15, _ => cases h)
          have hc : q = 0 ∨ q = 1 ∨ q = 2 ∨ q = 3 ∨ q = 4 ∨ q = 5 ∨ q = 6 ∨ q = 7 ∨ q = 8 ∨ q = 9 ∨ q = 10 ∨ q = 11 ∨ q = 12 ∨ q = 13 ∨ q = 14 ∨ q = 15 := by omega
          rcases hc with rfl | rfl | rfl | rfl | rfl | rfl | rfl | rfl | rfl | rfl | rfl | rfl | rfl | rfl | rfl | rfl
          · cases ho
            cases hd
            have e0 := hs2
            have e0' : a'.tmps[2]?.getD undef = .pointer (some ⟨w.heap.size, 0, none⟩) := by simpa using e0
            clear z0 z6 ka0' ka1' ka2' ka3' ka4' ka5' ka6' kb0' kb1' kb2' kb3' kb4' kb5' kb6'
            unfold Oper.wp
            go_simp
            exact hK _ _ rfl hRR (fun _ _ h => h)
          · cases ho
            cases hd
            have e0 := hs3
            have e0' : a'.tmps[3]?.getD undef = .pointer (some ⟨w.heap.size + 1, 0, none⟩) := by simpa using e0
            clear y0 y1 y2 y3 y4 y5 y6 z0 z6 ka0' ka1' ka2' ka3' ka4' ka5' ka6' kb0' kb1' kb2' kb3' kb4' kb5' kb6'
            unfold Oper.wp
            go_simp
            exact hK _ _ rfl hRR (fun _ _ h => h)
          · cases ho
            cases hd
            have e0 : a'.tmps.getD 27 undef = .pointer (some ⟨w.heap.size + 1, 0, none⟩) := hdep 1 27 rfl (by kernel_rfl)
            have e0' : a'.tmps[27]?.getD undef = .pointer (some ⟨w.heap.size + 1, 0, none⟩) := by simpa using e0
            clear y0 y1 y2 y3 y4 y5 y6 z6 ka0' ka1' ka2' ka3' ka4' ka5' ka6' kb0' kb1' kb2' kb3' kb4' kb5' kb6'
            unfold Oper.wp
            go_simp
            exact hK _ _ rfl hRR (fun _ _ h => h)
          · cases ho
            cases hd
            have e0 := hs3
            have e0' : a'.tmps[3]?.getD undef = .pointer (some ⟨w.heap.size + 1, 0, none⟩) := by simpa using e0
            clear y0 y1 y2 y3 y4 y5 y6 z0 z6 ka0' ka1' ka2' ka3' ka4' ka5' ka6' kb0' kb1' kb2' kb3' kb4' kb5' kb6'
            unfold Oper.wp
            go_simp
            exact hK _ _ rfl hRR (fun _ _ h => h)
          · cases ho
            cases hd
            have e0 : a'.tmps.getD 29 undef = .pointer (some ⟨w.heap.size + 1, 6, none⟩) := hdep 3 29 rfl (by kernel_rfl)
            have e0' : a'.tmps[29]?.getD undef = .pointer (some ⟨w.heap.size + 1, 6, none⟩) := by simpa using e0
            clear y0 y1 y2 y3 y4 y5 y6 z0 ka0' ka1' ka2' ka3' ka4' ka5' ka6' kb0' kb1' kb2' kb3' kb4' kb5' kb6'
            unfold Oper.wp
            go_simp
            exact hK _ _ rfl hRR (fun _ _ h => h)
          · cases ho
            cases hd
            have e0 : a'.tmps.getD 30 undef = .slice (some ⟨g, off, none⟩) 2 lc := hdep 4 30 rfl (by kernel_rfl)
            have e0' : a'.tmps[30]?.getD undef = .slice (some ⟨g, off, none⟩) 2 lc := by simpa using e0
            clear y0 y1 y2 y3 y4 y5 y6 z0 z6 ka0' ka1' ka2' ka3' ka4' ka5' ka6' kb0' kb1' kb2' kb3' kb4' kb5' kb6'
            unfold Oper.wp
            go_simp
            exact hK _ _ rfl hRR (fun _ _ h => h)
          · cases ho
            cases hd
            have e0 : a'.tmps.getD 31 undef = .pointer (some ⟨g, off, none⟩) := hdep 5 31 rfl (by kernel_rfl)
            have e0' : a'.tmps[31]?.getD undef = .pointer (some ⟨g, off, none⟩) := by simpa using e0
            clear y0 y1 y2 y3 y4 y5 y6 z0 z6 kb0' kb1' kb2' kb3' kb4' kb5' kb6'
            unfold Oper.wp
            go_simp
            exact hK _ _ rfl hRR (fun _ _ h => h)
          · cases ho
            cases hd
            have e0 := hs3
            have e0' : a'.tmps[3]?.getD undef = .pointer (some ⟨w.heap.size + 1, 0, none⟩) := by simpa using e0
            clear y0 y1 y2 y3 y4 y5 y6 z0 z6 ka0' ka1' ka2' ka3' ka4' ka5' ka6' kb0' kb1' kb2' kb3' kb4' kb5' kb6'
            unfold Oper.wp
            go_simp
            exact hK _ _ rfl hRR (fun _ _ h => h)
          · cases ho
            cases hd
            have e0 : a'.tmps.getD 33 undef = .pointer (some ⟨w.heap.size + 1, 6, none⟩) := hdep 7 33 rfl (by kernel_rfl)
            have e0' : a'.tmps[33]?.getD undef = .pointer (some ⟨w.heap.size + 1, 6, none⟩) := by simpa using e0
            clear y0 y1 y2 y3 y4 y5 y6 z0 ka0' ka1' ka2' ka3' ka4' ka5' ka6' kb0' kb1' kb2' kb3' kb4' kb5' kb6'
            unfold Oper.wp
            go_simp
            exact hK _ _ rfl hRR (fun _ _ h => h)
          · cases ho
            cases hd
            have e0 : a'.tmps.getD 34 undef = .slice (some ⟨g, off, none⟩) 2 lc := hdep 8 34 rfl (by kernel_rfl)
            have e0' : a'.tmps[34]?.getD undef = .slice (some ⟨g, off, none⟩) 2 lc := by simpa using e0
            clear y0 y1 y2 y3 y4 y5 y6 z0 z6 ka0' ka1' ka2' ka3' ka4' ka5' ka6' kb0' kb1' kb2' kb3' kb4' kb5' kb6'
            unfold Oper.wp
            go_simp
            exact hK _ _ rfl hRR (fun _ _ h => h)
          · cases ho
            cases hd
            have e0 : a'.tmps.getD 35 undef = .pointer (some ⟨g, off + 7, none⟩) := hdep 9 35 rfl (by kernel_rfl)
            have e0' : a'.tmps[35]?.getD undef = .pointer (some ⟨g, off + 7, none⟩) := by simpa using e0
            clear y0 y1 y2 y3 y4 y5 y6 z0 z6 ka0' ka1' ka2' ka3' ka4' ka5' ka6'
            unfold Oper.wp
            go_simp
            exact hK _ _ rfl hRR (fun _ _ h => h)
          · cases ho
            cases hd
            have e0 : a'.tmps.getD 26 undef = .agg #[.slice glo N c, .string D.p.t, .string D.p.i, .string D.a.t, .string D.a.i, .string D.r.t, .string D.r.i] := hdep 0 26 rfl (by kernel_rfl)
            have e0' : a'.tmps[26]?.getD undef = .agg #[.slice glo N c, .string D.p.t, .string D.p.i, .string D.a.t, .string D.a.i, .string D.r.t, .string D.r.i] := by simpa using e0
            have e1 : a'.tmps.getD 28 undef = .int .i64 qk := hdep 2 28 rfl (by kernel_rfl)
            have e1' : a'.tmps[28]?.getD undef = .int .i64 qk := by simpa using e1
            have e2 : a'.tmps.getD 32 undef = .agg #[.int .i64 x0.k, .bool x0.b, .int .i64 x0.n, .string x0.s, .string x0.t, .string x0.i, .slice x0.lo x0.ll x0.lc] := hdep 6 32 rfl (by kernel_rfl)
            have e2' : a'.tmps[32]?.getD undef = .agg #[.int .i64 x0.k, .bool x0.b, .int .i64 x0.n, .string x0.s, .string x0.t, .string x0.i, .slice x0.lo x0.ll x0.lc] := by simpa using e2
            have e3 : a'.tmps.getD 36 undef = .agg #[.int .i64 x1.k, .bool x1.b, .int .i64 x1.n, .string x1.s, .string x1.t, .string x1.i, .slice x1.lo x1.ll x1.lc] := hdep 10 36 rfl (by kernel_rfl)
            have e3' : a'.tmps[36]?.getD undef = .agg #[.int .i64 x1.k, .bool x1.b, .int .i64 x1.n, .string x1.s, .string x1.t, .string x1.i, .slice x1.lo x1.ll x1.lc] := by simpa using e3
            clear y0 y1 y2 y3 y4 y5 y6 z0 z6 ka0' ka1' ka2' ka3' ka4' ka5' ka6' kb0' kb1' kb2' kb3' kb4' kb5' kb6'
            have CC := CT w' (b1.trans (hRR.mono b1.size))
            unfold Oper.wp
            go_simp
            refine CC.mono ?_
            rintro e w9 ⟨⟨v9, kk9, rfl, hrc⟩, b9⟩
            exact hK _ _ ⟨v9, kk9, rfl, hrc⟩ (hRR.trans (b9.mono hRR.size)) (evSp_up b9)
          · cases ho
            cases hd
            clear y0 y1 y2 y3 y4 y5 y6 z0 z6 ka0' ka1' ka2' ka3' ka4' ka5' ka6' kb0' kb1' kb2' kb3' kb4' kb5' kb6'
            obtain ⟨v8, kk8, e0, hrc⟩ : evSp [.agg #[.slice glo N c, .string D.p.t, .string D.p.i, .string D.a.t, .string D.a.i, .string D.r.t, .string D.r.i], .pointer (some ⟨w.heap.size + 1, 0, none⟩), .int .i64 qk, .pointer (some ⟨w.heap.size + 1, 6, none⟩), .slice (some ⟨g, off, none⟩) 2 lc, .pointer (some ⟨g, off, none⟩), .agg #[.int .i64 x0.k, .bool x0.b, .int .i64 x0.n, .string x0.s, .string x0.t, .string x0.i, .slice x0.lo x0.ll x0.lc], .pointer (some ⟨w.heap.size + 1, 6, none⟩), .slice (some ⟨g, off, none⟩) 2 lc, .pointer (some ⟨g, off + 7, none⟩), .agg #[.int .i64 x1.k, .bool x1.b, .int .i64 x1.n, .string x1.s, .string x1.t, .string x1.i, .slice x1.lo x1.ll x1.lc]] r 11 (a'.tmps.getD 37 undef) w' := hdep 11 37 rfl (by kernel_rfl)
            have e0' : a'.tmps[37]?.getD undef = .tuple #[v8, .int .i64 kk8] := by simpa using e0
            have HRC := hide hrc
            clear hrc
            unfold Oper.wp
            go_simp
            exact hK _ _ ⟨kk8, unhide HRC⟩ hRR (fun _ _ h => h)
          · cases ho
            cases hd
            clear y0 y1 y2 y3 y4 y5 y6 z0 z6 ka0' ka1' ka2' ka3' ka4' ka5' ka6' kb0' kb1' kb2' kb3' kb4' kb5' kb6'
            obtain ⟨v8, kk8, e0, hrc⟩ : evSp [.agg #[.slice glo N c, .string D.p.t, .string D.p.i, .string D.a.t, .string D.a.i, .string D.r.t, .string D.r.i], .pointer (some ⟨w.heap.size + 1, 0, none⟩), .int .i64 qk, .pointer (some ⟨w.heap.size + 1, 6, none⟩), .slice (some ⟨g, off, none⟩) 2 lc, .pointer (some ⟨g, off, none⟩), .agg #[.int .i64 x0.k, .bool x0.b, .int .i64 x0.n, .string x0.s, .string x0.t, .string x0.i, .slice x0.lo x0.ll x0.lc], .pointer (some ⟨w.heap.size + 1, 6, none⟩), .slice (some ⟨g, off, none⟩) 2 lc, .pointer (some ⟨g, off + 7, none⟩), .agg #[.int .i64 x1.k, .bool x1.b, .int .i64 x1.n, .string x1.s, .string x1.t, .string x1.i, .slice x1.lo x1.ll x1.lc]] r 11 (a'.tmps.getD 37 undef) w' := hdep 11 37 rfl (by kernel_rfl)
            have e0' : a'.tmps[37]?.getD undef = .tuple #[v8, .int .i64 kk8] := by simpa using e0
            have HRC := hide hrc
            clear hrc
            unfold Oper.wp
            go_simp
            exact hK _ _ ⟨v8, kk8, rfl, unhide HRC⟩ hRR (fun _ _ h => h)
          · cases ho
            cases hd
            clear y0 y1 y2 y3 y4 y5 y6 z0 z6 ka0' ka1' ka2' ka3' ka4' ka5' ka6' kb0' kb1' kb2' kb3' kb4' kb5' kb6'
            obtain ⟨u8, hu8⟩ : ∃ u8, u8 = a'.tmps.getD 38 undef := ⟨_, rfl⟩
            obtain ⟨kk8, hrc⟩ : evSp [.agg #[.slice glo N c, .string D.p.t, .string D.p.i, .string D.a.t, .string D.a.i, .string D.r.t, .string D.r.i], .pointer (some ⟨w.heap.size + 1, 0, none⟩), .int .i64 qk, .pointer (some ⟨w.heap.size + 1, 6, none⟩), .slice (some ⟨g, off, none⟩) 2 lc, .pointer (some ⟨g, off, none⟩), .agg #[.int .i64 x0.k, .bool x0.b, .int .i64 x0.n, .string x0.s, .string x0.t, .string x0.i, .slice x0.lo x0.ll x0.lc], .pointer (some ⟨w.heap.size + 1, 6, none⟩), .slice (some ⟨g, off, none⟩) 2 lc, .pointer (some ⟨g, off + 7, none⟩), .agg #[.int .i64 x1.k, .bool x1.b, .int .i64 x1.n, .string x1.s, .string x1.t, .string x1.i, .slice x1.lo x1.ll x1.lc]] r 12 (a'.tmps.getD 38 undef) w' := hdep 12 38 rfl (by kernel_rfl)
            rw [← hu8] at hrc
            have HRC := hide hrc
            clear hrc
            have e0 := hu8.symm
            clear hu8
            have e0' : a'.tmps[38]?.getD undef = u8 := by simpa using e0
            unfold Oper.wp
            go_simp
            exact hK _ _ ⟨kk8, unhide HRC⟩ hRR (fun _ _ h => h)
          · cases ho
            cases hd
            clear y0 y1 y2 y3 y4 y5 y6 z0 z6 ka0' ka1' ka2' ka3' ka4' ka5' ka6' kb0' kb1' kb2' kb3' kb4' kb5' kb6'
            obtain ⟨v8, kk8, e0, hrc⟩ : evSp [.agg #[.slice glo N c, .string D.p.t, .string D.p.i, .string D.a.t, .string D.a.i, .string D.r.t, .string D.r.i], .pointer (some ⟨w.heap.size + 1, 0, none⟩), .int .i64 qk, .pointer (some ⟨w.heap.size + 1, 6, none⟩), .slice (some ⟨g, off, none⟩) 2 lc, .pointer (some ⟨g, off, none⟩), .agg #[.int .i64 x0.k, .bool x0.b, .int .i64 x0.n, .string x0.s, .string x0.t, .string x0.i, .slice x0.lo x0.ll x0.lc], .pointer (some ⟨w.heap.size + 1, 6, none⟩), .slice (some ⟨g, off, none⟩) 2 lc, .pointer (some ⟨g, off + 7, none⟩), .agg #[.int .i64 x1.k, .bool x1.b, .int .i64 x1.n, .string x1.s, .string x1.t, .string x1.i, .slice x1.lo x1.ll x1.lc]] r 13 (a'.tmps.getD 39 undef) w' := hdep 13 39 rfl (by kernel_rfl)
            have e0' : a'.tmps[39]?.getD undef = .int .i64 kk8 := by simpa using e0
            have HRC := hide hrc
            clear hrc
            unfold Oper.wp
            go_simp
            exact hK _ _ ⟨v8, kk8, rfl, unhide HRC⟩ hRR (fun _ _ h => h)
        · intro q o ho hd L a' w' hL hw hRR hdep K hK
          have hqN : q < 16 := (List.getElem?_eq_some_iff.1 ho).1
          have m1 := kept_of_below hRR k1
          have m2 := kept_of_below hRR k2
          have y0 : w'.cell? ⟨w.heap.size, 0, none⟩ = some (.slice glo N c) := by rw [Lib.cell_of_heap m1]; rfl
          have y1 : w'.cell? ⟨w.heap.size, 1, none⟩ = some (.string D.p.t) := by rw [Lib.cell_of_heap m1]; rfl
          have y2 : w'.cell? ⟨w.heap.size, 2, none⟩ = some (.string D.p.i) := by rw [Lib.cell_of_heap m1]; rfl
          have y3 : w'.cell? ⟨w.heap.size, 3, none⟩ = some (.string D.a.t) := by rw [Lib.cell_of_heap m1]; rfl
          have y4 : w'.cell? ⟨w.heap.size, 4, none⟩ = some (.string D.a.i) := by rw [Lib.cell_of_heap m1]; rfl
          have y5 : w'.cell? ⟨w.heap.size, 5, none⟩ = some (.string D.r.t) := by rw [Lib.cell_of_heap m1]; rfl
          have y6 : w'.cell? ⟨w.heap.size, 6, none⟩ = some (.string D.r.i) := by rw [Lib.cell_of_heap m1]; rfl
          have z0 : w'.cell? ⟨w.heap.size + 1, 0, none⟩ = some (.int .i64 qk) := by rw [Lib.cell_of_heap m2]; rfl
          have z6 : w'.cell? ⟨w.heap.size + 1, 6, none⟩ = some (.slice (some ⟨g, off, none⟩) 2 lc) := by rw [Lib.cell_of_heap m2]; rfl
          clear m1 m2
          have ka0' := (((b1).trans (hRR.mono (b1).size)).cell (p := ⟨g, off, none⟩) hg).trans ka0
          have ka1' := (((b1).trans (hRR.mono (b1).size)).cell (p := ⟨g, off + 1, none⟩) hg).trans ka1
          have ka2' := (((b1).trans (hRR.mono (b1).size)).cell (p := ⟨g, off + 2, none⟩) hg).trans ka2
          have ka3' := (((b1).trans (hRR.mono (b1).size)).cell (p := ⟨g, off + 3, none⟩) hg).trans ka3
          have ka4' := (((b1).trans (hRR.mono (b1).size)).cell (p := ⟨g, off + 4, none⟩) hg).trans ka4
          have ka5' := (((b1).trans (hRR.mono (b1).size)).cell (p := ⟨g, off + 5, none⟩) hg).trans ka5
          have ka6' := (((b1).trans (hRR.mono (b1).size)).cell (p := ⟨g, off + 6, none⟩) hg).trans ka6
          have kb0' := (((b1).trans (hRR.mono (b1).size)).cell (p := ⟨g, off + 7, none⟩) hg).trans kb0
          have kb1' := (((b1).trans (hRR.mono (b1).size)).cell (p := ⟨g, off + 8, none⟩) hg).trans kb1
          have kb2' := (((b1).trans (hRR.mono (b1).size)).cell (p := ⟨g, off + 9, none⟩) hg).trans kb2
          have kb3' := (((b1).trans (hRR.mono (b1).size)).cell (p := ⟨g, off + 10, none⟩) hg).trans kb3
          have kb4' := (((b1).trans (hRR.mono (b1).size)).cell (p := ⟨g, off + 11, none⟩) hg).trans kb4
          have kb5' := (((b1).trans (hRR.mono (b1).size)).cell (p := ⟨g, off + 12, none⟩) hg).trans kb5
          have kb6' := (((b1).trans (hRR.mono (b1).size)).cell (p := ⟨g, off + 13, none⟩) hg).trans kb6
          have hc : q = 0 ∨ q = 1 ∨ q = 2 ∨ q = 3 ∨ q = 4 ∨ q = 5 ∨ q = 6 ∨ q = 7 ∨ q = 8 ∨ q = 9 ∨ q = 10 ∨ q = 11 ∨ q = 12 ∨ q = 13 ∨ q = 14 ∨ q = 15 := by omega
          rcases hc with rfl | rfl | rfl | rfl | rfl | rfl | rfl | rfl | rfl | rfl | rfl | rfl | rfl | rfl | rfl | rfl
          · cases hd
          · cases hd
          · cases hd
          · cases hd
          · cases hd
          · cases hd
          · cases hd
          · cases hd
          · cases hd
          · cases hd
          · cases hd
          · cases hd
          · cases hd
          · cases hd
          · cases hd
          · cases hd
        · intro v L w' hLa hRR hv
          have f0 : v 0 = .agg #[.slice glo N c, .string D.p.t, .string D.p.i, .string D.a.t, .string D.a.i, .string D.r.t, .string D.r.i] := (hv 0 26 rfl).1
          have f1 : v 1 = .pointer (some ⟨w.heap.size + 1, 0, none⟩) := (hv 1 27 rfl).1
          have f2 : v 2 = .int .i64 qk := (hv 2 28 rfl).1
          have f3 : v 3 = .pointer (some ⟨w.heap.size + 1, 6, none⟩) := (hv 3 29 rfl).1
          have f4 : v 4 = .slice (some ⟨g, off, none⟩) 2 lc := (hv 4 30 rfl).1
          have f5 : v 5 = .pointer (some ⟨g, off, none⟩) := (hv 5 31 rfl).1
          have f6 : v 6 = .agg #[.int .i64 x0.k, .bool x0.b, .int .i64 x0.n, .string x0.s, .string x0.t, .string x0.i, .slice x0.lo x0.ll x0.lc] := (hv 6 32 rfl).1
          have f7 : v 7 = .pointer (some ⟨w.heap.size + 1, 6, none⟩) := (hv 7 33 rfl).1
          have f8 : v 8 = .slice (some ⟨g, off, none⟩) 2 lc := (hv 8 34 rfl).1
          have f9 : v 9 = .pointer (some ⟨g, off + 7, none⟩) := (hv 9 35 rfl).1
          have f10 : v 10 = .agg #[.int .i64 x1.k, .bool x1.b, .int .i64 x1.n, .string x1.s, .string x1.t, .string x1.i, .slice x1.lo x1.ll x1.lc] := (hv 10 36 rfl).1
          obtain ⟨v8, kk8, f15, hrc8⟩ : evSp [.agg #[.slice glo N c, .string D.p.t, .string D.p.i, .string D.a.t, .string D.a.i, .string D.r.t, .string D.r.i], .pointer (some ⟨w.heap.size + 1, 0, none⟩), .int .i64 qk, .pointer (some ⟨w.heap.size + 1, 6, none⟩), .slice (some ⟨g, off, none⟩) 2 lc, .pointer (some ⟨g, off, none⟩), .agg #[.int .i64 x0.k, .bool x0.b, .int .i64 x0.n, .string x0.s, .string x0.t, .string x0.i, .slice x0.lo x0.ll x0.lc], .pointer (some ⟨w.heap.size + 1, 6, none⟩), .slice (some ⟨g, off, none⟩) 2 lc, .pointer (some ⟨g, off + 7, none⟩), .agg #[.int .i64 x1.k, .bool x1.b, .int .i64 x1.n, .string x1.s, .string x1.t, .string x1.i, .slice x1.lo x1.ll x1.lc]] r 15 (v 15) w' := (hv 15 5 rfl).1
          obtain ⟨kk7, hrc7⟩ : evSp [.agg #[.slice glo N c, .string D.p.t, .string D.p.i, .string D.a.t, .string D.a.i, .string D.r.t, .string D.r.i], .pointer (some ⟨w.heap.size + 1, 0, none⟩), .int .i64 qk, .pointer (some ⟨w.heap.size + 1, 6, none⟩), .slice (some ⟨g, off, none⟩) 2 lc, .pointer (some ⟨g, off, none⟩), .agg #[.int .i64 x0.k, .bool x0.b, .int .i64 x0.n, .string x0.s, .string x0.t, .string x0.i, .slice x0.lo x0.ll x0.lc], .pointer (some ⟨w.heap.size + 1, 6, none⟩), .slice (some ⟨g, off, none⟩) 2 lc, .pointer (some ⟨g, off + 7, none⟩), .agg #[.int .i64 x1.k, .bool x1.b, .int .i64 x1.n, .string x1.s, .string x1.t, .string x1.i, .slice x1.lo x1.ll x1.lc]] r 14 (v 14) w' := (hv 14 4 rfl).1
          have HRC := hide (hrc7.both hrc8)
          clear hrc7 hrc8
          have bE := hRR
          clear hRR hv hLa
          simp only [putAll, dstOf, List.getElem?_cons_zero, List.getElem?_cons_succ, Option.bind_some, List.length_cons, List.length_nil, f0, f1, f2, f3, f4, f5, f6, f7, f8, f9, f10, f15]
          clear f0 f1 f2 f3 f4 f5 f6 f7 f8 f9 f10 f15
          simp only [Act.put, List.setIfInBounds_toArray, List.set_cons_succ, List.set_cons_zero]
          generalize v 14 = vR at *
          generalize v 11 = vv11
          generalize v 12 = vv12
          generalize v 13 = vv13
          go_wp2
          go_ret2
          exact ⟨⟨_, _, rfl, unhide HRC⟩, b1.trans (bE.mono b1.size)⟩
end Go.Proofs.YtbbongdnnmanlaaGreat

namespace Go.Proofs.YtbbongdnnmanlaaGreat
open Go.RowKit Go.Sort

set_option maxHeartbeats 1000000 in
theorem set7_all {w0 w : World} {V B : Nat} {z0 z1 z2 z3 z4 z5 z6 : Value} {T : TypeId} (a0 a1 a2 a3 a4 a5 a6 : Value) (h : w.heap[V]? = some (.cells #[z0, z1, z2, z3, z4, z5, z6] T (0, 0))) (hb : Below B w0 w) (hV : B ≤ V) :
    ((((((((w.setCell ⟨V, 0, none⟩ (a0)).setCell ⟨V, 1, none⟩ (a1)).setCell ⟨V, 2, none⟩ (a2)).setCell ⟨V, 3, none⟩ (a3)).setCell ⟨V, 4, none⟩ (a4)).setCell ⟨V, 5, none⟩ (a5)).setCell ⟨V, 6, none⟩ (a6)).cell? ⟨V, 0, none⟩ = some a0 ∧ (((((((w.setCell ⟨V, 0, none⟩ (a0)).setCell ⟨V, 1, none⟩ (a1)).setCell ⟨V, 2, none⟩ (a2)).setCell ⟨V, 3, none⟩ (a3)).setCell ⟨V, 4, none⟩ (a4)).setCell ⟨V, 5, none⟩ (a5)).setCell ⟨V, 6, none⟩ (a6)).cell? ⟨V, 1, none⟩ = some a1 ∧ (((((((w.setCell ⟨V, 0, none⟩ (a0)).setCell ⟨V, 1, none⟩ (a1)).setCell ⟨V, 2, none⟩ (a2)).setCell ⟨V, 3, none⟩ (a3)).setCell ⟨V, 4, none⟩ (a4)).setCell ⟨V, 5, none⟩ (a5)).setCell ⟨V, 6, none⟩ (a6)).cell? ⟨V, 2, none⟩ = some a2 ∧ (((((((w.setCell ⟨V, 0, none⟩ (a0)).setCell ⟨V, 1, none⟩ (a1)).setCell ⟨V, 2, none⟩ (a2)).setCell ⟨V, 3, none⟩ (a3)).setCell ⟨V, 4, none⟩ (a4)).setCell ⟨V, 5, none⟩ (a5)).setCell ⟨V, 6, none⟩ (a6)).cell? ⟨V, 3, none⟩ = some a3 ∧ (((((((w.setCell ⟨V, 0, none⟩ (a0)).setCell ⟨V, 1, none⟩ (a1)).setCell ⟨V, 2, none⟩ (a2)).setCell ⟨V, 3, none⟩ (a3)).setCell ⟨V, 4, none⟩ (a4)).setCell ⟨V, 5, none⟩ (a5)).setCell ⟨V, 6, none⟩ (a6)).cell? ⟨V, 4, none⟩ = some a4 ∧ (((((((w.setCell ⟨V, 0, none⟩ (a0)).setCell ⟨V, 1, none⟩ (a1)).setCell ⟨V, 2, none⟩ (a2)).setCell ⟨V, 3, none⟩ (a3)).setCell ⟨V, 4, none⟩ (a4)).setCell ⟨V, 5, none⟩ (a5)).setCell ⟨V, 6, none⟩ (a6)).cell? ⟨V, 5, none⟩ = some a5 ∧ (((((((w.setCell ⟨V, 0, none⟩ (a0)).setCell ⟨V, 1, none⟩ (a1)).setCell ⟨V, 2, none⟩ (a2)).setCell ⟨V, 3, none⟩ (a3)).setCell ⟨V, 4, none⟩ (a4)).setCell ⟨V, 5, none⟩ (a5)).setCell ⟨V, 6, none⟩ (a6)).cell? ⟨V, 6, none⟩ = some a6) ∧ Below B w0 (((((((w.setCell ⟨V, 0, none⟩ (a0)).setCell ⟨V, 1, none⟩ (a1)).setCell ⟨V, 2, none⟩ (a2)).setCell ⟨V, 3, none⟩ (a3)).setCell ⟨V, 4, none⟩ (a4)).setCell ⟨V, 5, none⟩ (a5)).setCell ⟨V, 6, none⟩ (a6)) ∧ (∀ k, k ≠ V → (((((((w.setCell ⟨V, 0, none⟩ (a0)).setCell ⟨V, 1, none⟩ (a1)).setCell ⟨V, 2, none⟩ (a2)).setCell ⟨V, 3, none⟩ (a3)).setCell ⟨V, 4, none⟩ (a4)).setCell ⟨V, 5, none⟩ (a5)).setCell ⟨V, 6, none⟩ (a6)).heap[k]? = w.heap[k]?) ∧ (((((((w.setCell ⟨V, 0, none⟩ (a0)).setCell ⟨V, 1, none⟩ (a1)).setCell ⟨V, 2, none⟩ (a2)).setCell ⟨V, 3, none⟩ (a3)).setCell ⟨V, 4, none⟩ (a4)).setCell ⟨V, 5, none⟩ (a5)).setCell ⟨V, 6, none⟩ (a6)).heap.size = w.heap.size := by
  have q : (((((((w.setCell ⟨V, 0, none⟩ (a0)).setCell ⟨V, 1, none⟩ (a1)).setCell ⟨V, 2, none⟩ (a2)).setCell ⟨V, 3, none⟩ (a3)).setCell ⟨V, 4, none⟩ (a4)).setCell ⟨V, 5, none⟩ (a5)).setCell ⟨V, 6, none⟩ (a6)).heap[V]? = some (.cells #[a0, a1, a2, a3, a4, a5, a6] T (0, 0)) := heap_setCell_same _ V 6 _ _ a6 (heap_setCell_same _ V 5 _ _ a5 (heap_setCell_same _ V 4 _ _ a4 (heap_setCell_same _ V 3 _ _ a3 (heap_setCell_same _ V 2 _ _ a2 (heap_setCell_same _ V 1 _ _ a1 (heap_setCell_same w V 0 _ _ a0 h))))))
  refine ⟨?_, ?_, fun k hk => ?_, by simp⟩
  · generalize (((((((w.setCell ⟨V, 0, none⟩ (a0)).setCell ⟨V, 1, none⟩ (a1)).setCell ⟨V, 2, none⟩ (a2)).setCell ⟨V, 3, none⟩ (a3)).setCell ⟨V, 4, none⟩ (a4)).setCell ⟨V, 5, none⟩ (a5)).setCell ⟨V, 6, none⟩ (a6)) = W at q ⊢
    exact ⟨by rw [Lib.cell_of_heap q]; rfl, by rw [Lib.cell_of_heap q]; rfl, by rw [Lib.cell_of_heap q]; rfl, by rw [Lib.cell_of_heap q]; rfl, by rw [Lib.cell_of_heap q]; rfl, by rw [Lib.cell_of_heap q]; rfl, by rw [Lib.cell_of_heap q]; rfl⟩
  · exact ((((((hb.setCell (p := ⟨V, 0, none⟩) hV _).setCell (p := ⟨V, 1, none⟩) hV _).setCell (p := ⟨V, 2, none⟩) hV _).setCell (p := ⟨V, 3, none⟩) hV _).setCell (p := ⟨V, 4, none⟩) hV _).setCell (p := ⟨V, 5, none⟩) hV _).setCell (p := ⟨V, 6, none⟩) hV _
  · rw [Below.heap_setCell _ _ _ _ hk, Below.heap_setCell _ _ _ _ hk, Below.heap_setCell _ _ _ _ hk, Below.heap_setCell _ _ _ _ hk, Below.heap_setCell _ _ _ _ hk, Below.heap_setCell _ _ _ _ hk, Below.heap_setCell _ _ _ _ hk]
theorem isG_otherE {w : World} {g : GV} {R : R7} {b : Nat} (h : IsG w g R) (hb : w.cell? ⟨b, 0, none⟩ = some (.int .i64 0)) : IsGP w (fun k => k ≠ b) g R := by
  refine ⟨h, fun ad e hl hk => ?_⟩
  cases g with
  | pl p =>
    have : R = ofP p := h
    rw [this] at hl
    cases p <;> exact absurd rfl hl
  | set l =>
    obtain ⟨ao, c, rfl, hr, ho⟩ := h
    have e1 : ao = some ad := e
    have hl' : l.length ≠ 0 := hl
    have hl0 : 0 < (l.map ofP).length := by simp; omega
    obtain ⟨b', off, e', _, hc⟩ := hr 0 hl0
    have h0 := ho ad e1
    rw [e1] at e'
    cases e'
    have h0 : off = 0 := h0
    have hk : b' = b := hk
    subst h0 hk
    have h1 : w.cell? ⟨b', 0, none⟩ = some (.int .i64 ((l.map ofP)[0]'hl0).k) := hc 0 _ rfl
    rw [hb] at h1
    have h2 : (0 : Int) = ((l.map ofP)[0]'hl0).k := by
      injection h1 with h1
      injection h1
    rw [List.getElem_map, ofP_k] at h2
    generalize (l[0]'(by simpa using hl0)) = p at h2
    cases p <;> cases h2
/-- What Expr returns: a value and OK, or an error and no value. -/
def RetE (w : World) (r : EvR) (e : Ending) : Prop := ∃ R : R7, ∃ k : Int, e = .returned (.tuple #[.agg #[.int .i64 R.k, .bool R.b, .int .i64 R.n, .string R.s, .string R.t, .string R.i, .slice R.lo R.ll R.lc], .int .i64 k]) ∧ (match r with
  | .inl g => k = 0 ∧ IsG w g R ∧ okEG g
  | .inr x => k = x ∧ x ≠ 0 ∧ R = zero7)

set_option maxHeartbeats 8000000 in
set_option maxRecDepth 1000000 in
theorem expr13_any (glo : Option Addr) (gs : List E4) (N c : Nat) (D : EvD) (e : Ex) (q : R7) (w : World) (hN : N = gs.length) (hE : EW w glo gs D) (hq : IsE w (fun _ => True) q e) (hok : okEv e = true) :
    Calls Tryz.prog 7 #[.slice glo N c, .agg #[.string D.p.t, .string D.p.i, .string D.a.t, .string D.a.i, .string D.r.t, .string D.r.i], .agg #[.int .i64 q.k, .bool q.b, .int .i64 q.n, .string q.s, .string q.t, .string q.i, .slice q.lo q.ll q.lc]] w fun en w' => RetE w' (evalE D e) en ∧ Below w.heap.size w w' := by
  have CO := fun w' (hb : Below w.heap.size w w') => of13_any glo gs c D (depE e) e (Nat.le_refl _) hok q w' (hE.below hb) (liftX hq hb)
  unfold wV at CO
  rw [← hN] at CO
  clear hE hq hok hN
  generalize evalE D e = r at *
  obtain ⟨b1, zz, k1, k2, k3⟩ := ev3 w (.cells #[.string D.p.t, .string D.p.i, .string D.a.t, .string D.a.i, .string D.r.t, .string D.r.i] 42) (.cells #[.int .i64 q.k, .bool q.b, .int .i64 q.n, .string q.s, .string q.t, .string q.i, .slice q.lo q.ll q.lc] 35) (.cells #[.int .i64 0, .bool false, .int .i64 0, .string ⟨#[]⟩, .string ⟨#[]⟩, .string ⟨#[]⟩, .slice none 0 0] 31)
  have hV : w.heap.size ≤ w.heap.size + 2 := Nat.le_add_right _ 2
  clear zz
  go_enter Tryz.func7, Tryz.ntmps7
  go_upto_region 1 with fail
  generalize ((w.alloc _).alloc _).alloc _ = w1 at *
  have cw0 : w1.cell? ⟨w.heap.size, 0, none⟩ = some (.string D.p.t) := by rw [Lib.cell_of_heap k1]; rfl
  have cw1 : w1.cell? ⟨w.heap.size, 1, none⟩ = some (.string D.p.i) := by rw [Lib.cell_of_heap k1]; rfl
  have cw2 : w1.cell? ⟨w.heap.size, 2, none⟩ = some (.string D.a.t) := by rw [Lib.cell_of_heap k1]; rfl
  have cw3 : w1.cell? ⟨w.heap.size, 3, none⟩ = some (.string D.a.i) := by rw [Lib.cell_of_heap k1]; rfl
  have cw4 : w1.cell? ⟨w.heap.size, 4, none⟩ = some (.string D.r.t) := by rw [Lib.cell_of_heap k1]; rfl
  have cw5 : w1.cell? ⟨w.heap.size, 5, none⟩ = some (.string D.r.i) := by rw [Lib.cell_of_heap k1]; rfl
  have ce0 : w1.cell? ⟨w.heap.size + 1, 0, none⟩ = some (.int .i64 q.k) := by rw [Lib.cell_of_heap k2]; rfl
  have ce1 : w1.cell? ⟨w.heap.size + 1, 1, none⟩ = some (.bool q.b) := by rw [Lib.cell_of_heap k2]; rfl
  have ce2 : w1.cell? ⟨w.heap.size + 1, 2, none⟩ = some (.int .i64 q.n) := by rw [Lib.cell_of_heap k2]; rfl
  have ce3 : w1.cell? ⟨w.heap.size + 1, 3, none⟩ = some (.string q.s) := by rw [Lib.cell_of_heap k2]; rfl
  have ce4 : w1.cell? ⟨w.heap.size + 1, 4, none⟩ = some (.string q.t) := by rw [Lib.cell_of_heap k2]; rfl
  have ce5 : w1.cell? ⟨w.heap.size + 1, 5, none⟩ = some (.string q.i) := by rw [Lib.cell_of_heap k2]; rfl
  have ce6 : w1.cell? ⟨w.heap.size + 1, 6, none⟩ = some (.slice q.lo q.ll q.lc) := by rw [Lib.cell_of_heap k2]; rfl
  have C := CO w1 b1
  clear CO
  go_wp2_with fail
  refine C.mono ?_
  rintro e9 w3 ⟨⟨v, kk, rfl, hrc⟩, b3⟩
  have B3 := b1.trans (b3.mono b1.size)
  have k33 := kept_of_below b3 k3
  clear C cw0 cw1 cw2 cw3 cw4 cw5 ce0 ce1 ce2 ce3 ce4 ce5 ce6
  cases r with
  | inr x =>
    obtain ⟨rfl, hx⟩ : kk = x ∧ x ≠ 0 := hrc
    have gx : (kk != 0) = true := by simpa using hx
    have HX := hide hx
    clear hx
    have z0 : w3.cell? ⟨w.heap.size + 2, 0, none⟩ = some (.int .i64 0) := by rw [Lib.cell_of_heap k33]; rfl
    have z1 : w3.cell? ⟨w.heap.size + 2, 1, none⟩ = some (.bool false) := by rw [Lib.cell_of_heap k33]; rfl
    have z2 : w3.cell? ⟨w.heap.size + 2, 2, none⟩ = some (.int .i64 0) := by rw [Lib.cell_of_heap k33]; rfl
    have z3 : w3.cell? ⟨w.heap.size + 2, 3, none⟩ = some (.string ⟨#[]⟩) := by rw [Lib.cell_of_heap k33]; rfl
    have z4 : w3.cell? ⟨w.heap.size + 2, 4, none⟩ = some (.string ⟨#[]⟩) := by rw [Lib.cell_of_heap k33]; rfl
    have z5 : w3.cell? ⟨w.heap.size + 2, 5, none⟩ = some (.string ⟨#[]⟩) := by rw [Lib.cell_of_heap k33]; rfl
    have z6 : w3.cell? ⟨w.heap.size + 2, 6, none⟩ = some (.slice none 0 0) := by rw [Lib.cell_of_heap k33]; rfl
    have zf : ∀ o, w3.frozen? ⟨w.heap.size + 2, o, none⟩ = false := fun o => Lib.frozen_of_heap k33 o
    have HQ := hide (set7_all (.int .i64 0) (.bool false) (.int .i64 0) (.string ⟨#[]⟩) (.string ⟨#[]⟩) (.string ⟨#[]⟩) (.slice none 0 0) k33 B3 hV)
    clear k33
    go_wp2
    obtain ⟨⟨q0, q1, q2, q3, q4, q5, q6⟩, qb, _, _⟩ := unhide HQ
    exact bodyPost_ret (v := .tuple #[.agg #[.int .i64 0, .bool false, .int .i64 0, .string ⟨#[]⟩, .string ⟨#[]⟩, .string ⟨#[]⟩, .slice none 0 0], .int .i64 kk]) (by simp [results, Tryz.results7, go_sem, q0, q1, q2, q3, q4, q5, q6]) rfl ⟨⟨zero7, kk, rfl, rfl, unhide HX, rfl⟩, qb⟩
  | inl g =>
    obtain ⟨rfl, hc⟩ : kk = 0 ∧ IsC w3 g v := hrc
    have HO := hide hc.1
    obtain ⟨Tb, fb, xb, Rb, rfl, gB, sB, nB, mB, eB, CB⟩ := c_value hc
    clear hc sB
    have z0 : w3.cell? ⟨w.heap.size + 2, 0, none⟩ = some (.int .i64 0) := by rw [Lib.cell_of_heap k33]; rfl
    have HG := hide (isG_otherE gB z0)
    clear z0 gB
    have CB := CB w3
    unfold R7.val at CB
    go_wp2_with fail
    refine CB.mono ?_
    rintro e9 w5 ⟨rfl, b5⟩
    have B5 := B3.trans (b5.mono B3.size)
    have k35 := kept_of_below b5 k33
    clear CB k33 nB mB eB
    have z0 : w5.cell? ⟨w.heap.size + 2, 0, none⟩ = some (.int .i64 0) := by rw [Lib.cell_of_heap k35]; rfl
    have z1 : w5.cell? ⟨w.heap.size + 2, 1, none⟩ = some (.bool false) := by rw [Lib.cell_of_heap k35]; rfl
    have z2 : w5.cell? ⟨w.heap.size + 2, 2, none⟩ = some (.int .i64 0) := by rw [Lib.cell_of_heap k35]; rfl
    have z3 : w5.cell? ⟨w.heap.size + 2, 3, none⟩ = some (.string ⟨#[]⟩) := by rw [Lib.cell_of_heap k35]; rfl
    have z4 : w5.cell? ⟨w.heap.size + 2, 4, none⟩ = some (.string ⟨#[]⟩) := by rw [Lib.cell_of_heap k35]; rfl
    have z5 : w5.cell? ⟨w.heap.size + 2, 5, none⟩ = some (.string ⟨#[]⟩) := by rw [Lib.cell_of_heap k35]; rfl
    have z6 : w5.cell? ⟨w.heap.size + 2, 6, none⟩ = some (.slice none 0 0) := by rw [Lib.cell_of_heap k35]; rfl
    have zf : ∀ o, w5.frozen? ⟨w.heap.size + 2, o, none⟩ = false := fun o => Lib.frozen_of_heap k35 o
    have HQ := hide (set7_all (.int .i64 Rb.k) (.bool Rb.b) (.int .i64 Rb.n) (.string Rb.s) (.string Rb.t) (.string Rb.i) (.slice Rb.lo Rb.ll Rb.lc) k35 B5 hV)
    have HG5 := hide ((unhide HG).below b5)
    clear k35 HG
    go_wp2
    obtain ⟨⟨q0, q1, q2, q3, q4, q5, q6⟩, qb, qk, qs⟩ := unhide HQ
    exact bodyPost_ret (v := .tuple #[.agg #[.int .i64 Rb.k, .bool Rb.b, .int .i64 Rb.n, .string Rb.s, .string Rb.t, .string Rb.i, .slice Rb.lo Rb.ll Rb.lc], .int .i64 0]) (by simp [results, Tryz.results7, go_sem, q0, q1, q2, q3, q4, q5, q6]) rfl ⟨⟨Rb, 0, rfl, rfl, ((unhide HG5).turn (P' := fun _ => True) (Nat.le_of_eq qs.symm) (fun b hb _ => ⟨qk b hb, trivial⟩)).1, unhide HO⟩, qb⟩
end Go.Proofs.YtbbongdnnmanlaaGreat
