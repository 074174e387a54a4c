/-
  slices.BinarySearchFunc over a rising row of plain values, by value.compare.
  slices.Insert of one value into a row of the call's own.
  slices.Insert of one value into a row of the call's own: in the midst.
  slices.Insert of one value into a row of the call's own: in the midst, where there is no room; and all roads together.
  value.mayStandBy; the contents' value: what they return.
  value.Set: where a kind is not the first one's, or a set's.
  Plain facts: a set grows by one in its place; the cells of a row of plain values.
  value.Set of plain values of one kind.
  Values such as may be, in memory (no walk in it).
-/
import Derived.Test.YtbbongdnnmanlaaGreatVcAD
import Derived.Test.YtbbongdnnmanlaaGreatValX
import Derived.OwnWalk
import Derived.Carry
import Derived.Laws.CopyOwn
import Derived.Lib.Overlaps
import Derived.Lib.AppendZerosOnto
import Derived.Laws.Externs
import Derived.Test.YtbbongdnnmanlaaGreatVcK
import Derived.Test.YtbbongdnnmanlaaGreatR7A
namespace Go.Proofs.YtbbongdnnmanlaaGreat
open Go.RowKit Go.Sort

theorem rowAt {w2 wr : World} {ao : Option Addr} {l : List PV} (h : RowP w2 ao l) (hbw : Below w2.heap.size w2 wr) {j : Nat} (hj : j < l.length) :
    ∃ b off a0 c0 k bb n s t i, ao = some ⟨b, off, none⟩ ∧ valP l[j] (.slice a0 0 c0) = .agg #[.int .i64 k, .bool bb, .int .i64 n, .string s, .string t, .string i, .slice a0 0 c0] ∧
      (∀ d os, (grow (redrawn wr d) os).cell? ⟨b, off + j * 7, none⟩ = some (.int .i64 k)) ∧ (∀ d os, (grow (redrawn wr d) os).cell? ⟨b, off + j * 7 + 1, none⟩ = some (.bool bb)) ∧ (∀ d os, (grow (redrawn wr d) os).cell? ⟨b, off + j * 7 + 2, none⟩ = some (.int .i64 n)) ∧
      (∀ d os, (grow (redrawn wr d) os).cell? ⟨b, off + j * 7 + 3, none⟩ = some (.string s)) ∧ (∀ d os, (grow (redrawn wr d) os).cell? ⟨b, off + j * 7 + 4, none⟩ = some (.string t)) ∧ (∀ d os, (grow (redrawn wr d) os).cell? ⟨b, off + j * 7 + 5, none⟩ = some (.string i)) ∧ (∀ d os, (grow (redrawn wr d) os).cell? ⟨b, off + j * 7 + 6, none⟩ = some (.slice a0 0 c0)) := by
  obtain ⟨b, off, a0, c0, e, hb, hc⟩ := h j hj
  generalize l[j] = p at *
  obtain ⟨k, bb, n, s, t, i, hp, hcs⟩ : ∃ k bb n s t i, valP p (.slice a0 0 c0) = val7 k bb n s t i (.slice a0 0 c0) ∧ cellsP p (.slice a0 0 c0) = [.int .i64 k, .bool bb, .int .i64 n, .string s, .string t, .string i, .slice a0 0 c0] := by
    cases p <;> exact ⟨_, _, _, _, _, _, rfl, rfl⟩
  rw [hcs] at hc
  have up : ∀ {a : Addr} {v : Value}, a.block < w2.heap.size → w2.cell? a = some v → ∀ d os, (grow (redrawn wr d) os).cell? a = some v := fun h1 h2 d os => cell_regrown ((hbw.cell h1).trans h2) d os
  exact ⟨b, off, a0, c0, k, bb, n, s, t, i, e, hp, up (a := ⟨b, off + j * 7 + 0, none⟩) hb (hc 0 _ rfl), up (a := ⟨b, off + j * 7 + 1, none⟩) hb (hc 1 _ rfl), up (a := ⟨b, off + j * 7 + 2, none⟩) hb (hc 2 _ rfl), up (a := ⟨b, off + j * 7 + 3, none⟩) hb (hc 3 _ rfl),
    up (a := ⟨b, off + j * 7 + 4, none⟩) hb (hc 4 _ rfl), up (a := ⟨b, off + j * 7 + 5, none⟩) hb (hc 5 _ rfl), up (a := ⟨b, off + j * 7 + 6, none⟩) hb (hc 6 _ rfl)⟩

/-- Where q belongs in a rising row. -/
structure Cutp (l : List PV) (q : PV) (i : Nat) : Prop where
  le : i ≤ l.length
  lo : ∀ k (h : k < l.length), k < i → lessP l[k] q = true
  hi : ∀ k (h : k < l.length), i ≤ k → lessP l[k] q = false

theorem Cutp.mem {l : List PV} {q : PV} {i : Nat} (c : Cutp l q i) (hr : Rising lessP l) : q ∈ l ↔ ∃ h : i < l.length, l[i] = q := by
  constructor
  · intro hq
    obtain ⟨k, hk, e⟩ := List.getElem_of_mem hq
    have h1 : ¬ k < i := fun h => by
      have := c.lo k hk h
      rw [e, sto_lessP.irr] at this
      cases this
    have hil : i < l.length := by omega
    refine ⟨hil, ?_⟩
    by_cases hki : k = i
    · subst hki
      exact e
    · have := List.pairwise_iff_getElem.1 hr i k hil hk (by omega)
      rw [e] at this
      have h2 := c.hi i hil (Nat.le_refl _)
      rw [this] at h2
      cases h2
  · rintro ⟨h, e⟩
    rw [← e]
    exact List.getElem_mem h

theorem below_drewN (w : World) (n : Nat) : Below w.heap.size w (w.drewN n) := ⟨rfl, rfl, rfl, Nat.le_refl _, fun _ _ => rfl⟩
theorem half (i j : Nat) (h : i < j) : i ≤ (i + j) / 2 ∧ (i + j) / 2 < j := by omega

set_option maxHeartbeats 2000000 in
set_option maxRecDepth 100000 in
theorem binSearch (l : List PV) (q : PV) (ao bo : Option Addr) (ca cb : Nat) (w : World) (hl : l.length ≤ 1048576) (hr : RowP w ao l) (hri : Rising lessP l) :
    Calls Tryz.prog 44 #[.slice ao l.length ca, valP q (.slice bo 0 cb), .func (.func 45) #[] #[]] w fun e w' => ∃ i : Nat, Cutp l q i ∧ e = .returned (.tuple #[.int .i64 i, .bool (decide (q ∈ l))]) ∧ Below w.heap.size w w' := by
  obtain ⟨k, bb, n, s, t, i, hq⟩ : ∃ k bb n s t i, valP q (.slice bo 0 cb) = val7 k bb n s t i (.slice bo 0 cb) := by
    cases q <;> exact ⟨_, _, _, _, _, _, rfl⟩
  have HQ := hide hq
  rw [hq]
  clear hq
  unfold val7
  go_enter Tryz.func44, Tryz.ntmps44
  go_wp2
  generalize hw2 : w.alloc (.cells #[.int .i64 k, .bool bb, .int .i64 n, .string s, .string t, .string i, .slice bo 0 cb] 31) = w2
  have b02 : Below w.heap.size w w2 := by rw [← hw2]; exact below1 _ _
  have z2 : w2.heap.size = w.heap.size + 1 := by rw [← hw2]; simp
  have d0 : w2.cell? ⟨w.heap.size, 0, none⟩ = some (.int .i64 k) := by rw [← hw2]; simp
  have d1 : w2.cell? ⟨w.heap.size, 1, none⟩ = some (.bool bb) := by rw [← hw2]; simp
  have d2 : w2.cell? ⟨w.heap.size, 2, none⟩ = some (.int .i64 n) := by rw [← hw2]; simp
  have d3 : w2.cell? ⟨w.heap.size, 3, none⟩ = some (.string s) := by rw [← hw2]; simp
  have d4 : w2.cell? ⟨w.heap.size, 4, none⟩ = some (.string t) := by rw [← hw2]; simp
  have d5 : w2.cell? ⟨w.heap.size, 5, none⟩ = some (.string i) := by rw [← hw2]; simp
  have d6 : w2.cell? ⟨w.heap.size, 6, none⟩ = some (.slice bo 0 cb) := by rw [← hw2]; simp
  have hr2 := hr.below b02
  clear hw2 hr
  go_loopw [9, 10] (fun iv jv wr => ∃ i j : Nat, iv = .int .i64 i ∧ jv = .int .i64 j ∧ i ≤ j ∧ j ≤ l.length ∧ Below w2.heap.size w2 wr ∧ (∀ k (h : k < l.length), k < i → lessP l[k] q = true) ∧ (∀ k (h : k < l.length), j ≤ k → lessP l[k] q = false)) (fun iv jv _ => (intOf jv).toNat - (intOf iv).toNat)
  case atStart => exact ⟨0, l.length, by go_num, rfl, Nat.zero_le _, Nat.le_refl _, Below.refl _ _, fun k _ h => absurd h (Nat.not_lt_zero _), fun k h h' => absurd h (by omega)⟩
  case round =>
    obtain ⟨x, y, rfl, rfl, hxy, hyl, hbw, hlo, hhi⟩ := hrel
    have Hlo := hide hlo
    have Hhi := hide hhi
    clear hlo hhi
    have up : ∀ {a : Addr} {v : Value}, a.block < w2.heap.size → w2.cell? a = some v → ∀ d os, (grow (redrawn wr d) os).cell? a = some v := fun h1 h2 d os => cell_regrown ((hbw.cell h1).trans h2) d os
    have D0 := up (a := ⟨w.heap.size, 0, none⟩) (by show w.heap.size < _; omega) d0
    have D1 := up (a := ⟨w.heap.size, 1, none⟩) (by show w.heap.size < _; omega) d1
    have D2 := up (a := ⟨w.heap.size, 2, none⟩) (by show w.heap.size < _; omega) d2
    have D3 := up (a := ⟨w.heap.size, 3, none⟩) (by show w.heap.size < _; omega) d3
    have D4 := up (a := ⟨w.heap.size, 4, none⟩) (by show w.heap.size < _; omega) d4
    have D5 := up (a := ⟨w.heap.size, 5, none⟩) (by show w.heap.size < _; omega) d5
    have D6 := up (a := ⟨w.heap.size, 6, none⟩) (by show w.heap.size < _; omega) d6
    by_cases hlt : x < y
    · have i1 : (x : Int) < (y : Int) := by omega
      go_wp2_with fail
      obtain ⟨m, hm⟩ : ∃ m, m = (x + y) / 2 := ⟨_, rfl⟩
      have hm1 : x ≤ m := by omega
      have hm2 : m < y := by omega
      have eh : ((x : Int) + (y : Int)) / 2 = ((m : Nat) : Int) := by omega
      have hml : m < l.length := by omega
      rw [eh]
      clear eh hm
      obtain ⟨b, off, a0, c0, k1, bb1, n1, s1, t1, i2, rfl, hv, F0, F1, F2, F3, F4, F5, F6⟩ := rowAt hr2 hbw hml
      have SM := compare_plain l[m] q a0 bo 0 c0 0 cb
      rw [hv, unhide HQ] at SM
      unfold val7 at SM
      have HX := hide (less_cmp l[m] q)
      generalize cmpP l[m] q = r at *
      have j1 : (m : Int) < (l.length : Int) := by omega
      have j0 : (0 : Int) ≤ (m : Int) := by omega
      have cS := fun d os => Calls.regrown_of (w := wr) (d := d) (os := os) (SM (grow (redrawn wr d) os))
      clear hv SM up d0 d1 d2 d3 d4 d5 d6 HQ
      have R2 := hide hr2
      clear hr2
      refine wp_region_quiet_below (by kernel_rfl) (by kernel_rfl) ?_
      repeat (quiet_step (exact cS _ _))
      refine wpQuiet_nil ?_
      intro _ hw'
      obtain ⟨⟨dq, osq⟩, hw''⟩ := hw'
      subst hw''
      have hbw3 : Below w2.heap.size w2 (grow (redrawn wr dq) osq) := hbw.trans ((below_regrown wr dq osq).mono hbw.size)
      by_cases hrn : r < 0
      · have hx := unhide HX
        rw [decide_eq_true hrn] at hx
        have Hx := hide hx
        clear hx HX
        go_wp2
        go_roundw
        case rel =>
          refine ⟨m + 1, y, by go_num, rfl, by omega, by omega, hbw3, fun k hk hk' => ?_, unhide Hhi⟩
          by_cases e : k < m
          · by_cases e2 : k < x
            · exact unhide Hlo k hk e2
            · exact sto_lessP.trans _ _ _ (List.pairwise_iff_getElem.1 hri k m hk hml e) (unhide Hx).symm
          · have : k = m := by omega
            subst this
            exact (unhide Hx).symm
        case measure =>
          simp only [intOf]
          omega
      · have hx := unhide HX
        rw [decide_eq_false hrn] at hx
        have Hx := hide hx
        clear hx HX
        go_wp2
        go_roundw
        case rel =>
          refine ⟨x, m, rfl, rfl, by omega, by omega, hbw3, unhide Hlo, fun k hk hk' => ?_⟩
          by_cases e : k = m
          · subst e
            exact (unhide Hx).symm
          · have h1 := List.pairwise_iff_getElem.1 hri m k hml hk (by omega)
            cases h2 : lessP l[k] q
            · rfl
            · have h3 := sto_lessP.trans _ _ _ h1 h2
              have h4 := (unhide Hx).symm
              rw [h3] at h4
              cases h4
        case measure =>
          simp only [intOf]
          omega
    · have i1 : ¬ (x : Int) < (y : Int) := by omega
      have exy : y = x := by omega
      subst exy
      have C : Cutp l q y := ⟨hyl, unhide Hlo, unhide Hhi⟩
      by_cases hil : y < l.length
      · have j1 : (y : Int) < (l.length : Int) := by omega
        have j0 : (0 : Int) ≤ (y : Int) := by omega
        have hg : decide ((y : Int) < (l.length : Int)) = true := decide_eq_true j1
        obtain ⟨b, off, a0, c0, k1, bb1, n1, s1, t1, i2, rfl, hv, F0, F1, F2, F3, F4, F5, F6⟩ := rowAt hr2 hbw hil
        have SM := compare_plain l[y] q a0 bo 0 c0 0 cb
        rw [hv, unhide HQ] at SM
        unfold val7 at SM
        have HX := hide (same_cmp l[y] q)
        generalize cmpP l[y] q = r at *
        have cS := fun d os => Calls.regrown_of (w := wr) (d := d) (os := os) (SM (grow (redrawn wr d) os))
        have HC := hide C
        clear hv SM up d0 d1 d2 d3 d4 d5 d6 HQ C
        have R2 := hide hr2
        clear hr2
        go_wp2_with fail
        refine wp_region_quiet_below (by kernel_rfl) (by kernel_rfl) ?_
        repeat (quiet_step (exact cS _ _))
        refine wpQuiet_nil ?_
        intro _ hw'
        obtain ⟨⟨dq, osq⟩, hw''⟩ := hw'
        subst hw''
        have hbw3 : Below w2.heap.size w2 (grow (redrawn wr dq) osq) := hbw.trans ((below_regrown wr dq osq).mono hbw.size)
        go_wp2
        go_ret2
        refine ⟨y, unhide HC, ?_, b02.trans (hbw3.mono b02.size)⟩
        rw [show (decide (q ∈ l)) = (r == 0) by
          rw [unhide HX]
          exact decide_eq_decide.2 ⟨fun h => ((unhide HC).mem hri |>.1 h).2, fun h => (unhide HC).mem hri |>.2 ⟨hil, h⟩⟩]
        rfl
      · have j1 : ¬ (y : Int) < (l.length : Int) := by omega
        have hg : decide ((y : Int) < (l.length : Int)) = false := decide_eq_false j1
        have HC := hide C
        clear HQ C up d0 d1 d2 d3 d4 d5 d6
        have R2 := hide hr2
        clear hr2
        go_wp2_with fail
        go_quiet (fail)
        have hbw3 : Below w2.heap.size w2 (wr.drewN nq) := hbw.trans ((below_drewN wr nq).mono hbw.size)
        go_wp2
        go_ret2
        refine ⟨y, unhide HC, ?_, b02.trans (hbw3.mono b02.size)⟩
        rw [decide_eq_false (fun h => hil ((unhide HC).mem hri |>.1 h).1)]
        rfl
end Go.Proofs.YtbbongdnnmanlaaGreat

namespace Go.Proofs.YtbbongdnnmanlaaGreat
open Go.RowKit Go.Sort

theorem infoValue : (Tryz.prog.info? 31).map (fun i => (i.zero, i.size, i.bytes)) = some (some (.agg #[.int .i64 0, .bool false, .int .i64 0, .string ⟨#[]⟩, .string ⟨#[]⟩, .string ⟨#[]⟩, .slice none 0 0]), 7, 96) := by kernel_rfl

theorem run_copy_k {P : Program} (w : World) (dT sT ty elem : TypeId) (k : Nat) (g o dLen dCap : Nat) (a : Addr) (sLen sCap : Nat) (cur : Array Value) (t : TypeId) (cs : List Value)
    (hu : P.underlying dT = some (.slice elem)) (hs : (P.info? elem).map (·.size) = some k)
    (hg : w.heap[g]? = some (.cells cur t (0, 0))) (hn : cs.length = Nat.min sLen dLen * k)
    (hsrc : ∀ j v, cs[j]? = some v → w.cell? (a.add j) = some v) (hfit : o + cs.length ≤ cur.size) (h1 : ∀ v ∈ cs, v.oneCell' = true) :
    (Builtin.copy_ #[dT, sT] ty #[.slice (some ⟨g, o, none⟩) dLen dCap, .slice (some a) sLen sCap]).run P w =
      .ok (goInt (Nat.min sLen dLen)) (w.setRow g (cur.toList.take o ++ cs ++ cur.toList.drop (o + cs.length)).toArray) := by
  have hl := run_loadCells_list (P := P) w a cs hsrc
  have hst := run_storeCells_at P g o t cs 0 cur w hg (by simpa using hfit) h1
  cases hq : P.info? elem with
  | none => simp [hq] at hs
  | some i =>
    have hi : i.size = k := by simpa [hq] using hs
    simp [Builtin.copy_, run_underlying hu, Builtin.lenOf, Builtin.firstCells, sizeOf, typeInfo, hq, hi, ← hn, hl, hst]

theorem wp_copy_run {P : Program} (w : World) {ops : Array Oper} {rest : List Oper} {o : Oper} {a : Act} {Q : Exit → Act → World → Prop} (hgd : o.guard = none) (d s : Operand) (t t' : TypeId)
    (ho : o.op = .call { callee := .builtin .copy, args := #[d, s], argTypes := #[t, t'] }) (v u : Value) (hd : a.eval d = v) (hs : a.eval s = u) {v' : Value} {w' : World}
    (hr : (Builtin.copy_ #[t, t'] o.type #[v, u]).run P w = .ok v' w') (h : wpList P ops Q rest (a.put o.dst v') w') : wpList P ops Q (o :: rest) a w :=
  wpList_plain hgd fun K hK => by
    unfold Oper.wp execOp
    simp only [ho, resolve, invoke, builtin, Sem.run_bind, Sem.run_pure, Result.andThen_ok, List.map_toArray, List.map_cons, List.map_nil, hd, hs, hr]
    exact hK _ _ h

set_option maxHeartbeats 2000000 in
set_option maxRecDepth 100000 in
/-- At the end. -/
theorem insert_end (B : Nat) (v : Value) (n : Nat) (xs : List Value) (vb vc : Nat) (vs : List Value) (w : World) (hown : w.ownsRow B 31 7 v n xs) (hn : n ≤ 1000) (hBw : B ≤ w.heap.size)
    (hvl : vs.length = 7) (hvs : ∀ j u, vs[j]? = some u → w.cell? ⟨vb, j, none⟩ = some u) (h1v : ∀ u ∈ vs, u.oneCell' = true) :
    Calls Tryz.prog 46 #[v, .int .i64 n, .slice (some ⟨vb, 0, none⟩) 1 vc] w fun e w' => ∃ v', e = .returned v' ∧ w'.ownsRow B 31 7 v' (n + 1) (xs ++ vs) ∧ w.grownBy w' v.ownBlock := by
  obtain ⟨i0, hi, hz0, hz1, hz2⟩ := info_parts infoValue
  obtain ⟨ao, cap, rfl, hnc⟩ : ∃ ao cap, v = .slice ao n cap ∧ n ≤ cap := by
    rcases hown.2 with ⟨hv, h0⟩ | ⟨g, cap, cur, hv, _, _, h, _⟩
    · exact ⟨none, 0, by rw [hv, h0], by omega⟩
    · exact ⟨_, _, hv, h⟩
  by_cases hcn : cap = n
  · subst hcn
    go_enter Tryz.func46, Tryz.ntmps46
    go_wp2_with (at_builtin; refine wpList_append_own _ rfl _ _ 29 rfl B 31 i0 _ 7 96 Tryz.underlying29 hi hz0 hz1 hz2 rfl (by decide) _ _ _ rfl hown ⟨vb, 0, none⟩ 1 _ vs rfl (by rw [hvl]) ?c1 ?c2 ?c3 ?c4 ?c5 ?_)
    case c1 =>
      intro j u hj
      rw [Addr.add_lit, Nat.zero_add]
      exact hvs j u hj
    case c2 => exact h1v
    case c3 => unfold maxLen; omega
    case c4 => omega
    case c5 => omega
    intro v' w2 hown' hgrow _
    go_wp2
    go_ret
    exact ⟨_, rfl, hown', hgrow⟩
  · go_enter Tryz.func46, Tryz.ntmps46
    go_wp2_with (at_builtin; refine wpList_append_own _ rfl _ _ 29 rfl B 31 i0 _ 7 96 Tryz.underlying29 hi hz0 hz1 hz2 rfl (by decide) _ _ _ rfl hown ⟨vb, 0, none⟩ 1 _ vs rfl (by rw [hvl]) ?d1 ?d2 ?d3 ?d4 ?d5 ?_)
    case d1 =>
      intro j u hj
      rw [Addr.add_lit, Nat.zero_add]
      exact hvs j u hj
    case d2 => exact h1v
    case d3 => unfold maxLen; omega
    case d4 => omega
    case d5 => omega
    intro v' w2 hown' hgrow _
    go_wp2
    go_ret
    exact ⟨_, rfl, hown', hgrow⟩
end Go.Proofs.YtbbongdnnmanlaaGreat

namespace Go.Proofs.YtbbongdnnmanlaaGreat
open Go.RowKit Go.Sort

theorem cell_of_block {w : World} {g : Nat} {cur : Array Value} {t : TypeId} {fz : Nat × Nat} (h : w.heap[g]? = some (.cells cur t fz)) (j : Nat) : w.cell? ⟨g, j, none⟩ = cur[j]? := by
  simp [World.cell?, h]

theorem fz_of_block {w : World} {g : Nat} {cur : Array Value} {t : TypeId} (h : w.heap[g]? = some (.cells cur t (0, 0))) (j : Nat) : w.frozen? ⟨g, j, none⟩ = false := by
  simp [World.frozen?, h]

theorem shape_of_block {w : World} {g : Nat} {cur : Array Value} {t : TypeId} (h : w.heap[g]? = some (.cells cur t (0, 0))) : w.shape? g = some (t, cur.size) := by
  simp [World.shape?, h]

theorem overlaps_no (w : World) (g vb off la ca lb cb : Nat) (cur vs : Array Value) (hne : vb ≠ g) (hg : w.heap[g]? = some (.cells cur 31 (0, 0))) (hv : w.heap[vb]? = some (.cells vs 31 (0, 0))) (hc : cur.size ≠ 0) :
    (callFunc 65 #[.slice (some ⟨vb, 0, none⟩) la ca, .slice (some ⟨g, off, none⟩) lb cb]).run Tryz.prog w = .ok (.value (.bool false)) w := by
  rw [run_callFunc_extern Tryz.func65 (by kernel_rfl) (by kernel_rfl) (by kernel_rfl) (e := Extern.SlicesOverlaps.overlaps #[29, 29] #[4]) (by kernel_rfl),
    Lib.run_overlaps_apart w 29 4 31 Tryz.underlying29 7 (fun w => by kernel_rfl) ⟨vb, 0, none⟩ ⟨g, off, none⟩ la ca lb cb hne _ _ _ _ (shape_of_block hv) (shape_of_block hg) hc (fz_of_block hv 0) (fz_of_block hv _)]
  rfl

set_option maxHeartbeats 4000000 in
set_option maxRecDepth 100000 in
/-- In the midst, where there is room. -/
theorem insert_shift (B g n i cap vb vc : Nat) (cur : Array Value) (vs : List Value) (w : World) (hBg : B ≤ g) (hg : w.heap[g]? = some (.cells cur 31 (0, 0))) (hcm : cap ≤ maxLen) (hcs : cur.size = cap * 7) (hn : n ≤ 1000) (hi : i < n) (hroom : n + 1 ≤ cap)
    (hvl : vs.length = 7) (hvb : vb ≠ g) (hv : w.heap[vb]? = some (.cells vs.toArray 31 (0, 0))) (h1v : ∀ u ∈ vs, u.oneCell' = true) (h1x : ∀ u ∈ cur.toList.take (n * 7), u.oneCell' = true) :
    Calls Tryz.prog 46 #[.slice (some ⟨g, 0, none⟩) n cap, .int .i64 i, .slice (some ⟨vb, 0, none⟩) 1 vc] w fun e w' => ∃ v', e = .returned v' ∧ w'.ownsRow B 31 7 v' (n + 1) (((cur.toList.take (n * 7)).take (i * 7)) ++ vs ++ ((cur.toList.take (n * 7)).drop (i * 7))) ∧ w.grownBy w' (some g) := by
  have hszV : (Tryz.prog.info? 31).map (·.size) = some 7 := by kernel_rfl
  obtain ⟨cs, hcsE⟩ : ∃ cs, cs = (cur.toList.take (n * 7)).drop (i * 7) := ⟨_, rfl⟩
  have hcl : cs.length = (n - i) * 7 := by rw [hcsE, List.length_drop, List.length_take, Array.length_toList]; omega
  have h1c : ∀ u ∈ cs, u.oneCell' = true := fun u hu => h1x u (List.mem_of_mem_drop (by rw [hcsE] at hu; exact hu))
  obtain ⟨row1, hr1⟩ : ∃ row1, row1 = (cur.toList.take ((i + 1) * 7) ++ cs ++ cur.toList.drop ((i + 1) * 7 + cs.length)).toArray := ⟨_, rfl⟩
  obtain ⟨W1, hW1⟩ : ∃ W1, W1 = w.drew.setRow g row1 := ⟨_, rfl⟩
  have hgd : w.drew.heap[g]? = some (.cells cur 31 (0, 0)) := hg
  have cp1 : ∀ ty o1 o2 dl sl dc sc, o1 = (i + 1) * 7 → o2 = i * 7 → Nat.min sl dl = n - i → (Builtin.copy_ #[29, 29] ty #[.slice (some ⟨g, o1, none⟩) dl dc, .slice (some ⟨g, o2, none⟩) sl sc]).run Tryz.prog w.drew = .ok (goInt ((n - i : Nat) : Int).toNat) W1 := by
    intro ty o1 o2 dl sl dc sc e1 e2 e3
    subst e1 e2
    have h := run_copy_k (P := Tryz.prog) w.drew 29 29 ty 31 7 g ((i + 1) * 7) dl dc ⟨g, i * 7, none⟩ sl sc cur 31 cs Tryz.underlying29 hszV hgd (by rw [hcl, e3])
      (fun j v hj => by
        rw [Addr.add_lit, cell_of_block hgd]
        rw [hcsE, List.getElem?_drop, List.getElem?_take] at hj
        split at hj
        · simpa using hj
        · cases hj) (by rw [hcl]; omega) h1c
    rw [h, e3, hW1, hr1]
    rfl
  have hg1 : W1.heap[g]? = some (.cells row1 31 (0, 0)) := by rw [hW1]; exact setRow_heap _ _ _ _ _ _ hgd
  have hv1 : W1.heap[vb]? = some (.cells vs.toArray 31 (0, 0)) := by rw [hW1, setRow_other _ _ _ _ hvb]; exact hv
  have hr1s : row1.size = cap * 7 := by
    rw [hr1]
    simp only [List.size_toArray, List.length_append, List.length_take, List.length_drop, Array.length_toList]
    omega
  obtain ⟨row2, hr2⟩ : ∃ row2, row2 = (row1.toList.take (i * 7) ++ vs ++ row1.toList.drop (i * 7 + vs.length)).toArray := ⟨_, rfl⟩
  obtain ⟨W2, hW2⟩ : ∃ W2, W2 = W1.setRow g row2 := ⟨_, rfl⟩
  have cp2 : ∀ ty o1 dl dc, o1 = i * 7 → 1 ≤ dl → (Builtin.copy_ #[29, 29] ty #[.slice (some ⟨g, o1, none⟩) dl dc, .slice (some ⟨vb, 0, none⟩) 1 vc]).run Tryz.prog W1 = .ok (goInt 1) W2 := by
    intro ty o1 dl dc e1 e3
    subst e1
    have em : Nat.min 1 dl = 1 := Nat.min_eq_left e3
    have h := run_copy_k (P := Tryz.prog) W1 29 29 ty 31 7 g (i * 7) dl dc ⟨vb, 0, none⟩ 1 vc row1 31 vs Tryz.underlying29 hszV hg1 (by rw [hvl, em])
      (fun j v hj => by
        rw [Addr.add_lit, cell_of_block hv1, Nat.zero_add]
        simpa using hj) (by omega) h1v
    rw [h, em, hW2, hr2]
    rfl
  have hfin : W2.ownsRow B 31 7 (.slice (some ⟨g, 0, none⟩) (n + 1) cap) (n + 1) (((cur.toList.take (n * 7)).take (i * 7)) ++ vs ++ ((cur.toList.take (n * 7)).drop (i * 7))) := by
    refine ⟨?_, .inr ⟨g, cap, row2, rfl, hBg, ?_, by omega, hcm, ?_, ?_⟩⟩
    · simp only [List.length_append, List.length_take, List.length_drop, Array.length_toList]
      omega
    · rw [hW2]
      exact setRow_heap _ _ _ _ _ _ hg1
    · rw [hr2]
      simp only [List.size_toArray, List.length_append, List.length_take, List.length_drop, Array.length_toList]
      omega
    · rw [hr2, hr1, ← hcsE, hvl]
      have hc0 : cur.toList.length = cap * 7 := by simpa using hcs
      have e1 : List.take (i * 7) (cur.toList.take ((i + 1) * 7) ++ cs ++ cur.toList.drop ((i + 1) * 7 + cs.length)) = (cur.toList.take (n * 7)).take (i * 7) := by
        rw [List.append_assoc, List.take_append_of_le_length (by rw [List.length_take]; omega), List.take_take, List.take_take]
        congr 1
        omega
      have e2 : List.drop (i * 7 + 7) (cur.toList.take ((i + 1) * 7) ++ cs ++ cur.toList.drop ((i + 1) * 7 + cs.length)) = cs ++ cur.toList.drop ((i + 1) * 7 + cs.length) := by
        rw [List.append_assoc]
        exact List.drop_left' (by rw [List.length_take]; omega)
      simp only [e1, e2]
      rw [← List.append_assoc (List.take (i * 7) (List.take (n * 7) cur.toList) ++ vs)]
      exact List.take_left' (by simp only [List.length_append, List.length_take, hcl, hvl, hc0]; omega)
  have hgro : w.grownBy W2 (some g) := by
    refine ⟨by rw [hW2, hW1]; rfl, by rw [hW2, hW1]; rfl, by rw [hW2, hW1]; rfl, by rw [hW2, hW1]; simp [World.setRow], fun k hk hkg => ?_⟩
    have : k ≠ g := fun e => hkg (by rw [e])
    rw [hW2, setRow_other _ _ _ _ this, hW1, setRow_other _ _ _ _ this]
    rfl
  have cp2' := fun ty => cp2 ty (i * 7) (n + 1 - i) (cap - i) rfl (by omega)
  have HF := hide hfin
  clear hfin hr2 hr1 hW1 hW2 hcsE
  have hov' := fun off la ca lb cb => overlaps_no w g vb off la ca lb cb cur vs.toArray hvb hg hv (by omega)
  have b1 : (i : Int) < (n : Int) := by omega
  have b2 : ¬ ((i : Int) = (n : Int)) := by omega
  have b3 : ¬ ((cap : Int) < (n : Int) + 1) := by omega
  have b4 : ¬ (cap = i) := by omega
  have b5 : ¬ (cap = i + 1) := by omega
  have b6 : (i : Int) ≤ (n : Int) + 1 := by omega
  have b7 : i ≤ n := by omega
  have b8 : i ≤ n + 1 := by omega
  have hw1 : IntKind.i64.wrap ((i : Int) + 1) = (i : Int) + 1 := by rw [IntKind.wrap_i64]; omega
  have hb1 : (0 : Int) ≤ (i : Int) + 1 := by omega
  have htn : ((i : Int) + 1).toNat = i + 1 := by omega
  unfold maxLen at hcm
  go_enter Tryz.func46, Tryz.ntmps46
  go_wp2_with (simp only [hov'])
  refine wp_still_tail 8 (by kernel_rfl) (by kernel_rfl) ?_
  simp only [List.take_succ_cons, List.take_zero, List.drop_succ_cons, List.drop_zero]
  repeat still_step
  refine wpStill_nil ?_
  refine wp_copy_run _ rfl _ _ 29 29 rfl _ _ rfl rfl (cp1 _ _ _ _ _ _ _ ?e1 ?e2 ?e3) ?_
  case e1 => omega
  case e2 => omega
  case e3 => simp only [Nat.min_def]; split <;> omega
  go_wp2_with (at_builtin; refine wp_copy_run _ rfl _ _ 29 29 rfl _ _ rfl rfl (cp2' _) ?_)
  go_wp2
  go_ret
  exact ⟨_, rfl, unhide HF, hgro⟩
end Go.Proofs.YtbbongdnnmanlaaGreat

namespace Go.Proofs.YtbbongdnnmanlaaGreat
open Go.RowKit Go.Sort

theorem zero_size (z : Array Value) (k : Nat) : (Builtin.zeroCells z k).size = k * z.size := by simp [Builtin.zeroCells]

theorem wp_append_eq {P : Program} (w : World) {ops : Array Oper} {rest : List Oper} {o : Oper} {a : Act} {Q : Exit → Act → World → Prop} (hgd : o.guard = none) (d s : Operand) (t t' : TypeId)
    (ho : o.op = .call { callee := .builtin .append, args := #[d, s], argTypes := #[t, t'] }) (v u : Value) (hd : a.eval d = v) (hs : a.eval s = u) {v' : Value} {w' : World}
    (hr : (Builtin.append_ #[t, t'] o.type #[v, u]).run P w = .ok v' w') (h : wpList P ops Q rest (a.put o.dst v') w') : wpList P ops Q (o :: rest) a w :=
  wpList_plain hgd fun K hK => by
    unfold Oper.wp execOp
    simp only [ho, resolve, invoke, builtin, Sem.run_bind, Sem.run_pure, Result.andThen_ok, List.map_toArray, List.map_cons, List.map_nil, hd, hs, hr]
    exact hK _ _ h

set_option maxHeartbeats 4000000 in
set_option maxRecDepth 100000 in
/-- In the midst, where there is no room. -/
theorem insert_grow (B g n i vb vc : Nat) (cur : Array Value) (vs : List Value) (w : World) (hBw : B ≤ w.heap.size) (hg : w.heap[g]? = some (.cells cur 31 (0, 0))) (hcs : cur.size = n * 7) (hn : n ≤ 1000) (hi : i < n)
    (hvl : vs.length = 7) (hv : w.heap[vb]? = some (.cells vs.toArray 31 (0, 0))) (h1v : ∀ u ∈ vs, u.oneCell' = true) (h1x : ∀ u ∈ cur.toList.take (n * 7), u.oneCell' = true) :
    Calls Tryz.prog 46 #[.slice (some ⟨g, 0, none⟩) n n, .int .i64 i, .slice (some ⟨vb, 0, none⟩) 1 vc] w fun e w' => ∃ v', e = .returned v' ∧ w'.ownsRow B 31 7 v' (n + 1) (((cur.toList.take (n * 7)).take (i * 7)) ++ vs ++ ((cur.toList.take (n * 7)).drop (i * 7))) ∧ w.grownBy w' (some g) := by
  obtain ⟨i0, hi0, hz0, hz1, hz2⟩ := info_parts infoValue
  have hszV : (Tryz.prog.info? 31).map (·.size) = some 7 := by kernel_rfl
  have hgl : g < w.heap.size := (Array.getElem?_eq_some_iff.1 hg).1
  have hvbl : vb < w.heap.size := (Array.getElem?_eq_some_iff.1 hv).1
  have hc0 : cur.toList.length = n * 7 := by simpa using hcs
  obtain ⟨olds, hol⟩ : ∃ olds, olds = (cur.toList.take (n * 7)).take (i * 7) := ⟨_, rfl⟩
  have holl : olds.length = i * 7 := by rw [hol, List.length_take, List.length_take]; omega
  have hold : (Builtin.firstCells i0.size i (.slice (some ⟨g, 0, none⟩) i n)).run Tryz.prog w.drew = .ok olds.toArray w.drew := by
    rw [hz1]
    have h := run_loadCells_list (P := Tryz.prog) w.drew ⟨g, 0, none⟩ olds (fun j v hj => by
      rw [Addr.add_lit, Nat.zero_add]
      show w.cell? _ = _
      rw [cell_of_block hg]
      rw [hol, List.getElem?_take] at hj
      split at hj
      · rw [List.getElem?_take] at hj
        split at hj
        · simpa using hj
        · cases hj
      · cases hj)
    rw [holl] at h
    simpa [Builtin.firstCells] using h
  have hik : i + (n + 1 - i) = n + 1 := by omega
  have hap := Lib.run_append_grow_zeros (P := Tryz.prog) w 29 3 29 31 i0 _ .i64 .i64 Tryz.underlying29 Tryz.underlying3 hi0 hz0 (some ⟨g, 0, none⟩) i n olds hold (n + 1 - i) (by omega) (by omega) (by omega) (by omega) (by rw [hz2]; omega) (by rw [hz2, hik]; exact growslice_fits (by omega) (by omega))
  rw [hik] at hap
  obtain ⟨G, hG⟩ : ∃ G, G = grownCap w (n + 1) n 31 := ⟨_, rfl⟩
  have hGge : n + 1 ≤ G := by rw [hG]; exact grownCap_ge _ _ _ _
  have hGle : G ≤ maxLen := by rw [hG]; exact grownCap_le_maxLen _ _ _ _ (by unfold maxLen; omega)
  rw [← hG] at hap
  clear hG
  obtain ⟨ROW, hROW⟩ : ∃ ROW : Array Value, ROW = olds.toArray ++ Builtin.zeroCells (Value.agg #[.int .i64 0, .bool false, .int .i64 0, .string ⟨#[]⟩, .string ⟨#[]⟩, .string ⟨#[]⟩, .slice none 0 0]).cells (n + 1 - i) ++ Builtin.zeroCells (Value.agg #[.int .i64 0, .bool false, .int .i64 0, .string ⟨#[]⟩, .string ⟨#[]⟩, .string ⟨#[]⟩, .slice none 0 0]).cells (G - (n + 1)) := ⟨_, rfl⟩
  rw [← hROW] at hap
  have hz7 : (Value.agg #[.int .i64 0, .bool false, .int .i64 0, .string ⟨#[]⟩, .string ⟨#[]⟩, .string ⟨#[]⟩, .slice none 0 0]).cells.size = 7 := rfl
  have hRs : ROW.size = G * 7 := by
    rw [hROW, Array.size_append, Array.size_append, zero_size, zero_size, hz7, List.size_toArray, holl]
    omega
  have hRt : ROW.toList.take (i * 7) = olds := by
    rw [hROW, Array.toList_append, Array.toList_append, List.append_assoc]
    exact List.take_left' (by simpa using holl)
  clear hROW hz7 hold
  obtain ⟨W1, hW1⟩ : ∃ W1, W1 = w.drew.alloc (.cells ROW 31) := ⟨_, rfl⟩
  rw [← hW1] at hap
  have hap' : ∀ x : Int, x = (n : Int) + 1 - (i : Int) → (Builtin.append_ #[29, 3] 29 #[.slice (some ⟨g, 0, none⟩) i n, .int .i64 x]).run Tryz.prog w = .ok (.slice (some ⟨w.heap.size, 0, none⟩) (n + 1) G) W1 := fun x hx => by
    rw [hx, show (n : Int) + 1 - (i : Int) = ((n + 1 - i : Nat) : Int) by omega]
    exact hap
  have hN1 : W1.heap[w.heap.size]? = some (.cells ROW 31 (0, 0)) := by rw [hW1]; exact heap_alloc_new w.drew _
  have hold1 : ∀ k, k < w.heap.size → W1.heap[k]? = w.heap[k]? := fun k hk => by rw [hW1]; exact Below.heap_alloc w.drew _ k hk
  have hv1 : W1.heap[vb]? = some (.cells vs.toArray 31 (0, 0)) := by rw [hold1 vb hvbl]; exact hv
  obtain ⟨row1, hr1⟩ : ∃ row1, row1 = (ROW.toList.take (i * 7) ++ vs ++ ROW.toList.drop (i * 7 + vs.length)).toArray := ⟨_, rfl⟩
  obtain ⟨W2, hW2⟩ : ∃ W2, W2 = W1.setRow w.heap.size row1 := ⟨_, rfl⟩
  have cp1 : ∀ ty, (Builtin.copy_ #[29, 29] ty #[.slice (some ⟨w.heap.size, i * 7, none⟩) (n + 1 - i) (G - i), .slice (some ⟨vb, 0, none⟩) 1 vc]).run Tryz.prog W1 = .ok (goInt 1) W2 := by
    intro ty
    have em : Nat.min 1 (n + 1 - i) = 1 := Nat.min_eq_left (by omega)
    have h := run_copy_k (P := Tryz.prog) W1 29 29 ty 31 7 w.heap.size (i * 7) (n + 1 - i) (G - i) ⟨vb, 0, none⟩ 1 vc ROW 31 vs Tryz.underlying29 hszV hN1 (by rw [hvl, em])
      (fun j v hj => by
        rw [Addr.add_lit, cell_of_block hv1, Nat.zero_add]
        simpa using hj) (by omega) h1v
    rw [h, em, hW2, hr1]
    rfl
  have hr1s : row1.size = G * 7 := by
    rw [hr1]
    simp only [List.size_toArray, List.length_append, List.length_take, List.length_drop, Array.length_toList]
    omega
  have hN2 : W2.drew.heap[w.heap.size]? = some (.cells row1 31 (0, 0)) := by rw [hW2]; exact setRow_heap _ _ _ _ _ _ hN1
  have hg2 : W2.drew.heap[g]? = some (.cells cur 31 (0, 0)) := by
    show W2.heap[g]? = _
    rw [hW2, setRow_other _ _ _ _ (by omega), hold1 g hgl]
    exact hg
  obtain ⟨cs, hcsE⟩ : ∃ cs, cs = (cur.toList.take (n * 7)).drop (i * 7) := ⟨_, rfl⟩
  have hcl : cs.length = (n - i) * 7 := by rw [hcsE, List.length_drop, List.length_take]; omega
  have h1c : ∀ u ∈ cs, u.oneCell' = true := fun u hu => h1x u (List.mem_of_mem_drop (by rw [hcsE] at hu; exact hu))
  obtain ⟨row2, hr2⟩ : ∃ row2, row2 = (row1.toList.take ((i + 1) * 7) ++ cs ++ row1.toList.drop ((i + 1) * 7 + cs.length)).toArray := ⟨_, rfl⟩
  obtain ⟨W3, hW3⟩ : ∃ W3, W3 = W2.drew.setRow w.heap.size row2 := ⟨_, rfl⟩
  have cp2 : ∀ ty o1 o2 dl sl dc sc, o1 = (i + 1) * 7 → o2 = i * 7 → Nat.min sl dl = n - i → (Builtin.copy_ #[29, 29] ty #[.slice (some ⟨w.heap.size, o1, none⟩) dl dc, .slice (some ⟨g, o2, none⟩) sl sc]).run Tryz.prog W2.drew = .ok (goInt ((n - i : Nat) : Int).toNat) W3 := by
    intro ty o1 o2 dl sl dc sc e1 e2 e3
    subst e1 e2
    have h := run_copy_k (P := Tryz.prog) W2.drew 29 29 ty 31 7 w.heap.size ((i + 1) * 7) dl dc ⟨g, i * 7, none⟩ sl sc row1 31 cs Tryz.underlying29 hszV hN2 (by rw [hcl, e3])
      (fun j v hj => by
        rw [Addr.add_lit, cell_of_block hg2]
        rw [hcsE, List.getElem?_drop, List.getElem?_take] at hj
        split at hj
        · simpa using hj
        · cases hj) (by rw [hcl]; omega) h1c
    rw [h, e3, hW3, hr2]
    rfl
  have hfin : W3.ownsRow B 31 7 (.slice (some ⟨w.heap.size, 0, none⟩) (n + 1) G) (n + 1) (((cur.toList.take (n * 7)).take (i * 7)) ++ vs ++ ((cur.toList.take (n * 7)).drop (i * 7))) := by
    refine ⟨?_, .inr ⟨w.heap.size, G, row2, rfl, hBw, ?_, by omega, hGle, ?_, ?_⟩⟩
    · simp only [List.length_append, List.length_take, List.length_drop]
      omega
    · rw [hW3]
      exact setRow_heap _ _ _ _ _ _ hN2
    · rw [hr2]
      simp only [List.size_toArray, List.length_append, List.length_take, List.length_drop, Array.length_toList]
      omega
    · rw [hr2, hr1, ← hcsE, ← hol, hRt, hvl]
      have hRl : ROW.toList.length = G * 7 := by simpa using hRs
      have e1 : List.take ((i + 1) * 7) (olds ++ vs ++ ROW.toList.drop (i * 7 + 7)) = olds ++ vs :=
        List.take_left' (by rw [List.length_append]; omega)
      simp only [e1]
      exact List.take_left' (by simp only [List.length_append, hcl, hvl, holl]; omega)
  have hgro : w.grownBy W3 (some g) := by
    refine ⟨by rw [hW3, hW2, hW1]; rfl, by rw [hW3, hW2, hW1]; rfl, by rw [hW3, hW2, hW1]; rfl, ?_, fun k hk hkg => ?_⟩
    · have e1 : W1.heap.size = w.heap.size + 1 := by rw [hW1]; simp
      have e2 : W2.heap.size = W1.heap.size := by rw [hW2]; simp [World.setRow]
      have e3 : W3.heap.size = W2.heap.size := by rw [hW3]; simp [World.setRow]
      omega
    · have : k ≠ w.heap.size := by omega
      rw [hW3, setRow_other _ _ _ _ this]
      show W2.heap[k]? = _
      rw [hW2, setRow_other _ _ _ _ this, hold1 k hk]
  have HF := hide hfin
  have HG := hide hgro
  clear hfin hgro hr2 hr1 hW1 hW2 hW3 hcsE hol hap hRt hN1 hN2 hg2 hv1 hold1 hg hv
  have b1 : (i : Int) < (n : Int) := by omega
  have b2 : ¬ ((i : Int) = (n : Int)) := by omega
  have b3 : (n : Int) < (n : Int) + 1 := by omega
  have b4 : ¬ (n = i) := by omega
  have b5 : ¬ (G = i) := by omega
  have b5' : ¬ (G = i + 1) := by omega
  have b6 : (i : Int) ≤ (n : Int) + 1 := by omega
  have b7 : i ≤ n := by omega
  have b8 : i ≤ n + 1 := by omega
  have hw1 : IntKind.i64.wrap ((i : Int) + 1) = (i : Int) + 1 := by rw [IntKind.wrap_i64]; omega
  have hb1 : (0 : Int) ≤ (i : Int) + 1 := by omega
  have htn : ((i : Int) + 1).toNat = i + 1 := by omega
  have hap2 := hap' _ rfl
  unfold maxLen at hGle
  go_enter Tryz.func46, Tryz.ntmps46
  go_wp2_with (at_builtin; first | refine wp_append_eq _ rfl _ _ 29 3 rfl _ _ rfl rfl hap2 ?_ | refine wp_copy_run _ rfl _ _ 29 29 rfl _ _ rfl rfl (cp1 _) ?_)
  refine wp_still_tail 8 (by kernel_rfl) (by kernel_rfl) ?_
  simp only [List.take_succ_cons, List.take_zero, List.drop_succ_cons, List.drop_zero]
  repeat still_step
  refine wpStill_nil ?_
  refine wp_copy_run _ rfl _ _ 29 29 rfl _ _ rfl rfl (cp2 _ _ _ _ _ _ _ ?e1 ?e2 ?e3) ?_
  case e1 => omega
  case e2 => omega
  case e3 => simp only [Nat.min_def]; split <;> omega
  go_wp2
  go_ret
  exact ⟨_, rfl, unhide HF, unhide HG⟩

/-- Anywhere. -/
theorem insert_one (B : Nat) (v : Value) (n i : Nat) (xs : List Value) (vb vc : Nat) (vs : List Value) (w : World) (hown : w.ownsRow B 31 7 v n xs) (hn : n ≤ 1000) (hi : i ≤ n) (hBw : B ≤ w.heap.size)
    (hvl : vs.length = 7) (hvb : v.ownBlock ≠ some vb) (hv : w.heap[vb]? = some (.cells vs.toArray 31 (0, 0))) (h1v : ∀ u ∈ vs, u.oneCell' = true) (h1x : ∀ u ∈ xs, u.oneCell' = true) :
    Calls Tryz.prog 46 #[v, .int .i64 i, .slice (some ⟨vb, 0, none⟩) 1 vc] w fun e w' => ∃ v', e = .returned v' ∧ w'.ownsRow B 31 7 v' (n + 1) (xs.take (i * 7) ++ vs ++ xs.drop (i * 7)) ∧ w.grownBy w' v.ownBlock := by
  by_cases hin : i = n
  · subst hin
    rw [show xs.take (i * 7) ++ vs ++ xs.drop (i * 7) = xs ++ vs by rw [List.take_of_length_le (by rw [hown.1]; exact Nat.le_refl _), List.drop_of_length_le (by rw [hown.1]; exact Nat.le_refl _), List.append_nil]]
    exact insert_end B v i xs vb vc vs w hown hn hBw hvl (fun j u hj => by rw [cell_of_block hv]; simpa using hj) h1v
  · rcases hown.2 with ⟨_, h0⟩ | ⟨g, cap, cur, rfl, hBg, hg, hnc, hcm, hcs, hxs⟩
    · omega
    · subst hxs
      by_cases hroom : n + 1 ≤ cap
      · exact insert_shift B g n i cap vb vc cur vs w hBg hg hcm hcs hn (by omega) hroom hvl (fun e => hvb (by rw [e]; rfl)) hv h1v h1x
      · obtain rfl : cap = n := by omega
        exact insert_grow B g cap i vb vc cur vs w hBw hg hcs hn (by omega) hvl hv h1v h1x
end Go.Proofs.YtbbongdnnmanlaaGreat

namespace Go.Proofs.YtbbongdnnmanlaaGreat
open Go.RowKit Go.Sort

def mayB (k k' : Int) : Bool := decide (k ≠ 5) && decide (k = k')

set_option maxHeartbeats 400000 in
set_option maxRecDepth 100000 in
theorem mayStandBy_any (r r' : R7) (w : World) :
    Calls Tryz.prog 43 #[r.val, r'.val] w fun e w' => e = .returned (.bool (mayB r.k r'.k)) ∧ Below w.heap.size w w' := by
  obtain ⟨k, b, n, s, t, i, lo, ll, lc⟩ := r
  obtain ⟨k', b', n', s', t', i', lo', ll', lc'⟩ := r'
  unfold R7.val
  simp only
  by_cases h1 : k = 5
  · have e1 : mayB k k' = false := by simp [mayB, h1]
    rw [e1]
    have hb : (k == 5) = true := by simpa using h1
    subst h1
    go_enter Tryz.func43, Tryz.ntmps43
    go_wp2
    go_ret
    exact ⟨rfl, below2 _ _ _⟩
  · have hb : (k == 5) = false := by simpa using h1
    by_cases h2 : k = k'
    · have e1 : mayB k k' = true := by simp [mayB, ← h2, h1]
      rw [e1]
      have hb3 : (k != 5) = true := by simpa using h1
      subst h2
      go_enter Tryz.func43, Tryz.ntmps43
      go_wp2
      go_ret
      exact ⟨rfl, below2 _ _ _⟩
    · have e1 : mayB k k' = false := by simp [mayB, h2]
      rw [e1]
      have hb2 : (k == k') = false := by simpa using h2
      go_enter Tryz.func43, Tryz.ntmps43
      go_wp2
      go_ret
      exact ⟨rfl, below2 _ _ _⟩

theorem size1 (w : World) (o : Obj) : (w.alloc o).heap.size = w.heap.size + 1 := by simp

set_option maxHeartbeats 400000 in
set_option maxRecDepth 100000 in
theorem truthVal_any (x : Bool) (w : World) :
    Calls Tryz.prog 117 #[.bool x] w fun e w' => e = .returned (ofP (.bool x)).val ∧ Below w.heap.size w w' := by
  go_enter Tryz.func117, Tryz.ntmps117
  go_wp2
  exact bodyPost_ret (v := .agg #[.int .i64 1, .bool x, .int .i64 0, .string ⟨#[]⟩, .string ⟨#[]⟩, .string ⟨#[]⟩, .slice none 0 0]) (by simp [results, Tryz.results117, go_sem]) rfl ⟨rfl, below1 _ _⟩

theorem mv_truth (v : Value) (w : World) : (method 282 129 v "chancel/value.value").run Tryz.prog w = .ok (117, v) w := by kernel_rfl
theorem ev_truth (v : Array Value) (w : World) : (callFunc 117 v).run Tryz.prog w = .ok (.enter 117 v) w := by kernel_rfl

set_option maxHeartbeats 400000 in
set_option maxRecDepth 100000 in
theorem longVal_any (x : Int) (w : World) :
    Calls Tryz.prog 120 #[.int .i64 x] w fun e w' => e = .returned (ofP (.long x)).val ∧ Below w.heap.size w w' := by
  go_enter Tryz.func120, Tryz.ntmps120
  go_wp2
  exact bodyPost_ret (v := .agg #[.int .i64 2, .bool false, .int .i64 x, .string ⟨#[]⟩, .string ⟨#[]⟩, .string ⟨#[]⟩, .slice none 0 0]) (by simp [results, Tryz.results120, go_sem]) rfl ⟨rfl, below1 _ _⟩

theorem mv_long (v : Value) (w : World) : (method 282 130 v "chancel/value.value").run Tryz.prog w = .ok (120, v) w := by kernel_rfl
theorem ev_long (v : Array Value) (w : World) : (callFunc 120 v).run Tryz.prog w = .ok (.enter 120 v) w := by kernel_rfl

set_option maxHeartbeats 400000 in
set_option maxRecDepth 100000 in
theorem strVal_any (x : List UInt8) (w : World) :
    Calls Tryz.prog 125 #[.string (ba x)] w fun e w' => e = .returned (ofP (.str x)).val ∧ Below w.heap.size w w' := by
  go_enter Tryz.func125, Tryz.ntmps125
  go_wp2
  exact bodyPost_ret (v := .agg #[.int .i64 3, .bool false, .int .i64 0, .string (ba x), .string ⟨#[]⟩, .string ⟨#[]⟩, .slice none 0 0]) (by simp [results, Tryz.results125, go_sem]) rfl ⟨rfl, below1 _ _⟩

theorem mv_str (v : Value) (w : World) : (method 282 131 v "chancel/value.value").run Tryz.prog w = .ok (125, v) w := by kernel_rfl
theorem ev_str (v : Array Value) (w : World) : (callFunc 125 v).run Tryz.prog w = .ok (.enter 125 v) w := by kernel_rfl

set_option maxHeartbeats 400000 in
set_option maxRecDepth 100000 in
theorem uidVal_any (x y : List UInt8) (w : World) :
    Calls Tryz.prog 130 #[.agg #[.string (ba x), .string (ba y)]] w fun e w' => e = .returned (ofP (.uid x y)).val ∧ Below w.heap.size w w' := by
  go_enter Tryz.func130, Tryz.ntmps130
  go_wp2
  exact bodyPost_ret (v := .agg #[.int .i64 4, .bool false, .int .i64 0, .string ⟨#[]⟩, .string (ba x), .string (ba y), .slice none 0 0]) (by simp [results, Tryz.results130, go_sem]) rfl ⟨rfl, below2 _ _ _⟩

theorem mv_uid (v : Value) (w : World) : (method 282 132 v "chancel/value.value").run Tryz.prog w = .ok (130, v) w := by kernel_rfl
theorem ev_uid (v : Array Value) (w : World) : (callFunc 130 v).run Tryz.prog w = .ok (.enter 130 v) w := by kernel_rfl

end Go.Proofs.YtbbongdnnmanlaaGreat

namespace Go.Proofs.YtbbongdnnmanlaaGreat
open Go.RowKit Go.Sort

theorem at7_new (w : World) (r : R7) : At7 (w.alloc (.cells #[.int .i64 r.k, .bool r.b, .int .i64 r.n, .string r.s, .string r.t, .string r.i, .slice r.lo r.ll r.lc] 31)) w.heap.size 0 r :=
  ⟨by simp, by simp, by simp, by simp, by simp, by simp, by simp⟩

theorem set7_below {B b : Nat} {a w : World} (h : Below B a w) (hb : B ≤ b) (v0 v1 v2 v3 v4 v5 v6 : Value) :
    Below B a (((((((w.setCell ⟨b, 0, none⟩ v0).setCell ⟨b, 1, none⟩ v1).setCell ⟨b, 2, none⟩ v2).setCell ⟨b, 3, none⟩ v3).setCell ⟨b, 4, none⟩ v4).setCell ⟨b, 5, none⟩ v5).setCell ⟨b, 6, none⟩ v6) :=
  ((((((h.setCell (p := ⟨b, 0, none⟩) hb _).setCell (p := ⟨b, 1, none⟩) hb _).setCell (p := ⟨b, 2, none⟩) hb _).setCell (p := ⟨b, 3, none⟩) hb _).setCell (p := ⟨b, 4, none⟩) hb _).setCell (p := ⟨b, 5, none⟩) hb _).setCell (p := ⟨b, 6, none⟩) hb _

def zero7 : R7 := ⟨0, false, 0, ba [], ba [], ba [], none, 0, 0⟩

set_option maxHeartbeats 2000000 in
set_option maxRecDepth 100000 in
theorem set_bad (l : List R7) (ao : Option Addr) (ca : Nat) (w : World) (hl : l.length ≤ 1048576) (hr : RowV w ao l) (h0 : 0 < l.length) (hbad : ∃ (j : Nat) (hj : j < l.length), mayB l[j].k l[0].k = false) :
    Calls Tryz.prog 29 #[.slice ao l.length ca] w fun e w' => e = .returned (.tuple #[zero7.val, .int .i64 16]) ∧ Below w.heap.size w w' := by
  go_enter Tryz.func29, Tryz.ntmps29
  go_wp2
  generalize hw2 : w.alloc _ = w2
  have b02 : Below w.heap.size w w2 := by rw [← hw2]; exact below1 _ _
  have z2 : w2.heap.size = w.heap.size + 1 := by rw [← hw2]; simp
  have Hw2 := hide hw2
  clear hw2
  have hr2 := hr.below b02
  go_loopw [13] (fun iv wr => ∃ i : Nat, iv = .int .i64 i ∧ i ≤ l.length ∧ Below w2.heap.size w2 wr ∧ (∀ k (hk : k < l.length), k < i → mayB l[k].k l[0].k = true)) (fun iv _ => l.length - (intOf iv).toNat)
  case atStart => exact ⟨0, by go_num, Nat.zero_le _, Below.refl _ _, fun k _ h => absurd h (Nat.not_lt_zero _)⟩
  case round =>
    obtain ⟨j, rfl, hj, hbw, hacc⟩ := hrel
    have Hacc := hide hacc
    clear hacc
    have hlt : j < l.length := by
      rcases Nat.lt_or_ge j l.length with h | h
      · exact h
      · obtain ⟨k, hk, hb⟩ := hbad
        rw [unhide Hacc k hk (by omega)] at hb
        cases hb
    have i1 : (j : Int) < (l.length : Int) := by omega
    have i0 : (0 : Int) < (l.length : Int) := by omega
    obtain ⟨b, off, rfl, A, hb⟩ := rowV_at hr2 hbw hlt
    obtain ⟨b', off', e', A0, _⟩ := rowV_at hr2 hbw h0
    cases e'
    rw [Nat.zero_mul, Nat.add_zero] at A0
    obtain ⟨r, er⟩ : ∃ r, r = l[j] := ⟨_, rfl⟩
    obtain ⟨r0, er0⟩ : ∃ r0, r0 = l[0] := ⟨_, rfl⟩
    rw [← er] at A
    rw [← er0] at A0
    have M := mayStandBy_any r r0
    unfold R7.val at M
    obtain ⟨x, hx⟩ : ∃ x, x = mayB r.k r0.k := ⟨_, rfl⟩
    rw [← hx] at M
    have HN := hide (show x = true → ∀ k (hk : k < l.length), k < j + 1 → mayB l[k].k l[0].k = true from fun h k hk hk' => by
      by_cases e : k = j
      · subst e
        rw [← er, ← er0, ← hx]
        exact h
      · exact unhide Hacc k hk (by omega))
    clear hx er er0 Hacc
    obtain ⟨a0, a1, a2, a3, a4, a5, a6⟩ := A
    go_wp2_with fail
    have A3 := (at7_new wr r).up
    have b3 : Below w2.heap.size w2 (wr.alloc (.cells #[.int .i64 r.k, .bool r.b, .int .i64 r.n, .string r.s, .string r.t, .string r.i, .slice r.lo r.ll r.lc] 31)) := hbw.alloc hbw.size _
    have z0 := (A0.below (below1 wr (.cells #[.int .i64 r.k, .bool r.b, .int .i64 r.n, .string r.s, .string r.t, .string r.i, .slice r.lo r.ll r.lc] 31)) (by have := hbw.size; omega)).up
    clear a0 a1 a2 a3 a4 a5 a6 A0
    generalize wr.alloc _ = w3 at *
    obtain ⟨a0, a1, a2, a3, a4, a5, a6⟩ := A3
    obtain ⟨e0, e1, e2, e3, e4, e5, e6⟩ := z0
    have cS := fun d os => Calls.regrown_of (w := w3) (d := d) (os := os) (M (grow (redrawn w3 d) os))
    clear M
    refine wp_region_quiet_below (by kernel_rfl) (by kernel_rfl) ?_
    repeat (quiet_step (exact cS _ _))
    refine wpQuiet_nil ?_
    intro _ hw'
    obtain ⟨⟨dq, osq⟩, hw''⟩ := hw'
    subst hw''
    have b4 : Below w2.heap.size w2 (grow (redrawn w3 dq) osq) := b3.trans ((below_regrown w3 dq osq).mono b3.size)
    generalize grow (redrawn w3 dq) osq = w4 at *
    clear a0 a1 a2 a3 a4 a5 a6 e0 e1 e2 e3 e4 e5 e6 cS b3
    cases x
    · -- another kind
      have hc : ∀ o, (w4.cell? ⟨w.heap.size, o, none⟩) = w2.cell? ⟨w.heap.size, o, none⟩ := fun o => b4.cell (p := ⟨w.heap.size, o, none⟩) (by show w.heap.size < _; omega)
      have hf : ∀ o, (w4.frozen? ⟨w.heap.size, o, none⟩) = w2.frozen? ⟨w.heap.size, o, none⟩ := fun o => b4.frozen (p := ⟨w.heap.size, o, none⟩) (by show w.heap.size < _; omega)
      rw [← unhide Hw2] at hc hf
      go_wp2
      exact bodyPost_ret (v := .tuple #[.agg #[.int .i64 0, .bool false, .int .i64 0, .string ⟨#[]⟩, .string ⟨#[]⟩, .string ⟨#[]⟩, .slice none 0 0], .int .i64 16]) (by simp [results, Tryz.results29, go_sem, hc]) rfl ⟨rfl, set7_below (b02.trans (b4.mono b02.size)) (Nat.le_refl _) _ _ _ _ _ _ _⟩
    · go_wp2
      go_roundw
      case rel => exact ⟨j + 1, by go_num, by omega, b4, unhide HN rfl⟩
      case measure =>
        simp only [intOf]
        omega
end Go.Proofs.YtbbongdnnmanlaaGreat

namespace Go.Proofs.YtbbongdnnmanlaaGreat
open Go.RowKit Go.Sort

def cellsOf (l : List PV) : List Value := l.flatMap fun p => (ofP p).cells

theorem cells_len (r : R7) : r.cells.length = 7 := rfl
theorem cellsOf_len : ∀ l : List PV, (cellsOf l).length = l.length * 7
  | [] => rfl
  | p :: l => by
    rw [cellsOf, List.flatMap_cons, List.length_append, cells_len, List.length_cons]
    have := cellsOf_len l
    rw [cellsOf] at this
    omega
theorem cellsOf_append (a b : List PV) : cellsOf (a ++ b) = cellsOf a ++ cellsOf b := by rw [cellsOf, List.flatMap_append]; rfl
theorem cellsOf_cons (p : PV) (l : List PV) : cellsOf (p :: l) = (ofP p).cells ++ cellsOf l := by rw [cellsOf, List.flatMap_cons]; rfl
theorem cellsOf_take (l : List PV) (i : Nat) (h : i ≤ l.length) : (cellsOf l).take (i * 7) = cellsOf (l.take i) := by
  conv => lhs; rw [← List.take_append_drop i l, cellsOf_append]
  exact List.take_left' (by rw [cellsOf_len, List.length_take, Nat.min_eq_left h])
theorem cellsOf_drop (l : List PV) (i : Nat) (h : i ≤ l.length) : (cellsOf l).drop (i * 7) = cellsOf (l.drop i) := by
  conv => lhs; rw [← List.take_append_drop i l, cellsOf_append]
  exact List.drop_left' (by rw [cellsOf_len, List.length_take, Nat.min_eq_left h])
theorem cellsOf_one (l : List PV) : ∀ u ∈ cellsOf l, u.oneCell' = true := by
  intro u hu
  obtain ⟨p, _, hp⟩ := List.mem_flatMap.1 hu
  cases p <;> simp [ofP, R7.cells] at hp <;> rcases hp with rfl | rfl | rfl | rfl | rfl | rfl | rfl <;> rfl
theorem cells_one (r : R7) : ∀ u ∈ r.cells, u.oneCell' = true := by
  intro u hu
  simp [R7.cells] at hu
  rcases hu with rfl | rfl | rfl | rfl | rfl | rfl | rfl <;> rfl
theorem cellsOf_at (l : List PV) (j c : Nat) (hj : j < l.length) (hc : c < 7) : (cellsOf l)[j * 7 + c]? = (ofP l[j]).cells[c]? := by
  conv => lhs; rw [← List.take_append_drop j l, cellsOf_append]
  rw [List.getElem?_append_right (by rw [cellsOf_len, List.length_take]; omega), cellsOf_len, List.length_take, Nat.min_eq_left (by omega), Nat.add_sub_cancel_left, List.drop_eq_getElem_cons hj, cellsOf_cons, List.getElem?_append_left (by rw [cells_len]; exact hc)]

theorem cellsP_of (p : PV) : cellsP p (.slice none 0 0) = (ofP p).cells := by cases p <;> rfl

/-- A row of one's own can be read. -/
theorem rowP_own {w : World} {B : Nat} {v : Value} {l : List PV} (h : w.ownsRow B 31 7 v l.length (cellsOf l)) : ∃ ao cap, v = .slice ao l.length cap ∧ RowP w ao l := by
  rcases h.2 with ⟨hv, h0⟩ | ⟨g, cap, cur, hv, _, hg, _, _, hcs, hxs⟩
  · exact ⟨none, 0, by rw [hv, h0], fun j hj => by omega⟩
  · refine ⟨_, cap, hv, fun j hj => ⟨g, 0, none, 0, rfl, (Array.getElem?_eq_some_iff.1 hg).1, fun c u hu => ?_⟩⟩
    rw [cellsP_of] at hu
    have hc : c < 7 := by
      have := (List.getElem?_eq_some_iff.1 hu).1
      rwa [cells_len] at this
    rw [cell_of_block hg, Nat.zero_add]
    rw [← cellsOf_at l j c hj hc, ← hxs, List.getElem?_take] at hu
    split at hu
    · simpa using hu
    · cases hu

theorem rowV_own {w : World} {B : Nat} {v : Value} {l : List PV} (h : w.ownsRow B 31 7 v l.length (cellsOf l)) : ∃ ao cap, v = .slice ao l.length cap ∧ RowV w ao (l.map ofP) := by
  rcases h.2 with ⟨hv, h0⟩ | ⟨g, cap, cur, hv, _, hg, _, _, hcs, hxs⟩
  · exact ⟨none, 0, by rw [hv, h0], fun j hj => by rw [List.length_map] at hj; omega⟩
  · refine ⟨_, cap, hv, fun j hj => ⟨g, 0, rfl, (Array.getElem?_eq_some_iff.1 hg).1, fun c u hu => ?_⟩⟩
    rw [List.getElem_map] at hu
    rw [List.length_map] at hj
    have hc : c < 7 := by
      have := (List.getElem?_eq_some_iff.1 hu).1
      rwa [cells_len] at this
    rw [cell_of_block hg, Nat.zero_add]
    rw [← cellsOf_at l j c hj hc, ← hxs, List.getElem?_take] at hu
    split at hu
    · simpa using hu
    · cases hu

theorem ins_mem {q : PV} : ∀ (S : List PV), Rising lessP S → q ∈ S → ins lessP q S = S
  | y :: S, hr, hq => by
    have hr' := List.pairwise_cons.1 hr
    unfold ins
    rcases List.mem_cons.1 hq with e | e
    · subst e
      rw [sto_lessP.irr]
      rfl
    · rw [if_pos (hr'.1 q e), ins_mem S hr'.2 e]

theorem ins_cut {q : PV} : ∀ (S : List PV) (i : Nat), Cutp S q i → q ∉ S → ins lessP q S = S.take i ++ q :: S.drop i
  | [], i, c, _ => by
    have := c.le
    rw [List.take_nil, List.drop_nil]
    rfl
  | y :: S, 0, c, hq => by
    have h1 := c.hi 0 (by simp) (Nat.le_refl _)
    have h1' : lessP y q = false := h1
    have h2 : lessP q y = true := by
      rcases sto_lessP.tri q y with e | e | e
      · exact e
      · exact absurd (by rw [e]; simp) hq
      · rw [h1'] at e
        cases e
    unfold ins
    rw [h1', h2]
    rfl
  | y :: S, i + 1, c, hq => by
    have h1 : lessP y q = true := c.lo 0 (by simp) (by omega)
    have c' : Cutp S q i := ⟨by have := c.le; simpa using this, fun k h hk => by have := c.lo (k + 1) (by simpa using h) (by omega); simpa using this, fun k h hk => by have := c.hi (k + 1) (by simpa using h) (by omega); simpa using this⟩
    unfold ins
    rw [if_pos h1, ins_cut S i c' (fun h => hq (List.mem_cons_of_mem _ h))]
    rfl

theorem setOf_snoc (l : List PV) (j : Nat) (hj : j < l.length) : setOf lessP (l.take (j + 1)) = ins lessP l[j] (setOf lessP (l.take j)) := by
  rw [List.take_succ_eq_append_getElem hj, setOf, List.foldl_append]
  rfl

theorem len_ins (q : PV) : ∀ S : List PV, S.length ≤ (ins lessP q S).length
  | [] => Nat.zero_le _
  | y :: S => by
    unfold ins
    split
    · have := len_ins q S
      simp only [List.length_cons]
      omega
    · split
      · simp only [List.length_cons]
        omega
      · exact Nat.le_refl _

theorem len_fold : ∀ (l S : List PV), S.length ≤ (l.foldl (fun acc x => ins lessP x acc) S).length
  | [], _ => Nat.le_refl _
  | x :: l, S => Nat.le_trans (len_ins x S) (len_fold l (ins lessP x S))

theorem len_setOf (l : List PV) (j : Nat) : (setOf lessP (l.take j)).length ≤ (setOf lessP l).length := by
  conv => rhs; rw [← List.take_append_drop j l, setOf, List.foldl_append]
  exact len_fold _ _

theorem len_ins_new {q : PV} {S : List PV} {i : Nat} (c : Cutp S q i) (hq : q ∉ S) : (ins lessP q S).length = S.length + 1 := by
  rw [ins_cut S i c hq]
  have := c.le
  simp only [List.length_append, List.length_take, List.length_cons, List.length_drop]
  omega

/-- What stands in a plain value, and what is made of it again. -/
theorem content_value (p : PV) : ∃ (T : TypeId) (f : FuncId) (x : Value), (∀ w, Calls Tryz.prog 47 #[(ofP p).val] w fun e w' => e = .returned (.iface T x) ∧ Below w.heap.size w w') ∧
    (∀ w, (method 282 T x "chancel/value.value").run Tryz.prog w = .ok (f, x) w) ∧ (∀ w, (callFunc f #[x]).run Tryz.prog w = .ok (.enter f #[x]) w) ∧
    (∀ w, Calls Tryz.prog f #[x] w fun e w' => e = .returned (ofP p).val ∧ Below w.heap.size w w') := by
  cases p with
  | bool b => exact ⟨129, 117, _, fun w => contentOf_plain (.bool b) _ w, mv_truth _, ev_truth _, fun w => truthVal_any b w⟩
  | long n => exact ⟨130, 120, _, fun w => contentOf_plain (.long n) _ w, mv_long _, ev_long _, fun w => longVal_any n w⟩
  | str s => exact ⟨131, 125, _, fun w => contentOf_plain (.str s) _ w, mv_str _, ev_str _, fun w => strVal_any s w⟩
  | uid t i => exact ⟨132, 130, _, fun w => contentOf_plain (.uid t i) _ w, mv_uid _, ev_uid _, fun w => uidVal_any t i w⟩
end Go.Proofs.YtbbongdnnmanlaaGreat

namespace Go.Proofs.YtbbongdnnmanlaaGreat
open Go.RowKit Go.Sort

/-- A set as the program holds it. -/
def setR (ao : Option Addr) (n c : Nat) : R7 := ⟨5, false, 0, ba [], ba [], ba [], ao, n, c⟩

def SetPost (l : List PV) (w : World) (e : Ending) (w' : World) : Prop :=
  Below w.heap.size w w' ∧ (((setOf lessP l).length ≤ 8 ∧ ∃ ao c, e = .returned (.tuple #[(setR ao (setOf lessP l).length c).val, .int .i64 0]) ∧ w'.ownsRow w.heap.size 31 7 (.slice ao (setOf lessP l).length c) (setOf lessP l).length (cellsOf (setOf lessP l))) ∨ (8 < (setOf lessP l).length ∧ e = .returned (.tuple #[zero7.val, .int .i64 4])))

theorem own_below {w w' : World} {base : Nat} {e : TypeId} {k : Nat} {v : Value} {n : Nat} {xs : List Value} (h : w.ownsRow base e k v n xs) (hb : Below w.heap.size w w') : w'.ownsRow base e k v n xs :=
  h.kept (row := none) ⟨hb.os, hb.tape, hb.output, hb.size, fun j hj _ => hb.block j hj⟩ (by cases v.ownBlock <;> simp)

theorem own_mono {w : World} {base base' : Nat} {e : TypeId} {k : Nat} {v : Value} {n : Nat} {xs : List Value} (h : w.ownsRow base e k v n xs) (hb : base' ≤ base) : w.ownsRow base' e k v n xs :=
  ⟨h.1, h.2.imp id fun ⟨g, cap, cur, h1, h2, h3⟩ => ⟨g, cap, cur, h1, Nat.le_trans hb h2, h3⟩⟩

theorem own_set7 {w : World} {base b : Nat} {e : TypeId} {v : Value} {n : Nat} {xs : List Value} (h : w.ownsRow base e 7 v n xs) (hb : b < base) (v0 v1 v2 v3 v4 v5 v6 : Value) :
    (((((((w.setCell ⟨b, 0, none⟩ v0).setCell ⟨b, 1, none⟩ v1).setCell ⟨b, 2, none⟩ v2).setCell ⟨b, 3, none⟩ v3).setCell ⟨b, 4, none⟩ v4).setCell ⟨b, 5, none⟩ v5).setCell ⟨b, 6, none⟩ v6).ownsRow base e 7 v n xs :=
  ownsRow_setCell_below (ownsRow_setCell_below (ownsRow_setCell_below (ownsRow_setCell_below (ownsRow_setCell_below (ownsRow_setCell_below (ownsRow_setCell_below h (a := ⟨b, 0, none⟩) hb _) (a := ⟨b, 1, none⟩) hb _) (a := ⟨b, 2, none⟩) hb _) (a := ⟨b, 3, none⟩) hb _) (a := ⟨b, 4, none⟩) hb _) (a := ⟨b, 5, none⟩) hb _) (a := ⟨b, 6, none⟩) hb _

set_option maxHeartbeats 4000000 in
set_option maxRecDepth 100000 in
theorem set_plain (l : List PV) (ao : Option Addr) (ca : Nat) (w : World) (hl : l.length ≤ 1048576) (hr : RowV w ao (l.map ofP)) (hkind : ∀ p ∈ l, ∀ q ∈ l, p.kind = q.kind) :
    Calls Tryz.prog 29 #[.slice ao l.length ca] w (SetPost l w) := by
  have HK := hide hkind
  clear hkind
  go_enter Tryz.func29, Tryz.ntmps29
  go_wp2
  generalize hw2 : w.alloc _ = w2
  have b02 : Below w.heap.size w w2 := by rw [← hw2]; exact below1 _ _
  have z2 : w2.heap.size = w.heap.size + 1 := by rw [← hw2]; simp
  have Hw2 := hide hw2
  clear hw2
  have hr2 := hr.below b02
  clear hr
  go_loopw [13] (fun iv wr => ∃ i : Nat, iv = .int .i64 i ∧ i ≤ l.length ∧ Below w2.heap.size w2 wr) (fun iv _ => l.length - (intOf iv).toNat)
  case atStart => exact ⟨0, by go_num, Nat.zero_le _, Below.refl _ _⟩
  case round =>
    obtain ⟨j, rfl, hj, hbw⟩ := hrel
    by_cases hlt : j < l.length
    · have i1 : (j : Int) < (l.length : Int) := by omega
      have i0 : (0 : Int) < (l.length : Int) := by omega
      have h0 : 0 < l.length := by omega
      obtain ⟨b, off, rfl, A, hb⟩ := rowV_at hr2 hbw (j := j) (by rw [List.length_map]; exact hlt)
      obtain ⟨b', off', e', A0, _⟩ := rowV_at hr2 hbw (j := 0) (by rw [List.length_map]; exact h0)
      cases e'
      rw [Nat.zero_mul, Nat.add_zero] at A0
      rw [List.getElem_map] at A A0
      obtain ⟨r, er⟩ : ∃ r, r = ofP l[j] := ⟨_, rfl⟩
      obtain ⟨r0, er0⟩ : ∃ r0, r0 = ofP l[0] := ⟨_, rfl⟩
      rw [← er] at A
      rw [← er0] at A0
      have M := mayStandBy_any r r0
      unfold R7.val at M
      have hx : mayB r.k r0.k = true := by
        rw [er, er0, ofP_k, ofP_k, unhide HK l[j] (List.getElem_mem _) l[0] (List.getElem_mem _)]
        cases l[0] <;> rfl
      rw [hx] at M
      clear hx er er0
      obtain ⟨a0, a1, a2, a3, a4, a5, a6⟩ := A
      go_wp2_with fail
      have A3 := (at7_new wr r).up
      have b3 : Below w2.heap.size w2 (wr.alloc (.cells #[.int .i64 r.k, .bool r.b, .int .i64 r.n, .string r.s, .string r.t, .string r.i, .slice r.lo r.ll r.lc] 31)) := hbw.alloc hbw.size _
      have z0 := (A0.below (below1 wr (.cells #[.int .i64 r.k, .bool r.b, .int .i64 r.n, .string r.s, .string r.t, .string r.i, .slice r.lo r.ll r.lc] 31)) (by have := hbw.size; omega)).up
      clear a0 a1 a2 a3 a4 a5 a6 A0
      generalize wr.alloc _ = w3 at *
      obtain ⟨a0, a1, a2, a3, a4, a5, a6⟩ := A3
      obtain ⟨e0, e1, e2, e3, e4, e5, e6⟩ := z0
      have cS := fun d os => Calls.regrown_of (w := w3) (d := d) (os := os) (M (grow (redrawn w3 d) os))
      clear M
      refine wp_region_quiet_below (by kernel_rfl) (by kernel_rfl) ?_
      repeat (quiet_step (exact cS _ _))
      refine wpQuiet_nil ?_
      intro _ hw'
      obtain ⟨⟨dq, osq⟩, hw''⟩ := hw'
      subst hw''
      have b4 : Below w2.heap.size w2 (grow (redrawn w3 dq) osq) := b3.trans ((below_regrown w3 dq osq).mono b3.size)
      generalize grow (redrawn w3 dq) osq = w4 at *
      clear a0 a1 a2 a3 a4 a5 a6 e0 e1 e2 e3 e4 e5 e6 cS b3
      go_wp2
      go_roundw
      case rel => exact ⟨j + 1, by go_num, by omega, b4⟩
      case measure =>
        simp only [intOf]
        omega
    · have i1 : ¬ (j : Int) < (l.length : Int) := by omega
      go_wp2
      obtain rfl : j = l.length := by omega
      have hr3 := hr2.below hbw
      have hc : ∀ o, (wr.cell? ⟨w.heap.size, o, none⟩) = w2.cell? ⟨w.heap.size, o, none⟩ := fun o => hbw.cell (p := ⟨w.heap.size, o, none⟩) (by show w.heap.size < _; omega)
      have hf : ∀ o, (wr.frozen? ⟨w.heap.size, o, none⟩) = w2.frozen? ⟨w.heap.size, o, none⟩ := fun o => hbw.frozen (p := ⟨w.heap.size, o, none⟩) (by show w.heap.size < _; omega)
      have Hc := hide hc
      have Hf := hide hf
      have b05 : Below w.heap.size w wr := b02.trans (hbw.mono b02.size)
      have z5 : w.heap.size < wr.heap.size := by have := hbw.size; omega
      clear hc hf hr2 i1 hlt hj hbw
      generalize wr = w5 at *
      go_loopw [6, 27] (fun uv iv wr => ∃ i : Nat, iv = .int .i64 i ∧ i ≤ l.length ∧ Below w5.heap.size w5 wr ∧ wr.ownsRow w5.heap.size 31 7 uv (setOf lessP (l.take i)).length (cellsOf (setOf lessP (l.take i))) ∧ (setOf lessP (l.take i)).length ≤ 8) (fun _ iv _ => l.length - (intOf iv).toNat)
      case atStart => exact ⟨0, by go_num, Nat.zero_le _, Below.refl _ _, World.ownsRow_nil _ _ _ _, Nat.zero_le _⟩
      case round =>
        obtain ⟨j, rfl, hj, hbw, hown, hS8⟩ := hrel
        by_cases hlt : j < l.length
        · have i1 : (j : Int) < (l.length : Int) := by omega
          obtain ⟨b, off, rfl, A, hb⟩ := rowV_at hr3 hbw (j := j) (by rw [List.length_map]; exact hlt)
          rw [List.getElem_map] at A
          have HS1 := hide (setOf_snoc l j hlt)
          obtain ⟨S, hS⟩ : ∃ S, S = setOf lessP (l.take j) := ⟨_, rfl⟩
          have hSr : Rising lessP S := by rw [hS]; exact rising_setOf sto_lessP _
          have hSl := len_setOf l (j + 1)
          rw [← hS] at hown hS8
          rw [unhide HS1, ← hS] at hSl
          have HS := hide (show setOf lessP (l.take (j + 1)) = ins lessP l[j] S by rw [unhide HS1, hS])
          have HSl := hide hSl
          clear hSl HS1 hS
          obtain ⟨q, hq⟩ : ∃ q, q = l[j] := ⟨_, rfl⟩
          rw [← hq] at A HS HSl
          clear hq
          obtain ⟨T, f, x, C1, C2, C3, C4⟩ := content_value q
          have BS := fun (ao : Option Addr) (ca : Nat) (w : World) (h : S.length ≤ 1048576) (hr : RowP w ao S) => binSearch S q ao none ca 0 w h hr hSr
          rw [← ofP_val] at BS
          have HI : (ofP q).cells.length = 7 := rfl
          have HI1 := cells_one (ofP q)
          have HIc : (ofP q).cells.toArray = #[.int .i64 (ofP q).k, .bool (ofP q).b, .int .i64 (ofP q).n, .string (ofP q).s, .string (ofP q).t, .string (ofP q).i, .slice (ofP q).lo (ofP q).ll (ofP q).lc] := rfl
          obtain ⟨r, er⟩ : ∃ r, r = ofP q := ⟨_, rfl⟩
          have HIq := hide (show cellsOf [q] = r.cells by rw [er]; rfl)
          rw [← er] at A BS C1 C4 HI HI1 HIc
          clear er
          unfold R7.val at BS C1 C4
          obtain ⟨ao', cap', rfl, hrp⟩ := rowP_own hown
          obtain ⟨a0, a1, a2, a3, a4, a5, a6⟩ := A
          go_wp2_with fail
          have b3 : Below w5.heap.size w5 (wr.alloc (.cells #[.int .i64 r.k, .bool r.b, .int .i64 r.n, .string r.s, .string r.t, .string r.i, .slice r.lo r.ll r.lc] 31)) := hbw.alloc hbw.size _
          have A3 := at7_new wr r
          have hrp3 := hrp.below (below1 wr (.cells #[.int .i64 r.k, .bool r.b, .int .i64 r.n, .string r.s, .string r.t, .string r.i, .slice r.lo r.ll r.lc] 31))
          have hown3 := hown.alloc (.cells #[.int .i64 r.k, .bool r.b, .int .i64 r.n, .string r.s, .string r.t, .string r.i, .slice r.lo r.ll r.lc] 31)
          have z3 : (wr.alloc (.cells #[.int .i64 r.k, .bool r.b, .int .i64 r.n, .string r.s, .string r.t, .string r.i, .slice r.lo r.ll r.lc] 31)).heap.size = wr.heap.size + 1 := by simp
          clear a0 a1 a2 a3 a4 a5 a6 hrp hown
          generalize wr.alloc _ = w3 at *
          refine (BS ao' cap' w3 (by omega) hrp3).mono ?_
          rintro e w4 ⟨i, hcut, rfl, b34⟩
          have b4 : Below w5.heap.size w5 w4 := b3.trans (b34.mono b3.size)
          have A4 := A3.below b34 (by omega)
          have hown4 := own_below hown3 b34
          have z4 : wr.heap.size < w4.heap.size := by have := b34.size; omega
          have Hcut := hide hcut
          clear hrp3 hown3 A3 b3 BS b34 hcut
          obtain ⟨a0, a1, a2, a3, a4, a5, a6⟩ := A4
          by_cases hmem : q ∈ S
          · have hd : decide (q ∈ S) = true := decide_eq_true hmem
            rw [hd]
            have Hown := hide hown4
            clear hown4
            go_wp2
            go_roundw
            case rel =>
              have e : setOf lessP (l.take (j + 1)) = S := by rw [unhide HS, ins_mem S hSr hmem]
              refine ⟨j + 1, by go_num, by omega, b4, ?_, ?_⟩
              · rw [e]
                exact unhide Hown
              · rw [e]
                exact hS8
            case measure =>
              simp only [intOf]
              omega
          · have hd : decide (q ∈ S) = false := decide_eq_false hmem
            rw [hd]
            have hc : ∀ o, (w4.cell? ⟨w.heap.size, o, none⟩) = w2.cell? ⟨w.heap.size, o, none⟩ := fun o => (b4.cell (p := ⟨w.heap.size, o, none⟩) z5).trans (unhide Hc o)
            have hf : ∀ o, (w4.frozen? ⟨w.heap.size, o, none⟩) = w2.frozen? ⟨w.heap.size, o, none⟩ := fun o => (b4.frozen (p := ⟨w.heap.size, o, none⟩) z5).trans (unhide Hf o)
            rw [← unhide Hw2] at hc hf
            by_cases h8 : S.length = 8
            · have h8b : ((S.length : Int) == 8) = true := by simpa using (show (S.length : Int) = 8 by omega)
              have Hown := hide hown4
              clear hown4
              go_wp2
              refine bodyPost_ret (v := .tuple #[.agg #[.int .i64 0, .bool false, .int .i64 0, .string ⟨#[]⟩, .string ⟨#[]⟩, .string ⟨#[]⟩, .slice none 0 0], .int .i64 4]) (by simp [results, Tryz.results29, go_sem, hc]) rfl ⟨set7_below (b05.trans (b4.mono b05.size)) (Nat.le_refl _) _ _ _ _ _ _ _, .inr ⟨?_, rfl⟩⟩
              have := unhide HSl
              rw [len_ins_new (unhide Hcut) hmem] at this
              omega
            · have h8b : ((S.length : Int) == 8) = false := by simpa using (show ¬ (S.length : Int) = 8 by omega)
              clear hc hf
              have Hown := hide hown4
              clear hown4
              go_wp2_with fail
              refine (C1 _).mono ?_
              rintro e w6 ⟨rfl, b46⟩
              go_wp2_with fail
              refine (C4 _).mono ?_
              rintro e w7 ⟨rfl, b67⟩
              go_wp2_with fail
              have hown7 := own_below (own_below (unhide Hown) b46) b67
              have b7 : Below w5.heap.size w5 w7 := (b4.trans (b46.mono b4.size)).trans (b67.mono (Nat.le_trans b4.size b46.size))
              have hown8 := hown7.alloc (.cells #[.int .i64 r.k, .bool r.b, .int .i64 r.n, .string r.s, .string r.t, .string r.i, .slice r.lo r.ll r.lc] 31)
              have hnew : (w7.alloc (.cells #[.int .i64 r.k, .bool r.b, .int .i64 r.n, .string r.s, .string r.t, .string r.i, .slice r.lo r.ll r.lc] 31)).heap[w7.heap.size]? = some (.cells r.cells.toArray 31 (0, 0)) := heap_alloc_new w7 _
              have b8 : Below w5.heap.size w5 (w7.alloc (.cells #[.int .i64 r.k, .bool r.b, .int .i64 r.n, .string r.s, .string r.t, .string r.i, .slice r.lo r.ll r.lc] 31)) := b7.alloc b7.size _
              have hne : (Value.slice ao' S.length cap').ownBlock ≠ some w7.heap.size := fun h => by
                have := (hown7.lt _ h).2
                omega
              generalize w7.alloc _ = w8 at *
              refine (insert_one w5.heap.size _ S.length i (cellsOf S) w7.heap.size 1 r.cells w8 hown8 (by omega) (unhide Hcut).le b8.size rfl hne hnew HI1 (cellsOf_one S)).mono ?_
              rintro e w9 ⟨v', rfl, hown9, hg9⟩
              have b9 : Below w5.heap.size w5 w9 := b8.grown hg9 b8.size (fun k hk => (hown8.lt k hk).1)
              have Hown9 := hide hown9
              have HG := hide hg9
              clear hown9 hg9 hown8 hown7 hnew hne b8 b7 a0 a1 a2 a3 a4 a5 a6
              go_wp2
              go_roundw
              case rel =>
                have e : setOf lessP (l.take (j + 1)) = S.take i ++ q :: S.drop i := by rw [unhide HS, ins_cut S i (unhide Hcut) hmem]
                have hle := (unhide Hcut).le
                have el : (setOf lessP (l.take (j + 1))).length = S.length + 1 := by
                  rw [unhide HS]
                  exact len_ins_new (unhide Hcut) hmem
                refine ⟨j + 1, by go_num, by omega, b9, ?_, by omega⟩
                have e2 : cellsOf (setOf lessP (l.take (j + 1))) = (cellsOf S).take (i * 7) ++ r.cells ++ (cellsOf S).drop (i * 7) := by
                  rw [e, cellsOf_append, ← unhide HIq, cellsOf_take S i hle, cellsOf_drop S i hle, show q :: S.drop i = [q] ++ S.drop i from rfl, cellsOf_append, List.append_assoc]
                rw [el, e2]
                exact unhide Hown9
              case measure =>
                simp only [intOf]
                omega
        · have i1 : ¬ (j : Int) < (l.length : Int) := by omega
          obtain rfl : j = l.length := by omega
          rw [List.take_length] at hown hS8
          have hc : ∀ o, (wr.cell? ⟨w.heap.size, o, none⟩) = w2.cell? ⟨w.heap.size, o, none⟩ := fun o => (hbw.cell (p := ⟨w.heap.size, o, none⟩) z5).trans (unhide Hc o)
          have hf : ∀ o, (wr.frozen? ⟨w.heap.size, o, none⟩) = w2.frozen? ⟨w.heap.size, o, none⟩ := fun o => (hbw.frozen (p := ⟨w.heap.size, o, none⟩) z5).trans (unhide Hf o)
          rw [← unhide Hw2] at hc hf
          obtain ⟨ao', cap', rfl, _⟩ := rowP_own hown
          obtain ⟨n, hn⟩ : ∃ n, n = (setOf lessP l).length := ⟨_, rfl⟩
          have Hn := hide hn
          rw [← hn] at hown hS8
          have Hown := hide hown
          rw [← hn]
          clear hown hn
          go_wp2
          refine bodyPost_ret (v := .tuple #[.agg #[.int .i64 5, .bool false, .int .i64 0, .string ⟨#[]⟩, .string ⟨#[]⟩, .string ⟨#[]⟩, .slice ao' n cap'], .int .i64 0]) (by simp [results, Tryz.results29, go_sem, hc]) rfl ⟨set7_below (b05.trans (hbw.mono b05.size)) (Nat.le_refl _) _ _ _ _ _ _ _, .inl ?_⟩
          rw [← unhide Hn]
          exact ⟨hS8, ao', cap', rfl, own_mono (own_set7 (unhide Hown) z5 _ _ _ _ _ _ _) b05.size⟩
end Go.Proofs.YtbbongdnnmanlaaGreat

namespace Go.Proofs.YtbbongdnnmanlaaGreat
open Go.RowKit Go.Sort

/-- A value as the program holds it. -/
def IsG (w : World) : GV → R7 → Prop
  | .pl p, R => R = ofP p
  | .set l, R => ∃ ao c, R = setR ao l.length c ∧ RowV w ao (l.map ofP) ∧ ∀ ad, ao = some ad → ad.off = 0

theorem IsG.below {w w' : World} {g : GV} {R : R7} (h : IsG w g R) (hb : Below w.heap.size w w') : IsG w' g R := by
  cases g with
  | pl p => exact h
  | set l =>
    obtain ⟨ao, c, e, hr, ho⟩ := h
    exact ⟨ao, c, e, hr.below hb, ho⟩
end Go.Proofs.YtbbongdnnmanlaaGreat
