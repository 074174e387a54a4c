/-
  The frame that all laws of this seat share: what the row's premises give of the world ('Tabs'), and how a walk that returns true and leaves old memory alone closes the row.
-/
import Derived.Test.YtlakgnnjokienaaGreatDoorPcE
import Derived.Test.YtlakgnnjokienaaGreatDoorCards
import Derived.Test.YtlakgnnjokienaaGreatDoorTie
import Derived.ProofKit
import Derived.LaidMore
import Derived.OpenShut
import Derived.Stop.Joined
import Derived.Stop.LaidErr
import Derived.Lib.LaidTab
import Derived.Shelf.Vars
import Derived.SizedLaws
import Derived.Carry
import Derived.Deep.Strs
namespace Go.Proofs.YtlakgnnjokienaaGreatDoor
open Go.ChangeShapes Go.WideShapes Go.ChangeAt Go.WideMaps Go.WideElems Go.RowKit

theorem own : ownKnob Tryz.prog.godebug = none := by kernel_rfl
theorem laidOut : laidOutB Tryz.prog = true := by kernel_rfl

/-- The list that every row of this seat bears. -/
def laid3 : List (String × DataW Unit) := Rows.parseDeepRow.laid

theorem door_met (os : Os) (args : Array Value) : laidMetH Tryz.prog laid3 ((World.doorLaid Tryz.prog 400 os).forCall (fun _ _ => 0) ⟨#[], args, []⟩).memory :=
  laidMetH_of_parts3 (fuel := 8) (laidMet_of_run' 8 (by kernel_rfl) (by kernel_rfl)) (by kernel_rfl) (by kernel_rfl)

theorem c_str : Tryz.prog.cellsOf 9 = 1 := by kernel_rfl
theorem c_int : Tryz.prog.cellsOf 3 = 1 := by kernel_rfl
theorem c_tab : Tryz.prog.cellsOf 86 = 24 := by kernel_rfl
theorem c_cmp : Tryz.prog.cellsOf 87 = 3 := by kernel_rfl
theorem c_cmps : Tryz.prog.cellsOf 88 = 21 := by kernel_rfl

/-- An array of texts that reads as the row lists it holds them, cell for cell. -/
theorem cells_of_strs {H : Type} {enc : TypeId × Value → H} {P : Program} {w : World} {base : Nat} {sp : Nat → Bool} {held : Bool} {fuel : Nat} {t e : TypeId} {n : Nat} {cs : List Value} {zs : List (List UInt8)} {p : List MemPlace}
    (ht : P.underlying t = some (.array n e)) (he : P.underlying e = some .string) (hce : P.cellsOf e = 1) (hct : P.cellsOf t = n)
    (h : DataW.trod enc P w base sp held fuel t cs = some (.agg (zs.map fun z => .lit (.string z)), p)) : cs = zs.map fun z => Value.string ⟨z.toArray⟩ := by
  cases fuel with
  | zero => simp [DataW.trod] at h
  | succ fuel =>
    simp only [DataW.trod, ht, hce, hct, Nat.mul_one] at h
    split at h
    · rename_i hl
      obtain ⟨xs, hm, hx⟩ := Option.map_eq_some_iff.1 h
      have hxs : xs.map (·.1) = zs.map fun z => (DataW.lit (.string z) : DataW H) := by
        have := congrArg Prod.fst hx
        simpa using this
      have hxl : xs.length = n := by simpa using Lib.mapM_length hm
      have hzl : zs.length = n := by
        have := congrArg List.length hxs
        simp at this
        omega
      apply List.ext_getElem?
      intro i
      by_cases hi : i < n
      · obtain ⟨b, hb, hf⟩ := Lib.mapM_at hm i i (by simp [hi])
        obtain ⟨z, hc, rfl, _⟩ := DataW.trod_string he hf
        have h1 : cs[i]? = some (.string z) := by
          have := congrArg (·[0]?) hc
          simpa [List.getElem?_take, List.getElem?_drop] using this
        have h2 : (xs.map (·.1))[i]? = some (DataW.lit (.string z.data.toList) : DataW H) := by simp [hb]
        rw [hxs] at h2
        simp only [List.getElem?_map, Option.map_eq_some_iff, DataW.lit.injEq, Lit.string.injEq] at h2
        obtain ⟨z', hz', rfl⟩ := h2
        simp [h1, hz']
      · rw [List.getElem?_eq_none (by omega), List.getElem?_eq_none (by simp; omega)]
    · cases h

/-- A row of the table of comparisons. -/
theorem cells_of_cmp {H : Type} {enc : TypeId × Value → H} {w : World} {base : Nat} {sp : Nat → Bool} {held : Bool} {fuel : Nat} {cs : List Value} {a b : Int} {z : List UInt8} {p : List MemPlace}
    (h : DataW.trod enc Tryz.prog w base sp held fuel 87 cs = some (.agg [.lit (.int .i64 a), .lit (.string z), .lit (.int .i64 b)], p)) : cs = [.int .i64 a, .string ⟨z.toArray⟩, .int .i64 b] := by
  obtain ⟨y0, y1, y2, q, e, hl, h0, h1, h2⟩ := Deep.trod_struct3 Tryz.underlying87 h
  rw [c_cmp] at hl
  simp only [c_int, c_str] at h0 h1 h2
  match cs, hl with
  | [a0, a1, a2], _ =>
    have h0 : DataW.trod enc Tryz.prog w base sp held q 3 [a0] = some y0 := h0
    have h1 : DataW.trod enc Tryz.prog w base sp held q 9 [a1] = some y1 := h1
    have h2 : DataW.trod enc Tryz.prog w base sp held q 3 [a2] = some y2 := h2
    obtain ⟨k0, e0, f0, _⟩ := DataW.trod_int Tryz.underlying3 h0
    obtain ⟨k1, e1, f1, _⟩ := DataW.trod_string Tryz.underlying9 h1
    obtain ⟨k2, e2, f2, _⟩ := DataW.trod_int Tryz.underlying3 h2
    subst f0 f1 f2
    simp only [Prod.mk.injEq, DataW.agg.injEq, List.cons.injEq, DataW.lit.injEq, Lit.int.injEq, Lit.string.injEq, true_and, and_true] at e
    simp only [List.cons.injEq, and_true] at e0 e1 e2
    obtain ⟨⟨rfl, rfl, rfl⟩, _⟩ := e
    rw [e0, e1, e2]

/-- The table of comparisons, cell for cell. -/
theorem cells_of_cmps {H : Type} {enc : TypeId × Value → H} {w : World} {base : Nat} {sp : Nat → Bool} {held : Bool} {fuel : Nat} {cs : List Value} {p : List MemPlace}
    (h : DataW.trod enc Tryz.prog w base sp held fuel 88 cs = some (Rows.laid_chancel_parse_comparisons, p)) : cs = cmpA.toList := by
  cases fuel with
  | zero => simp [DataW.trod] at h
  | succ fuel =>
    simp only [DataW.trod, Tryz.underlying88, c_cmp, c_cmps] at h
    split at h
    · rename_i hl
      obtain ⟨xs, hm, hx⟩ := Option.map_eq_some_iff.1 h
      have hxs : xs.map (·.1) = [.agg [.lit (.int .i64 4), .lit (.string [61, 61]), .lit (.int .i64 20)], .agg [.lit (.int .i64 4), .lit (.string [33, 61]), .lit (.int .i64 21)], .agg [.lit (.int .i64 4), .lit (.string [60]), .lit (.int .i64 16)], .agg [.lit (.int .i64 4), .lit (.string [60, 61]), .lit (.int .i64 17)], .agg [.lit (.int .i64 4), .lit (.string [62]), .lit (.int .i64 18)], .agg [.lit (.int .i64 4), .lit (.string [62, 61]), .lit (.int .i64 19)], .agg [.lit (.int .i64 1), .lit (.string [105, 110]), .lit (.int .i64 22)]] := by
        have := congrArg Prod.fst hx
        simpa [Rows.laid_chancel_parse_comparisons] using this
      have key : ∀ i d, i < 7 → (xs.map (·.1))[i]? = some d → ∃ pl, DataW.trod enc Tryz.prog w base sp held fuel 87 ((cs.drop (i * 3)).take 3) = some (d, pl) := by
        intro i d hi hd
        obtain ⟨b, hb, hf⟩ := Lib.mapM_at hm i i (by simp [hi])
        have : b.1 = d := by
          rw [List.getElem?_map, hb] at hd
          simpa using hd
        exact ⟨b.2, by rw [← this]; exact hf⟩
      have hl21 : cs.length = 21 := by simpa using hl
      rw [hxs] at key
      clear hx hm hl h
      match cs, hl21, key with
      | [c0, c1, c2, c3, c4, c5, c6, c7, c8, c9, d0, d1, d2, d3, d4, d5, d6, d7, d8, d9, e0], _, key =>
        obtain ⟨_, k0⟩ := key 0 _ (by decide) rfl
        obtain ⟨_, k1⟩ := key 1 _ (by decide) rfl
        obtain ⟨_, k2⟩ := key 2 _ (by decide) rfl
        obtain ⟨_, k3⟩ := key 3 _ (by decide) rfl
        obtain ⟨_, k4⟩ := key 4 _ (by decide) rfl
        obtain ⟨_, k5⟩ := key 5 _ (by decide) rfl
        obtain ⟨_, k6⟩ := key 6 _ (by decide) rfl
        have q0 : [c0, c1, c2] = _ := cells_of_cmp k0
        have q1 : [c3, c4, c5] = _ := cells_of_cmp k1
        have q2 : [c6, c7, c8] = _ := cells_of_cmp k2
        have q3 : [c9, d0, d1] = _ := cells_of_cmp k3
        have q4 : [d2, d3, d4] = _ := cells_of_cmp k4
        have q5 : [d5, d6, d7] = _ := cells_of_cmp k5
        have q6 : [d8, d9, e0] = _ := cells_of_cmp k6
        cases q0; cases q1; cases q2; cases q3; cases q4; cases q5; cases q6
        rfl
    · cases h

theorem fit_of {W : World} (h : laidMetH Tryz.prog laid3 W) (_hs : W.ShapedOpen Tryz.prog) : Tabs W := by
  rw [MakeChecks.laidMetH_plain _ _ _ (by kernel_rfl)] at h
  obtain ⟨ps, ⟨g', t', cs, fuel, p, q, hg', ht', hvar, hd, ⟨g2, t2, cs2, fuel2, p2, q2, hg2, ht2, hvar2, hd2, _, _⟩, _⟩, _⟩ := h
  refine ⟨?_, ?_⟩
  · obtain rfl := Option.some.inj ((show Tryz.prog.globalNamed "chancel/lex.signs" = some 0 by kernel_rfl).symm.trans hg')
    obtain rfl := Option.some.inj ((show (Tryz.prog.globals[0]?).map (·.type) = some 86 by kernel_rfl).symm.trans ht')
    have hd2 : DataW.trod _ Tryz.prog W _ _ _ fuel 86 cs.toList = some (.agg (sgns.map fun z => .lit (.string z)), p) := hd
    have hcs := cells_of_strs Tryz.underlying86 Tryz.underlying9 c_str c_tab hd2
    have hA : cs = sgnA := by rw [← Array.toArray_toList (xs := cs), hcs]; rfl
    rw [hA] at hvar
    unfold World.var? at hvar
    rw [show Tryz.prog.globalNamed "chancel/lex.signs" = some 0 by kernel_rfl] at hvar
    simp only [Option.bind_some] at hvar
    split at hvar
    · rename_i cs' t fr hh
      obtain rfl := Option.some.inj hvar
      exact ⟨t, fr, hh⟩
    · cases hvar
  · obtain rfl := Option.some.inj ((show Tryz.prog.globalNamed "chancel/parse.comparisons" = some 1 by kernel_rfl).symm.trans hg2)
    obtain rfl := Option.some.inj ((show (Tryz.prog.globals[1]?).map (·.type) = some 88 by kernel_rfl).symm.trans ht2)
    have hcs := cells_of_cmps hd2
    have hA : cs2 = cmpA := by rw [← Array.toArray_toList (xs := cs2), hcs]
    rw [hA] at hvar2
    unfold World.var? at hvar2
    rw [show Tryz.prog.globalNamed "chancel/parse.comparisons" = some 1 by kernel_rfl] at hvar2
    simp only [Option.bind_some] at hvar2
    split at hvar2
    · rename_i cs' t fr hh
      obtain rfl := Option.some.inj hvar2
      exact ⟨(Array.getElem?_eq_some_iff.1 hh).1, t, fr, hh⟩
    · cases hvar2

section
variable {H : Type} {enc : TypeId × Value → H}

set_option maxRecDepth 100000 in
theorem returns_of {a : Assume} {os : Os} {f : FuncId} {fn : Func} {s : ChangeSpec} {conds : List PathCond} {apart fresh handsOn again : Bool}
    (started : os.Started) (noInit : Tryz.prog.inits.idxOf? f = none) (hfn : Tryz.prog.funcs[f]? = some fn)
    (witness : ∃ (w : World) (tape : Tape) (i : Input), w.os = os ∧ (w.forCall tape i).Shaped Tryz.prog ∧ i.vars = [] ∧ Input.okWide Tryz.prog (w.forCall tape i) .any w.heap.size f i ∧
      ((s.pre enc Tryz.prog fn conds apart (w.forCall tape i).memory i.args ∧ laidMetH Tryz.prog laid3 (w.forCall tape i).memory) ∧ sizedMet enc Tryz.prog fn (OpenSpec.ofChange s) apart (w.forCall tape i).memory i.args) ∧ a.holds Tryz.prog (lone (Frame.enter Tryz.prog f i.args .normal) [] (w.forCall tape i)))
    (contract : ∀ (W : World) (base : Nat) (args : Array Value) (ds gs : List (DataW H)) (before : List MemPlace),
      (∀ (j : Nat) t v, fn.params[j]? = some t → args[j]? = some v → Value.okWide Tryz.prog W .any base t v) →
      DataW.Whole enc Tryz.prog fn.params.toList s.vars apart W args.toList ds gs before →
      (DataW.weightsEach Tryz.prog (fn.params.toList ++ s.plain.varTypes Tryz.prog) (ds ++ gs)).all (· ≤ reachBytes) = true → Tabs W →
      Calls Tryz.prog f args W fun e W' => ∃ v, e = .returned v ∧ s.post enc Tryz.prog fn apart fresh handsOn again W args v W') :
    ReturnsInHanded a Tryz.checked os f .any (fun w args => (s.pre enc Tryz.prog fn conds apart w args ∧ laidMetH Tryz.prog laid3 w) ∧ sizedMet enc Tryz.prog fn (OpenSpec.ofChange s) apart w args) (s.post enc Tryz.prog fn apart fresh handsOn again) := by
  refine returnsInHanded_of_calls own started noInit witness ?_
  intro w tape i _ hsh _ hok hpre _
  obtain ⟨_, _, _, fn', hfn', _, _, _, _, hval⟩ := hok
  have e : fn' = fn := Option.some.inj (hfn'.symm.trans hfn)
  subst e
  obtain ⟨⟨⟨ds, gs, before, hw, _⟩, hx⟩, hz⟩ := hpre
  have hw' := DataW.Whole.of_heap (w' := w.forCall tape i) (by rfl) hw
  refine (contract (w.forCall tape i) w.heap.size i.args ds gs before hval hw' (hz.weights hw) (fit_of (hx.of_heap (by rfl)) hsh)).mono fun e W' ⟨v, he, hp⟩ => ?_
  subst he
  exact ChangeSpec.post_blind hp

set_option maxRecDepth 100000 in
theorem trodAll_below {W W' : World} (hb : Below W.heap.size W W') : ∀ {ts : List TypeId} {vs : List Value} {ds : List (DataW H)} {ps : List MemPlace},
    (∀ t ∈ ts, Tryz.prog.readableRec t = true ∧ t < Tryz.prog.types.size) → DataW.TrodAll enc Tryz.prog W 0 (fun _ => true) true ts vs ds ps → DataW.TrodAll enc Tryz.prog W' 0 (fun b => decide (b < W.heap.size)) true ts vs ds ps
  | [], vs, ds, ps, _, h => by
    obtain ⟨rfl, rfl, rfl⟩ := trodAll_nil h
    exact trodAll_mk0
  | t :: ts, vs, ds, ps, ht, h => by
    have hlt := h.lt
    obtain ⟨v, vs', d, ds', p, q, rfl, rfl, rfl, h0, r0⟩ := trodAll_cons h
    exact trodAll_cons_mk (Below.trod laidOut (ht t (by simp)).1 (ht t (by simp)).2 h0 hb (fun x hx => hlt x (List.mem_append.2 (.inl hx)))) (trodAll_below hb (fun u hu => ht u (by simp [hu])) r0)

set_option maxRecDepth 100000 in
/-- A walk that returns true and turns nothing that was there closes a law's row. -/
theorem law_post {fn : Func} {s : ChangeSpec} {apart : Bool} {W W' : World} {args : Array Value} {ds gs : List (DataW H)} {before : List MemPlace} (hv : s.vars = []) (hr : fn.resultTypes = #[4])
    (ht : ∀ t ∈ fn.params.toList, Tryz.prog.readableRec t = true ∧ t < Tryz.prog.types.size)
    (hW : DataW.Whole enc Tryz.prog fn.params.toList s.vars apart W args.toList ds gs before) (hf : s.fn H (ds ++ gs) = { results := [.lit (.bool true)], args := ds }) (hb : Below W.heap.size W W') :
    s.post enc Tryz.prog fn apart true false false W args (.bool true) W' := by
  have hW' := hW
  obtain ⟨p, q, hA, hV, rfl, _, _⟩ := hW
  rw [hv] at hV
  obtain ⟨rfl, rfl⟩ := trodVars_none hV
  refine ⟨ds, [], p ++ [], [], p, [], hW', ?_, ?_, ?_, hb.frame _, fun h => by cases h⟩
  · rw [hf, hr]
    exact trodAll_cons_mk (shut_bool Tryz.underlying4 _) trodAll_mk0
  · rw [hf]
    exact trodAll_below hb ht hA
  · rw [hf, hv]
    rfl
end
end Go.Proofs.YtlakgnnjokienaaGreatDoor
