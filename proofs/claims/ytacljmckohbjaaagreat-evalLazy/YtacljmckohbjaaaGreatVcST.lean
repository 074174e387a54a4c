/-
  value.Same and Less of plain values; value.Holds.
  slices.IndexFunc, slices.ContainsFunc, value.Holds of sets of plain values.
  value.compare of sets of plain values.
-/
import Derived.Test.YtacljmckohbjaaaGreatVcEM
import Derived.Deep.Cut
namespace Go.Proofs.YtacljmckohbjaaaGreat
open Go.RowKit Go.Sort

theorem compare_ofP (p q : PV) (w : World) :
    Calls Tryz.prog 59 #[(ofP p).val, (ofP q).val] w fun e w' => e = .returned (.int .i64 (cmpP p q)) ∧ Below w.heap.size w w' := by
  rw [ofP_val, ofP_val]
  exact compare_plain p q none none 0 0 0 0 w

set_option maxHeartbeats 1000000 in
set_option maxRecDepth 1000000 in
/-- Same, out of what compare tells. -/
theorem same_of (r r' : R7) (x : Int) (w : World) (C : ∀ w', Below w.heap.size w w' → Calls Tryz.prog 59 #[r.val, r'.val] w' fun e w'' => e = .returned (.int .i64 x) ∧ Below w'.heap.size w' w'') :
    Calls Tryz.prog 54 #[r.val, r'.val] w fun e w' => e = .returned (.bool (x == 0)) ∧ Below w.heap.size w w' := by
  unfold R7.val at *
  go_enter Tryz.func54, Tryz.ntmps54
  go_wp2_with fail
  have b1 := below2 w (.cells #[.int .i64 r.k, .bool r.b, .int .i64 r.n, .string r.s, .string r.t, .string r.i, .slice r.lo r.ll r.lc] 46) (.cells #[.int .i64 r'.k, .bool r'.b, .int .i64 r'.n, .string r'.s, .string r'.t, .string r'.i, .slice r'.lo r'.ll r'.lc] 46)
  refine (C _ b1).mono ?_
  rintro e w2 ⟨rfl, b2⟩
  go_wp2
  go_ret
  exact ⟨rfl, b1.trans (b2.mono b1.size)⟩

end Go.Proofs.YtacljmckohbjaaaGreat

namespace Go.Proofs.YtacljmckohbjaaaGreat
open Go.RowKit Go.Sort

end Go.Proofs.YtacljmckohbjaaaGreat

namespace Go.Proofs.YtacljmckohbjaaaGreat
open Go.RowKit Go.Sort

set_option maxHeartbeats 2000000 in
set_option maxRecDepth 1000000 in
theorem flat_keeps (r : R7) (h : (r.k == 5) = false) (w : World) :
    Calls Tryz.prog 129 #[r.val] w fun e w' => e = .returned r.val ∧ Below w.heap.size w w' := by
  unfold R7.val
  go_enter Tryz.func129, Tryz.ntmps129
  go_wp2
  exact bodyPost_ret (v := .agg #[.int .i64 r.k, .bool r.b, .int .i64 r.n, .string r.s, .string r.t, .string r.i, .slice r.lo r.ll r.lc]) (by simp [results, Tryz.results129, go_sem]) rfl ⟨rfl, below2 _ _ _⟩

set_option maxHeartbeats 2000000 in
set_option maxRecDepth 1000000 in
theorem compareElements_plain (p q : PV) (w : World) :
    Calls Tryz.prog 128 #[(ofP p).val, (ofP q).val] w fun e w' => e = .returned (.int .i64 (cmpP p q)) ∧ Below w.heap.size w w' := by
  have F1 := flat_keeps (ofP p) (by cases p <;> rfl)
  have F2 := flat_keeps (ofP q) (by cases q <;> rfl)
  have C := compare_ofP p q
  generalize cmpP p q = x at *
  generalize ofP p = r at *
  generalize ofP q = r' at *
  unfold R7.val at *
  go_enter Tryz.func128, Tryz.ntmps128
  go_wp2_with fail
  have b02 := below2 w (.cells #[.int .i64 r.k, .bool r.b, .int .i64 r.n, .string r.s, .string r.t, .string r.i, .slice r.lo r.ll r.lc] 46) (.cells #[.int .i64 r'.k, .bool r'.b, .int .i64 r'.n, .string r'.s, .string r'.t, .string r'.i, .slice r'.lo r'.ll r'.lc] 46)
  have A2 := at7_new (w.alloc (.cells #[.int .i64 r.k, .bool r.b, .int .i64 r.n, .string r.s, .string r.t, .string r.i, .slice r.lo r.ll r.lc] 46)) r'
  rw [size1] at A2
  have A1 := (at7_new w r).below (below1 _ (.cells #[.int .i64 r'.k, .bool r'.b, .int .i64 r'.n, .string r'.s, .string r'.t, .string r'.i, .slice r'.lo r'.ll r'.lc] 46)) (by simp)
  generalize (w.alloc _).alloc _ = w2 at *
  have cS1 := fun d os => Calls.regrown_of (w := w2) (d := d) (os := os) (F1 (grow (redrawn w2 d) os))
  have cS2 := fun d os => Calls.regrown_of (w := w2) (d := d) (os := os) (F2 (grow (redrawn w2 d) os))
  have cS3 := fun d os => Calls.regrown_of (w := w2) (d := d) (os := os) (C (grow (redrawn w2 d) os))
  clear F1 F2 C
  obtain ⟨a0, a1, a2, a3, a4, a5, a6⟩ := A1.up
  obtain ⟨e0, e1, e2, e3, e4, e5, e6⟩ := A2.up
  simp only [Nat.zero_add] at a1 a2 a3 a4 a5 a6 e1 e2 e3 e4 e5 e6
  clear A1 A2
  refine wp_region_quiet_below (by kernel_rfl) (by kernel_rfl) ?_
  quiet_step (fail)
  quiet_step (exact cS1 _ _)
  quiet_step (fail)
  quiet_step (exact cS2 _ _)
  quiet_step (exact cS3 _ _)
  quiet_step (fail)
  refine wpQuiet_nil ?_
  intro _ hw'
  obtain ⟨⟨dq, osq⟩, hw''⟩ := hw'
  subst hw''
  go_wp2
  go_ret
  exact ⟨rfl, b02.trans ((below_regrown w2 dq osq).mono b02.size)⟩

/-- Which of two rows stands ahead. -/
def cmpL : List PV → List PV → Int
  | [], [] => 0
  | [], _ :: _ => -1
  | _ :: _, [] => 1
  | a :: l, b :: m => if cmpP a b = 0 then cmpL l m else cmpP a b

set_option maxHeartbeats 4000000 in
set_option maxRecDepth 1000000 in
theorem compareFunc_plain (l m : List PV) (ao bo : Option Addr) (ca cb : Nat) (w : World) (hl : l.length ≤ 1048576) (_hm : m.length ≤ 1048576) (hr : RowV w ao (l.map ofP)) (hs : RowV w bo (m.map ofP)) :
    Calls Tryz.prog 127 #[.slice ao l.length ca, .slice bo m.length cb, .func (.func 128) #[] #[]] w fun e w' => e = .returned (.int .i64 (cmpL l m)) ∧ Below w.heap.size w w' := by
  obtain ⟨x, hx⟩ : ∃ x, x = cmpL l m := ⟨_, rfl⟩
  rw [← hx]
  have HX := hide hx
  clear hx
  go_enter Tryz.func127, Tryz.ntmps127
  go_wp2
  go_loopw [13] (fun iv wr => ∃ i : Nat, iv = .int .i64 i ∧ i ≤ l.length ∧ i ≤ m.length ∧ Below w.heap.size w wr ∧ x = cmpL (l.drop i) (m.drop i)) (fun iv _ => l.length - (intOf iv).toNat)
  case atStart => exact ⟨0, by go_num, Nat.zero_le _, Nat.zero_le _, Below.refl _ _, by simpa using unhide HX⟩
  case round =>
    obtain ⟨j, rfl, hj, hjm, hbw, hacc⟩ := hrel
    have Hacc := hide hacc
    clear hacc
    by_cases hlt : j < l.length
    · have i1 : (j : Int) < (l.length : Int) := by omega
      obtain ⟨b, off, rfl, A, hb⟩ := rowV_at hr hbw (j := j) (by rw [List.length_map]; exact hlt)
      rw [List.getElem_map] at A
      by_cases hlt2 : j < m.length
      · have i2 : ¬ (m.length : Int) ≤ (j : Int) := by omega
        have i3 : (j : Int) < (m.length : Int) := by omega
        obtain ⟨b', off', rfl, A', hb'⟩ := rowV_at hs hbw (j := j) (by rw [List.length_map]; exact hlt2)
        rw [List.getElem_map] at A'
        have C := compareElements_plain l[j] m[j]
        have HS := hide (show cmpL (l.drop j) (m.drop j) = if cmpP l[j] m[j] = 0 then cmpL (l.drop (j + 1)) (m.drop (j + 1)) else cmpP l[j] m[j] by rw [List.drop_eq_getElem_cons hlt, List.drop_eq_getElem_cons hlt2]; rfl)
        generalize cmpP l[j] m[j] = y at *
        generalize ofP l[j] = r at *
        generalize ofP m[j] = r' at *
        unfold R7.val at C
        obtain ⟨a0, a1, a2, a3, a4, a5, a6⟩ := A
        obtain ⟨d0, d1, d2, d3, d4, d5, d6⟩ := A'
        have b2 := below2 wr (.cells #[.int .i64 r.k, .bool r.b, .int .i64 r.n, .string r.s, .string r.t, .string r.i, .slice r.lo r.ll r.lc] 46) (.cells #[.int .i64 r'.k, .bool r'.b, .int .i64 r'.n, .string r'.s, .string r'.t, .string r'.i, .slice r'.lo r'.ll r'.lc] 46)
        have hbr' : b' < wr.heap.size := by have := hbw.size; omega
        have hbr : b < wr.heap.size := by have := hbw.size; omega
        go_wp2_with fail
        refine (C _).mono ?_
        rintro e w3 ⟨rfl, b3⟩
        have b4 := hbw.trans ((b2.trans (b3.mono b2.size)).mono hbw.size)
        clear C a0 a1 a2 a3 a4 a5 a6 d0 d1 d2 d3 d4 d5 d6 b3 b2
        by_cases hy : y = 0
        · have HS' := hide ((unhide HS).trans (if_pos hy))
          clear HS
          subst hy
          go_wp2
          go_roundw
          case rel =>
            refine ⟨j + 1, by go_num, by omega, by omega, b4, ?_⟩
            rw [unhide Hacc]
            exact unhide HS'
          case measure =>
            simp only [intOf]
            omega
        · have hyb : (y == 0) = false := by simpa using hy
          have HY := hide hy
          clear hy
          go_wp2
          go_ret
          refine ⟨?_, b4⟩
          rw [unhide Hacc, unhide HS, if_neg (unhide HY)]
          rfl
      · have i2 : (m.length : Int) ≤ (j : Int) := by omega
        generalize hrr : ofP l[j] = r at *
        clear hrr
        obtain ⟨a0, a1, a2, a3, a4, a5, a6⟩ := A
        go_wp2
        go_ret
        refine ⟨?_, hbw.alloc hbw.size _⟩
        rw [unhide Hacc, List.drop_eq_getElem_cons hlt, List.drop_eq_nil_of_le (by omega : m.length ≤ j)]
        rfl
    · have i1 : ¬ (j : Int) < (l.length : Int) := by omega
      by_cases hlm : l.length < m.length
      · have i2 : (l.length : Int) < (m.length : Int) := by omega
        go_wp2
        go_ret
        refine ⟨?_, hbw⟩
        rw [unhide Hacc, List.drop_eq_nil_of_le (by omega : l.length ≤ j), List.drop_eq_getElem_cons (by omega : j < m.length)]
        rfl
      · have i2 : ¬ (l.length : Int) < (m.length : Int) := by omega
        go_wp2
        go_ret
        refine ⟨?_, hbw⟩
        rw [unhide Hacc, List.drop_eq_nil_of_le (by omega : l.length ≤ j), List.drop_eq_nil_of_le (by omega : m.length ≤ j)]
        rfl

theorem ta_els (v : Value) (w : World) : (Instr.typeAssert (.iface 147 v) 136 147 false).run Tryz.prog w = .ok v w := by kernel_rfl

set_option maxHeartbeats 2000000 in
set_option maxRecDepth 1000000 in
theorem elementsCmp_plain (l m : List PV) (ao bo : Option Addr) (ca cb : Nat) (w : World) (hl : l.length ≤ 1048576) (hm : m.length ≤ 1048576) (hr : RowV w ao (l.map ofP)) (hs : RowV w bo (m.map ofP)) :
    Calls Tryz.prog 124 #[.slice ao l.length ca, .iface 147 (.slice bo m.length cb)] w fun e w' => e = .returned (.int .i64 (cmpL l m)) ∧ Below w.heap.size w w' := by
  have C := compareFunc_plain l m ao bo ca cb w hl hm hr hs
  have T := ta_els (.slice bo m.length cb)
  generalize cmpL l m = x at *
  go_enter Tryz.func124, Tryz.ntmps124
  go_wp2_with fail
  refine C.mono ?_
  rintro e w1 ⟨rfl, b1⟩
  go_wp2
  go_ret
  exact ⟨rfl, b1⟩

theorem na_elements (v : Value) (w : World) : (nilAhead 321 147 v "chancel/value.compare").run Tryz.prog w = .ok (some false) w := by kernel_rfl
theorem me_elements (v : Value) (w : World) : (method 321 147 v "chancel/value.compare").run Tryz.prog w = .ok (124, v) w := by kernel_rfl
theorem en_elements (v : Array Value) (w : World) : (callFunc 124 v).run Tryz.prog w = .ok (.enter 124 v) w := by kernel_rfl

set_option maxRecDepth 100000 in
theorem compare_sets (l m : List PV) (ao bo : Option Addr) (ca cb : Nat) (w : World) (hl : l.length ≤ 1048576) (hm : m.length ≤ 1048576) (hr : RowV w ao (l.map ofP)) (hs : RowV w bo (m.map ofP)) :
    Calls Tryz.prog 59 #[(setR ao l.length ca).val, (setR bo m.length cb).val] w fun e w' => e = .returned (.int .i64 (cmpL l m)) ∧ Below w.heap.size w w' :=
  compare_same _ _ _ _ _ _ _ _ _ _ _ _ _ _ _ _ _ 147 124 _ _ _ w (na_elements _) (me_elements _) (en_elements _) (fun w => contentOf_set ao l.length ca w) (fun w => contentOf_set bo m.length cb w) (fun w' hb => elementsCmp_plain l m ao bo ca cb w' hl hm (hr.below hb) (hs.below hb))
end Go.Proofs.YtacljmckohbjaaaGreat
