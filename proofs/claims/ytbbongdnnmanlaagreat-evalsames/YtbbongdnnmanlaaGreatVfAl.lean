/-
  value.Same and Less of plain values; value.Holds.
  slices.IndexFunc, slices.ContainsFunc, value.Holds of sets of plain values.
  value.compare of sets of plain values.
  chancellaw3.Good: what it returns.
  chancellaw3.Good: what it returns, whatever its kind.
  value.Less and Same of any values such as may be.
  value.Holds of a set and any value.
-/
import Derived.Test.YtbbongdnnmanlaaGreatVcEM
import Derived.Deep.Cut
import Derived.Test.YtbbongdnnmanlaaGreatVfA
import Derived.Test.YtbbongdnnmanlaaGreatVeAL
import Derived.Test.YtbbongdnnmanlaaGreatEncAll
namespace Go.Proofs.YtbbongdnnmanlaaGreat
open Go.RowKit Go.Sort

theorem compare_ofP (p q : PV) (w : World) :
    Calls Tryz.prog 45 #[(ofP p).val, (ofP q).val] w fun e w' => e = .returned (.int .i64 (cmpP p q)) ∧ Below w.heap.size w w' := by
  rw [ofP_val, ofP_val]
  exact compare_plain p q none none 0 0 0 0 w

set_option maxHeartbeats 1000000 in
set_option maxRecDepth 1000000 in
/-- Same, out of what compare tells. -/
theorem same_of (r r' : R7) (x : Int) (w : World) (C : ∀ w', Below w.heap.size w w' → Calls Tryz.prog 45 #[r.val, r'.val] w' fun e w'' => e = .returned (.int .i64 x) ∧ Below w'.heap.size w' w'') :
    Calls Tryz.prog 38 #[r.val, r'.val] w fun e w' => e = .returned (.bool (x == 0)) ∧ Below w.heap.size w w' := by
  unfold R7.val at *
  go_enter Tryz.func38, Tryz.ntmps38
  go_wp2_with fail
  have b1 := below2 w (.cells #[.int .i64 r.k, .bool r.b, .int .i64 r.n, .string r.s, .string r.t, .string r.i, .slice r.lo r.ll r.lc] 31) (.cells #[.int .i64 r'.k, .bool r'.b, .int .i64 r'.n, .string r'.s, .string r'.t, .string r'.i, .slice r'.lo r'.ll r'.lc] 31)
  refine (C _ b1).mono ?_
  rintro e w2 ⟨rfl, b2⟩
  go_wp2
  go_ret
  exact ⟨rfl, b1.trans (b2.mono b1.size)⟩

theorem same_plain (p q : PV) (w : World) :
    Calls Tryz.prog 38 #[(ofP p).val, (ofP q).val] w fun e w' => e = .returned (.bool (decide (p = q))) ∧ Below w.heap.size w w' := by
  rw [← same_cmp]
  exact same_of _ _ _ w fun w' _ => compare_ofP p q w'

set_option maxHeartbeats 1000000 in
set_option maxRecDepth 1000000 in
theorem holdsFn_plain (p q : PV) (vb : Nat) (w : World) (hvb : vb < w.heap.size) (A : At7 w vb 0 (ofP q)) :
    Calls Tryz.prog 57 #[(ofP p).val, .pointer (some ⟨vb, 0, none⟩)] w fun e w' => e = .returned (.bool (decide (p = q))) ∧ Below w.heap.size w w' := by
  have S := same_plain p q
  generalize decide (p = q) = x at *
  generalize ofP p = r at *
  generalize ofP q = r' at *
  unfold R7.val at *
  have b1 := below1 w (.cells #[.int .i64 r.k, .bool r.b, .int .i64 r.n, .string r.s, .string r.t, .string r.i, .slice r.lo r.ll r.lc] 31)
  obtain ⟨a0, a1, a2, a3, a4, a5, a6⟩ := A
  simp only [Nat.zero_add] at a1 a2 a3 a4 a5 a6
  go_enter Tryz.func57, Tryz.ntmps57
  go_wp2_with fail
  refine (S _).mono ?_
  rintro e w2 ⟨rfl, b2⟩
  go_wp2
  go_ret
  exact ⟨rfl, b1.trans (b2.mono b1.size)⟩
end Go.Proofs.YtbbongdnnmanlaaGreat

namespace Go.Proofs.YtbbongdnnmanlaaGreat
open Go.RowKit Go.Sort

set_option maxHeartbeats 2000000 in
set_option maxRecDepth 1000000 in
theorem indexFunc_plain (l : List PV) (q : PV) (ao : Option Addr) (c vb : Nat) (w : World) (hl : l.length ≤ 1048576) (hr : RowV w ao (l.map ofP)) (hvb : vb < w.heap.size) (A : At7 w vb 0 (ofP q)) :
    Calls Tryz.prog 71 #[.slice ao l.length c, .func (.func 57) #[] #[.pointer (some ⟨vb, 0, none⟩)]] w fun e w' => ∃ i : Int, e = .returned (.int .i64 i) ∧ (0 ≤ i ↔ q ∈ l) ∧ Below w.heap.size w w' := by
  go_enter Tryz.func71, Tryz.ntmps71
  go_wp2
  go_loopw [8] (fun iv wr => ∃ i : Nat, iv = .int .i64 i ∧ i ≤ l.length ∧ Below w.heap.size w wr ∧ (q ∈ l ↔ q ∈ l.drop i)) (fun iv _ => l.length - (intOf iv).toNat)
  case atStart => exact ⟨0, by go_num, Nat.zero_le _, Below.refl _ _, by simp⟩
  case round =>
    obtain ⟨j, rfl, hj, hbw, hacc⟩ := hrel
    have Hacc := hide hacc
    clear hacc
    by_cases hlt : j < l.length
    · have i1 : (j : Int) < (l.length : Int) := by omega
      obtain ⟨b, off, rfl, B, hb⟩ := rowV_at hr hbw (j := j) (by rw [List.length_map]; exact hlt)
      rw [List.getElem_map] at B
      have F := holdsFn_plain l[j] q vb wr (by have := hbw.size; omega) (A.below hbw hvb)
      have HS := hide (show q ∈ l.drop j ↔ l[j] = q ∨ q ∈ l.drop (j + 1) by rw [List.drop_eq_getElem_cons hlt, List.mem_cons]; exact ⟨fun h => h.imp Eq.symm id, fun h => h.imp Eq.symm id⟩)
      obtain ⟨p, ep⟩ : ∃ p, p = l[j] := ⟨_, rfl⟩
      rw [← ep] at B F HS
      clear ep
      generalize ofP p = r at *
      unfold R7.val at F
      obtain ⟨a0, a1, a2, a3, a4, a5, a6⟩ := B
      go_wp2_with fail
      refine F.mono ?_
      rintro e w2 ⟨rfl, b2⟩
      have b3 := hbw.trans (b2.mono hbw.size)
      clear F
      by_cases hpq : p = q
      · have hd : decide (p = q) = true := decide_eq_true hpq
        rw [hd]
        go_wp2
        go_ret
        exact ⟨j, rfl, ⟨fun _ => (unhide Hacc).2 ((unhide HS).2 (.inl hpq)), fun _ => by omega⟩, b3⟩
      · have hd : decide (p = q) = false := decide_eq_false hpq
        rw [hd]
        go_wp2
        go_roundw
        case rel =>
          refine ⟨j + 1, by go_num, by omega, b3, ?_⟩
          rw [unhide Hacc, unhide HS]
          exact ⟨fun h => h.resolve_left hpq, .inr⟩
        case measure =>
          simp only [intOf]
          omega
    · have i1 : ¬ (j : Int) < (l.length : Int) := by omega
      go_wp2
      go_ret
      refine ⟨-1, rfl, ⟨fun h => absurd h (by decide), fun h => ?_⟩, hbw⟩
      rw [unhide Hacc, List.drop_eq_nil_of_le (by omega)] at h
      cases h

set_option maxHeartbeats 2000000 in
set_option maxRecDepth 1000000 in
theorem containsFunc_plain (l : List PV) (q : PV) (ao : Option Addr) (c vb : Nat) (w : World) (hl : l.length ≤ 1048576) (hr : RowV w ao (l.map ofP)) (hvb : vb < w.heap.size) (A : At7 w vb 0 (ofP q)) :
    Calls Tryz.prog 56 #[.slice ao l.length c, .func (.func 57) #[] #[.pointer (some ⟨vb, 0, none⟩)]] w fun e w' => e = .returned (.bool (decide (q ∈ l))) ∧ Below w.heap.size w w' := by
  have I := indexFunc_plain l q ao c vb w hl hr hvb A
  go_enter Tryz.func56, Tryz.ntmps56
  go_wp2_with fail
  refine I.mono ?_
  rintro e w2 ⟨i, rfl, hi, b2⟩
  have Hi := hide hi
  clear hi I
  go_wp2
  go_ret
  refine ⟨?_, b2⟩
  rw [← decide_eq_decide.2 (unhide Hi)]
  rfl

set_option maxHeartbeats 2000000 in
set_option maxRecDepth 1000000 in
theorem holds_plain (l : List PV) (q : PV) (ao : Option Addr) (c : Nat) (w : World) (hl : l.length ≤ 1048576) (hr : RowV w ao (l.map ofP)) :
    Calls Tryz.prog 36 #[(setR ao l.length c).val, (ofP q).val] w fun e w' => e = .returned (.bool (decide (q ∈ l))) ∧ Below w.heap.size w w' := by
  have C := contentOf_set ao l.length c
  have CF := fun vb w hr hvb A => containsFunc_plain l q ao c vb w hl hr hvb A
  generalize hx : decide (q ∈ l) = x at *
  clear hx
  obtain ⟨n, en⟩ : ∃ n, n = l.length := ⟨_, rfl⟩
  rw [← en] at C CF ⊢
  have T := ta_set
  obtain ⟨r, er⟩ : ∃ r, r = ofP q := ⟨_, rfl⟩
  rw [← er] at CF ⊢
  have Hn := hide en
  clear en er
  unfold setR R7.val
  unfold val7 conS at C
  go_enter Tryz.func36, Tryz.ntmps36
  go_wp2_with fail
  have b1 := below2 w (.cells #[.int .i64 5, .bool false, .int .i64 0, .string (ba []), .string (ba []), .string (ba []), .slice ao n c] 31) (.cells #[.int .i64 r.k, .bool r.b, .int .i64 r.n, .string r.s, .string r.t, .string r.i, .slice r.lo r.ll r.lc] 31)
  have A2 : At7 ((w.alloc (.cells #[.int .i64 5, .bool false, .int .i64 0, .string (ba []), .string (ba []), .string (ba []), .slice ao n c] 31)).alloc (.cells #[.int .i64 r.k, .bool r.b, .int .i64 r.n, .string r.s, .string r.t, .string r.i, .slice r.lo r.ll r.lc] 31)) (w.heap.size + 1) 0 r := by
    have := at7_new (w.alloc (.cells #[.int .i64 5, .bool false, .int .i64 0, .string (ba []), .string (ba []), .string (ba []), .slice ao n c] 31)) r
    rwa [size1] at this
  have z2 : ((w.alloc (.cells #[.int .i64 5, .bool false, .int .i64 0, .string (ba []), .string (ba []), .string (ba []), .slice ao n c] 31)).alloc (.cells #[.int .i64 r.k, .bool r.b, .int .i64 r.n, .string r.s, .string r.t, .string r.i, .slice r.lo r.ll r.lc] 31)).heap.size = w.heap.size + 2 := by simp
  refine (C _).mono ?_
  generalize (w.alloc _).alloc _ = w2 at *
  rintro e w3 ⟨rfl, b23⟩
  have b3 := b1.trans (b23.mono b1.size)
  have A3 := A2.below b23 (by omega)
  have z3 : w.heap.size + 1 < w3.heap.size := by have := b23.size; omega
  have CF3 := CF (w.heap.size + 1) w3 (hr.below b3) z3 A3
  clear CF C A2 A3
  go_wp2_with fail
  refine CF3.mono ?_
  rintro e w4 ⟨rfl, b34⟩
  go_wp2
  go_ret
  exact ⟨rfl, b3.trans (b34.mono b3.size)⟩
end Go.Proofs.YtbbongdnnmanlaaGreat

namespace Go.Proofs.YtbbongdnnmanlaaGreat
open Go.RowKit Go.Sort

set_option maxHeartbeats 2000000 in
set_option maxRecDepth 1000000 in
theorem flat_keeps (r : R7) (h : (r.k == 5) = false) (w : World) :
    Calls Tryz.prog 115 #[r.val] w fun e w' => e = .returned r.val ∧ Below w.heap.size w w' := by
  unfold R7.val
  go_enter Tryz.func115, Tryz.ntmps115
  go_wp2
  exact bodyPost_ret (v := .agg #[.int .i64 r.k, .bool r.b, .int .i64 r.n, .string r.s, .string r.t, .string r.i, .slice r.lo r.ll r.lc]) (by simp [results, Tryz.results115, go_sem]) rfl ⟨rfl, below2 _ _ _⟩

set_option maxHeartbeats 2000000 in
set_option maxRecDepth 1000000 in
theorem compareElements_plain (p q : PV) (w : World) :
    Calls Tryz.prog 114 #[(ofP p).val, (ofP q).val] w fun e w' => e = .returned (.int .i64 (cmpP p q)) ∧ Below w.heap.size w w' := by
  have F1 := flat_keeps (ofP p) (by cases p <;> rfl)
  have F2 := flat_keeps (ofP q) (by cases q <;> rfl)
  have C := compare_ofP p q
  generalize cmpP p q = x at *
  generalize ofP p = r at *
  generalize ofP q = r' at *
  unfold R7.val at *
  go_enter Tryz.func114, Tryz.ntmps114
  go_wp2_with fail
  have b02 := below2 w (.cells #[.int .i64 r.k, .bool r.b, .int .i64 r.n, .string r.s, .string r.t, .string r.i, .slice r.lo r.ll r.lc] 31) (.cells #[.int .i64 r'.k, .bool r'.b, .int .i64 r'.n, .string r'.s, .string r'.t, .string r'.i, .slice r'.lo r'.ll r'.lc] 31)
  have A2 := at7_new (w.alloc (.cells #[.int .i64 r.k, .bool r.b, .int .i64 r.n, .string r.s, .string r.t, .string r.i, .slice r.lo r.ll r.lc] 31)) r'
  rw [size1] at A2
  have A1 := (at7_new w r).below (below1 _ (.cells #[.int .i64 r'.k, .bool r'.b, .int .i64 r'.n, .string r'.s, .string r'.t, .string r'.i, .slice r'.lo r'.ll r'.lc] 31)) (by simp)
  generalize (w.alloc _).alloc _ = w2 at *
  have cS1 := fun d os => Calls.regrown_of (w := w2) (d := d) (os := os) (F1 (grow (redrawn w2 d) os))
  have cS2 := fun d os => Calls.regrown_of (w := w2) (d := d) (os := os) (F2 (grow (redrawn w2 d) os))
  have cS3 := fun d os => Calls.regrown_of (w := w2) (d := d) (os := os) (C (grow (redrawn w2 d) os))
  clear F1 F2 C
  obtain ⟨a0, a1, a2, a3, a4, a5, a6⟩ := A1.up
  obtain ⟨e0, e1, e2, e3, e4, e5, e6⟩ := A2.up
  simp only [Nat.zero_add] at a1 a2 a3 a4 a5 a6 e1 e2 e3 e4 e5 e6
  clear A1 A2
  refine wp_region_quiet_below (by kernel_rfl) (by kernel_rfl) ?_
  quiet_step (fail)
  quiet_step (exact cS1 _ _)
  quiet_step (fail)
  quiet_step (exact cS2 _ _)
  quiet_step (exact cS3 _ _)
  quiet_step (fail)
  refine wpQuiet_nil ?_
  intro _ hw'
  obtain ⟨⟨dq, osq⟩, hw''⟩ := hw'
  subst hw''
  go_wp2
  go_ret
  exact ⟨rfl, b02.trans ((below_regrown w2 dq osq).mono b02.size)⟩

/-- Which of two rows stands ahead. -/
def cmpL : List PV → List PV → Int
  | [], [] => 0
  | [], _ :: _ => -1
  | _ :: _, [] => 1
  | a :: l, b :: m => if cmpP a b = 0 then cmpL l m else cmpP a b

set_option maxHeartbeats 4000000 in
set_option maxRecDepth 1000000 in
theorem compareFunc_plain (l m : List PV) (ao bo : Option Addr) (ca cb : Nat) (w : World) (hl : l.length ≤ 1048576) (_hm : m.length ≤ 1048576) (hr : RowV w ao (l.map ofP)) (hs : RowV w bo (m.map ofP)) :
    Calls Tryz.prog 113 #[.slice ao l.length ca, .slice bo m.length cb, .func (.func 114) #[] #[]] w fun e w' => e = .returned (.int .i64 (cmpL l m)) ∧ Below w.heap.size w w' := by
  obtain ⟨x, hx⟩ : ∃ x, x = cmpL l m := ⟨_, rfl⟩
  rw [← hx]
  have HX := hide hx
  clear hx
  go_enter Tryz.func113, Tryz.ntmps113
  go_wp2
  go_loopw [13] (fun iv wr => ∃ i : Nat, iv = .int .i64 i ∧ i ≤ l.length ∧ i ≤ m.length ∧ Below w.heap.size w wr ∧ x = cmpL (l.drop i) (m.drop i)) (fun iv _ => l.length - (intOf iv).toNat)
  case atStart => exact ⟨0, by go_num, Nat.zero_le _, Nat.zero_le _, Below.refl _ _, by simpa using unhide HX⟩
  case round =>
    obtain ⟨j, rfl, hj, hjm, hbw, hacc⟩ := hrel
    have Hacc := hide hacc
    clear hacc
    by_cases hlt : j < l.length
    · have i1 : (j : Int) < (l.length : Int) := by omega
      obtain ⟨b, off, rfl, A, hb⟩ := rowV_at hr hbw (j := j) (by rw [List.length_map]; exact hlt)
      rw [List.getElem_map] at A
      by_cases hlt2 : j < m.length
      · have i2 : ¬ (m.length : Int) ≤ (j : Int) := by omega
        have i3 : (j : Int) < (m.length : Int) := by omega
        obtain ⟨b', off', rfl, A', hb'⟩ := rowV_at hs hbw (j := j) (by rw [List.length_map]; exact hlt2)
        rw [List.getElem_map] at A'
        have C := compareElements_plain l[j] m[j]
        have HS := hide (show cmpL (l.drop j) (m.drop j) = if cmpP l[j] m[j] = 0 then cmpL (l.drop (j + 1)) (m.drop (j + 1)) else cmpP l[j] m[j] by rw [List.drop_eq_getElem_cons hlt, List.drop_eq_getElem_cons hlt2]; rfl)
        generalize cmpP l[j] m[j] = y at *
        generalize ofP l[j] = r at *
        generalize ofP m[j] = r' at *
        unfold R7.val at C
        obtain ⟨a0, a1, a2, a3, a4, a5, a6⟩ := A
        obtain ⟨d0, d1, d2, d3, d4, d5, d6⟩ := A'
        have b2 := below2 wr (.cells #[.int .i64 r.k, .bool r.b, .int .i64 r.n, .string r.s, .string r.t, .string r.i, .slice r.lo r.ll r.lc] 31) (.cells #[.int .i64 r'.k, .bool r'.b, .int .i64 r'.n, .string r'.s, .string r'.t, .string r'.i, .slice r'.lo r'.ll r'.lc] 31)
        have hbr' : b' < wr.heap.size := by have := hbw.size; omega
        have hbr : b < wr.heap.size := by have := hbw.size; omega
        go_wp2_with fail
        refine (C _).mono ?_
        rintro e w3 ⟨rfl, b3⟩
        have b4 := hbw.trans ((b2.trans (b3.mono b2.size)).mono hbw.size)
        clear C a0 a1 a2 a3 a4 a5 a6 d0 d1 d2 d3 d4 d5 d6 b3 b2
        by_cases hy : y = 0
        · have HS' := hide ((unhide HS).trans (if_pos hy))
          clear HS
          subst hy
          go_wp2
          go_roundw
          case rel =>
            refine ⟨j + 1, by go_num, by omega, by omega, b4, ?_⟩
            rw [unhide Hacc]
            exact unhide HS'
          case measure =>
            simp only [intOf]
            omega
        · have hyb : (y == 0) = false := by simpa using hy
          have HY := hide hy
          clear hy
          go_wp2
          go_ret
          refine ⟨?_, b4⟩
          rw [unhide Hacc, unhide HS, if_neg (unhide HY)]
          rfl
      · have i2 : (m.length : Int) ≤ (j : Int) := by omega
        generalize hrr : ofP l[j] = r at *
        clear hrr
        obtain ⟨a0, a1, a2, a3, a4, a5, a6⟩ := A
        go_wp2
        go_ret
        refine ⟨?_, hbw.alloc hbw.size _⟩
        rw [unhide Hacc, List.drop_eq_getElem_cons hlt, List.drop_eq_nil_of_le (by omega : m.length ≤ j)]
        rfl
    · have i1 : ¬ (j : Int) < (l.length : Int) := by omega
      by_cases hlm : l.length < m.length
      · have i2 : (l.length : Int) < (m.length : Int) := by omega
        go_wp2
        go_ret
        refine ⟨?_, hbw⟩
        rw [unhide Hacc, List.drop_eq_nil_of_le (by omega : l.length ≤ j), List.drop_eq_getElem_cons (by omega : j < m.length)]
        rfl
      · have i2 : ¬ (l.length : Int) < (m.length : Int) := by omega
        go_wp2
        go_ret
        refine ⟨?_, hbw⟩
        rw [unhide Hacc, List.drop_eq_nil_of_le (by omega : l.length ≤ j), List.drop_eq_nil_of_le (by omega : m.length ≤ j)]
        rfl

theorem ta_els (v : Value) (w : World) : (Instr.typeAssert (.iface 116 v) 99 116 false).run Tryz.prog w = .ok v w := by kernel_rfl

set_option maxHeartbeats 2000000 in
set_option maxRecDepth 1000000 in
theorem elementsCmp_plain (l m : List PV) (ao bo : Option Addr) (ca cb : Nat) (w : World) (hl : l.length ≤ 1048576) (hm : m.length ≤ 1048576) (hr : RowV w ao (l.map ofP)) (hs : RowV w bo (m.map ofP)) :
    Calls Tryz.prog 110 #[.slice ao l.length ca, .iface 116 (.slice bo m.length cb)] w fun e w' => e = .returned (.int .i64 (cmpL l m)) ∧ Below w.heap.size w w' := by
  have C := compareFunc_plain l m ao bo ca cb w hl hm hr hs
  have T := ta_els (.slice bo m.length cb)
  generalize cmpL l m = x at *
  go_enter Tryz.func110, Tryz.ntmps110
  go_wp2_with fail
  refine C.mono ?_
  rintro e w1 ⟨rfl, b1⟩
  go_wp2
  go_ret
  exact ⟨rfl, b1⟩

theorem na_elements (v : Value) (w : World) : (nilAhead 282 116 v "chancel/value.compare").run Tryz.prog w = .ok (some false) w := by kernel_rfl
theorem me_elements (v : Value) (w : World) : (method 282 116 v "chancel/value.compare").run Tryz.prog w = .ok (110, v) w := by kernel_rfl
theorem en_elements (v : Array Value) (w : World) : (callFunc 110 v).run Tryz.prog w = .ok (.enter 110 v) w := by kernel_rfl

set_option maxRecDepth 100000 in
theorem compare_sets (l m : List PV) (ao bo : Option Addr) (ca cb : Nat) (w : World) (hl : l.length ≤ 1048576) (hm : m.length ≤ 1048576) (hr : RowV w ao (l.map ofP)) (hs : RowV w bo (m.map ofP)) :
    Calls Tryz.prog 45 #[(setR ao l.length ca).val, (setR bo m.length cb).val] w fun e w' => e = .returned (.int .i64 (cmpL l m)) ∧ Below w.heap.size w w' :=
  compare_same _ _ _ _ _ _ _ _ _ _ _ _ _ _ _ _ _ 116 110 _ _ _ w (na_elements _) (me_elements _) (en_elements _) (fun w => contentOf_set ao l.length ca w) (fun w => contentOf_set bo m.length cb w) (fun w' hb => elementsCmp_plain l m ao bo ca cb w' hl hm (hr.below hb) (hs.below hb))
end Go.Proofs.YtbbongdnnmanlaaGreat

namespace Go.Proofs.YtbbongdnnmanlaaGreat
open Go.RowKit Go.Sort

/-- The kind that Good takes, of the plain values within. -/
def goodK (k : Int) : Nat := (1 + wrap64 (k.tdiv 5) % 4).toNat
theorem goodK_eq (k : Int) : 1 ≤ goodK k ∧ goodK k ≤ 4 ∧ 1 + wrap64 (k.tdiv 5) % 4 = (goodK k : Int) := by
  unfold goodK
  have h0 := Int.emod_nonneg (wrap64 (k.tdiv 5)) (show (4 : Int) ≠ 0 by decide)
  have h1 := Int.emod_lt_of_pos (wrap64 (k.tdiv 5)) (show (0 : Int) < 4 by decide)
  omega

/-- The plain values that Good makes a set of. -/
def goodL (k : Int) (es : List RawE) : List PV := (es.take 8).map fun e => plainV (goodK k) e.n e.xs

theorem goodL_len (k : Int) (es : List RawE) : (goodL k es).length = min 8 es.length := by simp [goodL]
theorem goodL_snoc (k : Int) (es : List RawE) (i : Nat) (h : i < es.length) (h8 : i < 8) : (goodL k es).take (i + 1) = (goodL k es).take i ++ [plainV (goodK k) es[i].n es[i].xs] := by
  rw [List.take_succ_eq_append_getElem (by rw [goodL_len]; omega)]
  simp [goodL]
theorem plainV_kindB (p : Nat) (h1 : 1 ≤ p) (h4 : p ≤ 4) (n : Int) (xs : List Int) : (plainV p n xs).kind = p := by
  match p, h1, h4 with
  | 1, _, _ | 2, _, _ | 3, _, _ | 4, _, _ => rfl
theorem goodL_kind (k : Int) (es : List RawE) : ∀ p ∈ goodL k es, ∀ q ∈ goodL k es, p.kind = q.kind := by
  intro p hp q hq
  obtain ⟨a, _, rfl⟩ := List.mem_map.1 hp
  obtain ⟨b, _, rfl⟩ := List.mem_map.1 hq
  rw [plainV_kindB _ (goodK_eq k).1 (goodK_eq k).2.1, plainV_kindB _ (goodK_eq k).1 (goodK_eq k).2.1]

/-- What each slot of the region holds. -/
def goodSp (B : Nat) (lv lo : Value) (b off i : Nat) (raw : Value) (k : Int) (kd : Nat) (x : R7) : Nat → Value → World → Prop
  | 0, v, _ => v = lv
  | 1, v, _ => v = .pointer (some ⟨B, 3, none⟩)
  | 2, v, _ => v = lo
  | 3, v, _ => v = .int .i64 i
  | 4, v, _ => v = .pointer (some ⟨b, off + i * 4, none⟩)
  | 5, v, _ => v = raw
  | 6, v, _ => v = .pointer (some ⟨B, 0, none⟩)
  | 7, v, _ => v = .int .i64 k
  | 8, v, _ => v = .int .i64 (wrap64 (k.tdiv 5))
  | 9, v, _ => v = .int .i64 (wrap64 (k.tdiv 5) % 4)
  | 10, v, _ => v = .int .i64 kd
  | 11, v, _ => v = x.val
  | 12, v, w => ∃ blk, v = .slice (some ⟨blk, 0, none⟩) 1 1 ∧ blk < w.heap.size ∧ ∀ j u, x.cells[j]? = some u → w.cell? ((⟨blk, 0, none⟩ : Addr).add j) = some u
  | _, _, _ => True

theorem goodSp_up {B : Nat} {lv lo : Value} {b off i : Nat} {raw : Value} {k : Int} {kd : Nat} {x : R7} {w w' : World} (hb : Below w.heap.size w w') : ∀ j u, goodSp B lv lo b off i raw k kd x j u w → goodSp B lv lo b off i raw k kd x j u w'
  | 0, _, h | 1, _, h | 2, _, h | 3, _, h | 4, _, h | 5, _, h | 6, _, h | 7, _, h | 8, _, h | 9, _, h | 10, _, h | 11, _, h => h
  | 12, _, ⟨blk, e, hl, hc⟩ => ⟨blk, e, Nat.lt_of_lt_of_le hl hb.size, fun j u hu => (hb.cell (p := (⟨blk, 0, none⟩ : Addr).add j) (by rw [Addr.add_lit]; exact hl)).trans (hc j u hu)⟩
  | _ + 13, _, _ => trivial

set_option maxHeartbeats 4000000 in
set_option maxRecDepth 1000000 in
theorem good3_set (r : RawE) (lo : Option Addr) (es : List RawE) (lc : Nat) (w : World) (hl : es.length ≤ 9223372036854775807) (hs : RowRaw w lo es) (h5 : r.k % 5 = 4) :
    Calls Tryz.prog 5 #[.agg #[.int .i64 r.k, .int .i64 r.n, .slice r.so r.xs.length r.sc, .slice lo es.length lc]] w fun e w' => Below w.heap.size w w' ∧ ∃ ao c, e = .returned (setR ao (setOf lessP (goodL r.k es)).length c).val ∧ RowV w' ao ((setOf lessP (goodL r.k es)).map ofP) ∧ (∀ ad, ao = some ad → ad.off = 0) ∧ (setOf lessP (goodL r.k es)).length ≤ c := by
  obtain ⟨i0, hi, hz0, hz1, hz2⟩ := info_parts infoValue
  have W1 := within3_any r.k 5 (by decide) (by decide)
  have W2 := within3_any (wrap64 (r.k.tdiv 5)) 4 (by decide) (by decide)
  rw [h5] at W1
  obtain ⟨hp1, hp4, hp⟩ := goodK_eq r.k
  have HL := hide (goodL_len r.k es)
  have HK := hide (goodL_kind r.k es)
  have Hsn := hide (goodL_snoc r.k es)
  obtain ⟨G, hG⟩ : ∃ G, G = goodL r.k es := ⟨_, rfl⟩
  rw [← hG] at HL HK Hsn ⊢
  obtain ⟨kd, hkd⟩ : ∃ kd, kd = goodK r.k := ⟨_, rfl⟩
  rw [← hkd] at Hsn hp1 hp4 hp
  clear hG hkd
  go_enter Tryz.func5, Tryz.ntmps5
  go_wp2_with fail
  have b2 := below2 w (.cells #[.int .i64 r.k, .int .i64 r.n, .slice r.so r.xs.length r.sc, .slice lo es.length lc] 25) (.cells #[.int .i64 0, .bool false, .int .i64 0, .string ⟨#[]⟩, .string ⟨#[]⟩, .string ⟨#[]⟩, .slice none 0 0] 31)
  generalize hw2 : (w.alloc (.cells #[.int .i64 r.k, .int .i64 r.n, .slice r.so r.xs.length r.sc, .slice lo es.length lc] 25)).alloc (.cells #[.int .i64 0, .bool false, .int .i64 0, .string ⟨#[]⟩, .string ⟨#[]⟩, .string ⟨#[]⟩, .slice none 0 0] 31) = w2 at *
  have Z2 := hide (show w2.heap.size = w.heap.size + 2 by rw [← hw2]; simp)
  have x0 : w2.cell? ⟨w.heap.size, 0, none⟩ = some (.int .i64 r.k) := by rw [← hw2]; simp
  have x3 : w2.cell? ⟨w.heap.size, 3, none⟩ = some (.slice lo es.length lc) := by rw [← hw2]; simp
  have Hw2 := hide hw2
  clear hw2
  refine (W1 _).mono ?_
  rintro e w1 ⟨rfl, rfl⟩
  clear W1
  go_wp2_with fail
  have L1 : w.heap.size + 1 < w1.heap.size := by have := unhide Z2; omega
  go_loopw [4, 5] (fun lv iv wr => ∃ i : Nat, iv = .int .i64 i ∧ i ≤ es.length ∧ i ≤ 8 ∧ Below w1.heap.size w1 wr ∧ wr.ownsRow w1.heap.size 31 7 lv (G.take i).length (cellsOf (G.take i))) (fun _ iv _ => 8 - (intOf iv).toNat)
  case atStart => exact ⟨0, by go_num, Nat.zero_le _, Nat.zero_le _, Below.refl _ _, World.ownsRow_nil _ _ _ _⟩
  case round =>
    obtain ⟨i, rfl, hie, hi8, hbw, hown⟩ := hrel
    have e0 := (hbw.cell (p := ⟨w.heap.size, 0, none⟩) (by show w.heap.size < _; omega)).trans x0
    have e3 := (hbw.cell (p := ⟨w.heap.size, 3, none⟩) (by show w.heap.size < _; omega)).trans x3
    by_cases hlt : i < es.length ∧ i < 8
    · obtain ⟨h1, h8⟩ := hlt
      have i1 : (i : Int) < (es.length : Int) := by omega
      have i2 : (i : Int) < 8 := by omega
      have hlen : (G.take i).length = i := by rw [List.length_take, unhide HL]; omega
      obtain ⟨hok, b, off, lo', ll', lc', rfl, hb, y0, y1, y2, y3⟩ := hs i h1
      have HS := hide (unhide Hsn i h1 h8)
      have b1r := b2.trans (hbw.mono b2.size)
      have PL : ∀ w', Below wr.heap.size wr w' → Calls Tryz.prog 11 #[.agg #[.int .i64 es[i].k, .int .i64 es[i].n, .slice es[i].so es[i].xs.length es[i].sc, .slice lo' ll' lc'], .int .i64 kd] w' fun e w'' => e = .returned (ofP (plainV kd es[i].n es[i].xs)).val ∧ Below w'.heap.size w' w'' := fun w' hb => plain3_any kd hp1 hp4 _ _ _ _ _ _ _ _ w' hok.len hok.cap ((hok.ints.below b1r).below hb)
      obtain ⟨x, hx⟩ : ∃ x, x = plainV kd es[i].n es[i].xs := ⟨_, rfl⟩
      rw [← hx] at PL HS
      have hcw : ∀ o, wr.cell? ⟨b, o, none⟩ = w.cell? ⟨b, o, none⟩ := fun o => b1r.cell (p := ⟨b, o, none⟩) hb
      have y0 := (hcw _).trans y0
      have y1 := (hcw _).trans y1
      have y2 := (hcw _).trans y2
      have y3 := (hcw _).trans y3
      have hbr : b < wr.heap.size := by have := b1r.size; omega
      have lw : w.heap.size < wr.heap.size := by have := hbw.size; omega
      generalize es[i] = ei at *
      have HIq := hide (show cellsOf [x] = (ofP x).cells by simp [cellsOf])
      obtain ⟨rx, erx⟩ : ∃ rx, rx = ofP x := ⟨_, rfl⟩
      rw [← erx] at PL HIq
      clear hx erx hcw hok
      obtain ⟨ao', cap', rfl, _⟩ := rowP_own hown
      rw [hlen] at hown ⊢
      have Hlen := hide hlen
      have Hown := hide hown
      clear hlen hown
      go_upto_region 8 with fail
      refine wp_specs_put 13 (goodSp w.heap.size (.slice ao' i cap') (.slice (some ⟨b, off, none⟩) es.length lc) b off i (.agg #[.int .i64 ei.k, .int .i64 ei.n, .slice ei.so ei.xs.length ei.sc, .slice lo' ll' lc']) r.k kd rx) (fun w' => Below wr.heap.size wr w') (by kernel_rfl) (by kernel_rfl) (Below.refl _ wr).drew ?_ ?_
      · intro j o hj ho a' w' hR hdep hslot K hK
        match j, hj with
        | 0, _ =>
          cases ho
          have e : a'.tmps.getD 4 undef = .slice ao' i cap' := hslot 4 (by decide)
          unfold Oper.wp
          go_simp
          exact hK _ _ rfl hR (fun _ _ h => h)
        | 1, _ =>
          cases ho
          have e : a'.tmps.getD 1 undef = .pointer (some ⟨w.heap.size, 0, none⟩) := hslot 1 (by decide)
          unfold Oper.wp
          go_simp
          exact hK _ _ rfl hR (fun _ _ h => h)
        | 2, _ =>
          cases ho
          have e : a'.tmps.getD 29 undef = .pointer (some ⟨w.heap.size, 3, none⟩) := hdep 1 (by kernel_rfl)
          have c3 := (hR.cell (p := ⟨w.heap.size, 3, none⟩) lw).trans e3
          unfold Oper.wp
          go_simp
          exact hK _ _ rfl hR (fun _ _ h => h)
        | 3, _ =>
          cases ho
          have e : a'.tmps.getD 5 undef = .int .i64 i := hslot 5 (by decide)
          unfold Oper.wp
          go_simp
          exact hK _ _ rfl hR (fun _ _ h => h)
        | 4, _ =>
          cases ho
          have e : a'.tmps.getD 30 undef = .slice (some ⟨b, off, none⟩) es.length lc := hdep 2 (by kernel_rfl)
          have e' : a'.tmps.getD 31 undef = .int .i64 i := hdep 3 (by kernel_rfl)
          unfold Oper.wp
          go_simp
          exact hK _ _ rfl hR (fun _ _ h => h)
        | 5, _ =>
          cases ho
          have e : a'.tmps.getD 32 undef = .pointer (some ⟨b, off + i * 4, none⟩) := hdep 4 (by kernel_rfl)
          have c0 := (hR.cell (p := ⟨b, off + i * 4, none⟩) hbr).trans y0
          have c1 := (hR.cell (p := ⟨b, off + i * 4 + 1, none⟩) hbr).trans y1
          have c2 := (hR.cell (p := ⟨b, off + i * 4 + 2, none⟩) hbr).trans y2
          have c3 := (hR.cell (p := ⟨b, off + i * 4 + 3, none⟩) hbr).trans y3
          unfold Oper.wp
          go_simp
          exact hK _ _ rfl hR (fun _ _ h => h)
        | 6, _ =>
          cases ho
          have e : a'.tmps.getD 1 undef = .pointer (some ⟨w.heap.size, 0, none⟩) := hslot 1 (by decide)
          unfold Oper.wp
          go_simp
          exact hK _ _ rfl hR (fun _ _ h => h)
        | 7, _ =>
          cases ho
          have e : a'.tmps.getD 34 undef = .pointer (some ⟨w.heap.size, 0, none⟩) := hdep 6 (by kernel_rfl)
          have c3 := (hR.cell (p := ⟨w.heap.size, 0, none⟩) lw).trans e0
          unfold Oper.wp
          go_simp
          exact hK _ _ rfl hR (fun _ _ h => h)
        | 8, _ =>
          cases ho
          have e : a'.tmps.getD 35 undef = .int .i64 r.k := hdep 7 (by kernel_rfl)
          unfold Oper.wp
          go_simp
          exact hK _ _ (congrArg (Value.int .i64) (by rw [IntKind.wrap_i64]; unfold wrap64; omega)) hR (fun _ _ h => h)
        | 9, _ =>
          cases ho
          have e : a'.tmps.getD 36 undef = .int .i64 (wrap64 (r.k.tdiv 5)) := hdep 8 (by kernel_rfl)
          have W2' := W2 w'
          clear W2
          unfold Oper.wp
          go_simp
          refine W2'.mono ?_
          rintro e w3 ⟨rfl, rfl⟩
          exact hK _ _ rfl hR (fun _ _ h => h)
        | 10, _ =>
          cases ho
          have e : a'.tmps.getD 37 undef = .int .i64 (wrap64 (r.k.tdiv 5) % 4) := hdep 9 (by kernel_rfl)
          unfold Oper.wp
          go_simp
          exact hK _ _ (congrArg (Value.int .i64) (show IntKind.i64.wrap (kd : Int) = kd by rw [IntKind.wrap_i64]; omega)) hR (fun _ _ h => h)
        | 11, _ =>
          cases ho
          have e1 : a'.tmps.getD 33 undef = _ := hdep 5 (by kernel_rfl)
          have e2 : a'.tmps.getD 38 undef = .int .i64 kd := hdep 10 (by kernel_rfl)
          have PW := PL w' hR
          clear PL
          unfold Oper.wp
          go_simp
          refine PW.mono ?_
          rintro e w3 ⟨rfl, b3⟩
          exact hK _ _ rfl (hR.trans (b3.mono hR.size)) (goodSp_up b3)
        | 12, _ =>
          cases ho
          have e1 : a'.tmps.getD 39 undef = rx.val := hdep 11 (by kernel_rfl)
          unfold R7.val at e1
          have e1' : a'.tmps[39]?.getD undef = .agg #[.int .i64 rx.k, .bool rx.b, .int .i64 rx.n, .string rx.s, .string rx.t, .string rx.i, .slice rx.lo rx.ll rx.lc] := by simpa using e1
          unfold Oper.wp
          go_simp
          exact hK _ _ ⟨w'.heap.size, rfl, by simp, news_row w' rx _ rfl⟩ (hR.alloc hR.size _) (goodSp_up (below1 _ _))
      · intro v w4 hR hall
        have f0 : v 0 = _ := hall 0 (by decide)
        have f1 : v 1 = _ := hall 1 (by decide)
        have f2 : v 2 = _ := hall 2 (by decide)
        have f3 : v 3 = _ := hall 3 (by decide)
        have f4 : v 4 = _ := hall 4 (by decide)
        have f5 : v 5 = _ := hall 5 (by decide)
        have f6 : v 6 = _ := hall 6 (by decide)
        have f7 : v 7 = _ := hall 7 (by decide)
        have f8 : v 8 = _ := hall 8 (by decide)
        have f9 : v 9 = _ := hall 9 (by decide)
        have f10 : v 10 = _ := hall 10 (by decide)
        have f11 : v 11 = _ := hall 11 (by decide)
        obtain ⟨blk, f12, hbl, hnews⟩ : ∃ blk, v 12 = .slice (some ⟨blk, 0, none⟩) 1 1 ∧ blk < w4.heap.size ∧ ∀ j u, rx.cells[j]? = some u → w4.cell? ((⟨blk, 0, none⟩ : Addr).add j) = some u := hall 12 (by decide)
        have hown4 := own_below (unhide Hown) hR
        have Hnews := hide hnews
        have Hown4 := hide hown4
        clear hall PL W2 hnews hown4
        simp only [putAll, dstOf, List.getElem?_cons_zero, List.getElem?_cons_succ, Option.bind_some, List.drop_succ_cons, List.drop_zero, f0, f1, f2, f3, f4, f5, f6, f7, f8, f9, f10, f11, f12]
        clear f0 f1 f2 f3 f4 f5 f6 f7 f8 f9 f10 f11 f12
        unfold R7.val
        simp only [Act.put, List.setIfInBounds_toArray, List.set_cons_succ, List.set_cons_zero]
        go_wp2_with (at_builtin; refine wpList_append_own _ rfl _ _ 29 rfl w1.heap.size 31 i0 _ 7 96 Tryz.underlying29 hi hz0 hz1 hz2 rfl (by decide) _ _ _ rfl (unhide Hown4) ⟨blk, 0, none⟩ 1 1 rx.cells rfl rfl ?c1 ?c2 ?c3 ?c4 ?c5 ?_)
        case c1 => exact unhide Hnews
        case c2 => exact cells_one rx
        case c3 => unfold maxLen; omega
        case c4 => omega
        case c5 => have := hbw.size; have := hR.size; omega
        intro v5 w5 hown5 hg5 _
        have b14 := hbw.trans (hR.mono hbw.size)
        have b5 : Below w1.heap.size w1 w5 := b14.grown hg5 b14.size (fun k hk => ((unhide Hown4).lt k hk).1)
        have Hown5 := hide hown5
        clear hown5 hg5
        go_wp2
        go_roundw
        case rel =>
          refine ⟨i + 1, by go_num, by omega, by omega, b5, ?_⟩
          rw [unhide HS, cellsOf_append, List.length_append, unhide Hlen, unhide HIq]
          exact unhide Hown5
        case measure =>
          simp only [intOf]
          omega
    · have hlen : (G.take i).length = G.length := by rw [List.length_take, unhide HL]; omega
      have htake : G.take i = G := List.take_of_length_le (by rw [unhide HL]; omega)
      rw [htake] at hown
      obtain ⟨ao', cap', rfl, hrow⟩ := rowV_own hown
      have hG8 : G.length ≤ 8 := by rw [unhide HL]; omega
      have ST := r3set_plain G ao' cap' wr (by omega) hrow (unhide HK)
      have hS8 := len_setOf_le G
      have hcv : ∀ o, wr.cell? ⟨w.heap.size + 1, o, none⟩ = w1.cell? ⟨w.heap.size + 1, o, none⟩ := fun o => hbw.cell (p := ⟨w.heap.size + 1, o, none⟩) L1
      have hfv : ∀ o, wr.frozen? ⟨w.heap.size + 1, o, none⟩ = w1.frozen? ⟨w.heap.size + 1, o, none⟩ := fun o => hbw.frozen (p := ⟨w.heap.size + 1, o, none⟩) L1
      have Hcv := hide hcv
      have Hfv := hide hfv
      have HG8 := hide hG8
      have HS8 := hide hS8
      have b1r := b2.trans (hbw.mono b2.size)
      have lw : w.heap.size + 1 < wr.heap.size := by have := hbw.size; omega
      clear hown hrow hlen htake hcv hfv hG8 hS8 hs x0 x3
      by_cases hei : i < es.length
      · have i1 : (i : Int) < (es.length : Int) := by omega
        have i2 : ¬ (i : Int) < 8 := by omega
        clear hlt
        go_wp2_with fail
        refine ST.mono ?_
        clear ST
        rintro e w3 ⟨b3, h3⟩
        rcases h3 with ⟨_, ao2, c2, rfl, hown2⟩ | ⟨h, _⟩
        rotate_left
        · have := unhide HS8
          have := unhide HG8
          omega
        obtain ⟨n, hn⟩ : ∃ n, n = (setOf lessP G).length := ⟨_, rfl⟩
        rw [← hn] at hown2 ⊢
        have Hn := hide hn
        clear hn
        have hc : ∀ o, w3.cell? ⟨w.heap.size + 1, o, none⟩ = w1.cell? ⟨w.heap.size + 1, o, none⟩ := fun o => (b3.cell (p := ⟨w.heap.size + 1, o, none⟩) lw).trans (unhide Hcv o)
        have hf : ∀ o, w3.frozen? ⟨w.heap.size + 1, o, none⟩ = w1.frozen? ⟨w.heap.size + 1, o, none⟩ := fun o => (b3.frozen (p := ⟨w.heap.size + 1, o, none⟩) lw).trans (unhide Hfv o)
        rw [← unhide Hw2] at hc hf
        have hc4 : ∀ o, (w3.alloc (.cells #[.int .i64 5, .bool false, .int .i64 0, .string (ba []), .string (ba []), .string (ba []), .slice ao2 n c2] 31)).cell? ⟨w.heap.size + 1, o, none⟩ = w3.cell? ⟨w.heap.size + 1, o, none⟩ := fun o => (below1 w3 _).cell (p := ⟨w.heap.size + 1, o, none⟩) (Nat.lt_of_lt_of_le lw b3.size)
        have hf4 : ∀ o, (w3.alloc (.cells #[.int .i64 5, .bool false, .int .i64 0, .string (ba []), .string (ba []), .string (ba []), .slice ao2 n c2] 31)).frozen? ⟨w.heap.size + 1, o, none⟩ = w3.frozen? ⟨w.heap.size + 1, o, none⟩ := fun o => (below1 w3 _).frozen (p := ⟨w.heap.size + 1, o, none⟩) (Nat.lt_of_lt_of_le lw b3.size)
        have b4 := (b1r.trans (b3.mono b1r.size)).alloc (Nat.le_trans b1r.size b3.size) (.cells #[.int .i64 5, .bool false, .int .i64 0, .string (ba []), .string (ba []), .string (ba []), .slice ao2 n c2] 31)
        have Hown4 := hide (hown2.alloc (.cells #[.int .i64 5, .bool false, .int .i64 0, .string (ba []), .string (ba []), .string (ba []), .slice ao2 n c2] 31))
        clear hown2
        unfold setR R7.val
        simp only
        go_upto_region 10 with fail
        have A4 := at7_new w3 (setR ao2 n c2)
        have hc5 := fun o => (hc4 o).trans (hc o)
        have hf5 := fun o => (hf4 o).trans (hf o)
        unfold setR at A4
        obtain ⟨a0, a1, a2, a3, a4, a5, a6⟩ := A4
        simp only [Nat.zero_add] at a0 a1 a2 a3 a4 a5 a6
        clear hc4 hf4 hc hf
        generalize w3.alloc _ = w4 at *
        go_wp2
        refine bodyPost_ret (v := .agg #[.int .i64 5, .bool false, .int .i64 0, .string (ba []), .string (ba []), .string (ba []), .slice ao2 n c2]) (by simp [results, Tryz.results5, go_sem, hc5]) rfl ⟨set7_below b4 (Nat.le_succ _) _ _ _ _ _ _ _, ao2, c2, by rw [← unhide Hn]; rfl, ?_⟩
        have hfin := own_set7 (unhide Hown4) lw (.int .i64 5) (.bool false) (.int .i64 0) (.string (ba [])) (.string (ba [])) (.string (ba [])) (.slice ao2 n c2)
        rw [unhide Hn] at hfin
        have hoff := own_at hfin
        obtain ⟨ao3, c3, e3, hrow3⟩ := rowV_own hfin
        have hcap : (setOf lessP G).length ≤ c2 := by
          rcases hfin.2 with ⟨hv, h0⟩ | ⟨g, cap, cur, hv, _, _, hc, _⟩
          · rw [h0]
            exact Nat.zero_le _
          · cases hv
            exact hc
        cases e3
        rw [unhide Hn]
        exact ⟨hrow3, fun ad e => (hoff ad e).2.1, hcap⟩
      · have i1 : ¬ (i : Int) < (es.length : Int) := by omega
        clear hlt
        go_wp2_with fail
        refine ST.mono ?_
        clear ST
        rintro e w3 ⟨b3, h3⟩
        rcases h3 with ⟨_, ao2, c2, rfl, hown2⟩ | ⟨h, _⟩
        rotate_left
        · have := unhide HS8
          have := unhide HG8
          omega
        obtain ⟨n, hn⟩ : ∃ n, n = (setOf lessP G).length := ⟨_, rfl⟩
        rw [← hn] at hown2 ⊢
        have Hn := hide hn
        clear hn
        have hc : ∀ o, w3.cell? ⟨w.heap.size + 1, o, none⟩ = w1.cell? ⟨w.heap.size + 1, o, none⟩ := fun o => (b3.cell (p := ⟨w.heap.size + 1, o, none⟩) lw).trans (unhide Hcv o)
        have hf : ∀ o, w3.frozen? ⟨w.heap.size + 1, o, none⟩ = w1.frozen? ⟨w.heap.size + 1, o, none⟩ := fun o => (b3.frozen (p := ⟨w.heap.size + 1, o, none⟩) lw).trans (unhide Hfv o)
        rw [← unhide Hw2] at hc hf
        have hc4 : ∀ o, (w3.alloc (.cells #[.int .i64 5, .bool false, .int .i64 0, .string (ba []), .string (ba []), .string (ba []), .slice ao2 n c2] 31)).cell? ⟨w.heap.size + 1, o, none⟩ = w3.cell? ⟨w.heap.size + 1, o, none⟩ := fun o => (below1 w3 _).cell (p := ⟨w.heap.size + 1, o, none⟩) (Nat.lt_of_lt_of_le lw b3.size)
        have hf4 : ∀ o, (w3.alloc (.cells #[.int .i64 5, .bool false, .int .i64 0, .string (ba []), .string (ba []), .string (ba []), .slice ao2 n c2] 31)).frozen? ⟨w.heap.size + 1, o, none⟩ = w3.frozen? ⟨w.heap.size + 1, o, none⟩ := fun o => (below1 w3 _).frozen (p := ⟨w.heap.size + 1, o, none⟩) (Nat.lt_of_lt_of_le lw b3.size)
        have b4 := (b1r.trans (b3.mono b1r.size)).alloc (Nat.le_trans b1r.size b3.size) (.cells #[.int .i64 5, .bool false, .int .i64 0, .string (ba []), .string (ba []), .string (ba []), .slice ao2 n c2] 31)
        have Hown4 := hide (hown2.alloc (.cells #[.int .i64 5, .bool false, .int .i64 0, .string (ba []), .string (ba []), .string (ba []), .slice ao2 n c2] 31))
        clear hown2
        unfold setR R7.val
        simp only
        go_upto_region 10 with fail
        have A4 := at7_new w3 (setR ao2 n c2)
        have hc5 := fun o => (hc4 o).trans (hc o)
        have hf5 := fun o => (hf4 o).trans (hf o)
        unfold setR at A4
        obtain ⟨a0, a1, a2, a3, a4, a5, a6⟩ := A4
        simp only [Nat.zero_add] at a0 a1 a2 a3 a4 a5 a6
        clear hc4 hf4 hc hf
        generalize w3.alloc _ = w4 at *
        go_wp2
        refine bodyPost_ret (v := .agg #[.int .i64 5, .bool false, .int .i64 0, .string (ba []), .string (ba []), .string (ba []), .slice ao2 n c2]) (by simp [results, Tryz.results5, go_sem, hc5]) rfl ⟨set7_below b4 (Nat.le_succ _) _ _ _ _ _ _ _, ao2, c2, by rw [← unhide Hn]; rfl, ?_⟩
        have hfin := own_set7 (unhide Hown4) lw (.int .i64 5) (.bool false) (.int .i64 0) (.string (ba [])) (.string (ba [])) (.string (ba [])) (.slice ao2 n c2)
        rw [unhide Hn] at hfin
        have hoff := own_at hfin
        obtain ⟨ao3, c3, e3, hrow3⟩ := rowV_own hfin
        have hcap : (setOf lessP G).length ≤ c2 := by
          rcases hfin.2 with ⟨hv, h0⟩ | ⟨g, cap, cur, hv, _, _, hc, _⟩
          · rw [h0]
            exact Nat.zero_le _
          · cases hv
            exact hc
        cases e3
        rw [unhide Hn]
        exact ⟨hrow3, fun ad e => (hoff ad e).2.1, hcap⟩
end Go.Proofs.YtbbongdnnmanlaaGreat

namespace Go.Proofs.YtbbongdnnmanlaaGreat
open Go.RowKit Go.Sort

set_option maxHeartbeats 4000000 in
set_option maxRecDepth 1000000 in
theorem good3_plain (r : RawE) (lo : Option Addr) (ll lc : Nat) (w : World) (hr : r.Ok w) (p : Nat) (hp1 : 1 ≤ p) (hp4 : p ≤ 4) (hp : 1 + r.k % 5 = (p : Int)) :
    Calls Tryz.prog 5 #[.agg #[.int .i64 r.k, .int .i64 r.n, .slice r.so r.xs.length r.sc, .slice lo ll lc]] w fun e w' => Below w.heap.size w w' ∧ e = .returned (ofP (plainV p r.n r.xs)).val := by
  have W1 := within3_any r.k 5 (by decide) (by decide)
  have hp5 : (p : Int) < 5 := by omega
  have PL0 := fun w' hz => plain3_any p hp1 hp4 r.k r.n r.xs r.so r.sc lo ll lc w' hr.len hr.cap hz
  obtain ⟨x, hx⟩ : ∃ x, x = ofP (plainV p r.n r.xs) := ⟨_, rfl⟩
  rw [← hx] at PL0 ⊢
  clear hx
  go_enter Tryz.func5, Tryz.ntmps5
  go_wp2_with fail
  have b2 := below2 w (.cells #[.int .i64 r.k, .int .i64 r.n, .slice r.so r.xs.length r.sc, .slice lo ll lc] 25) (.cells #[.int .i64 0, .bool false, .int .i64 0, .string ⟨#[]⟩, .string ⟨#[]⟩, .string ⟨#[]⟩, .slice none 0 0] 31)
  have PL := PL0 _ (hr.ints.below b2)
  clear PL0
  generalize hw2 : (w.alloc (.cells #[.int .i64 r.k, .int .i64 r.n, .slice r.so r.xs.length r.sc, .slice lo ll lc] 25)).alloc (.cells #[.int .i64 0, .bool false, .int .i64 0, .string ⟨#[]⟩, .string ⟨#[]⟩, .string ⟨#[]⟩, .slice none 0 0] 31) = w2 at *
  have Z2 := hide (show w2.heap.size = w.heap.size + 2 by rw [← hw2]; simp)
  have x0 : w2.cell? ⟨w.heap.size, 0, none⟩ = some (.int .i64 r.k) := by rw [← hw2]; simp
  have x1 : w2.cell? ⟨w.heap.size, 1, none⟩ = some (.int .i64 r.n) := by rw [← hw2]; simp
  have x2 : w2.cell? ⟨w.heap.size, 2, none⟩ = some (.slice r.so r.xs.length r.sc) := by rw [← hw2]; simp
  have x3 : w2.cell? ⟨w.heap.size, 3, none⟩ = some (.slice lo ll lc) := by rw [← hw2]; simp
  have Hw2 := hide hw2
  clear hw2
  refine (W1 _).mono ?_
  rintro e w1 ⟨rfl, rfl⟩
  clear W1
  go_wp2_with fail
  refine PL.mono ?_
  clear PL
  rintro e w3 ⟨rfl, b3⟩
  have hc : ∀ o, w3.cell? ⟨w.heap.size + 1, o, none⟩ = w1.cell? ⟨w.heap.size + 1, o, none⟩ := fun o => b3.cell (p := ⟨w.heap.size + 1, o, none⟩) (by have := unhide Z2; show w.heap.size + 1 < _; omega)
  have hf : ∀ o, w3.frozen? ⟨w.heap.size + 1, o, none⟩ = w1.frozen? ⟨w.heap.size + 1, o, none⟩ := fun o => b3.frozen (p := ⟨w.heap.size + 1, o, none⟩) (by have := unhide Z2; show w.heap.size + 1 < _; omega)
  rw [← unhide Hw2] at hc hf
  have b03 := b2.trans (b3.mono b2.size)
  clear x0 x1 x2 x3 b3
  unfold R7.val
  go_wp2
  exact bodyPost_ret (v := .agg #[.int .i64 x.k, .bool x.b, .int .i64 x.n, .string x.s, .string x.t, .string x.i, .slice x.lo x.ll x.lc]) (by simp [results, Tryz.results5, go_sem, hc]) rfl ⟨set7_below b03 (Nat.le_succ _) _ _ _ _ _ _ _, rfl⟩

/-- What Good makes. -/
def goodG (r : RawE) (es : List RawE) : GV := if r.k % 5 = 4 then .set (setOf lessP (goodL r.k es)) else .pl (plainV (1 + r.k % 5).toNat r.n r.xs)

/-- .. and there is room for what it has. -/
theorem good3_cap (r : RawE) (lo : Option Addr) (es : List RawE) (lc : Nat) (w : World) (hr : r.Ok w) (hl : es.length ≤ 9223372036854775807) (hs : RowRaw w lo es) :
    Calls Tryz.prog 5 #[.agg #[.int .i64 r.k, .int .i64 r.n, .slice r.so r.xs.length r.sc, .slice lo es.length lc]] w fun e w' => Below w.heap.size w w' ∧ ∃ R, e = .returned R.val ∧ IsG w' (goodG r es) R ∧ R.ll ≤ R.lc := by
  have h0 := Int.emod_nonneg r.k (show (5 : Int) ≠ 0 by decide)
  have h1 := Int.emod_lt_of_pos r.k (show (0 : Int) < 5 by decide)
  unfold goodG
  by_cases h5 : r.k % 5 = 4
  · rw [if_pos h5]
    refine (good3_set r lo es lc w hl hs h5).mono ?_
    rintro e w' ⟨hb, ao, c, he, hrow, ho, hc⟩
    exact ⟨hb, _, he, ⟨ao, c, rfl, hrow, ho⟩, hc⟩
  · rw [if_neg h5]
    refine (good3_plain r lo es.length lc w hr (1 + r.k % 5).toNat (by omega) (by omega) (by omega)).mono ?_
    rintro e w' ⟨hb, he⟩
    exact ⟨hb, _, he, rfl, by generalize plainV _ _ _ = p; cases p <;> exact Nat.le_refl _⟩
theorem good3_any (r : RawE) (lo : Option Addr) (es : List RawE) (lc : Nat) (w : World) (hr : r.Ok w) (hl : es.length ≤ 9223372036854775807) (hs : RowRaw w lo es) :
    Calls Tryz.prog 5 #[.agg #[.int .i64 r.k, .int .i64 r.n, .slice r.so r.xs.length r.sc, .slice lo es.length lc]] w fun e w' => Below w.heap.size w w' ∧ ∃ R, e = .returned R.val ∧ IsG w' (goodG r es) R :=
  (good3_cap r lo es lc w hr hl hs).mono fun _ _ ⟨hb, R, he, hg, _⟩ => ⟨hb, R, he, hg⟩
end Go.Proofs.YtbbongdnnmanlaaGreat

namespace Go.Proofs.YtbbongdnnmanlaaGreat
open Go.RowKit Go.Sort

def cmpG : GV → GV → Int
  | .pl a, .pl b => cmpP a b
  | .pl a, .set _ => cmpI a.kind 5
  | .set _, .pl b => cmpI 5 b.kind
  | .set l, .set m => cmpL l m

def smallG : GV → Prop
  | .pl _ => True
  | .set l => l.length ≤ 1048576

theorem cmpP_cases (a b : PV) : (lessP a b = true ∧ cmpP a b = -1 ∧ lessP b a = false ∧ a ≠ b) ∨ (a = b ∧ cmpP a b = 0) ∨ (lessP b a = true ∧ cmpP a b = 1 ∧ lessP a b = false ∧ a ≠ b) := by
  have hn : ∀ {p q : PV}, lessP p q = true → p ≠ q := fun h e => by rw [e, sto_lessP.irr] at h; cases h
  have ha : ∀ {p q : PV}, lessP p q = true → lessP q p = false := fun {p q} h => by
    cases h' : lessP q p
    · rfl
    · have := sto_lessP.trans _ _ _ h h'
      rw [sto_lessP.irr] at this
      cases this
  rcases sto_lessP.tri a b with h | h | h
  · exact .inl ⟨h, by simp [cmpP, h], ha h, hn h⟩
  · subst h
    exact .inr (.inl ⟨rfl, by simp [cmpP, sto_lessP.irr]⟩)
  · exact .inr (.inr ⟨h, by simp [cmpP, h, ha h], ha h, fun e => hn h e.symm⟩)

theorem cmpL_less : ∀ l m : List PV, decide (cmpL l m < 0) = lexL lessP l m
  | [], [] => rfl
  | [], _ :: _ => rfl
  | _ :: _, [] => rfl
  | a :: l, b :: m => by
    have ih := cmpL_less l m
    rcases cmpP_cases a b with ⟨h1, h2, h3, _⟩ | ⟨rfl, h2⟩ | ⟨h1, h2, h3, _⟩
    · simp [cmpL, lexL, h1, h2]
    · simp [cmpL, lexL, h2, sto_lessP.irr, ← ih]
    · simp [cmpL, lexL, h1, h2, h3]

theorem cmpL_same : ∀ l m : List PV, (cmpL l m == 0) = decide (l = m)
  | [], [] => rfl
  | [], _ :: _ => rfl
  | _ :: _, [] => rfl
  | a :: l, b :: m => by
    have ih := cmpL_same l m
    rcases cmpP_cases a b with ⟨_, h2, _, h⟩ | ⟨rfl, h2⟩ | ⟨_, h2, _, h⟩
    · simp [cmpL, h2, h]
    · simpa [cmpL, h2] using ih
    · simp [cmpL, h2, h]

theorem kind_le (p : PV) : (p.kind : Int) < 5 := by cases p <;> simp [PV.kind]

theorem cmpG_less (g h : GV) : decide (cmpG g h < 0) = lessG g h := by
  cases g with
  | pl a => cases h with
    | pl b => exact less_cmp a b
    | set m =>
      have := kind_le a
      simp [cmpG, lessG, cmpI, this]
  | set l => cases h with
    | pl b =>
      have := kind_le b
      have h2 : ¬ (5 : Int) < (b.kind : Int) := by omega
      simp [cmpG, lessG, cmpI, this, h2]
    | set m => exact cmpL_less l m

/-- Alike. -/
def sameG (g h : GV) : Bool := cmpG g h == 0

theorem sameG_iff (g h : GV) : sameG g h = true ↔ g = h := by
  unfold sameG
  cases g with
  | pl a => cases h with
    | pl b =>
      have := same_cmp a b
      show (cmpP a b == 0) = true ↔ _
      rw [this]
      simp
    | set m =>
      have := kind_le a
      simp [cmpG, cmpI, this]
  | set l => cases h with
    | pl b =>
      have := kind_le b
      have h2 : ¬ (5 : Int) < (b.kind : Int) := by omega
      simp [cmpG, cmpI, this, h2]
    | set m =>
      have := cmpL_same l m
      show (cmpL l m == 0) = true ↔ _
      rw [this]
      simp

theorem compare_G (g h : GV) (R R' : R7) (w : World) (hg : IsG w g R) (hh : IsG w h R') (sg : smallG g) (sh : smallG h) :
    Calls Tryz.prog 45 #[R.val, R'.val] w fun e w' => e = .returned (.int .i64 (cmpG g h)) ∧ Below w.heap.size w w' := by
  cases g with
  | pl a => cases h with
    | pl b =>
      cases hg
      cases hh
      exact compare_ofP a b w
    | set m =>
      cases hg
      obtain ⟨ao, c, rfl, _⟩ := hh
      have h5 := kind_le a
      have := compare_kinds (ofP a).k (ofP a).b (ofP a).n (ofP a).s (ofP a).t (ofP a).i (.slice (ofP a).lo (ofP a).ll (ofP a).lc) 5 false 0 (ba []) (ba []) (ba []) (.slice ao m.length c) (by rw [ofP_k]; omega) w
      rw [ofP_k] at this
      have e : (ofP a).val = val7 (a.kind : Int) (ofP a).b (ofP a).n (ofP a).s (ofP a).t (ofP a).i (.slice (ofP a).lo (ofP a).ll (ofP a).lc) := by rw [← ofP_k]; rfl
      rw [e]
      exact this
  | set l => cases h with
    | pl b =>
      cases hh
      obtain ⟨ao, c, rfl, _⟩ := hg
      have h5 := kind_le b
      have := compare_kinds 5 false 0 (ba []) (ba []) (ba []) (.slice ao l.length c) (ofP b).k (ofP b).b (ofP b).n (ofP b).s (ofP b).t (ofP b).i (.slice (ofP b).lo (ofP b).ll (ofP b).lc) (by rw [ofP_k]; omega) w
      rw [ofP_k] at this
      have e : (ofP b).val = val7 (b.kind : Int) (ofP b).b (ofP b).n (ofP b).s (ofP b).t (ofP b).i (.slice (ofP b).lo (ofP b).ll (ofP b).lc) := by rw [← ofP_k]; rfl
      rw [e]
      exact this
    | set m =>
      obtain ⟨ao, c, rfl, h1, _⟩ := hg
      obtain ⟨bo, d, rfl, h2, _⟩ := hh
      exact compare_sets l m ao bo c d w sg sh h1 h2

theorem same_G (g h : GV) (R R' : R7) (w : World) (hg : IsG w g R) (hh : IsG w h R') (sg : smallG g) (sh : smallG h) :
    Calls Tryz.prog 38 #[R.val, R'.val] w fun e w' => e = .returned (.bool (sameG g h)) ∧ Below w.heap.size w w' := by
  exact same_of R R' (cmpG g h) w (fun w' hb => compare_G g h R R' w' (hg.below hb) (hh.below hb) sg sh)

theorem smallG_good (r : RawE) (es : List RawE) : smallG (goodG r es) := by
  unfold goodG
  split
  · show (setOf lessP (goodL r.k es)).length ≤ 1048576
    have h1 := len_setOf_le (goodL r.k es)
    rw [goodL_len] at h1
    omega
  · trivial
end Go.Proofs.YtbbongdnnmanlaaGreat

namespace Go.Proofs.YtbbongdnnmanlaaGreat
open Go.RowKit Go.Sort

def hasG (l : List PV) (q : GV) : Bool := l.any fun p => sameG (.pl p) q
theorem hasG_cons (l : List PV) (q : GV) (j : Nat) (h : j < l.length) : hasG (l.drop j) q = (sameG (.pl l[j]) q || hasG (l.drop (j + 1)) q) := by
  unfold hasG
  rw [List.drop_eq_getElem_cons h, List.any_cons]

set_option maxHeartbeats 1000000 in
set_option maxRecDepth 1000000 in
theorem holdsFn_G (p : PV) (q : GV) (R : R7) (vb : Nat) (w : World) (hvb : vb < w.heap.size) (A : At7 w vb 0 R) (hq : IsG w q R) (sq : smallG q) :
    Calls Tryz.prog 57 #[(ofP p).val, .pointer (some ⟨vb, 0, none⟩)] w fun e w' => e = .returned (.bool (sameG (.pl p) q)) ∧ Below w.heap.size w w' := by
  have S := fun w' (hb : Below w.heap.size w w') => same_G (.pl p) q (ofP p) R w' rfl (hq.below hb) trivial sq
  generalize sameG (.pl p) q = x at *
  clear hq sq
  generalize ofP p = r at *
  unfold R7.val at *
  have b1 := below1 w (.cells #[.int .i64 r.k, .bool r.b, .int .i64 r.n, .string r.s, .string r.t, .string r.i, .slice r.lo r.ll r.lc] 31)
  obtain ⟨a0, a1, a2, a3, a4, a5, a6⟩ := A
  simp only [Nat.zero_add] at a1 a2 a3 a4 a5 a6
  go_enter Tryz.func57, Tryz.ntmps57
  go_wp2_with fail
  refine (S _ b1).mono ?_
  rintro e w2 ⟨rfl, b2⟩
  go_wp2
  go_ret
  exact ⟨rfl, b1.trans (b2.mono b1.size)⟩

set_option maxHeartbeats 2000000 in
set_option maxRecDepth 1000000 in
theorem indexFunc_G (l : List PV) (q : GV) (R : R7) (ao : Option Addr) (c vb : Nat) (w : World) (hl : l.length ≤ 1048576) (hr : RowV w ao (l.map ofP)) (hvb : vb < w.heap.size) (A : At7 w vb 0 R) (hq : IsG w q R) (sq : smallG q) :
    Calls Tryz.prog 71 #[.slice ao l.length c, .func (.func 57) #[] #[.pointer (some ⟨vb, 0, none⟩)]] w fun e w' => ∃ i : Int, e = .returned (.int .i64 i) ∧ (0 ≤ i ↔ hasG l q = true) ∧ Below w.heap.size w w' := by
  have HQ := hide hq
  have HS := hide sq
  clear hq sq
  go_enter Tryz.func71, Tryz.ntmps71
  go_wp2
  go_loopw [8] (fun iv wr => ∃ i : Nat, iv = .int .i64 i ∧ i ≤ l.length ∧ Below w.heap.size w wr ∧ (hasG l q = hasG (l.drop i) q)) (fun iv _ => l.length - (intOf iv).toNat)
  case atStart => exact ⟨0, by go_num, Nat.zero_le _, Below.refl _ _, by simp⟩
  case round =>
    obtain ⟨j, rfl, hj, hbw, hacc⟩ := hrel
    have Hacc := hide hacc
    clear hacc
    by_cases hlt : j < l.length
    · have i1 : (j : Int) < (l.length : Int) := by omega
      obtain ⟨b, off, rfl, B, hb⟩ := rowV_at hr hbw (j := j) (by rw [List.length_map]; exact hlt)
      rw [List.getElem_map] at B
      have F := holdsFn_G l[j] q R vb wr (by have := hbw.size; omega) (A.below hbw hvb) ((unhide HQ).below hbw) (unhide HS)
      have HC := hide (hasG_cons l q j hlt)
      obtain ⟨p, ep⟩ : ∃ p, p = l[j] := ⟨_, rfl⟩
      rw [← ep] at B F HC
      clear ep
      obtain ⟨x, hx⟩ : ∃ x, x = sameG (.pl p) q := ⟨_, rfl⟩
      rw [← hx] at F HC
      clear hx
      generalize ofP p = r at *
      unfold R7.val at F
      obtain ⟨a0, a1, a2, a3, a4, a5, a6⟩ := B
      go_wp2_with fail
      refine F.mono ?_
      rintro e w2 ⟨rfl, b2⟩
      have b3 := hbw.trans (b2.mono hbw.size)
      clear F
      cases x
      · go_wp2
        go_roundw
        case rel => exact ⟨j + 1, by go_num, by omega, b3, by rw [unhide Hacc, unhide HC]; rfl⟩
        case measure =>
          simp only [intOf]
          omega
      · go_wp2
        go_ret
        exact ⟨j, rfl, ⟨fun _ => by rw [unhide Hacc, unhide HC]; rfl, fun _ => by omega⟩, b3⟩
    · have i1 : ¬ (j : Int) < (l.length : Int) := by omega
      go_wp2
      go_ret
      refine ⟨-1, rfl, ⟨fun h => absurd h (by decide), fun h => ?_⟩, hbw⟩
      rw [unhide Hacc, List.drop_eq_nil_of_le (by omega)] at h
      cases h

set_option maxHeartbeats 2000000 in
set_option maxRecDepth 1000000 in
theorem containsFunc_G (l : List PV) (q : GV) (R : R7) (ao : Option Addr) (c vb : Nat) (w : World) (hl : l.length ≤ 1048576) (hr : RowV w ao (l.map ofP)) (hvb : vb < w.heap.size) (A : At7 w vb 0 R) (hq : IsG w q R) (sq : smallG q) :
    Calls Tryz.prog 56 #[.slice ao l.length c, .func (.func 57) #[] #[.pointer (some ⟨vb, 0, none⟩)]] w fun e w' => e = .returned (.bool (hasG l q)) ∧ Below w.heap.size w w' := by
  have I := indexFunc_G l q R ao c vb w hl hr hvb A hq sq
  clear hq sq
  go_enter Tryz.func56, Tryz.ntmps56
  go_wp2_with fail
  refine I.mono ?_
  rintro e w2 ⟨i, rfl, hi, b2⟩
  have Hi := hide hi
  clear hi I
  go_wp2
  go_ret
  refine ⟨?_, b2⟩
  have h := unhide Hi
  cases hx : hasG l q with
  | true =>
    have : 0 ≤ i := h.2 hx
    simp [this]
  | false =>
    have : ¬ 0 ≤ i := fun h0 => by rw [h.1 h0] at hx; cases hx
    simp [this]

set_option maxHeartbeats 2000000 in
set_option maxRecDepth 1000000 in
theorem holds_G (l : List PV) (q : GV) (r : R7) (ao : Option Addr) (c : Nat) (w : World) (hl : l.length ≤ 1048576) (hr : RowV w ao (l.map ofP)) (hq : IsG w q r) (sq : smallG q) :
    Calls Tryz.prog 36 #[(setR ao l.length c).val, r.val] w fun e w' => e = .returned (.bool (hasG l q)) ∧ Below w.heap.size w w' := by
  have C := contentOf_set ao l.length c
  have CF := fun vb w hr hvb A hq => containsFunc_G l q r ao c vb w hl hr hvb A hq sq
  have HQ := hide hq
  generalize hx : hasG l q = x at *
  clear hx hq sq
  obtain ⟨n, en⟩ : ∃ n, n = l.length := ⟨_, rfl⟩
  rw [← en] at C CF ⊢
  have T := ta_set
  have Hn := hide en
  clear en
  unfold setR R7.val
  unfold val7 conS at C
  go_enter Tryz.func36, Tryz.ntmps36
  go_wp2_with fail
  have b1 := below2 w (.cells #[.int .i64 5, .bool false, .int .i64 0, .string (ba []), .string (ba []), .string (ba []), .slice ao n c] 31) (.cells #[.int .i64 r.k, .bool r.b, .int .i64 r.n, .string r.s, .string r.t, .string r.i, .slice r.lo r.ll r.lc] 31)
  have A2 : At7 ((w.alloc (.cells #[.int .i64 5, .bool false, .int .i64 0, .string (ba []), .string (ba []), .string (ba []), .slice ao n c] 31)).alloc (.cells #[.int .i64 r.k, .bool r.b, .int .i64 r.n, .string r.s, .string r.t, .string r.i, .slice r.lo r.ll r.lc] 31)) (w.heap.size + 1) 0 r := by
    have := at7_new (w.alloc (.cells #[.int .i64 5, .bool false, .int .i64 0, .string (ba []), .string (ba []), .string (ba []), .slice ao n c] 31)) r
    rwa [size1] at this
  have z2 : ((w.alloc (.cells #[.int .i64 5, .bool false, .int .i64 0, .string (ba []), .string (ba []), .string (ba []), .slice ao n c] 31)).alloc (.cells #[.int .i64 r.k, .bool r.b, .int .i64 r.n, .string r.s, .string r.t, .string r.i, .slice r.lo r.ll r.lc] 31)).heap.size = w.heap.size + 2 := by simp
  refine (C _).mono ?_
  generalize (w.alloc _).alloc _ = w2 at *
  rintro e w3 ⟨rfl, b23⟩
  have b3 := b1.trans (b23.mono b1.size)
  have A3 := A2.below b23 (by omega)
  have z3 : w.heap.size + 1 < w3.heap.size := by have := b23.size; omega
  have CF3 := CF (w.heap.size + 1) w3 (hr.below b3) z3 A3 ((unhide HQ).below b3)
  clear CF C A2 A3
  go_wp2_with fail
  refine CF3.mono ?_
  rintro e w4 ⟨rfl, b34⟩
  go_wp2
  go_ret
  exact ⟨rfl, b3.trans (b34.mono b3.size)⟩
end Go.Proofs.YtbbongdnnmanlaaGreat
