/-
  value.Same and Less of plain values; value.Holds.
  slices.IndexFunc, slices.ContainsFunc, value.Holds of sets of plain values.
  value.compare of sets of plain values.
-/
import Derived.Test.YtakolbijajlhkaaGreatVcEM
import Derived.Deep.Cut
namespace Go.Proofs.YtakolbijajlhkaaGreat
open Go.RowKit Go.Sort

theorem compare_ofP (p q : PV) (w : World) :
    Calls Tryz.prog 41 #[(ofP p).val, (ofP q).val] w fun e w' => e = .returned (.int .i64 (cmpP p q)) ∧ Below w.heap.size w w' := by
  rw [ofP_val, ofP_val]
  exact compare_plain p q none none 0 0 0 0 w

set_option maxHeartbeats 1000000 in
set_option maxRecDepth 1000000 in
/-- Same, out of what compare tells. -/
theorem same_of (r r' : R7) (x : Int) (w : World) (C : ∀ w', Below w.heap.size w w' → Calls Tryz.prog 41 #[r.val, r'.val] w' fun e w'' => e = .returned (.int .i64 x) ∧ Below w'.heap.size w' w'') :
    Calls Tryz.prog 34 #[r.val, r'.val] w fun e w' => e = .returned (.bool (x == 0)) ∧ Below w.heap.size w w' := by
  unfold R7.val at *
  go_enter Tryz.func34, Tryz.ntmps34
  go_wp2_with fail
  have b1 := below2 w (.cells #[.int .i64 r.k, .bool r.b, .int .i64 r.n, .string r.s, .string r.t, .string r.i, .slice r.lo r.ll r.lc] 37) (.cells #[.int .i64 r'.k, .bool r'.b, .int .i64 r'.n, .string r'.s, .string r'.t, .string r'.i, .slice r'.lo r'.ll r'.lc] 37)
  refine (C _ b1).mono ?_
  rintro e w2 ⟨rfl, b2⟩
  go_wp2
  go_ret
  exact ⟨rfl, b1.trans (b2.mono b1.size)⟩

theorem same_plain (p q : PV) (w : World) :
    Calls Tryz.prog 34 #[(ofP p).val, (ofP q).val] w fun e w' => e = .returned (.bool (decide (p = q))) ∧ Below w.heap.size w w' := by
  rw [← same_cmp]
  exact same_of _ _ _ w fun w' _ => compare_ofP p q w'

set_option maxHeartbeats 1000000 in
set_option maxRecDepth 1000000 in
theorem holdsFn_plain (p q : PV) (vb : Nat) (w : World) (hvb : vb < w.heap.size) (A : At7 w vb 0 (ofP q)) :
    Calls Tryz.prog 53 #[(ofP p).val, .pointer (some ⟨vb, 0, none⟩)] w fun e w' => e = .returned (.bool (decide (p = q))) ∧ Below w.heap.size w w' := by
  have S := same_plain p q
  generalize decide (p = q) = x at *
  generalize ofP p = r at *
  generalize ofP q = r' at *
  unfold R7.val at *
  have b1 := below1 w (.cells #[.int .i64 r.k, .bool r.b, .int .i64 r.n, .string r.s, .string r.t, .string r.i, .slice r.lo r.ll r.lc] 37)
  obtain ⟨a0, a1, a2, a3, a4, a5, a6⟩ := A
  simp only [Nat.zero_add] at a1 a2 a3 a4 a5 a6
  go_enter Tryz.func53, Tryz.ntmps53
  go_wp2_with fail
  refine (S _).mono ?_
  rintro e w2 ⟨rfl, b2⟩
  go_wp2
  go_ret
  exact ⟨rfl, b1.trans (b2.mono b1.size)⟩
end Go.Proofs.YtakolbijajlhkaaGreat

namespace Go.Proofs.YtakolbijajlhkaaGreat
open Go.RowKit Go.Sort

set_option maxHeartbeats 2000000 in
set_option maxRecDepth 1000000 in
theorem indexFunc_plain (l : List PV) (q : PV) (ao : Option Addr) (c vb : Nat) (w : World) (hl : l.length ≤ 1048576) (hr : RowV w ao (l.map ofP)) (hvb : vb < w.heap.size) (A : At7 w vb 0 (ofP q)) :
    Calls Tryz.prog 67 #[.slice ao l.length c, .func (.func 53) #[] #[.pointer (some ⟨vb, 0, none⟩)]] w fun e w' => ∃ i : Int, e = .returned (.int .i64 i) ∧ (0 ≤ i ↔ q ∈ l) ∧ Below w.heap.size w w' := by
  go_enter Tryz.func67, Tryz.ntmps67
  go_wp2
  go_loopw [8] (fun iv wr => ∃ i : Nat, iv = .int .i64 i ∧ i ≤ l.length ∧ Below w.heap.size w wr ∧ (q ∈ l ↔ q ∈ l.drop i)) (fun iv _ => l.length - (intOf iv).toNat)
  case atStart => exact ⟨0, by go_num, Nat.zero_le _, Below.refl _ _, by simp⟩
  case round =>
    obtain ⟨j, rfl, hj, hbw, hacc⟩ := hrel
    have Hacc := hide hacc
    clear hacc
    by_cases hlt : j < l.length
    · have i1 : (j : Int) < (l.length : Int) := by omega
      obtain ⟨b, off, rfl, B, hb⟩ := rowV_at hr hbw (j := j) (by rw [List.length_map]; exact hlt)
      rw [List.getElem_map] at B
      have F := holdsFn_plain l[j] q vb wr (by have := hbw.size; omega) (A.below hbw hvb)
      have HS := hide (show q ∈ l.drop j ↔ l[j] = q ∨ q ∈ l.drop (j + 1) by rw [List.drop_eq_getElem_cons hlt, List.mem_cons]; exact ⟨fun h => h.imp Eq.symm id, fun h => h.imp Eq.symm id⟩)
      obtain ⟨p, ep⟩ : ∃ p, p = l[j] := ⟨_, rfl⟩
      rw [← ep] at B F HS
      clear ep
      generalize ofP p = r at *
      unfold R7.val at F
      obtain ⟨a0, a1, a2, a3, a4, a5, a6⟩ := B
      go_wp2_with fail
      refine F.mono ?_
      rintro e w2 ⟨rfl, b2⟩
      have b3 := hbw.trans (b2.mono hbw.size)
      clear F
      by_cases hpq : p = q
      · have hd : decide (p = q) = true := decide_eq_true hpq
        rw [hd]
        go_wp2
        go_ret
        exact ⟨j, rfl, ⟨fun _ => (unhide Hacc).2 ((unhide HS).2 (.inl hpq)), fun _ => by omega⟩, b3⟩
      · have hd : decide (p = q) = false := decide_eq_false hpq
        rw [hd]
        go_wp2
        go_roundw
        case rel =>
          refine ⟨j + 1, by go_num, by omega, b3, ?_⟩
          rw [unhide Hacc, unhide HS]
          exact ⟨fun h => h.resolve_left hpq, .inr⟩
        case measure =>
          simp only [intOf]
          omega
    · have i1 : ¬ (j : Int) < (l.length : Int) := by omega
      go_wp2
      go_ret
      refine ⟨-1, rfl, ⟨fun h => absurd h (by decide), fun h => ?_⟩, hbw⟩
      rw [unhide Hacc, List.drop_eq_nil_of_le (by omega)] at h
      cases h

set_option maxHeartbeats 2000000 in
set_option maxRecDepth 1000000 in
theorem containsFunc_plain (l : List PV) (q : PV) (ao : Option Addr) (c vb : Nat) (w : World) (hl : l.length ≤ 1048576) (hr : RowV w ao (l.map ofP)) (hvb : vb < w.heap.size) (A : At7 w vb 0 (ofP q)) :
    Calls Tryz.prog 52 #[.slice ao l.length c, .func (.func 53) #[] #[.pointer (some ⟨vb, 0, none⟩)]] w fun e w' => e = .returned (.bool (decide (q ∈ l))) ∧ Below w.heap.size w w' := by
  have I := indexFunc_plain l q ao c vb w hl hr hvb A
  go_enter Tryz.func52, Tryz.ntmps52
  go_wp2_with fail
  refine I.mono ?_
  rintro e w2 ⟨i, rfl, hi, b2⟩
  have Hi := hide hi
  clear hi I
  go_wp2
  go_ret
  refine ⟨?_, b2⟩
  rw [← decide_eq_decide.2 (unhide Hi)]
  rfl

set_option maxHeartbeats 2000000 in
set_option maxRecDepth 1000000 in
theorem holds_plain (l : List PV) (q : PV) (ao : Option Addr) (c : Nat) (w : World) (hl : l.length ≤ 1048576) (hr : RowV w ao (l.map ofP)) :
    Calls Tryz.prog 32 #[(setR ao l.length c).val, (ofP q).val] w fun e w' => e = .returned (.bool (decide (q ∈ l))) ∧ Below w.heap.size w w' := by
  have C := contentOf_set ao l.length c
  have CF := fun vb w hr hvb A => containsFunc_plain l q ao c vb w hl hr hvb A
  generalize hx : decide (q ∈ l) = x at *
  clear hx
  obtain ⟨n, en⟩ : ∃ n, n = l.length := ⟨_, rfl⟩
  rw [← en] at C CF ⊢
  have T := ta_set
  obtain ⟨r, er⟩ : ∃ r, r = ofP q := ⟨_, rfl⟩
  rw [← er] at CF ⊢
  have Hn := hide en
  clear en er
  unfold setR R7.val
  unfold val7 conS at C
  go_enter Tryz.func32, Tryz.ntmps32
  go_wp2_with fail
  have b1 := below2 w (.cells #[.int .i64 5, .bool false, .int .i64 0, .string (ba []), .string (ba []), .string (ba []), .slice ao n c] 37) (.cells #[.int .i64 r.k, .bool r.b, .int .i64 r.n, .string r.s, .string r.t, .string r.i, .slice r.lo r.ll r.lc] 37)
  have A2 : At7 ((w.alloc (.cells #[.int .i64 5, .bool false, .int .i64 0, .string (ba []), .string (ba []), .string (ba []), .slice ao n c] 37)).alloc (.cells #[.int .i64 r.k, .bool r.b, .int .i64 r.n, .string r.s, .string r.t, .string r.i, .slice r.lo r.ll r.lc] 37)) (w.heap.size + 1) 0 r := by
    have := at7_new (w.alloc (.cells #[.int .i64 5, .bool false, .int .i64 0, .string (ba []), .string (ba []), .string (ba []), .slice ao n c] 37)) r
    rwa [size1] at this
  have z2 : ((w.alloc (.cells #[.int .i64 5, .bool false, .int .i64 0, .string (ba []), .string (ba []), .string (ba []), .slice ao n c] 37)).alloc (.cells #[.int .i64 r.k, .bool r.b, .int .i64 r.n, .string r.s, .string r.t, .string r.i, .slice r.lo r.ll r.lc] 37)).heap.size = w.heap.size + 2 := by simp
  refine (C _).mono ?_
  generalize (w.alloc _).alloc _ = w2 at *
  rintro e w3 ⟨rfl, b23⟩
  have b3 := b1.trans (b23.mono b1.size)
  have A3 := A2.below b23 (by omega)
  have z3 : w.heap.size + 1 < w3.heap.size := by have := b23.size; omega
  have CF3 := CF (w.heap.size + 1) w3 (hr.below b3) z3 A3
  clear CF C A2 A3
  go_wp2_with fail
  refine CF3.mono ?_
  rintro e w4 ⟨rfl, b34⟩
  go_wp2
  go_ret
  exact ⟨rfl, b3.trans (b34.mono b3.size)⟩
end Go.Proofs.YtakolbijajlhkaaGreat

namespace Go.Proofs.YtakolbijajlhkaaGreat
open Go.RowKit Go.Sort

set_option maxHeartbeats 2000000 in
set_option maxRecDepth 1000000 in
theorem flat_keeps (r : R7) (h : (r.k == 5) = false) (w : World) :
    Calls Tryz.prog 111 #[r.val] w fun e w' => e = .returned r.val ∧ Below w.heap.size w w' := by
  unfold R7.val
  go_enter Tryz.func111, Tryz.ntmps111
  go_wp2
  exact bodyPost_ret (v := .agg #[.int .i64 r.k, .bool r.b, .int .i64 r.n, .string r.s, .string r.t, .string r.i, .slice r.lo r.ll r.lc]) (by simp [results, Tryz.results111, go_sem]) rfl ⟨rfl, below2 _ _ _⟩

set_option maxHeartbeats 2000000 in
set_option maxRecDepth 1000000 in
theorem compareElements_plain (p q : PV) (w : World) :
    Calls Tryz.prog 110 #[(ofP p).val, (ofP q).val] w fun e w' => e = .returned (.int .i64 (cmpP p q)) ∧ Below w.heap.size w w' := by
  have F1 := flat_keeps (ofP p) (by cases p <;> rfl)
  have F2 := flat_keeps (ofP q) (by cases q <;> rfl)
  have C := compare_ofP p q
  generalize cmpP p q = x at *
  generalize ofP p = r at *
  generalize ofP q = r' at *
  unfold R7.val at *
  go_enter Tryz.func110, Tryz.ntmps110
  go_wp2_with fail
  have b02 := below2 w (.cells #[.int .i64 r.k, .bool r.b, .int .i64 r.n, .string r.s, .string r.t, .string r.i, .slice r.lo r.ll r.lc] 37) (.cells #[.int .i64 r'.k, .bool r'.b, .int .i64 r'.n, .string r'.s, .string r'.t, .string r'.i, .slice r'.lo r'.ll r'.lc] 37)
  have A2 := at7_new (w.alloc (.cells #[.int .i64 r.k, .bool r.b, .int .i64 r.n, .string r.s, .string r.t, .string r.i, .slice r.lo r.ll r.lc] 37)) r'
  rw [size1] at A2
  have A1 := (at7_new w r).below (below1 _ (.cells #[.int .i64 r'.k, .bool r'.b, .int .i64 r'.n, .string r'.s, .string r'.t, .string r'.i, .slice r'.lo r'.ll r'.lc] 37)) (by simp)
  generalize (w.alloc _).alloc _ = w2 at *
  have cS1 := fun d os => Calls.regrown_of (w := w2) (d := d) (os := os) (F1 (grow (redrawn w2 d) os))
  have cS2 := fun d os => Calls.regrown_of (w := w2) (d := d) (os := os) (F2 (grow (redrawn w2 d) os))
  have cS3 := fun d os => Calls.regrown_of (w := w2) (d := d) (os := os) (C (grow (redrawn w2 d) os))
  clear F1 F2 C
  obtain ⟨a0, a1, a2, a3, a4, a5, a6⟩ := A1.up
  obtain ⟨e0, e1, e2, e3, e4, e5, e6⟩ := A2.up
  simp only [Nat.zero_add] at a1 a2 a3 a4 a5 a6 e1 e2 e3 e4 e5 e6
  clear A1 A2
  refine wp_region_quiet_below (by kernel_rfl) (by kernel_rfl) ?_
  quiet_step (fail)
  quiet_step (exact cS1 _ _)
  quiet_step (fail)
  quiet_step (exact cS2 _ _)
  quiet_step (exact cS3 _ _)
  quiet_step (fail)
  refine wpQuiet_nil ?_
  intro _ hw'
  obtain ⟨⟨dq, osq⟩, hw''⟩ := hw'
  subst hw''
  go_wp2
  go_ret
  exact ⟨rfl, b02.trans ((below_regrown w2 dq osq).mono b02.size)⟩

/-- Which of two rows stands ahead. -/
def cmpL : List PV → List PV → Int
  | [], [] => 0
  | [], _ :: _ => -1
  | _ :: _, [] => 1
  | a :: l, b :: m => if cmpP a b = 0 then cmpL l m else cmpP a b

set_option maxHeartbeats 4000000 in
set_option maxRecDepth 1000000 in
theorem compareFunc_plain (l m : List PV) (ao bo : Option Addr) (ca cb : Nat) (w : World) (hl : l.length ≤ 1048576) (_hm : m.length ≤ 1048576) (hr : RowV w ao (l.map ofP)) (hs : RowV w bo (m.map ofP)) :
    Calls Tryz.prog 109 #[.slice ao l.length ca, .slice bo m.length cb, .func (.func 110) #[] #[]] w fun e w' => e = .returned (.int .i64 (cmpL l m)) ∧ Below w.heap.size w w' := by
  obtain ⟨x, hx⟩ : ∃ x, x = cmpL l m := ⟨_, rfl⟩
  rw [← hx]
  have HX := hide hx
  clear hx
  go_enter Tryz.func109, Tryz.ntmps109
  go_wp2
  go_loopw [13] (fun iv wr => ∃ i : Nat, iv = .int .i64 i ∧ i ≤ l.length ∧ i ≤ m.length ∧ Below w.heap.size w wr ∧ x = cmpL (l.drop i) (m.drop i)) (fun iv _ => l.length - (intOf iv).toNat)
  case atStart => exact ⟨0, by go_num, Nat.zero_le _, Nat.zero_le _, Below.refl _ _, by simpa using unhide HX⟩
  case round =>
    obtain ⟨j, rfl, hj, hjm, hbw, hacc⟩ := hrel
    have Hacc := hide hacc
    clear hacc
    by_cases hlt : j < l.length
    · have i1 : (j : Int) < (l.length : Int) := by omega
      obtain ⟨b, off, rfl, A, hb⟩ := rowV_at hr hbw (j := j) (by rw [List.length_map]; exact hlt)
      rw [List.getElem_map] at A
      by_cases hlt2 : j < m.length
      · have i2 : ¬ (m.length : Int) ≤ (j : Int) := by omega
        have i3 : (j : Int) < (m.length : Int) := by omega
        obtain ⟨b', off', rfl, A', hb'⟩ := rowV_at hs hbw (j := j) (by rw [List.length_map]; exact hlt2)
        rw [List.getElem_map] at A'
        have C := compareElements_plain l[j] m[j]
        have HS := hide (show cmpL (l.drop j) (m.drop j) = if cmpP l[j] m[j] = 0 then cmpL (l.drop (j + 1)) (m.drop (j + 1)) else cmpP l[j] m[j] by rw [List.drop_eq_getElem_cons hlt, List.drop_eq_getElem_cons hlt2]; rfl)
        generalize cmpP l[j] m[j] = y at *
        generalize ofP l[j] = r at *
        generalize ofP m[j] = r' at *
        unfold R7.val at C
        obtain ⟨a0, a1, a2, a3, a4, a5, a6⟩ := A
        obtain ⟨d0, d1, d2, d3, d4, d5, d6⟩ := A'
        have b2 := below2 wr (.cells #[.int .i64 r.k, .bool r.b, .int .i64 r.n, .string r.s, .string r.t, .string r.i, .slice r.lo r.ll r.lc] 37) (.cells #[.int .i64 r'.k, .bool r'.b, .int .i64 r'.n, .string r'.s, .string r'.t, .string r'.i, .slice r'.lo r'.ll r'.lc] 37)
        have hbr' : b' < wr.heap.size := by have := hbw.size; omega
        have hbr : b < wr.heap.size := by have := hbw.size; omega
        go_wp2_with fail
        refine (C _).mono ?_
        rintro e w3 ⟨rfl, b3⟩
        have b4 := hbw.trans ((b2.trans (b3.mono b2.size)).mono hbw.size)
        clear C a0 a1 a2 a3 a4 a5 a6 d0 d1 d2 d3 d4 d5 d6 b3 b2
        by_cases hy : y = 0
        · have HS' := hide ((unhide HS).trans (if_pos hy))
          clear HS
          subst hy
          go_wp2
          go_roundw
          case rel =>
            refine ⟨j + 1, by go_num, by omega, by omega, b4, ?_⟩
            rw [unhide Hacc]
            exact unhide HS'
          case measure =>
            simp only [intOf]
            omega
        · have hyb : (y == 0) = false := by simpa using hy
          have HY := hide hy
          clear hy
          go_wp2
          go_ret
          refine ⟨?_, b4⟩
          rw [unhide Hacc, unhide HS, if_neg (unhide HY)]
          rfl
      · have i2 : (m.length : Int) ≤ (j : Int) := by omega
        generalize hrr : ofP l[j] = r at *
        clear hrr
        obtain ⟨a0, a1, a2, a3, a4, a5, a6⟩ := A
        go_wp2
        go_ret
        refine ⟨?_, hbw.alloc hbw.size _⟩
        rw [unhide Hacc, List.drop_eq_getElem_cons hlt, List.drop_eq_nil_of_le (by omega : m.length ≤ j)]
        rfl
    · have i1 : ¬ (j : Int) < (l.length : Int) := by omega
      by_cases hlm : l.length < m.length
      · have i2 : (l.length : Int) < (m.length : Int) := by omega
        go_wp2
        go_ret
        refine ⟨?_, hbw⟩
        rw [unhide Hacc, List.drop_eq_nil_of_le (by omega : l.length ≤ j), List.drop_eq_getElem_cons (by omega : j < m.length)]
        rfl
      · have i2 : ¬ (l.length : Int) < (m.length : Int) := by omega
        go_wp2
        go_ret
        refine ⟨?_, hbw⟩
        rw [unhide Hacc, List.drop_eq_nil_of_le (by omega : l.length ≤ j), List.drop_eq_nil_of_le (by omega : m.length ≤ j)]
        rfl

theorem ta_els (v : Value) (w : World) : (Instr.typeAssert (.iface 123 v) 110 123 false).run Tryz.prog w = .ok v w := by kernel_rfl

set_option maxHeartbeats 2000000 in
set_option maxRecDepth 1000000 in
theorem elementsCmp_plain (l m : List PV) (ao bo : Option Addr) (ca cb : Nat) (w : World) (hl : l.length ≤ 1048576) (hm : m.length ≤ 1048576) (hr : RowV w ao (l.map ofP)) (hs : RowV w bo (m.map ofP)) :
    Calls Tryz.prog 106 #[.slice ao l.length ca, .iface 123 (.slice bo m.length cb)] w fun e w' => e = .returned (.int .i64 (cmpL l m)) ∧ Below w.heap.size w w' := by
  have C := compareFunc_plain l m ao bo ca cb w hl hm hr hs
  have T := ta_els (.slice bo m.length cb)
  generalize cmpL l m = x at *
  go_enter Tryz.func106, Tryz.ntmps106
  go_wp2_with fail
  refine C.mono ?_
  rintro e w1 ⟨rfl, b1⟩
  go_wp2
  go_ret
  exact ⟨rfl, b1⟩

theorem na_elements (v : Value) (w : World) : (nilAhead 298 123 v "chancel/value.compare").run Tryz.prog w = .ok (some false) w := by kernel_rfl
theorem me_elements (v : Value) (w : World) : (method 298 123 v "chancel/value.compare").run Tryz.prog w = .ok (106, v) w := by kernel_rfl
theorem en_elements (v : Array Value) (w : World) : (callFunc 106 v).run Tryz.prog w = .ok (.enter 106 v) w := by kernel_rfl

set_option maxRecDepth 100000 in
theorem compare_sets (l m : List PV) (ao bo : Option Addr) (ca cb : Nat) (w : World) (hl : l.length ≤ 1048576) (hm : m.length ≤ 1048576) (hr : RowV w ao (l.map ofP)) (hs : RowV w bo (m.map ofP)) :
    Calls Tryz.prog 41 #[(setR ao l.length ca).val, (setR bo m.length cb).val] w fun e w' => e = .returned (.int .i64 (cmpL l m)) ∧ Below w.heap.size w w' :=
  compare_same _ _ _ _ _ _ _ _ _ _ _ _ _ _ _ _ _ 123 106 _ _ _ w (na_elements _) (me_elements _) (en_elements _) (fun w => contentOf_set ao l.length ca w) (fun w => contentOf_set bo m.length cb w) (fun w' hb => elementsCmp_plain l m ao bo ca cb w' hl hm (hr.below hb) (hs.below hb))
end Go.Proofs.YtakolbijajlhkaaGreat
