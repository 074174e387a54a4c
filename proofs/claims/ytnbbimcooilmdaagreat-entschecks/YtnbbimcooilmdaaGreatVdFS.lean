/-
  value.Same and Less of plain values; value.Holds.
  value.checkElements; value.Check of sets.
  value.checkElements; value.Check of sets.
-/
import Derived.Test.YtnbbimcooilmdaaGreatR7IM
import Derived.Test.YtnbbimcooilmdaaGreatVdAD
import Derived.Test.YtnbbimcooilmdaaGreatVcEH
import Derived.Deep.QuietTactic
import Derived.BigQuiet
namespace Go.Proofs.YtnbbimcooilmdaaGreat
open Go.RowKit Go.Sort

theorem compare_ofP (p q : PV) (w : World) :
    Calls Tryz.prog 92 #[(ofP p).val, (ofP q).val] w fun e w' => e = .returned (.int .i64 (cmpP p q)) ∧ Below w.heap.size w w' := by
  rw [ofP_val, ofP_val]
  exact compare_plain p q none none 0 0 0 0 w

set_option maxHeartbeats 1000000 in
set_option maxRecDepth 1000000 in
theorem less_of (r r' : R7) (x : Int) (w : World) (C : ∀ w', Below w.heap.size w w' → Calls Tryz.prog 92 #[r.val, r'.val] w' fun e w'' => e = .returned (.int .i64 x) ∧ Below w'.heap.size w' w'') :
    Calls Tryz.prog 87 #[r.val, r'.val] w fun e w' => e = .returned (.bool (decide (x < 0))) ∧ Below w.heap.size w w' := by
  unfold R7.val at *
  go_enter Tryz.func87, Tryz.ntmps87
  go_wp2_with fail
  have b1 := below2 w (.cells #[.int .i64 r.k, .bool r.b, .int .i64 r.n, .string r.s, .string r.t, .string r.i, .slice r.lo r.ll r.lc] 52) (.cells #[.int .i64 r'.k, .bool r'.b, .int .i64 r'.n, .string r'.s, .string r'.t, .string r'.i, .slice r'.lo r'.ll r'.lc] 52)
  refine (C _ b1).mono ?_
  rintro e w2 ⟨rfl, b2⟩
  go_wp2
  go_ret
  exact ⟨rfl, b1.trans (b2.mono b1.size)⟩

theorem less_plain (p q : PV) (w : World) :
    Calls Tryz.prog 87 #[(ofP p).val, (ofP q).val] w fun e w' => e = .returned (.bool (lessP p q)) ∧ Below w.heap.size w w' := by
  rw [← less_cmp]
  exact less_of _ _ _ w fun w' _ => compare_ofP p q w'

end Go.Proofs.YtnbbimcooilmdaaGreat

namespace Go.Proofs.YtnbbimcooilmdaaGreat
open Go.RowKit Go.Sort

/-- The plain value that a value is, by its kind. -/
def toP (r : R7) : PV := if r.k = 1 then .bool r.b else if r.k = 2 then .long r.n else if r.k = 3 then .str r.s.data.toList else .uid r.t.data.toList r.i.data.toList

def lessR (a b : R7) : Bool := lessP (toP a) (toP b)

/-- Is it above the one ahead? -/
def prevOk : Option R7 → R7 → Bool
  | none, _ => true
  | some p, e => lessR p e

/-- What the elements of a set are told, one by one; k0: the first one's kind. -/
def chkFrom (k0 : Int) : Option R7 → List R7 → Int
  | _, [] => 0
  | prev, e :: t => if mayB e.k k0 = false then 16 else if chkFlat e ≠ 0 then chkFlat e else if prevOk prev e = false then 1 else chkFrom k0 (some e) t

theorem chkFrom_cons (k0 : Int) (prev : Option R7) (e : R7) (t : List R7) : chkFrom k0 prev (e :: t) = if mayB e.k k0 = false then 16 else if chkFlat e ≠ 0 then chkFlat e else if prevOk prev e = false then 1 else chkFrom k0 (some e) t := by
  cases prev <;> rfl

def chkEls (es : List R7) : Int := if 8 < es.length then 4 else match es with | [] => 0 | e :: _ => chkFrom e.k none es

theorem plain_of_chk (r : R7) (h5 : r.k ≠ 5) (h : chkFlat r = 0) : r.val = valP (toP r) (.slice r.lo 0 r.lc) := by
  unfold chkFlat at h
  split at h
  · cases h
  · split at h
    · cases h
    · rename_i hk hm
      have hs : SameF r (bareR r) := by
        have hm' : moreB r = false := by simpa using hm
        unfold moreB at hm'
        rw [decide_eq_false_iff_not] at hm'
        exact Classical.not_not.1 hm'
      obtain ⟨k, b, n, s, t, i, lo, ll, lc⟩ := r
      unfold SameF bareR at hs
      simp only at hs hk h5 ⊢
      obtain ⟨e1, e2, e3, e4, e5, e6⟩ := hs
      have hK : k = 1 ∨ k = 2 ∨ k = 3 ∨ k = 4 := by omega
      rcases hK with rfl | rfl | rfl | rfl
      · rw [if_neg (by decide)] at e2 e3 e4 e5 e6
        subst e2 e3 e4 e5 e6
        rfl
      · rw [if_neg (by decide)] at e1 e3 e4 e5 e6
        subst e1 e3 e4 e5 e6
        rfl
      · rw [if_neg (by decide)] at e1 e2 e4 e5 e6
        subst e1 e2 e4 e5 e6
        rfl
      · rw [if_neg (by decide)] at e1 e2 e3 e6
        subst e1 e2 e3 e6
        rfl

theorem compare_R (a b : R7) (ha : a.k ≠ 5) (hb : b.k ≠ 5) (h1 : chkFlat a = 0) (h2 : chkFlat b = 0) (w : World) :
    Calls Tryz.prog 92 #[a.val, b.val] w fun e w' => e = .returned (.int .i64 (cmpP (toP a) (toP b))) ∧ Below w.heap.size w w' := by
  rw [plain_of_chk a ha h1, plain_of_chk b hb h2]
  exact compare_plain _ _ _ _ _ _ _ _ w

theorem less_R (a b : R7) (ha : a.k ≠ 5) (hb : b.k ≠ 5) (h1 : chkFlat a = 0) (h2 : chkFlat b = 0) (w : World) :
    Calls Tryz.prog 87 #[a.val, b.val] w fun e w' => e = .returned (.bool (lessR a b)) ∧ Below w.heap.size w w' := by
  unfold lessR
  rw [← less_cmp]
  exact less_of _ _ _ w fun w' _ => compare_R a b ha hb h1 h2 w'

theorem mayB_five {k k0 : Int} (h : mayB k k0 = true) : k ≠ 5 := by
  unfold mayB at h
  simp at h
  exact h.1

/-- The loop's memory: what is left to be told is told of the rest. -/
structure ChkInv (es : List R7) (h0 : 0 < es.length) (j : Nat) : Prop where
  le : j ≤ es.length
  rest : chkFrom es[0].k none es = chkFrom es[0].k (if j = 0 then none else es[j - 1]?) (es.drop j)
  prev : ∀ (h : j - 1 < es.length), 0 < j → es[j - 1].k ≠ 5 ∧ chkFlat es[j - 1] = 0

theorem chk_start (es : List R7) (h0 : 0 < es.length) : ChkInv es h0 0 := ⟨Nat.zero_le _, rfl, fun _ h => absurd h (Nat.not_lt_zero _)⟩

/-- One round: what it tells, or how it goes on. -/
theorem chk_round {es : List R7} {h0 : 0 < es.length} {j : Nat} (inv : ChkInv es h0 j) (hj : j < es.length) :
    (mayB es[j].k es[0].k = false → chkFrom es[0].k none es = 16) ∧
    (mayB es[j].k es[0].k = true → chkFlat es[j] ≠ 0 → chkFrom es[0].k none es = chkFlat es[j]) ∧
    (mayB es[j].k es[0].k = true → chkFlat es[j] = 0 → (j = 0 ∨ ∃ h : j - 1 < es.length, lessR es[j - 1] es[j] = true) → ChkInv es h0 (j + 1)) ∧
    (mayB es[j].k es[0].k = true → chkFlat es[j] = 0 → 0 < j → (∀ h : j - 1 < es.length, lessR es[j - 1] es[j] = false) → chkFrom es[0].k none es = 1) := by
  have hd : es.drop j = es[j] :: es.drop (j + 1) := List.drop_eq_getElem_cons hj
  have hr := inv.rest
  rw [hd] at hr
  refine ⟨fun h => ?_, fun h hc => ?_, fun h hc ho => ⟨by omega, ?_, fun _ _ => ?_⟩, fun h hc hpos hl => ?_⟩
  · rw [hr, chkFrom_cons, if_pos h]
  · rw [hr, chkFrom_cons, if_neg (by rw [h]; decide), if_pos hc]
  · rw [hr, chkFrom_cons, if_neg (by rw [h]; decide), if_neg (fun hn => hn hc), if_neg]
    · rw [if_neg (by omega), Nat.add_sub_cancel, List.getElem?_eq_getElem hj]
    · rcases ho with rfl | ⟨h1, h2⟩
      · rw [if_pos rfl]
        exact fun h => by cases h
      · by_cases hz : j = 0
        · rw [if_pos hz]
          exact fun h => by cases h
        · rw [if_neg hz, List.getElem?_eq_getElem h1]
          simp [prevOk, h2]
  · simp only [Nat.add_sub_cancel]
    exact ⟨mayB_five h, hc⟩
  · rw [hr, chkFrom_cons, if_neg (by rw [h]; decide), if_neg (fun hn => hn hc), if_pos]
    rw [if_neg (by omega), List.getElem?_eq_getElem (show j - 1 < es.length by omega)]
    exact hl _

theorem chk_end {es : List R7} {h0 : 0 < es.length} {j : Nat} (inv : ChkInv es h0 j) (hj : ¬ j < es.length) : chkFrom es[0].k none es = 0 := by
  rw [inv.rest, List.drop_eq_nil_of_le (by omega)]
  split <;> rfl
end Go.Proofs.YtnbbimcooilmdaaGreat

namespace Go.Proofs.YtnbbimcooilmdaaGreat
open Go.RowKit Go.Sort

def smallR (r : R7) : Prop := r.s.size ≤ 1099511627776 ∧ r.t.size ≤ 1099511627776 ∧ r.i.size ≤ 1099511627776

set_option maxHeartbeats 4000000 in
set_option maxRecDepth 1000000 in
theorem checkElements_any (es : List R7) (ao : Option Addr) (c : Nat) (w : World) (hl : es.length ≤ 1048576) (hr : RowV w ao es) (hsm : ∀ e ∈ es, smallR e) :
    Calls Tryz.prog 77 #[.slice ao es.length c] w fun e w' => e = .returned (.int .i64 (chkEls es)) ∧ Below w.heap.size w w' := by
  by_cases h8 : 8 < es.length
  · have e : chkEls es = 4 := if_pos h8
    rw [e]
    have i8 : (8 : Int) < (es.length : Int) := by omega
    go_enter Tryz.func77, Tryz.ntmps77
    go_wp2
    go_ret
    exact ⟨rfl, Below.refl _ _⟩
  have i8 : ¬ (8 : Int) < (es.length : Int) := by omega
  by_cases h0 : 0 < es.length
  case neg =>
    obtain rfl : es = [] := List.eq_nil_of_length_eq_zero (by omega)
    go_enter Tryz.func77, Tryz.ntmps77
    go_wp2
    go_loopw [11] (fun iv wr => iv = .int .i64 0 ∧ wr = w) (fun _ _ => 0)
    case atStart => exact ⟨rfl, rfl⟩
    case round =>
      obtain ⟨rfl, rfl⟩ := hrel
      go_wp2
      go_ret
      exact ⟨rfl, Below.refl _ _⟩
  have e : chkEls es = chkFrom es[0].k none es := by
    unfold chkEls
    rw [if_neg h8]
    cases es with
    | nil => exact absurd h0 (Nat.lt_irrefl _)
    | cons a t => rfl
  have HE := hide e
  clear e
  have Hsm := hide hsm
  clear hsm
  go_enter Tryz.func77, Tryz.ntmps77
  go_wp2
  go_loopw [11] (fun iv wr => ∃ i : Nat, iv = .int .i64 i ∧ ChkInv es h0 i ∧ Below w.heap.size w wr) (fun iv _ => es.length - (intOf iv).toNat)
  case atStart => exact ⟨0, by go_num, chk_start es h0, Below.refl _ _⟩
  case round =>
    obtain ⟨j, rfl, inv, hbw⟩ := hrel
    by_cases hlt : j < es.length
    · have i1 : (j : Int) < (es.length : Int) := by omega
      have i0 : (0 : Int) < (es.length : Int) := by omega
      have HR := hide (chk_round inv hlt)
      have Hinv := hide inv
      obtain ⟨b, off, rfl, A, hb⟩ := rowV_at hr hbw hlt
      obtain ⟨b', off', e', A0, _⟩ := rowV_at hr hbw h0
      cases e'
      rw [Nat.zero_mul, Nat.add_zero] at A0
      obtain ⟨s1, s2, s3⟩ := unhide Hsm es[j] (List.getElem_mem _)
      have LS := fun (h : j - 1 < es.length) (hp : 0 < j) (h5 : es[j].k ≠ 5) (hc : chkFlat es[j] = 0) (w : World) => less_R es[j - 1] es[j] (inv.prev h hp).1 h5 (inv.prev h hp).2 hc w
      have AP := fun (h : j - 1 < es.length) => rowV_at hr hbw h
      obtain ⟨r, er⟩ : ∃ r, r = es[j] := ⟨_, rfl⟩
      obtain ⟨r0, er0⟩ : ∃ r0, r0 = es[0] := ⟨_, rfl⟩
      rw [← er] at A s1 s2 s3 HR LS
      rw [← er0] at A0 HR HE
      clear er er0 inv
      have M := mayStandBy_any r r0
      have CF := fun (h5 : r.k ≠ 5) w => vcheck_flat r w h5 s1 s2 s3
      unfold R7.val at M CF LS
      obtain ⟨a0, a1, a2, a3, a4, a5, a6⟩ := A
      go_wp2_with fail
      have A3 := at7_new wr r
      have b3 : Below w.heap.size w (wr.alloc (.cells #[.int .i64 r.k, .bool r.b, .int .i64 r.n, .string r.s, .string r.t, .string r.i, .slice r.lo r.ll r.lc] 52)) := hbw.alloc hbw.size _
      have bw3 := below1 wr (.cells #[.int .i64 r.k, .bool r.b, .int .i64 r.n, .string r.s, .string r.t, .string r.i, .slice r.lo r.ll r.lc] 52)
      have z3 := size1 wr (.cells #[.int .i64 r.k, .bool r.b, .int .i64 r.n, .string r.s, .string r.t, .string r.i, .slice r.lo r.ll r.lc] 52)
      have z0 := (A0.below bw3 (by have := hbw.size; omega)).up
      clear a0 a1 a2 a3 a4 a5 a6 A0
      generalize wr.alloc _ = w3 at *
      have A3u := A3.up
      obtain ⟨a0, a1, a2, a3, a4, a5, a6⟩ := A3u
      obtain ⟨e0, e1, e2, e3, e4, e5, e6⟩ := z0
      simp only [Nat.zero_add] at a1 a2 a3 a4 a5 a6
      have cS := fun d os => Calls.regrown_of (w := w3) (d := d) (os := os) (M (grow (redrawn w3 d) os))
      clear M
      refine wp_region_quiet_below (by kernel_rfl) (by kernel_rfl) ?_
      repeat (quiet_step (exact cS _ _))
      refine wpQuiet_nil ?_
      intro _ hw'
      obtain ⟨⟨dq, osq⟩, hw''⟩ := hw'
      subst hw''
      have b34 := below_regrown w3 dq osq
      have b4 := b3.trans (b34.mono b3.size)
      have A4 := A3.below b34 (by omega)
      have bw4 := bw3.trans (b34.mono bw3.size)
      generalize grow (redrawn w3 dq) osq = w4 at *
      clear a0 a1 a2 a3 a4 a5 a6 e0 e1 e2 e3 e4 e5 e6 cS A3
      cases hm : mayB r.k r0.k with
      | false =>
        go_wp2
        go_ret
        refine ⟨ret_int ?_, b4⟩
        rw [unhide HE, (unhide HR).1 hm]
      | true =>
        have h5 := mayB_five hm
        have Hm := hide hm
        obtain ⟨a0, a1, a2, a3, a4, a5, a6⟩ := A4
        simp only [Nat.zero_add] at a1 a2 a3 a4 a5 a6
        have CFw := CF h5 w4
        by_cases hc : chkFlat r = 0
        · rw [hc] at CFw
          have Hc := hide hc
          clear hc hm
          go_wp2_with fail
          refine CFw.mono ?_
          rintro e w5 ⟨rfl, b45⟩
          have b5 := b4.trans (b45.mono b4.size)
          have A5 : At7 w5 wr.heap.size 0 r := At7.below ⟨a0, a1, a2, a3, a4, a5, a6⟩ b45 (by have := b34.size; omega)
          have bw5 := bw4.trans (b45.mono bw4.size)
          clear a0 a1 a2 a3 a4 a5 a6 CFw CF
          by_cases hj0 : j = 0
          · subst hj0
            clear AP LS A5
            go_wp2_with fail
            go_quiet (fail)
            have b6 := b5.trans ((below_drewN w5 nq).mono b5.size)
            go_wp2
            go_roundw
            case rel => exact ⟨1, by go_num, (unhide HR).2.2.1 (unhide Hm) (unhide Hc) (.inl (by trivial)), b6⟩
            case measure =>
              simp only [intOf]
              omega
          · have hp : 0 < j := by omega
            have hpl : j - 1 < es.length := by omega
            obtain ⟨b', off', e', AQ, _⟩ := AP hpl
            cases e'
            have LQ := LS hpl hp h5 (unhide Hc)
            have HX := hide (show ∀ x, x = lessR es[j - 1] r → (x = true → ChkInv es h0 (j + 1)) ∧ (x = false → chkFrom r0.k none es = 1) from fun x hx => ⟨fun h => (unhide HR).2.2.1 (unhide Hm) (unhide Hc) (.inr ⟨hpl, by rw [← hx]; exact h⟩), fun h => (unhide HR).2.2.2 (unhide Hm) (unhide Hc) hp (fun _ => by rw [← hx]; exact h)⟩)
            obtain ⟨p, ep⟩ : ∃ p, p = es[j - 1] := ⟨_, rfl⟩
            rw [← ep] at AQ LQ HX
            clear ep AP LS
            generalize hx : lessR p r = x at *
            have HX' := hide (unhide HX x rfl)
            clear hx HX
            have AQ5 := (AQ.below bw5 (by have := hbw.size; omega)).up
            have AR5 := A5.up
            clear A5 AQ
            obtain ⟨a0, a1, a2, a3, a4, a5, a6⟩ := AR5
            obtain ⟨e0, e1, e2, e3, e4, e5, e6⟩ := AQ5
            simp only [Nat.zero_add] at a1 a2 a3 a4 a5 a6
            have ej : (j : Int) - 1 = ((j - 1 : Nat) : Int) := by omega
            have hg : decide ((0 : Int) < (j : Int)) = true := decide_eq_true (by omega)
            have ew : IntKind.i64.wrap ((j - 1 : Nat) : Int) = ((j - 1 : Nat) : Int) := by rw [IntKind.wrap_i64]; omega
            have k0 : (0 : Int) ≤ ((j - 1 : Nat) : Int) := by omega
            have k1 : ((j - 1 : Nat) : Int) < (es.length : Int) := by omega
            have cS := fun d os => Calls.regrown_of (w := w5) (d := d) (os := os) (LQ (grow (redrawn w5 d) os))
            clear LQ
            go_wp2_with fail
            refine wp_region_quiet_below (by kernel_rfl) (by kernel_rfl) ?_
            repeat (quiet_step (exact cS _ _))
            refine wpQuiet_nil ?_
            intro _ hw'
            obtain ⟨⟨dq2, osq2⟩, hw''⟩ := hw'
            subst hw''
            have b6 := b5.trans ((below_regrown w5 dq2 osq2).mono b5.size)
            generalize grow (redrawn w5 dq2) osq2 = w6 at *
            clear a0 a1 a2 a3 a4 a5 a6 e0 e1 e2 e3 e4 e5 e6 cS
            cases x
            · go_wp2
              go_ret
              refine ⟨ret_int ?_, b6⟩
              rw [unhide HE, (unhide HX').2 (by trivial)]
            · go_wp2
              go_roundw
              case rel => exact ⟨j + 1, by go_num, (unhide HX').1 (by trivial), b6⟩
              case measure =>
                simp only [intOf]
                omega
        · have Hc := hide hc
          have hcb : (chkFlat r == 0) = false := by simpa using hc
          have HV := hide (show chkEls es = chkFlat r by rw [unhide HE]; exact (unhide HR).2.1 hm hc)
          clear hc hm
          generalize chkFlat r = x at *
          go_wp2_with fail
          refine CFw.mono ?_
          rintro e w5 ⟨rfl, b45⟩
          go_wp2
          go_ret
          exact ⟨ret_int (unhide HV).symm, b4.trans (b45.mono b4.size)⟩
    · have i1 : ¬ (j : Int) < (es.length : Int) := by omega
      have HV := hide (show chkEls es = 0 by rw [unhide HE]; exact chk_end inv hlt)
      go_wp2
      go_ret
      exact ⟨ret_int (unhide HV).symm, hbw⟩

set_option maxHeartbeats 2000000 in
set_option maxRecDepth 1000000 in
theorem cc_elements (es : List R7) (ao : Option Addr) (c : Nat) (w : World) (hl : es.length ≤ 1048576) (hr : RowV w ao es) (hsm : ∀ e ∈ es, smallR e) :
    Calls Tryz.prog 68 #[.iface 118 (.slice ao es.length c)] w fun e w' => e = .returned (.int .i64 (chkEls es)) ∧ Below w.heap.size w w' := by
  have C := checkElements_any es ao c w hl hr hsm
  generalize es.length = n at *
  have h1 : ∀ w, (Instr.typeAssert (.iface 118 (.slice ao n c)) 103 116 true).run Tryz.prog w = .ok (.tuple #[.string ⟨#[]⟩, .bool false]) w := fun w => by kernel_rfl
  have h2 : ∀ w, (Instr.typeAssert (.iface 118 (.slice ao n c)) 103 117 true).run Tryz.prog w = .ok (.tuple #[.agg #[.string ⟨#[]⟩, .string ⟨#[]⟩], .bool false]) w := fun w => by kernel_rfl
  have h3 : ∀ w, (Instr.typeAssert (.iface 118 (.slice ao n c)) 103 118 true).run Tryz.prog w = .ok (.tuple #[.slice ao n c, .bool true]) w := fun w => by kernel_rfl
  go_enter Tryz.func68, Tryz.ntmps68
  go_wp2_with fail
  refine C.mono ?_
  rintro e w2 ⟨rfl, b2⟩
  go_wp2
  go_ret
  exact ⟨rfl, b2⟩

set_option maxHeartbeats 400000 in
set_option maxRecDepth 100000 in
theorem elementsVal_any (lo : Option Addr) (ll lc : Nat) (w : World) :
    Calls Tryz.prog 133 #[.slice lo ll lc] w fun e w' => e = .returned (R7.val ⟨5, false, 0, ba [], ba [], ba [], lo, ll, lc⟩) ∧ Below w.heap.size w w' := by
  go_enter Tryz.func133, Tryz.ntmps133
  go_wp2
  exact bodyPost_ret (v := .agg #[.int .i64 5, .bool false, .int .i64 0, .string ⟨#[]⟩, .string ⟨#[]⟩, .string ⟨#[]⟩, .slice lo ll lc]) (by simp [results, Tryz.results133, go_sem]) rfl ⟨rfl, below1 _ _⟩

theorem mv_elements (v : Value) (w : World) : (method 253 118 v "chancel/value.value").run Tryz.prog w = .ok (133, v) w := by kernel_rfl
theorem ev_elements (v : Array Value) (w : World) : (callFunc 133 v).run Tryz.prog w = .ok (.enter 133 v) w := by kernel_rfl

/-- What a set is told. -/
def chkSet (r : R7) (es : List R7) : Int := if moreB r then 1 else chkEls es

theorem vcheck_set (r : R7) (es : List R7) (w : World) (h5 : r.k = 5) (hn : r.ll = es.length) (hl : es.length ≤ 1048576) (hr : RowV w r.lo es) (hsm : ∀ e ∈ es, smallR e) :
    Calls Tryz.prog 57 #[r.val] w fun e w' => e = .returned (.int .i64 (chkSet r es)) ∧ Below w.heap.size w w' := by
  have eb : (bareR r).val = R7.val ⟨5, false, 0, ba [], ba [], ba [], r.lo, r.ll, r.lc⟩ := by simp [bareR, h5, R7.val]
  have hH := fun w => hasMore_any r w
  rw [eb] at hH
  refine vcheck_of r _ 118 133 (.slice r.lo r.ll r.lc) (chkEls es) _ (moreB r) w (fun w => contentOf_kind r _ _ w (.inr (.inr (.inr (.inr ⟨h5, rfl, rfl⟩))))) (fun w => ta_no _ _ w (by simp)) (mv_elements _) (ev_elements _) (fun w => elementsVal_any _ _ _ w) hH (fun _ w' hb => ?_) rfl
  rw [hn]
  exact cc_elements es r.lo r.lc w' hl (hr.below hb) hsm
end Go.Proofs.YtnbbimcooilmdaaGreat
