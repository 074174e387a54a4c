/-
  value.checkElements; value.Check of sets.
  value.checkElements; value.Check of sets.
  chancelref3.Check of a set: what it returns.
  chancellaw3.within; Check of plain values; rows of ints.
  A set that was made of plain values such as may be may be.
  append onto a row of one's own, of a row that may be nil.
  chancelref3.Set of plain values of one kind.
  chancellaw3.id, Uid: what they return.
  A region that draws its order: each operation of its front yields what it should, whatever else was done ahead of it; its tail is forced. The walk's law, by what each slot holds.
  chancellaw3.Uid: what it returns.
  chancellaw3.Plain: what it returns.
  The same, with what is known of the slots together.
  chancellaw3.Good: what it returns.
  chancellaw3.Good: what it returns, whatever its kind.
  What Plain makes is a value such as may be.
  value.Check and chancelref3.Check of any value; what Good makes, and that it may be.
  chancelref3.Same and Less of sets of plain values: what they return.
  chancelref3.Set: where a kind is not the first one's, or a set's.
  Slices of Raws, with what lies in their own lists; rows of any values.
  Small facts for ValueSets: what Set made, an empty row, a cut of a row.
  chancellaw3.ValueChecks: the walk.
-/
import Derived.Test.YtgeibceijlaoaaaGreatVdD
import Derived.Test.YtgeibceijlaoaaaGreatVcS
import Derived.Test.YtgeibceijlaoaaaGreatVcE
import Derived.Deep.QuietTactic
import Derived.BigQuiet
import Derived.Test.YtgeibceijlaoaaaGreatVhC
import Derived.Test.YtgeibceijlaoaaaGreatLawOf
import Derived.Test.YtgeibceijlaoaaaGreatVcM
import Derived.Deep.Cut
import Derived.Deep.RegionWith
import Derived.Test.YtgeibceijlaoaaaGreatVcK
import Derived.Test.YtgeibceijlaoaaaGreatVArgs
import Derived.Test.YtgeibceijlaoaaaGreatValX
import Derived.Test.YtgeibceijlaoaaaGreatVhF
import Derived.Deep.RegionHeld
import Derived.BigRegion
namespace Go.Proofs.YtgeibceijlaoaaaGreat
open Go.RowKit Go.Sort

/-- The plain value that a value is, by its kind. -/
def toP (r : R7) : PV := if r.k = 1 then .bool r.b else if r.k = 2 then .long r.n else if r.k = 3 then .str r.s.data.toList else .uid r.t.data.toList r.i.data.toList

def lessR (a b : R7) : Bool := lessP (toP a) (toP b)

/-- Is it above the one ahead? -/
def prevOk : Option R7 → R7 → Bool
  | none, _ => true
  | some p, e => lessR p e

/-- What the elements of a set are told, one by one; k0: the first one's kind. -/
def chkFrom (k0 : Int) : Option R7 → List R7 → Int
  | _, [] => 0
  | prev, e :: t => if mayB e.k k0 = false then 16 else if chkFlat e ≠ 0 then chkFlat e else if prevOk prev e = false then 1 else chkFrom k0 (some e) t

theorem chkFrom_cons (k0 : Int) (prev : Option R7) (e : R7) (t : List R7) : chkFrom k0 prev (e :: t) = if mayB e.k k0 = false then 16 else if chkFlat e ≠ 0 then chkFlat e else if prevOk prev e = false then 1 else chkFrom k0 (some e) t := by
  cases prev <;> rfl

def chkEls (es : List R7) : Int := if 8 < es.length then 4 else match es with | [] => 0 | e :: _ => chkFrom e.k none es

theorem plain_of_chk (r : R7) (h5 : r.k ≠ 5) (h : chkFlat r = 0) : r.val = valP (toP r) (.slice r.lo 0 r.lc) := by
  unfold chkFlat at h
  split at h
  · cases h
  · split at h
    · cases h
    · rename_i hk hm
      have hs : SameF r (bareR r) := by
        have hm' : moreB r = false := by simpa using hm
        unfold moreB at hm'
        rw [decide_eq_false_iff_not] at hm'
        exact Classical.not_not.1 hm'
      obtain ⟨k, b, n, s, t, i, lo, ll, lc⟩ := r
      unfold SameF bareR at hs
      simp only at hs hk h5 ⊢
      obtain ⟨e1, e2, e3, e4, e5, e6⟩ := hs
      have hK : k = 1 ∨ k = 2 ∨ k = 3 ∨ k = 4 := by omega
      rcases hK with rfl | rfl | rfl | rfl
      · rw [if_neg (by decide)] at e2 e3 e4 e5 e6
        subst e2 e3 e4 e5 e6
        rfl
      · rw [if_neg (by decide)] at e1 e3 e4 e5 e6
        subst e1 e3 e4 e5 e6
        rfl
      · rw [if_neg (by decide)] at e1 e2 e4 e5 e6
        subst e1 e2 e4 e5 e6
        rfl
      · rw [if_neg (by decide)] at e1 e2 e3 e6
        subst e1 e2 e3 e6
        rfl

theorem compare_R (a b : R7) (ha : a.k ≠ 5) (hb : b.k ≠ 5) (h1 : chkFlat a = 0) (h2 : chkFlat b = 0) (w : World) :
    Calls Tryz.prog 35 #[a.val, b.val] w fun e w' => e = .returned (.int .i64 (cmpP (toP a) (toP b))) ∧ Below w.heap.size w w' := by
  rw [plain_of_chk a ha h1, plain_of_chk b hb h2]
  exact compare_plain _ _ _ _ _ _ _ _ w

theorem less_R (a b : R7) (ha : a.k ≠ 5) (hb : b.k ≠ 5) (h1 : chkFlat a = 0) (h2 : chkFlat b = 0) (w : World) :
    Calls Tryz.prog 15 #[a.val, b.val] w fun e w' => e = .returned (.bool (lessR a b)) ∧ Below w.heap.size w w' := by
  unfold lessR
  rw [← less_cmp]
  exact less_of _ _ _ w fun w' _ => compare_R a b ha hb h1 h2 w'

theorem mayB_five {k k0 : Int} (h : mayB k k0 = true) : k ≠ 5 := by
  unfold mayB at h
  simp at h
  exact h.1

/-- The loop's memory: what is left to be told is told of the rest. -/
structure ChkInv (es : List R7) (h0 : 0 < es.length) (j : Nat) : Prop where
  le : j ≤ es.length
  rest : chkFrom es[0].k none es = chkFrom es[0].k (if j = 0 then none else es[j - 1]?) (es.drop j)
  prev : ∀ (h : j - 1 < es.length), 0 < j → es[j - 1].k ≠ 5 ∧ chkFlat es[j - 1] = 0

theorem chk_start (es : List R7) (h0 : 0 < es.length) : ChkInv es h0 0 := ⟨Nat.zero_le _, rfl, fun _ h => absurd h (Nat.not_lt_zero _)⟩

/-- One round: what it tells, or how it goes on. -/
theorem chk_round {es : List R7} {h0 : 0 < es.length} {j : Nat} (inv : ChkInv es h0 j) (hj : j < es.length) :
    (mayB es[j].k es[0].k = false → chkFrom es[0].k none es = 16) ∧
    (mayB es[j].k es[0].k = true → chkFlat es[j] ≠ 0 → chkFrom es[0].k none es = chkFlat es[j]) ∧
    (mayB es[j].k es[0].k = true → chkFlat es[j] = 0 → (j = 0 ∨ ∃ h : j - 1 < es.length, lessR es[j - 1] es[j] = true) → ChkInv es h0 (j + 1)) ∧
    (mayB es[j].k es[0].k = true → chkFlat es[j] = 0 → 0 < j → (∀ h : j - 1 < es.length, lessR es[j - 1] es[j] = false) → chkFrom es[0].k none es = 1) := by
  have hd : es.drop j = es[j] :: es.drop (j + 1) := List.drop_eq_getElem_cons hj
  have hr := inv.rest
  rw [hd] at hr
  refine ⟨fun h => ?_, fun h hc => ?_, fun h hc ho => ⟨by omega, ?_, fun _ _ => ?_⟩, fun h hc hpos hl => ?_⟩
  · rw [hr, chkFrom_cons, if_pos h]
  · rw [hr, chkFrom_cons, if_neg (by rw [h]; decide), if_pos hc]
  · rw [hr, chkFrom_cons, if_neg (by rw [h]; decide), if_neg (fun hn => hn hc), if_neg]
    · rw [if_neg (by omega), Nat.add_sub_cancel, List.getElem?_eq_getElem hj]
    · rcases ho with rfl | ⟨h1, h2⟩
      · rw [if_pos rfl]
        exact fun h => by cases h
      · by_cases hz : j = 0
        · rw [if_pos hz]
          exact fun h => by cases h
        · rw [if_neg hz, List.getElem?_eq_getElem h1]
          simp [prevOk, h2]
  · simp only [Nat.add_sub_cancel]
    exact ⟨mayB_five h, hc⟩
  · rw [hr, chkFrom_cons, if_neg (by rw [h]; decide), if_neg (fun hn => hn hc), if_pos]
    rw [if_neg (by omega), List.getElem?_eq_getElem (show j - 1 < es.length by omega)]
    exact hl _

theorem chk_end {es : List R7} {h0 : 0 < es.length} {j : Nat} (inv : ChkInv es h0 j) (hj : ¬ j < es.length) : chkFrom es[0].k none es = 0 := by
  rw [inv.rest, List.drop_eq_nil_of_le (by omega)]
  split <;> rfl
end Go.Proofs.YtgeibceijlaoaaaGreat

namespace Go.Proofs.YtgeibceijlaoaaaGreat
open Go.RowKit Go.Sort

def smallR (r : R7) : Prop := r.s.size ≤ 1099511627776 ∧ r.t.size ≤ 1099511627776 ∧ r.i.size ≤ 1099511627776

set_option maxHeartbeats 4000000 in
set_option maxRecDepth 1000000 in
theorem checkElements_any (es : List R7) (ao : Option Addr) (c : Nat) (w : World) (hl : es.length ≤ 1048576) (hr : RowV w ao es) (hsm : ∀ e ∈ es, smallR e) :
    Calls Tryz.prog 51 #[.slice ao es.length c] w fun e w' => e = .returned (.int .i64 (chkEls es)) ∧ Below w.heap.size w w' := by
  by_cases h8 : 8 < es.length
  · have e : chkEls es = 4 := if_pos h8
    rw [e]
    have i8 : (8 : Int) < (es.length : Int) := by omega
    go_enter Tryz.func51, Tryz.ntmps51
    go_wp2
    go_ret
    exact ⟨rfl, Below.refl _ _⟩
  have i8 : ¬ (8 : Int) < (es.length : Int) := by omega
  by_cases h0 : 0 < es.length
  case neg =>
    obtain rfl : es = [] := List.eq_nil_of_length_eq_zero (by omega)
    go_enter Tryz.func51, Tryz.ntmps51
    go_wp2
    go_loopw [11] (fun iv wr => iv = .int .i64 0 ∧ wr = w) (fun _ _ => 0)
    case atStart => exact ⟨rfl, rfl⟩
    case round =>
      obtain ⟨rfl, rfl⟩ := hrel
      go_wp2
      go_ret
      exact ⟨rfl, Below.refl _ _⟩
  have e : chkEls es = chkFrom es[0].k none es := by
    unfold chkEls
    rw [if_neg h8]
    cases es with
    | nil => exact absurd h0 (Nat.lt_irrefl _)
    | cons a t => rfl
  have HE := hide e
  clear e
  have Hsm := hide hsm
  clear hsm
  go_enter Tryz.func51, Tryz.ntmps51
  go_wp2
  go_loopw [11] (fun iv wr => ∃ i : Nat, iv = .int .i64 i ∧ ChkInv es h0 i ∧ Below w.heap.size w wr) (fun iv _ => es.length - (intOf iv).toNat)
  case atStart => exact ⟨0, by go_num, chk_start es h0, Below.refl _ _⟩
  case round =>
    obtain ⟨j, rfl, inv, hbw⟩ := hrel
    by_cases hlt : j < es.length
    · have i1 : (j : Int) < (es.length : Int) := by omega
      have i0 : (0 : Int) < (es.length : Int) := by omega
      have HR := hide (chk_round inv hlt)
      have Hinv := hide inv
      obtain ⟨b, off, rfl, A, hb⟩ := rowV_at hr hbw hlt
      obtain ⟨b', off', e', A0, _⟩ := rowV_at hr hbw h0
      cases e'
      rw [Nat.zero_mul, Nat.add_zero] at A0
      obtain ⟨s1, s2, s3⟩ := unhide Hsm es[j] (List.getElem_mem _)
      have LS := fun (h : j - 1 < es.length) (hp : 0 < j) (h5 : es[j].k ≠ 5) (hc : chkFlat es[j] = 0) (w : World) => less_R es[j - 1] es[j] (inv.prev h hp).1 h5 (inv.prev h hp).2 hc w
      have AP := fun (h : j - 1 < es.length) => rowV_at hr hbw h
      obtain ⟨r, er⟩ : ∃ r, r = es[j] := ⟨_, rfl⟩
      obtain ⟨r0, er0⟩ : ∃ r0, r0 = es[0] := ⟨_, rfl⟩
      rw [← er] at A s1 s2 s3 HR LS
      rw [← er0] at A0 HR HE
      clear er er0 inv
      have M := mayStandBy_any r r0
      have CF := fun (h5 : r.k ≠ 5) w => vcheck_flat r w h5 s1 s2 s3
      unfold R7.val at M CF LS
      obtain ⟨a0, a1, a2, a3, a4, a5, a6⟩ := A
      go_wp2_with fail
      have A3 := at7_new wr r
      have b3 : Below w.heap.size w (wr.alloc (.cells #[.int .i64 r.k, .bool r.b, .int .i64 r.n, .string r.s, .string r.t, .string r.i, .slice r.lo r.ll r.lc] 26)) := hbw.alloc hbw.size _
      have bw3 := below1 wr (.cells #[.int .i64 r.k, .bool r.b, .int .i64 r.n, .string r.s, .string r.t, .string r.i, .slice r.lo r.ll r.lc] 26)
      have z3 := size1 wr (.cells #[.int .i64 r.k, .bool r.b, .int .i64 r.n, .string r.s, .string r.t, .string r.i, .slice r.lo r.ll r.lc] 26)
      have z0 := (A0.below bw3 (by have := hbw.size; omega)).up
      clear a0 a1 a2 a3 a4 a5 a6 A0
      generalize wr.alloc _ = w3 at *
      have A3u := A3.up
      obtain ⟨a0, a1, a2, a3, a4, a5, a6⟩ := A3u
      obtain ⟨e0, e1, e2, e3, e4, e5, e6⟩ := z0
      simp only [Nat.zero_add] at a1 a2 a3 a4 a5 a6
      have cS := fun d os => Calls.regrown_of (w := w3) (d := d) (os := os) (M (grow (redrawn w3 d) os))
      clear M
      refine wp_region_quiet_below (by kernel_rfl) (by kernel_rfl) ?_
      repeat (quiet_step (exact cS _ _))
      refine wpQuiet_nil ?_
      intro _ hw'
      obtain ⟨⟨dq, osq⟩, hw''⟩ := hw'
      subst hw''
      have b34 := below_regrown w3 dq osq
      have b4 := b3.trans (b34.mono b3.size)
      have A4 := A3.below b34 (by omega)
      have bw4 := bw3.trans (b34.mono bw3.size)
      generalize grow (redrawn w3 dq) osq = w4 at *
      clear a0 a1 a2 a3 a4 a5 a6 e0 e1 e2 e3 e4 e5 e6 cS A3
      cases hm : mayB r.k r0.k with
      | false =>
        go_wp2
        go_ret
        refine ⟨ret_int ?_, b4⟩
        rw [unhide HE, (unhide HR).1 hm]
      | true =>
        have h5 := mayB_five hm
        have Hm := hide hm
        obtain ⟨a0, a1, a2, a3, a4, a5, a6⟩ := A4
        simp only [Nat.zero_add] at a1 a2 a3 a4 a5 a6
        have CFw := CF h5 w4
        by_cases hc : chkFlat r = 0
        · rw [hc] at CFw
          have Hc := hide hc
          clear hc hm
          go_wp2_with fail
          refine CFw.mono ?_
          rintro e w5 ⟨rfl, b45⟩
          have b5 := b4.trans (b45.mono b4.size)
          have A5 : At7 w5 wr.heap.size 0 r := At7.below ⟨a0, a1, a2, a3, a4, a5, a6⟩ b45 (by have := b34.size; omega)
          have bw5 := bw4.trans (b45.mono bw4.size)
          clear a0 a1 a2 a3 a4 a5 a6 CFw CF
          by_cases hj0 : j = 0
          · subst hj0
            clear AP LS A5
            go_wp2_with fail
            go_quiet (fail)
            have b6 := b5.trans ((below_drewN w5 nq).mono b5.size)
            go_wp2
            go_roundw
            case rel => exact ⟨1, by go_num, (unhide HR).2.2.1 (unhide Hm) (unhide Hc) (.inl (by trivial)), b6⟩
            case measure =>
              simp only [intOf]
              omega
          · have hp : 0 < j := by omega
            have hpl : j - 1 < es.length := by omega
            obtain ⟨b', off', e', AQ, _⟩ := AP hpl
            cases e'
            have LQ := LS hpl hp h5 (unhide Hc)
            have HX := hide (show ∀ x, x = lessR es[j - 1] r → (x = true → ChkInv es h0 (j + 1)) ∧ (x = false → chkFrom r0.k none es = 1) from fun x hx => ⟨fun h => (unhide HR).2.2.1 (unhide Hm) (unhide Hc) (.inr ⟨hpl, by rw [← hx]; exact h⟩), fun h => (unhide HR).2.2.2 (unhide Hm) (unhide Hc) hp (fun _ => by rw [← hx]; exact h)⟩)
            obtain ⟨p, ep⟩ : ∃ p, p = es[j - 1] := ⟨_, rfl⟩
            rw [← ep] at AQ LQ HX
            clear ep AP LS
            generalize hx : lessR p r = x at *
            have HX' := hide (unhide HX x rfl)
            clear hx HX
            have AQ5 := (AQ.below bw5 (by have := hbw.size; omega)).up
            have AR5 := A5.up
            clear A5 AQ
            obtain ⟨a0, a1, a2, a3, a4, a5, a6⟩ := AR5
            obtain ⟨e0, e1, e2, e3, e4, e5, e6⟩ := AQ5
            simp only [Nat.zero_add] at a1 a2 a3 a4 a5 a6
            have ej : (j : Int) - 1 = ((j - 1 : Nat) : Int) := by omega
            have hg : decide ((0 : Int) < (j : Int)) = true := decide_eq_true (by omega)
            have ew : IntKind.i64.wrap ((j - 1 : Nat) : Int) = ((j - 1 : Nat) : Int) := by rw [IntKind.wrap_i64]; omega
            have k0 : (0 : Int) ≤ ((j - 1 : Nat) : Int) := by omega
            have k1 : ((j - 1 : Nat) : Int) < (es.length : Int) := by omega
            have cS := fun d os => Calls.regrown_of (w := w5) (d := d) (os := os) (LQ (grow (redrawn w5 d) os))
            clear LQ
            go_wp2_with fail
            refine wp_region_quiet_below (by kernel_rfl) (by kernel_rfl) ?_
            repeat (quiet_step (exact cS _ _))
            refine wpQuiet_nil ?_
            intro _ hw'
            obtain ⟨⟨dq2, osq2⟩, hw''⟩ := hw'
            subst hw''
            have b6 := b5.trans ((below_regrown w5 dq2 osq2).mono b5.size)
            generalize grow (redrawn w5 dq2) osq2 = w6 at *
            clear a0 a1 a2 a3 a4 a5 a6 e0 e1 e2 e3 e4 e5 e6 cS
            cases x
            · go_wp2
              go_ret
              refine ⟨ret_int ?_, b6⟩
              rw [unhide HE, (unhide HX').2 (by trivial)]
            · go_wp2
              go_roundw
              case rel => exact ⟨j + 1, by go_num, (unhide HX').1 (by trivial), b6⟩
              case measure =>
                simp only [intOf]
                omega
        · have Hc := hide hc
          have hcb : (chkFlat r == 0) = false := by simpa using hc
          have HV := hide (show chkEls es = chkFlat r by rw [unhide HE]; exact (unhide HR).2.1 hm hc)
          clear hc hm
          generalize chkFlat r = x at *
          go_wp2_with fail
          refine CFw.mono ?_
          rintro e w5 ⟨rfl, b45⟩
          go_wp2
          go_ret
          exact ⟨ret_int (unhide HV).symm, b4.trans (b45.mono b4.size)⟩
    · have i1 : ¬ (j : Int) < (es.length : Int) := by omega
      have HV := hide (show chkEls es = 0 by rw [unhide HE]; exact chk_end inv hlt)
      go_wp2
      go_ret
      exact ⟨ret_int (unhide HV).symm, hbw⟩

set_option maxHeartbeats 2000000 in
set_option maxRecDepth 1000000 in
theorem cc_elements (es : List R7) (ao : Option Addr) (c : Nat) (w : World) (hl : es.length ≤ 1048576) (hr : RowV w ao es) (hsm : ∀ e ∈ es, smallR e) :
    Calls Tryz.prog 31 #[.iface 65 (.slice ao es.length c)] w fun e w' => e = .returned (.int .i64 (chkEls es)) ∧ Below w.heap.size w w' := by
  have C := checkElements_any es ao c w hl hr hsm
  generalize es.length = n at *
  have h1 : ∀ w, (Instr.typeAssert (.iface 65 (.slice ao n c)) 55 83 true).run Tryz.prog w = .ok (.tuple #[.string ⟨#[]⟩, .bool false]) w := fun w => by kernel_rfl
  have h2 : ∀ w, (Instr.typeAssert (.iface 65 (.slice ao n c)) 55 84 true).run Tryz.prog w = .ok (.tuple #[.agg #[.string ⟨#[]⟩, .string ⟨#[]⟩], .bool false]) w := fun w => by kernel_rfl
  have h3 : ∀ w, (Instr.typeAssert (.iface 65 (.slice ao n c)) 55 65 true).run Tryz.prog w = .ok (.tuple #[.slice ao n c, .bool true]) w := fun w => by kernel_rfl
  go_enter Tryz.func31, Tryz.ntmps31
  go_wp2_with fail
  refine C.mono ?_
  rintro e w2 ⟨rfl, b2⟩
  go_wp2
  go_ret
  exact ⟨rfl, b2⟩

set_option maxHeartbeats 400000 in
set_option maxRecDepth 100000 in
theorem elementsVal_any (lo : Option Addr) (ll lc : Nat) (w : World) :
    Calls Tryz.prog 97 #[.slice lo ll lc] w fun e w' => e = .returned (R7.val ⟨5, false, 0, ba [], ba [], ba [], lo, ll, lc⟩) ∧ Below w.heap.size w w' := by
  go_enter Tryz.func97, Tryz.ntmps97
  go_wp2
  exact bodyPost_ret (v := .agg #[.int .i64 5, .bool false, .int .i64 0, .string ⟨#[]⟩, .string ⟨#[]⟩, .string ⟨#[]⟩, .slice lo ll lc]) (by simp [results, Tryz.results97, go_sem]) rfl ⟨rfl, below1 _ _⟩

theorem mv_elements (v : Value) (w : World) : (method 256 65 v "chancel/value.value").run Tryz.prog w = .ok (97, v) w := by kernel_rfl
theorem ev_elements (v : Array Value) (w : World) : (callFunc 97 v).run Tryz.prog w = .ok (.enter 97 v) w := by kernel_rfl

/-- What a set is told. -/
def chkSet (r : R7) (es : List R7) : Int := if moreB r then 1 else chkEls es

theorem vcheck_set (r : R7) (es : List R7) (w : World) (h5 : r.k = 5) (hn : r.ll = es.length) (hl : es.length ≤ 1048576) (hr : RowV w r.lo es) (hsm : ∀ e ∈ es, smallR e) :
    Calls Tryz.prog 10 #[r.val] w fun e w' => e = .returned (.int .i64 (chkSet r es)) ∧ Below w.heap.size w w' := by
  have eb : (bareR r).val = R7.val ⟨5, false, 0, ba [], ba [], ba [], r.lo, r.ll, r.lc⟩ := by simp [bareR, h5, R7.val]
  have hH := fun w => hasMore_any r w
  rw [eb] at hH
  refine vcheck_of r _ 65 97 (.slice r.lo r.ll r.lc) (chkEls es) _ (moreB r) w (fun w => contentOf_kind r _ _ w (.inr (.inr (.inr (.inr ⟨h5, rfl, rfl⟩))))) (fun w => ta_no _ _ w (by simp)) (mv_elements _) (ev_elements _) (fun w => elementsVal_any _ _ _ w) hH (fun _ w' hb => ?_) rfl
  rw [hn]
  exact cc_elements es r.lo r.lc w' hl (hr.below hb) hsm
end Go.Proofs.YtgeibceijlaoaaaGreat

namespace Go.Proofs.YtgeibceijlaoaaaGreat
open Go.RowKit Go.Sort

def smallR' (r : R7) : Prop := r.s.size ≤ 1048576 ∧ r.t.size ≤ 1048576 ∧ r.i.size ≤ 1048576

theorem r3less_R (a b : R7) (ha : a.k ≠ 5) (hb : b.k ≠ 5) (h1 : chkFlat a = 0) (h2 : chkFlat b = 0) (w : World) :
    Calls Tryz.prog 16 #[a.val, b.val] w fun e w' => e = .returned (.bool (lessR a b)) ∧ Below w.heap.size w w' := by
  rw [plain_of_chk a ha h1, plain_of_chk b hb h2]
  exact r3less_plain _ _ _ _ w

set_option maxHeartbeats 8000000 in
set_option maxRecDepth 1000000 in
theorem r3check_set (r : R7) (es : List R7) (w : World) (h5 : r.k = 5) (hn : r.ll = es.length) (hl : es.length ≤ 1048576) (hr : RowV w r.lo es) (hsm : ∀ e ∈ es, smallR' e) :
    Calls Tryz.prog 11 #[r.val] w fun e w' => e = .returned (.int .i64 (chkSet r es)) ∧ Below w.heap.size w w' := by
  have CL := fun w => r3clean_any r w
  have A := at7_new w r
  have b1 := below1 w (.cells #[.int .i64 r.k, .bool r.b, .int .i64 r.n, .string r.s, .string r.t, .string r.i, .slice r.lo r.ll r.lc] 26)
  have z1 := size1 w (.cells #[.int .i64 r.k, .bool r.b, .int .i64 r.n, .string r.s, .string r.t, .string r.i, .slice r.lo r.ll r.lc] 26)
  have hr1 := hr.below b1
  have hm0 : chkSet r es = if moreB r then 1 else chkEls es := rfl
  generalize moreB r = mb at *
  obtain ⟨k, b, n, s, t, i, lo, ll, lc⟩ := r
  simp only at h5 hn hr hr1
  subst h5 hn
  unfold R7.val at *
  simp only at A b1 z1 hr1 CL ⊢
  cases mb with
  | true =>
    rw [hm0, if_pos rfl]
    clear hm0
    go_enter Tryz.func11, Tryz.ntmps11
    go_wp2_with fail
    generalize w.alloc _ = w1 at *
    refine (CL _).mono ?_
    rintro e w2 ⟨rfl, b2⟩
    go_wp2
    go_ret
    exact ⟨rfl, b1.trans (b2.mono b1.size)⟩
  | false =>
    rw [hm0, if_neg (by simp)]
    clear hm0
    have e8 : 8 < es.length → chkEls es = 4 := fun h => if_pos h
    have eR : ¬ 8 < es.length → ∀ h0 : 0 < es.length, chkEls es = chkFrom es[0].k none es := fun h8 h0 => by
      unfold chkEls
      rw [if_neg h8]
      cases es with
      | nil => simp at h0
      | cons e t => rfl
    have e00 : es.length = 0 → chkEls es = 0 := fun h0 => by
      obtain rfl : es = [] := List.eq_nil_of_length_eq_zero h0
      rfl
    generalize chkEls es = R at *
    have He8 := hide e8
    have HeR := hide eR
    have He0 := hide e00
    clear e8 eR e00
    go_enter Tryz.func11, Tryz.ntmps11
    go_wp2_with fail
    generalize w.alloc _ = w1 at *
    refine (CL _).mono ?_
    rintro e w2 ⟨rfl, b2⟩
    have A2 := A.below b2 (by omega)
    have hr2 := hr1.below b2
    have b12 := b1.trans (b2.mono b1.size)
    have hB2 : w.heap.size < w2.heap.size := by have := b2.size; omega
    clear A hr1 CL hr
    by_cases h8 : 8 < es.length
    · have i8 : (8 : Int) < (es.length : Int) := by omega
      obtain ⟨x0, x1, x2, x3, x4, x5, x6⟩ := A2
      simp only [Nat.zero_add] at x1 x2 x3 x4 x5 x6
      go_wp2
      go_ret
      exact ⟨ret_int (unhide He8 h8).symm, b12⟩
    have i8 : ¬ (8 : Int) < (es.length : Int) := by omega
    have A2k := hide A2
    obtain ⟨x0, x1, x2, x3, x4, x5, x6⟩ := A2
    simp only [Nat.zero_add] at x1 x2 x3 x4 x5 x6
    go_wp2
    clear x0 x1 x2 x3 x4 x5 x6
    go_loopw [3] (fun iv wr => ∃ j : Nat, j ≤ es.length ∧ iv = .int .i64 j ∧ Below w2.heap.size w2 wr ∧ (∀ q (hq : q < es.length), q < j → es[q].k ≠ 5 ∧ chkFlat es[q] = 0) ∧
        (∀ h0 : 0 < es.length, chkFrom es[0].k (if h : 0 < j ∧ j ≤ es.length then some (es[j - 1]'(by omega)) else none) (es.drop j) = R)) (fun iv _ => es.length - (intOf iv).toNat)
    case atStart => exact ⟨0, Nat.zero_le _, rfl, Below.refl _ _, fun q _ h => by omega, fun h0 => by rw [dif_neg (by omega), List.drop_zero, unhide HeR h8 h0]⟩
    case round =>
      obtain ⟨j, hj, rfl, hbw, hflat, hacc⟩ := hrel
      have A3 := (unhide A2k).below hbw hB2
      by_cases hlt : j < es.length
      · have h0 : 0 < es.length := by omega
        have i1 : (j : Int) < (es.length : Int) := by omega
        have i0 : (0 : Int) < (es.length : Int) := by omega
        have hac := hacc h0
        rw [List.drop_eq_getElem_cons hlt, chkFrom_cons] at hac
        obtain ⟨bb, off, rfl, E, hbb⟩ := rowV_at hr2 hbw hlt
        obtain ⟨b', off', e', E0, _⟩ := rowV_at hr2 hbw h0
        cases e'
        rw [Nat.zero_mul, Nat.add_zero] at E0
        obtain ⟨e1, ee⟩ : ∃ e1, e1 = es[j] := ⟨_, rfl⟩
        obtain ⟨k0, ek⟩ : ∃ k0, k0 = es[0].k := ⟨_, rfl⟩
        have hsm1 : smallR' e1 := by rw [ee]; exact hsm _ (List.getElem_mem _)
        rw [← ee] at E hac
        rw [← ek] at hac
        have Hac := hide hac
        have Hflat := hide hflat
        have Hee := hide ee
        have Hek := hide ek
        have c0 := E0.up.c0
        rw [← ek] at c0
        have Ek := hide E
        have d0 := E.up.c0
        have x6 := A3.up.c6
        have x6p := A3.c6
        simp only [Nat.zero_add] at x6 x6p
        clear hac hflat hacc ee ek E E0
        by_cases h5 : e1.k = 5
        · have f5 : (e1.k == 5) = true := by simpa using h5
          have hR : R = 16 := by rw [← unhide Hac, if_pos (by simp [mayB, h5])]
          have HR := hide hR
          clear h5 hR
          go_wp2_with fail
          refine wp_region_quiet_below (by kernel_rfl) (by kernel_rfl) ?_
          repeat (go_big_quiet_step (fail))
          refine wpQuiet_nil ?_
          intro _ hw'
          obtain ⟨⟨dq, osq⟩, hw''⟩ := hw'
          subst hw''
          have b4 : Below w2.heap.size w2 (grow (redrawn wr dq) osq) := hbw.trans ((below_regrown wr dq osq).mono hbw.size)
          generalize grow (redrawn wr dq) osq = w4 at *
          clear x6 x6p c0 d0
          go_wp2
          go_ret
          exact ⟨ret_int (unhide HR).symm, b12.trans (b4.mono b12.size)⟩
        have f5 : (e1.k == 5) = false := by simpa using h5
        by_cases h6 : e1.k = k0
        case neg =>
          have f6 : (e1.k != k0) = true := by simpa using h6
          have hR : R = 16 := by rw [← unhide Hac, if_pos (by simp [mayB, h6])]
          have HR := hide hR
          clear h5 h6 hR
          go_wp2_with fail
          refine wp_region_quiet_below (by kernel_rfl) (by kernel_rfl) ?_
          repeat (quiet_step (fail))
          refine wpQuiet_nil ?_
          intro _ hw'
          obtain ⟨⟨dq, osq⟩, hw''⟩ := hw'
          subst hw''
          have b4 : Below w2.heap.size w2 (grow (redrawn wr dq) osq) := hbw.trans ((below_regrown wr dq osq).mono hbw.size)
          generalize grow (redrawn wr dq) osq = w4 at *
          clear x6 x6p c0 d0
          go_wp2
          go_ret
          exact ⟨ret_int (unhide HR).symm, b12.trans (b4.mono b12.size)⟩
        have f6 : (e1.k != k0) = false := by simpa using h6
        have hmay : mayB e1.k k0 = true := by simp [mayB, h5, h6.symm]
        have hac2 := unhide Hac
        rw [if_neg (by rw [hmay]; simp)] at hac2
        have Hac2 := hide hac2
        have H5 := hide h5
        have CF := fun w => r3check_flat e1 w h5 hsm1.1 hsm1.2.1 hsm1.2.2
        clear hac2 Hac h5 h6 hmay
        go_wp2_with fail
        refine wp_region_quiet_below (by kernel_rfl) (by kernel_rfl) ?_
        repeat (quiet_step (fail))
        refine wpQuiet_nil ?_
        intro _ hw'
        obtain ⟨⟨dq, osq⟩, hw''⟩ := hw'
        subst hw''
        have b4r := below_regrown wr dq osq
        have b4 : Below w2.heap.size w2 (grow (redrawn wr dq) osq) := hbw.trans (b4r.mono hbw.size)
        generalize grow (redrawn wr dq) osq = w4 at *
        have hbb4 : bb < wr.heap.size := by have := hbw.size; omega
        have E4 := (unhide Ek).below b4r hbb4
        have A4 := (unhide A2k).below b4 hB2
        clear x6 x6p c0 d0
        obtain ⟨y0, y1, y2, y3, y4, y5, y6⟩ := E4
        have x6 := A4.c6
        simp only [Nat.zero_add] at x6
        unfold R7.val at CF
        obtain ⟨cf, hcf⟩ : ∃ cf, cf = chkFlat e1 := ⟨_, rfl⟩
        rw [← hcf] at CF
        have Hcf := hide hcf
        clear hcf
        go_wp2_with fail
        refine (CF _).mono ?_
        rintro e w5 ⟨rfl, b5⟩
        have b45 := b4.trans (b5.mono b4.size)
        clear y0 y1 y2 y3 y4 y5 y6 x6
        by_cases hc0 : cf = 0
        case neg =>
          have fc : (cf != 0) = true := by simpa using hc0
          have hR : R = cf := by rw [← unhide Hac2, if_pos (by rw [← unhide Hcf]; exact hc0), unhide Hcf]
          have HR := hide hR
          clear hR hc0
          go_wp2
          go_ret
          exact ⟨ret_int (unhide HR).symm, b12.trans (b45.mono b12.size)⟩
        subst hc0
        have hac3 := unhide Hac2
        rw [if_neg (by rw [← unhide Hcf]; simp)] at hac3
        have Hac3 := hide hac3
        clear hac3 Hac2
        have flat' : ∀ q (hq : q < es.length), q < j + 1 → es[q].k ≠ 5 ∧ chkFlat es[q] = 0 := fun q hq hqj => by
          by_cases e : q = j
          · subst e
            rw [← unhide Hee]
            exact ⟨unhide H5, (unhide Hcf).symm⟩
          · exact unhide Hflat q hq (by omega)
        have Hflat' := hide flat'
        clear flat'
        have hbb5 : bb < w5.heap.size := by have := b45.size; omega
        have b5r : Below wr.heap.size wr w5 := b4r.trans (b5.mono b4r.size)
        by_cases hj0 : 0 < j
        · have ip : (0 : Int) < (j : Int) := by omega
          obtain ⟨b'', off'', e'', P, _⟩ := rowV_at hr2 b45 (j := j - 1) (by omega)
          cases e''
          obtain ⟨p, ep⟩ : ∃ p, p = es[j - 1]'(by omega) := ⟨_, rfl⟩
          rw [← ep] at P
          have hpf := unhide Hflat (j - 1) (by omega) (by omega)
          rw [← ep] at hpf
          have E5 := (((unhide Ek).below b5r hbb4)).up
          have P5 := P.up
          have x6 := ((unhide A2k).below b45 hB2).up.c6
          simp only [Nat.zero_add] at x6
          have M := fun d os => r3less_R p e1 hpf.1 (unhide H5) hpf.2 (unhide Hcf).symm (grow (redrawn w5 d) os)
          have hpv : prevOk (some p) e1 = lessR p e1 := rfl
          have hac4 := unhide Hac3
          rw [dif_pos ⟨hj0, hj⟩, ← ep, hpv] at hac4
          generalize lessR p e1 = lb at *
          have Hac4 := hide hac4
          have Hep := hide ep
          unfold R7.val at M
          obtain ⟨y0, y1, y2, y3, y4, y5, y6⟩ := E5
          obtain ⟨p0, p1, p2, p3, p4, p5, p6⟩ := P5
          have cS := fun d os => Calls.regrown_of (w := w5) (d := d) (os := os) (M d os)
          have ej : (j : Int) - 1 = ((j - 1 : Nat) : Int) := by omega
          have hg : decide ((0 : Int) < (j : Int)) = true := decide_eq_true (by omega)
          have ew : IntKind.i64.wrap ((j - 1 : Nat) : Int) = ((j - 1 : Nat) : Int) := by rw [IntKind.wrap_i64]; omega
          have k0' : (0 : Int) ≤ ((j - 1 : Nat) : Int) := by omega
          have k1' : ((j - 1 : Nat) : Int) < (es.length : Int) := by omega
          clear M hac4 ep hpf hpv P Hac3
          go_wp2_with fail
          refine wp_region_quiet_below (by kernel_rfl) (by kernel_rfl) ?_
          repeat (quiet_step (exact cS _ _))
          refine wpQuiet_nil ?_
          intro _ hw'
          obtain ⟨⟨dq2, osq2⟩, hw''⟩ := hw'
          subst hw''
          have b6 : Below w2.heap.size w2 (grow (redrawn w5 dq2) osq2) := b45.trans ((below_regrown w5 dq2 osq2).mono b45.size)
          generalize grow (redrawn w5 dq2) osq2 = w6 at *
          clear x6 y0 y1 y2 y3 y4 y5 y6 p0 p1 p2 p3 p4 p5 p6 cS
          cases lb
          · have hR : R = 1 := by have := unhide Hac4; rw [if_pos rfl] at this; exact this.symm
            have HR := hide hR
            clear hR
            go_wp2
            go_ret
            exact ⟨ret_int (unhide HR).symm, b12.trans (b6.mono b12.size)⟩
          · go_wp2
            go_roundw
            case rel =>
              refine ⟨j + 1, by omega, by go_num, b6, unhide Hflat', fun h0 => ?_⟩
              have := unhide Hac4
              rw [if_neg (by simp)] at this
              rw [dif_pos ⟨by omega, by omega⟩, ← unhide Hek]
              simp only [Nat.add_sub_cancel]
              rw [← unhide Hee]
              exact this
            case measure =>
              simp only [intOf]
              omega
        · obtain rfl : j = 0 := by omega
          have hac4 := unhide Hac3
          rw [dif_neg (by omega), show prevOk none e1 = true from rfl, if_neg (by simp)] at hac4
          have Hac4 := hide hac4
          clear hac4 Hac3
          have hg : decide ((0 : Int) < ((0 : Nat) : Int)) = false := by decide
          go_wp2_with fail
          refine wp_region_quiet_below (by kernel_rfl) (by kernel_rfl) ?_
          repeat (go_big_quiet_step (fail))
          refine wpQuiet_nil ?_
          intro _ hw'
          obtain ⟨⟨dq2, osq2⟩, hw''⟩ := hw'
          subst hw''
          have b6 : Below w2.heap.size w2 (grow (redrawn w5 dq2) osq2) := b45.trans ((below_regrown w5 dq2 osq2).mono b45.size)
          generalize grow (redrawn w5 dq2) osq2 = w6 at *
          go_wp2
          go_roundw
          case rel =>
            refine ⟨1, by omega, by go_num, b6, unhide Hflat', fun h0 => ?_⟩
            rw [dif_pos ⟨by omega, by omega⟩, ← unhide Hek]
            simp only [Nat.sub_self]
            rw [← unhide Hee]
            exact unhide Hac4
          case measure =>
            simp only [intOf]
            omega
      · have i1 : ¬ (j : Int) < (es.length : Int) := by omega
        obtain rfl : j = es.length := by omega
        have x6 := A3.c6
        simp only [Nat.zero_add] at x6
        have hR : R = 0 := by
          by_cases h0 : 0 < es.length
          · rw [← hacc h0, List.drop_length]
            split <;> rfl
          · exact unhide He0 (by omega)
        have HR := hide hR
        clear hR hacc hflat
        go_wp2
        go_ret
        exact ⟨ret_int (unhide HR).symm, b12.trans (hbw.mono b12.size)⟩
end Go.Proofs.YtgeibceijlaoaaaGreat

namespace Go.Proofs.YtgeibceijlaoaaaGreat
open Go.RowKit Go.Sort

set_option maxHeartbeats 1000000 in
theorem within3_any (a n : Int) (hn : 0 < n) (hn1 : n ≤ 4294967296) (w : World) :
    Calls Tryz.prog 12 #[.int .i64 a, .int .i64 n] w fun e w' => e = .returned (.int .i64 (a % n)) ∧ w' = w := by
  go_enter Tryz.func12, Tryz.ntmps12
  go_wp2
  · go_ret
    exact ⟨ret_int (tmod_neg a n hn hn1 (by assumption)), rfl⟩
  · go_ret
    exact ⟨ret_int (tmod_pos a n hn (by assumption)), rfl⟩

/-- What a plain value is told by Check. -/
def chkP : PV → Int
  | .bool _ => 0
  | .long _ => 0
  | .str s => chkT s
  | .uid t i => chkU t i
theorem chkFlat_ofP (p : PV) : chkFlat (ofP p) = chkP p := by
  cases p <;> simp [chkFlat, moreB, SameF, bareR, ofP, chkP, ba]

def smallP : PV → Prop
  | .str s => s.length ≤ 1099511627776
  | .uid t i => t.length ≤ 1099511627776 ∧ i.length ≤ 1099511627776
  | _ => True
theorem vcheck_ofP (p : PV) (w : World) (h : smallP p) : Calls Tryz.prog 10 #[(ofP p).val] w fun e w' => e = .returned (.int .i64 (chkP p)) ∧ Below w.heap.size w w' := by
  rw [← chkFlat_ofP]
  have h0 : (ba []).size ≤ 1099511627776 := by decide
  cases p with
  | bool b => exact vcheck_flat _ w (show (1 : Int) ≠ 5 by decide) h0 h0 h0
  | long n => exact vcheck_flat _ w (show (2 : Int) ≠ 5 by decide) h0 h0 h0
  | str s => exact vcheck_flat _ w (show (3 : Int) ≠ 5 by decide) (by rw [Lib.size_eq]; exact h) h0 h0
  | uid t i => exact vcheck_flat _ w (show (4 : Int) ≠ 5 by decide) h0 (by rw [Lib.size_eq]; exact h.1) (by rw [Lib.size_eq]; exact h.2)

theorem intsAt_own {w : World} {B : Nat} {v : Value} {zs : List Int} (h : w.ownsRow B 3 1 v zs.length (zs.map (Value.int .i64))) : ∃ ao cap, v = .slice ao zs.length cap ∧ IntsAt w ao zs := by
  rcases h.2 with ⟨hv, h0⟩ | ⟨g, cap, cur, hv, _, hg, _, _, hcs, hxs⟩
  · exact ⟨none, 0, by rw [hv, h0], fun j hj => by omega⟩
  · refine ⟨_, cap, hv, fun j hj => ⟨g, 0, rfl, (Array.getElem?_eq_some_iff.1 hg).1, ?_⟩⟩
    rw [cell_of_block hg, Nat.zero_add]
    have : (zs.map (Value.int .i64))[j]? = some (.int .i64 zs[j]) := by rw [List.getElem?_map, List.getElem?_eq_getElem hj]; rfl
    rw [← hxs, List.getElem?_take] at this
    split at this
    · simpa using this
    · cases this

theorem infoInt : (Tryz.prog.info? 3).map (fun i => (i.zero, i.size, i.bytes)) = some (some (.int .i64 0), 1, 8) := by kernel_rfl
theorem runes_txt (zs : List Int) : runes (txt zs) = picks zs := runes_ofL _ (picks_ok zs)
theorem okL_txt (zs : List Int) : okL (txt zs) = true := okL_ofL _ (picks_ok zs)
end Go.Proofs.YtgeibceijlaoaaaGreat

namespace Go.Proofs.YtgeibceijlaoaaaGreat
open Go.RowKit Go.Sort

theorem toP_ofP (p : PV) : toP (ofP p) = p := by cases p <;> rfl

theorem mayB_same (p : PV) (k0 : Int) (h : (p.kind : Int) = k0) : mayB (ofP p).k k0 = true := by
  rw [ofP_k, ← h]
  cases p <;> simp [mayB, PV.kind]

theorem chkFrom_ok (k0 : Int) : ∀ (S : List PV) (prev : Option PV), (∀ p ∈ S, (p.kind : Int) = k0 ∧ chkP p = 0) → Rising lessP S → (∀ p q, prev = some p → S.head? = some q → lessP p q = true) → chkFrom k0 (prev.map ofP) (S.map ofP) = 0
  | [], prev, _, _, _ => by cases prev <;> rfl
  | q :: S, prev, h1, h2, h3 => by
    have hq := h1 q (by simp)
    have h2' := List.pairwise_cons.1 h2
    rw [List.map_cons, chkFrom_cons, if_neg (by rw [mayB_same q k0 hq.1]; decide), chkFlat_ofP, if_neg (fun hn => hn hq.2), if_neg]
    · refine chkFrom_ok k0 S (some q) (fun p hp => h1 p (List.mem_cons_of_mem _ hp)) h2'.2 (fun p r hp hr => ?_)
      cases hp
      exact h2'.1 r (List.mem_of_mem_head? hr)
    · cases prev with
      | none => exact fun h => by cases h
      | some p =>
        have := h3 p q rfl rfl
        simp [prevOk, lessR, toP_ofP, this]

theorem chkEls_ok (S : List PV) (h8 : S.length ≤ 8) (hk : ∀ p ∈ S, ∀ q ∈ S, p.kind = q.kind) (hc : ∀ p ∈ S, chkP p = 0) (hr : Rising lessP S) : chkEls (S.map ofP) = 0 := by
  unfold chkEls
  rw [List.length_map, if_neg (by omega)]
  cases S with
  | nil => rfl
  | cons q S =>
    show chkFrom (ofP q).k none ((q :: S).map ofP) = 0
    refine chkFrom_ok _ (q :: S) none (fun p hp => ⟨?_, hc p hp⟩) hr (fun p _ h => by cases h)
    rw [ofP_k, hk p hp q (by simp)]

theorem more_set (ao : Option Addr) (n c : Nat) : moreB (setR ao n c) = false := by
  unfold moreB
  rw [decide_eq_false_iff_not, Classical.not_not]
  exact ⟨rfl, rfl, rfl, rfl, rfl, rfl⟩

theorem small_ofP (p : PV) (h : smallP p) : smallR (ofP p) := by
  have h0 : (ba []).size ≤ 1099511627776 := by decide
  cases p with
  | bool b => exact ⟨h0, h0, h0⟩
  | long n => exact ⟨h0, h0, h0⟩
  | str s => exact ⟨by rw [Lib.size_eq]; exact h, h0, h0⟩
  | uid t i => exact ⟨h0, by rw [Lib.size_eq]; exact h.1, by rw [Lib.size_eq]; exact h.2⟩

/-- Check of a set that was made. -/
theorem vcheck_made (S : List PV) (ao : Option Addr) (c : Nat) (w : World) (h8 : S.length ≤ 8) (hk : ∀ p ∈ S, ∀ q ∈ S, p.kind = q.kind) (hc : ∀ p ∈ S, chkP p = 0) (hs : ∀ p ∈ S, smallP p) (hr : Rising lessP S) (hrow : RowV w ao (S.map ofP)) :
    Calls Tryz.prog 10 #[(setR ao S.length c).val] w fun e w' => e = .returned (.int .i64 0) ∧ Below w.heap.size w w' := by
  have h := vcheck_set (setR ao S.length c) (S.map ofP) w rfl (by rw [List.length_map]; rfl) (by rw [List.length_map]; omega) hrow (fun e he => by
    obtain ⟨p, hp, rfl⟩ := List.mem_map.1 he
    exact small_ofP p (hs p hp))
  rw [chkSet, more_set, chkEls_ok S h8 hk hc hr] at h
  exact h
end Go.Proofs.YtgeibceijlaoaaaGreat

namespace Go.Proofs.YtgeibceijlaoaaaGreat
open Go.RowKit Go.Sort

theorem run_append_none {P : Program} (w : World) (base : Nat) (t ty e : TypeId) (i : TypeInfo) (size : Nat) (ht : P.underlying t = some (.slice e)) (hi : P.info? e = some i)
    (v : Value) (n : Nat) (xs : List Value) (hown : w.ownsRow base e size v n xs) :
    (Builtin.append_ #[t, t] ty #[v, .slice none 0 0]).run P w = .ok v w := by
  rcases hown.2 with ⟨rfl, rfl⟩ | ⟨g, cap, cur, rfl, _, _, hnc, _, _, _⟩
  · simp [Builtin.append_, run_underlying ht, sizeOf, typeInfo, hi, Builtin.lenOf, Builtin.firstCells]
  · simp [Builtin.append_, run_underlying ht, sizeOf, typeInfo, hi, Builtin.lenOf, Builtin.firstCells, hnc, storeCells]

theorem wpList_append_row {P : Program} (w : World) {ops : Array Oper} {rest : List Oper} {o : Oper} {a : Act} {Q : Exit → Act → World → Prop} (hgd : o.guard = none) (s x : Operand) (t : TypeId)
    (ho : o.op = .call { callee := .builtin .append, args := #[s, x], argTypes := #[t, t] })
    (base : Nat) (e : TypeId) (i : TypeInfo) (z : Value) (size bytes : Nat) (ht : P.underlying t = some (.slice e)) (hi : P.info? e = some i) (hz : i.zero = some z)
    (hsize : i.size = size) (hby : i.bytes = bytes) (hzs : z.cells.size = size) (hsz : 0 < size)
    (v : Value) (n : Nat) (xs : List Value) (hs : a.eval s = v) (hown : w.ownsRow base e size v n xs)
    (xo : Option Addr) (m c : Nat) (news : List Value) (hx : a.eval x = .slice xo m c) (hn : xo = none → m = 0 ∧ c = 0) (hl : news.length = m * size) (hnews : ∀ ad, xo = some ad → ∀ j u, news[j]? = some u → w.cell? (ad.add j) = some u) (h1 : ∀ u ∈ news, u.oneCell' = true)
    (h63 : n + m ≤ maxLen) (hbytes : (n + m) * bytes ≤ 140737488355328) (hbase : base ≤ w.heap.size)
    (h : ∀ v' w', w'.ownsRow base e size v' (n + m) (xs ++ news) → w.grownBy w' v.ownBlock → wpList P ops Q rest (a.put o.dst v') w') : wpList P ops Q (o :: rest) a w := by
  cases xo with
  | some ad => exact wpList_append_own w hgd s x t ho base e i z size bytes ht hi hz hsize hby hzs hsz v n xs hs hown ad m c news hx hl (hnews ad rfl) h1 h63 hbytes hbase (fun v' w' h2 h3 _ => h v' w' h2 h3)
  | none =>
    obtain ⟨rfl, rfl⟩ := hn rfl
    have hnil : news = [] := List.eq_nil_of_length_eq_zero (by simpa using hl)
    subst hnil
    have hr := run_append_none w base t o.type e i size ht hi v n xs hown
    refine wpList_plain hgd fun _ hK => ?_
    unfold Oper.wp execOp
    simp only [ho, resolve, invoke, builtin, Sem.run_bind, Sem.run_pure, Result.andThen_ok, List.map_toArray, List.map_cons, List.map_nil, hs, hx, hr]
    exact hK _ _ (h v w (by simpa using hown) ⟨rfl, rfl, rfl, Nat.le_refl _, fun _ _ _ => rfl⟩)
end Go.Proofs.YtgeibceijlaoaaaGreat

namespace Go.Proofs.YtgeibceijlaoaaaGreat
open Go.RowKit Go.Sort

theorem len_ins_le (q : PV) : ∀ S : List PV, (ins lessP q S).length ≤ S.length + 1
  | [] => by simp [ins]
  | y :: S => by
    have := len_ins_le q S
    unfold ins
    split
    · simpa using this
    · split
      · simp
      · simp
theorem len_fold_le : ∀ (l S : List PV), (l.foldl (fun acc x => ins lessP x acc) S).length ≤ S.length + l.length
  | [], S => by simp
  | x :: l, S => by
    have h1 := len_fold_le l (ins lessP x S)
    have h2 := len_ins_le x S
    simp only [List.foldl_cons, List.length_cons]
    omega
theorem len_setOf_le (l : List PV) : (setOf lessP l).length ≤ l.length := by
  have := len_fold_le l []
  simpa [setOf] using this

theorem cell_lt7 {w : World} {b o : Nat} {v : Value} (h : w.cell? ⟨b, o, none⟩ = some v) : b < w.heap.size := by
  rcases Nat.lt_or_ge b w.heap.size with hl | hl
  · exact hl
  · unfold World.cell? at h
    rw [Array.getElem?_eq_none hl] at h
    cases h

theorem own_cap {w : World} {B : Nat} {ao : Option Addr} {n c m : Nat} {xs : List Value} (h : w.ownsRow B 26 7 (.slice ao n c) m xs) : m ≤ c := by
  rcases h.2 with ⟨hv, h0⟩ | ⟨g, cap, cur, hv, _, _, hc, _⟩
  · omega
  · cases hv
    exact hc
theorem own_none {w : World} {B : Nat} {ao : Option Addr} {n c m : Nat} {xs : List Value} (h : w.ownsRow B 26 7 (.slice ao n c) m xs) : ao = none → m = 0 ∧ c = 0 := by
  rcases h.2 with ⟨hv, h0⟩ | ⟨g, cap, cur, hv, _, _, hc, _⟩
  · cases hv
    exact fun _ => ⟨h0, rfl⟩
  · cases hv
    intro h
    cases h
theorem own_at {w : World} {B : Nat} {ao : Option Addr} {n c m : Nat} {xs : List Value} (h : w.ownsRow B 26 7 (.slice ao n c) m xs) : ∀ ad, ao = some ad → ad.spot = none ∧ ad.off = 0 ∧ (∀ j, (ad.add j).block < w.heap.size) ∧ ∀ j u, xs[j]? = some u → w.cell? (ad.add j) = some u := by
  intro ad e
  subst e
  rcases h.2 with ⟨hv, _⟩ | ⟨g, cap, cur, hv, hB, hg, _⟩
  · cases hv
  · cases hv
    exact ⟨rfl, rfl, fun j => (by rw [Addr.add_lit]; exact (Array.getElem?_eq_some_iff.1 hg).1), h.cells (g := g) rfl⟩

theorem news_row (w : World) (r : R7) (n : Nat) (hn : n = w.heap.size) : ∀ j u, r.cells[j]? = some u → (w.alloc (.cells #[.int .i64 r.k, .bool r.b, .int .i64 r.n, .string r.s, .string r.t, .string r.i, .slice r.lo r.ll r.lc] 26)).cell? ((⟨n, 0, none⟩ : Addr).add j) = some u := by
  intro j u hj
  rw [Addr.add_lit, Nat.zero_add, World.cell?_alloc_at _ _ _ _ hn]
  simpa [R7.cells] using hj

set_option maxHeartbeats 4000000 in
set_option maxRecDepth 100000 in
theorem r3set_plain (l : List PV) (ao : Option Addr) (ca : Nat) (w : World) (hl : l.length ≤ 1048576) (hr : RowV w ao (l.map ofP)) (hkind : ∀ p ∈ l, ∀ q ∈ l, p.kind = q.kind) :
    Calls Tryz.prog 26 #[.slice ao l.length ca] w (SetPost l w) := by
  obtain ⟨i0, hi, hz0, hz1, hz2⟩ := info_parts infoValue
  have HK := hide hkind
  clear hkind
  go_enter Tryz.func26, Tryz.ntmps26
  go_wp2
  generalize hw2 : w.alloc _ = w2
  have b02 : Below w.heap.size w w2 := by rw [← hw2]; exact below1 _ _
  have z2 : w2.heap.size = w.heap.size + 1 := by rw [← hw2]; simp
  have Hw2 := hide hw2
  clear hw2
  have hr2 := hr.below b02
  clear hr
  go_loopw [4] (fun iv wr => ∃ i : Nat, iv = .int .i64 i ∧ i ≤ l.length ∧ Below w2.heap.size w2 wr) (fun iv _ => l.length - (intOf iv).toNat)
  case atStart => exact ⟨0, by go_num, Nat.zero_le _, Below.refl _ _⟩
  case round =>
    obtain ⟨j, rfl, hj, hbw⟩ := hrel
    by_cases hlt : j < l.length
    · have i1 : (j : Int) < (l.length : Int) := by omega
      have i0 : (0 : Int) < (l.length : Int) := by omega
      have h0 : 0 < l.length := by omega
      obtain ⟨b, off, rfl, A, hb⟩ := rowV_at hr2 hbw (j := j) (by rw [List.length_map]; exact hlt)
      obtain ⟨b', off', e', A0, _⟩ := rowV_at hr2 hbw (j := 0) (by rw [List.length_map]; exact h0)
      cases e'
      rw [Nat.zero_mul, Nat.add_zero] at A0
      rw [List.getElem_map] at A A0
      have hk : (ofP l[0]).k = (ofP l[j]).k := by
        rw [ofP_k, ofP_k, unhide HK l[j] (List.getElem_mem _) l[0] (List.getElem_mem _)]
      have h5 : ((ofP l[j]).k == 5) = false := by cases l[j] <;> rfl
      obtain ⟨r, er⟩ : ∃ r, r = ofP l[j] := ⟨_, rfl⟩
      rw [← er] at A hk h5
      have e0 := A0.up.c0
      rw [hk] at e0
      have a0 := A.up.c0
      clear hk er A A0
      go_wp2_with fail
      refine wp_region_quiet_below (by kernel_rfl) (by kernel_rfl) ?_
      repeat (quiet_step (fail))
      refine wpQuiet_nil ?_
      intro _ hw'
      obtain ⟨⟨dq, osq⟩, hw''⟩ := hw'
      subst hw''
      have b4 : Below w2.heap.size w2 (grow (redrawn wr dq) osq) := hbw.trans ((below_regrown wr dq osq).mono hbw.size)
      generalize grow (redrawn wr dq) osq = w4 at *
      clear a0 e0
      go_wp2
      go_roundw
      case rel => exact ⟨j + 1, by go_num, by omega, b4⟩
      case measure =>
        simp only [intOf]
        omega
    · have i1 : ¬ (j : Int) < (l.length : Int) := by omega
      go_wp2
      obtain rfl : j = l.length := by omega
      have hr3 := hr2.below hbw
      have hc : ∀ o, (wr.cell? ⟨w.heap.size, o, none⟩) = w2.cell? ⟨w.heap.size, o, none⟩ := fun o => hbw.cell (p := ⟨w.heap.size, o, none⟩) (by show w.heap.size < _; omega)
      have hf : ∀ o, (wr.frozen? ⟨w.heap.size, o, none⟩) = w2.frozen? ⟨w.heap.size, o, none⟩ := fun o => hbw.frozen (p := ⟨w.heap.size, o, none⟩) (by show w.heap.size < _; omega)
      have Hc := hide hc
      have Hf := hide hf
      have b05 : Below w.heap.size w wr := b02.trans (hbw.mono b02.size)
      have z5 : w.heap.size < wr.heap.size := by have := hbw.size; omega
      clear hc hf hr2 i1 hlt hj hbw
      generalize wr = w5 at *
      go_loopw [5, 6] (fun uv iv wr => ∃ i : Nat, iv = .int .i64 i ∧ i ≤ l.length ∧ Below w5.heap.size w5 wr ∧ wr.ownsRow w5.heap.size 26 7 uv (setOf lessP (l.take i)).length (cellsOf (setOf lessP (l.take i)))) (fun _ iv _ => l.length - (intOf iv).toNat)
      case atStart => exact ⟨0, by go_num, Nat.zero_le _, Below.refl _ _, World.ownsRow_nil _ _ _ _⟩
      case round =>
        obtain ⟨j, rfl, hj, hbw, hown⟩ := hrel
        by_cases hlt : j < l.length
        · have i1 : (j : Int) < (l.length : Int) := by omega
          have HS1 := hide (setOf_snoc l j hlt)
          have hSl := len_setOf_le (l.take j)
          rw [List.length_take] at hSl
          obtain ⟨S, hS⟩ : ∃ S, S = setOf lessP (l.take j) := ⟨_, rfl⟩
          have hSr : Rising lessP S := by rw [hS]; exact rising_setOf sto_lessP _
          rw [← hS] at hown hSl
          have HS := hide (show setOf lessP (l.take (j + 1)) = ins lessP l[j] S by rw [unhide HS1, hS])
          have hS20 : S.length ≤ 1048576 := by omega
          have HSr := hide hSr
          clear hSl HS1 hS hSr
          obtain ⟨b, off, rfl, Aq, hb⟩ := rowV_at hr3 hbw (j := j) (by rw [List.length_map]; exact hlt)
          rw [List.getElem_map] at Aq
          obtain ⟨q, hq⟩ : ∃ q, q = l[j] := ⟨_, rfl⟩
          rw [← hq] at Aq HS
          clear hq
          obtain ⟨ao', cap', rfl, _⟩ := rowP_own hown
          have hbr : b < wr.heap.size := by have := hbw.size; omega
          have Hown := hide hown
          clear hown
          go_wp2_with fail
          generalize wr = w6 at *
          go_loopw [7] (fun kv wk => ∃ k : Nat, kv = .int .i64 k ∧ k ≤ S.length ∧ Below w6.heap.size w6 wk ∧ ∀ i (h : i < S.length), i < k → lessP S[i] q = true) (fun kv _ => S.length - (intOf kv).toNat)
          case atStart => exact ⟨0, by go_num, Nat.zero_le _, Below.refl _ _, fun i _ h => absurd h (Nat.not_lt_zero _)⟩
          case round =>
            obtain ⟨k, rfl, hk, hbk, hlow⟩ := hrel
            have Hlow := hide hlow
            clear hlow
            have hownk := own_below (unhide Hown) hbk
            by_cases hkS : k < S.length
            · have i2 : (k : Int) < (S.length : Int) := by omega
              obtain ⟨ao2, cap2, e2, hrow⟩ := rowV_own hownk
              cases e2
              obtain ⟨g, og, rfl, Ak, _⟩ := rowV_at hrow (Below.refl _ _) (j := k) (by rw [List.length_map]; exact hkS)
              rw [List.getElem_map] at Ak
              have LE := fun w => r3less_plain S[k] q (.slice none 0 0) (.slice none 0 0) w
              have SA := fun w => r3same_plain S[k] q none none 0 0 w
              rw [← ofP_val, ← ofP_val] at LE SA
              have Hk := hide (show ∀ h : k < S.length, S[k] = S[k] from fun _ => rfl)
              clear Hk
              obtain ⟨x, hx⟩ : ∃ x, x = S[k] := ⟨_, rfl⟩
              rw [← hx] at LE SA Ak
              have HX := hide hx
              clear hx
              have Aqk := Aq.below hbk hbr
              obtain ⟨rx, erx⟩ : ∃ r, r = ofP x := ⟨_, rfl⟩
              obtain ⟨rq, erq⟩ : ∃ r, r = ofP q := ⟨_, rfl⟩
              rw [← erx] at LE SA Ak
              rw [← erq] at LE SA Aqk
              have HRQ := hide (show (ofP q).cells = rq.cells by rw [erq])
              clear erx erq
              unfold R7.val at LE SA
              have cS := fun d os => Calls.regrown_of (w := wr) (d := d) (os := os) (LE (grow (redrawn wr d) os))
              have Hownk := hide hownk
              have Hrow := hide hrow
              clear hownk hrow
              obtain ⟨a0, a1, a2, a3, a4, a5, a6⟩ := Ak.up
              obtain ⟨d0, d1, d2, d3, d4, d5, d6⟩ := Aqk.up
              have HLE := hide LE
              clear LE
              go_wp2_with fail
              refine wp_region_quiet_below (by kernel_rfl) (by kernel_rfl) ?_
              repeat (quiet_step (exact cS _ _))
              refine wpQuiet_nil ?_
              intro _ hw'
              obtain ⟨⟨dq, osq⟩, hw''⟩ := hw'
              subst hw''
              have b7 : Below wr.heap.size wr (grow (redrawn wr dq) osq) := below_regrown wr dq osq
              generalize grow (redrawn wr dq) osq = w7 at *
              have b67 : Below w6.heap.size w6 w7 := hbk.trans (b7.mono hbk.size)
              have hbw7 : b < wr.heap.size := by have := hbk.size; omega
              have gw7 := cell_lt7 Ak.c0
              have Ak7 := Ak.below b7 gw7
              have Aq7 := Aqk.below b7 hbw7
              clear a0 a1 a2 a3 a4 a5 a6 d0 d1 d2 d3 d4 d5 d6 cS Ak Aqk
              have g7 := cell_lt7 Ak7.c0
              have bb7 := cell_lt7 Aq7.c0
              by_cases hle : lessP x q = true
              · rw [hle]
                clear SA
                go_wp2
                go_roundw
                case rel =>
                  refine ⟨k + 1, by go_num, by omega, b67, fun i h hik => ?_⟩
                  by_cases hik' : i < k
                  · exact unhide Hlow i h hik'
                  · obtain rfl : i = k := by omega
                    rw [← unhide HX]
                    exact hle
                case measure =>
                  simp only [intOf]
                  omega
              · have hlf : lessP x q = false := by simpa using hle
                rw [hlf]
                have cS := fun d os => Calls.regrown_of (w := w7) (d := d) (os := os) (SA (grow (redrawn w7 d) os))
                obtain ⟨a0, a1, a2, a3, a4, a5, a6⟩ := Ak7.up
                obtain ⟨d0, d1, d2, d3, d4, d5, d6⟩ := Aq7.up
                clear hle SA
                have HLF := hide hlf
                clear hlf
                go_wp2_with fail
                refine wp_region_quiet_below (by kernel_rfl) (by kernel_rfl) ?_
                repeat (quiet_step (exact cS _ _))
                refine wpQuiet_nil ?_
                intro _ hw'
                obtain ⟨⟨dq2, osq2⟩, hw''⟩ := hw'
                subst hw''
                have b78 : Below w7.heap.size w7 (grow (redrawn w7 dq2) osq2) := below_regrown w7 dq2 osq2
                generalize grow (redrawn w7 dq2) osq2 = w8 at *
                have b68 : Below w6.heap.size w6 w8 := b67.trans (b78.mono b67.size)
                have Aq8 := Aq7.below b78 bb7
                clear a0 a1 a2 a3 a4 a5 a6 d0 d1 d2 d3 d4 d5 d6 cS Ak7 Aq7
                have hown8 := own_below (unhide Hown) b68
                have hcut : Cutp S q k := ⟨by omega, fun i h hik => unhide Hlow i h hik, fun i h hik => ?_⟩
                rotate_left
                · by_cases hik' : i = k
                  · subst hik'
                    rw [← unhide HX]
                    exact unhide HLF
                  · have h1 := List.pairwise_iff_getElem.1 (unhide HSr) k i hkS h (by omega)
                    cases h2 : lessP S[i] q
                    · rfl
                    · have h3 := sto_lessP.trans _ _ _ h1 h2
                      have h4 := unhide HLF
                      rw [unhide HX] at h4
                      rw [h4] at h3
                      cases h3
                by_cases hxq : x = q
                · have hd : decide (x = q) = true := decide_eq_true hxq
                  rw [hd]
                  have Hown8 := hide hown8
                  clear hown8
                  go_wp2
                  go_roundw
                  case rel =>
                    have e : setOf lessP (l.take (j + 1)) = S := by
                      rw [unhide HS]
                      exact ins_mem S (unhide HSr) (by rw [← hxq, unhide HX]; exact List.getElem_mem _)
                    refine ⟨j + 1, by go_num, by omega, hbw.trans (b68.mono hbw.size), ?_⟩
                    rw [e]
                    exact unhide Hown8
                  case measure =>
                    simp only [intOf]
                    omega
                · have hd : decide (x = q) = false := decide_eq_false hxq
                  rw [hd]
                  have hmem : q ∉ S := fun h => by
                    obtain ⟨_, e⟩ := (hcut.mem (unhide HSr)).1 h
                    exact hxq (by rw [unhide HX, e])
                  have hcap := own_cap hown8
                  have hnone := own_none hown8
                  have hat := own_at hown8
                  have c1 : (k : Int) ≤ (cap' : Int) := by omega
                  have c2 : (k : Int) ≤ (S.length : Int) := by omega
                  have c0 : (0 : Int) ≤ (k : Int) := by omega
                  have Hnone := hide hnone
                  have Hat := hide hat
                  have Hcut := hide hcut
                  have Hmem := hide hmem
                  have bb8 := cell_lt7 Aq8.c0
                  have hclen : (cellsOf S).length = S.length * 7 := hown8.1
                  clear hnone hat hown8 hcut hmem
                  have Acopy := Aq8
                  obtain ⟨a0, a1, a2, a3, a4, a5, a6⟩ := Acopy
                  go_wp2_with (at_builtin; refine wpList_append_row _ rfl _ _ 24 rfl w8.heap.size 26 i0 _ 7 96 Tryz.underlying24 hi hz0 hz1 hz2 rfl (by decide) _ _ _ rfl (World.ownsRow_nil _ _ _ _) _ _ _ ((cellsOf S).take (k * 7)) rfl ?nA ?lA ?wA ?oA ?mA ?yA ?bA ?_)
                  case nA => intro h; have := unhide Hnone h; omega
                  case lA => rw [List.length_take, hclen]; omega
                  case wA =>
                    intro ad e jj u hu
                    refine (unhide Hat ad e).2.2.2 jj u ?_
                    rw [List.getElem?_take] at hu
                    split at hu
                    · exact hu
                    · cases hu
                  case oA => exact fun u hu => cellsOf_one S u (List.mem_of_mem_take hu)
                  case mA => unfold maxLen; omega
                  case yA => omega
                  case bA => exact Nat.le_refl _
                  intro v1 w9 hown9 hg9
                  have b89 : Below w8.heap.size w8 w9 := (Below.refl _ w8).grown hg9 (Nat.le_refl _) (fun k hk => by cases hk)
                  have Aq9 := Aq8.below b89 bb8
                  have Hown9 := hide hown9
                  clear a0 a1 a2 a3 a4 a5 a6 hown9 hg9 Aq8
                  obtain ⟨a0, a1, a2, a3, a4, a5, a6⟩ := Aq9
                  go_wp2_with (at_builtin; refine wpList_append_own _ rfl _ _ 24 rfl w8.heap.size 26 i0 _ 7 96 Tryz.underlying24 hi hz0 hz1 hz2 rfl (by decide) _ _ _ rfl ((unhide Hown9).alloc _) ⟨w9.heap.size, 0, none⟩ 1 1 rq.cells rfl rfl ?dA ?eA ?fA ?gA ?hA ?_)
                  case dA => exact news_row w9 rq _ rfl
                  case eA => exact cells_one rq
                  case fA => unfold maxLen; omega
                  case gA => omega
                  case hA => have := b89.size; simp; omega
                  intro v2 w11 hown11 hg11 _
                  have b8a := b89.trans ((below1 w9 (.cells #[.int .i64 rq.k, .bool rq.b, .int .i64 rq.n, .string rq.s, .string rq.t, .string rq.i, .slice rq.lo rq.ll rq.lc] 26)).mono b89.size)
                  have b8b : Below w8.heap.size w8 w11 := b8a.grown hg11 b8a.size (fun k hk => ((unhide Hown9).lt k hk).1)
                  have Hat11 := hide (fun ad (e : (some ⟨g, og, none⟩) = some ad) jj u hu => (b8b.cell (p := ad.add jj) ((unhide Hat ad e).2.2.1 jj)).trans ((unhide Hat ad e).2.2.2 jj u hu))
                  have Hown11 := hide hown11
                  clear a0 a1 a2 a3 a4 a5 a6 hown11 hg11 b8a
                  have hv2 : ∃ ao c, v2 = .slice ao (k + 1) c := by
                    rcases (unhide Hown11).2 with ⟨_, h0⟩ | ⟨g, cap, cur, hv, _⟩
                    · omega
                    · exact ⟨_, _, hv⟩
                  obtain ⟨ao2, cp2, rfl⟩ := hv2
                  go_wp2_with (at_builtin; refine wpList_append_row _ rfl _ _ 24 rfl w8.heap.size 26 i0 _ 7 96 Tryz.underlying24 hi hz0 hz1 hz2 rfl (by decide) _ _ _ rfl (unhide Hown11) _ _ _ ((cellsOf S).drop (k * 7)) rfl ?pA ?qA ?rA ?sA ?tA ?uA ?vA ?_)
                  case pA => first | (intro h; cases h; done) | (intro _; have := unhide Hnone rfl; omega)
                  case qA => rw [List.length_drop, hclen]; omega
                  case rA =>
                    intro ad e jj u hu
                    cases e
                    rw [List.getElem?_drop] at hu
                    have hx := unhide Hat11 _ rfl _ u hu
                    rw [Addr.add_lit] at hx ⊢
                    rw [Nat.add_assoc]
                    exact hx
                  case sA => exact fun u hu => cellsOf_one S u (List.mem_of_mem_drop hu)
                  case tA => unfold maxLen; omega
                  case uA => omega
                  case vA => exact b8b.size
                  intro v3 w12 hown12 hg12
                  have b8c : Below w8.heap.size w8 w12 := b8b.grown hg12 b8b.size (fun k hk => ((unhide Hown11).lt k hk).1)
                  have Hown12 := hide hown12
                  clear hown12 hg12
                  go_wp2
                  go_roundw
                  case rel =>
                    have e : setOf lessP (l.take (j + 1)) = S.take k ++ q :: S.drop k := by rw [unhide HS, ins_cut S k (unhide Hcut) (unhide Hmem)]
                    have el : (setOf lessP (l.take (j + 1))).length = k + 1 + (S.length - k) := by
                      rw [e, List.length_append, List.length_cons, List.length_take, List.length_drop]
                      omega
                    have ec : cellsOf (setOf lessP (l.take (j + 1))) = (cellsOf S).take (k * 7) ++ (rq.cells ++ (cellsOf S).drop (k * 7)) := by
                      rw [e, cellsOf_append, cellsOf_cons, cellsOf_take S k (by omega), cellsOf_drop S k (by omega), unhide HRQ]
                    refine ⟨j + 1, by go_num, by omega, hbw.trans ((b68.trans (b8c.mono b68.size)).mono hbw.size), ?_⟩
                    rw [el, ec]
                    exact own_mono (unhide Hown12) (Nat.le_trans hbw.size b68.size)
                  case measure =>
                    simp only [intOf]
                    omega
            · have hd : decide ((k : Int) < (S.length : Int)) = false := decide_eq_false (by omega)
              have Aqk := Aq.below hbk hbr
              obtain ⟨rq, erq⟩ : ∃ r, r = ofP q := ⟨_, rfl⟩
              rw [← erq] at Aqk
              have HRQ := hide (show (ofP q).cells = rq.cells by rw [erq])
              clear erq hownk
              have hbw7 : b < wr.heap.size := by have := hbk.size; omega
              go_wp2_with fail
              refine wp_region_quiet_below (by kernel_rfl) (by kernel_rfl) ?_
              repeat (go_big_quiet_step (fail))
              refine wpQuiet_nil ?_
              intro _ hw'
              obtain ⟨⟨dq, osq⟩, hw''⟩ := hw'
              subst hw''
              have b7 : Below wr.heap.size wr (grow (redrawn wr dq) osq) := below_regrown wr dq osq
              generalize grow (redrawn wr dq) osq = w7 at *
              have b67 : Below w6.heap.size w6 w7 := hbk.trans (b7.mono hbk.size)
              have Aq7 := Aqk.below b7 hbw7
              have bb7 := cell_lt7 Aq7.c0
              go_wp2_with fail
              refine wp_region_quiet_below (by kernel_rfl) (by kernel_rfl) ?_
              repeat (go_big_quiet_step (fail))
              refine wpQuiet_nil ?_
              intro _ hw'
              obtain ⟨⟨dq2, osq2⟩, hw''⟩ := hw'
              subst hw''
              have b78 : Below w7.heap.size w7 (grow (redrawn w7 dq2) osq2) := below_regrown w7 dq2 osq2
              generalize grow (redrawn w7 dq2) osq2 = w8 at *
              have b68 : Below w6.heap.size w6 w8 := b67.trans (b78.mono b67.size)
              have Aq8 := Aq7.below b78 bb7
              clear Aq7 Aqk hd
              have hown8 := own_below (unhide Hown) b68
              have hcut : Cutp S q k := ⟨by omega, fun i h hik => unhide Hlow i h hik, fun i h hik => by omega⟩
              have hmem : q ∉ S := fun h => by
                obtain ⟨h1, _⟩ := (hcut.mem (unhide HSr)).1 h
                omega
              cases ao' with
              | none =>
                have HZ := hide (own_none hown8 rfl)
                have hcap := own_cap hown8
                have hnone := own_none hown8
                have hat := own_at hown8
                have c1 : (k : Int) ≤ (cap' : Int) := by omega
                have c2 : (k : Int) ≤ (S.length : Int) := by omega
                have c0 : (0 : Int) ≤ (k : Int) := by omega
                have Hnone := hide hnone
                have Hat := hide hat
                have Hcut := hide hcut
                have Hmem := hide hmem
                have bb8 := cell_lt7 Aq8.c0
                have hclen : (cellsOf S).length = S.length * 7 := hown8.1
                clear hnone hat hown8 hcut hmem
                have Acopy := Aq8
                obtain ⟨a0, a1, a2, a3, a4, a5, a6⟩ := Acopy
                go_wp2_with (at_builtin; refine wpList_append_row _ rfl _ _ 24 rfl w8.heap.size 26 i0 _ 7 96 Tryz.underlying24 hi hz0 hz1 hz2 rfl (by decide) _ _ _ rfl (World.ownsRow_nil _ _ _ _) _ _ _ ((cellsOf S).take (k * 7)) rfl ?nN ?lN ?wN ?oN ?mN ?yN ?bN ?_)
                all_goals try (first
                  | (have := unhide HZ; omega; done)
                  | (rw [List.length_take, hclen]; omega; done)
                  | (intro ad e; cases e; done)
                  | exact fun u hu => cellsOf_one S u (List.mem_of_mem_take hu)
                  | (unfold maxLen; omega; done)
                  | (omega; done)
                  | exact Nat.le_refl _)
                intro v1 w9 hown9 hg9
                have b89 : Below w8.heap.size w8 w9 := (Below.refl _ w8).grown hg9 (Nat.le_refl _) (fun k hk => by cases hk)
                have Aq9 := Aq8.below b89 bb8
                have Hown9 := hide hown9
                clear a0 a1 a2 a3 a4 a5 a6 hown9 hg9 Aq8
                obtain ⟨a0, a1, a2, a3, a4, a5, a6⟩ := Aq9
                go_wp2_with (at_builtin; refine wpList_append_own _ rfl _ _ 24 rfl w8.heap.size 26 i0 _ 7 96 Tryz.underlying24 hi hz0 hz1 hz2 rfl (by decide) _ _ _ rfl ((unhide Hown9).alloc _) ⟨w9.heap.size, 0, none⟩ 1 1 rq.cells rfl rfl ?dN ?eN ?fN ?gN ?hN ?_)
                case dN => exact news_row w9 rq _ rfl
                case eN => exact cells_one rq
                case fN => unfold maxLen; omega
                case gN => omega
                case hN => have := b89.size; simp; omega
                intro v2 w11 hown11 hg11 _
                have b8a := b89.trans ((below1 w9 (.cells #[.int .i64 rq.k, .bool rq.b, .int .i64 rq.n, .string rq.s, .string rq.t, .string rq.i, .slice rq.lo rq.ll rq.lc] 26)).mono b89.size)
                have b8b : Below w8.heap.size w8 w11 := b8a.grown hg11 b8a.size (fun k hk => ((unhide Hown9).lt k hk).1)
                have Hat11 := hide (fun ad (e : none = some ad) jj u hu => (b8b.cell (p := ad.add jj) ((unhide Hat ad e).2.2.1 jj)).trans ((unhide Hat ad e).2.2.2 jj u hu))
                have Hown11 := hide hown11
                clear a0 a1 a2 a3 a4 a5 a6 hown11 hg11 b8a
                have hv2 : ∃ ao c, v2 = .slice ao (k + 1) c := by
                  rcases (unhide Hown11).2 with ⟨_, h0⟩ | ⟨g, cap, cur, hv, _⟩
                  · omega
                  · exact ⟨_, _, hv⟩
                obtain ⟨ao2, cp2, rfl⟩ := hv2
                go_wp2_with (at_builtin; refine wpList_append_row _ rfl _ _ 24 rfl w8.heap.size 26 i0 _ 7 96 Tryz.underlying24 hi hz0 hz1 hz2 rfl (by decide) _ _ _ rfl (unhide Hown11) _ _ _ ((cellsOf S).drop (k * 7)) rfl ?pN ?qN ?rN ?sN ?tN ?uN ?vN ?_)
                all_goals try (first
                  | (have := unhide HZ; omega; done)
                  | (rw [List.length_drop, hclen]; omega; done)
                  | (intro ad e; cases e; done)
                  | exact fun u hu => cellsOf_one S u (List.mem_of_mem_drop hu)
                  | (unfold maxLen; omega; done)
                  | (omega; done)
                  | exact b8b.size)
                intro v3 w12 hown12 hg12
                have b8c : Below w8.heap.size w8 w12 := b8b.grown hg12 b8b.size (fun k hk => ((unhide Hown11).lt k hk).1)
                have Hown12 := hide hown12
                clear hown12 hg12
                go_wp2
                go_roundw
                case rel =>
                  have e : setOf lessP (l.take (j + 1)) = S.take k ++ q :: S.drop k := by rw [unhide HS, ins_cut S k (unhide Hcut) (unhide Hmem)]
                  have el : (setOf lessP (l.take (j + 1))).length = k + 1 + (S.length - k) := by
                    rw [e, List.length_append, List.length_cons, List.length_take, List.length_drop]
                    omega
                  have ec : cellsOf (setOf lessP (l.take (j + 1))) = (cellsOf S).take (k * 7) ++ (rq.cells ++ (cellsOf S).drop (k * 7)) := by
                    rw [e, cellsOf_append, cellsOf_cons, cellsOf_take S k (by omega), cellsOf_drop S k (by omega), unhide HRQ]
                  refine ⟨j + 1, by go_num, by omega, hbw.trans ((b68.trans (b8c.mono b68.size)).mono hbw.size), ?_⟩
                  rw [el, ec]
                  exact own_mono (unhide Hown12) (Nat.le_trans hbw.size b68.size)
                case measure =>
                  simp only [intOf]
                  omega
              | some ad =>
                have e1 := (own_at hown8 ad rfl).1
                obtain ⟨g, og, sp⟩ := ad
                simp only at e1
                subst e1
                have hcap := own_cap hown8
                have hnone := own_none hown8
                have hat := own_at hown8
                have c1 : (k : Int) ≤ (cap' : Int) := by omega
                have c2 : (k : Int) ≤ (S.length : Int) := by omega
                have c0 : (0 : Int) ≤ (k : Int) := by omega
                have Hnone := hide hnone
                have Hat := hide hat
                have Hcut := hide hcut
                have Hmem := hide hmem
                have bb8 := cell_lt7 Aq8.c0
                have hclen : (cellsOf S).length = S.length * 7 := hown8.1
                clear hnone hat hown8 hcut hmem
                have Acopy := Aq8
                obtain ⟨a0, a1, a2, a3, a4, a5, a6⟩ := Acopy
                go_wp2_with (at_builtin; refine wpList_append_row _ rfl _ _ 24 rfl w8.heap.size 26 i0 _ 7 96 Tryz.underlying24 hi hz0 hz1 hz2 rfl (by decide) _ _ _ rfl (World.ownsRow_nil _ _ _ _) _ _ _ ((cellsOf S).take (k * 7)) rfl ?nB ?lB ?wB ?oB ?mB ?yB ?bB ?_)
                all_goals try (first
                  | (intro h; cases h; done)
                  | (rw [List.length_take, hclen]; omega; done)
                  | (intro ad e jj u hu
                     refine (unhide Hat ad e).2.2.2 jj u ?_
                     rw [List.getElem?_take] at hu
                     split at hu
                     · exact hu
                     · cases hu)
                  | exact fun u hu => cellsOf_one S u (List.mem_of_mem_take hu)
                  | (unfold maxLen; omega; done)
                  | (omega; done)
                  | exact Nat.le_refl _)
                intro v1 w9 hown9 hg9
                have b89 : Below w8.heap.size w8 w9 := (Below.refl _ w8).grown hg9 (Nat.le_refl _) (fun k hk => by cases hk)
                have Aq9 := Aq8.below b89 bb8
                have Hown9 := hide hown9
                clear a0 a1 a2 a3 a4 a5 a6 hown9 hg9 Aq8
                obtain ⟨a0, a1, a2, a3, a4, a5, a6⟩ := Aq9
                go_wp2_with (at_builtin; refine wpList_append_own _ rfl _ _ 24 rfl w8.heap.size 26 i0 _ 7 96 Tryz.underlying24 hi hz0 hz1 hz2 rfl (by decide) _ _ _ rfl ((unhide Hown9).alloc _) ⟨w9.heap.size, 0, none⟩ 1 1 rq.cells rfl rfl ?dB ?eB ?fB ?gB ?hB ?_)
                case dB => exact news_row w9 rq _ rfl
                case eB => exact cells_one rq
                case fB => unfold maxLen; omega
                case gB => omega
                case hB => have := b89.size; simp; omega
                intro v2 w11 hown11 hg11 _
                have b8a := b89.trans ((below1 w9 (.cells #[.int .i64 rq.k, .bool rq.b, .int .i64 rq.n, .string rq.s, .string rq.t, .string rq.i, .slice rq.lo rq.ll rq.lc] 26)).mono b89.size)
                have b8b : Below w8.heap.size w8 w11 := b8a.grown hg11 b8a.size (fun k hk => ((unhide Hown9).lt k hk).1)
                have Hat11 := hide (fun ad (e : (some ⟨g, og, none⟩) = some ad) jj u hu => (b8b.cell (p := ad.add jj) ((unhide Hat ad e).2.2.1 jj)).trans ((unhide Hat ad e).2.2.2 jj u hu))
                have Hown11 := hide hown11
                clear a0 a1 a2 a3 a4 a5 a6 hown11 hg11 b8a
                have hv2 : ∃ ao c, v2 = .slice ao (k + 1) c := by
                  rcases (unhide Hown11).2 with ⟨_, h0⟩ | ⟨g, cap, cur, hv, _⟩
                  · omega
                  · exact ⟨_, _, hv⟩
                obtain ⟨ao2, cp2, rfl⟩ := hv2
                go_wp2_with (at_builtin; refine wpList_append_row _ rfl _ _ 24 rfl w8.heap.size 26 i0 _ 7 96 Tryz.underlying24 hi hz0 hz1 hz2 rfl (by decide) _ _ _ rfl (unhide Hown11) _ _ _ ((cellsOf S).drop (k * 7)) rfl ?pB ?qB ?rB ?sB ?tB ?uB ?vB ?_)
                all_goals try (first
                  | (intro h; cases h; done)
                  | (intros; rename_i hu; have hlt := (List.getElem?_eq_some_iff.1 hu).1; rw [List.length_drop, hclen] at hlt; omega; done)
                  | (intros; rename_i hu; have hlt := (List.getElem?_eq_some_iff.1 hu).1; rw [hclen] at hlt; omega; done)
                  | (rw [List.length_drop, hclen]; omega; done)
                  | (intro ad e jj u hu
                     cases e
                     rw [List.getElem?_drop] at hu
                     have hx := unhide Hat11 _ rfl _ u hu
                     rw [Addr.add_lit] at hx ⊢
                     rw [Nat.add_assoc]
                     exact hx)
                  | exact fun u hu => cellsOf_one S u (List.mem_of_mem_drop hu)
                  | (unfold maxLen; omega; done)
                  | (omega; done)
                  | exact b8b.size)
                intro v3 w12 hown12 hg12
                have b8c : Below w8.heap.size w8 w12 := b8b.grown hg12 b8b.size (fun k hk => ((unhide Hown11).lt k hk).1)
                have Hown12 := hide hown12
                clear hown12 hg12
                go_wp2
                go_roundw
                case rel =>
                  have e : setOf lessP (l.take (j + 1)) = S.take k ++ q :: S.drop k := by rw [unhide HS, ins_cut S k (unhide Hcut) (unhide Hmem)]
                  have el : (setOf lessP (l.take (j + 1))).length = k + 1 + (S.length - k) := by
                    rw [e, List.length_append, List.length_cons, List.length_take, List.length_drop]
                    omega
                  have ec : cellsOf (setOf lessP (l.take (j + 1))) = (cellsOf S).take (k * 7) ++ (rq.cells ++ (cellsOf S).drop (k * 7)) := by
                    rw [e, cellsOf_append, cellsOf_cons, cellsOf_take S k (by omega), cellsOf_drop S k (by omega), unhide HRQ]
                  refine ⟨j + 1, by go_num, by omega, hbw.trans ((b68.trans (b8c.mono b68.size)).mono hbw.size), ?_⟩
                  rw [el, ec]
                  exact own_mono (unhide Hown12) (Nat.le_trans hbw.size b68.size)
                case measure =>
                  simp only [intOf]
                  omega
                intro v3 w12 hown12 hg12
                have b8c : Below w8.heap.size w8 w12 := b8b.grown hg12 b8b.size (fun k hk => ((unhide Hown11).lt k hk).1)
                have Hown12 := hide hown12
                clear hown12 hg12
                go_wp2
                go_roundw
                case rel =>
                  have e : setOf lessP (l.take (j + 1)) = S.take k ++ q :: S.drop k := by rw [unhide HS, ins_cut S k (unhide Hcut) (unhide Hmem)]
                  have el : (setOf lessP (l.take (j + 1))).length = k + 1 + (S.length - k) := by
                    rw [e, List.length_append, List.length_cons, List.length_take, List.length_drop]
                    omega
                  have ec : cellsOf (setOf lessP (l.take (j + 1))) = (cellsOf S).take (k * 7) ++ (rq.cells ++ (cellsOf S).drop (k * 7)) := by
                    rw [e, cellsOf_append, cellsOf_cons, cellsOf_take S k (by omega), cellsOf_drop S k (by omega), unhide HRQ]
                  refine ⟨j + 1, by go_num, by omega, hbw.trans ((b68.trans (b8c.mono b68.size)).mono hbw.size), ?_⟩
                  rw [el, ec]
                  exact own_mono (unhide Hown12) (Nat.le_trans hbw.size b68.size)
                case measure =>
                  simp only [intOf]
                  omega
        · have i1 : ¬ (j : Int) < (l.length : Int) := by omega
          obtain rfl : j = l.length := by omega
          rw [List.take_length] at hown
          have hc : ∀ o, (wr.cell? ⟨w.heap.size, o, none⟩) = w2.cell? ⟨w.heap.size, o, none⟩ := fun o => (hbw.cell (p := ⟨w.heap.size, o, none⟩) z5).trans (unhide Hc o)
          have hf : ∀ o, (wr.frozen? ⟨w.heap.size, o, none⟩) = w2.frozen? ⟨w.heap.size, o, none⟩ := fun o => (hbw.frozen (p := ⟨w.heap.size, o, none⟩) z5).trans (unhide Hf o)
          rw [← unhide Hw2] at hc hf
          obtain ⟨ao', cap', rfl, _⟩ := rowP_own hown
          obtain ⟨n, hn⟩ : ∃ n, n = (setOf lessP l).length := ⟨_, rfl⟩
          have Hn := hide hn
          rw [← hn] at hown
          have Hown := hide hown
          rw [← hn]
          clear hown hn
          by_cases h8 : 8 < n
          · have h8i : (8 : Int) < (n : Int) := by omega
            go_wp2
            refine bodyPost_ret (v := .tuple #[.agg #[.int .i64 0, .bool false, .int .i64 0, .string ⟨#[]⟩, .string ⟨#[]⟩, .string ⟨#[]⟩, .slice none 0 0], .int .i64 4]) (by simp [results, Tryz.results26, go_sem, hc]) rfl ⟨set7_below (b05.trans (hbw.mono b05.size)) (Nat.le_refl _) _ _ _ _ _ _ _, .inr ⟨?_, rfl⟩⟩
            rw [← unhide Hn]
            exact h8
          · have h8i : ¬ (8 : Int) < (n : Int) := by omega
            go_wp2
            refine bodyPost_ret (v := .tuple #[.agg #[.int .i64 5, .bool false, .int .i64 0, .string ⟨#[]⟩, .string ⟨#[]⟩, .string ⟨#[]⟩, .slice ao' n cap'], .int .i64 0]) (by simp [results, Tryz.results26, go_sem, hc]) rfl ⟨set7_below (b05.trans (hbw.mono b05.size)) (Nat.le_refl _) _ _ _ _ _ _ _, .inl ?_⟩
            rw [← unhide Hn]
            exact ⟨by omega, ao', cap', rfl, own_mono (own_set7 (unhide Hown) z5 _ _ _ _ _ _ _) b05.size⟩
end Go.Proofs.YtgeibceijlaoaaaGreat

namespace Go.Proofs.YtgeibceijlaoaaaGreat
open Go.RowKit Go.Sort

/-- The text of an id. -/
def idt (xs : List Int) : List UInt8 := txt (xs.take 30)

theorem IntsAt.take {w : World} {ao : Option Addr} {xs : List Int} (h : IntsAt w ao xs) (n : Nat) : IntsAt w ao (xs.take n) := by
  intro j hj
  rw [List.length_take] at hj
  obtain ⟨b, off, e, hb, hc⟩ := h j (by omega)
  exact ⟨b, off, e, hb, by rw [hc, List.getElem_take]⟩

set_option maxHeartbeats 1000000 in
set_option maxRecDepth 1000000 in
theorem id3_any (xs : List Int) (ao : Option Addr) (c : Nat) (w : World) (hl : xs.length ≤ 9223372036854775807) (hc : xs.length ≤ c) (hz : IntsAt w ao xs) :
    Calls Tryz.prog 42 #[.slice ao xs.length c] w fun e w' => e = .returned (.string (ba (idt xs))) ∧ Below w.heap.size w w' := by
  by_cases h30 : 30 < xs.length
  · have O := lawOf_any (xs.take 30) ao c w (by rw [List.length_take]; omega) (hz.take 30)
    rw [List.length_take, Nat.min_eq_left (by omega)] at O
    have i1 : (30 : Int) < (xs.length : Int) := by omega
    have i2 : (30 : Int) ≤ (c : Int) := by omega
    go_enter Tryz.func42, Tryz.ntmps42
    go_wp2_with fail
    refine O.mono ?_
    rintro e w2 ⟨rfl, b2⟩
    go_wp2
    go_ret
    exact ⟨rfl, b2⟩
  · have e1 : xs.take 30 = xs := List.take_of_length_le (by omega)
    have O := lawOf_any xs ao c w hl hz
    have i1 : ¬ (30 : Int) < (xs.length : Int) := by omega
    unfold idt
    rw [e1]
    go_enter Tryz.func42, Tryz.ntmps42
    go_wp2_with fail
    refine O.mono ?_
    rintro e w2 ⟨rfl, b2⟩
    go_wp2
    go_ret
    exact ⟨rfl, b2⟩
end Go.Proofs.YtgeibceijlaoaaaGreat

namespace Go.Proofs.YtgeibceijlaoaaaGreat
open Go.RowKit Go.Sort

/-- How many of the first k are not done. -/
def unl (listed : Array Bool) : Nat → Nat
  | 0 => 0
  | k + 1 => unl listed k + (if listed.getD k false = true then 0 else 1)

theorem unl_set_ge (listed : Array Bool) (i : Nat) : ∀ k, k ≤ i → unl (listed.setIfInBounds i true) k = unl listed k
  | 0, _ => rfl
  | k + 1, h => by
    unfold unl
    rw [unl_set_ge listed i k (by omega), getD_set_ne false (by omega)]

theorem getD_set_same {listed : Array Bool} {i : Nat} (h : i < listed.size) : (listed.setIfInBounds i true).getD i false = true := by simp [h]

theorem unl_set (listed : Array Bool) (i : Nat) (hi : i < listed.size) (hf : listed.getD i false = false) : ∀ k, i < k → unl (listed.setIfInBounds i true) k + 1 = unl listed k
  | 0, h => absurd h (Nat.not_lt_zero _)
  | k + 1, h => by
    unfold unl
    by_cases e : i = k
    · subst e
      rw [unl_set_ge listed i i (Nat.le_refl _), getD_set_same hi, hf]
      simp
    · have ih := unl_set listed i hi hf k (by omega)
      rw [getD_set_ne false e]
      omega

theorem unl_zero (listed : Array Bool) : ∀ k, unl listed k = 0 → ∀ i, i < k → listed.getD i false = true
  | 0, _, i, hi => absurd hi (Nat.not_lt_zero _)
  | k + 1, h, i, hi => by
    unfold unl at h
    by_cases e : i = k
    · subst e
      cases hb : listed.getD i false
      · rw [hb] at h
        simp at h
      · rfl
    · exact unl_zero listed k (by omega) i (by omega)

theorem unl_pos (listed : Array Bool) : ∀ k, 0 < unl listed k → ∃ i, i < k ∧ listed.getD i false = false ∧ ∀ j, j < i → listed.getD j false = true
  | 0, h => absurd h (Nat.lt_irrefl _)
  | k + 1, h => by
    by_cases h0 : 0 < unl listed k
    · obtain ⟨i, h1, h2, h3⟩ := unl_pos listed k h0
      exact ⟨i, by omega, h2, h3⟩
    · refine ⟨k, by omega, ?_, unl_zero listed k (by omega)⟩
      unfold unl at h
      cases hb : listed.getD k false
      · rfl
      · rw [hb] at h
        simp at h
        omega

/-- The slot that an operation writes. -/
def dstOf (l : List Oper) (i : Nat) : Option Tmp := (l[i]?).bind (·.dst)
def slotOf (l : List Oper) (i : Nat) : Nat := (dstOf l i).getD 0
def waits (l : List Oper) (i j : Nat) : Bool := ((l[i]?).map fun o => o.after.any fun e => Region.binds .any e && e.on == j).getD false

/-- What can be told by looking: the front's operations are not guarded, write slots of their own, wait for elder ones alone; the tail waits for all of them, and is forced. -/
def frontB (l : List Oper) (n size : Nat) : Bool :=
  decide (n < l.length) && Region.sinkB .any l.toArray n && Region.chainB .any l.toArray n &&
  ((List.range n).all fun i => ((l[i]?).map fun o => o.guard.isNone && o.after.all fun e => decide (e.on < i)).getD false) &&
  ((List.range n).all fun i => ((dstOf l i).map fun d => decide (d < size)).getD false) &&
  ((List.range n).all fun i => (List.range n).all fun j => decide (i = j) || decide (dstOf l i ≠ dstOf l j)) &&
  Region.seqB .any l.toArray (l.length - n) n (List.replicate n true ++ List.replicate (l.length - n) false).toArray

structure Known (l : List Oper) (n : Nat) (Sp : Nat → Value → World → Prop) (a : Act) (R : World → Prop) (listed : Array Bool) (a' : Act) (w' : World) : Prop where
  inv : HeadInv .any l.toArray n listed
  sp : ∀ i, i < n → listed.getD i false = true → Sp i (a'.tmps.getD (slotOf l i) undef) w'
  slot : ∀ s, (∀ i, i < n → slotOf l i ≠ s) → a'.tmps.getD s undef = a.tmps.getD s undef
  defers : a'.defers = a.defers
  size : a'.tmps.size = a.tmps.size
  world : R w'

theorem wp_specs {P : Program} {id : Nat} {Q : Exit → Act → World → Prop} {a : Act} {w : World} {l : List Oper} (n : Nat) (Sp : Nat → Value → World → Prop) (R : World → Prop) (hm : P.follows .mixedOrders = true) (hB : frontB l n a.tmps.size = true)
    (hR : R w.drew)
    (hstep : ∀ i o, i < n → l[i]? = some o → ∀ a' w', R w' → (∀ j, waits l i j = true → Sp j (a'.tmps.getD (slotOf l j) undef) w') → (∀ s, (∀ i, i < n → slotOf l i ≠ s) → a'.tmps.getD s undef = a.tmps.getD s undef) →
      ∀ K : Act → World → Prop, (∀ v w'', Sp i v w'' → R w'' → (∀ j u, Sp j u w' → Sp j u w'') → K (a'.put o.dst v) w'') → o.wp P a' w' K Q)
    (hend : ∀ a' w', R w' → (∀ i, i < n → Sp i (a'.tmps.getD (slotOf l i) undef) w') → (∀ s, (∀ i, i < n → slotOf l i ≠ s) → a'.tmps.getD s undef = a.tmps.getD s undef) → a'.defers = a.defers → a'.tmps.size = a.tmps.size → wpList P l.toArray Q (l.drop n) a' w') :
    (Code.region id l.toArray true).wp P Q a w := by
  simp only [frontB, Bool.and_eq_true, decide_eq_true_eq] at hB
  obtain ⟨⟨⟨⟨⟨⟨hn, hs⟩, hc⟩, hg⟩, hd⟩, hne⟩, hseq⟩ := hB
  have hn' : n < l.toArray.size := by simpa using hn
  have hgo : ∀ i, i < n → ∃ o, l[i]? = some o ∧ o.guard = none ∧ ∀ e ∈ o.after, e.on < i := fun i hi => by
    have := List.all_eq_true.1 hg i (List.mem_range.2 hi)
    cases ho : l[i]? with
    | none => rw [ho] at this; cases this
    | some o =>
      rw [ho] at this
      simp only [Option.map_some, Option.getD_some, Bool.and_eq_true, Option.isNone_iff_eq_none, Array.all_eq_true_iff_forall_mem, decide_eq_true_eq] at this
      exact ⟨o, rfl, this.1, fun e he => this.2 e he⟩
  have hdo : ∀ i, i < n → dstOf l i = some (slotOf l i) ∧ slotOf l i < a.tmps.size := fun i hi => by
    have := List.all_eq_true.1 hd i (List.mem_range.2 hi)
    unfold slotOf
    cases ho : dstOf l i with
    | none => rw [ho] at this; cases this
    | some d =>
      rw [ho] at this
      simp only [Option.map_some, Option.getD_some, decide_eq_true_eq] at this
      exact ⟨rfl, this⟩
  have hnd : ∀ i j, i < n → j < n → slotOf l i = slotOf l j → i = j := fun i j hi hj e => by
    have := List.all_eq_true.1 (List.all_eq_true.1 hne i (List.mem_range.2 hi)) j (List.mem_range.2 hj)
    simp only [Bool.or_eq_true, decide_eq_true_eq] at this
    rcases this with h | h
    · exact h
    · exact absurd (by rw [(hdo i hi).1, (hdo j hj).1, e]) h
  have key : ∀ (f : Nat) (listed : Array Bool) (a' : Act) (w' : World), unl listed n = f → Known l n Sp a R listed a' w' → wpAny P .any l.toArray Q (f + (l.length - n)) listed a' w' := by
    intro f
    induction f with
    | zero =>
      intro listed a' w' hu K
      have hall := unl_zero listed n hu
      have hl : listed = (List.replicate n true ++ List.replicate (l.length - n) false).toArray := by
        have hsz : listed.size = l.length := by rw [K.inv.size]; simp
        apply Array.ext
        · simp [hsz]
          omega
        · intro i h1 h2
          by_cases hi : i < n
          · have := hall i hi
            simp [h1] at this
            rw [this]
            simp [hi]
          · have := K.inv.tail i (by omega) (by simp; omega)
            simp [h1] at this
            rw [this]
            simp [List.getElem_append, hi]
      rw [Nat.zero_add, hl]
      have hdl : (l.drop n).length = l.length - n := by simp
      rw [← hdl]
      refine wpAny_of_seq (l.drop n) n _ a' w' (fun j => by simp [List.getElem?_drop]) (by rw [hdl]; exact hseq) ?_
      exact hend a' w' K.world (fun i hi => K.sp i hi (hall i hi)) K.slot K.defers K.size
    | succ f ih =>
      intro listed a' w' hu K
      have hsz : listed.size = l.length := by rw [K.inv.size]; simp
      obtain ⟨i0, hi0, hf0, hlow⟩ := unl_pos listed n (by omega)
      have hu0 : listed.getD i0 true = false := getD_in (by omega) hf0
      rw [show f + 1 + (l.length - n) = (f + (l.length - n)) + 1 by omega]
      refine ⟨fun hnil => ?_, fun i hi => ?_⟩
      · exfalso
        obtain ⟨o, ho, _, hon⟩ := hgo i0 hi0
        have : i0 ∈ Region.ready .any l.toArray listed := mem_ready.2 ⟨hu0, o, by simpa using ho, fun e he _ => hlow _ (hon e he)⟩
        rw [hnil] at this
        cases this
      · obtain ⟨hun, o, ho, hdep⟩ := mem_ready.1 hi
        have hin : i < n := by
          rcases Nat.lt_or_ge i n with h | h
          · exact h
          · exact absurd hi (tail_waits hs hc hn' K.inv _ i0 rfl hi0 hu0 i h)
        have ho' : l[i]? = some o := by simpa using ho
        obtain ⟨o2, ho2, hgd, hon⟩ := hgo i hin
        obtain rfl : o2 = o := Option.some.inj (ho2.symm.trans ho')
        have hdst : o2.dst = some (slotOf l i) := by
          have := (hdo i hin).1
          rw [dstOf, ho'] at this
          simpa using this
        unfold wpOp
        simp only [ho]
        rw [if_pos (by simp [Region.wanted, hgd])]
        left
        refine hstep i o2 hin ho' a' w' K.world (fun j hj => ?_) K.slot _ (fun v w'' hv hRw hup => ?_)
        rotate_left
        · have hput : ∀ s, (a'.put o2.dst v).tmps.getD s undef = if s = slotOf l i then v else a'.tmps.getD s undef := fun s => by
            rw [hdst]
            by_cases hsi : s = slotOf l i
            · subst hsi
              rw [if_pos rfl]
              have : slotOf l i < a'.tmps.size := by rw [K.size]; exact (hdo i hin).2
              simp [Act.put, this]
            · rw [if_neg hsi]
              simp [Act.put, Array.getElem?_setIfInBounds_ne (Ne.symm hsi)]
          refine ih _ _ _ (by have := unl_set listed i (by omega) (getD_both hun) n hin; omega) ⟨K.inv.set hi hin, fun j hj hlj => ?_, fun s hs' => ?_, ?_, ?_, hRw⟩
          · rw [hput]
            by_cases e : j = i
            · subst e
              rw [if_pos rfl]
              exact hv
            · rw [if_neg (fun h => e (hnd j i hj hin h))]
              rw [getD_set_ne false (Ne.symm e)] at hlj
              exact hup j _ (K.sp j hj hlj)
          · rw [hput, if_neg (fun h => hs' i hin h.symm)]
            exact K.slot s hs'
          · rw [hdst]
            exact K.defers
          · rw [hdst]
            simp [Act.put, K.size]
        · have hj' : ∃ e ∈ o2.after, Region.binds .any e = true ∧ e.on = j := by
            unfold waits at hj
            rw [ho'] at hj
            simp only [Option.map_some, Option.getD_some] at hj
            obtain ⟨e, he, hb⟩ := Array.any_eq_true'.1 hj
            simp only [Bool.and_eq_true, beq_iff_eq] at hb
            exact ⟨e, he, hb.1, hb.2⟩
          obtain ⟨e, he, hb, rfl⟩ := hj'
          exact K.sp _ (by have := hon e he; omega) (hdep e he hb)
  refine wp_region_any hm ?_
  have inv0 : HeadInv .any l.toArray n (Array.replicate l.toArray.size false) :=
    ⟨by simp, fun j oj _ hl => (by rw [getD_replicate_false] at hl; cases hl), fun t _ ht => getD_in (by simpa using ht) (getD_replicate_false _ _)⟩
  have hun : ∀ k, unl (Array.replicate l.toArray.size false) k = k := fun k => by
    induction k with
    | zero => rfl
    | succ k ih =>
      unfold unl
      rw [ih, getD_replicate_false]
      rfl
  have := key n (Array.replicate l.toArray.size false) a w.drew (hun n) ⟨inv0, fun i _ hl => (by rw [getD_replicate_false] at hl; cases hl), fun _ _ => rfl, rfl, rfl, hR⟩
  rw [show n + (l.length - n) = l.toArray.size by simp; omega] at this
  exact this

/-- The slots of the first k, written. -/
def putAll (l : List Oper) (a : Act) (v : Nat → Value) : Nat → Act
  | 0 => a
  | k + 1 => (putAll l a v k).put (dstOf l k) (v k)

theorem put_size (a : Act) (d : Option Tmp) (v : Value) : (a.put d v).tmps.size = a.tmps.size := by
  cases d <;> simp [Act.put]
theorem put_defers (a : Act) (d : Option Tmp) (v : Value) : (a.put d v).defers = a.defers := by
  cases d <;> rfl
theorem put_same (a : Act) (d : Nat) (v : Value) (h : d < a.tmps.size) : (a.put (some d) v).tmps.getD d undef = v := by simp [Act.put, h]
theorem put_other (a : Act) (d s : Nat) (v : Value) (h : d ≠ s) : (a.put (some d) v).tmps.getD s undef = a.tmps.getD s undef := by
  simp [Act.put, Array.getElem?_setIfInBounds_ne h]

theorem putAll_size (l : List Oper) (a : Act) (v : Nat → Value) : ∀ k, (putAll l a v k).tmps.size = a.tmps.size
  | 0 => rfl
  | k + 1 => by rw [putAll, put_size, putAll_size l a v k]
theorem putAll_defers (l : List Oper) (a : Act) (v : Nat → Value) : ∀ k, (putAll l a v k).defers = a.defers
  | 0 => rfl
  | k + 1 => by rw [putAll, put_defers, putAll_defers l a v k]
theorem putAll_out (l : List Oper) (a : Act) (v : Nat → Value) (s : Nat) : ∀ k, (∀ i, i < k → dstOf l i = some (slotOf l i)) → (∀ i, i < k → slotOf l i ≠ s) → (putAll l a v k).tmps.getD s undef = a.tmps.getD s undef
  | 0, _, _ => rfl
  | k + 1, h1, h2 => by
    rw [putAll, h1 k (by omega), put_other _ _ _ _ (h2 k (by omega))]
    exact putAll_out l a v s k (fun i hi => h1 i (by omega)) (fun i hi => h2 i (by omega))
theorem putAll_in (l : List Oper) (a : Act) (v : Nat → Value) (j : Nat) : ∀ k, (∀ i, i < k → dstOf l i = some (slotOf l i) ∧ slotOf l i < a.tmps.size) → (∀ i, i < k → i ≠ j → slotOf l i ≠ slotOf l j) → j < k → (putAll l a v k).tmps.getD (slotOf l j) undef = v j
  | 0, _, _, hj => absurd hj (Nat.not_lt_zero _)
  | k + 1, h1, h2, hj => by
    rw [putAll, (h1 k (by omega)).1]
    by_cases e : k = j
    · subst e
      rw [put_same _ _ _ (by rw [putAll_size]; exact (h1 k (by omega)).2)]
    · rw [put_other _ _ _ _ (h2 k (by omega) e)]
      exact putAll_in l a v j k (fun i hi => h1 i (by omega)) (fun i hi => h2 i (by omega)) (by omega)

theorem act_ext {a b : Act} (hs : a.tmps.size = b.tmps.size) (h : ∀ s, a.tmps.getD s undef = b.tmps.getD s undef) (hd : a.defers = b.defers) : a = b := by
  obtain ⟨t, d⟩ := a
  obtain ⟨t', d'⟩ := b
  simp only at hs hd h
  subst hd
  congr 1
  refine Array.ext hs fun i h1 h2 => ?_
  have := h i
  simpa [h1, h2] using this

/-- The same, its end over the slots written one by one. -/
theorem wp_specs_put {P : Program} {id : Nat} {Q : Exit → Act → World → Prop} {a : Act} {w : World} {l : List Oper} (n : Nat) (Sp : Nat → Value → World → Prop) (R : World → Prop) (hm : P.follows .mixedOrders = true) (hB : frontB l n a.tmps.size = true)
    (hR : R w.drew)
    (hstep : ∀ i o, i < n → l[i]? = some o → ∀ a' w', R w' → (∀ j, waits l i j = true → Sp j (a'.tmps.getD (slotOf l j) undef) w') → (∀ s, (∀ i, i < n → slotOf l i ≠ s) → a'.tmps.getD s undef = a.tmps.getD s undef) →
      ∀ K : Act → World → Prop, (∀ v w'', Sp i v w'' → R w'' → (∀ j u, Sp j u w' → Sp j u w'') → K (a'.put o.dst v) w'') → o.wp P a' w' K Q)
    (hend : ∀ (v : Nat → Value) w', R w' → (∀ i, i < n → Sp i (v i) w') → wpList P l.toArray Q (l.drop n) (putAll l a v n) w') :
    (Code.region id l.toArray true).wp P Q a w := by
  refine wp_specs n Sp R hm hB hR hstep ?_
  intro a' w' hRw hall hslot hdef hsz
  simp only [frontB, Bool.and_eq_true, decide_eq_true_eq] at hB
  obtain ⟨⟨⟨⟨⟨⟨_, _⟩, _⟩, _⟩, hd⟩, hne⟩, _⟩ := hB
  have hdo : ∀ i, i < n → dstOf l i = some (slotOf l i) ∧ slotOf l i < a.tmps.size := fun i hi => by
    have := List.all_eq_true.1 hd i (List.mem_range.2 hi)
    unfold slotOf
    cases ho : dstOf l i with
    | none => rw [ho] at this; cases this
    | some d =>
      rw [ho] at this
      simp only [Option.map_some, Option.getD_some, decide_eq_true_eq] at this
      exact ⟨rfl, this⟩
  have hnd : ∀ i j, i < n → j < n → i ≠ j → slotOf l i ≠ slotOf l j := fun i j hi hj hij e => by
    have := List.all_eq_true.1 (List.all_eq_true.1 hne i (List.mem_range.2 hi)) j (List.mem_range.2 hj)
    simp only [Bool.or_eq_true, decide_eq_true_eq] at this
    rcases this with h | h
    · exact hij h
    · exact absurd (by rw [(hdo i hi).1, (hdo j hj).1, e]) h
  have e : a' = putAll l a (fun i => a'.tmps.getD (slotOf l i) undef) n := by
    refine act_ext (by rw [hsz, putAll_size]) (fun s => ?_) (by rw [hdef, putAll_defers])
    by_cases hx : ∃ i, i < n ∧ slotOf l i = s
    · obtain ⟨i, hi, rfl⟩ := hx
      rw [putAll_in l a _ i n hdo (fun j hj hji => hnd j i hj hi hji) hi]
    · have hx' : ∀ i, i < n → slotOf l i ≠ s := fun i hi h => hx ⟨i, hi, h⟩
      rw [putAll_out l a _ s n (fun i hi => (hdo i hi).1) hx', hslot s hx']
  rw [e]
  exact hend _ w' hRw hall
end Go.Proofs.YtgeibceijlaoaaaGreat

namespace Go.Proofs.YtgeibceijlaoaaaGreat
open Go.RowKit Go.Sort

def tyL : List (List UInt8) := [[85, 115, 101, 114], [71, 114, 111, 117, 112], [68, 111, 99], [65, 99, 116, 105, 111, 110], [95, 120, 57]]
def tyCells : Array Value := #[.string ⟨#[85, 115, 101, 114]⟩, .string ⟨#[71, 114, 111, 117, 112]⟩, .string ⟨#[68, 111, 99]⟩, .string ⟨#[65, 99, 116, 105, 111, 110]⟩, .string ⟨#[95, 120, 57]⟩]
theorem ty_cell (m : Nat) (hm : m < 5) : tyCells[m]? = some (.string (ba (tyL.getD m []))) := by
  match m, hm with
  | 0, _ | 1, _ | 2, _ | 3, _ | 4, _ => rfl

/-- What each slot of the region holds. -/
def uidSp (B m : Nat) (sv : Value) (t i : ByteArray) : Nat → Value → World → Prop
  | 0, v, w => ∃ blk, v = .slice (some ⟨blk, 0, none⟩) 5 5 ∧ blk < w.heap.size ∧ w.cell? ⟨blk, m, none⟩ = some (.string t)
  | 1, v, _ => v = .int .i64 m
  | 2, v, w => ∃ blk, v = .pointer (some ⟨blk, m, none⟩) ∧ blk < w.heap.size ∧ w.cell? ⟨blk, m, none⟩ = some (.string t)
  | 3, v, _ => v = .string t
  | 4, v, _ => v = .pointer (some ⟨B, 2, none⟩)
  | 5, v, _ => v = sv
  | 6, v, _ => v = .string i
  | 7, v, _ => v = .agg #[.string t, .string i]
  | _, _, _ => True

theorem uidSp_up {B m : Nat} {sv : Value} {t i : ByteArray} {w w' : World} (hb : Below w.heap.size w w') : ∀ j u, uidSp B m sv t i j u w → uidSp B m sv t i j u w'
  | 0, _, ⟨blk, e, hl, hc⟩ => ⟨blk, e, Nat.lt_of_lt_of_le hl hb.size, (hb.cell (p := ⟨blk, m, none⟩) hl).trans hc⟩
  | 1, _, h => h
  | 2, _, ⟨blk, e, hl, hc⟩ => ⟨blk, e, Nat.lt_of_lt_of_le hl hb.size, (hb.cell (p := ⟨blk, m, none⟩) hl).trans hc⟩
  | 3, _, h => h
  | 4, _, h => h
  | 5, _, h => h
  | 6, _, h => h
  | 7, _, h => h
  | _ + 8, _, _ => trivial

set_option maxHeartbeats 4000000 in
set_option maxRecDepth 1000000 in
theorem uid3_of (k n : Int) (xs : List Int) (so : Option Addr) (sc : Nat) (lo : Option Addr) (ll lc : Nat) (w : World) (hl : xs.length ≤ 9223372036854775807) (hc : xs.length ≤ sc) (hz : IntsAt w so xs) (m : Nat) (hm : m < 5) (hn : n.tmod 5 = m) :
    Calls Tryz.prog 22 #[.agg #[.int .i64 k, .int .i64 n, .slice so xs.length sc, .slice lo ll lc]] w fun e w' => e = .returned (.agg #[.string (ba (tyL.getD m [])), .string (ba (idt xs))]) ∧ Below w.heap.size w w' := by
  have ID := fun w' hz' => id3_any xs so sc w' hl hc hz'
  have h0 : ¬ ((m : Int) < 0) := by omega
  have hty := ty_cell m hm
  generalize ba (tyL.getD m []) = ty at *
  go_enter Tryz.func22, Tryz.ntmps22
  go_wp2_with fail
  generalize hw2 : (w.alloc (.cells #[.int .i64 k, .int .i64 n, .slice so xs.length sc, .slice lo ll lc] 30)).alloc (.cells #[.string ⟨#[]⟩, .string ⟨#[]⟩] 23) = w2
  have b02 : Below w.heap.size w w2 := by rw [← hw2]; exact below2 _ _ _
  have z2 : w2.heap.size = w.heap.size + 2 := by rw [← hw2]; simp
  have c2 : w2.cell? ⟨w.heap.size, 2, none⟩ = some (.slice so xs.length sc) := by rw [← hw2]; simp
  have d0 : (w2.cell? ⟨w.heap.size + 1, 0, none⟩).isSome = true := by rw [← hw2]; simp
  have d1 : (w2.cell? ⟨w.heap.size + 1, 1, none⟩).isSome = true := by rw [← hw2]; simp
  have g0 : w2.frozen? ⟨w.heap.size + 1, 0, none⟩ = false := by rw [← hw2]; simp
  have g1 : w2.frozen? ⟨w.heap.size + 1, 1, none⟩ = false := by rw [← hw2]; simp
  clear hw2
  have Z2 := hide z2
  clear z2
  refine wp_specs 8 (uidSp w.heap.size m (.slice so xs.length sc) ty (ba (idt xs))) (fun w' => Below w2.heap.size w2 w') (by kernel_rfl) (by kernel_rfl) (Below.refl _ w2).drew ?_ ?_
  · intro i o hi ho a' w' hR hdep hslot K hK
    match i, hi with
    | 0, _ =>
      cases ho
      unfold Oper.wp
      go_simp
      exact hK _ _ ⟨w'.heap.size, rfl, by simp, by rw [World.cell?_alloc_at _ _ _ _ rfl]; exact hty⟩ (hR.alloc hR.size _) (uidSp_up (below1 _ _))
    | 1, _ =>
      cases ho
      have e : a'.tmps.getD 3 undef = .int .i64 m := hslot 3 (by decide)
      unfold Oper.wp
      go_simp
      exact hK _ _ rfl hR (fun _ _ h => h)
    | 2, _ =>
      cases ho
      obtain ⟨blk, e1, hb, hcell⟩ : uidSp _ _ _ _ _ 0 (a'.tmps.getD 11 undef) w' := hdep 0 (by kernel_rfl)
      have e2 : a'.tmps.getD 12 undef = .int .i64 m := hdep 1 (by kernel_rfl)
      have hm5 : (m : Int) < 5 := by omega
      unfold Oper.wp
      go_simp
      exact hK _ _ ⟨blk, rfl, hb, hcell⟩ hR (fun _ _ h => h)
    | 3, _ =>
      cases ho
      obtain ⟨blk, e1, hb, hcell⟩ : uidSp _ _ _ _ _ 2 (a'.tmps.getD 13 undef) w' := hdep 2 (by kernel_rfl)
      unfold Oper.wp
      go_simp
      exact hK _ _ rfl hR (fun _ _ h => h)
    | 4, _ =>
      cases ho
      have e : a'.tmps.getD 1 undef = .pointer (some ⟨w.heap.size, 0, none⟩) := hslot 1 (by decide)
      unfold Oper.wp
      go_simp
      exact hK _ _ rfl hR (fun _ _ h => h)
    | 5, _ =>
      cases ho
      have e : a'.tmps.getD 15 undef = .pointer (some ⟨w.heap.size, 2, none⟩) := hdep 4 (by kernel_rfl)
      have c3 := (hR.cell (p := ⟨w.heap.size, 2, none⟩) (by have := unhide Z2; show w.heap.size < _; omega)).trans c2
      unfold Oper.wp
      go_simp
      exact hK _ _ rfl hR (fun _ _ h => h)
    | 6, _ =>
      cases ho
      have e : a'.tmps.getD 16 undef = .slice so xs.length sc := hdep 5 (by kernel_rfl)
      have ID' := ID w' ((hz.below b02).below hR)
      clear ID
      unfold Oper.wp
      go_simp
      refine ID'.mono ?_
      rintro e w3 ⟨rfl, b3⟩
      exact hK _ _ rfl (hR.trans (b3.mono hR.size)) (uidSp_up b3)
    | 7, _ =>
      cases ho
      have e1 : a'.tmps.getD 14 undef = .string ty := hdep 3 (by kernel_rfl)
      have e2 : a'.tmps.getD 17 undef = .string (ba (idt xs)) := hdep 6 (by kernel_rfl)
      have e1' : a'.tmps[14]?.getD undef = .string ty := by simpa using e1
      have e2' : a'.tmps[17]?.getD undef = .string (ba (idt xs)) := by simpa using e2
      unfold Oper.wp
      go_simp
      exact hK _ _ rfl hR (fun _ _ h => h)
  · intro a' w' hR hall hslot hdef hsz
    have e2 : a'.tmps.getD 2 undef = .pointer (some ⟨w.heap.size + 1, 0, none⟩) := hslot 2 (by decide)
    have e18 : a'.tmps.getD 18 undef = .agg #[.string ty, .string (ba (idt xs))] := hall 7 (by decide)
    have k0 := (hR.cell (p := ⟨w.heap.size + 1, 0, none⟩) (by have := unhide Z2; show w.heap.size + 1 < _; omega))
    have k1 := (hR.cell (p := ⟨w.heap.size + 1, 1, none⟩) (by have := unhide Z2; show w.heap.size + 1 < _; omega))
    have f0 := (hR.frozen (p := ⟨w.heap.size + 1, 0, none⟩) (by have := unhide Z2; show w.heap.size + 1 < _; omega)).trans g0
    have f1 := (hR.frozen (p := ⟨w.heap.size + 1, 1, none⟩) (by have := unhide Z2; show w.heap.size + 1 < _; omega)).trans g1
    rw [← k0] at d0
    rw [← k1] at d1
    obtain ⟨x0, hx0⟩ := Option.isSome_iff_exists.1 d0
    obtain ⟨x1, hx1⟩ := Option.isSome_iff_exists.1 d1
    have b03 := b02.trans (hR.mono b02.size)
    have e2' : a'.tmps[2]?.getD undef = .pointer (some ⟨w.heap.size + 1, 0, none⟩) := by simpa using e2
    clear k0 k1 d0 d1 hall hslot
    simp only [List.drop_succ_cons, List.drop_zero]
    go_wp2
    exact bodyPost_ret (v := .agg #[.string ty, .string (ba (idt xs))]) (by simp [results, Tryz.results22, go_sem, e2', hx0, hx1]) hdef ⟨rfl, (b03.setCell (p := ⟨w.heap.size + 1, 0, none⟩) (Nat.le_succ _) _).setCell (p := ⟨w.heap.size + 1, 1, none⟩) (Nat.le_succ _) _⟩
set_option maxHeartbeats 4000000 in
set_option maxRecDepth 1000000 in
theorem uid3_neg (k n : Int) (xs : List Int) (so : Option Addr) (sc : Nat) (lo : Option Addr) (ll lc : Nat) (w : World) (hl : xs.length ≤ 9223372036854775807) (hc : xs.length ≤ sc) (hz : IntsAt w so xs) (m : Nat) (hm : m < 5) (hp : 0 < m) (hn : n.tmod 5 = -(m : Int)) :
    Calls Tryz.prog 22 #[.agg #[.int .i64 k, .int .i64 n, .slice so xs.length sc, .slice lo ll lc]] w fun e w' => e = .returned (.agg #[.string (ba (tyL.getD m [])), .string (ba (idt xs))]) ∧ Below w.heap.size w w' := by
  have ID := fun w' hz' => id3_any xs so sc w' hl hc hz'
  have h0 : -(m : Int) < 0 := by omega
  have hwr : IntKind.i64.wrap (m : Int) = m := by rw [IntKind.wrap_i64]; omega
  have hty := ty_cell m hm
  generalize ba (tyL.getD m []) = ty at *
  go_enter Tryz.func22, Tryz.ntmps22
  go_wp2_with fail
  generalize hw2 : (w.alloc (.cells #[.int .i64 k, .int .i64 n, .slice so xs.length sc, .slice lo ll lc] 30)).alloc (.cells #[.string ⟨#[]⟩, .string ⟨#[]⟩] 23) = w2
  have b02 : Below w.heap.size w w2 := by rw [← hw2]; exact below2 _ _ _
  have z2 : w2.heap.size = w.heap.size + 2 := by rw [← hw2]; simp
  have c2 : w2.cell? ⟨w.heap.size, 2, none⟩ = some (.slice so xs.length sc) := by rw [← hw2]; simp
  have d0 : (w2.cell? ⟨w.heap.size + 1, 0, none⟩).isSome = true := by rw [← hw2]; simp
  have d1 : (w2.cell? ⟨w.heap.size + 1, 1, none⟩).isSome = true := by rw [← hw2]; simp
  have g0 : w2.frozen? ⟨w.heap.size + 1, 0, none⟩ = false := by rw [← hw2]; simp
  have g1 : w2.frozen? ⟨w.heap.size + 1, 1, none⟩ = false := by rw [← hw2]; simp
  clear hw2
  have Z2 := hide z2
  clear z2
  refine wp_specs 8 (uidSp w.heap.size m (.slice so xs.length sc) ty (ba (idt xs))) (fun w' => Below w2.heap.size w2 w') (by kernel_rfl) (by kernel_rfl) (Below.refl _ w2).drew ?_ ?_
  · intro i o hi ho a' w' hR hdep hslot K hK
    match i, hi with
    | 0, _ =>
      cases ho
      unfold Oper.wp
      go_simp
      exact hK _ _ ⟨w'.heap.size, rfl, by simp, by rw [World.cell?_alloc_at _ _ _ _ rfl]; exact hty⟩ (hR.alloc hR.size _) (uidSp_up (below1 _ _))
    | 1, _ =>
      cases ho
      have e : a'.tmps.getD 3 undef = .int .i64 m := hslot 3 (by decide)
      unfold Oper.wp
      go_simp
      exact hK _ _ rfl hR (fun _ _ h => h)
    | 2, _ =>
      cases ho
      obtain ⟨blk, e1, hb, hcell⟩ : uidSp _ _ _ _ _ 0 (a'.tmps.getD 11 undef) w' := hdep 0 (by kernel_rfl)
      have e2 : a'.tmps.getD 12 undef = .int .i64 m := hdep 1 (by kernel_rfl)
      have hm5 : (m : Int) < 5 := by omega
      unfold Oper.wp
      go_simp
      exact hK _ _ ⟨blk, rfl, hb, hcell⟩ hR (fun _ _ h => h)
    | 3, _ =>
      cases ho
      obtain ⟨blk, e1, hb, hcell⟩ : uidSp _ _ _ _ _ 2 (a'.tmps.getD 13 undef) w' := hdep 2 (by kernel_rfl)
      unfold Oper.wp
      go_simp
      exact hK _ _ rfl hR (fun _ _ h => h)
    | 4, _ =>
      cases ho
      have e : a'.tmps.getD 1 undef = .pointer (some ⟨w.heap.size, 0, none⟩) := hslot 1 (by decide)
      unfold Oper.wp
      go_simp
      exact hK _ _ rfl hR (fun _ _ h => h)
    | 5, _ =>
      cases ho
      have e : a'.tmps.getD 15 undef = .pointer (some ⟨w.heap.size, 2, none⟩) := hdep 4 (by kernel_rfl)
      have c3 := (hR.cell (p := ⟨w.heap.size, 2, none⟩) (by have := unhide Z2; show w.heap.size < _; omega)).trans c2
      unfold Oper.wp
      go_simp
      exact hK _ _ rfl hR (fun _ _ h => h)
    | 6, _ =>
      cases ho
      have e : a'.tmps.getD 16 undef = .slice so xs.length sc := hdep 5 (by kernel_rfl)
      have ID' := ID w' ((hz.below b02).below hR)
      clear ID
      unfold Oper.wp
      go_simp
      refine ID'.mono ?_
      rintro e w3 ⟨rfl, b3⟩
      exact hK _ _ rfl (hR.trans (b3.mono hR.size)) (uidSp_up b3)
    | 7, _ =>
      cases ho
      have e1 : a'.tmps.getD 14 undef = .string ty := hdep 3 (by kernel_rfl)
      have e2 : a'.tmps.getD 17 undef = .string (ba (idt xs)) := hdep 6 (by kernel_rfl)
      have e1' : a'.tmps[14]?.getD undef = .string ty := by simpa using e1
      have e2' : a'.tmps[17]?.getD undef = .string (ba (idt xs)) := by simpa using e2
      unfold Oper.wp
      go_simp
      exact hK _ _ rfl hR (fun _ _ h => h)
  · intro a' w' hR hall hslot hdef hsz
    have e2 : a'.tmps.getD 2 undef = .pointer (some ⟨w.heap.size + 1, 0, none⟩) := hslot 2 (by decide)
    have e18 : a'.tmps.getD 18 undef = .agg #[.string ty, .string (ba (idt xs))] := hall 7 (by decide)
    have k0 := (hR.cell (p := ⟨w.heap.size + 1, 0, none⟩) (by have := unhide Z2; show w.heap.size + 1 < _; omega))
    have k1 := (hR.cell (p := ⟨w.heap.size + 1, 1, none⟩) (by have := unhide Z2; show w.heap.size + 1 < _; omega))
    have f0 := (hR.frozen (p := ⟨w.heap.size + 1, 0, none⟩) (by have := unhide Z2; show w.heap.size + 1 < _; omega)).trans g0
    have f1 := (hR.frozen (p := ⟨w.heap.size + 1, 1, none⟩) (by have := unhide Z2; show w.heap.size + 1 < _; omega)).trans g1
    rw [← k0] at d0
    rw [← k1] at d1
    obtain ⟨x0, hx0⟩ := Option.isSome_iff_exists.1 d0
    obtain ⟨x1, hx1⟩ := Option.isSome_iff_exists.1 d1
    have b03 := b02.trans (hR.mono b02.size)
    have e2' : a'.tmps[2]?.getD undef = .pointer (some ⟨w.heap.size + 1, 0, none⟩) := by simpa using e2
    clear k0 k1 d0 d1 hall hslot
    simp only [List.drop_succ_cons, List.drop_zero]
    go_wp2
    exact bodyPost_ret (v := .agg #[.string ty, .string (ba (idt xs))]) (by simp [results, Tryz.results22, go_sem, e2', hx0, hx1]) hdef ⟨rfl, (b03.setCell (p := ⟨w.heap.size + 1, 0, none⟩) (Nat.le_succ _) _).setCell (p := ⟨w.heap.size + 1, 1, none⟩) (Nat.le_succ _) _⟩

/-- The type's place. -/
def tyI (n : Int) : Nat := (n.tmod 5).natAbs

theorem tmod5 (n : Int) : (n.tmod 5).natAbs < 5 := by
  rw [Int.natAbs_tmod]
  exact Nat.mod_lt _ (by decide)

theorem uid3_any (k n : Int) (xs : List Int) (so : Option Addr) (sc : Nat) (lo : Option Addr) (ll lc : Nat) (w : World) (hl : xs.length ≤ 9223372036854775807) (hc : xs.length ≤ sc) (hz : IntsAt w so xs) :
    Calls Tryz.prog 22 #[.agg #[.int .i64 k, .int .i64 n, .slice so xs.length sc, .slice lo ll lc]] w fun e w' => e = .returned (.agg #[.string (ba (tyL.getD (tyI n) [])), .string (ba (idt xs))]) ∧ Below w.heap.size w w' := by
  have h5 := tmod5 n
  by_cases h : 0 ≤ n.tmod 5
  · exact uid3_of k n xs so sc lo ll lc w hl hc hz (tyI n) h5 (by unfold tyI; generalize n.tmod 5 = t at *; omega)
  · exact uid3_neg k n xs so sc lo ll lc w hl hc hz (tyI n) h5 (by unfold tyI; generalize n.tmod 5 = t at *; omega) (by unfold tyI; generalize n.tmod 5 = t at *; omega)
end Go.Proofs.YtgeibceijlaoaaaGreat

namespace Go.Proofs.YtgeibceijlaoaaaGreat
open Go.RowKit Go.Sort

/-- What Plain makes, by the kind. -/
def plainV (k : Nat) (n : Int) (xs : List Int) : PV :=
  if k = 1 then .bool (n.tmod 2 == 0) else if k = 2 then .long n else if k = 3 then .str (idt xs) else .uid (tyL.getD (tyI n) []) (idt xs)

set_option maxHeartbeats 2000000 in
set_option maxRecDepth 1000000 in
theorem plain3_any (kd : Nat) (h1 : 1 ≤ kd) (h4 : kd ≤ 4) (k n : Int) (xs : List Int) (so : Option Addr) (sc : Nat) (lo : Option Addr) (ll lc : Nat) (w : World) (hl : xs.length ≤ 9223372036854775807) (hc : xs.length ≤ sc) (hz : IntsAt w so xs) :
    Calls Tryz.prog 24 #[.agg #[.int .i64 k, .int .i64 n, .slice so xs.length sc, .slice lo ll lc], .int .i64 kd] w fun e w' => e = .returned (ofP (plainV kd n xs)).val ∧ Below w.heap.size w w' := by
  have b2 := below2 w (.cells #[.int .i64 k, .int .i64 n, .slice so xs.length sc, .slice lo ll lc] 30) (.cells #[.int .i64 0, .bool false, .int .i64 0, .string ⟨#[]⟩, .string ⟨#[]⟩, .string ⟨#[]⟩, .slice none 0 0] 26)
  have ID := id3_any xs so sc _ hl hc (hz.below b2)
  have UI := uid3_any k n xs so sc lo ll lc _ hl hc (hz.below b2)
  match kd, h1, h4 with
  | 1, _, _ =>
    have e : plainV 1 n xs = .bool (n.tmod 2 == 0) := rfl
    rw [e]
    clear ID UI
    go_enter Tryz.func24, Tryz.ntmps24
    go_wp2
    exact bodyPost_ret (v := .agg #[.int .i64 1, .bool (n.tmod 2 == 0), .int .i64 0, .string ⟨#[]⟩, .string ⟨#[]⟩, .string ⟨#[]⟩, .slice none 0 0]) (by simp [results, Tryz.results24, go_sem]) rfl ⟨rfl, below2 _ _ _⟩
  | 2, _, _ =>
    have e : plainV 2 n xs = .long n := rfl
    rw [e]
    clear ID UI
    go_enter Tryz.func24, Tryz.ntmps24
    go_wp2
    exact bodyPost_ret (v := .agg #[.int .i64 2, .bool false, .int .i64 n, .string ⟨#[]⟩, .string ⟨#[]⟩, .string ⟨#[]⟩, .slice none 0 0]) (by simp [results, Tryz.results24, go_sem]) rfl ⟨rfl, below2 _ _ _⟩
  | 3, _, _ =>
    have e : plainV 3 n xs = .str (idt xs) := rfl
    rw [e]
    clear UI
    generalize idt xs = ix at *
    go_enter Tryz.func24, Tryz.ntmps24
    go_wp2_with fail
    refine ID.mono ?_
    clear ID
    generalize hw2 : (w.alloc _).alloc _ = w2 at *
    rintro e w3 ⟨rfl, b3⟩
    have z2 : w2.heap.size = w.heap.size + 2 := by rw [← hw2]; simp
    have hc : ∀ o, w3.cell? ⟨w.heap.size + 1, o, none⟩ = w2.cell? ⟨w.heap.size + 1, o, none⟩ := fun o => b3.cell (p := ⟨w.heap.size + 1, o, none⟩) (by show w.heap.size + 1 < _; omega)
    have hf : ∀ o, w3.frozen? ⟨w.heap.size + 1, o, none⟩ = w2.frozen? ⟨w.heap.size + 1, o, none⟩ := fun o => b3.frozen (p := ⟨w.heap.size + 1, o, none⟩) (by show w.heap.size + 1 < _; omega)
    have b03 := b2.trans (b3.mono b2.size)
    rw [← hw2] at hc hf
    clear hw2 z2 b3
    go_wp2
    exact bodyPost_ret (v := .agg #[.int .i64 3, .bool false, .int .i64 0, .string (ba ix), .string ⟨#[]⟩, .string ⟨#[]⟩, .slice none 0 0]) (by simp [results, Tryz.results24, go_sem, hc]) rfl ⟨rfl, set7_below b03 (Nat.le_succ _) _ _ _ _ _ _ _⟩
  | 4, _, _ =>
    have e : plainV 4 n xs = .uid (tyL.getD (tyI n) []) (idt xs) := rfl
    rw [e]
    clear ID
    generalize idt xs = ix at *
    generalize tyL.getD (tyI n) [] = ty at *
    go_enter Tryz.func24, Tryz.ntmps24
    go_wp2_with fail
    refine UI.mono ?_
    clear UI
    generalize hw2 : (w.alloc _).alloc _ = w2 at *
    rintro e w3 ⟨rfl, b3⟩
    have z2 : w2.heap.size = w.heap.size + 2 := by rw [← hw2]; simp
    have hc : ∀ o, w3.cell? ⟨w.heap.size + 1, o, none⟩ = w2.cell? ⟨w.heap.size + 1, o, none⟩ := fun o => b3.cell (p := ⟨w.heap.size + 1, o, none⟩) (by show w.heap.size + 1 < _; omega)
    have hf : ∀ o, w3.frozen? ⟨w.heap.size + 1, o, none⟩ = w2.frozen? ⟨w.heap.size + 1, o, none⟩ := fun o => b3.frozen (p := ⟨w.heap.size + 1, o, none⟩) (by show w.heap.size + 1 < _; omega)
    have b03 := b2.trans (b3.mono b2.size)
    rw [← hw2] at hc hf
    clear hw2 z2 b3
    go_wp2
    exact bodyPost_ret (v := .agg #[.int .i64 4, .bool false, .int .i64 0, .string ⟨#[]⟩, .string (ba ty), .string (ba ix), .slice none 0 0]) (by simp [results, Tryz.results24, go_sem, hc]) rfl ⟨rfl, set7_below b03 (Nat.le_succ _) _ _ _ _ _ _ _⟩
end Go.Proofs.YtgeibceijlaoaaaGreat

namespace Go.Proofs.YtgeibceijlaoaaaGreat
open Go.RowKit Go.Sort

structure KnownA (l : List Oper) (n : Nat) (Sp : Nat → Value → World → Prop) (a : Act) (R : Act → World → Prop) (listed : Array Bool) (a' : Act) (w' : World) : Prop where
  inv : HeadInv .any l.toArray n listed
  sp : ∀ i, i < n → listed.getD i false = true → Sp i (a'.tmps.getD (slotOf l i) undef) w'
  slot : ∀ s, (∀ i, i < n → slotOf l i ≠ s) → a'.tmps.getD s undef = a.tmps.getD s undef
  defers : a'.defers = a.defers
  size : a'.tmps.size = a.tmps.size
  world : R a' w'

theorem wp_specsA {P : Program} {id : Nat} {Q : Exit → Act → World → Prop} {a : Act} {w : World} {l : List Oper} (n : Nat) (Sp : Nat → Value → World → Prop) (R : Act → World → Prop) (hm : P.follows .mixedOrders = true) (hB : frontB l n a.tmps.size = true)
    (hR : R a w.drew)
    (hstep : ∀ i o, i < n → l[i]? = some o → ∀ a' w', R a' w' → (∀ j, waits l i j = true → Sp j (a'.tmps.getD (slotOf l j) undef) w') → (∀ s, (∀ i, i < n → slotOf l i ≠ s) → a'.tmps.getD s undef = a.tmps.getD s undef) →
      ∀ K : Act → World → Prop, (∀ v w'', Sp i v w'' → R (a'.put o.dst v) w'' → (∀ j u, Sp j u w' → Sp j u w'') → K (a'.put o.dst v) w'') → o.wp P a' w' K Q)
    (hend : ∀ a' w', R a' w' → (∀ i, i < n → Sp i (a'.tmps.getD (slotOf l i) undef) w') → (∀ s, (∀ i, i < n → slotOf l i ≠ s) → a'.tmps.getD s undef = a.tmps.getD s undef) → a'.defers = a.defers → a'.tmps.size = a.tmps.size → wpList P l.toArray Q (l.drop n) a' w') :
    (Code.region id l.toArray true).wp P Q a w := by
  simp only [frontB, Bool.and_eq_true, decide_eq_true_eq] at hB
  obtain ⟨⟨⟨⟨⟨⟨hn, hs⟩, hc⟩, hg⟩, hd⟩, hne⟩, hseq⟩ := hB
  have hn' : n < l.toArray.size := by simpa using hn
  have hgo : ∀ i, i < n → ∃ o, l[i]? = some o ∧ o.guard = none ∧ ∀ e ∈ o.after, e.on < i := fun i hi => by
    have := List.all_eq_true.1 hg i (List.mem_range.2 hi)
    cases ho : l[i]? with
    | none => rw [ho] at this; cases this
    | some o =>
      rw [ho] at this
      simp only [Option.map_some, Option.getD_some, Bool.and_eq_true, Option.isNone_iff_eq_none, Array.all_eq_true_iff_forall_mem, decide_eq_true_eq] at this
      exact ⟨o, rfl, this.1, fun e he => this.2 e he⟩
  have hdo : ∀ i, i < n → dstOf l i = some (slotOf l i) ∧ slotOf l i < a.tmps.size := fun i hi => by
    have := List.all_eq_true.1 hd i (List.mem_range.2 hi)
    unfold slotOf
    cases ho : dstOf l i with
    | none => rw [ho] at this; cases this
    | some d =>
      rw [ho] at this
      simp only [Option.map_some, Option.getD_some, decide_eq_true_eq] at this
      exact ⟨rfl, this⟩
  have hnd : ∀ i j, i < n → j < n → slotOf l i = slotOf l j → i = j := fun i j hi hj e => by
    have := List.all_eq_true.1 (List.all_eq_true.1 hne i (List.mem_range.2 hi)) j (List.mem_range.2 hj)
    simp only [Bool.or_eq_true, decide_eq_true_eq] at this
    rcases this with h | h
    · exact h
    · exact absurd (by rw [(hdo i hi).1, (hdo j hj).1, e]) h
  have key : ∀ (f : Nat) (listed : Array Bool) (a' : Act) (w' : World), unl listed n = f → KnownA l n Sp a R listed a' w' → wpAny P .any l.toArray Q (f + (l.length - n)) listed a' w' := by
    intro f
    induction f with
    | zero =>
      intro listed a' w' hu K
      have hall := unl_zero listed n hu
      have hl : listed = (List.replicate n true ++ List.replicate (l.length - n) false).toArray := by
        have hsz : listed.size = l.length := by rw [K.inv.size]; simp
        apply Array.ext
        · simp [hsz]
          omega
        · intro i h1 h2
          by_cases hi : i < n
          · have := hall i hi
            simp [h1] at this
            rw [this]
            simp [hi]
          · have := K.inv.tail i (by omega) (by simp; omega)
            simp [h1] at this
            rw [this]
            simp [List.getElem_append, hi]
      rw [Nat.zero_add, hl]
      have hdl : (l.drop n).length = l.length - n := by simp
      rw [← hdl]
      refine wpAny_of_seq (l.drop n) n _ a' w' (fun j => by simp [List.getElem?_drop]) (by rw [hdl]; exact hseq) ?_
      exact hend a' w' K.world (fun i hi => K.sp i hi (hall i hi)) K.slot K.defers K.size
    | succ f ih =>
      intro listed a' w' hu K
      have hsz : listed.size = l.length := by rw [K.inv.size]; simp
      obtain ⟨i0, hi0, hf0, hlow⟩ := unl_pos listed n (by omega)
      have hu0 : listed.getD i0 true = false := getD_in (by omega) hf0
      rw [show f + 1 + (l.length - n) = (f + (l.length - n)) + 1 by omega]
      refine ⟨fun hnil => ?_, fun i hi => ?_⟩
      · exfalso
        obtain ⟨o, ho, _, hon⟩ := hgo i0 hi0
        have : i0 ∈ Region.ready .any l.toArray listed := mem_ready.2 ⟨hu0, o, by simpa using ho, fun e he _ => hlow _ (hon e he)⟩
        rw [hnil] at this
        cases this
      · obtain ⟨hun, o, ho, hdep⟩ := mem_ready.1 hi
        have hin : i < n := by
          rcases Nat.lt_or_ge i n with h | h
          · exact h
          · exact absurd hi (tail_waits hs hc hn' K.inv _ i0 rfl hi0 hu0 i h)
        have ho' : l[i]? = some o := by simpa using ho
        obtain ⟨o2, ho2, hgd, hon⟩ := hgo i hin
        obtain rfl : o2 = o := Option.some.inj (ho2.symm.trans ho')
        have hdst : o2.dst = some (slotOf l i) := by
          have := (hdo i hin).1
          rw [dstOf, ho'] at this
          simpa using this
        unfold wpOp
        simp only [ho]
        rw [if_pos (by simp [Region.wanted, hgd])]
        left
        refine hstep i o2 hin ho' a' w' K.world (fun j hj => ?_) K.slot _ (fun v w'' hv hRw hup => ?_)
        rotate_left
        · have hput : ∀ s, (a'.put o2.dst v).tmps.getD s undef = if s = slotOf l i then v else a'.tmps.getD s undef := fun s => by
            rw [hdst]
            by_cases hsi : s = slotOf l i
            · subst hsi
              rw [if_pos rfl]
              have : slotOf l i < a'.tmps.size := by rw [K.size]; exact (hdo i hin).2
              simp [Act.put, this]
            · rw [if_neg hsi]
              simp [Act.put, Array.getElem?_setIfInBounds_ne (Ne.symm hsi)]
          refine ih _ _ _ (by have := unl_set listed i (by omega) (getD_both hun) n hin; omega) ⟨K.inv.set hi hin, fun j hj hlj => ?_, fun s hs' => ?_, ?_, ?_, hRw⟩
          · rw [hput]
            by_cases e : j = i
            · subst e
              rw [if_pos rfl]
              exact hv
            · rw [if_neg (fun h => e (hnd j i hj hin h))]
              rw [getD_set_ne false (Ne.symm e)] at hlj
              exact hup j _ (K.sp j hj hlj)
          · rw [hput, if_neg (fun h => hs' i hin h.symm)]
            exact K.slot s hs'
          · rw [hdst]
            exact K.defers
          · rw [hdst]
            simp [Act.put, K.size]
        · have hj' : ∃ e ∈ o2.after, Region.binds .any e = true ∧ e.on = j := by
            unfold waits at hj
            rw [ho'] at hj
            simp only [Option.map_some, Option.getD_some] at hj
            obtain ⟨e, he, hb⟩ := Array.any_eq_true'.1 hj
            simp only [Bool.and_eq_true, beq_iff_eq] at hb
            exact ⟨e, he, hb.1, hb.2⟩
          obtain ⟨e, he, hb, rfl⟩ := hj'
          exact K.sp _ (by have := hon e he; omega) (hdep e he hb)
  refine wp_region_any hm ?_
  have inv0 : HeadInv .any l.toArray n (Array.replicate l.toArray.size false) :=
    ⟨by simp, fun j oj _ hl => (by rw [getD_replicate_false] at hl; cases hl), fun t _ ht => getD_in (by simpa using ht) (getD_replicate_false _ _)⟩
  have hun : ∀ k, unl (Array.replicate l.toArray.size false) k = k := fun k => by
    induction k with
    | zero => rfl
    | succ k ih =>
      unfold unl
      rw [ih, getD_replicate_false]
      rfl
  have := key n (Array.replicate l.toArray.size false) a w.drew (hun n) ⟨inv0, fun i _ hl => (by rw [getD_replicate_false] at hl; cases hl), fun _ _ => rfl, rfl, rfl, hR⟩
  rw [show n + (l.length - n) = l.toArray.size by simp; omega] at this
  exact this

/-- The same, its end over the slots written one by one. -/
theorem wp_specsA_put {P : Program} {id : Nat} {Q : Exit → Act → World → Prop} {a : Act} {w : World} {l : List Oper} (n : Nat) (Sp : Nat → Value → World → Prop) (R : Act → World → Prop) (hm : P.follows .mixedOrders = true) (hB : frontB l n a.tmps.size = true)
    (hR : R a w.drew)
    (hstep : ∀ i o, i < n → l[i]? = some o → ∀ a' w', R a' w' → (∀ j, waits l i j = true → Sp j (a'.tmps.getD (slotOf l j) undef) w') → (∀ s, (∀ i, i < n → slotOf l i ≠ s) → a'.tmps.getD s undef = a.tmps.getD s undef) →
      ∀ K : Act → World → Prop, (∀ v w'', Sp i v w'' → R (a'.put o.dst v) w'' → (∀ j u, Sp j u w' → Sp j u w'') → K (a'.put o.dst v) w'') → o.wp P a' w' K Q)
    (hend : ∀ (v : Nat → Value) w', R (putAll l a v n) w' → (∀ i, i < n → Sp i (v i) w') → wpList P l.toArray Q (l.drop n) (putAll l a v n) w') :
    (Code.region id l.toArray true).wp P Q a w := by
  refine wp_specsA n Sp R hm hB hR hstep ?_
  intro a' w' hRw hall hslot hdef hsz
  simp only [frontB, Bool.and_eq_true, decide_eq_true_eq] at hB
  obtain ⟨⟨⟨⟨⟨⟨_, _⟩, _⟩, _⟩, hd⟩, hne⟩, _⟩ := hB
  have hdo : ∀ i, i < n → dstOf l i = some (slotOf l i) ∧ slotOf l i < a.tmps.size := fun i hi => by
    have := List.all_eq_true.1 hd i (List.mem_range.2 hi)
    unfold slotOf
    cases ho : dstOf l i with
    | none => rw [ho] at this; cases this
    | some d =>
      rw [ho] at this
      simp only [Option.map_some, Option.getD_some, decide_eq_true_eq] at this
      exact ⟨rfl, this⟩
  have hnd : ∀ i j, i < n → j < n → i ≠ j → slotOf l i ≠ slotOf l j := fun i j hi hj hij e => by
    have := List.all_eq_true.1 (List.all_eq_true.1 hne i (List.mem_range.2 hi)) j (List.mem_range.2 hj)
    simp only [Bool.or_eq_true, decide_eq_true_eq] at this
    rcases this with h | h
    · exact hij h
    · exact absurd (by rw [(hdo i hi).1, (hdo j hj).1, e]) h
  have e : a' = putAll l a (fun i => a'.tmps.getD (slotOf l i) undef) n := by
    refine act_ext (by rw [hsz, putAll_size]) (fun s => ?_) (by rw [hdef, putAll_defers])
    by_cases hx : ∃ i, i < n ∧ slotOf l i = s
    · obtain ⟨i, hi, rfl⟩ := hx
      rw [putAll_in l a _ i n hdo (fun j hj hji => hnd j i hj hi hji) hi]
    · have hx' : ∀ i, i < n → slotOf l i ≠ s := fun i hi h => hx ⟨i, hi, h⟩
      rw [putAll_out l a _ s n (fun i hi => (hdo i hi).1) hx', hslot s hx']
  have hRw' := hRw
  rw [e] at hRw'
  rw [e]
  exact hend _ w' hRw' hall
end Go.Proofs.YtgeibceijlaoaaaGreat

namespace Go.Proofs.YtgeibceijlaoaaaGreat
open Go.RowKit Go.Sort

/-- The kind that Good takes, of the plain values within. -/
def goodK (k : Int) : Nat := (1 + wrap64 (k.tdiv 5) % 4).toNat
theorem goodK_eq (k : Int) : 1 ≤ goodK k ∧ goodK k ≤ 4 ∧ 1 + wrap64 (k.tdiv 5) % 4 = (goodK k : Int) := by
  unfold goodK
  have h0 := Int.emod_nonneg (wrap64 (k.tdiv 5)) (show (4 : Int) ≠ 0 by decide)
  have h1 := Int.emod_lt_of_pos (wrap64 (k.tdiv 5)) (show (0 : Int) < 4 by decide)
  omega

/-- The plain values that Good makes a set of. -/
def goodL (k : Int) (es : List RawE) : List PV := (es.take 8).map fun e => plainV (goodK k) e.n e.xs

theorem goodL_len (k : Int) (es : List RawE) : (goodL k es).length = min 8 es.length := by simp [goodL]
theorem goodL_snoc (k : Int) (es : List RawE) (i : Nat) (h : i < es.length) (h8 : i < 8) : (goodL k es).take (i + 1) = (goodL k es).take i ++ [plainV (goodK k) es[i].n es[i].xs] := by
  rw [List.take_succ_eq_append_getElem (by rw [goodL_len]; omega)]
  simp [goodL]
theorem plainV_kindB (p : Nat) (h1 : 1 ≤ p) (h4 : p ≤ 4) (n : Int) (xs : List Int) : (plainV p n xs).kind = p := by
  match p, h1, h4 with
  | 1, _, _ | 2, _, _ | 3, _, _ | 4, _, _ => rfl
theorem goodL_kind (k : Int) (es : List RawE) : ∀ p ∈ goodL k es, ∀ q ∈ goodL k es, p.kind = q.kind := by
  intro p hp q hq
  obtain ⟨a, _, rfl⟩ := List.mem_map.1 hp
  obtain ⟨b, _, rfl⟩ := List.mem_map.1 hq
  rw [plainV_kindB _ (goodK_eq k).1 (goodK_eq k).2.1, plainV_kindB _ (goodK_eq k).1 (goodK_eq k).2.1]

/-- What each slot of the region holds. -/
def goodSp (B : Nat) (lv lo : Value) (b off i : Nat) (raw : Value) (k : Int) (kd : Nat) (x : R7) : Nat → Value → World → Prop
  | 0, v, _ => v = lv
  | 1, v, _ => v = .pointer (some ⟨B, 3, none⟩)
  | 2, v, _ => v = lo
  | 3, v, _ => v = .int .i64 i
  | 4, v, _ => v = .pointer (some ⟨b, off + i * 4, none⟩)
  | 5, v, _ => v = raw
  | 6, v, _ => v = .pointer (some ⟨B, 0, none⟩)
  | 7, v, _ => v = .int .i64 k
  | 8, v, _ => v = .int .i64 (wrap64 (k.tdiv 5))
  | 9, v, _ => v = .int .i64 (wrap64 (k.tdiv 5) % 4)
  | 10, v, _ => v = .int .i64 kd
  | 11, v, _ => v = x.val
  | 12, v, w => ∃ blk, v = .slice (some ⟨blk, 0, none⟩) 1 1 ∧ blk < w.heap.size ∧ ∀ j u, x.cells[j]? = some u → w.cell? ((⟨blk, 0, none⟩ : Addr).add j) = some u
  | _, _, _ => True

theorem goodSp_up {B : Nat} {lv lo : Value} {b off i : Nat} {raw : Value} {k : Int} {kd : Nat} {x : R7} {w w' : World} (hb : Below w.heap.size w w') : ∀ j u, goodSp B lv lo b off i raw k kd x j u w → goodSp B lv lo b off i raw k kd x j u w'
  | 0, _, h | 1, _, h | 2, _, h | 3, _, h | 4, _, h | 5, _, h | 6, _, h | 7, _, h | 8, _, h | 9, _, h | 10, _, h | 11, _, h => h
  | 12, _, ⟨blk, e, hl, hc⟩ => ⟨blk, e, Nat.lt_of_lt_of_le hl hb.size, fun j u hu => (hb.cell (p := (⟨blk, 0, none⟩ : Addr).add j) (by rw [Addr.add_lit]; exact hl)).trans (hc j u hu)⟩
  | _ + 13, _, _ => trivial

set_option maxHeartbeats 4000000 in
set_option maxRecDepth 1000000 in
theorem good3_set (r : RawE) (lo : Option Addr) (es : List RawE) (lc : Nat) (w : World) (hl : es.length ≤ 9223372036854775807) (hs : RowRaw w lo es) (h5 : r.k % 5 = 4) :
    Calls Tryz.prog 9 #[.agg #[.int .i64 r.k, .int .i64 r.n, .slice r.so r.xs.length r.sc, .slice lo es.length lc]] w fun e w' => Below w.heap.size w w' ∧ ∃ ao c, e = .returned (setR ao (setOf lessP (goodL r.k es)).length c).val ∧ RowV w' ao ((setOf lessP (goodL r.k es)).map ofP) ∧ ∀ ad, ao = some ad → ad.off = 0 := by
  obtain ⟨i0, hi, hz0, hz1, hz2⟩ := info_parts infoValue
  have W1 := within3_any r.k 5 (by decide) (by decide)
  have W2 := within3_any (wrap64 (r.k.tdiv 5)) 4 (by decide) (by decide)
  rw [h5] at W1
  obtain ⟨hp1, hp4, hp⟩ := goodK_eq r.k
  have HL := hide (goodL_len r.k es)
  have HK := hide (goodL_kind r.k es)
  have Hsn := hide (goodL_snoc r.k es)
  obtain ⟨G, hG⟩ : ∃ G, G = goodL r.k es := ⟨_, rfl⟩
  rw [← hG] at HL HK Hsn ⊢
  obtain ⟨kd, hkd⟩ : ∃ kd, kd = goodK r.k := ⟨_, rfl⟩
  rw [← hkd] at Hsn hp1 hp4 hp
  clear hG hkd
  go_enter Tryz.func9, Tryz.ntmps9
  go_wp2_with fail
  have b2 := below2 w (.cells #[.int .i64 r.k, .int .i64 r.n, .slice r.so r.xs.length r.sc, .slice lo es.length lc] 30) (.cells #[.int .i64 0, .bool false, .int .i64 0, .string ⟨#[]⟩, .string ⟨#[]⟩, .string ⟨#[]⟩, .slice none 0 0] 26)
  generalize hw2 : (w.alloc (.cells #[.int .i64 r.k, .int .i64 r.n, .slice r.so r.xs.length r.sc, .slice lo es.length lc] 30)).alloc (.cells #[.int .i64 0, .bool false, .int .i64 0, .string ⟨#[]⟩, .string ⟨#[]⟩, .string ⟨#[]⟩, .slice none 0 0] 26) = w2 at *
  have Z2 := hide (show w2.heap.size = w.heap.size + 2 by rw [← hw2]; simp)
  have x0 : w2.cell? ⟨w.heap.size, 0, none⟩ = some (.int .i64 r.k) := by rw [← hw2]; simp
  have x3 : w2.cell? ⟨w.heap.size, 3, none⟩ = some (.slice lo es.length lc) := by rw [← hw2]; simp
  have Hw2 := hide hw2
  clear hw2
  refine (W1 _).mono ?_
  rintro e w1 ⟨rfl, rfl⟩
  clear W1
  go_wp2_with fail
  have L1 : w.heap.size + 1 < w1.heap.size := by have := unhide Z2; omega
  go_loopw [4, 5] (fun lv iv wr => ∃ i : Nat, iv = .int .i64 i ∧ i ≤ es.length ∧ i ≤ 8 ∧ Below w1.heap.size w1 wr ∧ wr.ownsRow w1.heap.size 26 7 lv (G.take i).length (cellsOf (G.take i))) (fun _ iv _ => 8 - (intOf iv).toNat)
  case atStart => exact ⟨0, by go_num, Nat.zero_le _, Nat.zero_le _, Below.refl _ _, World.ownsRow_nil _ _ _ _⟩
  case round =>
    obtain ⟨i, rfl, hie, hi8, hbw, hown⟩ := hrel
    have e0 := (hbw.cell (p := ⟨w.heap.size, 0, none⟩) (by show w.heap.size < _; omega)).trans x0
    have e3 := (hbw.cell (p := ⟨w.heap.size, 3, none⟩) (by show w.heap.size < _; omega)).trans x3
    by_cases hlt : i < es.length ∧ i < 8
    · obtain ⟨h1, h8⟩ := hlt
      have i1 : (i : Int) < (es.length : Int) := by omega
      have i2 : (i : Int) < 8 := by omega
      have hlen : (G.take i).length = i := by rw [List.length_take, unhide HL]; omega
      obtain ⟨hok, b, off, lo', ll', lc', rfl, hb, y0, y1, y2, y3⟩ := hs i h1
      have HS := hide (unhide Hsn i h1 h8)
      have b1r := b2.trans (hbw.mono b2.size)
      have PL : ∀ w', Below wr.heap.size wr w' → Calls Tryz.prog 24 #[.agg #[.int .i64 es[i].k, .int .i64 es[i].n, .slice es[i].so es[i].xs.length es[i].sc, .slice lo' ll' lc'], .int .i64 kd] w' fun e w'' => e = .returned (ofP (plainV kd es[i].n es[i].xs)).val ∧ Below w'.heap.size w' w'' := fun w' hb => plain3_any kd hp1 hp4 _ _ _ _ _ _ _ _ w' hok.len hok.cap ((hok.ints.below b1r).below hb)
      obtain ⟨x, hx⟩ : ∃ x, x = plainV kd es[i].n es[i].xs := ⟨_, rfl⟩
      rw [← hx] at PL HS
      have hcw : ∀ o, wr.cell? ⟨b, o, none⟩ = w.cell? ⟨b, o, none⟩ := fun o => b1r.cell (p := ⟨b, o, none⟩) hb
      have y0 := (hcw _).trans y0
      have y1 := (hcw _).trans y1
      have y2 := (hcw _).trans y2
      have y3 := (hcw _).trans y3
      have hbr : b < wr.heap.size := by have := b1r.size; omega
      have lw : w.heap.size < wr.heap.size := by have := hbw.size; omega
      generalize es[i] = ei at *
      have HIq := hide (show cellsOf [x] = (ofP x).cells by simp [cellsOf])
      obtain ⟨rx, erx⟩ : ∃ rx, rx = ofP x := ⟨_, rfl⟩
      rw [← erx] at PL HIq
      clear hx erx hcw hok
      obtain ⟨ao', cap', rfl, _⟩ := rowP_own hown
      rw [hlen] at hown ⊢
      have Hlen := hide hlen
      have Hown := hide hown
      clear hlen hown
      go_upto_region 8 with fail
      refine wp_specs_put 13 (goodSp w.heap.size (.slice ao' i cap') (.slice (some ⟨b, off, none⟩) es.length lc) b off i (.agg #[.int .i64 ei.k, .int .i64 ei.n, .slice ei.so ei.xs.length ei.sc, .slice lo' ll' lc']) r.k kd rx) (fun w' => Below wr.heap.size wr w') (by kernel_rfl) (by kernel_rfl) (Below.refl _ wr).drew ?_ ?_
      · intro j o hj ho a' w' hR hdep hslot K hK
        match j, hj with
        | 0, _ =>
          cases ho
          have e : a'.tmps.getD 4 undef = .slice ao' i cap' := hslot 4 (by decide)
          unfold Oper.wp
          go_simp
          exact hK _ _ rfl hR (fun _ _ h => h)
        | 1, _ =>
          cases ho
          have e : a'.tmps.getD 1 undef = .pointer (some ⟨w.heap.size, 0, none⟩) := hslot 1 (by decide)
          unfold Oper.wp
          go_simp
          exact hK _ _ rfl hR (fun _ _ h => h)
        | 2, _ =>
          cases ho
          have e : a'.tmps.getD 29 undef = .pointer (some ⟨w.heap.size, 3, none⟩) := hdep 1 (by kernel_rfl)
          have c3 := (hR.cell (p := ⟨w.heap.size, 3, none⟩) lw).trans e3
          unfold Oper.wp
          go_simp
          exact hK _ _ rfl hR (fun _ _ h => h)
        | 3, _ =>
          cases ho
          have e : a'.tmps.getD 5 undef = .int .i64 i := hslot 5 (by decide)
          unfold Oper.wp
          go_simp
          exact hK _ _ rfl hR (fun _ _ h => h)
        | 4, _ =>
          cases ho
          have e : a'.tmps.getD 30 undef = .slice (some ⟨b, off, none⟩) es.length lc := hdep 2 (by kernel_rfl)
          have e' : a'.tmps.getD 31 undef = .int .i64 i := hdep 3 (by kernel_rfl)
          unfold Oper.wp
          go_simp
          exact hK _ _ rfl hR (fun _ _ h => h)
        | 5, _ =>
          cases ho
          have e : a'.tmps.getD 32 undef = .pointer (some ⟨b, off + i * 4, none⟩) := hdep 4 (by kernel_rfl)
          have c0 := (hR.cell (p := ⟨b, off + i * 4, none⟩) hbr).trans y0
          have c1 := (hR.cell (p := ⟨b, off + i * 4 + 1, none⟩) hbr).trans y1
          have c2 := (hR.cell (p := ⟨b, off + i * 4 + 2, none⟩) hbr).trans y2
          have c3 := (hR.cell (p := ⟨b, off + i * 4 + 3, none⟩) hbr).trans y3
          unfold Oper.wp
          go_simp
          exact hK _ _ rfl hR (fun _ _ h => h)
        | 6, _ =>
          cases ho
          have e : a'.tmps.getD 1 undef = .pointer (some ⟨w.heap.size, 0, none⟩) := hslot 1 (by decide)
          unfold Oper.wp
          go_simp
          exact hK _ _ rfl hR (fun _ _ h => h)
        | 7, _ =>
          cases ho
          have e : a'.tmps.getD 34 undef = .pointer (some ⟨w.heap.size, 0, none⟩) := hdep 6 (by kernel_rfl)
          have c3 := (hR.cell (p := ⟨w.heap.size, 0, none⟩) lw).trans e0
          unfold Oper.wp
          go_simp
          exact hK _ _ rfl hR (fun _ _ h => h)
        | 8, _ =>
          cases ho
          have e : a'.tmps.getD 35 undef = .int .i64 r.k := hdep 7 (by kernel_rfl)
          unfold Oper.wp
          go_simp
          exact hK _ _ (congrArg (Value.int .i64) (by rw [IntKind.wrap_i64]; unfold wrap64; omega)) hR (fun _ _ h => h)
        | 9, _ =>
          cases ho
          have e : a'.tmps.getD 36 undef = .int .i64 (wrap64 (r.k.tdiv 5)) := hdep 8 (by kernel_rfl)
          have W2' := W2 w'
          clear W2
          unfold Oper.wp
          go_simp
          refine W2'.mono ?_
          rintro e w3 ⟨rfl, rfl⟩
          exact hK _ _ rfl hR (fun _ _ h => h)
        | 10, _ =>
          cases ho
          have e : a'.tmps.getD 37 undef = .int .i64 (wrap64 (r.k.tdiv 5) % 4) := hdep 9 (by kernel_rfl)
          unfold Oper.wp
          go_simp
          exact hK _ _ (congrArg (Value.int .i64) (show IntKind.i64.wrap (kd : Int) = kd by rw [IntKind.wrap_i64]; omega)) hR (fun _ _ h => h)
        | 11, _ =>
          cases ho
          have e1 : a'.tmps.getD 33 undef = _ := hdep 5 (by kernel_rfl)
          have e2 : a'.tmps.getD 38 undef = .int .i64 kd := hdep 10 (by kernel_rfl)
          have PW := PL w' hR
          clear PL
          unfold Oper.wp
          go_simp
          refine PW.mono ?_
          rintro e w3 ⟨rfl, b3⟩
          exact hK _ _ rfl (hR.trans (b3.mono hR.size)) (goodSp_up b3)
        | 12, _ =>
          cases ho
          have e1 : a'.tmps.getD 39 undef = rx.val := hdep 11 (by kernel_rfl)
          unfold R7.val at e1
          have e1' : a'.tmps[39]?.getD undef = .agg #[.int .i64 rx.k, .bool rx.b, .int .i64 rx.n, .string rx.s, .string rx.t, .string rx.i, .slice rx.lo rx.ll rx.lc] := by simpa using e1
          unfold Oper.wp
          go_simp
          exact hK _ _ ⟨w'.heap.size, rfl, by simp, news_row w' rx _ rfl⟩ (hR.alloc hR.size _) (goodSp_up (below1 _ _))
      · intro v w4 hR hall
        have f0 : v 0 = _ := hall 0 (by decide)
        have f1 : v 1 = _ := hall 1 (by decide)
        have f2 : v 2 = _ := hall 2 (by decide)
        have f3 : v 3 = _ := hall 3 (by decide)
        have f4 : v 4 = _ := hall 4 (by decide)
        have f5 : v 5 = _ := hall 5 (by decide)
        have f6 : v 6 = _ := hall 6 (by decide)
        have f7 : v 7 = _ := hall 7 (by decide)
        have f8 : v 8 = _ := hall 8 (by decide)
        have f9 : v 9 = _ := hall 9 (by decide)
        have f10 : v 10 = _ := hall 10 (by decide)
        have f11 : v 11 = _ := hall 11 (by decide)
        obtain ⟨blk, f12, hbl, hnews⟩ : ∃ blk, v 12 = .slice (some ⟨blk, 0, none⟩) 1 1 ∧ blk < w4.heap.size ∧ ∀ j u, rx.cells[j]? = some u → w4.cell? ((⟨blk, 0, none⟩ : Addr).add j) = some u := hall 12 (by decide)
        have hown4 := own_below (unhide Hown) hR
        have Hnews := hide hnews
        have Hown4 := hide hown4
        clear hall PL W2 hnews hown4
        simp only [putAll, dstOf, List.getElem?_cons_zero, List.getElem?_cons_succ, Option.bind_some, List.drop_succ_cons, List.drop_zero, f0, f1, f2, f3, f4, f5, f6, f7, f8, f9, f10, f11, f12]
        clear f0 f1 f2 f3 f4 f5 f6 f7 f8 f9 f10 f11 f12
        unfold R7.val
        simp only [Act.put, List.setIfInBounds_toArray, List.set_cons_succ, List.set_cons_zero]
        go_wp2_with (at_builtin; refine wpList_append_own _ rfl _ _ 24 rfl w1.heap.size 26 i0 _ 7 96 Tryz.underlying24 hi hz0 hz1 hz2 rfl (by decide) _ _ _ rfl (unhide Hown4) ⟨blk, 0, none⟩ 1 1 rx.cells rfl rfl ?c1 ?c2 ?c3 ?c4 ?c5 ?_)
        case c1 => exact unhide Hnews
        case c2 => exact cells_one rx
        case c3 => unfold maxLen; omega
        case c4 => omega
        case c5 => have := hbw.size; have := hR.size; omega
        intro v5 w5 hown5 hg5 _
        have b14 := hbw.trans (hR.mono hbw.size)
        have b5 : Below w1.heap.size w1 w5 := b14.grown hg5 b14.size (fun k hk => ((unhide Hown4).lt k hk).1)
        have Hown5 := hide hown5
        clear hown5 hg5
        go_wp2
        go_roundw
        case rel =>
          refine ⟨i + 1, by go_num, by omega, by omega, b5, ?_⟩
          rw [unhide HS, cellsOf_append, List.length_append, unhide Hlen, unhide HIq]
          exact unhide Hown5
        case measure =>
          simp only [intOf]
          omega
    · have hlen : (G.take i).length = G.length := by rw [List.length_take, unhide HL]; omega
      have htake : G.take i = G := List.take_of_length_le (by rw [unhide HL]; omega)
      rw [htake] at hown
      obtain ⟨ao', cap', rfl, hrow⟩ := rowV_own hown
      have hG8 : G.length ≤ 8 := by rw [unhide HL]; omega
      have ST := r3set_plain G ao' cap' wr (by omega) hrow (unhide HK)
      have hS8 := len_setOf_le G
      have hcv : ∀ o, wr.cell? ⟨w.heap.size + 1, o, none⟩ = w1.cell? ⟨w.heap.size + 1, o, none⟩ := fun o => hbw.cell (p := ⟨w.heap.size + 1, o, none⟩) L1
      have hfv : ∀ o, wr.frozen? ⟨w.heap.size + 1, o, none⟩ = w1.frozen? ⟨w.heap.size + 1, o, none⟩ := fun o => hbw.frozen (p := ⟨w.heap.size + 1, o, none⟩) L1
      have Hcv := hide hcv
      have Hfv := hide hfv
      have HG8 := hide hG8
      have HS8 := hide hS8
      have b1r := b2.trans (hbw.mono b2.size)
      have lw : w.heap.size + 1 < wr.heap.size := by have := hbw.size; omega
      clear hown hrow hlen htake hcv hfv hG8 hS8 hs x0 x3
      by_cases hei : i < es.length
      · have i1 : (i : Int) < (es.length : Int) := by omega
        have i2 : ¬ (i : Int) < 8 := by omega
        clear hlt
        go_wp2_with fail
        refine ST.mono ?_
        clear ST
        rintro e w3 ⟨b3, h3⟩
        rcases h3 with ⟨_, ao2, c2, rfl, hown2⟩ | ⟨h, _⟩
        rotate_left
        · have := unhide HS8
          have := unhide HG8
          omega
        obtain ⟨n, hn⟩ : ∃ n, n = (setOf lessP G).length := ⟨_, rfl⟩
        rw [← hn] at hown2 ⊢
        have Hn := hide hn
        clear hn
        have hc : ∀ o, w3.cell? ⟨w.heap.size + 1, o, none⟩ = w1.cell? ⟨w.heap.size + 1, o, none⟩ := fun o => (b3.cell (p := ⟨w.heap.size + 1, o, none⟩) lw).trans (unhide Hcv o)
        have hf : ∀ o, w3.frozen? ⟨w.heap.size + 1, o, none⟩ = w1.frozen? ⟨w.heap.size + 1, o, none⟩ := fun o => (b3.frozen (p := ⟨w.heap.size + 1, o, none⟩) lw).trans (unhide Hfv o)
        rw [← unhide Hw2] at hc hf
        have hc4 : ∀ o, (w3.alloc (.cells #[.int .i64 5, .bool false, .int .i64 0, .string (ba []), .string (ba []), .string (ba []), .slice ao2 n c2] 26)).cell? ⟨w.heap.size + 1, o, none⟩ = w3.cell? ⟨w.heap.size + 1, o, none⟩ := fun o => (below1 w3 _).cell (p := ⟨w.heap.size + 1, o, none⟩) (Nat.lt_of_lt_of_le lw b3.size)
        have hf4 : ∀ o, (w3.alloc (.cells #[.int .i64 5, .bool false, .int .i64 0, .string (ba []), .string (ba []), .string (ba []), .slice ao2 n c2] 26)).frozen? ⟨w.heap.size + 1, o, none⟩ = w3.frozen? ⟨w.heap.size + 1, o, none⟩ := fun o => (below1 w3 _).frozen (p := ⟨w.heap.size + 1, o, none⟩) (Nat.lt_of_lt_of_le lw b3.size)
        have b4 := (b1r.trans (b3.mono b1r.size)).alloc (Nat.le_trans b1r.size b3.size) (.cells #[.int .i64 5, .bool false, .int .i64 0, .string (ba []), .string (ba []), .string (ba []), .slice ao2 n c2] 26)
        have Hown4 := hide (hown2.alloc (.cells #[.int .i64 5, .bool false, .int .i64 0, .string (ba []), .string (ba []), .string (ba []), .slice ao2 n c2] 26))
        clear hown2
        unfold setR R7.val
        simp only
        go_upto_region 10 with fail
        have A4 := at7_new w3 (setR ao2 n c2)
        have hc5 := fun o => (hc4 o).trans (hc o)
        have hf5 := fun o => (hf4 o).trans (hf o)
        unfold setR at A4
        obtain ⟨a0, a1, a2, a3, a4, a5, a6⟩ := A4
        simp only [Nat.zero_add] at a0 a1 a2 a3 a4 a5 a6
        clear hc4 hf4 hc hf
        generalize w3.alloc _ = w4 at *
        go_wp2
        refine bodyPost_ret (v := .agg #[.int .i64 5, .bool false, .int .i64 0, .string (ba []), .string (ba []), .string (ba []), .slice ao2 n c2]) (by simp [results, Tryz.results9, go_sem, hc5]) rfl ⟨set7_below b4 (Nat.le_succ _) _ _ _ _ _ _ _, ao2, c2, by rw [← unhide Hn]; rfl, ?_⟩
        have hfin := own_set7 (unhide Hown4) lw (.int .i64 5) (.bool false) (.int .i64 0) (.string (ba [])) (.string (ba [])) (.string (ba [])) (.slice ao2 n c2)
        rw [unhide Hn] at hfin
        have hoff := own_at hfin
        obtain ⟨ao3, c3, e3, hrow3⟩ := rowV_own hfin
        cases e3
        rw [unhide Hn]
        exact ⟨hrow3, fun ad e => (hoff ad e).2.1⟩
      · have i1 : ¬ (i : Int) < (es.length : Int) := by omega
        clear hlt
        go_wp2_with fail
        refine ST.mono ?_
        clear ST
        rintro e w3 ⟨b3, h3⟩
        rcases h3 with ⟨_, ao2, c2, rfl, hown2⟩ | ⟨h, _⟩
        rotate_left
        · have := unhide HS8
          have := unhide HG8
          omega
        obtain ⟨n, hn⟩ : ∃ n, n = (setOf lessP G).length := ⟨_, rfl⟩
        rw [← hn] at hown2 ⊢
        have Hn := hide hn
        clear hn
        have hc : ∀ o, w3.cell? ⟨w.heap.size + 1, o, none⟩ = w1.cell? ⟨w.heap.size + 1, o, none⟩ := fun o => (b3.cell (p := ⟨w.heap.size + 1, o, none⟩) lw).trans (unhide Hcv o)
        have hf : ∀ o, w3.frozen? ⟨w.heap.size + 1, o, none⟩ = w1.frozen? ⟨w.heap.size + 1, o, none⟩ := fun o => (b3.frozen (p := ⟨w.heap.size + 1, o, none⟩) lw).trans (unhide Hfv o)
        rw [← unhide Hw2] at hc hf
        have hc4 : ∀ o, (w3.alloc (.cells #[.int .i64 5, .bool false, .int .i64 0, .string (ba []), .string (ba []), .string (ba []), .slice ao2 n c2] 26)).cell? ⟨w.heap.size + 1, o, none⟩ = w3.cell? ⟨w.heap.size + 1, o, none⟩ := fun o => (below1 w3 _).cell (p := ⟨w.heap.size + 1, o, none⟩) (Nat.lt_of_lt_of_le lw b3.size)
        have hf4 : ∀ o, (w3.alloc (.cells #[.int .i64 5, .bool false, .int .i64 0, .string (ba []), .string (ba []), .string (ba []), .slice ao2 n c2] 26)).frozen? ⟨w.heap.size + 1, o, none⟩ = w3.frozen? ⟨w.heap.size + 1, o, none⟩ := fun o => (below1 w3 _).frozen (p := ⟨w.heap.size + 1, o, none⟩) (Nat.lt_of_lt_of_le lw b3.size)
        have b4 := (b1r.trans (b3.mono b1r.size)).alloc (Nat.le_trans b1r.size b3.size) (.cells #[.int .i64 5, .bool false, .int .i64 0, .string (ba []), .string (ba []), .string (ba []), .slice ao2 n c2] 26)
        have Hown4 := hide (hown2.alloc (.cells #[.int .i64 5, .bool false, .int .i64 0, .string (ba []), .string (ba []), .string (ba []), .slice ao2 n c2] 26))
        clear hown2
        unfold setR R7.val
        simp only
        go_upto_region 10 with fail
        have A4 := at7_new w3 (setR ao2 n c2)
        have hc5 := fun o => (hc4 o).trans (hc o)
        have hf5 := fun o => (hf4 o).trans (hf o)
        unfold setR at A4
        obtain ⟨a0, a1, a2, a3, a4, a5, a6⟩ := A4
        simp only [Nat.zero_add] at a0 a1 a2 a3 a4 a5 a6
        clear hc4 hf4 hc hf
        generalize w3.alloc _ = w4 at *
        go_wp2
        refine bodyPost_ret (v := .agg #[.int .i64 5, .bool false, .int .i64 0, .string (ba []), .string (ba []), .string (ba []), .slice ao2 n c2]) (by simp [results, Tryz.results9, go_sem, hc5]) rfl ⟨set7_below b4 (Nat.le_succ _) _ _ _ _ _ _ _, ao2, c2, by rw [← unhide Hn]; rfl, ?_⟩
        have hfin := own_set7 (unhide Hown4) lw (.int .i64 5) (.bool false) (.int .i64 0) (.string (ba [])) (.string (ba [])) (.string (ba [])) (.slice ao2 n c2)
        rw [unhide Hn] at hfin
        have hoff := own_at hfin
        obtain ⟨ao3, c3, e3, hrow3⟩ := rowV_own hfin
        cases e3
        rw [unhide Hn]
        exact ⟨hrow3, fun ad e => (hoff ad e).2.1⟩
end Go.Proofs.YtgeibceijlaoaaaGreat

namespace Go.Proofs.YtgeibceijlaoaaaGreat
open Go.RowKit Go.Sort

set_option maxHeartbeats 4000000 in
set_option maxRecDepth 1000000 in
theorem good3_plain (r : RawE) (lo : Option Addr) (ll lc : Nat) (w : World) (hr : r.Ok w) (p : Nat) (hp1 : 1 ≤ p) (hp4 : p ≤ 4) (hp : 1 + r.k % 5 = (p : Int)) :
    Calls Tryz.prog 9 #[.agg #[.int .i64 r.k, .int .i64 r.n, .slice r.so r.xs.length r.sc, .slice lo ll lc]] w fun e w' => Below w.heap.size w w' ∧ e = .returned (ofP (plainV p r.n r.xs)).val := by
  have W1 := within3_any r.k 5 (by decide) (by decide)
  have hp5 : (p : Int) < 5 := by omega
  have PL0 := fun w' hz => plain3_any p hp1 hp4 r.k r.n r.xs r.so r.sc lo ll lc w' hr.len hr.cap hz
  obtain ⟨x, hx⟩ : ∃ x, x = ofP (plainV p r.n r.xs) := ⟨_, rfl⟩
  rw [← hx] at PL0 ⊢
  clear hx
  go_enter Tryz.func9, Tryz.ntmps9
  go_wp2_with fail
  have b2 := below2 w (.cells #[.int .i64 r.k, .int .i64 r.n, .slice r.so r.xs.length r.sc, .slice lo ll lc] 30) (.cells #[.int .i64 0, .bool false, .int .i64 0, .string ⟨#[]⟩, .string ⟨#[]⟩, .string ⟨#[]⟩, .slice none 0 0] 26)
  have PL := PL0 _ (hr.ints.below b2)
  clear PL0
  generalize hw2 : (w.alloc (.cells #[.int .i64 r.k, .int .i64 r.n, .slice r.so r.xs.length r.sc, .slice lo ll lc] 30)).alloc (.cells #[.int .i64 0, .bool false, .int .i64 0, .string ⟨#[]⟩, .string ⟨#[]⟩, .string ⟨#[]⟩, .slice none 0 0] 26) = w2 at *
  have Z2 := hide (show w2.heap.size = w.heap.size + 2 by rw [← hw2]; simp)
  have x0 : w2.cell? ⟨w.heap.size, 0, none⟩ = some (.int .i64 r.k) := by rw [← hw2]; simp
  have x1 : w2.cell? ⟨w.heap.size, 1, none⟩ = some (.int .i64 r.n) := by rw [← hw2]; simp
  have x2 : w2.cell? ⟨w.heap.size, 2, none⟩ = some (.slice r.so r.xs.length r.sc) := by rw [← hw2]; simp
  have x3 : w2.cell? ⟨w.heap.size, 3, none⟩ = some (.slice lo ll lc) := by rw [← hw2]; simp
  have Hw2 := hide hw2
  clear hw2
  refine (W1 _).mono ?_
  rintro e w1 ⟨rfl, rfl⟩
  clear W1
  go_wp2_with fail
  refine PL.mono ?_
  clear PL
  rintro e w3 ⟨rfl, b3⟩
  have hc : ∀ o, w3.cell? ⟨w.heap.size + 1, o, none⟩ = w1.cell? ⟨w.heap.size + 1, o, none⟩ := fun o => b3.cell (p := ⟨w.heap.size + 1, o, none⟩) (by have := unhide Z2; show w.heap.size + 1 < _; omega)
  have hf : ∀ o, w3.frozen? ⟨w.heap.size + 1, o, none⟩ = w1.frozen? ⟨w.heap.size + 1, o, none⟩ := fun o => b3.frozen (p := ⟨w.heap.size + 1, o, none⟩) (by have := unhide Z2; show w.heap.size + 1 < _; omega)
  rw [← unhide Hw2] at hc hf
  have b03 := b2.trans (b3.mono b2.size)
  clear x0 x1 x2 x3 b3
  unfold R7.val
  go_wp2
  exact bodyPost_ret (v := .agg #[.int .i64 x.k, .bool x.b, .int .i64 x.n, .string x.s, .string x.t, .string x.i, .slice x.lo x.ll x.lc]) (by simp [results, Tryz.results9, go_sem, hc]) rfl ⟨set7_below b03 (Nat.le_succ _) _ _ _ _ _ _ _, rfl⟩

/-- A value as the program holds it. -/
def IsG (w : World) : GV → R7 → Prop
  | .pl p, R => R = ofP p
  | .set l, R => ∃ ao c, R = setR ao l.length c ∧ RowV w ao (l.map ofP) ∧ ∀ ad, ao = some ad → ad.off = 0

theorem IsG.below {w w' : World} {g : GV} {R : R7} (h : IsG w g R) (hb : Below w.heap.size w w') : IsG w' g R := by
  cases g with
  | pl p => exact h
  | set l =>
    obtain ⟨ao, c, e, hr, ho⟩ := h
    exact ⟨ao, c, e, hr.below hb, ho⟩

/-- What Good makes. -/
def goodG (r : RawE) (es : List RawE) : GV := if r.k % 5 = 4 then .set (setOf lessP (goodL r.k es)) else .pl (plainV (1 + r.k % 5).toNat r.n r.xs)

theorem good3_any (r : RawE) (lo : Option Addr) (es : List RawE) (lc : Nat) (w : World) (hr : r.Ok w) (hl : es.length ≤ 9223372036854775807) (hs : RowRaw w lo es) :
    Calls Tryz.prog 9 #[.agg #[.int .i64 r.k, .int .i64 r.n, .slice r.so r.xs.length r.sc, .slice lo es.length lc]] w fun e w' => Below w.heap.size w w' ∧ ∃ R, e = .returned R.val ∧ IsG w' (goodG r es) R := by
  have h0 := Int.emod_nonneg r.k (show (5 : Int) ≠ 0 by decide)
  have h1 := Int.emod_lt_of_pos r.k (show (0 : Int) < 5 by decide)
  unfold goodG
  by_cases h5 : r.k % 5 = 4
  · rw [if_pos h5]
    refine (good3_set r lo es lc w hl hs h5).mono ?_
    rintro e w' ⟨hb, ao, c, he, hrow, ho⟩
    exact ⟨hb, _, he, ao, c, rfl, hrow, ho⟩
  · rw [if_neg h5]
    refine (good3_plain r lo es.length lc w hr (1 + r.k % 5).toNat (by omega) (by omega) (by omega)).mono ?_
    rintro e w' ⟨hb, he⟩
    exact ⟨hb, _, he, rfl⟩
end Go.Proofs.YtgeibceijlaoaaaGreat

namespace Go.Proofs.YtgeibceijlaoaaaGreat
open Go.RowKit Go.Sort

theorem chkT_idt (xs : List Int) : chkT (idt xs) = 0 := by
  have h1 : okL (idt xs) = true := okL_ofL _ (picks_ok _)
  have h2 : runes (idt xs) = picks (xs.take 30) := runes_ofL _ (picks_ok _)
  have h3 : (picks (xs.take 30)).length ≤ 30 := by simp [picks]; omega
  unfold chkT
  rw [if_pos h1, h2, if_neg (by omega)]

theorem name_ty (m : Nat) (h : m < 5) : nameB (tyL.getD m []) = true := by
  match m, h with
  | 0, _ | 1, _ | 2, _ | 3, _ | 4, _ => decide

theorem chkP_plainV (k : Nat) (n : Int) (xs : List Int) : chkP (plainV k n xs) = 0 := by
  unfold plainV
  split
  · rfl
  · split
    · rfl
    · split
      · exact chkT_idt xs
      · show chkU _ _ = 0
        unfold chkU
        rw [if_pos (name_ty (tyI n) (tmod5 n))]
        exact chkT_idt xs

theorem small_plainV (k : Nat) (n : Int) (xs : List Int) : smallP (plainV k n xs) := by
  have h := txt_len (xs.take 30)
  unfold plainV
  split
  · trivial
  · split
    · trivial
    · split
      · show (idt xs).length ≤ 1099511627776
        unfold idt
        omega
      · refine ⟨?_, ?_⟩
        · have h5 := tmod5 n
          show (tyL.getD (tyI n) []).length ≤ 1099511627776
          unfold tyI
          generalize (n.tmod 5).natAbs = m at *
          match m, h5 with
          | 0, _ | 1, _ | 2, _ | 3, _ | 4, _ => decide
        · show (idt xs).length ≤ 1099511627776
          unfold idt
          omega
end Go.Proofs.YtgeibceijlaoaaaGreat

namespace Go.Proofs.YtgeibceijlaoaaaGreat
open Go.RowKit Go.Sort

/-- What Check tells of a value with its list. -/
def chkAny (r : R7) (es : List R7) : Int := if r.k = 5 then chkSet r es else chkFlat r

theorem vcheck_any (r : R7) (es : List R7) (w : World) (hn : r.ll = es.length) (hl : es.length ≤ 1048576) (hr : RowV w r.lo es) (hs : smallR' r) (hsm : ∀ e ∈ es, smallR' e) :
    Calls Tryz.prog 10 #[r.val] w fun e w' => e = .returned (.int .i64 (chkAny r es)) ∧ Below w.heap.size w w' := by
  unfold chkAny
  by_cases h5 : r.k = 5
  · rw [if_pos h5]
    exact vcheck_set r es w h5 hn hl hr (fun e he => ⟨by have := (hsm e he).1; omega, by have := (hsm e he).2.1; omega, by have := (hsm e he).2.2; omega⟩)
  · rw [if_neg h5]
    exact vcheck_flat r w h5 (by have := hs.1; omega) (by have := hs.2.1; omega) (by have := hs.2.2; omega)

theorem r3check_any (r : R7) (es : List R7) (w : World) (hn : r.ll = es.length) (hl : es.length ≤ 1048576) (hr : RowV w r.lo es) (hs : smallR' r) (hsm : ∀ e ∈ es, smallR' e) :
    Calls Tryz.prog 11 #[r.val] w fun e w' => e = .returned (.int .i64 (chkAny r es)) ∧ Below w.heap.size w w' := by
  unfold chkAny
  by_cases h5 : r.k = 5
  · rw [if_pos h5]
    exact r3check_set r es w h5 hn hl hr hsm
  · rw [if_neg h5]
    exact r3check_flat r w h5 hs.1 hs.2.1 hs.2.2

theorem small'_plainV (k : Nat) (n : Int) (xs : List Int) : smallR' (ofP (plainV k n xs)) := by
  have h := txt_len (xs.take 30)
  have hs : (ba (idt xs)).size ≤ 1048576 := by rw [Lib.size_eq]; show (idt xs).length ≤ _; unfold idt; omega
  have h0 : (ba []).size ≤ 1048576 := by decide
  unfold plainV
  split
  · exact ⟨h0, h0, h0⟩
  · split
    · exact ⟨h0, h0, h0⟩
    · split
      · exact ⟨hs, h0, h0⟩
      · refine ⟨h0, ?_, hs⟩
        have h5 := tmod5 n
        show (ba (tyL.getD (tyI n) [])).size ≤ 1048576
        unfold tyI
        generalize (n.tmod 5).natAbs = m at *
        match m, h5 with
        | 0, _ | 1, _ | 2, _ | 3, _ | 4, _ => decide

/-- What Good makes: a value with its list, such as may be. -/
structure Made2 (W : World) (R : R7) (L : List R7) : Prop where
  len : R.ll = L.length
  few : L.length ≤ 8
  row : RowV W R.lo L
  small : smallR' R
  smalls : ∀ e ∈ L, smallR' e
  start : ∀ ad, R.lo = some ad → ad.off = 0
theorem Made2.below {W W' : World} {R : R7} {L : List R7} (h : Made2 W R L) (hb : Below W.heap.size W W') : Made2 W' R L := ⟨h.len, h.few, h.row.below hb, h.small, h.smalls, h.start⟩

theorem good3_made (r : RawE) (lo : Option Addr) (es : List RawE) (lc : Nat) (w : World) (hr : r.Ok w) (hl : es.length ≤ 9223372036854775807) (hs : RowRaw w lo es) :
    Calls Tryz.prog 9 #[.agg #[.int .i64 r.k, .int .i64 r.n, .slice r.so r.xs.length r.sc, .slice lo es.length lc]] w fun e w' => Below w.heap.size w w' ∧ ∃ R L, e = .returned R.val ∧ Made2 w' R L ∧
      ∀ W, Below w'.heap.size w' W → Calls Tryz.prog 10 #[R.val] W fun e w'' => e = .returned (.int .i64 0) ∧ Below W.heap.size W w'' := by
  refine (good3_any r lo es lc w hr hl hs).mono ?_
  rintro e w' ⟨hb, R, he, hg⟩
  refine ⟨hb, R, ?_⟩
  unfold goodG at hg
  split at hg
  · obtain ⟨ao, c, rfl, hrow, ho⟩ := hg
    have hmem : ∀ p ∈ setOf lessP (goodL r.k es), ∃ n xs, p = plainV (goodK r.k) n xs := fun p hp => by
      obtain ⟨a, _, rfl⟩ := List.mem_map.1 ((mem_setOf sto_lessP _ p).1 hp)
      exact ⟨_, _, rfl⟩
    have h8 : (setOf lessP (goodL r.k es)).length ≤ 8 := by
      have := len_setOf_le (goodL r.k es)
      rw [goodL_len] at this
      omega
    have h0 : (ba []).size ≤ 1048576 := by decide
    refine ⟨(setOf lessP (goodL r.k es)).map ofP, he, ⟨by rw [List.length_map]; rfl, by rw [List.length_map]; exact h8, hrow, ⟨h0, h0, h0⟩, fun e' he' => ?_, ho⟩, fun W hW => ?_⟩
    · obtain ⟨p, hp, rfl⟩ := List.mem_map.1 he'
      obtain ⟨n, xs, rfl⟩ := hmem p hp
      exact small'_plainV _ _ _
    · exact vcheck_made _ ao c W h8 (fun p hp q hq => goodL_kind r.k es p ((mem_setOf sto_lessP _ p).1 hp) q ((mem_setOf sto_lessP _ q).1 hq)) (fun p hp => by obtain ⟨n, xs, rfl⟩ := hmem p hp; exact chkP_plainV _ _ _) (fun p hp => by obtain ⟨n, xs, rfl⟩ := hmem p hp; exact small_plainV _ _ _) (rising_setOf sto_lessP _) (hrow.below hW)
  · have hR : R = ofP (plainV (1 + r.k % 5).toNat r.n r.xs) := hg
    subst hR
    refine ⟨[], he, ⟨?_, by simp, fun j hj => by simp at hj, small'_plainV _ _ _, by simp, fun ad h => ?_⟩, fun W _ => ?_⟩
    · unfold plainV
      split
      · rfl
      · split
        · rfl
        · split <;> rfl
    · exfalso
      revert h
      unfold plainV
      split
      · simp [ofP]
      · split
        · simp [ofP]
        · split <;> simp [ofP]
    · have := vcheck_ofP (plainV (1 + r.k % 5).toNat r.n r.xs) W (small_plainV _ _ _)
      rwa [chkP_plainV] at this
end Go.Proofs.YtgeibceijlaoaaaGreat

namespace Go.Proofs.YtgeibceijlaoaaaGreat
open Go.RowKit Go.Sort

/-- Seven cells in a row, in whatever world the region may be in. -/
def Seven (wr : World) (b o : Nat) (k : Int) (bb : Bool) (n : Int) (s t i : ByteArray) (lv : Value) : Prop :=
  (∀ d os, (grow (redrawn wr d) os).cell? ⟨b, o, none⟩ = some (.int .i64 k)) ∧ (∀ d os, (grow (redrawn wr d) os).cell? ⟨b, o + 1, none⟩ = some (.bool bb)) ∧ (∀ d os, (grow (redrawn wr d) os).cell? ⟨b, o + 2, none⟩ = some (.int .i64 n)) ∧
  (∀ d os, (grow (redrawn wr d) os).cell? ⟨b, o + 3, none⟩ = some (.string s)) ∧ (∀ d os, (grow (redrawn wr d) os).cell? ⟨b, o + 4, none⟩ = some (.string t)) ∧ (∀ d os, (grow (redrawn wr d) os).cell? ⟨b, o + 5, none⟩ = some (.string i)) ∧ (∀ d os, (grow (redrawn wr d) os).cell? ⟨b, o + 6, none⟩ = some lv)

/-- An element of a row, as the walk wants it. -/
theorem rowP_at {w2 wr : World} {ao : Option Addr} {l : List PV} (h : RowP w2 ao l) (hbw : Below w2.heap.size w2 wr) {j : Nat} (hj : j < l.length) :
    ∃ b off a0 c0 k bb n s t i, ao = some ⟨b, off, none⟩ ∧ valP l[j] (.slice a0 0 c0) = .agg #[.int .i64 k, .bool bb, .int .i64 n, .string s, .string t, .string i, .slice a0 0 c0] ∧ Seven wr b (off + j * 7) k bb n s t i (.slice a0 0 c0) := by
  obtain ⟨b, off, a0, c0, e, hb, hc⟩ := h j hj
  generalize l[j] = p at *
  obtain ⟨k, bb, n, s, t, i, hp, hcs⟩ : ∃ k bb n s t i, valP p (.slice a0 0 c0) = val7 k bb n s t i (.slice a0 0 c0) ∧ cellsP p (.slice a0 0 c0) = [.int .i64 k, .bool bb, .int .i64 n, .string s, .string t, .string i, .slice a0 0 c0] := by
    cases p <;> exact ⟨_, _, _, _, _, _, rfl, rfl⟩
  rw [hcs] at hc
  have up : ∀ {a : Addr} {v : Value}, a.block < w2.heap.size → w2.cell? a = some v → ∀ d os, (grow (redrawn wr d) os).cell? a = some v := fun h1 h2 d os => cell_regrown ((hbw.cell h1).trans h2) d os
  exact ⟨b, off, a0, c0, k, bb, n, s, t, i, e, hp, up (a := ⟨b, off + j * 7 + 0, none⟩) hb (hc 0 _ rfl), up (a := ⟨b, off + j * 7 + 1, none⟩) hb (hc 1 _ rfl), up (a := ⟨b, off + j * 7 + 2, none⟩) hb (hc 2 _ rfl), up (a := ⟨b, off + j * 7 + 3, none⟩) hb (hc 3 _ rfl),
    up (a := ⟨b, off + j * 7 + 4, none⟩) hb (hc 4 _ rfl), up (a := ⟨b, off + j * 7 + 5, none⟩) hb (hc 5 _ rfl), up (a := ⟨b, off + j * 7 + 6, none⟩) hb (hc 6 _ rfl)⟩

/-- A set as the program holds it. -/
def valS (lv : Value) : Value := val7 5 false 0 (ba []) (ba []) (ba []) lv

theorem two_worlds (w : World) (v v' : Value) : ∃ w2, (w.alloc (.cells #[.int .i64 5, .bool false, .int .i64 0, .string (ba []), .string (ba []), .string (ba []), v] 26)).alloc (.cells #[.int .i64 5, .bool false, .int .i64 0, .string (ba []), .string (ba []), .string (ba []), v'] 26) = w2 ∧ w2.heap.size = w.heap.size + 2 ∧
    Below w.heap.size w w2 ∧ w2.cell? ⟨w.heap.size, 6, none⟩ = some v ∧ w2.cell? ⟨w.heap.size + 1, 6, none⟩ = some v' := by
  refine ⟨_, rfl, by simp, below2 _ _ _, by simp, by simp⟩

set_option maxHeartbeats 1000000 in
theorem r3same_len (l m : Nat) (ao bo : Option Addr) (ca cb : Nat) (h : l ≠ m) (w : World) :
    Calls Tryz.prog 14 #[valS (.slice ao l ca), valS (.slice bo m cb)] w fun e w' => e = .returned (.bool false) ∧ Below w.heap.size w w' := by
  have hb : ((l : Int) == (m : Int)) = false := by simpa using (show (l : Int) ≠ m by omega)
  unfold valS val7
  go_enter Tryz.func14, Tryz.ntmps14
  go_wp2
  go_ret
  exact ⟨rfl, below2 _ _ _⟩

set_option maxHeartbeats 1000000 in
theorem r3same_set (l m : List PV) (ao bo : Option Addr) (ca cb : Nat) (w : World) (hl : l.length ≤ 1048576) (hr : RowP w ao l) (hs : RowP w bo m) :
    Calls Tryz.prog 14 #[valS (.slice ao l.length ca), valS (.slice bo m.length cb)] w fun e w' => e = .returned (.bool (decide (l = m))) ∧ Below w.heap.size w w' := by
  by_cases hlen : l.length = m.length
  case neg =>
    rw [decide_eq_false (fun e => hlen (by rw [e]))]
    exact r3same_len _ _ _ _ _ _ hlen w
  have HL := hide hlen
  have hb0 : ((l.length : Int) == (m.length : Int)) = true := by simpa using (show (l.length : Int) = m.length by omega)
  have hb1 : ((l.length : Int) != (m.length : Int)) = false := by rw [bne, hb0]; rfl
  clear hlen
  unfold valS val7
  go_enter Tryz.func14, Tryz.ntmps14
  go_wp2
  clear hb0 hb1
  obtain ⟨w2, ew, z2, b02, c6, d6⟩ := two_worlds w (.slice ao l.length ca) (.slice bo m.length cb)
  rw [ew]
  have hr2 := hr.below b02
  have hs2 := hs.below b02
  clear ew hr hs
  go_loopw [5] (fun iv wr => ∃ i : Nat, iv = .int .i64 i ∧ i ≤ l.length ∧ Below w2.heap.size w2 wr ∧ (l = m ↔ l.drop i = m.drop i)) (fun iv _ => l.length - (intOf iv).toNat)
  case atStart => exact ⟨0, by go_num, Nat.zero_le _, Below.refl _ _, by simp⟩
  case round =>
    obtain ⟨j, rfl, hj, hbw, hacc⟩ := hrel
    have Hacc := hide hacc
    clear hacc
    have e6 := (hbw.cell (p := ⟨w.heap.size, 6, none⟩) (by show w.heap.size < _; omega)).trans c6
    by_cases hlt : j < l.length
    · have hlt2 : j < m.length := by rw [← unhide HL]; exact hlt
      have i1 : (j : Int) < (l.length : Int) := by omega
      have i2 : (j : Int) < (m.length : Int) := by omega
      have i0 : (0 : Int) ≤ (j : Int) := by omega
      obtain ⟨b, off, a0, c0, k, bb, n, s, t, i, rfl, hv, F0, F1, F2, F3, F4, F5, F6⟩ := rowP_at hr2 hbw hlt
      obtain ⟨b', off', a0', c0', k', bb', n', s', t', i', rfl, hv', G0, G1, G2, G3, G4, G5, G6⟩ := rowP_at hs2 hbw hlt2
      have SM := r3same_plain l[j] m[j] a0 a0' c0 c0'
      rw [hv, hv'] at SM
      have HS := hide (show l.drop j = m.drop j ↔ l[j] = m[j] ∧ l.drop (j + 1) = m.drop (j + 1) by rw [List.drop_eq_getElem_cons hlt, List.drop_eq_getElem_cons hlt2, List.cons.injEq])
      generalize l[j] = p at *
      generalize m[j] = q at *
      have E6 := fun d os => cell_regrown e6 d os
      have D6 := fun d os => cell_regrown ((hbw.cell (p := ⟨w.heap.size + 1, 6, none⟩) (by show w.heap.size + 1 < _; omega)).trans d6) d os
      have cS := fun d os => Calls.regrown_of (w := wr) (d := d) (os := os) (SM (grow (redrawn wr d) os))
      clear hv hv' SM c6 d6 hr2 hs2
      go_wp2_with fail
      refine wp_region_quiet_below (by kernel_rfl) (by kernel_rfl) ?_
      repeat (quiet_step (exact cS _ _))
      refine wpQuiet_nil ?_
      intro _ hw'
      obtain ⟨⟨dq, osq⟩, hw''⟩ := hw'
      subst hw''
      have hbw3 : Below w2.heap.size w2 (grow (redrawn wr dq) osq) := hbw.trans ((below_regrown wr dq osq).mono hbw.size)
      by_cases hpq : p = q
      · have hd : decide (p = q) = true := decide_eq_true hpq
        rw [hd]
        go_wp2
        go_roundw
        case rel =>
          refine ⟨j + 1, by go_num, by omega, hbw3, ?_⟩
          rw [unhide Hacc, unhide HS]
          exact ⟨fun h => h.2, fun h => ⟨hpq, h⟩⟩
        case measure =>
          simp only [intOf]
          omega
      · have hd : decide (p = q) = false := decide_eq_false hpq
        rw [hd]
        go_wp2
        go_ret
        exact ⟨ret_bool (decide_eq_false (fun h => hpq ((unhide HS).1 ((unhide Hacc).1 h)).1)).symm, b02.trans (hbw3.mono b02.size)⟩
    · have i1 : ¬ (j : Int) < (l.length : Int) := by omega
      go_wp2
      go_ret
      refine ⟨ret_bool (decide_eq_true ?_).symm, b02.trans (hbw.mono b02.size)⟩
      rw [unhide Hacc, List.drop_eq_nil_of_le (by omega), List.drop_eq_nil_of_le (by have := unhide HL; omega)]
end Go.Proofs.YtgeibceijlaoaaaGreat

namespace Go.Proofs.YtgeibceijlaoaaaGreat
open Go.RowKit Go.Sort

set_option maxHeartbeats 4000000 in
set_option maxRecDepth 100000 in
theorem r3set_bad (l : List R7) (ao : Option Addr) (ca : Nat) (w : World) (hl : l.length ≤ 1048576) (hr : RowV w ao l) (h0 : 0 < l.length) (hbad : ∃ (j : Nat) (hj : j < l.length), mayB l[j].k l[0].k = false) :
    Calls Tryz.prog 26 #[.slice ao l.length ca] w fun e w' => e = .returned (.tuple #[zero7.val, .int .i64 16]) ∧ Below w.heap.size w w' := by
  go_enter Tryz.func26, Tryz.ntmps26
  go_wp2
  generalize hw2 : w.alloc _ = w2
  have b02 : Below w.heap.size w w2 := by rw [← hw2]; exact below1 _ _
  have z2 : w2.heap.size = w.heap.size + 1 := by rw [← hw2]; simp
  have Hw2 := hide hw2
  clear hw2
  have hr2 := hr.below b02
  clear hr
  go_loopw [4] (fun iv wr => ∃ i : Nat, iv = .int .i64 i ∧ i ≤ l.length ∧ Below w2.heap.size w2 wr ∧ (∀ k (hk : k < l.length), k < i → mayB l[k].k l[0].k = true)) (fun iv _ => l.length - (intOf iv).toNat)
  case atStart => exact ⟨0, by go_num, Nat.zero_le _, Below.refl _ _, fun k _ h => absurd h (Nat.not_lt_zero _)⟩
  case round =>
    obtain ⟨j, rfl, hj, hbw, hacc⟩ := hrel
    have Hacc := hide hacc
    clear hacc
    have hlt : j < l.length := by
      rcases Nat.lt_or_ge j l.length with h | h
      · exact h
      · obtain ⟨k, hk, hb⟩ := hbad
        rw [unhide Hacc k hk (by omega)] at hb
        cases hb
    have i1 : (j : Int) < (l.length : Int) := by omega
    have i0 : (0 : Int) < (l.length : Int) := by omega
    obtain ⟨b, off, rfl, A, hb⟩ := rowV_at hr2 hbw hlt
    obtain ⟨b', off', e', A0, _⟩ := rowV_at hr2 hbw h0
    cases e'
    rw [Nat.zero_mul, Nat.add_zero] at A0
    obtain ⟨r, er⟩ : ∃ r, r = l[j].k := ⟨_, rfl⟩
    obtain ⟨r0, er0⟩ : ∃ r0, r0 = l[0].k := ⟨_, rfl⟩
    have HN := hide (show mayB r r0 = true → ∀ k (hk : k < l.length), k < j + 1 → mayB l[k].k l[0].k = true from fun h k hk hk' => by
      by_cases e : k = j
      · subst e
        rw [← er, ← er0]
        exact h
      · exact unhide Hacc k hk (by omega))
    have a0 := A.up.c0
    have e0 := A0.up.c0
    rw [← er] at a0
    rw [← er0] at e0
    clear er er0 A A0 Hacc
    have stop : ∀ w4 : World, Below w2.heap.size w2 w4 → (∀ o, (w4.cell? ⟨w.heap.size, o, none⟩) = (w.alloc (.cells #[.int .i64 0, .bool false, .int .i64 0, .string ⟨#[]⟩, .string ⟨#[]⟩, .string ⟨#[]⟩, .slice none 0 0] 26)).cell? ⟨w.heap.size, o, none⟩) ∧ (∀ o, (w4.frozen? ⟨w.heap.size, o, none⟩) = (w.alloc (.cells #[.int .i64 0, .bool false, .int .i64 0, .string ⟨#[]⟩, .string ⟨#[]⟩, .string ⟨#[]⟩, .slice none 0 0] 26)).frozen? ⟨w.heap.size, o, none⟩) := by
      intro w4 b4
      rw [unhide Hw2]
      exact ⟨fun o => b4.cell (p := ⟨w.heap.size, o, none⟩) (by show w.heap.size < _; omega), fun o => b4.frozen (p := ⟨w.heap.size, o, none⟩) (by show w.heap.size < _; omega)⟩
    have Hstop := hide stop
    clear stop
    by_cases h5 : r = 5
    · have e5 : (r == 5) = true := by simpa using h5
      clear h5 HN
      go_wp2_with fail
      refine wp_region_quiet_below (by kernel_rfl) (by kernel_rfl) ?_
      repeat (go_big_quiet_step (fail))
      refine wpQuiet_nil ?_
      intro _ hw'
      obtain ⟨⟨dq, osq⟩, hw''⟩ := hw'
      subst hw''
      have b4 : Below w2.heap.size w2 (grow (redrawn wr dq) osq) := hbw.trans ((below_regrown wr dq osq).mono hbw.size)
      generalize grow (redrawn wr dq) osq = w4 at *
      obtain ⟨hc, hf⟩ := unhide Hstop w4 b4
      clear a0 e0
      go_wp2
      exact bodyPost_ret (v := .tuple #[.agg #[.int .i64 0, .bool false, .int .i64 0, .string ⟨#[]⟩, .string ⟨#[]⟩, .string ⟨#[]⟩, .slice none 0 0], .int .i64 16]) (by simp [results, Tryz.results26, go_sem, hc]) rfl ⟨rfl, set7_below (b02.trans (b4.mono b02.size)) (Nat.le_refl _) _ _ _ _ _ _ _⟩
    · have e5 : (r == 5) = false := by simpa using h5
      by_cases h6 : r = r0
      · have e6 : (r != r0) = false := by simp [h6]
        have Hn := hide (unhide HN (by simp [mayB, h5, h6.symm]))
        have h6' := hide h6
        clear h5 h6 HN
        go_wp2_with fail
        refine wp_region_quiet_below (by kernel_rfl) (by kernel_rfl) ?_
        repeat (quiet_step (fail))
        refine wpQuiet_nil ?_
        intro _ hw'
        obtain ⟨⟨dq, osq⟩, hw''⟩ := hw'
        subst hw''
        have b4 : Below w2.heap.size w2 (grow (redrawn wr dq) osq) := hbw.trans ((below_regrown wr dq osq).mono hbw.size)
        generalize grow (redrawn wr dq) osq = w4 at *
        clear a0 e0
        go_wp2
        go_roundw
        case rel => exact ⟨j + 1, by go_num, by omega, b4, unhide Hn⟩
        case measure =>
          simp only [intOf]
          omega
      · have e6 : (r != r0) = true := by simpa using h6
        clear h5 h6 HN
        go_wp2_with fail
        refine wp_region_quiet_below (by kernel_rfl) (by kernel_rfl) ?_
        repeat (quiet_step (fail))
        refine wpQuiet_nil ?_
        intro _ hw'
        obtain ⟨⟨dq, osq⟩, hw''⟩ := hw'
        subst hw''
        have b4 : Below w2.heap.size w2 (grow (redrawn wr dq) osq) := hbw.trans ((below_regrown wr dq osq).mono hbw.size)
        generalize grow (redrawn wr dq) osq = w4 at *
        obtain ⟨hc, hf⟩ := unhide Hstop w4 b4
        clear a0 e0
        go_wp2
        exact bodyPost_ret (v := .tuple #[.agg #[.int .i64 0, .bool false, .int .i64 0, .string ⟨#[]⟩, .string ⟨#[]⟩, .string ⟨#[]⟩, .slice none 0 0], .int .i64 16]) (by simp [results, Tryz.results26, go_sem, hc]) rfl ⟨rfl, set7_below (b02.trans (b4.mono b02.size)) (Nat.le_refl _) _ _ _ _ _ _ _⟩
end Go.Proofs.YtgeibceijlaoaaaGreat

namespace Go.Proofs.YtgeibceijlaoaaaGreat
open Go.ChangeShapes Go.WideShapes Go.ChangeAt Go.WideMaps Go.WideElems Go.RowKit

/-- The elements of a slice of Raws, with their own lists. -/
def RowRaw2 (W : World) (lo : Option Addr) (es : List RawE) : Prop :=
  ∀ j (hj : j < es.length), es[j].Ok W ∧ ∃ b off lo' es' lc', lo = some ⟨b, off, none⟩ ∧ b < W.heap.size ∧ W.cell? ⟨b, off + j * 4, none⟩ = some (.int .i64 es[j].k) ∧ W.cell? ⟨b, off + j * 4 + 1, none⟩ = some (.int .i64 es[j].n) ∧
    W.cell? ⟨b, off + j * 4 + 2, none⟩ = some (.slice es[j].so es[j].xs.length es[j].sc) ∧ W.cell? ⟨b, off + j * 4 + 3, none⟩ = some (.slice lo' es'.length lc') ∧ es'.length ≤ 9223372036854775807 ∧ RowRaw W lo' es'

theorem RowRaw2.below {W W' : World} {lo : Option Addr} {es : List RawE} (h : RowRaw2 W lo es) (hb : Below W.heap.size W W') : RowRaw2 W' lo es := by
  intro j hj
  obtain ⟨ho, b, off, lo', es', lc', e, hlt, h0, h1, h2, h3, h4, h5⟩ := h j hj
  have := hb.size
  exact ⟨ho.below hb, b, off, lo', es', lc', e, by omega, (hb.cell (p := ⟨b, off + j * 4, none⟩) hlt).trans h0, (hb.cell (p := ⟨b, off + j * 4 + 1, none⟩) hlt).trans h1, (hb.cell (p := ⟨b, off + j * 4 + 2, none⟩) hlt).trans h2, (hb.cell (p := ⟨b, off + j * 4 + 3, none⟩) hlt).trans h3, h4, h5.below hb⟩

set_option maxRecDepth 100000 in
theorem raws_cell2 {H : Type} {enc : TypeId × Value → H} {W : World} {m : Nat} {v : Value} {y : DataW H × List MemPlace} (h : DataW.trod enc Tryz.prog W 0 (fun _ => true) true m 28 [v] = some y) :
    ∃ lo es lc, v = .slice lo es.length lc ∧ es.length ≤ 9223372036854775807 ∧ RowRaw2 W lo es := by
  rcases Deep.open_slice Tryz.underlying28 h with ⟨hcs, _⟩ | ⟨a, len, cap, m', n, D, Pl, hcs, _, hl, hm, hmm, _, hx⟩
  · cases hcs
    exact ⟨none, [], 0, rfl, by simp, fun j hj => by simp at hj⟩
  · cases hcs
    have hmm' : m' = cap := by simpa using hmm
    subst hmm'
    have H : ∀ i : Fin len, ∃ r : RawE, r.Ok W ∧ ∃ v3 lo' es' lc', v3 = .slice lo' (List.length es') lc' ∧ es'.length ≤ 9223372036854775807 ∧ RowRaw W lo' es' ∧ ∀ c u, ([.int .i64 r.k, .int .i64 r.n, .slice r.so r.xs.length r.sc, v3] : List Value)[c]? = some u → W.cell? ((a.add (i.1 * 4)).add c) = some u := fun i => by
      obtain ⟨cs', hcells, ht⟩ := hx i.1 (by have := i.2; omega)
      rw [c_raw] at hcells
      obtain ⟨_, hl4, hc⟩ := World.cells?_some hcells
      obtain ⟨r, v3, m2, y2, rfl, hok, h3⟩ := raw_cells ht
      obtain ⟨lo', es', lc', e3, hl3, hr3⟩ := raws_cell h3
      exact ⟨r, hok, v3, lo', es', lc', e3, hl3, hr3, fun c u hu => (hc c (by have := (List.getElem?_eq_some_iff.1 hu).1; simpa using this)).trans hu⟩
    obtain ⟨f, hf⟩ := Classical.axiomOfChoice H
    refine ⟨some a, List.ofFn f, m', by rw [List.length_ofFn], by rw [List.length_ofFn]; unfold maxLen at hm; omega, fun j hj => ?_⟩
    rw [List.length_ofFn] at hj
    rw [List.getElem_ofFn]
    obtain ⟨hok, v3, lo', es', lc', e3, hl3, hr3, hc⟩ := hf ⟨j, hj⟩
    subst e3
    refine ⟨hok, ?_⟩
    obtain ⟨_, _, _, _, _, _, _, _, hc00⟩ := hf ⟨0, by omega⟩
    have h0 := hc00 0 _ rfl
    obtain ⟨b, off, sp⟩ := a
    have hsp' : sp = none := by simpa [Addr.add] using World.cell?_spot h0
    subst hsp'
    have k0 := hc 0 _ rfl
    have k1 := hc 1 _ rfl
    have k2 := hc 2 _ rfl
    have k3 := hc 3 _ rfl
    simp only [Addr.add_lit, Nat.add_zero] at k0 k1 k2 k3
    exact ⟨b, off, lo', es', lc', rfl, cell_lt k0, k0, k1, k2, k3, hl3, hr3⟩

set_option maxRecDepth 100000 in
theorem open_raws2 {H : Type} {enc : TypeId × Value → H} {W : World} {b0 : Nat} {v : Value} {d : DataW H} {ps : List MemPlace}
    (hv : Value.okWide Tryz.prog W .any b0 28 v) (hd : DataW.Trod enc Tryz.prog W 0 (fun _ => true) true 28 v d ps) :
    ∃ (lo : Option Addr) (es : List RawE) (lc : Nat), v = .slice lo es.length lc ∧ es.length ≤ 9223372036854775807 ∧ RowRaw2 W lo es := by
  obtain ⟨a0, len, cap, rfl⟩ := okWide_slice Tryz.underlying28 hv
  obtain ⟨fuel, hf⟩ := hd
  exact raws_cell2 hf

/-- The cells of a row of any values. -/
def cellsR (l : List R7) : List Value := l.flatMap R7.cells
theorem cellsR_snoc (l : List R7) (r : R7) : cellsR (l ++ [r]) = cellsR l ++ r.cells := by simp [cellsR]
theorem cellsR_map (l : List PV) : cellsR (l.map ofP) = cellsOf l := by
  rw [cellsR, cellsOf, List.flatMap_map]
theorem cellsR_at : ∀ (l : List R7) (j : Nat) (h : j < l.length) (c : Nat), c < 7 → (cellsR l)[j * 7 + c]? = (l[j].cells)[c]?
  | [], j, h, _, _ => by simp at h
  | t :: r, 0, _, c, hc => by
    show (t.cells ++ cellsR r)[0 * 7 + c]? = _
    rw [Nat.zero_mul, Nat.zero_add, List.getElem?_append_left (by rw [cells_len]; exact hc)]
    rfl
  | t :: r, j + 1, h, c, hc => by
    have := cellsR_at r j (by simpa using h) c hc
    show (t.cells ++ cellsR r)[(j + 1) * 7 + c]? = (r[j]'(by simpa using h)).cells[c]?
    rw [← this, List.getElem?_append_right (by rw [cells_len]; omega), cells_len]
    congr 1
    omega
theorem rowR_own {w : World} {B : Nat} {v : Value} {l : List R7} (h : w.ownsRow B 26 7 v l.length (cellsR l)) : ∃ ao cap, v = .slice ao l.length cap ∧ l.length ≤ cap ∧ RowV w ao l ∧ (0 < l.length → ∃ g, ao = some ⟨g, 0, none⟩ ∧ B ≤ g) := by
  rcases h.2 with ⟨h0, hz⟩ | ⟨g, cap, cur, hv, hbg, hg, hnc, _, _, htake⟩
  · exact ⟨none, 0, by rw [h0, hz], by omega, fun j hj => by omega, fun hp => by omega⟩
  · refine ⟨_, cap, hv, hnc, fun j hj => ⟨g, 0, rfl, (Array.getElem?_eq_some_iff.1 hg).1, fun c u hc => ?_⟩, fun _ => ⟨g, rfl, hbg⟩⟩
    have hc7 : c < 7 := by have := (List.getElem?_eq_some_iff.1 hc).1; rw [cells_len] at this; exact this
    have := cellsR_at l j hj c hc7
    rw [hc, ← htake, List.getElem?_take] at this
    rw [Lib.cell_of_heap hg, Nat.zero_add]
    split at this
    · simpa using this
    · cases this

/-- What a value of the law's may be. -/
def okG : GV → Prop
  | .pl p => chkP p = 0 ∧ smallP p
  | .set _ => True
theorem all_plain {Q : PV → Prop} : ∀ (l : List R7), (∀ R ∈ l, ∃ p, R = ofP p ∧ Q p) → ∃ ps : List PV, l = ps.map ofP ∧ ∀ p ∈ ps, Q p
  | [], _ => ⟨[], rfl, by simp⟩
  | R :: t, h => by
    obtain ⟨p, rfl, hp⟩ := h R (by simp)
    obtain ⟨ps, rfl, hq⟩ := all_plain t (fun X hX => h X (by simp [hX]))
    exact ⟨p :: ps, rfl, fun q hq' => by
      rcases List.mem_cons.1 hq' with rfl | hq'
      · exact hp
      · exact hq q hq'⟩
end Go.Proofs.YtgeibceijlaoaaaGreat

namespace Go.Proofs.YtgeibceijlaoaaaGreat
open Go.RowKit Go.Sort

theorem ba_nil : ba [] = ⟨#[]⟩ := rfl

theorem setPost_few {l T : List PV} {w w' : World} {e : Ending} (hT : T = setOf lessP l) (h8 : T.length ≤ 8) (h : SetPost l w e w') :
    ∃ a c, e = .returned (.tuple #[(setR a T.length c).val, .int .i64 0]) ∧ RowP w' a T ∧ RowV w' a (T.map ofP) ∧ Below w.heap.size w w' := by
  subst hT
  obtain ⟨hb, ⟨_, a, c, he, hown⟩ | ⟨h9, _⟩⟩ := h
  · refine ⟨a, c, he, ?_, ?_, hb⟩
    · obtain ⟨a', c', e', hr⟩ := rowP_own hown
      cases e'
      exact hr
    · obtain ⟨a', c', e', hr⟩ := rowV_own hown
      cases e'
      exact hr
  · omega

theorem own7_cells {w : World} {B g n c : Nat} {xs : List Value} (h : w.ownsRow B 26 7 (.slice (some ⟨g, 0, none⟩) n c) n xs) : (∀ j u, xs[j]? = some u → w.cell? ⟨g, j, none⟩ = some u) ∧ g < w.heap.size := by
  rcases h.2 with ⟨h0, _⟩ | ⟨g', cap, cur, hv, _, hg, _, _, _, htake⟩
  · cases h0
  · cases hv
    refine ⟨fun j u hj => ?_, (Array.getElem?_eq_some_iff.1 hg).1⟩
    rw [Lib.cell_of_heap hg]
    rw [← htake, List.getElem?_take] at hj
    split at hj
    · simpa using hj
    · cases hj

theorem own_empty (w : World) : (w.alloc (.cells #[] 26)).ownsRow w.heap.size 26 7 (.slice (some ⟨w.heap.size, 0, none⟩) 0 0) 0 [] := by
  refine ⟨rfl, .inr ⟨w.heap.size, 0, #[], rfl, Nat.le_refl _, alloc_heap w _, Nat.le_refl _, by unfold maxLen; omega, rfl, rfl⟩⟩

theorem run_values_from (g n cap q : Nat) (hq : q < n) (hc : n ≤ cap) (W : World) :
    (Instr.slice 24 (.slice (some ⟨g, 0, none⟩) n cap) (some (.int .i64 (q : Int))) none none).run Tryz.prog W = .ok (.slice (some ⟨g, q * 7, none⟩) (n - q) (cap - q)) W := by
  have ht : Tryz.prog.underlying 24 = some (.slice (Tryz.prog.elem 24)) := by kernel_rfl
  have h7 : ∀ w : World, (sizeOf (Tryz.prog.elem 24)).run Tryz.prog w = .ok 7 w := fun _ => by kernel_rfl
  rw [run_slice_l W 24 (some ⟨g, 0, none⟩) n cap ht .i64 (q : Int) (by omega) (by omega), h7]
  have hne : ¬ cap = q := by omega
  simp [sliced, hne, Addr.add]
  exact fun h => h.symm

theorem mem_twice {p : PV} {ps : List PV} {q : Nat} (h : p ∈ ps.drop q ++ ps) : p ∈ ps :=
  (List.mem_append.1 h).elim (fun h => List.mem_of_mem_drop h) id
/-- The same set, whatever is taken twice. -/
theorem setOf_twice (ps : List PV) (q : Nat) : setOf lessP (ps.drop q ++ ps) = setOf lessP ps :=
  setOf_same sto_lessP _ _ (fun z => by
    rw [List.mem_append]
    exact ⟨fun h => h.elim (fun h => List.mem_of_mem_drop h) id, fun h => .inr h⟩)
end Go.Proofs.YtgeibceijlaoaaaGreat

namespace Go.Proofs.YtgeibceijlaoaaaGreat
open Go.RowKit Go.Sort

theorem Val3.below {w w' : World} {r : R7} {es : List R7} (h : Val3 w r es) (hb : Below w.heap.size w w') : Val3 w' r es :=
  ⟨h.len, h.le, h.row.below hb, fun e he => by obtain ⟨ds, h1, h2, h3⟩ := h.sub e he; exact ⟨ds, h1, h2, h3.below hb⟩⟩
theorem at7_blk {w : World} {b : Nat} {r : R7} (h : w.heap[b]? = some (.cells r.cells.toArray 26 (0, 0))) : At7 w b 0 r :=
  ⟨by rw [cell_of_block h]; rfl, by rw [cell_of_block h]; rfl, by rw [cell_of_block h]; rfl, by rw [cell_of_block h]; rfl, by rw [cell_of_block h]; rfl, by rw [cell_of_block h]; rfl, by rw [cell_of_block h]; rfl⟩
theorem small'_few {r : R7} (h : fewR r) : smallR' r := ⟨by have := h.1; omega, by have := h.2.1; omega, by have := h.2.2; omega⟩

theorem cellsR_len : ∀ l : List R7, (cellsR l).length = l.length * 7
  | [] => rfl
  | r :: l => by
    show (r.cells ++ cellsR l).length = _
    rw [List.length_append, cellsR_len l, cells_len, List.length_cons]
    omega
theorem cellsR_one (l : List R7) : ∀ u ∈ cellsR l, u.oneCell' = true := by
  intro u hu
  obtain ⟨r, _, hr⟩ := List.mem_flatMap.1 hu
  exact cells_one r u hr
theorem rowV_cell {w : World} {lo : Option Addr} {l : List R7} {g : Nat} (h : RowV w lo l) (hlo : lo = some ⟨g, 0, none⟩) (j : Nat) (u : Value) (hj : (cellsR l)[j]? = some u) : w.cell? ⟨g, j, none⟩ = some u := by
  have hlt := (List.getElem?_eq_some_iff.1 hj).1
  rw [cellsR_len] at hlt
  have hq : j / 7 < l.length := by omega
  obtain ⟨b, off, e, _, hc⟩ := h (j / 7) hq
  rw [hlo] at e
  cases e
  have h7 := cellsR_at l (j / 7) hq (j % 7) (by omega)
  rw [show j / 7 * 7 + j % 7 = j by omega, hj] at h7
  have := hc (j % 7) u h7.symm
  rwa [show 0 + (j / 7) * 7 + j % 7 = j by omega] at this
theorem rowR_own2 {w : World} {B : Nat} {v : Value} {l : List R7} (h : w.ownsRow B 26 7 v l.length (cellsR l)) (hp : 0 < l.length) : ∃ g cap, v = .slice (some ⟨g, 0, none⟩) l.length cap ∧ B ≤ g ∧ g < w.heap.size ∧ l.length ≤ cap ∧ RowV w (some ⟨g, 0, none⟩) l ∧ ∀ o, w.frozen? ⟨g, o, none⟩ = false := by
  obtain ⟨ao, cap, hv, hc, hV, hg⟩ := rowR_own h
  obtain ⟨g, rfl, hB⟩ := hg hp
  rcases h.2 with ⟨h0, hz⟩ | ⟨g1, cap1, cur, hv1, _, hg1, _, _, _, _⟩
  · omega
  · rw [hv] at hv1
    cases hv1
    exact ⟨g, cap, hv, hB, (Array.getElem?_eq_some_iff.1 hg1).1, hc, hV, fun o => Lib.frozen_of_heap hg1 o⟩
theorem at7_row {w : World} {g : Nat} {l : List R7} (h : RowV w (some ⟨g, 0, none⟩) l) (j : Nat) (hj : j < l.length) : At7 w g (j * 7) l[j] := by
  obtain ⟨b, off, e, _, hc⟩ := h j hj
  cases e
  simp only [Nat.zero_add] at hc
  exact ⟨hc 0 _ rfl, hc 1 _ rfl, hc 2 _ rfl, hc 3 _ rfl, hc 4 _ rfl, hc 5 _ rfl, hc 6 _ rfl⟩
theorem setCells_size (b : Nat) : ∀ (vs : List Value) (o : Nat) (w : World), (w.setCells b o vs).heap.size = w.heap.size
  | [], _, _ => rfl
  | v :: r, o, w => by
    show ((w.setCell ⟨b, o, none⟩ v).setCells b (o + 1) r).heap.size = _
    rw [setCells_size b r]
    simp [World.setCell]
theorem setCells_heap (b k : Nat) (h : ¬ k = b) : ∀ (vs : List Value) (o : Nat) (w : World), (w.setCells b o vs).heap[k]? = w.heap[k]?
  | [], _, _ => rfl
  | v :: r, o, w => by
    show ((w.setCell ⟨b, o, none⟩ v).setCells b (o + 1) r).heap[k]? = _
    rw [setCells_heap b k h r]
    exact Below.heap_setCell w _ _ k h
theorem below_setCells {B : Nat} {a : World} (b : Nat) (hb : B ≤ b) : ∀ (vs : List Value) (o : Nat) (w : World), Below B a w → Below B a (w.setCells b o vs)
  | [], _, _, h => h
  | v :: r, o, _, h => below_setCells b hb r (o + 1) _ (h.setCell (p := ⟨b, o, none⟩) hb v)
theorem swap_chain (w : World) (g : Nat) (ra rb : R7) : (World.setCell (World.setCell (World.setCell (World.setCell (World.setCell (World.setCell (World.setCell (World.setCell (World.setCell (World.setCell (World.setCell (World.setCell (World.setCell (World.setCell w ⟨g, 0, none⟩ (.int .i64 rb.k)) ⟨g, 1, none⟩ (.bool rb.b)) ⟨g, 2, none⟩ (.int .i64 rb.n)) ⟨g, 3, none⟩ (.string rb.s)) ⟨g, 4, none⟩ (.string rb.t)) ⟨g, 5, none⟩ (.string rb.i)) ⟨g, 6, none⟩ (.slice rb.lo rb.ll rb.lc)) ⟨g, 7, none⟩ (.int .i64 ra.k)) ⟨g, 8, none⟩ (.bool ra.b)) ⟨g, 9, none⟩ (.int .i64 ra.n)) ⟨g, 10, none⟩ (.string ra.s)) ⟨g, 11, none⟩ (.string ra.t)) ⟨g, 12, none⟩ (.string ra.i)) ⟨g, 13, none⟩ (.slice ra.lo ra.ll ra.lc)) = w.setCells g 0 (rb.cells ++ ra.cells) := by
  simp only [R7.cells, List.cons_append, List.nil_append, World.setCells, Nat.zero_add, Nat.reduceAdd]
theorem drew_cell (w : World) (p : Addr) : w.drew.cell? p = w.cell? p := rfl
theorem drew_heap (w : World) : w.drew.heap = w.heap := rfl
theorem RowV.drew {w : World} {lo : Option Addr} {l : List R7} (h : RowV w lo l) : RowV w.drew lo l := by
  intro j hj
  obtain ⟨b, off, e, hb, hc⟩ := h j hj
  exact ⟨b, off, e, hb, fun c v hv => (drew_cell w _).trans (hc c v hv)⟩
/-- Two elements, swapped. -/
theorem swap_row {w : World} {g : Nat} {ra rb : R7} {l : List R7} (h : RowV w (some ⟨g, 0, none⟩) (ra :: rb :: l)) : RowV (w.setCells g 0 (rb.cells ++ ra.cells)) (some ⟨g, 0, none⟩) (rb :: ra :: l) := by
  have hg : g < w.heap.size := by
    obtain ⟨b, off, e, hb, _⟩ := h 0 (by simp)
    cases e
    exact hb
  have hin := World.cell?_setCells_in g (rb.cells ++ ra.cells) 0 w (fun j hj => by
    have hj' : j < (cellsR (ra :: rb :: l)).length := by
      rw [cellsR_len]
      rw [List.length_append, cells_len, cells_len] at hj
      simp only [List.length_cons]
      omega
    rw [rowV_cell h rfl (0 + j) _ (by rw [Nat.zero_add]; exact List.getElem?_eq_getElem hj')]
    rfl)
  intro j hj
  refine ⟨g, 0, rfl, ?_, ?_⟩
  · rw [setCells_size]
    exact hg
  · intro c v hv
    have hc7 := (List.getElem?_eq_some_iff.1 hv).1
    rw [cells_len] at hc7
    match j, hj, hv with
    | 0, hj, hv =>
      have hv' : rb.cells[c]? = some v := hv
      have hlt : c < (rb.cells ++ ra.cells).length := by rw [List.length_append, cells_len, cells_len]; omega
      have := hin c hlt
      rw [show 0 + 0 * 7 + c = 0 + c by omega, this, ← hv', ← List.getElem?_eq_getElem hlt, List.getElem?_append_left (by rw [cells_len]; exact hc7)]
    | 1, hj, hv =>
      have hv' : ra.cells[c]? = some v := hv
      have hlt : 7 + c < (rb.cells ++ ra.cells).length := by rw [List.length_append, cells_len, cells_len]; omega
      have := hin (7 + c) hlt
      rw [show 0 + 1 * 7 + c = 0 + (7 + c) by omega, this, ← hv', ← List.getElem?_eq_getElem hlt, List.getElem?_append_right (by rw [cells_len]; omega), cells_len, show 7 + c - 7 = c by omega]
    | j + 2, hj, hv =>
      rw [World.cell?_setCells_out g _ 0 w _ (fun _ _ => .inr (by rw [List.length_append, cells_len, cells_len]; show 0 + (7 + 7) ≤ 0 + (j + 2) * 7 + c; omega))]
      obtain ⟨b, off, e, _, hc⟩ := h (j + 2) hj
      cases e
      exact hc c v hv
set_option maxHeartbeats 8000000 in
set_option maxRecDepth 1000000 in
theorem checks_walk (r : R7) (es : List R7) (q : RawE) (lo : Option Addr) (es' : List RawE) (lc : Nat) (turn : Int) (w : World) (hv : Val3 w r es) (hq : q.Ok w) (hl : es'.length ≤ 9223372036854775807) (hs : RowRaw w lo es') :
    Calls Tryz.prog 3 #[r.val, .agg #[.int .i64 q.k, .int .i64 q.n, .slice q.so q.xs.length q.sc, .slice lo es'.length lc], .int .i64 turn] w fun e w' => e = .returned (.bool true) ∧ Below w.heap.size w w' := by
  have K := known3_any
  have b1 := below2 w (.cells #[.int .i64 r.k, .bool r.b, .int .i64 r.n, .string r.s, .string r.t, .string r.i, .slice r.lo r.ll r.lc] 26) (.cells #[.int .i64 q.k, .int .i64 q.n, .slice q.so q.xs.length q.sc, .slice lo es'.length lc] 30)
  have A1 : At7 ((w.alloc (.cells #[.int .i64 r.k, .bool r.b, .int .i64 r.n, .string r.s, .string r.t, .string r.i, .slice r.lo r.ll r.lc] 26)).alloc (.cells #[.int .i64 q.k, .int .i64 q.n, .slice q.so q.xs.length q.sc, .slice lo es'.length lc] 30)) w.heap.size 0 r := (at7_new w r).below (below1 _ _) (by simp)
  have u0 : ((w.alloc (.cells #[.int .i64 r.k, .bool r.b, .int .i64 r.n, .string r.s, .string r.t, .string r.i, .slice r.lo r.ll r.lc] 26)).alloc (.cells #[.int .i64 q.k, .int .i64 q.n, .slice q.so q.xs.length q.sc, .slice lo es'.length lc] 30)).cell? ⟨w.heap.size + 1, 0, none⟩ = some (.int .i64 q.k) := by simp
  have u1 : ((w.alloc (.cells #[.int .i64 r.k, .bool r.b, .int .i64 r.n, .string r.s, .string r.t, .string r.i, .slice r.lo r.ll r.lc] 26)).alloc (.cells #[.int .i64 q.k, .int .i64 q.n, .slice q.so q.xs.length q.sc, .slice lo es'.length lc] 30)).cell? ⟨w.heap.size + 1, 1, none⟩ = some (.int .i64 q.n) := by simp
  have u2 : ((w.alloc (.cells #[.int .i64 r.k, .bool r.b, .int .i64 r.n, .string r.s, .string r.t, .string r.i, .slice r.lo r.ll r.lc] 26)).alloc (.cells #[.int .i64 q.k, .int .i64 q.n, .slice q.so q.xs.length q.sc, .slice lo es'.length lc] 30)).cell? ⟨w.heap.size + 1, 2, none⟩ = some (.slice q.so q.xs.length q.sc) := by simp
  have u3 : ((w.alloc (.cells #[.int .i64 r.k, .bool r.b, .int .i64 r.n, .string r.s, .string r.t, .string r.i, .slice r.lo r.ll r.lc] 26)).alloc (.cells #[.int .i64 q.k, .int .i64 q.n, .slice q.so q.xs.length q.sc, .slice lo es'.length lc] 30)).cell? ⟨w.heap.size + 1, 3, none⟩ = some (.slice lo es'.length lc) := by simp
  have z1 : ((w.alloc (.cells #[.int .i64 r.k, .bool r.b, .int .i64 r.n, .string r.s, .string r.t, .string r.i, .slice r.lo r.ll r.lc] 26)).alloc (.cells #[.int .i64 q.k, .int .i64 q.n, .slice q.so q.xs.length q.sc, .slice lo es'.length lc] 30)).heap.size = w.heap.size + 2 := by simp
  rw [show r.val = .agg #[.int .i64 r.k, .bool r.b, .int .i64 r.n, .string r.s, .string r.t, .string r.i, .slice r.lo r.ll r.lc] from rfl]
  go_enter Tryz.func3, Tryz.ntmps3
  go_wp2_with fail
  generalize (w.alloc _).alloc _ = w1 at *
  refine (K _).mono ?_
  rintro e w2 ⟨rfl, b2⟩
  have b12 := b1.trans (b2.mono b1.size)
  have hv2 := hv.below b12
  have hq2 := hq.below b12
  have hs2 := hs.below b12
  have A2 := A1.below b2 (by omega)
  have u0 := (b2.cell (p := ⟨w.heap.size + 1, 0, none⟩) (by show w.heap.size + 1 < _; omega)).trans u0
  have u1 := (b2.cell (p := ⟨w.heap.size + 1, 1, none⟩) (by show w.heap.size + 1 < _; omega)).trans u1
  have u2 := (b2.cell (p := ⟨w.heap.size + 1, 2, none⟩) (by show w.heap.size + 1 < _; omega)).trans u2
  have u3 := (b2.cell (p := ⟨w.heap.size + 1, 3, none⟩) (by show w.heap.size + 1 < _; omega)).trans u3
  have hB2 : w.heap.size + 1 < w2.heap.size := by have := b2.size; omega
  have F := few_any r es w2 hv2
  rw [show r.val = .agg #[.int .i64 r.k, .bool r.b, .int .i64 r.n, .string r.s, .string r.t, .string r.i, .slice r.lo r.ll r.lc] from rfl] at F
  have A2k := hide A2
  clear A1 hv hq hs K
  obtain ⟨x0, x1, x2, x3, x4, x5, x6⟩ := A2
  simp only [Nat.zero_add] at x1 x2 x3 x4 x5 x6
  go_wp2_with fail
  refine F.mono ?_
  rintro e w3 ⟨fb, rfl, b3, hfew⟩
  have b13 := b12.trans (b3.mono b12.size)
  cases fb with
  | false =>
    clear x0 x1 x2 x3 x4 x5 x6
    go_wp2
    go_ret
    exact ⟨rfl, b13⟩
  | true =>
    obtain ⟨hfr, hf20, hfe⟩ := hfew rfl
    have hv3 := hv2.below b3
    have A3 := (unhide A2k).below b3 (by omega)
    have u0 := (b3.cell (p := ⟨w.heap.size + 1, 0, none⟩) (by show w.heap.size + 1 < _; omega)).trans u0
    have u1 := (b3.cell (p := ⟨w.heap.size + 1, 1, none⟩) (by show w.heap.size + 1 < _; omega)).trans u1
    have u2 := (b3.cell (p := ⟨w.heap.size + 1, 2, none⟩) (by show w.heap.size + 1 < _; omega)).trans u2
    have u3 := (b3.cell (p := ⟨w.heap.size + 1, 3, none⟩) (by show w.heap.size + 1 < _; omega)).trans u3
    have G := good3_made q lo es' lc w3 (hq2.below b3) hl (hs2.below b3)
    clear x0 x1 x2 x3 x4 x5 x6 F hfew
    go_wp2_with fail
    refine G.mono ?_
    rintro e w4 ⟨b4, R, L, rfl, hM, hCk⟩
    have b14 := b13.trans (b4.mono b13.size)
    have hv4 := hv3.below b4
    have A4 := A3.below b4 (by have := b3.size; omega)
    rw [show R.val = .agg #[.int .i64 R.k, .bool R.b, .int .i64 R.n, .string R.s, .string R.t, .string R.i, .slice R.lo R.ll R.lc] from rfl]
    have b5 := below1 w4 (.cells #[.int .i64 R.k, .bool R.b, .int .i64 R.n, .string R.s, .string R.t, .string R.i, .slice R.lo R.ll R.lc] 26)
    have h5 : (w4.alloc (.cells #[.int .i64 R.k, .bool R.b, .int .i64 R.n, .string R.s, .string R.t, .string R.i, .slice R.lo R.ll R.lc] 26)).heap[w4.heap.size]? = some (.cells R.cells.toArray 26 (0, 0)) := alloc_heap _ _
    have hB4 : w.heap.size < w4.heap.size := by have := b3.size; have := b4.size; omega
    clear u0 u1 u2 u3 G A3 hq2 hs2 hv2 hv3
    go_upto_region 6 with fail
    generalize w4.alloc _ = w5 at *
    have A5 := A4.below b5 hB4
    have hz5 : w4.heap.size < w5.heap.size := (Array.getElem?_eq_some_iff.1 h5).1
    have smr := small'_few hfr
    have sme : ∀ e ∈ es, smallR' e := fun e he => small'_few (hfe e he)
    obtain ⟨c, hc⟩ : ∃ c, c = chkAny r es := ⟨_, rfl⟩
    have V := fun d os => vcheck_any r es (grow (redrawn w5 d) os) hv4.len (by omega) ((hv4.row.below b5).below (below_regrown w5 d os)) smr sme
    have RV := fun d os => r3check_any r es (grow (redrawn w5 d) os) hv4.len (by omega) ((hv4.row.below b5).below (below_regrown w5 d os)) smr sme
    have GV := fun d os => hCk (grow (redrawn w5 d) os) (b5.trans ((below_regrown w5 d os).mono b5.size))
    rw [← hc] at V RV
    unfold R7.val at V RV GV
    have hcc : (c != c) = false := by simp
    have cV := fun d os => Calls.regrown_of (w := w5) (d := d) (os := os) (V d os)
    have cR := fun d os => Calls.regrown_of (w := w5) (d := d) (os := os) (RV d os)
    have cG := fun d os => Calls.regrown_of (w := w5) (d := d) (os := os) (GV d os)
    clear hc V RV GV
    obtain ⟨x0, x1, x2, x3, x4, x5, x6⟩ := A5.up
    obtain ⟨y0, y1, y2, y3, y4, y5, y6⟩ := (at7_blk h5).up
    simp only [Nat.zero_add] at x1 x2 x3 x4 x5 x6 y1 y2 y3 y4 y5 y6
    refine wp_region_quiet_below (by kernel_rfl) (by kernel_rfl) ?_
    iterate 7 (quiet_step (first | exact cV _ _ | exact cR _ _))
    clear cV cR
    repeat (quiet_step (exact cG _ _))
    refine wpQuiet_nil ?_
    intro _ hw'
    obtain ⟨⟨dq, osq⟩, hw''⟩ := hw'
    subst hw''
    have b56 := below_regrown w5 dq osq
    generalize grow (redrawn w5 dq) osq = w6 at *
    clear x0 x1 x2 x3 x4 x5 x6 y0 y1 y2 y3 y4 y5 y6 cG hcc
    have b46 := b5.trans (b56.mono b5.size)
    have h6 := kept_of_below b56 h5
    have A6 := A5.below b56 (by omega)
    have W6 := within3_any turn 6 (by decide) (by decide)
    obtain ⟨tq, htq⟩ : ∃ tq, tq = turn % 6 := ⟨_, rfl⟩
    have h06 : tq = 0 ∨ tq = 1 ∨ tq = 2 ∨ tq = 3 ∨ tq = 4 ∨ tq = 5 := by omega
    rw [← htq] at W6
    clear htq h5 b56 A5
    -- the end: both Checks of what there is then
    have fin : ∀ (w7 : World) (R' : R7) (L' : List R7), Below w4.heap.size w4 w7 → w7.heap[w4.heap.size]? = some (.cells R'.cells.toArray 26 (0, 0)) → R'.ll = L'.length → L'.length ≤ 1048576 → RowV w7 R'.lo L' → smallR' R' → (∀ e ∈ L', smallR' e) →
        At7G w7 w4.heap.size 0 R' ∧ ∃ c : Int, (∀ d os, Calls Tryz.prog 10 #[.agg #[.int .i64 R'.k, .bool R'.b, .int .i64 R'.n, .string R'.s, .string R'.t, .string R'.i, .slice R'.lo R'.ll R'.lc]] (grow (redrawn w7 d) os) fun e w' => e = .returned (.int .i64 c) ∧ Below (grow (redrawn w7 d) os).heap.size (grow (redrawn w7 d) os) w') ∧
          (∀ d os, Calls Tryz.prog 11 #[.agg #[.int .i64 R'.k, .bool R'.b, .int .i64 R'.n, .string R'.s, .string R'.t, .string R'.i, .slice R'.lo R'.ll R'.lc]] (grow (redrawn w7 d) os) fun e w' => e = .returned (.int .i64 c) ∧ Below (grow (redrawn w7 d) os).heap.size (grow (redrawn w7 d) os) w') :=
      fun w7 R' L' _ hblk h1 h2 h3 h4 h5 => ⟨(at7_blk hblk).up, chkAny R' L', fun d os => vcheck_any R' L' _ h1 h2 (h3.below (below_regrown w7 d os)) h4 h5, fun d os => r3check_any R' L' _ h1 h2 (h3.below (below_regrown w7 d os)) h4 h5⟩
    have Hfin := hide fin
    clear fin
    obtain ⟨x0, x1, x2, x3, x4, x5, x6⟩ := A6
    obtain ⟨p0, p1, p2, p3, p4, p5, p6⟩ := at7_blk h6
    have pf : ∀ o, w6.frozen? ⟨w4.heap.size, o, none⟩ = false := fun o => Lib.frozen_of_heap h6 o
    simp only [Nat.zero_add] at x1 x2 x3 x4 x5 x6 p1 p2 p3 p4 p5 p6
    rcases h06 with rfl | rfl | rfl | rfl | rfl | rfl
    · -- turn 0
      obtain ⟨R', hR'⟩ : ∃ R' : R7, R' = ⟨r.k, R.b, R.n, R.s, R.t, R.i, R.lo, R.ll, R.lc⟩ := ⟨_, rfl⟩
      have b47 : Below w4.heap.size w4 (w6.setCell ⟨w4.heap.size, 0, none⟩ (.int .i64 r.k)) := (b46.setCell (p := ⟨w4.heap.size, 0, none⟩) (Nat.le_refl _) _)
      have hblk : (w6.setCell ⟨w4.heap.size, 0, none⟩ (.int .i64 r.k)).heap[w4.heap.size]? = some (.cells R'.cells.toArray 26 (0, 0)) := by
        rw [hR']
        simp [World.setCell, Array.getElem?_modify, h6, R7.cells]
      have hS' : smallR' R' := by rw [hR']; exact hM.small
      have hL' : R'.ll = L.length := by rw [hR']; exact hM.len
      have hW' : RowV (w6.setCell ⟨w4.heap.size, 0, none⟩ (.int .i64 r.k)) R'.lo L := by rw [hR']; exact (hM.row.below b47)
      clear hR'
      go_wp2_with fail
      refine (W6 _).mono ?_
      rintro e w6' ⟨rfl, rfl⟩
      go_upto_region 23 with fail
      generalize (w6'.setCell ⟨w4.heap.size, 0, none⟩ (.int .i64 r.k)) = w7 at *
      clear x0 x1 x2 x3 x4 x5 x6 p0 p1 p2 p3 p4 p5 p6 pf
      obtain ⟨⟨y0, y1, y2, y3, y4, y5, y6⟩, c', cV', cR'⟩ := unhide Hfin w7 R' L b47 hblk hL' (by have := hM.few; omega) hW' hS' hM.smalls
      have cV := fun d os => Calls.regrown_of (w := w7) (d := d) (os := os) (cV' d os)
      have cR := fun d os => Calls.regrown_of (w := w7) (d := d) (os := os) (cR' d os)
      simp only [Nat.zero_add] at y1 y2 y3 y4 y5 y6
      clear cV' cR' hblk hL'
      refine wp_region_quiet_below (by kernel_rfl) (by kernel_rfl) ?_
      have hcc : (c' == c') = true := by simp
      iterate 2 (quiet_step (exact cV _ _))
      clear cV
      iterate 2 (quiet_step (exact cR _ _))
      clear cR
      iterate 2 (quiet_step (fail))
      refine wpQuiet_nil ?_
      intro _ hw'
      obtain ⟨⟨dq, osq⟩, hw''⟩ := hw'
      subst hw''
      have b78 := below_regrown w7 dq osq
      generalize grow (redrawn w7 dq) osq = w8 at *
      have b48 := b47.trans (b78.mono b47.size)
      go_wp2
      go_ret
      exact ⟨by simp, b14.trans (b48.mono b14.size)⟩
    · -- turn 1
      obtain ⟨R', hR'⟩ : ∃ R' : R7, R' = ⟨R.k, R.b, r.n, R.s, R.t, R.i, R.lo, R.ll, R.lc⟩ := ⟨_, rfl⟩
      have b47 : Below w4.heap.size w4 (w6.setCell ⟨w4.heap.size, 2, none⟩ (.int .i64 r.n)) := (b46.setCell (p := ⟨w4.heap.size, 2, none⟩) (Nat.le_refl _) _)
      have hblk : (w6.setCell ⟨w4.heap.size, 2, none⟩ (.int .i64 r.n)).heap[w4.heap.size]? = some (.cells R'.cells.toArray 26 (0, 0)) := by
        rw [hR']
        simp [World.setCell, Array.getElem?_modify, h6, R7.cells]
      have hS' : smallR' R' := by rw [hR']; exact hM.small
      have hL' : R'.ll = L.length := by rw [hR']; exact hM.len
      have hW' : RowV (w6.setCell ⟨w4.heap.size, 2, none⟩ (.int .i64 r.n)) R'.lo L := by rw [hR']; exact (hM.row.below b47)
      clear hR'
      go_wp2_with fail
      refine (W6 _).mono ?_
      rintro e w6' ⟨rfl, rfl⟩
      go_upto_region 23 with fail
      generalize (w6'.setCell ⟨w4.heap.size, 2, none⟩ (.int .i64 r.n)) = w7 at *
      clear x0 x1 x2 x3 x4 x5 x6 p0 p1 p2 p3 p4 p5 p6 pf
      obtain ⟨⟨y0, y1, y2, y3, y4, y5, y6⟩, c', cV', cR'⟩ := unhide Hfin w7 R' L b47 hblk hL' (by have := hM.few; omega) hW' hS' hM.smalls
      have cV := fun d os => Calls.regrown_of (w := w7) (d := d) (os := os) (cV' d os)
      have cR := fun d os => Calls.regrown_of (w := w7) (d := d) (os := os) (cR' d os)
      simp only [Nat.zero_add] at y1 y2 y3 y4 y5 y6
      clear cV' cR' hblk hL'
      refine wp_region_quiet_below (by kernel_rfl) (by kernel_rfl) ?_
      have hcc : (c' == c') = true := by simp
      iterate 2 (quiet_step (exact cV _ _))
      clear cV
      iterate 2 (quiet_step (exact cR _ _))
      clear cR
      iterate 2 (quiet_step (fail))
      refine wpQuiet_nil ?_
      intro _ hw'
      obtain ⟨⟨dq, osq⟩, hw''⟩ := hw'
      subst hw''
      have b78 := below_regrown w7 dq osq
      generalize grow (redrawn w7 dq) osq = w8 at *
      have b48 := b47.trans (b78.mono b47.size)
      go_wp2
      go_ret
      exact ⟨by simp, b14.trans (b48.mono b14.size)⟩
    · -- turn 2
      obtain ⟨R', hR'⟩ : ∃ R' : R7, R' = ⟨R.k, R.b, R.n, R.s, R.t, R.i, r.lo, r.ll, r.lc⟩ := ⟨_, rfl⟩
      have b47 : Below w4.heap.size w4 (w6.setCell ⟨w4.heap.size, 6, none⟩ (.slice r.lo r.ll r.lc)) := (b46.setCell (p := ⟨w4.heap.size, 6, none⟩) (Nat.le_refl _) _)
      have hblk : (w6.setCell ⟨w4.heap.size, 6, none⟩ (.slice r.lo r.ll r.lc)).heap[w4.heap.size]? = some (.cells R'.cells.toArray 26 (0, 0)) := by
        rw [hR']
        simp [World.setCell, Array.getElem?_modify, h6, R7.cells]
      have hS' : smallR' R' := by rw [hR']; exact hM.small
      have hL' : R'.ll = es.length := by rw [hR']; exact hv4.len
      have hW' : RowV (w6.setCell ⟨w4.heap.size, 6, none⟩ (.slice r.lo r.ll r.lc)) R'.lo es := by rw [hR']; exact (hv4.row.below b47)
      clear hR'
      go_wp2_with fail
      refine (W6 _).mono ?_
      rintro e w6' ⟨rfl, rfl⟩
      go_upto_region 23 with fail
      generalize (w6'.setCell ⟨w4.heap.size, 6, none⟩ (.slice r.lo r.ll r.lc)) = w7 at *
      clear x0 x1 x2 x3 x4 x5 x6 p0 p1 p2 p3 p4 p5 p6 pf
      obtain ⟨⟨y0, y1, y2, y3, y4, y5, y6⟩, c', cV', cR'⟩ := unhide Hfin w7 R' es b47 hblk hL' (by omega) hW' hS' sme
      have cV := fun d os => Calls.regrown_of (w := w7) (d := d) (os := os) (cV' d os)
      have cR := fun d os => Calls.regrown_of (w := w7) (d := d) (os := os) (cR' d os)
      simp only [Nat.zero_add] at y1 y2 y3 y4 y5 y6
      clear cV' cR' hblk hL'
      refine wp_region_quiet_below (by kernel_rfl) (by kernel_rfl) ?_
      have hcc : (c' == c') = true := by simp
      iterate 2 (quiet_step (exact cV _ _))
      clear cV
      iterate 2 (quiet_step (exact cR _ _))
      clear cR
      iterate 2 (quiet_step (fail))
      refine wpQuiet_nil ?_
      intro _ hw'
      obtain ⟨⟨dq, osq⟩, hw''⟩ := hw'
      subst hw''
      have b78 := below_regrown w7 dq osq
      generalize grow (redrawn w7 dq) osq = w8 at *
      have b48 := b47.trans (b78.mono b47.size)
      go_wp2
      go_ret
      exact ⟨by simp, b14.trans (b48.mono b14.size)⟩
    · -- turn 3
      obtain ⟨R', hR'⟩ : ∃ R' : R7, R' = ⟨R.k, R.b, R.n, r.s, R.t, R.i, R.lo, R.ll, R.lc⟩ := ⟨_, rfl⟩
      have b47 : Below w4.heap.size w4 (w6.setCell ⟨w4.heap.size, 3, none⟩ (.string r.s)) := (b46.setCell (p := ⟨w4.heap.size, 3, none⟩) (Nat.le_refl _) _)
      have hblk : (w6.setCell ⟨w4.heap.size, 3, none⟩ (.string r.s)).heap[w4.heap.size]? = some (.cells R'.cells.toArray 26 (0, 0)) := by
        rw [hR']
        simp [World.setCell, Array.getElem?_modify, h6, R7.cells]
      have hS' : smallR' R' := by rw [hR']; exact ⟨smr.1, hM.small.2.1, hM.small.2.2⟩
      have hL' : R'.ll = L.length := by rw [hR']; exact hM.len
      have hW' : RowV (w6.setCell ⟨w4.heap.size, 3, none⟩ (.string r.s)) R'.lo L := by rw [hR']; exact (hM.row.below b47)
      clear hR'
      go_wp2_with fail
      refine (W6 _).mono ?_
      rintro e w6' ⟨rfl, rfl⟩
      go_upto_region 23 with fail
      generalize (w6'.setCell ⟨w4.heap.size, 3, none⟩ (.string r.s)) = w7 at *
      clear x0 x1 x2 x3 x4 x5 x6 p0 p1 p2 p3 p4 p5 p6 pf
      obtain ⟨⟨y0, y1, y2, y3, y4, y5, y6⟩, c', cV', cR'⟩ := unhide Hfin w7 R' L b47 hblk hL' (by have := hM.few; omega) hW' hS' hM.smalls
      have cV := fun d os => Calls.regrown_of (w := w7) (d := d) (os := os) (cV' d os)
      have cR := fun d os => Calls.regrown_of (w := w7) (d := d) (os := os) (cR' d os)
      simp only [Nat.zero_add] at y1 y2 y3 y4 y5 y6
      clear cV' cR' hblk hL'
      refine wp_region_quiet_below (by kernel_rfl) (by kernel_rfl) ?_
      have hcc : (c' == c') = true := by simp
      iterate 2 (quiet_step (exact cV _ _))
      clear cV
      iterate 2 (quiet_step (exact cR _ _))
      clear cR
      iterate 2 (quiet_step (fail))
      refine wpQuiet_nil ?_
      intro _ hw'
      obtain ⟨⟨dq, osq⟩, hw''⟩ := hw'
      subst hw''
      have b78 := below_regrown w7 dq osq
      generalize grow (redrawn w7 dq) osq = w8 at *
      have b48 := b47.trans (b78.mono b47.size)
      go_wp2
      go_ret
      exact ⟨by simp, b14.trans (b48.mono b14.size)⟩
    · -- turn 4
      obtain ⟨R', hR'⟩ : ∃ R' : R7, R' = ⟨R.k, R.b, R.n, R.s, r.t, r.i, R.lo, R.ll, R.lc⟩ := ⟨_, rfl⟩
      have b47 : Below w4.heap.size w4 ((w6.setCell ⟨w4.heap.size, 4, none⟩ (.string r.t)).setCell ⟨w4.heap.size, 5, none⟩ (.string r.i)) := ((b46.setCell (p := ⟨w4.heap.size, 4, none⟩) (Nat.le_refl _) _).setCell (p := ⟨w4.heap.size, 5, none⟩) (Nat.le_refl _) _)
      have hblk : ((w6.setCell ⟨w4.heap.size, 4, none⟩ (.string r.t)).setCell ⟨w4.heap.size, 5, none⟩ (.string r.i)).heap[w4.heap.size]? = some (.cells R'.cells.toArray 26 (0, 0)) := by
        rw [hR']
        simp [World.setCell, Array.getElem?_modify, h6, R7.cells]
      have hS' : smallR' R' := by rw [hR']; exact ⟨hM.small.1, smr.2.1, smr.2.2⟩
      have hL' : R'.ll = L.length := by rw [hR']; exact hM.len
      have hW' : RowV ((w6.setCell ⟨w4.heap.size, 4, none⟩ (.string r.t)).setCell ⟨w4.heap.size, 5, none⟩ (.string r.i)) R'.lo L := by rw [hR']; exact (hM.row.below b47)
      clear hR'
      go_wp2_with fail
      refine (W6 _).mono ?_
      rintro e w6' ⟨rfl, rfl⟩
      go_upto_region 23 with fail
      generalize ((w6'.setCell ⟨w4.heap.size, 4, none⟩ (.string r.t)).setCell ⟨w4.heap.size, 5, none⟩ (.string r.i)) = w7 at *
      clear x0 x1 x2 x3 x4 x5 x6 p0 p1 p2 p3 p4 p5 p6 pf
      obtain ⟨⟨y0, y1, y2, y3, y4, y5, y6⟩, c', cV', cR'⟩ := unhide Hfin w7 R' L b47 hblk hL' (by have := hM.few; omega) hW' hS' hM.smalls
      have cV := fun d os => Calls.regrown_of (w := w7) (d := d) (os := os) (cV' d os)
      have cR := fun d os => Calls.regrown_of (w := w7) (d := d) (os := os) (cR' d os)
      simp only [Nat.zero_add] at y1 y2 y3 y4 y5 y6
      clear cV' cR' hblk hL'
      refine wp_region_quiet_below (by kernel_rfl) (by kernel_rfl) ?_
      have hcc : (c' == c') = true := by simp
      iterate 2 (quiet_step (exact cV _ _))
      clear cV
      iterate 2 (quiet_step (exact cR _ _))
      clear cR
      iterate 2 (quiet_step (fail))
      refine wpQuiet_nil ?_
      intro _ hw'
      obtain ⟨⟨dq, osq⟩, hw''⟩ := hw'
      subst hw''
      have b78 := below_regrown w7 dq osq
      generalize grow (redrawn w7 dq) osq = w8 at *
      have b48 := b47.trans (b78.mono b47.size)
      go_wp2
      go_ret
      exact ⟨by simp, b14.trans (b48.mono b14.size)⟩
    · -- turn 5
      obtain ⟨i0, hi, hz0, hz1, hz2⟩ := info_parts infoValue
      have hM6 := hM.below b46
      have hlen := hM.len
      by_cases h2 : 1 < L.length
      · rw [hlen] at p6
        have e2 : (1 : Int) < (L.length : Int) := by omega
        obtain ⟨g, off, hlo, hg6, hc6⟩ := hM6.row 0 (by omega)
        have hoff : off = 0 := hM.start _ hlo
        subst hoff
        rw [hlo] at p6
        have p6a : (w6.alloc (.cells #[] 26)).cell? ⟨w4.heap.size, 6, none⟩ = some (.slice (some ⟨g, 0, none⟩) L.length R.lc) := ((below1 w6 (.cells #[] 26)).cell (p := ⟨w4.heap.size, 6, none⟩) (Array.getElem?_eq_some_iff.1 h6).1).trans p6
        have own0 := own_empty w6
        clear hc6
        go_wp2_with fail
        refine (W6 _).mono ?_
        rintro e w6' ⟨rfl, rfl⟩
        go_wp2_with (at_builtin; refine wpList_append_own _ rfl _ _ 24 rfl w6'.heap.size 26 i0 _ 7 96 Tryz.underlying24 hi hz0 hz1 hz2 rfl (by decide) _ _ _ rfl own0 ⟨g, 0, none⟩ L.length R.lc (cellsR L) rfl ?m1 ?m2 ?m3 ?m4 ?m5 ?m6 ?_)
        case m1 => exact cellsR_len L
        case m2 =>
          intro j u hj
          rw [Addr.add_lit, Nat.zero_add]
          exact ((below1 w6' (.cells #[] 26)).cell (p := ⟨g, j, none⟩) hg6).trans (rowV_cell hM6.row hlo j u hj)
        case m3 => exact cellsR_one L
        case m4 => unfold maxLen; have := hM.few; omega
        case m5 => have := hM.few; omega
        case m6 => simp
        intro v7 w7 hown7 hgrow7 _
        have b67 : Below w6'.heap.size w6' w7 := (below1 w6' _).grown hgrow7 (by simp) (fun k hk => (own0.lt k hk).1)
        clear own0 hgrow7 p6a
        have hown7' : w7.ownsRow w6'.heap.size 26 7 v7 L.length (cellsR L) := by simpa using hown7
        clear hown7
        obtain ⟨g', cap', rfl, hBg, hg7, hcap', hV7, pg7⟩ := rowR_own2 hown7' (by omega)
        clear hown7'
        have hlt6 : w4.heap.size < w6'.heap.size := (Array.getElem?_eq_some_iff.1 h6).1
        have h7 := kept_of_below b67 h6
        have pf7 : ∀ o, w7.frozen? ⟨w4.heap.size, o, none⟩ = false := fun o => Lib.frozen_of_heap h7 o
        have q6 : w7.cell? ⟨w4.heap.size, 6, none⟩ = some (.slice (some ⟨g, 0, none⟩) L.length R.lc) := (b67.cell (p := ⟨w4.heap.size, 6, none⟩) hlt6).trans p6
        have hne : ¬ w4.heap.size = g' := by omega
        have hne' : ¬ g' = w4.heap.size := by omega
        obtain ⟨R', hR'⟩ : ∃ R' : R7, R' = ⟨R.k, R.b, R.n, R.s, R.t, R.i, some ⟨g', 0, none⟩, L.length, cap'⟩ := ⟨_, rfl⟩
        have h8 : (w7.setCell ⟨w4.heap.size, 6, none⟩ (.slice (some ⟨g', 0, none⟩) L.length cap')).heap[w4.heap.size]? = some (.cells R'.cells.toArray 26 (0, 0)) := by
          rw [hR']
          simp [World.setCell, Array.getElem?_modify, h7, R7.cells]
        have c8 : ∀ o, (w7.setCell ⟨w4.heap.size, 6, none⟩ (.slice (some ⟨g', 0, none⟩) L.length cap')).cell? ⟨g', o, none⟩ = w7.cell? ⟨g', o, none⟩ := fun o => World.cell?_setCell_far _ _ _ _ hne
        have pg8 : ∀ o, (w7.setCell ⟨w4.heap.size, 6, none⟩ (.slice (some ⟨g', 0, none⟩) L.length cap')).frozen? ⟨g', o, none⟩ = false := fun o => by rw [World.frozen?_setCell]; exact pg7 o
        have b48 : Below w4.heap.size w4 (w7.setCell ⟨w4.heap.size, 6, none⟩ (.slice (some ⟨g', 0, none⟩) L.length cap')) := (b46.trans (b67.mono b46.size)).setCell (p := ⟨w4.heap.size, 6, none⟩) (Nat.le_refl _) _
        have hg8 : g' < (w7.setCell ⟨w4.heap.size, 6, none⟩ (.slice (some ⟨g', 0, none⟩) L.length cap')).heap.size := by simpa [World.setCell] using hg7
        have V8 : RowV (w7.setCell ⟨w4.heap.size, 6, none⟩ (.slice (some ⟨g', 0, none⟩) L.length cap')) (some ⟨g', 0, none⟩) L := fun j hj => by
          obtain ⟨b, off, e, _, hc⟩ := hV7 j hj
          cases e
          exact ⟨g', 0, rfl, hg8, fun c u hu => (c8 _).trans (hc c u hu)⟩
        clear c8 pg7 hV7
        go_upto_region 22 with fail
        generalize w7.setCell ⟨w4.heap.size, 6, none⟩ (.slice (some ⟨g', 0, none⟩) L.length cap') = w8 at *
        clear x0 x1 x2 x3 x4 x5 x6 p0 p1 p2 p3 p4 p5 p6 pf pf7 q6 h7 h6
        have y6 : w8.cell? ⟨w4.heap.size, 6, none⟩ = some (.slice (some ⟨g', 0, none⟩) L.length cap') := by rw [cell_of_block h8, hR']; rfl
        obtain ⟨ra, rb, l', hL⟩ : ∃ ra rb l', L = ra :: rb :: l' := by
          cases L with
          | nil => simp at h2
          | cons a t => cases t with
            | nil => simp at h2
            | cons b t => exact ⟨a, b, t, rfl⟩
        have V8' : RowV w8 (some ⟨g', 0, none⟩) (ra :: rb :: l') := by rw [← hL]; exact V8
        obtain ⟨a0, a1, a2, a3, a4, a5, a6⟩ := at7_row V8' 0 (by simp)
        obtain ⟨d0, d1, d2, d3, d4, d5, d6⟩ := at7_row V8' 1 (by simp)
        simp only [Nat.zero_add, Nat.zero_mul, Nat.one_mul, Nat.reduceAdd, List.getElem_cons_zero, List.getElem_cons_succ] at a0 a1 a2 a3 a4 a5 a6 d0 d1 d2 d3 d4 d5 d6
        have HL := hide hL
        have H8 := hide h8
        have HR := hide hR'
        have HV := hide V8'
        clear hL h8 hR' V8' V8
        have e1 : (0 : Int) < (L.length : Int) := by omega
        have e3 : 1 < L.length := h2
        have e4 : 0 < L.length := by omega
        go_region
        go_upto_region 23 with fail
        clear y6 pg8 a0 a1 a2 a3 a4 a5 a6 d0 d1 d2 d3 d4 d5 d6
        generalize hW : World.drew (World.setCell _ _ _) = w9
        rw [swap_chain] at hW
        have hW' := hW
        clear hW
        have V9 : RowV w9 (some ⟨g', 0, none⟩) (rb :: ra :: l') := by rw [← hW']; exact RowV.drew (swap_row (unhide HV))
        have b49 : Below w4.heap.size w4 w9 := by rw [← hW']; exact (below_setCells g' (by omega) _ _ _ b48).drew
        have h9 : w9.heap[w4.heap.size]? = some (.cells R'.cells.toArray 26 (0, 0)) := by rw [← hW']; rw [drew_heap, setCells_heap g' _ hne]; exact unhide H8
        clear hW'
        have hR9 := unhide HR
        have hLs : (rb :: ra :: l').length = L.length := by rw [unhide HL]; rfl
        have hms : ∀ e ∈ rb :: ra :: l', smallR' e := fun e he => hM.smalls e (by
          rw [unhide HL]
          simp only [List.mem_cons] at he ⊢
          rcases he with h | h | h
          · exact .inr (.inl h)
          · exact .inl h
          · exact .inr (.inr h))
        have hf := hM.few
        have hR1 : R'.ll = (rb :: ra :: l').length := by rw [hR9, hLs]
        have hR2 : R'.lo = some ⟨g', 0, none⟩ := by rw [hR9]
        have hR3 : smallR' R' := by rw [hR9]; exact hM.small
        obtain ⟨⟨y0, y1, y2, y3, y4, y5, y6⟩, c', cV', cR'⟩ := unhide Hfin w9 R' (rb :: ra :: l') b49 h9 hR1 (by rw [hLs]; omega) (by rw [hR2]; exact V9) hR3 hms
        clear hR9 hR1 hR2 hLs hlen hlo h9
        have cV := fun d os => Calls.regrown_of (w := w9) (d := d) (os := os) (cV' d os)
        have cR := fun d os => Calls.regrown_of (w := w9) (d := d) (os := os) (cR' d os)
        simp only [Nat.zero_add] at y1 y2 y3 y4 y5 y6
        clear cV' cR'
        refine wp_region_quiet_below (by kernel_rfl) (by kernel_rfl) ?_
        have hcc : (c' == c') = true := by simp
        iterate 2 (quiet_step (exact cV _ _))
        clear cV
        iterate 2 (quiet_step (exact cR _ _))
        clear cR
        iterate 2 (quiet_step (fail))
        refine wpQuiet_nil ?_
        intro _ hw'
        obtain ⟨⟨dq, osq⟩, hw''⟩ := hw'
        subst hw''
        have b9x := below_regrown w9 dq osq
        generalize grow (redrawn w9 dq) osq = w10 at *
        have b4x := b49.trans (b9x.mono b49.size)
        go_wp2
        go_ret
        exact ⟨by simp, b14.trans (b4x.mono b14.size)⟩
      · have e2 : ¬ (1 : Int) < (L.length : Int) := by omega
        rw [hlen] at p6
        clear hlen
        go_wp2_with fail
        refine (W6 _).mono ?_
        rintro e w6' ⟨rfl, rfl⟩
        go_upto_region 23 with fail
        clear x0 x1 x2 x3 x4 x5 x6 p0 p1 p2 p3 p4 p5 p6 pf
        obtain ⟨⟨y0, y1, y2, y3, y4, y5, y6⟩, c', cV', cR'⟩ := unhide Hfin w6' R L b46 h6 hM.len (by have := hM.few; omega) hM6.row hM.small hM.smalls
        clear h6
        have cV := fun d os => Calls.regrown_of (w := w6') (d := d) (os := os) (cV' d os)
        have cR := fun d os => Calls.regrown_of (w := w6') (d := d) (os := os) (cR' d os)
        simp only [Nat.zero_add] at y1 y2 y3 y4 y5 y6
        clear cV' cR'
        refine wp_region_quiet_below (by kernel_rfl) (by kernel_rfl) ?_
        have hcc : (c' == c') = true := by simp
        iterate 2 (quiet_step (exact cV _ _))
        clear cV
        iterate 2 (quiet_step (exact cR _ _))
        clear cR
        iterate 2 (quiet_step (fail))
        refine wpQuiet_nil ?_
        intro _ hw'
        obtain ⟨⟨dq, osq⟩, hw''⟩ := hw'
        subst hw''
        have b9x := below_regrown w6' dq osq
        generalize grow (redrawn w6' dq) osq = w10 at *
        have b4x := b46.trans (b9x.mono b46.size)
        go_wp2
        go_ret
        exact ⟨by simp, b14.trans (b4x.mono b14.size)⟩
end Go.Proofs.YtgeibceijlaoaaaGreat
