/-
  chancelref7's reader: bytes: what it returns.
-/
import Derived.Test.YtkeljejddfpnmaaDoorPkY
namespace Go.Proofs.YtkeljejddfpnmaaDoor
open Go.RowKit Go.Sort

def LenOk (l : List UInt8) (e : Bool) : Prop := e = false ∧ 2 ≤ l.length ∧ beV (l.take 2) ≤ (l.drop 2).length
def BytPost (l : List UInt8) (e : Bool) (w : World) (qb : Nat) (r : Ending) (w' : World) : Prop :=
  ∃ ao cap X l' e', r = .returned (.slice ao (List.length X) cap) ∧ Keep1 qb w w' ∧ QK w' qb l' e' ∧ BRow w' ao X ∧ (LenOk l e → X = (l.drop 2).take (beV (l.take 2)) ∧ l' = (l.drop 2).drop (beV (l.take 2)) ∧ e' = false) ∧ (¬ LenOk l e → e' = true)

theorem u8_two (l : List UInt8) (e : Bool) : (u8e (u8l l e) (u8e l e) = false → e = false ∧ 2 ≤ l.length ∧ u8l (u8l l e) (u8e l e) = l.drop 2 ∧ ∃ a b : UInt8, l.take 2 = [a, b] ∧ u8v l e = (a.toNat : Int) ∧ u8v (u8l l e) (u8e l e) = (b.toNat : Int)) ∧ (e = false → 2 ≤ l.length → u8e (u8l l e) (u8e l e) = false) := by
  cases e with
  | true => exact ⟨fun h => (by cases l <;> cases h), fun h => (by cases h)⟩
  | false =>
    rcases l with _ | ⟨a, _ | ⟨b, t⟩⟩
    · exact ⟨fun h => (by cases h), fun _ h => (by simp at h)⟩
    · exact ⟨fun h => (by cases h), fun _ h => (by simp at h)⟩
    · exact ⟨fun _ => ⟨rfl, by simp, rfl, a, b, rfl, rfl, rfl⟩, fun _ _ => rfl⟩
theorem two_or (a b : UInt8) : bits .or .i64 (IntKind.i64.wrap ((a.toNat : Int) * 256)) (b.toNat : Int) = ((beV [a, b] : Nat) : Int) := by
  have ha := a.toNat_lt
  have hb := b.toNat_lt
  have h1 : (a.toNat : Int) = IntKind.i64.wrap ((a.toNat : Nat) : Int) := by rw [IntKind.wrap_i64]; omega
  rw [or_step a.toNat b.toNat hb (a.toNat : Int) _ h1 rfl]
  have e : beV [a, b] = a.toNat * 256 + b.toNat := by simp [beV]
  rw [e, IntKind.wrap_i64]
  omega
/-- A piece of bytes. -/
theorem run_piece (ao : Option Addr) (B : List UInt8) (cap P n : Nat) (hP : P + n ≤ B.length) (hc : B.length ≤ cap) : ∃ ao', (∀ w x, BRowN w x ao B → BRowN w x ao' ((B.drop P).take n)) ∧ (Shape ao cap → Shape ao' (cap - P)) ∧ ∀ (Q : Int), Q = ((P + n : Nat) : Int) → ∀ W, (Instr.slice 24 (.slice ao B.length cap) (some (.int .i64 P)) (some (.int .i64 Q)) none).run Tryd.prog W = .ok (.slice ao' n (cap - P)) W := by
  refine ⟨if cap = P then ao else ao.map (·.add P), fun w x h => (h.drop P cap hc).take n, fun h => ?_, fun Q hQ W => ?_⟩
  · rcases h with ⟨rfl, rfl⟩ | ⟨a, rfl⟩
    · exact .inl ⟨by simp, by omega⟩
    · split
      · exact .inr ⟨_, rfl⟩
      · exact .inr ⟨_, rfl⟩
  rw [run_slice_lh (P := Tryd.prog) (w := W) 24 ao B.length cap (by kernel_rfl) .i64 .i64 P Q (by omega) (by omega) (by omega)]
  rw [show (sizeOf (Tryd.prog.elem 24)).run Tryd.prog W = .ok 1 W by kernel_rfl]
  rw [hQ]
  simp [sliced, Result.andThen]
  omega

def pcSp (B0 qb P n : Nat) (sv : Value) (ao' : Option Addr) (cap' : Nat) : Nat → Value → World → Prop
  | 0, v, w => ∃ g, v = .slice (some ⟨g, 0, none⟩) 0 0 ∧ B0 ≤ g ∧ w.heap[g]? = some (.cells #[] 5 (0, 0))
  | 1, v, _ => v = .pointer (some ⟨qb, 0, none⟩)
  | 2, v, _ => v = .pointer (some ⟨qb, 0, none⟩)
  | 3, v, _ => v = .pointer (some ⟨qb, 0, none⟩)
  | 4, v, _ => v = sv
  | 5, v, _ => v = .pointer (some ⟨qb, 0, none⟩)
  | 6, v, _ => v = .pointer (some ⟨qb, 0, none⟩)
  | 7, v, _ => v = .pointer (some ⟨qb, 1, none⟩)
  | 8, v, _ => v = .int .i64 P
  | 9, v, _ => v = .pointer (some ⟨qb, 0, none⟩)
  | 10, v, _ => v = .pointer (some ⟨qb, 0, none⟩)
  | 11, v, _ => v = .pointer (some ⟨qb, 1, none⟩)
  | 12, v, _ => v = .int .i64 P
  | 13, v, _ => v = .int .i64 n
  | 14, v, _ => v = .int .i64 (P + n : Nat)
  | 15, v, _ => v = .slice ao' n cap'
  | _, _, _ => True
theorem pcSp_up {B0 qb P n : Nat} {sv : Value} {ao' : Option Addr} {cap' : Nat} {w w' : World} (hb : Below w.heap.size w w') (j : Nat) (u : Value) (h : pcSp B0 qb P n sv ao' cap' j u w) : pcSp B0 qb P n sv ao' cap' j u w' := by
  unfold pcSp at h ⊢
  split at h <;> first | exact h | (obtain ⟨g, h1, h2, h3⟩ := h; exact ⟨g, h1, h2, kept_of_below hb h3⟩)

set_option maxHeartbeats 8000000 in
set_option maxRecDepth 1000000 in
theorem qbytes_any (l : List UInt8) (e : Bool) (w : World) (qb : Nat) (h : QK w qb l e) :
    Calls Tryd.prog 30 #[.pointer (some ⟨qb, 0, none⟩)] w fun r w' => BytPost l e w qb r w' := by
  have U1 := u8_any l e w qb h
  have U2 := fun w' h' => u8_any (u8l l e) (u8e l e) w' qb h'
  obtain ⟨t1, t2⟩ := u8_two l e
  obtain ⟨n1, hn1⟩ : ∃ n : Int, IntKind.i64.wrap (u8v l e * 256) = n := ⟨_, rfl⟩
  obtain ⟨n2, hn2⟩ : ∃ n : Int, bits .or .i64 n1 (u8v (u8l l e) (u8e l e)) = n := ⟨_, rfl⟩
  have hgood : u8e (u8l l e) (u8e l e) = false → n2 = ((beV (l.take 2) : Nat) : Int) ∧ e = false ∧ 2 ≤ l.length ∧ u8l (u8l l e) (u8e l e) = l.drop 2 := fun hh => by
    obtain ⟨h1, h2, h3, a, b, h4, h5, h6⟩ := t1 hh
    refine ⟨?_, h1, h2, h3⟩
    rw [← hn2, ← hn1, h5, h6, h4]
    exact two_or a b
  have hbad : u8e (u8l l e) (u8e l e) = true → ¬ LenOk l e := fun hh ⟨h1, h2, _⟩ => by
    rw [t2 h1 h2] at hh
    cases hh
  clear t1 t2
  generalize u8v (u8l l e) (u8e l e) = v2 at *
  generalize u8l (u8l l e) (u8e l e) = l2 at *
  generalize u8e (u8l l e) (u8e l e) = e2 at *
  generalize u8v l e = v1 at *
  generalize u8l l e = l1 at *
  generalize u8e l e = e1 at *
  have HG := hide hgood
  have HBAD := hide hbad
  clear hgood hbad h
  cases e2 with
  | true =>
    go_enter Tryd.func30, Tryd.ntmps30
    go_wp2_with fail
    refine Calls.mono U1 ?_
    rintro r w1 ⟨rfl, k1, q1⟩
    go_wp2_with fail
    refine Calls.mono (U2 w1 q1) ?_
    rintro r w2 ⟨rfl, k2, q2⟩
    clear U1 U2
    obtain ⟨ao, cap, B, P, h2, hl2⟩ := q2
    obtain ⟨c0, c1, c2, cf⟩ := q_cells h2.obj
    have c2' : w2.cell? ⟨qb, 2, none⟩ = some (.int .i64 8) := c2
    have H2 := hide h2
    have HL2 := hide hl2
    clear c2 h2 hl2
    go_wp2_with fail
    refine wp_region_quiet_lit (by kernel_rfl) (by kernel_rfl) ?_
    repeat (go_big_quiet_step (fail))
    refine wpQuiet_nil ?_
    intro _ hw'
    obtain ⟨nq, hw''⟩ := hw'
    subst hw''
    have b3 : Below w2.heap.size w2 (w2.drewN nq) := below_drewN (Below.refl _ w2) nq
    generalize w2.drewN nq = w3 at *
    have h3 := (unhide H2).below b3
    obtain ⟨d0, d1, d2, df⟩ := q_cells h3.obj
    have d2' : w3.cell? ⟨qb, 2, none⟩ = some (.int .i64 8) := d2
    clear c0 c1 c2' cf d2
    go_wp2
    go_ret
    exact ⟨none, 0, [], l2, true, rfl, (k1.trans k2).trans (.of_below b3), ⟨ao, cap, B, P, h3, unhide HL2⟩, .inl rfl, fun hh => absurd hh (unhide HBAD (by trivial)), fun _ => rfl⟩
  | false =>
    obtain ⟨en, ee, h2l, el2⟩ := unhide HG rfl
    obtain ⟨n, hn⟩ : ∃ n : Nat, n = beV (l.take 2) := ⟨_, rfl⟩
    rw [← hn] at en
    have hn16 : n < 65536 := by rw [hn]; exact beV_lt4 _ 2 (by rw [List.length_take]; omega)
    have HN := hide hn
    have HEE := hide ee
    have H2L := hide h2l
    have HEL := hide el2
    clear hn ee h2l el2 HG HBAD
    subst en
    go_enter Tryd.func30, Tryd.ntmps30
    go_wp2_with fail
    refine Calls.mono U1 ?_
    rintro r w1 ⟨rfl, k1, q1⟩
    go_wp2_with fail
    refine Calls.mono (U2 w1 q1) ?_
    rintro r w2 ⟨rfl, k2, q2⟩
    clear U1 U2
    obtain ⟨ao, cap, B, P, h2, hl2⟩ := q2
    have hle := h2.le
    have hln := h2.len
    obtain ⟨c0, c1, c2, cf⟩ := q_cells h2.obj
    have c2' : w2.cell? ⟨qb, 2, none⟩ = some (.int .i64 0) := c2
    have H2 := hide h2
    have HL2 := hide hl2
    obtain ⟨bl, hbl⟩ : ∃ bl, bl = B.length := ⟨_, rfl⟩
    rw [← hbl] at c0
    have p1 : IntKind.i64.wrap ((bl : Int) - (P : Int)) = (bl : Int) - (P : Int) := by rw [IntKind.wrap_i64]; omega
    have HBL := hide hbl
    clear c2 h2 hl2
    by_cases hfit : n ≤ B.length - P
    · have i1 : ¬ (bl : Int) - (P : Int) < (n : Int) := by omega
      obtain ⟨ao', hpr, hsh, hrun⟩ := run_piece ao B cap P n (by omega) (unhide H2).lcap
      obtain ⟨Q, hQ⟩ : ∃ Q : Int, Q = ((P + n : Nat) : Int) := ⟨_, rfl⟩
      have hrun := hrun Q hQ
      rw [← hbl] at hrun
      have hpq : IntKind.i64.wrap ((P : Int) + (n : Int)) = Q := by rw [IntKind.wrap_i64]; omega
      have HQ := hide hQ
      have HPR := hide hpr
      have hclen : ((B.drop P).take n).length = n := by rw [List.length_take, List.length_drop]; omega
      have HCL := hide hclen
      clear hbl hQ hpr hclen
      go_wp2_with fail
      refine wp_region_quiet_lit (by kernel_rfl) (by kernel_rfl) ?_
      repeat (go_big_quiet_step (fail))
      refine wpQuiet_nil ?_
      intro _ hw'
      obtain ⟨nq, hw''⟩ := hw'
      subst hw''
      have b3 : Below w2.heap.size w2 (w2.drewN nq) := below_drewN (Below.refl _ w2) nq
      generalize w2.drewN nq = w3 at *
      have h3 := (unhide H2).below b3
      have o3 := h3.obj
      rw [← unhide HBL] at o3
      obtain ⟨d0, d1, d2, df⟩ := q_cells o3
      have d2' : w3.cell? ⟨qb, 2, none⟩ = some (.int .i64 0) := d2
      have lq3 : qb < w3.heap.size := (Array.getElem?_eq_some_iff.1 o3).1
      have H3 := hide h3
      have O3 := hide o3
      clear c0 c1 c2' cf d2 h3 o3
      go_upto_region 7 with fail
      clear d0 d1 d2' df
      refine wp_specs_put 16 (pcSp w3.heap.size qb P n (.slice ao bl cap) ao' (cap - P)) (fun w' => Below w3.heap.size w3 w') (by kernel_rfl) (by kernel_rfl) (Below.refl _ w3).drew ?_ ?_
      · intro i o hi ho a' w' hR hdep hslot K hK
        have hz := kept_of_below hR (unhide O3)
        match i, hi with
        | 0, _ =>
          cases ho
          unfold Oper.wp
          go_simp
          exact hK _ _ ⟨w'.heap.size, rfl, hR.size, alloc_heap _ _⟩ (hR.trans ((new1 _ _).mono hR.size)) (pcSp_up (new1 _ _))
        | 1, _ =>
          cases ho
          have e : a'.tmps.getD 0 undef = .pointer (some ⟨qb, 0, none⟩) := hslot 0 (by decide)
          unfold Oper.wp
          go_simp
          exact hK _ _ rfl hR (fun _ _ h => h)
        | 2, _ =>
          cases ho
          have e : a'.tmps.getD 40 undef = .pointer (some ⟨qb, 0, none⟩) := hdep 1 (by kernel_rfl)
          unfold Oper.wp
          go_simp
          exact hK _ _ rfl hR (fun _ _ h => h)
        | 3, _ =>
          cases ho
          have e : a'.tmps.getD 41 undef = .pointer (some ⟨qb, 0, none⟩) := hdep 2 (by kernel_rfl)
          unfold Oper.wp
          go_simp
          exact hK _ _ rfl hR (fun _ _ h => h)
        | 4, _ =>
          cases ho
          have e : a'.tmps.getD 42 undef = .pointer (some ⟨qb, 0, none⟩) := hdep 3 (by kernel_rfl)
          obtain ⟨x0, x1, _, _⟩ := q_cells hz
          unfold Oper.wp
          go_simp
          exact hK _ _ rfl hR (fun _ _ h => h)
        | 5, _ =>
          cases ho
          have e : a'.tmps.getD 0 undef = .pointer (some ⟨qb, 0, none⟩) := hslot 0 (by decide)
          unfold Oper.wp
          go_simp
          exact hK _ _ rfl hR (fun _ _ h => h)
        | 6, _ =>
          cases ho
          have e : a'.tmps.getD 44 undef = .pointer (some ⟨qb, 0, none⟩) := hdep 5 (by kernel_rfl)
          unfold Oper.wp
          go_simp
          exact hK _ _ rfl hR (fun _ _ h => h)
        | 7, _ =>
          cases ho
          have e : a'.tmps.getD 45 undef = .pointer (some ⟨qb, 0, none⟩) := hdep 6 (by kernel_rfl)
          unfold Oper.wp
          go_simp
          exact hK _ _ rfl hR (fun _ _ h => h)
        | 8, _ =>
          cases ho
          have e : a'.tmps.getD 46 undef = .pointer (some ⟨qb, 1, none⟩) := hdep 7 (by kernel_rfl)
          obtain ⟨x0, x1, _, _⟩ := q_cells hz
          unfold Oper.wp
          go_simp
          exact hK _ _ rfl hR (fun _ _ h => h)
        | 9, _ =>
          cases ho
          have e : a'.tmps.getD 0 undef = .pointer (some ⟨qb, 0, none⟩) := hslot 0 (by decide)
          unfold Oper.wp
          go_simp
          exact hK _ _ rfl hR (fun _ _ h => h)
        | 10, _ =>
          cases ho
          have e : a'.tmps.getD 48 undef = .pointer (some ⟨qb, 0, none⟩) := hdep 9 (by kernel_rfl)
          unfold Oper.wp
          go_simp
          exact hK _ _ rfl hR (fun _ _ h => h)
        | 11, _ =>
          cases ho
          have e : a'.tmps.getD 49 undef = .pointer (some ⟨qb, 0, none⟩) := hdep 10 (by kernel_rfl)
          unfold Oper.wp
          go_simp
          exact hK _ _ rfl hR (fun _ _ h => h)
        | 12, _ =>
          cases ho
          have e : a'.tmps.getD 50 undef = .pointer (some ⟨qb, 1, none⟩) := hdep 11 (by kernel_rfl)
          obtain ⟨x0, x1, _, _⟩ := q_cells hz
          unfold Oper.wp
          go_simp
          exact hK _ _ rfl hR (fun _ _ h => h)
        | 13, _ =>
          cases ho
          have e : a'.tmps.getD 3 undef = .int .i64 n := hslot 3 (by decide)
          unfold Oper.wp
          go_simp
          exact hK _ _ rfl hR (fun _ _ h => h)
        | 14, _ =>
          cases ho
          have e1 : a'.tmps.getD 51 undef = .int .i64 P := hdep 12 (by kernel_rfl)
          have e2 : a'.tmps.getD 52 undef = .int .i64 n := hdep 13 (by kernel_rfl)
          unfold Oper.wp
          go_simp
          exact hK _ _ (show Value.int .i64 Q = .int .i64 ((P + n : Nat) : Int) by rw [unhide HQ]) hR (fun _ _ h => h)
        | 15, _ =>
          cases ho
          have e1 : a'.tmps.getD 43 undef = .slice ao bl cap := hdep 4 (by kernel_rfl)
          have e2 : a'.tmps.getD 47 undef = .int .i64 P := hdep 8 (by kernel_rfl)
          have e3 : a'.tmps.getD 53 undef = .int .i64 Q := (hdep 14 (by kernel_rfl)).trans (by rw [unhide HQ])
          unfold Oper.wp
          go_simp
          exact hK _ _ rfl hR (fun _ _ h => h)
        | i + 16, hi => exact absurd hi (by omega)
      · intro v w4 hR hall
        obtain ⟨g, f0, lg, zg⟩ : ∃ g, v 0 = .slice (some ⟨g, 0, none⟩) 0 0 ∧ w3.heap.size ≤ g ∧ w4.heap[g]? = some (.cells #[] 5 (0, 0)) := hall 0 (by decide)
        have f1 : v 1 = _ := hall 1 (by decide)
        have f2 : v 2 = _ := hall 2 (by decide)
        have f3 : v 3 = _ := hall 3 (by decide)
        have f4 : v 4 = _ := hall 4 (by decide)
        have f5 : v 5 = _ := hall 5 (by decide)
        have f6 : v 6 = _ := hall 6 (by decide)
        have f7 : v 7 = _ := hall 7 (by decide)
        have f8 : v 8 = _ := hall 8 (by decide)
        have f9 : v 9 = _ := hall 9 (by decide)
        have f10 : v 10 = _ := hall 10 (by decide)
        have f11 : v 11 = _ := hall 11 (by decide)
        have f12 : v 12 = _ := hall 12 (by decide)
        have f13 : v 13 = _ := hall 13 (by decide)
        have f14 : v 14 = _ := hall 14 (by decide)
        have f15 : v 15 = _ := hall 15 (by decide)
        have ow : Own w4 w3.heap.size (.slice (some ⟨g, 0, none⟩) 0 0) [] := ⟨rfl, .inr ⟨g, 0, #[], rfl, lg, zg, Nat.le_refl _, Nat.zero_le _, rfl, rfl⟩⟩
        have hrow4 : BRow w4 ao' ((B.drop P).take n) := (unhide HPR w4 qb (((unhide H3).below hR).row)).row
        have HO := hide ow
        have HR4 := hide hrow4
        have SH := hsh (unhide H2).shape
        have hl0 : ([] : List UInt8).length + ((B.drop P).take n).length ≤ 140737488355328 := by rw [unhide HCL]; simp; omega
        clear hall ow hrow4 zg
        simp only [putAll, dstOf, List.getElem?_cons_zero, List.getElem?_cons_succ, Option.bind_some, List.drop_succ_cons, List.drop_zero, f0, f1, f2, f3, f4, f5, f6, f7, f8, f9, f10, f11, f12, f13, f14, f15]
        clear f0 f1 f2 f3 f4 f5 f6 f7 f8 f9 f10 f11 f12 f13 f14 f15
        simp only [Act.put, List.setIfInBounds_toArray, List.set_cons_succ, List.set_cons_zero]
        go_wp2_with (at_builtin; refine wpList_app rfl _ _ rfl rfl rfl (A := []) (C := (B.drop P).take n) (unhide HO) (unhide HCL).symm SH (unhide HR4) hl0 hR.size ?_)
        intro v5 w5 o5 g5
        have b5 : Below w3.heap.size w3 w5 := hR.grown g5 hR.size (fun k hk => ((unhide HO).lt k hk).1)
        obtain ⟨ao5, cap5, hv5, _, _, hr5, hg5⟩ := o5.open
        have hr5N : BRowN w5 qb ao5 ((B.drop P).take n) := by
          rcases hr5 with h | ⟨g', o', e', hg', hc'⟩
          · exact .inl h
          · exact .inr ⟨g', o', e', hg', by have := hg5 g' o' e'; omega, hc'⟩
        have h5 := (unhide H3).below b5
        have ob5 := h5.obj
        rw [← unhide HBL] at ob5
        obtain ⟨d0, d1, d2, df⟩ := q_cells ob5
        have ob6 := q_set1 ob5 Q
        have k6 := (Keep2.of_below (x := qb) (y := qb) b5).setCell (p := ⟨qb, 1, none⟩) (.inl rfl) (.int .i64 Q)
        have r6 := h5.row.setq (o := 1) (.int .i64 Q)
        have x6 := hr5N.setq (o := 1) (.int .i64 Q)
        have d2' : w5.cell? ⟨qb, 2, none⟩ = some (.int .i64 0) := d2
        have HV := hide hv5
        clear d2 g5 o5 hr5 hg5 hr5N h5 hv5
        go_wp2
        go_ret
        have hok : LenOk l e := ⟨unhide HEE, unhide H2L, by rw [← unhide HEL, unhide HL2, List.length_drop, ← unhide HN]; exact hfit⟩
        refine ⟨ao5, cap5, (B.drop P).take n, B.drop (P + n), false, ?_, ((k1.trans k2).trans (.of_below b3)).trans k6, ⟨ao, cap, B, P + n, ⟨?_, by omega, (unhide H2).lcap, r6, hln, (unhide H2).shape⟩, rfl⟩, x6.row, fun _ => ?_, fun h => absurd hok h⟩
        · show Ending.returned v5 = _
          rw [unhide HV]
        · rw [← unhide HBL, ← unhide HQ]
          exact ob6
        · rw [← unhide HEL, unhide HL2, ← unhide HN, List.drop_drop]
          exact ⟨rfl, rfl, rfl⟩
    · have i1 : (bl : Int) - (P : Int) < (n : Int) := by omega
      clear hbl
      go_wp2_with fail
      refine wp_region_quiet_lit (by kernel_rfl) (by kernel_rfl) ?_
      repeat (go_big_quiet_step (fail))
      refine wpQuiet_nil ?_
      intro _ hw'
      obtain ⟨nq, hw''⟩ := hw'
      subst hw''
      have b3 : Below w2.heap.size w2 (w2.drewN nq) := below_drewN (Below.refl _ w2) nq
      generalize w2.drewN nq = w3 at *
      have h3 := (unhide H2).below b3
      have o3 := h3.obj
      rw [← unhide HBL] at o3
      obtain ⟨d0, d1, d2, df⟩ := q_cells o3
      clear c0 c1 c2' cf
      have o4 := q_set2 o3 8
      have k4 := (Keep2.of_below (x := qb) (y := qb) b3).setCell (p := ⟨qb, 2, none⟩) (.inl rfl) (.int .i64 8)
      have r4 := h3.row.setq (o := 2) (.int .i64 8)
      have d2' : w3.cell? ⟨qb, 2, none⟩ = some (.int .i64 0) := d2
      clear d2
      go_upto_region 5 with fail
      clear d0 d1 d2' df o3
      generalize World.setCell _ _ _ = w4 at *
      obtain ⟨d0, d1, d2, df⟩ := q_cells o4
      go_wp2
      go_ret
      have hno : ¬ LenOk l e := fun ⟨_, _, h3⟩ => by
        rw [← unhide HEL, unhide HL2, List.length_drop, ← unhide HN] at h3
        omega
      refine ⟨none, 0, [], l2, true, rfl, (k1.trans k2).trans k4, ⟨ao, cap, B, P, ⟨?_, hle, (unhide H2).lcap, r4, hln, (unhide H2).shape⟩, unhide HL2⟩, .inl rfl, fun hh => absurd hh hno, fun _ => rfl⟩
      rw [← unhide HBL]
      exact o4
end Go.Proofs.YtkeljejddfpnmaaDoor
