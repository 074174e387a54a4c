/-
  ents.placeOf: where a uid stands, or would stand.
-/
import Derived.Test.YtnbbimcooilmdaaGreatEnB
import Derived.Test.YtnbbimcooilmdaaGreatVcEH
import Derived.Deep.QuietTactic
import Derived.BigQuiet
namespace Go.Proofs.YtnbbimcooilmdaaGreat
open Go.RowKit Go.Sort

def U2.pv (u : U2) : PV := .uid u.t.data.toList u.i.data.toList
theorem ba_ext {a b : ByteArray} (h : a.data.toList = b.data.toList) : a = b := by
  rw [← ba_of a, ← ba_of b, h]
theorem pv_inj {u v : U2} (h : u.pv = v.pv) : u = v := by
  obtain ⟨t, i⟩ := u
  obtain ⟨t', i'⟩ := v
  unfold U2.pv at h
  simp only [PV.uid.injEq] at h
  rw [ba_ext h.1, ba_ext h.2]
theorem sto_lessU : Sto lessU where
  irr a := sto_lessP.irr _
  trans a b c := sto_lessP.trans _ _ _
  tri a b := by
    rcases sto_lessP.tri a.pv b.pv with h | h | h
    · exact .inl h
    · exact .inr (.inl (pv_inj h))
    · exact .inr (.inr h)
/-- Entities that stand by their uids. -/
def RisingE (es : List E4) : Prop := (es.map e4u).Pairwise fun a b => lessU a b = true
theorem RisingE.get {es : List E4} (h : RisingE es) {i j : Nat} (hi : i < es.length) (hj : j < es.length) (hij : i < j) : lessU (e4u es[i]) (e4u es[j]) = true := by
  have := List.pairwise_iff_getElem.1 h i j (by simpa using hi) (by simpa using hj) hij
  simpa using this
/-- Where u belongs. -/
structure CutU (es : List E4) (u : U2) (i : Nat) : Prop where
  le : i ≤ es.length
  lo : ∀ k (h : k < es.length), k < i → lessU (e4u es[k]) u = true
  hi : ∀ k (h : k < es.length), i ≤ k → lessU (e4u es[k]) u = false

set_option maxHeartbeats 2000000 in
set_option maxRecDepth 1000000 in
theorem placeFn_any (es : List E4) (u : U2) (ao : Option Addr) (cap a b i : Nat) (w : World) (hi : i < es.length) (cA : w.cell? ⟨a, 0, none⟩ = some (.slice ao es.length cap)) (AU : AtE2 w b 0 u) (hr : RowG w ao 4 (es.map E4.cells)) :
    Calls Tryz.prog 52 #[.int .i64 i, .pointer (some ⟨a, 0, none⟩), .pointer (some ⟨b, 0, none⟩)] w fun e w' => e = .returned (.bool (!lessU (e4u es[i]) u)) ∧ Below w.heap.size w w' := by
  obtain ⟨g, off, rfl, hg, hcell⟩ := rowG_at hr (Below.refl _ w) hi
  have A := (AtE4.of hcell).up
  have C := vlessUid_any (e4u es[i]) u
  obtain ⟨x, hx⟩ : ∃ x, x = es[i] := ⟨_, rfl⟩
  rw [← hx] at A C ⊢
  clear hx hcell hr
  generalize lessU (e4u x) u = y at *
  unfold U2.val e4u at C
  simp only at C
  have cS := fun d os => Calls.regrown_of (w := w) (d := d) (os := os) (C (grow (redrawn w d) os))
  have cA' := cell_regrown cA
  obtain ⟨u0, u1⟩ := AU.up
  obtain ⟨a0, a1, a2, a3⟩ := A
  simp only [Nat.zero_add] at u1
  have k0 : (0 : Int) ≤ (i : Int) := by omega
  have k1 : (i : Int) < (es.length : Int) := by omega
  clear C cA AU
  go_enter Tryz.func52, Tryz.ntmps52
  go_wp2_with fail
  refine wp_region_quiet_below (by kernel_rfl) (by kernel_rfl) ?_
  repeat (quiet_step (exact cS _ _))
  refine wpQuiet_nil ?_
  intro _ hw'
  obtain ⟨⟨dq, osq⟩, hw''⟩ := hw'
  subst hw''
  have b1 := below_regrown w dq osq
  go_wp2
  go_ret
  exact ⟨rfl, b1⟩

set_option maxHeartbeats 2000000 in
set_option maxRecDepth 1000000 in
theorem search_place (es : List E4) (u : U2) (ao : Option Addr) (cap a b : Nat) (w : World) (hl : es.length ≤ 1048576) (ha : a < w.heap.size) (hb : b < w.heap.size) (cA : w.cell? ⟨a, 0, none⟩ = some (.slice ao es.length cap)) (AU : AtE2 w b 0 u) (hr : RowG w ao 4 (es.map E4.cells)) (hri : RisingE es) :
    Calls Tryz.prog 51 #[.int .i64 es.length, .func (.func 52) #[] #[.pointer (some ⟨a, 0, none⟩), .pointer (some ⟨b, 0, none⟩)]] w fun e w' => ∃ i : Nat, CutU es u i ∧ e = .returned (.int .i64 i) ∧ Below w.heap.size w w' := by
  go_enter Tryz.func51, Tryz.ntmps51
  go_wp2
  go_loopw [5, 6] (fun iv jv wr => ∃ i j : Nat, iv = .int .i64 i ∧ jv = .int .i64 j ∧ i ≤ j ∧ j ≤ es.length ∧ Below w.heap.size w wr ∧ (∀ k (h : k < es.length), k < i → lessU (e4u es[k]) u = true) ∧ (∀ k (h : k < es.length), j ≤ k → lessU (e4u es[k]) u = false)) (fun iv jv _ => (intOf jv).toNat - (intOf iv).toNat)
  case atStart => exact ⟨0, es.length, by go_num, rfl, Nat.zero_le _, Nat.le_refl _, Below.refl _ _, fun k _ h => absurd h (Nat.not_lt_zero _), fun k h h' => absurd h (by omega)⟩
  case round =>
    obtain ⟨x, y, rfl, rfl, hxy, hyl, hbw, hlo, hhi⟩ := hrel
    have Hlo := hide hlo
    have Hhi := hide hhi
    clear hlo hhi
    by_cases hlt : x < y
    · have i1 : (x : Int) < (y : Int) := by omega
      obtain ⟨m, hm⟩ : ∃ m, m = (x + y) / 2 := ⟨_, rfl⟩
      have hm1 : x ≤ m := by omega
      have hm2 : m < y := by omega
      have eh : ((x : Int) + (y : Int)) / 2 = ((m : Nat) : Int) := by omega
      have hml : m < es.length := by omega
      have C := placeFn_any es u ao cap a b m wr hml ((hbw.cell (p := ⟨a, 0, none⟩) ha).trans cA) (AU.below hbw hb) (hr.below hbw)
      have HX := hide (show ∀ z, z = lessU (e4u es[m]) u → lessU (e4u es[m]) u = z from fun z h => h.symm)
      generalize hz : lessU (e4u es[m]) u = z at *
      have Hz := hide hz
      clear hz HX hm
      go_wp2_with fail
      refine C.mono ?_
      rintro e w2 ⟨rfl, b2⟩
      have b3 := hbw.trans (b2.mono hbw.size)
      clear C
      cases z
      · go_wp2
        go_roundw
        case rel =>
          refine ⟨x, m, rfl, rfl, by omega, by omega, b3, unhide Hlo, fun k hk hk' => ?_⟩
          by_cases e : k = m
          · subst e
            exact unhide Hz
          · have h1 := hri.get hml hk (by omega)
            cases h2 : lessU (e4u es[k]) u
            · rfl
            · have h3 := sto_lessU.trans _ _ _ h1 h2
              rw [unhide Hz] at h3
              cases h3
        case measure =>
          simp only [intOf]
          omega
      · go_wp2
        go_roundw
        case rel =>
          refine ⟨m + 1, y, by go_num, rfl, by omega, by omega, b3, fun k hk hk' => ?_, unhide Hhi⟩
          by_cases e : k < m
          · exact sto_lessU.trans _ _ _ (hri.get hk hml e) (unhide Hz)
          · have : k = m := by omega
            subst this
            exact unhide Hz
        case measure =>
          simp only [intOf]
          omega
    · have i1 : ¬ (x : Int) < (y : Int) := by omega
      have exy : y = x := by omega
      subst exy
      go_wp2
      go_ret
      exact ⟨y, ⟨hyl, unhide Hlo, unhide Hhi⟩, rfl, hbw⟩

/-- Is the entity at that place the one? -/
def isAt (es : List E4) (u : U2) (i : Nat) : Bool := match es[i]? with
  | some e => decide (e4u e = u)
  | none => false
set_option maxHeartbeats 2000000 in
set_option maxRecDepth 1000000 in
theorem placeOf_any (es : List E4) (u : U2) (ao : Option Addr) (cap : Nat) (w : World) (hl : es.length ≤ 1048576) (hr : RowG w ao 4 (es.map E4.cells)) (hri : RisingE es) :
    Calls Tryz.prog 30 #[.slice ao es.length cap, u.val] w fun e w' => ∃ i : Nat, CutU es u i ∧ e = .returned (.tuple #[.int .i64 i, .bool (isAt es u i)]) ∧ Below w.heap.size w w' := by
  have b2 := below2 w (.cells #[.slice ao es.length cap] 22) (.cells #[.string u.t, .string u.i] 25)
  have S := search_place es u ao cap w.heap.size (w.heap.size + 1) ((w.alloc (.cells #[.slice ao es.length cap] 22)).alloc (.cells #[.string u.t, .string u.i] 25)) hl (by simp; omega) (by simp) (by simp) ⟨by simp, by simp⟩ (hr.below b2) hri
  have z2 : ((w.alloc (.cells #[.slice ao es.length cap] 22)).alloc (.cells #[.string u.t, .string u.i] 25)).heap.size = w.heap.size + 2 := by simp
  have cA : ((w.alloc (.cells #[.slice ao es.length cap] 22)).alloc (.cells #[.string u.t, .string u.i] 25)).cell? ⟨w.heap.size, 0, none⟩ = some (.slice ao es.length cap) := by simp
  have AU : AtE2 ((w.alloc (.cells #[.slice ao es.length cap] 22)).alloc (.cells #[.string u.t, .string u.i] 25)) (w.heap.size + 1) 0 u := ⟨by simp, by simp⟩
  have HR := hide hr
  clear hr
  unfold U2.val
  go_enter Tryz.func30, Tryz.ntmps30
  go_wp2_with fail
  generalize (w.alloc _).alloc _ = w2 at *
  refine S.mono ?_
  clear S
  rintro e w3 ⟨i, hc, rfl, b3⟩
  have b03 := b2.trans (b3.mono b2.size)
  have HC := hide hc
  have hile := hc.le
  clear hc
  have cA' := cell_regrown ((b3.cell (p := ⟨w.heap.size, 0, none⟩) (by show w.heap.size < _; omega)).trans cA)
  obtain ⟨u0, u1⟩ := (AU.below b3 (by omega)).up
  simp only [Nat.zero_add] at u1
  have cA3 := (b3.cell (p := ⟨w.heap.size, 0, none⟩) (by show w.heap.size < _; omega)).trans cA
  obtain ⟨v0, v1⟩ := AU.below b3 (by omega)
  simp only [Nat.zero_add] at v1
  clear cA AU
  by_cases hil : i < es.length
  · have k0 : (0 : Int) ≤ (i : Int) := by omega
    have k1 : (i : Int) < (es.length : Int) := by omega
    have hg : decide ((i : Int) < (es.length : Int)) = true := decide_eq_true k1
    obtain ⟨g, off, rfl, hgl, hcell⟩ := rowG_at (unhide HR) b03 hil
    have A := AtE4.of hcell
    obtain ⟨x, hx⟩ : ∃ x, x = es[i] := ⟨_, rfl⟩
    have hat : isAt es u i = decide (e4u x = u) := by
      unfold isAt
      rw [List.getElem?_eq_getElem hil, hx]
    rw [← hx] at A
    have Hat := hide hat
    clear hx hcell hat
    obtain ⟨ut, ui⟩ := u
    obtain ⟨xt, xi, xp, xpl, xpc, xa, xal, xac⟩ := x
    obtain ⟨a0, a1, a2, a3⟩ := A
    simp only at a0 a1 a2 a3 u0 u1 v0 v1
    by_cases ht : xt = ut
    · subst ht
      by_cases hi : xi = ui
      · subst hi
        go_wp2_with fail
        go_quiet (fail)
        go_wp2
        go_ret2
        exact ⟨i, unhide HC, by rw [unhide Hat]; simp [e4u], b03.trans ((below_drewN w3 nq).mono b03.size)⟩
      · have hb : (xi.toList == ui.toList) = false := bytes_ne hi
        have Hi := hide hi
        clear hi
        go_wp2_with fail
        go_quiet (fail)
        go_wp2
        go_ret2
        exact ⟨i, unhide HC, by rw [unhide Hat]; simp [e4u, unhide Hi], b03.trans ((below_drewN w3 nq).mono b03.size)⟩
    · have hb : (xt.toList == ut.toList) = false := bytes_ne ht
      have Ht := hide ht
      clear ht
      go_wp2_with fail
      go_quiet (fail)
      go_wp2
      go_ret2
      exact ⟨i, unhide HC, by rw [unhide Hat]; simp [e4u, unhide Ht], b03.trans ((below_drewN w3 nq).mono b03.size)⟩
  · have k1 : ¬ (i : Int) < (es.length : Int) := by omega
    have hg : decide ((i : Int) < (es.length : Int)) = false := decide_eq_false k1
    have Hat := hide (show isAt es u i = false by unfold isAt; rw [List.getElem?_eq_none (by omega)])
    go_wp2_with fail
    go_quiet (fail)
    go_wp2
    go_ret2
    exact ⟨i, unhide HC, by rw [unhide Hat]; rfl, b03.trans ((below_drewN w3 nq).mono b03.size)⟩
end Go.Proofs.YtnbbimcooilmdaaGreat
