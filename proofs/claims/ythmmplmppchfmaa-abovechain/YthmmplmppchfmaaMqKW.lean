/-
  above.Above, where 2 to 12 are above one: what it returns.
  chancellaw9.known: what it returns.
-/
import Derived.Test.YthmmplmppchfmaaMqSV
import Derived.Test.YthmmplmppchfmaaMpEG
import Derived.Test.YthmmplmppchfmaaMqPI
import Derived.Test.YthmmplmppchfmaaGdU
import Derived.BigGuardPart
namespace Go.Proofs.Ythmmplmppchfmaa
open Go.RowKit Go.Sort

/-- How many are yet to come, as memory tells it. -/
def restLen (w : World) (r : Nat) : Nat := match w.heap[r]? with
  | some (.mapIter (some b) _ seen _) => (match w.heap[b]? with
    | some (.map es _) => (leftOf es seen).size
    | _ => 0)
  | _ => 0
theorem IterM.len {w : World} {r b : Nat} {m rest : List U2} (h : IterM w r b m rest) : restLen w r = rest.length := by
  obtain ⟨es, clock, seen, A, hr, hl⟩ := h
  unfold restLen
  rw [hr]
  simp only [A.heap]
  have := congrArg List.length hl
  simpa using this
theorem erase_perm {α : Type} : ∀ (l : List α) (i : Nat) (h : i < l.length), ([l[i]] ++ l.eraseIdx i).Perm l
  | a :: l, 0, _ => List.Perm.refl _
  | a :: l, i + 1, h => by
    have := erase_perm l i (by simpa using h)
    simp only [List.getElem_cons_succ, List.eraseIdx_cons_succ]
    exact (List.Perm.swap a _ _).trans (this.cons a)
/-- The loop of Above: the variable V holds a row of what has come. -/
structure AccR (w wr : World) (B V R mb : Nat) (m rest acc : List U2) (v : Value) : Prop where
  below : Below w.heap.size w wr
  cv : wr.heap[V]? = some (.cells #[v] 30 (0, 0))
  it : IterM wr R mb m rest
  own : wr.ownsRow B 28 2 v acc.length (acc.map U2.cells).flatten
  vB : V < B
  rB : R < B
  mB : mb < B
  wV : w.heap.size ≤ V
  vR : V < R
  rm : R ≠ mb
theorem AccR.size {w wr : World} {B V R mb : Nat} {m rest acc : List U2} {v : Value} (h : AccR w wr B V R mb m rest acc v) : V < wr.heap.size := (Array.getElem?_eq_some_iff.1 h.cv).1
theorem AccR.grow {w wr wt : World} {B V R mb : Nat} {m rest acc : List U2} {v : Value} (h : AccR w wr B V R mb m rest acc v) (hb : Below wr.heap.size wr wt) : AccR w wt B V R mb m rest acc v :=
  ⟨h.below.trans (hb.mono h.below.size), (hb.block V h.size).trans h.cv, h.it.below hb, ownM_kept h.own fun g _ _ _ hg => hb.block g (Array.getElem?_eq_some_iff.1 hg).1, h.vB, h.rB, h.mB, h.wV, h.vR, h.rm⟩
theorem AccR.push {w wr w1 : World} {B V R mb : Nat} {m rest acc acc' : List U2} {v v' : Value} (h : AccR w wr B V R mb m rest acc v) (hg : wr.grownBy w1 v.ownBlock) (hown : w1.ownsRow B 28 2 v' acc'.length (acc'.map U2.cells).flatten) :
    AccR w (w1.setCell ⟨V, 0, none⟩ v') B V R mb m rest acc' v' := by
  have hlo := fun k hk => (h.own.lt k hk).1
  have hne : ∀ k, k < B → some k ≠ v.ownBlock := fun k hk e => by have := hlo k e.symm; omega
  have kV : w1.heap[V]? = some (.cells #[v] 30 (0, 0)) := (hg.block V h.size (hne V h.vB)).trans h.cv
  have kR := hg.block R h.it.lt.1 (hne R h.rB)
  have kM := hg.block mb h.it.lt.2 (hne mb h.mB)
  have hset : ∀ k, k ≠ V → (w1.setCell ⟨V, 0, none⟩ v').heap[k]? = w1.heap[k]? := fun k hk => Below.heap_setCell w1 ⟨V, 0, none⟩ v' k hk
  have nR : R ≠ V := fun e => by
    obtain ⟨es, clock, seen, A, hr, _⟩ := h.it
    rw [e, h.cv] at hr
    cases hr
  have nM : mb ≠ V := fun e => by
    obtain ⟨es, clock, seen, A, hr, _⟩ := h.it
    have := A.heap
    rw [e, h.cv] at this
    cases this
  refine ⟨(h.below.grown hg h.below.size (fun k hk => by have := hlo k hk; have := h.wV; have := h.vB; omega)).setCell (p := ⟨V, 0, none⟩) h.wV v', ?_, h.it.turn ((hset R nR).trans kR) ((hset mb nM).trans kM), ⟨hown.1, hown.2.imp id ?_⟩, h.vB, h.rB, h.mB, h.wV, h.vR, h.rm⟩
  · show (w1.setCell ⟨V, 0, none⟩ v').heap[V]? = _
    simp only [World.setCell, Array.getElem?_modify, if_pos, kV]
    rfl
  · rintro ⟨g, cap, cur, h1, h2, h3, h4⟩
    exact ⟨g, cap, cur, h1, h2, (hset g (fun e => by have := h.vB; omega)).trans h3, h4⟩
theorem AccR.keep {w wr w1 : World} {B V R mb : Nat} {m rest acc : List U2} {v : Value} (h : AccR w wr B V R mb m rest acc v) (hg : wr.grownBy w1 v.ownBlock) : w1.heap[V]? = some (.cells #[v] 30 (0, 0)) :=
  (hg.block V h.size (fun e => by have := (h.own.lt V e.symm).1; have := h.vB; omega)).trans h.cv
theorem AccR.next {w wr w6 : World} {B V R mb : Nat} {m rest rest' acc : List U2} {v : Value} (h : AccR w wr B V R mb m rest acc v) (hB : R < B) (hIt : IterM w6 R mb m rest') (hoth : ∀ k, k ≠ R → w6.heap[k]? = wr.heap[k]?) (hbl : ∀ D, D ≤ R → Below D wr w6) : AccR w w6 B V R mb m rest' acc v :=
  ⟨h.below.trans (hbl _ (by have := h.wV; have := h.vR; omega)), (hoth V (by have := h.vR; omega)).trans h.cv, hIt, ownM_kept h.own fun g _ _ e _ => hoth g (by have := (h.own.lt g e).1; omega), h.vB, h.rB, h.mB, h.wV, h.vR, h.rm⟩
set_option maxHeartbeats 4000000 in
set_option maxRecDepth 1000000 in
theorem above_any (S : U2 → List U2) (es : List E4) (ao : Option Addr) (cap : Nat) (u : U2) (N : List U2) (w : World) (hl : es.length ≤ 1048576) (hr : RowG w ao 4 (es.map E4.cells)) (hS : StepsR w w.heap.size (upM es) S) (hN2 : ∀ x, ∀ v ∈ S x, v ∈ N) (hN : N.length ≤ 99999) (h12 : ∀ m : List U2, m.Nodup → (∀ x, x ∈ m ↔ ∃ f ∈ S u, Way S f x) → 2 ≤ m.length ∧ m.length ≤ 12) :
    Calls Try.prog 11 #[.slice ao es.length cap, u.val] w fun x w' => Below w.heap.size w w' ∧ ∃ (lo : Option Addr) (c : Nat) (l : List U2), x = .returned (.slice lo l.length c) ∧ RowG w' lo 2 (l.map U2.cells) ∧ l.Pairwise (fun a b => lessU a b = true) ∧ ∀ x, x ∈ l ↔ ∃ f ∈ S u, Way S f x := by
  obtain ⟨i0, hi, hz0, hz1, hz2⟩ := info_parts infoUidM
  have b1 := belowA w (.cells #[.string u.t, .string u.i] 28)
  have z1 := sizeA w (.cells #[.string u.t, .string u.i] 28)
  have A1 : AtE2 (w.alloc (.cells #[.string u.t, .string u.i] 28)) w.heap.size 0 u := ⟨by simp, by simp⟩
  have hz : w.heap.size < (w.alloc (.cells #[.string u.t, .string u.i] 28)).heap.size := by rw [z1]; omega
  have UP := upward_any es ao cap _ hl (hr.below b1)
  have HS := hide hS
  have HN := hide hN2
  have H12 := hide h12
  clear hr hS hN2 h12 z1
  unfold U2.val
  go_enter Try.func11, Try.ntmps11
  go_wp2_with fail
  generalize w.alloc _ = w1 at *
  refine UP.mono ?_
  clear UP
  rintro _ w2 ⟨b, rfl, hm, b2, hbb⟩
  have b02 := b1.trans (b2.mono b1.size)
  have A2 := A1.below b2 hz
  have hz2' : w.heap.size < w2.heap.size := Nat.lt_of_lt_of_le hz b2.size
  have b3 := belowA w2 (.cells #[.slice none 0 0] 30)
  obtain ⟨V, hVe⟩ : ∃ V, V = w2.heap.size := ⟨_, rfl⟩
  have hV3 : (w2.alloc (.cells #[.slice none 0 0] 30)).heap[V]? = some (.cells #[.slice none 0 0] 30 (0, 0)) := by rw [hVe]; exact heap_alloc_new w2 (.cells #[.slice none 0 0] 30)
  have b03 := b02.trans (b3.mono b02.size)
  have A3 := A2.below b3 hz2'
  have hm3 := hm.below b3 hm.lt
  have z3 := sizeA w2 (.cells #[.slice none 0 0] 30)
  obtain ⟨so, sc, hgot, hrow, hlowS, hSl⟩ := unhide HS u
  have L := run_lookU (t := 57) (e := 30) Try.underlying57 (.slice none 0 0) zeroUids hm3 u false
  rw [hgot] at L
  unfold U2.val at L
  have RE := reach_any S (upM es) b (S u) N so sc _ ((unhide HS).below b03) hm3 (hrow.below b03) hSl (fun ad e hne => Nat.lt_of_lt_of_le (hlowS ad e hne) b03.size) (unhide HN u) (unhide HN) (by omega)
  obtain ⟨a0, a1⟩ := A3
  simp only [Nat.zero_add] at a1
  clear hm hrow hlowS hgot A1 A2
  have HVE := hide hVe
  clear hVe
  go_wp2_with fail
  rw [← unhide HVE]
  have hV1 : w.heap.size ≤ V := by have := unhide HVE; omega
  have hV2 : V < (w2.alloc (.cells #[.slice none 0 0] 30)).heap.size := by have := unhide HVE; omega
  clear HVE z3
  generalize w2.alloc _ = w3 at *
  refine RE.mono ?_
  clear RE L a0 a1
  rintro _ w4 ⟨b4, mb, m, rfl, hmm, hmb, hI⟩
  have b04 := b03.trans (b4.mono b03.size)
  have hV4 := (b4.block V hV2).trans hV3
  have hV5' : V < w4.heap.size := Nat.lt_of_lt_of_le hV2 b4.size
  obtain ⟨w5, hrun, hIt, b5, z5⟩ := run_rangeU (t := 55) (e := 74) Try.underlying55 hmm
  have b05 := b04.trans (b5.mono b04.size)
  have hV5 := (b5.block V hV5').trans hV4
  obtain ⟨R, hRe⟩ : ∃ R, R = w4.heap.size := ⟨_, rfl⟩
  rw [← hRe] at hrun hIt z5
  have HI2 := hide hI
  have hA : AccR w w5 (R + 1) V R mb m m [] (.slice none 0 0) := ⟨b05, hV5, hIt, World.ownsRow_nil _ _ _ _, by omega, by omega, by have := hmm.lt; omega, hV1, by omega, fun e => by have := hmm.lt; omega⟩
  have HA := hide hA
  clear hA hIt hV3 hV4 hV5 hmm hI hm3 b1 b2 b3 b4 b5
  go_wp2_with fail
  rw [← hRe]
  clear hrun hRe
  go_loopw [7] (fun _ wr => ∃ (v : Value) (rest acc : List U2), AccR w wr (R + 1) V R mb m rest acc v ∧ (acc ++ rest).Perm m) (fun _ wr => restLen wr R)
  case atStart => exact ⟨_, m, [], unhide HA, List.Perm.refl _⟩
  case round =>
    clear HA
    obtain ⟨v, rest, acc, hA, hP⟩ := hrel
    rcases hA.it.next hA.rm 0 with ⟨rfl, hrun⟩ | ⟨i, hi, w6, hrun, hIt, hoth, hsz, hbl, hent⟩
    · rw [List.append_nil] at hP
      obtain ⟨hn2, hn12⟩ := unhide H12 m (unhide HI2).nd fun x => reachI_end (unhide HI2) x
      have hnd : acc.Nodup := hP.nodup_iff.2 (unhide HI2).nd
      have hmem : ∀ x, x ∈ acc ↔ ∃ f ∈ S u, Way S f x := fun x => by rw [hP.mem_iff]; exact reachI_end (unhide HI2) x
      have h2 : 2 ≤ acc.length := by rw [hP.length_eq]; exact hn2
      have h12 : acc.length ≤ 12 := by rw [hP.length_eq]; exact hn12
      obtain ⟨g, cp, rfl, hg, hcp, hat⟩ := rowU_own hA.own (j := 0) (by omega)
      have hSR : SR w w.heap.size V g cp acc.toArray wr := ⟨hA.below, hA.wV, by simpa using hA.cv, by
        have ho := hA.own
        refine ⟨by simpa using ho.1, ?_⟩
        have h2 := ho.2
        simp only [List.size_toArray]
        refine h2.imp id ?_
        rintro ⟨g, cap, cur, h1, hb, h3⟩
        exact ⟨g, cap, cur, h1, by have := hA.wV; have := hA.vB; omega, h3⟩⟩
      have SS := sortSlice_any hSR (n := acc.length) (by simp) h2 h12
      have IR := ins_rise hnd
      have cV : wr.cell? ⟨V, 0, none⟩ = some (.slice (some ⟨g, 0, none⟩) acc.length cp) := by rw [Lib.cell_of_heap hA.cv]; rfl
      have HIR := hide (show (insertionSort lessU acc.toArray 0 acc.length).toList.Pairwise (fun a b => lessU a b = true) ∧ ∀ x, x ∈ (insertionSort lessU acc.toArray 0 acc.length).toList ↔ ∃ f ∈ S u, Way S f x from ⟨IR.2, fun x => by rw [IR.1.mem_iff]; exact hmem x⟩)
      clear IR hmem hnd hn2 hn12 hP hA hSR hat
      generalize insertionSort lessU acc.toArray 0 acc.length = dd at *
      generalize acc.length = n at *
      unfold lessV at SS
      go_wp2_with fail
      refine SS.mono ?_
      clear SS cV
      rintro _ w7 ⟨rfl, hz7, hS7⟩
      have c7 : w7.cell? ⟨V, 0, none⟩ = some (.slice (some ⟨g, 0, none⟩) n cp) := by rw [Lib.cell_of_heap hS7.v, hz7]; rfl
      have HS7 := hide (And.intro hS7 hz7)
      clear hS7 hz7
      go_wp2
      go_ret
      obtain ⟨hS7, hz7⟩ := unhide HS7
      have hl7 : dd.toList.length = n := by simpa using hz7
      obtain ⟨ao7, cap7, e7, hr7, _, _⟩ := rowG_ownM (n := 2) (l := dd.toList.map U2.cells) (fun c hc => by
        obtain ⟨x, _, rfl⟩ := List.mem_map.1 hc
        rfl) (by simpa using hS7.own)
      refine ⟨hS7.below, ao7, cp, dd.toList, ?_, hr7, (unhide HIR).1, (unhide HIR).2⟩
      rw [hl7]
      injection e7 with e7
      rw [← e7]
      rfl
    · have HIL := hide (⟨hA.it.len, hIt.len⟩ : _ ∧ _)
      have hA6 := hA.next hA.rB hIt hoth hbl
      obtain ⟨x, hx⟩ : ∃ x, x = rest[i] := ⟨_, rfl⟩
      have HP := hide (show ((acc ++ [x]) ++ rest.eraseIdx i).Perm m from by
        refine List.Perm.trans ?_ hP
        rw [List.append_assoc]
        refine List.Perm.append_left acc ?_
        rw [hx]
        exact erase_perm rest i hi)
      have hk2 := hent w6 rfl rfl
      rw [← hx] at hrun hk2
      have hll : rest.length = (rest.eraseIdx i).length + 1 := by rw [List.length_eraseIdx_of_lt hi]; omega
      have HLL := hide hll
      have hal : acc.length + 1 ≤ 1000000 := by
        have h1 := hP.length_eq
        rw [List.length_append] at h1
        have h2 : m.length ≤ 12 := (unhide H12 m (unhide HI2).nd fun x => reachI_end (unhide HI2) x).2
        omega
      generalize rest.eraseIdx i = rest' at *
      unfold U2.val at hrun hk2
      have HA := hide hA6
      clear hA hIt hoth hsz hbl hent hP hA6 hx hll hi
      go_upto_region 6 with fail
      have bX := belowA w6 (.cells #[.string x.t, .string x.i] 28)
      have hX7 := heap_alloc_new w6 (.cells #[.string x.t, .string x.i] 28)
      have hA7 := (unhide HA).grow bX
      clear hk2 hrun HA
      generalize w6.heap.size = X at *
      generalize w6.alloc _ = w7 at *
      have c0 : w7.cell? ⟨X, 0, none⟩ = some (.string x.t) := by rw [Lib.cell_of_heap hX7]; rfl
      have c1 : w7.cell? ⟨X, 1, none⟩ = some (.string x.i) := by rw [Lib.cell_of_heap hX7]; rfl
      have cV : w7.cell? ⟨V, 0, none⟩ = some v := by rw [Lib.cell_of_heap hA7.cv]; rfl
      have b8 := belowA w7 (.cells #[.string x.t, .string x.i] 28)
      have hRw : R + 1 ≤ w7.heap.size := hA7.it.lt.1
      have Hown := hide hA7.own
      have HA := hide (hA7.grow b8)
      clear hA7 hX7 bX b8
      go_wp2_with (at_builtin; refine wpList_append_own _ rfl _ _ 30 rfl (R + 1) 28 i0 _ 2 32 Try.underlying30 ‹Try.prog.info? 28 = some i0› hz0 hz1 hz2 rfl (by decide) _ _ _ rfl ((unhide Hown).alloc _) ⟨w7.heap.size, 0, none⟩ 1 1 x.cells rfl rfl ?dA ?eA ?fA ?gA ?hA ?_)
      case dA => exact newsU_rowM w7 x _ rfl
      case eA => exact cellsU_oneM x
      case fA => unfold maxLen; omega
      case gA => omega
      case hA => simp; omega
      intro v8 w8 hown8 hg8 _
      have hown8 : w8.ownsRow (R + 1) 28 2 v8 (acc ++ [x]).length ((acc ++ [x]).map U2.cells).flatten := by simpa using hown8
      obtain ⟨o8, c8, rfl, _⟩ := ownM_slice hown8
      have HF := hide ((unhide HA).push hg8 hown8)
      have k8 := (unhide HA).keep hg8
      have q6 : w8.cell? ⟨V, 0, none⟩ = some v := by rw [Lib.cell_of_heap k8]; rfl
      have q7 : w8.frozen? ⟨V, 0, none⟩ = false := Lib.frozen_of_heap k8 0
      rw [show (acc ++ [x]).length = acc.length + 1 by simp] at HF
      clear hown8 hg8 c0 c1 cV Hown HA k8
      go_wp2
      go_roundw
      case rel => exact ⟨_, rest', acc ++ [x], unhide HF, unhide HP⟩
      case measure =>
        have h1 := (unhide HF).it.len
        have h2 := (unhide HIL).1
        have h3 := unhide HLL
        omega
end Go.Proofs.Ythmmplmppchfmaa

namespace Go.Proofs.Ythmmplmppchfmaa
open Go.RowKit Go.Sort

theorem way_inv {S : U2 → List U2} {P : U2 → Prop} {u x : U2} (h : Way S u x) (h0 : P u) (hs : ∀ v, P v → ∀ x ∈ S v, P x) : P x := by
  induction h with
  | here => exact h0
  | step _ hx ih => exact hs _ ih _ hx
def uA9 : U2 := ⟨⟨#[84]⟩, ⟨#[97]⟩⟩
def uB9 : U2 := ⟨⟨#[84]⟩, ⟨#[98]⟩⟩
def uC9 : U2 := ⟨⟨#[84]⟩, ⟨#[99]⟩⟩
def S9 (u : U2) : List U2 := if u = uA9 then [uB9] else if u = uB9 then [uC9] else []
theorem nBA : uB9 ≠ uA9 := by decide
theorem nCA : uC9 ≠ uA9 := by decide
theorem nCB : uC9 ≠ uB9 := by decide
theorem s9A : S9 uA9 = [uB9] := if_pos rfl
theorem s9B : S9 uB9 = [uC9] := by unfold S9; rw [if_neg nBA, if_pos rfl]
theorem s9C : S9 uC9 = [] := by unfold S9; rw [if_neg nCA, if_neg nCB]
theorem way9B (x : U2) : Way S9 uB9 x ↔ x = uB9 ∨ x = uC9 := by
  constructor
  · intro h
    refine way_inv (P := fun x => x = uB9 ∨ x = uC9) h (.inl rfl) ?_
    rintro v (rfl | rfl) x hx
    · rw [s9B] at hx
      exact .inr (by simpa using hx)
    · rw [s9C] at hx
      cases hx
  · rintro (rfl | rfl)
    · exact .here _
    · exact .step (.here _) (by rw [s9B]; simp)
theorem up9 (x : U2) : (∃ f ∈ S9 uA9, Way S9 f x) ↔ x = uB9 ∨ x = uC9 := by
  rw [s9A]
  simp only [List.mem_singleton, exists_eq_left]
  exact way9B x
theorem way9AC : Way S9 uA9 uC9 := .step (.step (.here uA9) (show uB9 ∈ S9 uA9 by rw [s9A]; simp)) (by rw [s9B]; simp)
theorem way9CA : ¬ Way S9 uC9 uA9 := fun h => by
  have := way_inv (P := fun x => x = uC9) h rfl (by
    rintro v rfl x hx
    rw [s9C] at hx
    cases hx)
  exact nCA this.symm
theorem two9 {m : List U2} (hn : m.Nodup) (h : ∀ x, x ∈ m ↔ ∃ f ∈ S9 uA9, Way S9 f x) : 2 ≤ m.length ∧ m.length ≤ 12 := by
  have hm : ∀ x, x ∈ m ↔ x ∈ [uB9, uC9] := fun x => by rw [h, up9]; simp
  have h1 := nodup_le [uB9, uC9] m (by decide) fun x hx => (hm x).2 hx
  have h2 := nodup_le m [uB9, uC9] hn fun x hx => (hm x).1 hx
  simp only [List.length_cons, List.length_nil] at h1 h2
  omega
theorem is9 {l : List U2} (hs : l.Pairwise (fun a b => lessU a b = true)) (h : ∀ x, x ∈ l ↔ ∃ f ∈ S9 uA9, Way S9 f x) : l = [uB9, uC9] :=
  rising_same sto_lessU l [uB9, uC9] hs (by unfold Rising; decide) fun x => by rw [h, up9]; simp
def es9 (r1 r2 : Nat) : List E4 := [⟨⟨#[84]⟩, ⟨#[97]⟩, some ⟨r1, 0, none⟩, 1, 1, none, 0, 0⟩, ⟨⟨#[84]⟩, ⟨#[98]⟩, some ⟨r2, 0, none⟩, 1, 1, none, 0, 0⟩]
theorem row1U {w : World} {r : Nat} {u : U2} (h : w.heap[r]? = some (.cells #[.string u.t, .string u.i] 28 (0, 0))) : RowG w (some ⟨r, 0, none⟩) 2 ([u].map U2.cells) :=
  row_of_flat (T := 28) (fr := (0, 0)) (fun c hc => by
    obtain ⟨u, _, rfl⟩ := List.mem_map.1 hc
    rfl) (by simpa [U2.cells] using h)
theorem steps9 {w : World} {r1 r2 : Nat} (h1 : w.heap[r1]? = some (.cells #[.string uB9.t, .string uB9.i] 28 (0, 0))) (h2 : w.heap[r2]? = some (.cells #[.string uC9.t, .string uC9.i] 28 (0, 0))) : StepsR w w.heap.size (upM (es9 r1 r2)) S9 := fun u => by
  have hu : upM (es9 r1 r2) = [(uA9, .slice (some ⟨r1, 0, none⟩) 1 1), (uB9, .slice (some ⟨r2, 0, none⟩) 1 1)] := by
    rw [upM_map _ (show ((es9 r1 r2).map e4uM).Nodup from (by show [uA9, uB9].Nodup; decide))]
    rfl
  rw [hu]
  unfold S9 lookM
  by_cases hA : u = uA9
  · rw [if_pos hA]
    subst hA
    exact ⟨some ⟨r1, 0, none⟩, 1, rfl, row1U h1, fun ad e _ => by cases e; exact (Array.getElem?_eq_some_iff.1 h1).1, by decide⟩
  · rw [if_neg hA]
    by_cases hB : u = uB9
    · rw [if_pos hB]
      subst hB
      exact ⟨some ⟨r2, 0, none⟩, 1, rfl, row1U h2, fun ad e _ => by cases e; exact (Array.getElem?_eq_some_iff.1 h2).1, by decide⟩
    · rw [if_neg hB]
      refine ⟨none, 0, ?_, rowG_nil _ _ _, fun ad e _ => (by cases e), Nat.zero_le _⟩
      simp [List.findIdx?_cons, hA, hB, gotM]
theorem row9 {w : World} {b r1 r2 : Nat} (h : w.heap[b]? = some (.cells #[.string uA9.t, .string uA9.i, .slice (some ⟨r1, 0, none⟩) 1 1, .slice none 0 0, .string uB9.t, .string uB9.i, .slice (some ⟨r2, 0, none⟩) 1 1, .slice none 0 0] 40 (0, 0))) : RowG w (some ⟨b, 0, none⟩) 4 ((es9 r1 r2).map E4.cells) :=
  row_of_flat (T := 40) (fr := (0, 0)) (fun c hc => by
    obtain ⟨u, _, rfl⟩ := List.mem_map.1 hc
    rfl) (by simpa [E4.cells, es9, uA9, uB9] using h)
theorem all9 (S : U2 → List U2) (h : S = S9) : ∀ x, ∀ v ∈ S x, v ∈ [uB9, uC9] := fun x v hv => by
  subst h
  unfold S9 at hv
  split at hv
  · have : v = uB9 := by simpa using hv
    simp [this]
  · split at hv
    · have : v = uC9 := by simpa using hv
      simp [this]
    · cases hv
theorem alloc6 (w : World) (o1 o2 o3 o4 o5 o6 : Obj) : Below w.heap.size w ((((((w.alloc o1).alloc o2).alloc o3).alloc o4).alloc o5).alloc o6) ∧ ((((((w.alloc o1).alloc o2).alloc o3).alloc o4).alloc o5).alloc o6).heap[w.heap.size]? = some o1 ∧ ((((((w.alloc o1).alloc o2).alloc o3).alloc o4).alloc o5).alloc o6).heap[w.heap.size + 1]? = some o2 ∧ ((((((w.alloc o1).alloc o2).alloc o3).alloc o4).alloc o5).alloc o6).heap[w.heap.size + 1 + 1]? = some o3 ∧ ((((((w.alloc o1).alloc o2).alloc o3).alloc o4).alloc o5).alloc o6).heap[w.heap.size + 1 + 1 + 1]? = some o4 ∧ ((((((w.alloc o1).alloc o2).alloc o3).alloc o4).alloc o5).alloc o6).heap[w.heap.size + 1 + 1 + 1 + 1]? = some o5 ∧ ((((((w.alloc o1).alloc o2).alloc o3).alloc o4).alloc o5).alloc o6).heap[w.heap.size + 1 + 1 + 1 + 1 + 1]? = some o6 := by
  have step : ∀ (W : World) (o : Obj) (k : Nat) (x : Obj), W.heap[k]? = some x → (W.alloc o).heap[k]? = some x := fun W o k x h => (heap_alloc_old W o (Array.getElem?_eq_some_iff.1 h).1).trans h
  have new : ∀ (W : World) (o : Obj) (k : Nat), k = W.heap.size → (W.alloc o).heap[k]? = some o := fun W o k h => by rw [h]; exact heap_alloc_new W o
  have b1 := belowA w o1
  have b2 := b1.alloc b1.size o2
  have b3 := b2.alloc b2.size o3
  have b4 := b3.alloc b3.size o4
  have b5 := b4.alloc b4.size o5
  have b6 := b5.alloc b5.size o6
  refine ⟨b6, step _ _ _ _ (step _ _ _ _ (step _ _ _ _ (step _ _ _ _ (step _ _ _ _ (new _ _ _ rfl))))), step _ _ _ _ (step _ _ _ _ (step _ _ _ _ (step _ _ _ _ (new _ _ _ (by simp))))), step _ _ _ _ (step _ _ _ _ (step _ _ _ _ (new _ _ _ (by simp)))), step _ _ _ _ (step _ _ _ _ (new _ _ _ (by simp))), step _ _ _ _ (new _ _ _ (by simp)), new _ _ _ (by simp)⟩

set_option maxHeartbeats 4000000 in
set_option maxRecDepth 1000000 in
theorem known9_any (w : World) : Calls Try.prog 5 #[] w fun e w' => e = .returned (.bool true) ∧ Below w.heap.size w w' := by
  obtain ⟨b6, h1, h2, h3, h4, h5, h6⟩ := alloc6 w (.cells #[.string ⟨#[84]⟩, .string ⟨#[97]⟩] 28) (.cells #[.string ⟨#[84]⟩, .string ⟨#[98]⟩] 28) (.cells #[.string ⟨#[84]⟩, .string ⟨#[99]⟩] 28) (.cells #[.string ⟨#[84]⟩, .string ⟨#[98]⟩] 28) (.cells #[.string ⟨#[84]⟩, .string ⟨#[99]⟩] 28) (.cells #[.string ⟨#[84]⟩, .string ⟨#[97]⟩, .slice (some ⟨w.heap.size + 1 + 1 + 1, 0, none⟩) 1 1, .slice none 0 0, .string ⟨#[84]⟩, .string ⟨#[98]⟩, .slice (some ⟨w.heap.size + 1 + 1 + 1 + 1, 0, none⟩) 1 1, .slice none 0 0] 40)
  go_enter Try.func5, Try.ntmps5
  go_upto_region 3 with fail
  generalize (((((w.alloc _).alloc _).alloc _).alloc _).alloc _).alloc _ = w6 at *
  have R6 := row9 h6
  have S6 := steps9 h4 h5
  have hs6 : ∀ x, ∀ v ∈ S9 x, v ∈ [uB9, uC9] := all9 S9 rfl
  have AB := above_any S9 _ (some ⟨w.heap.size + 1 + 1 + 1 + 1 + 1, 0, none⟩) 2 uA9 [uB9, uC9] w6 (by show 2 ≤ _; decide) R6 S6 hs6 (by decide) fun m hn hm => two9 hn hm
  have I1 := fun w' (hb : Below w6.heap.size w6 w') => (in_any S9 _ (some ⟨w.heap.size + 1 + 1 + 1 + 1 + 1, 0, none⟩) 2 uA9 uC9 [uB9, uC9] w' (by show 2 ≤ _; decide) (R6.below hb) (S6.below hb) hs6 (by decide)).mono fun x w'' (h : Below w'.heap.size w' w'' ∧ ∃ z, x = .returned (.bool z) ∧ (z = true ↔ Way S9 uA9 uC9)) => (by
    obtain ⟨hb, z, hx, hz⟩ := h
    rw [hz.2 way9AC] at hx
    exact ⟨hx, hb⟩ : x = .returned (.bool true) ∧ Below w'.heap.size w' w'')
  have I2 := fun w' (hb : Below w6.heap.size w6 w') => (in_any S9 _ (some ⟨w.heap.size + 1 + 1 + 1 + 1 + 1, 0, none⟩) 2 uC9 uA9 [uB9, uC9] w' (by show 2 ≤ _; decide) (R6.below hb) (S6.below hb) hs6 (by decide)).mono fun x w'' (h : Below w'.heap.size w' w'' ∧ ∃ z, x = .returned (.bool z) ∧ (z = true ↔ Way S9 uC9 uA9)) => (by
    obtain ⟨hb, z, hx, hz⟩ := h
    have hz' : z = false := by
      cases z with
      | false => rfl
      | true => exact absurd (hz.1 rfl) way9CA
    rw [hz'] at hx
    exact ⟨hx, hb⟩ : x = .returned (.bool false) ∧ Below w'.heap.size w' w'')
  have e9 : (es9 (w.heap.size + 1 + 1 + 1) (w.heap.size + 1 + 1 + 1 + 1)).length = 2 := rfl
  rw [e9] at AB
  simp only [e9] at I1 I2
  unfold U2.val at AB I1 I2
  simp only [uA9, uC9] at AB I1 I2
  have a0 : w6.cell? ⟨w.heap.size, 0, none⟩ = some (.string ⟨#[84]⟩) := by rw [Lib.cell_of_heap h1]; rfl
  have a1 : w6.cell? ⟨w.heap.size, 1, none⟩ = some (.string ⟨#[97]⟩) := by rw [Lib.cell_of_heap h1]; rfl
  clear h4 h5 h6 R6 S6
  go_wp2_with fail
  refine AB.mono ?_
  clear AB
  rintro _ w7 ⟨b7, lo, c, l, rfl, hrow, hsort, hmem⟩
  obtain rfl := is9 hsort hmem
  obtain ⟨b, off, rfl, hb, hc0⟩ := hrow 0 (by decide)
  obtain ⟨b', off', e', _, hc1⟩ := hrow 1 (by decide)
  cases e'
  have r0 : w7.cell? ⟨b, off, none⟩ = some (.string ⟨#[84]⟩) := by simpa [uB9] using hc0 0 _ rfl
  have r1 : w7.cell? ⟨b, off + 1, none⟩ = some (.string ⟨#[98]⟩) := by simpa [uB9] using hc0 1 _ rfl
  have r2 : w7.cell? ⟨b, off + 2, none⟩ = some (.string ⟨#[84]⟩) := by simpa [uC9] using hc1 0 _ rfl
  have r3 : w7.cell? ⟨b, off + 2 + 1, none⟩ = some (.string ⟨#[99]⟩) := by simpa [uC9] using hc1 1 _ rfl
  have k1 := (b7.block _ (Array.getElem?_eq_some_iff.1 h1).1).trans h1
  have k2 := (b7.block _ (Array.getElem?_eq_some_iff.1 h2).1).trans h2
  have k3 := (b7.block _ (Array.getElem?_eq_some_iff.1 h3).1).trans h3
  have g0 := cell_regrown (show w7.cell? ⟨w.heap.size, 0, none⟩ = some (.string ⟨#[84]⟩) by rw [Lib.cell_of_heap k1]; rfl)
  have g1 := cell_regrown (show w7.cell? ⟨w.heap.size, 1, none⟩ = some (.string ⟨#[97]⟩) by rw [Lib.cell_of_heap k1]; rfl)
  have g2 := cell_regrown (show w7.cell? ⟨w.heap.size + 1, 0, none⟩ = some (.string ⟨#[84]⟩) by rw [Lib.cell_of_heap k2]; rfl)
  have g3 := cell_regrown (show w7.cell? ⟨w.heap.size + 1, 1, none⟩ = some (.string ⟨#[98]⟩) by rw [Lib.cell_of_heap k2]; rfl)
  have g4 := cell_regrown (show w7.cell? ⟨w.heap.size + 1 + 1, 0, none⟩ = some (.string ⟨#[84]⟩) by rw [Lib.cell_of_heap k3]; rfl)
  have g5 := cell_regrown (show w7.cell? ⟨w.heap.size + 1 + 1, 1, none⟩ = some (.string ⟨#[99]⟩) by rw [Lib.cell_of_heap k3]; rfl)
  have g6 := cell_regrown r0
  have g7 := cell_regrown r1
  have g8 := cell_regrown r2
  have g9 := cell_regrown r3
  have e1 : ∀ W, (binOp .eql 28 (.agg #[.string ⟨#[84]⟩, .string ⟨#[98]⟩]) (.agg #[.string ⟨#[84]⟩, .string ⟨#[98]⟩])).run Try.prog W = .ok (.bool true) W := fun W => binEqlUid uB9 uB9 W
  have e2 : ∀ W, (binOp .eql 28 (.agg #[.string ⟨#[84]⟩, .string ⟨#[99]⟩]) (.agg #[.string ⟨#[84]⟩, .string ⟨#[99]⟩])).run Try.prog W = .ok (.bool true) W := fun W => binEqlUid uC9 uC9 W
  have i1 := fun d os => Calls.regrown_of (w := w7) (d := d) (os := os) (I1 (grow (redrawn w7 d) os) (b7.trans ((below_regrown w7 d os).mono b7.size)))
  have i2 := fun d os => Calls.regrown_of (w := w7) (d := d) (os := os) (I2 (grow (redrawn w7 d) os) (b7.trans ((below_regrown w7 d os).mono b7.size)))
  have b07 := b6.trans (b7.mono b6.size)
  clear I1 I2 h1 h2 h3 k1 k2 k3 r0 r1 r2 r3 a0 a1 hc0 hc1 hrow hsort hmem hs6 e9 b6 b7
  simp only [List.length_cons, List.length_nil, Nat.zero_add]
  go_wp2_with fail
  refine wp_region_quiet_below (by kernel_rfl) (by kernel_rfl) ?_
  repeat (first | go_big_quiet_step (fail) | quiet_step (fail))
  quiet_step (exact i1 _ _)
  repeat (first | go_big_quiet_step (fail) | quiet_step (fail))
  quiet_step (exact i2 _ _)
  repeat (first | go_big_quiet_step (fail) | quiet_step (fail))
  refine wpQuiet_nil ?_
  intro _ hw'
  obtain ⟨⟨dq, osq⟩, hw''⟩ := hw'
  subst hw''
  have b8 := b07.trans ((below_regrown w7 dq osq).mono b07.size)
  go_wp2
  go_ret
  exact ⟨rfl, b8⟩
end Go.Proofs.Ythmmplmppchfmaa
