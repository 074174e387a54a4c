/-
  Plain: a row of entities, each the parent of the one ahead, and closed to a circle.
  chancellaw9.AboveChain, plain: what Above, Below, Circle tell of a chain.
  chancellaw9.AboveChain: a chain of entities in memory; what In, Above, Below, Circle return of it.
-/
import Derived.Test.YthmmplmppchfmaaMqKW
import Derived.Test.YthmmplmppchfmaaAeAB
namespace Go.Proofs.Ythmmplmppchfmaa
open Go.RowKit Go.Sort

def cU (i : Nat) : U2 := ⟨⟨#[84]⟩, ⟨#[UInt8.ofNat (97 + i)]⟩⟩
def cPs (n : Nat) (ring : Bool) (i : Nat) : List U2 := if i + 1 < n then [cU (i + 1)] else if ring then [cU 0] else []
def chainP (n : Nat) (ring : Bool) : List EntP := (List.range n).map fun i => ⟨cU i, cPs n ring i, []⟩
theorem cU_inj : ∀ i, i < 30 → ∀ j, j < 30 → cU i = cU j → i = j := by decide
theorem chain_u (n : Nat) (ring : Bool) : (chainP n ring).map EntP.u = (List.range n).map cU := by
  unfold chainP
  rw [List.map_map]
  rfl
theorem map_nodup {α β : Type} {f : α → β} : ∀ {l : List α}, l.Nodup → (∀ a ∈ l, ∀ b ∈ l, f a = f b → a = b) → (l.map f).Nodup
  | [], _, _ => List.nodup_nil
  | a :: l, hn, hf => by
    have hn' := List.nodup_cons.1 hn
    rw [List.map_cons, List.nodup_cons]
    refine ⟨fun hm => ?_, map_nodup hn'.2 fun x hx y hy => hf x (List.mem_cons_of_mem _ hx) y (List.mem_cons_of_mem _ hy)⟩
    obtain ⟨b, hb, e⟩ := List.mem_map.1 hm
    have := hf b (List.mem_cons_of_mem _ hb) a List.mem_cons_self e
    rw [this] at hb
    exact hn'.1 hb
theorem chain_nodup {n : Nat} (h : n ≤ 30) (ring : Bool) : ((chainP n ring).map EntP.u).Nodup := by
  rw [chain_u]
  refine map_nodup List.nodup_range fun a ha b hb e => cU_inj a ?_ b ?_ e
  · have := List.mem_range.1 ha; omega
  · have := List.mem_range.1 hb; omega
theorem chain_up {n i : Nat} (h : n ≤ 30) (ring : Bool) (hi : i < n) : upS (chainP n ring) (cU i) = cPs n ring i := by
  have hm : (⟨cU i, cPs n ring i, []⟩ : EntP) ∈ chainP n ring := List.mem_map.2 ⟨i, List.mem_range.2 hi, rfl⟩
  have := find_mem (chain_nodup h ring) hm
  unfold upS
  simp only at this
  rw [this]
theorem chain_fwd {n : Nat} (h : n ≤ 30) (ring : Bool) {k : Nat} : ∀ d, k + d < n → Way (upS (chainP n ring)) (cU k) (cU (k + d))
  | 0, _ => .here _
  | d + 1, hd => .step (chain_fwd h ring d (by omega)) (by
    rw [chain_up h ring (by omega)]
    unfold cPs
    rw [if_pos (by omega)]
    exact List.mem_singleton.2 rfl)
/-- Who is in whom. -/
theorem chain_way {n i k : Nat} (h : n ≤ 30) (ring : Bool) (hi : i < n) (hk : k < n) : Way (upS (chainP n ring)) (cU k) (cU i) ↔ (ring = true ∨ k ≤ i) := by
  constructor
  · intro hw
    cases hr : ring with
    | true => exact .inl rfl
    | false =>
      rw [hr] at hw
      refine .inr ?_
      have := way_inv (P := fun x => ∃ j, j < n ∧ k ≤ j ∧ x = cU j) hw ⟨k, hk, Nat.le_refl _, rfl⟩ (by
        rintro v ⟨j, hj, hkj, rfl⟩ x hx
        rw [chain_up h false hj] at hx
        unfold cPs at hx
        split at hx
        · exact ⟨j + 1, by assumption, by omega, by simpa using hx⟩
        · simp at hx)
      obtain ⟨j, hj, hkj, e⟩ := this
      have := cU_inj i (by omega) j (by omega) e
      omega
  · rintro (rfl | hki)
    · rcases Nat.le_total k i with hki | hik
      · have := chain_fwd (n := n) h true (k := k) (i - k) (by omega)
        rwa [show k + (i - k) = i by omega] at this
      · have h1 := chain_fwd (n := n) h true (k := k) (n - 1 - k) (by omega)
        rw [show k + (n - 1 - k) = n - 1 by omega] at h1
        have h2 : Way (upS (chainP n true)) (cU k) (cU 0) := .step h1 (by
          rw [chain_up h true (by omega)]
          unfold cPs
          rw [if_neg (by omega)]
          exact List.mem_singleton.2 rfl)
        have h3 := chain_fwd (n := n) h true (k := 0) i (by omega)
        rw [Nat.zero_add] at h3
        exact h2.trans h3
    · have := chain_fwd (n := n) h ring (k := k) (i - k) (by omega)
      rwa [show k + (i - k) = i by omega] at this
/-- Who is above one: only those of the row. -/
theorem chain_only {n k : Nat} (h : n ≤ 30) (ring : Bool) (hk : k < n) {x : U2} (hw : Way (upS (chainP n ring)) (cU k) x) : ∃ j, j < n ∧ x = cU j :=
  way_inv (P := fun x => ∃ j, j < n ∧ x = cU j) hw ⟨k, hk, rfl⟩ (by
    rintro v ⟨j, hj, rfl⟩ x hx
    rw [chain_up h ring hj] at hx
    unfold cPs at hx
    split at hx
    · exact ⟨j + 1, by assumption, by simpa using hx⟩
    · split at hx
      · exact ⟨0, by omega, by simpa using hx⟩
      · cases hx)
/-- A row of unlike uids that has those of numbers from a to b, and no others, has b - a of them. -/
theorem count_c {l : List U2} {a b : Nat} (hb : b ≤ 30) (hab : a ≤ b) (hn : l.Nodup) (h : ∀ x, x ∈ l ↔ ∃ j, a ≤ j ∧ j < b ∧ x = cU j) : l.length = b - a := by
  have hm : ∀ x, x ∈ (List.range' a (b - a)).map cU ↔ ∃ j, a ≤ j ∧ j < b ∧ x = cU j := fun x => by
    rw [List.mem_map]
    constructor
    · rintro ⟨j, hj, rfl⟩
      have := List.mem_range'_1.1 hj
      exact ⟨j, this.1, by omega, rfl⟩
    · rintro ⟨j, h1, h2, rfl⟩
      exact ⟨j, List.mem_range'_1.2 ⟨h1, by omega⟩, rfl⟩
  have hnd : ((List.range' a (b - a)).map cU).Nodup := map_nodup (List.nodup_range' ..) fun x hx y hy e => by
    have h1 := List.mem_range'_1.1 hx
    have h2 := List.mem_range'_1.1 hy
    exact cU_inj x (by omega) y (by omega) e
  have h1 := nodup_le l _ hn fun x hx => (hm x).2 ((h x).1 hx)
  have h2 := nodup_le _ l hnd fun x hx => (h x).2 ((hm x).1 hx)
  rw [List.length_map, List.length_range'] at h1 h2
  omega
end Go.Proofs.Ythmmplmppchfmaa

namespace Go.Proofs.Ythmmplmppchfmaa
open Go.RowKit Go.Sort

theorem abv_exG {S : U2 → List U2} {N : List U2} (hN : ∀ x, ∀ v ∈ S x, v ∈ N) (u : U2) : ∃ La : List U2, La.Nodup ∧ (∀ x, x ∈ La ↔ ∃ f ∈ S u, Way S f x) ∧ ∀ l : List U2, l.Pairwise (fun a b => lessU a b = true) → (∀ x, x ∈ l ↔ ∃ f ∈ S u, Way S f x) → l = La := by
  have hm : ∀ x, x ∈ setOf lessU (N.filter fun x => @decide (∃ f ∈ S u, Way S f x) (Classical.propDecidable _)) ↔ ∃ f ∈ S u, Way S f x := fun x => by
    rw [mem_setOf sto_lessU, List.mem_filter]
    constructor
    · rintro ⟨_, h⟩
      exact @of_decide_eq_true _ (Classical.propDecidable _) h
    · intro hx
      refine ⟨?_, @decide_eq_true _ (Classical.propDecidable _) hx⟩
      obtain ⟨f, hf, hw⟩ := hx
      cases hw with
      | here => exact hN _ _ hf
      | step _ hx => exact hN _ _ hx
  have hr := rising_setOf sto_lessU (N.filter fun x => @decide (∃ f ∈ S u, Way S f x) (Classical.propDecidable _))
  have hnd : (setOf lessU (N.filter fun x => @decide (∃ f ∈ S u, Way S f x) (Classical.propDecidable _))).Nodup := hr.imp fun h e => by rw [e, sto_lessU.irr] at h; cases h
  exact ⟨_, hnd, hm, fun l hl hlm => rising_same sto_lessU l _ hl hr fun z => (hlm z).trans (hm z).symm⟩
theorem chain_cut {n k : Nat} (h : n ≤ 30) : ∀ d, k + d < n → Way (cutS (upS (chainP n false)) (cU (n - 1))) (cU k) (cU (k + d))
  | 0, _ => .here _
  | d + 1, hd => .step (chain_cut h d (by omega)) (by
    unfold cutS
    rw [if_neg (fun e => by have := cU_inj _ (by omega) _ (by omega) e; omega), chain_up h false (by omega)]
    unfold cPs
    rw [if_pos (by omega)]
    exact List.mem_singleton.2 rfl)
def oU : U2 := ⟨⟨#[84]⟩, ⟨#[111, 116, 104, 101, 114]⟩⟩
theorem oU_ne (i : Nat) : cU i ≠ oU := fun e => by
  have h := congrArg (fun u : U2 => u.i.size) e
  exact absurd h (by show (1 : Nat) ≠ 5; decide)
theorem chain_other (n : Nat) (ring : Bool) : upS (chainP n ring) oU = [] := by
  unfold upS
  cases hf : findP (chainP n ring) oU with
  | none => rfl
  | some p =>
    obtain ⟨hp, hu⟩ := find_is hf
    obtain ⟨i, _, rfl⟩ := List.mem_map.1 hp
    exact absurd hu (oU_ne i)
theorem chain_no (n : Nat) (ring : Bool) (u : U2) (hu : u ≠ oU) : ¬ Way (cutS (upS (chainP n ring)) u) oU u := fun h => by
  have := way_inv (P := fun x => x = oU) h rfl (by
    rintro v rfl x hx
    unfold cutS at hx
    split at hx
    · cases hx
    · rw [chain_other] at hx
      cases hx)
  exact hu this
/-- How many are above one. -/
theorem chain_abv {n k : Nat} (h : n ≤ 30) (ring : Bool) (hk : k < n) {l : List U2} (hn : l.Nodup) (hm : ∀ x, x ∈ l ↔ ∃ f ∈ upS (chainP n ring) (cU k), Way (upS (chainP n ring)) f x) : l.length = if ring then n else n - 1 - k := by
  cases ring with
  | true =>
    rw [if_pos rfl]
    refine count_c (a := 0) (b := n) h (Nat.zero_le _) hn fun x => (hm x).trans ?_
    obtain ⟨m, hmn, hs⟩ : ∃ m, m < n ∧ upS (chainP n true) (cU k) = [cU m] := by
      rw [chain_up h true hk]
      unfold cPs
      by_cases hk1 : k + 1 < n
      · exact ⟨k + 1, hk1, if_pos hk1⟩
      · exact ⟨0, by omega, by rw [if_neg hk1]; rfl⟩
    rw [hs]
    constructor
    · rintro ⟨f, hf, hw⟩
      rw [List.mem_singleton.1 hf] at hw
      obtain ⟨j, hj, rfl⟩ := chain_only h true hmn hw
      exact ⟨j, Nat.zero_le _, hj, rfl⟩
    · rintro ⟨j, _, hj, rfl⟩
      exact ⟨cU m, List.mem_singleton.2 rfl, (chain_way h true hj hmn).2 (.inl rfl)⟩
  | false =>
    rw [if_neg (by decide)]
    have := count_c (a := k + 1) (b := n) h hk hn fun x => (hm x).trans (by
      rw [chain_up h false hk]
      unfold cPs
      by_cases hk1 : k + 1 < n
      · rw [if_pos hk1]
        constructor
        · rintro ⟨f, hf, hw⟩
          rw [List.mem_singleton.1 hf] at hw
          obtain ⟨j, hj, rfl⟩ := chain_only h false hk1 hw
          have := (chain_way h false hj hk1).1 hw
          rcases this with h | h
          · cases h
          · exact ⟨j, h, hj, rfl⟩
        · rintro ⟨j, hkj, hj, rfl⟩
          exact ⟨cU (k + 1), List.mem_singleton.2 rfl, (chain_way h false hj hk1).2 (.inr hkj)⟩
      · rw [if_neg hk1]
        constructor
        · rintro ⟨f, hf, _⟩
          cases hf
        · rintro ⟨j, hkj, hj, _⟩
          omega)
    omega
/-- How many are below one. -/
theorem chain_bel {n k : Nat} (h : n ≤ 30) (ring : Bool) (hk : k < n) {f : U2 → U2 → Bool} (hf : IsW (upS (chainP n ring)) f) {es : List E4} (he : es.map e4uM = (List.range n).map cU) : (belF f (cU k) es).length = if ring then n - 1 else k := by
  have hnd : (es.map e4uM).Nodup := by rw [he, ← chain_u n ring]; exact chain_nodup h ring
  have hn : (belF f (cU k) es).Nodup := hnd.sublist List.filter_sublist
  have hm : ∀ x, x ∈ belF f (cU k) es ↔ ∃ j, j < n ∧ j ≠ k ∧ (ring = true ∨ j ≤ k) ∧ x = cU j := fun x => by
    unfold belF
    rw [List.mem_filter, he]
    constructor
    · rintro ⟨hx, hc⟩
      obtain ⟨j, hj, rfl⟩ := List.mem_map.1 hx
      have hj := List.mem_range.1 hj
      simp only [Bool.and_eq_true, decide_eq_true_eq] at hc
      exact ⟨j, hj, fun e => hc.1 (by rw [e]), (chain_way h ring hk hj).1 ((hf _ _).1 hc.2), rfl⟩
    · rintro ⟨j, hj, hne, hw, rfl⟩
      refine ⟨List.mem_map.2 ⟨j, List.mem_range.2 hj, rfl⟩, ?_⟩
      simp only [Bool.and_eq_true, decide_eq_true_eq]
      exact ⟨fun e => hne (cU_inj _ (by omega) _ (by omega) e), (hf _ _).2 ((chain_way h ring hk hj).2 hw)⟩
  cases ring with
  | true =>
    rw [if_pos rfl]
    have hnot : cU k ∉ belF f (cU k) es := fun hk2 => by
      obtain ⟨j, hj, hne, _, e⟩ := (hm _).1 hk2
      exact hne (cU_inj _ (by omega) _ (by omega) e.symm)
    have := count_c (l := cU k :: belF f (cU k) es) (a := 0) (b := n) h (Nat.zero_le _) (List.nodup_cons.2 ⟨hnot, hn⟩) fun x => by
      rw [List.mem_cons, hm x]
      constructor
      · rintro (rfl | ⟨j, hj, _, _, rfl⟩)
        · exact ⟨k, Nat.zero_le _, hk, rfl⟩
        · exact ⟨j, Nat.zero_le _, hj, rfl⟩
      · rintro ⟨j, _, hj, rfl⟩
        by_cases hjk : j = k
        · exact .inl (by rw [hjk])
        · exact .inr ⟨j, hj, hjk, .inl rfl, rfl⟩
    rw [List.length_cons] at this
    omega
  | false =>
    rw [if_neg (by decide)]
    have := count_c (a := 0) (b := k) (by omega) (Nat.zero_le _) hn fun x => by
      rw [hm x]
      constructor
      · rintro ⟨j, hj, hne, hw, rfl⟩
        rcases hw with h | h
        · cases h
        · exact ⟨j, Nat.zero_le _, by omega, rfl⟩
      · rintro ⟨j, _, hj, rfl⟩
        exact ⟨j, by omega, by omega, .inr (by omega), rfl⟩
    omega
end Go.Proofs.Ythmmplmppchfmaa

namespace Go.Proofs.Ythmmplmppchfmaa
open Go.RowKit Go.Sort

/-- One of the chain, in memory. -/
structure ChOne (w : World) (n : Nat) (ring : Bool) (j : Nat) (e : E4) : Prop where
  u : (⟨e.t, e.i⟩ : U2) = cU j
  pl : e.pl = (cPs n ring j).length
  par : (cPs n ring j = [] ∧ e.po = none) ∨ ∃ Q x, cPs n ring j = [x] ∧ e.po = some ⟨Q, 0, none⟩ ∧ w.heap[Q]? = some (.cells #[.string x.t, .string x.i] 28 (0, 0))
  ao : e.ao = none
  al : e.al = 0
theorem ChOne.keep {w w' : World} {n : Nat} {ring : Bool} {j : Nat} {e : E4} (h : ChOne w n ring j e) (hk : ∀ (Q : Nat) (c : Array Value), w.heap[Q]? = some (.cells c 28 (0, 0)) → w'.heap[Q]? = some (.cells c 28 (0, 0))) : ChOne w' n ring j e :=
  ⟨h.u, h.pl, h.par.imp id fun ⟨Q, x, h1, h2, h3⟩ => ⟨Q, x, h1, h2, hk _ _ h3⟩, h.ao, h.al⟩
theorem ChOne.isEnt {w : World} {n : Nat} {ring : Bool} {j : Nat} {e : E4} (h : ChOne w n ring j e) : IsEnt w (fun _ => True) e ⟨cU j, cPs n ring j, []⟩ := by
  refine ⟨h.u, h.pl, ?_, fun _ _ _ => trivial, [], h.al, ?_, fun _ _ _ => trivial, rfl, fun _ h => absurd h (Nat.not_lt_zero _)⟩
  · rcases h.par with ⟨h1, _⟩ | ⟨Q, x, h1, h2, h3⟩
    · show RowG w e.po 2 ((cPs n ring j).map U2.cells)
      rw [h1]
      exact rowG_nil _ _ _
    · show RowG w e.po 2 ((cPs n ring j).map U2.cells)
      rw [h1, h2]
      exact rowG_one h3
  · exact rowG_nil _ _ _
/-- The chain, as far as it is made. -/
structure ChM (w : World) (n : Nat) (ring : Bool) (es : List E4) : Prop where
  one : ∀ j (h : j < es.length), ChOne w n ring j es[j]
theorem ChM.keep {w w' : World} {n : Nat} {ring : Bool} {es : List E4} (h : ChM w n ring es) (hk : ∀ (Q : Nat) (c : Array Value), w.heap[Q]? = some (.cells c 28 (0, 0)) → w'.heap[Q]? = some (.cells c 28 (0, 0))) : ChM w' n ring es := ⟨fun j hj => (h.one j hj).keep hk⟩
theorem ChM.below {w w' : World} {n : Nat} {ring : Bool} {es : List E4} (h : ChM w n ring es) (hb : Below w.heap.size w w') : ChM w' n ring es := h.keep fun _ _ hq => kept_of_below hb hq
theorem ChM.snoc {w : World} {n : Nat} {ring : Bool} {es : List E4} {e : E4} (h : ChM w n ring es) (he : ChOne w n ring es.length e) : ChM w n ring (es ++ [e]) := ⟨fun j hj => by
  by_cases hl : j < es.length
  · rw [List.getElem_append_left hl]
    exact h.one j hl
  · have : j = es.length := by
      rw [List.length_append, List.length_singleton] at hj
      omega
    subst this
    rw [List.getElem_append_right (Nat.le_refl _)]
    simpa using he⟩
theorem ChM.all {w : World} {n : Nat} {ring : Bool} {es : List E4} (h : ChM w n ring es) (hl : es.length = n) : AllEnt w (fun _ => True) es (chainP n ring) := by
  refine ⟨by rw [hl]; unfold chainP; rw [List.length_map, List.length_range], fun j hj hj' => ?_⟩
  have : (chainP n ring)[j] = ⟨cU j, cPs n ring j, []⟩ := by simp [chainP]
  rw [this]
  exact (h.one j hj).isEnt
theorem chain_ps (n : Nat) (ring : Bool) : ∀ p ∈ chainP n ring, p.ps.length ≤ 1 := fun p hp => by
  obtain ⟨i, _, rfl⟩ := List.mem_map.1 hp
  show (cPs n ring i).length ≤ 1
  unfold cPs
  split
  · exact Nat.le_refl _
  · split
    · exact Nat.le_refl _
    · exact Nat.zero_le _
theorem chain_N {n : Nat} (h : n ≤ 30) (hn : 0 < n) (ring : Bool) : ∀ x, ∀ v ∈ upS (chainP n ring) x, v ∈ (List.range n).map cU := fun x v hv => by
  obtain ⟨p, hp, _, hm⟩ := (mem_upS (chain_nodup h ring) x v).1 hv
  obtain ⟨i, hi, rfl⟩ := List.mem_map.1 hp
  have hm : v ∈ cPs n ring i := hm
  unfold cPs at hm
  split at hm
  · rw [List.mem_singleton.1 hm]
    exact List.mem_map.2 ⟨i + 1, List.mem_range.2 (by assumption), rfl⟩
  · split at hm
    · rw [List.mem_singleton.1 hm]
      exact List.mem_map.2 ⟨0, List.mem_range.2 hn, rfl⟩
    · cases hm
theorem es_u {w : World} {n : Nat} {ring : Bool} {es : List E4} (h : ChM w n ring es) (hl : es.length = n) : es.map e4uM = (List.range n).map cU := by
  rw [e4uM_all (h.all hl), chain_u]
theorem bel_eqN {ps : List EntP} (hn : (ps.map EntP.u).Nodup) {f : U2 → U2 → Bool} (hf : IsW (upS ps) f) {u : U2} {m : List U2} (hI : ReachI (downS (pairsP ps)) [u] (m, [])) (es : List E4) : belP u m es = belF f u es := by
  unfold belP belF
  refine List.filter_congr fun y _ => ?_
  congr 1
  rw [Bool.eq_iff_iff, decide_eq_true_eq, reachI_end hI, hf y u, ← way_down hn]
  simp
section
variable {w : World} {n : Nat} {ring : Bool} {es : List E4} {ao : Option Addr}
theorem ChM.inn (h : ChM w n ring es) (hl : es.length = n) (hn : 2 ≤ n ∧ n ≤ 14) (hr : RowG w ao 4 (es.map E4.cells)) {f : U2 → U2 → Bool} (hf : IsW (upS (chainP n ring)) f) (cap : Nat) (u a : U2) :
    Calls Try.prog 8 #[.slice ao n cap, .agg #[.string u.t, .string u.i], .agg #[.string a.t, .string a.i]] w fun e w' => e = .returned (.bool (f u a)) ∧ Below w.heap.size w w' := by
  have := in_any (upS (chainP n ring)) es ao cap u a ((List.range n).map cU) w (by omega) hr (steps_up (h.all hl) (chain_nodup (by omega) ring) (fun p hp => by have := chain_ps n ring p hp; omega)) (chain_N (by omega) (by omega) ring) (by rw [List.length_map, List.length_range]; omega)
  unfold U2.val at this
  rw [hl] at this
  refine this.mono ?_
  rintro e w' ⟨hb, z, he, hz⟩
  exact ⟨by rw [he]; congr 2; rw [Bool.eq_iff_iff, hz, hf u a], hb⟩
theorem ChM.abv (h : ChM w n ring es) (hl : es.length = n) (hn : 2 ≤ n ∧ n ≤ 14) (hr : RowG w ao 4 (es.map E4.cells)) {u : U2} {La : List U2} (hL : ∀ l : List U2, l.Pairwise (fun a b => lessU a b = true) → (∀ x, x ∈ l ↔ ∃ f ∈ upS (chainP n ring) u, Way (upS (chainP n ring)) f x) → l = La) (cap : Nat) :
    Calls Try.prog 11 #[.slice ao n cap, .agg #[.string u.t, .string u.i]] w fun e w' => Below w.heap.size w w' ∧ RowU w' La e := by
  have hN := chain_N (n := n) (by omega) (by omega) ring
  have := aboveG_any (upS (chainP n ring)) es ao cap u ((List.range n).map cU) w (by omega) hr (steps_up (h.all hl) (chain_nodup (by omega) ring) (fun p hp => by have := chain_ps n ring p hp; omega)) hN (by rw [List.length_map, List.length_range]; omega) (fun m hm hx => by
    have h1 := nodup_le m ((List.range n).map cU) hm fun y hy => by
      obtain ⟨f, hf, hw⟩ := (hx y).1 hy
      cases hw with
      | here => exact hN _ _ hf
      | step _ hx => exact hN _ _ hx
    rw [List.length_map, List.length_range] at h1
    omega)
  unfold U2.val at this
  rw [hl] at this
  refine this.mono ?_
  rintro e w' ⟨hb, lo, c, l, he, hr, hs, hm⟩
  obtain rfl := hL l hs hm
  exact ⟨hb, lo, c, he, hr⟩
theorem ChM.bel (h : ChM w n ring es) (hl : es.length = n) (hn : 2 ≤ n ∧ n ≤ 14) (hr : RowG w ao 4 (es.map E4.cells)) {f : U2 → U2 → Bool} (hf : IsW (upS (chainP n ring)) f) (cap : Nat) (u : U2) :
    Calls Try.prog 13 #[.slice ao n cap, .agg #[.string u.t, .string u.i]] w fun e w' => Below w.heap.size w w' ∧ RowU w' (belF f u es) e := by
  have hp := fun p hp => chain_ps n ring p hp
  have hcl : (chainP n ring).length = n := by unfold chainP; rw [List.length_map, List.length_range]
  have := below_any es (pairsP (chainP n ring)) ao cap u w (by omega) hr (down_all (h.all hl) (fun p hp2 => by have := hp p hp2; omega)) (fun y => by
    have h1 := downS_len 1 y (pairsP (chainP n ring)) (fun _ => []) fun q hq => by
      obtain ⟨p, hp2, rfl⟩ := List.mem_map.1 hq
      exact hp p hp2
    have h3 : (pairsP (chainP n ring)).length = n := by unfold pairsP; rw [List.length_map, hcl]
    unfold downS
    simp only [List.length_nil] at h1
    omega)
  unfold U2.val at this
  rw [hl] at this
  refine this.mono ?_
  rintro e w' ⟨hb, v, m, he, hI, how⟩
  rw [bel_eqN (chain_nodup (by omega) ring) hf hI] at how
  obtain ⟨lo, c, rfl, hr⟩ := own_rowA how
  exact ⟨hb, lo, c, he, hr⟩
theorem ChM.cir (h : ChM w n ring es) (hl : es.length = n) (hn : 2 ≤ n ∧ n ≤ 14) (hr : RowG w ao 4 (es.map E4.cells)) {b : Nat} {x u : U2} {z : Bool} (hz : z = true ↔ Way (cutS (upS (chainP n ring)) u) x u) (hx : w.heap[b]? = some (.cells #[.string x.t, .string x.i] 28 (0, 0))) (cap : Nat) :
    Calls Try.prog 15 #[.slice ao n cap, .agg #[.string u.t, .string u.i], .slice (some ⟨b, 0, none⟩) 1 1] w fun e w' => e = .returned (.bool z) ∧ Below w.heap.size w w' := by
  have hp := rowG_one hx
  have := circle_any (cutS (upS (chainP n ring)) u) es ao (some ⟨b, 0, none⟩) cap 1 u [x] ((List.range n).map cU ++ [x]) w (by omega) hr hp (by rw [List.length_singleton]; decide) (fun ad e hne => rowG_blk hp (by simp) ad e) (steps_del (h.all hl) (chain_nodup (by omega) ring) (fun p hp => by have := chain_ps n ring p hp; omega) u) (fun y hy => List.mem_append.2 (.inr hy)) (fun y v hv => by
    unfold cutS at hv
    split at hv
    · cases hv
    · exact List.mem_append.2 (.inl (chain_N (by omega) (by omega) ring y v hv))) (by rw [List.length_append, List.length_map, List.length_range, List.length_singleton]; omega)
  unfold U2.val at this
  rw [hl] at this
  refine this.mono ?_
  rintro e w' ⟨hb, zz, he, hzz⟩
  exact ⟨by rw [he]; congr 2; rw [Bool.eq_iff_iff, hzz, hz]; simp, hb⟩
end
theorem conv_c (i b : Nat) (W : World) (hi : i < 30) (h : W.heap[b]? = some (.cells #[.int .u8 (97 + (i : Int))] 5 (0, 0))) : (convert 37 9 (.slice (some ⟨b, 0, none⟩) 1 1)).run Try.prog W = .ok (.string (cU i).i) W := conv_letter b i W (by omega) h
end Go.Proofs.Ythmmplmppchfmaa
