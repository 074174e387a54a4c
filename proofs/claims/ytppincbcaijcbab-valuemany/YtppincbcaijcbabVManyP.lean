/-
  Plain facts for chancellaw3.ValueMany: numbers one behind the other, and letters, are sets.
-/
import Derived.Test.YtppincbcaijcbabVdH
namespace Go.Proofs.Ytppincbcaijcbab
open Go.RowKit Go.Sort

/-- The i-th value. -/
def itm (s : Bool) (i : Nat) : PV := if s then .str [UInt8.ofNat (97 + i)] else .long i
def itms (s : Bool) (n : Nat) : List PV := (List.range n).map (itm s)
/-- .. each once, or twice. -/
def all2 (s t : Bool) (n : Nat) : List PV := (List.range n).flatMap fun i => if t then [itm s i, itm s i] else [itm s i]

theorem all2_snoc (s t : Bool) (n : Nat) : all2 s t (n + 1) = all2 s t n ++ (if t then [itm s n, itm s n] else [itm s n]) := by
  simp [all2, List.range_succ, List.flatMap_append]

theorem all2_mem (s t : Bool) (n : Nat) (z : PV) : z ∈ all2 s t n ↔ z ∈ itms s n := by
  simp only [all2, itms, List.mem_flatMap, List.mem_map, List.mem_range]
  constructor
  · rintro ⟨i, hi, hz⟩
    refine ⟨i, hi, ?_⟩
    cases t <;> simp at hz <;> exact hz.symm
  · rintro ⟨i, hi, rfl⟩
    refine ⟨i, hi, ?_⟩
    cases t <;> simp

theorem all2_len (s t : Bool) (n : Nat) : (all2 s t n).length ≤ 2 * n := by
  induction n with
  | zero => exact Nat.le_refl _
  | succ n ih =>
    rw [all2_snoc, List.length_append]
    cases t <;> simp <;> omega

theorem itm_less (s : Bool) (i j : Nat) (h : i < j) (hj : j < 14) : lessP (itm s i) (itm s j) = true := by
  cases s
  · simp [itm, lessP]
    omega
  · have : ∀ i j : Fin 14, i < j → lessP (itm true i) (itm true j) = true := by decide
    exact this ⟨i, by omega⟩ ⟨j, hj⟩ h

theorem itms_rising (s : Bool) (n : Nat) (hn : n ≤ 14) : Rising lessP (itms s n) := by
  unfold Rising itms
  rw [List.pairwise_iff_getElem]
  intro i j hi hj hij
  rw [List.length_map, List.length_range] at hi hj
  rw [List.getElem_map, List.getElem_map, List.getElem_range, List.getElem_range]
  exact itm_less s i j hij (by omega)

theorem all2_set (s t : Bool) (n : Nat) (hn : n ≤ 14) : setOf lessP (all2 s t n) = itms s n :=
  rising_same sto_lessP _ _ (rising_setOf sto_lessP _) (itms_rising s n hn) fun z => by rw [mem_setOf sto_lessP, all2_mem]

theorem itms_len (s : Bool) (n : Nat) : (itms s n).length = n := by simp [itms]

theorem itm_kind (s : Bool) (i j : Nat) : (itm s i).kind = (itm s j).kind := by cases s <;> rfl
theorem itms_kind (s : Bool) (n : Nat) : ∀ p ∈ itms s n, ∀ q ∈ itms s n, p.kind = q.kind := by
  intro p hp q hq
  obtain ⟨i, _, rfl⟩ := List.mem_map.1 hp
  obtain ⟨j, _, rfl⟩ := List.mem_map.1 hq
  exact itm_kind s i j
theorem all2_kind (s t : Bool) (n : Nat) : ∀ p ∈ all2 s t n, ∀ q ∈ all2 s t n, p.kind = q.kind := fun p hp q hq => itms_kind s n p ((all2_mem s t n p).1 hp) q ((all2_mem s t n q).1 hq)

theorem itm_chk (s : Bool) (i : Nat) (h : i < 14) : chkP (itm s i) = 0 := by
  cases s
  · rfl
  · have : ∀ i : Fin 14, chkP (itm true i) = 0 := by decide
    exact this ⟨i, h⟩
theorem itms_chk (s : Bool) (n : Nat) (hn : n ≤ 14) : ∀ p ∈ itms s n, chkP p = 0 := by
  intro p hp
  obtain ⟨i, hi, rfl⟩ := List.mem_map.1 hp
  exact itm_chk s i (by have := List.mem_range.1 hi; omega)
theorem itms_small (s : Bool) (n : Nat) : ∀ p ∈ itms s n, smallP p := by
  intro p hp
  obtain ⟨i, hi, rfl⟩ := List.mem_map.1 hp
  cases s
  · trivial
  · show (1 : Nat) ≤ 1099511627776
    omega
end Go.Proofs.Ytppincbcaijcbab
