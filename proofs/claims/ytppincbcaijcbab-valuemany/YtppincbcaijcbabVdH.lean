/-
  A set that was made of plain values such as may be may be.
-/
import Derived.Test.YtppincbcaijcbabVdG
import Derived.Test.YtppincbcaijcbabVdE
import Derived.Test.YtppincbcaijcbabVcM
namespace Go.Proofs.Ytppincbcaijcbab
open Go.RowKit Go.Sort

theorem toP_ofP (p : PV) : toP (ofP p) = p := by cases p <;> rfl

theorem mayB_same (p : PV) (k0 : Int) (h : (p.kind : Int) = k0) : mayB (ofP p).k k0 = true := by
  rw [ofP_k, ← h]
  cases p <;> simp [mayB, PV.kind]

theorem chkFrom_ok (k0 : Int) : ∀ (S : List PV) (prev : Option PV), (∀ p ∈ S, (p.kind : Int) = k0 ∧ chkP p = 0) → Rising lessP S → (∀ p q, prev = some p → S.head? = some q → lessP p q = true) → chkFrom k0 (prev.map ofP) (S.map ofP) = 0
  | [], prev, _, _, _ => by cases prev <;> rfl
  | q :: S, prev, h1, h2, h3 => by
    have hq := h1 q (by simp)
    have h2' := List.pairwise_cons.1 h2
    rw [List.map_cons, chkFrom_cons, if_neg (by rw [mayB_same q k0 hq.1]; decide), chkFlat_ofP, if_neg (fun hn => hn hq.2), if_neg]
    · refine chkFrom_ok k0 S (some q) (fun p hp => h1 p (List.mem_cons_of_mem _ hp)) h2'.2 (fun p r hp hr => ?_)
      cases hp
      exact h2'.1 r (List.mem_of_mem_head? hr)
    · cases prev with
      | none => exact fun h => by cases h
      | some p =>
        have := h3 p q rfl rfl
        simp [prevOk, lessR, toP_ofP, this]

theorem chkEls_ok (S : List PV) (h8 : S.length ≤ 8) (hk : ∀ p ∈ S, ∀ q ∈ S, p.kind = q.kind) (hc : ∀ p ∈ S, chkP p = 0) (hr : Rising lessP S) : chkEls (S.map ofP) = 0 := by
  unfold chkEls
  rw [List.length_map, if_neg (by omega)]
  cases S with
  | nil => rfl
  | cons q S =>
    show chkFrom (ofP q).k none ((q :: S).map ofP) = 0
    refine chkFrom_ok _ (q :: S) none (fun p hp => ⟨?_, hc p hp⟩) hr (fun p _ h => by cases h)
    rw [ofP_k, hk p hp q (by simp)]

theorem more_set (ao : Option Addr) (n c : Nat) : moreB (setR ao n c) = false := by
  unfold moreB
  rw [decide_eq_false_iff_not, Classical.not_not]
  exact ⟨rfl, rfl, rfl, rfl, rfl, rfl⟩

theorem small_ofP (p : PV) (h : smallP p) : smallR (ofP p) := by
  have h0 : (ba []).size ≤ 1099511627776 := by decide
  cases p with
  | bool b => exact ⟨h0, h0, h0⟩
  | long n => exact ⟨h0, h0, h0⟩
  | str s => exact ⟨by rw [Lib.size_eq]; exact h, h0, h0⟩
  | uid t i => exact ⟨h0, by rw [Lib.size_eq]; exact h.1, by rw [Lib.size_eq]; exact h.2⟩

/-- Check of a set that was made. -/
theorem vcheck_made (S : List PV) (ao : Option Addr) (c : Nat) (w : World) (h8 : S.length ≤ 8) (hk : ∀ p ∈ S, ∀ q ∈ S, p.kind = q.kind) (hc : ∀ p ∈ S, chkP p = 0) (hs : ∀ p ∈ S, smallP p) (hr : Rising lessP S) (hrow : RowV w ao (S.map ofP)) :
    Calls Try.prog 8 #[(setR ao S.length c).val] w fun e w' => e = .returned (.int .i64 0) ∧ Below w.heap.size w w' := by
  have h := vcheck_set (setR ao S.length c) (S.map ofP) w rfl (by rw [List.length_map]; rfl) (by rw [List.length_map]; omega) hrow (fun e he => by
    obtain ⟨p, hp, rfl⟩ := List.mem_map.1 he
    exact small_ofP p (hs p hp))
  rw [chkSet, more_set, chkEls_ok S h8 hk hc hr] at h
  exact h
end Go.Proofs.Ytppincbcaijcbab
