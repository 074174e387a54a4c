/-
  value.contentOf, cmp.Compare, the contents' compare: what they return of plain values.
  The contents' own compare: what they return of plain values.
  value.compareUids, the uids' compare.
  value.compare of plain values.
-/
import Derived.Test.YthmmplmppchfmaaValW
import Derived.Lib.QuietBelow
import Derived.BigQuiet
import Derived.Deep.QuietTactic
import Derived.Test.YthmmplmppchfmaaVcK
namespace Go.Proofs.Ythmmplmppchfmaa
open Go.RowKit Go.Sort

theorem below1 (w : World) (o : Obj) : Below w.heap.size w (w.alloc o) := (Below.refl _ w).alloc (Nat.le_refl _) o

/-- Below nought, nought, above. -/
def cmpI (a b : Int) : Int := if a < b then -1 else if b < a then 1 else 0

end Go.Proofs.Ythmmplmppchfmaa

namespace Go.Proofs.Ythmmplmppchfmaa
open Go.RowKit Go.Sort

/-- Below nought, nought, above: by the order of plain values. -/
def cmpP (p q : PV) : Int := if lessP p q then -1 else if lessP q p then 1 else 0

/-- .. of texts. -/
def cmpB (a b : List UInt8) : Int := if decide (a < b) then -1 else if decide (b < a) then 1 else 0

theorem cmpB_cases (a b : List UInt8) : (Op.bytesLess (ba a).toList (ba b).toList = true ∧ ((ba a).toList == (ba b).toList) = false ∧ cmpB a b = -1) ∨ (Op.bytesLess (ba a).toList (ba b).toList = false ∧ ((ba a).toList == (ba b).toList) = false ∧ cmpB a b = 1) ∨ (Op.bytesLess (ba a).toList (ba b).toList = false ∧ ((ba a).toList == (ba b).toList) = true ∧ cmpB a b = 0) := by
  rw [bytesLess_eq, ba_list, ba_list]
  unfold cmpB
  rcases bytes_tri a b with h | h | h
  · refine .inl ⟨decide_eq_true h, ?_, if_pos (decide_eq_true h)⟩
    rw [beq_eq_false_iff_ne]
    rintro rfl
    exact bytes_irr _ h
  · subst h
    have h1 : decide (a < a) = false := decide_eq_false (bytes_irr a)
    exact .inr (.inr ⟨h1, by simp, by rw [h1]; rfl⟩)
  · have h1 : decide (a < b) = false := decide_eq_false (fun h2 => bytes_irr _ (bytes_trans h2 h))
    refine .inr (.inl ⟨h1, ?_, by rw [h1, decide_eq_true h]; rfl⟩)
    rw [beq_eq_false_iff_ne]
    rintro rfl
    exact bytes_irr _ h

set_option maxHeartbeats 400000 in
set_option maxRecDepth 100000 in
theorem cmpString_any (a b : List UInt8) (w : World) :
    Calls Try.prog 69 #[.string (ba a), .string (ba b)] w fun e w' => e = .returned (.int .i64 (cmpB a b)) ∧ w' = w := by
  have hs : ((ba a).toList == (ba a).toList) = true := by simp
  have hs' : ((ba b).toList == (ba b).toList) = true := by simp
  rcases cmpB_cases a b with ⟨h1, h2, he⟩ | ⟨h1, h2, he⟩ | ⟨h1, h2, he⟩
  all_goals
    rw [he]
    go_enter Try.func69, Try.ntmps69
    go_wp2
    go_ret
    exact ⟨rfl, rfl⟩

end Go.Proofs.Ythmmplmppchfmaa

namespace Go.Proofs.Ythmmplmppchfmaa
open Go.RowKit Go.Sort

def orI (x y : Int) : Int := if x ≠ 0 then x else y

set_option maxHeartbeats 1000000 in
set_option maxRecDepth 100000 in
theorem cmpOr_two (x y : Int) (b c : Nat) (w : World) (h0 : w.cell? ⟨b, 0, none⟩ = some (.int .i64 x)) (h1 : w.cell? ⟨b, 1, none⟩ = some (.int .i64 y)) :
    Calls Try.prog 68 #[.slice (some ⟨b, 0, none⟩) 2 c] w fun e w' => e = .returned (.int .i64 (orI x y)) ∧ w' = w := by
  by_cases hx : x = 0
  · have e1 : orI x y = y := by simp [orI, hx]
    rw [e1]
    have hxb : (x == 0) = true := by simpa using hx
    subst hx
    clear hxb e1
    by_cases hy : y = 0
    · subst hy
      go_enter Try.func68, Try.ntmps68
      go_wp2
      go_loop [8] (fun i => ∃ j : Nat, j ≤ 2 ∧ i = .int .i64 j) (fun i => 2 - (intOf i).toNat)
      case atStart => exact ⟨0, by omega, rfl⟩
      case round =>
        obtain ⟨j, hj, rfl⟩ := hrel
        match j, hj with
        | 0, _ =>
          go_wp2
          go_round
          case rel => exact ⟨1, by omega, rfl⟩
          case measure => decide
        | 1, _ =>
          go_wp2
          go_round
          case rel => exact ⟨2, by omega, rfl⟩
          case measure => decide
        | 2, _ =>
          go_wp2
          go_ret
          exact ⟨rfl, rfl⟩
    · have hyb : (y == 0) = false := by simpa using hy
      go_enter Try.func68, Try.ntmps68
      go_wp2
      go_loop [8] (fun i => ∃ j : Nat, j ≤ 1 ∧ i = .int .i64 j) (fun i => 2 - (intOf i).toNat)
      case atStart => exact ⟨0, by omega, rfl⟩
      case round =>
        obtain ⟨j, hj, rfl⟩ := hrel
        match j, hj with
        | 0, _ =>
          go_wp2
          go_round
          case rel => exact ⟨1, by omega, rfl⟩
          case measure => decide
        | 1, _ =>
          go_wp2
          go_ret
          exact ⟨rfl, rfl⟩
  · have e1 : orI x y = x := by simp [orI, hx]
    rw [e1]
    have hxb : (x == 0) = false := by simpa using hx
    go_enter Try.func68, Try.ntmps68
    go_wp2
    go_loop [8] (fun i => i = .int .i64 0) (fun _ => 0)
    case atStart => exact rfl
    case round =>
      subst hrel
      go_wp2
      go_ret
      exact ⟨rfl, rfl⟩

theorem cmpUid_or (t i u j : List UInt8) : orI (cmpB t u) (cmpB i j) = cmpP (.uid t i) (.uid u j) := by
  unfold orI cmpP cmpB lessP
  rcases bytes_tri t u with h | h | h
  · have h1 : t ≠ u := by rintro rfl; exact bytes_irr _ h
    have h2 : u ≠ t := h1.symm
    have h3 : ¬ u < t := fun x => bytes_irr _ (bytes_trans h x)
    simp [h, h1]
  · subst h
    have := bytes_irr t
    simp [this]
  · have h1 : u ≠ t := by rintro rfl; exact bytes_irr _ h
    have h2 : t ≠ u := h1.symm
    have h3 : ¬ t < u := fun x => bytes_irr _ (bytes_trans h x)
    simp [h, h1, h2, h3]

set_option maxHeartbeats 4000000 in
set_option maxRecDepth 100000 in
theorem compareUids_any (t i u j : List UInt8) (w : World) :
    Calls Try.prog 44 #[.agg #[.string (ba t), .string (ba i)], .agg #[.string (ba u), .string (ba j)]] w fun e w' => e = .returned (.int .i64 (cmpP (.uid t i) (.uid u j))) ∧ Below w.heap.size w w' := by
  rw [← cmpUid_or]
  go_enter Try.func44, Try.ntmps44
  go_wp2
  refine wp_still_tail 10 (by kernel_rfl) (by kernel_rfl) ?_
  simp only [List.take_succ_cons, List.take_zero, List.drop_succ_cons, List.drop_zero]
  repeat (first | still_step | still_call (cmpString_any _ _ _))
  refine wpStill_nil ?_
  go_wp2_with (go_at_call 68; refine (cmpOr_two (cmpB t u) (cmpB i j) _ _ _ (by simp [World.cell?_alloc_at]) (by simp [World.cell?_alloc_at])).mono ?_; rintro e w' ⟨rfl, rfl⟩)
  go_ret
  refine ⟨rfl, ?_⟩
  exact (below2 w _ _).drew.alloc (by simp; omega) _



end Go.Proofs.Ythmmplmppchfmaa

namespace Go.Proofs.Ythmmplmppchfmaa
open Go.RowKit Go.Sort

theorem cmp_kinds (p q : PV) (h : p.kind ≠ q.kind) : cmpP p q = cmpI p.kind q.kind := by
  cases p <;> cases q <;> first | rfl | exact absurd rfl h

theorem valP_form (p : PV) (lv : Value) : ∃ b n s t i, valP p lv = val7 (p.kind : Int) b n s t i lv := by
  cases p <;> exact ⟨_, _, _, _, _, rfl⟩

theorem less_cmp (p q : PV) : decide (cmpP p q < 0) = lessP p q := by
  unfold cmpP
  cases lessP p q <;> cases lessP q p <;> rfl
theorem same_cmp (p q : PV) : (cmpP p q == 0) = decide (p = q) := by
  unfold cmpP
  rcases sto_lessP.tri p q with h | h | h
  · rw [h, decide_eq_false (by rintro rfl; rw [sto_lessP.irr] at h; cases h)]
    rfl
  · subst h
    rw [sto_lessP.irr, decide_eq_true rfl]
    rfl
  · rw [h, sto_lessP.asym h, decide_eq_false (by rintro rfl; rw [sto_lessP.irr] at h; cases h)]
    rfl
end Go.Proofs.Ythmmplmppchfmaa
