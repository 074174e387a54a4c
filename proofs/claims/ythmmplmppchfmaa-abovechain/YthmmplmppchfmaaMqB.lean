/-
  chancellaw9.AboveBelow: the walk.
-/
import Derived.Test.YthmmplmppchfmaaMqKW
import Derived.Test.YthmmplmppchfmaaMpHL
import Derived.Test.YthmmplmppchfmaaMpMN
import Derived.Test.YthmmplmppchfmaaGdG
import Derived.Test.YthmmplmppchfmaaElAO
namespace Go.Proofs.Ythmmplmppchfmaa
open Go.RowKit Go.Sort

theorem within9_any (a n : Int) (hn : 0 < n) (hn1 : n ≤ 4294967296) (w : World) :
    Calls Try.prog 17 #[.int .i64 a, .int .i64 n] w fun e w' => e = .returned (.int .i64 (a % n)) ∧ w' = w := by
  go_enter Try.func17, Try.ntmps17
  go_wp2
  · go_ret
    exact ⟨ret_int5 (tmod_neg a n hn hn1 (by assumption)), rfl⟩
  · go_ret
    exact ⟨ret_int5 (tmod_pos a n hn (by assumption)), rfl⟩
theorem goods_ps (L : List EntR) : ∀ p ∈ goodsL L, p.ps.length ≤ 3 := fun p hp => by
  unfold goodsL aOf at hp
  rcases (mem_fold _ [] p).1 hp with ⟨l, r, e, _⟩ | ⟨h, _⟩
  · have : p ∈ (L.take 12).map goodE := by rw [e]; simp
    obtain ⟨x, _, rfl⟩ := List.mem_map.1 this
    have h1 := lenG_setOf_le (lt := lessU) (entP x).ps
    have h2 : (entP x).ps.length ≤ 3 := by
      show ((x.ps.take 3).map parE).length ≤ 3
      rw [List.length_map, List.length_take]
      omega
    show (setOf lessU (entP x).ps).length ≤ 3
    omega
  · cases h
/-- Good entities, as this law has them. -/
structure GL (ps : List EntP) : Prop where
  nd : (ps.map EntP.u).Nodup
  len : ps.length ≤ 12
  ps : ∀ p ∈ ps, p.ps.length ≤ 3
theorem gl_goods (L : List EntR) : GL (goodsL L) := ⟨rising_nodup (goodsL_rising L), goodsL_len L, goods_ps L⟩
theorem GL.ps1000 {ps : List EntP} (h : GL ps) : ∀ p ∈ ps, p.ps.length ≤ 1000 := fun p hp => by have := h.ps p hp; omega
theorem GL.down {ps : List EntP} (h : GL ps) (y : U2) : (downS (pairsP ps) y).length ≤ 1000 := by
  have h1 := downS_len 3 y (pairsP ps) (fun _ => []) fun q hq => by
    obtain ⟨p, hp, rfl⟩ := List.mem_map.1 hq
    exact h.ps p hp
  have h2 := h.len
  have h3 : (pairsP ps).length = ps.length := by unfold pairsP; rw [List.length_map]
  unfold downS
  simp only [List.length_nil] at h1
  omega
/-- All who are a parent. -/
def parsP (ps : List EntP) : List U2 := ps.flatMap EntP.ps
theorem GL.up {ps : List EntP} (h : GL ps) : ∀ x, ∀ v ∈ upS ps x, v ∈ parsP ps := fun x v hv => by
  obtain ⟨p, hp, _, hm⟩ := (mem_upS h.nd x v).1 hv
  exact List.mem_flatMap.2 ⟨p, hp, hm⟩
theorem flat_len3 : ∀ (ps : List EntP), (∀ p ∈ ps, p.ps.length ≤ 3) → (parsP ps).length ≤ ps.length * 3
  | [], _ => Nat.le_refl _
  | p :: ps, h => by
    have h1 := h p List.mem_cons_self
    have h2 := flat_len3 ps fun q hq => h q (List.mem_cons_of_mem _ hq)
    unfold parsP at h2 ⊢
    rw [List.flatMap_cons, List.length_append, List.length_cons]
    omega
theorem GL.pars {ps : List EntP} (h : GL ps) : (parsP ps).length ≤ 99999 := by
  have := flat_len3 ps h.ps
  have := h.len
  omega
/-- Who stands in what Below tells. -/
theorem GL.mem_bel {ps : List EntP} (h : GL ps) {es : List E4} {u : U2} {m : List U2} (hI : ReachI (downS (pairsP ps)) [u] (m, [])) (i : Nat) (hi : i < es.length) : e4uM es[i] ∈ belP u m es ↔ e4uM es[i] ≠ u ∧ Way (upS ps) (e4uM es[i]) u := by
  unfold belP
  rw [List.mem_filter, Bool.and_eq_true, decide_eq_true_eq, decide_eq_true_eq, reachI_end hI]
  have e1 : (∃ f ∈ [u], Way (downS (pairsP ps)) f (e4uM es[i])) ↔ Way (upS ps) (e4uM es[i]) u := by
    rw [← way_down h.nd]
    simp
  rw [e1]
  exact ⟨fun h => h.2, fun h => ⟨List.mem_map_of_mem (List.getElem_mem hi), h⟩⟩
theorem take_mem {l : List U2} {x : U2} (k : Nat) (h : k < l.length) : decide (x ∈ l.take (k + 1)) = (decide (x ∈ l.take k) || decide (l[k] = x)) := by
  rw [List.take_succ_eq_append_getElem h, Bool.eq_iff_iff, Bool.or_eq_true, decide_eq_true_eq, decide_eq_true_eq, decide_eq_true_eq, List.mem_append, List.mem_singleton]
  exact ⟨fun h => h.imp id Eq.symm, fun h => h.imp id Eq.symm⟩

end Go.Proofs.Ythmmplmppchfmaa
