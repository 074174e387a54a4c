/-
  ents.copyList of uids, attributes, values: what it returns.
-/
import Derived.Test.YtfnfdpkndkcmbaaEcA
import Derived.Test.YtfnfdpkndkcmbaaVcAD
namespace Go.Proofs.Ytfnfdpkndkcmbaa
open Go.RowKit Go.Sort

/-- A copy of a whole row into one as long, that was made for it. -/
theorem copy_rowN {P : Program} (w : World) (g n : Nat) (l : List (List Value)) (ao : Option Addr) (cap L : Nat) (rest : List Value) (dT ty elem T : TypeId) (hu : P.underlying dT = some (.slice elem)) (hs : (P.info? elem).map (·.size) = some n) (hL : L = l.length) (h0 : 0 < l.length) (hn : ∀ c ∈ l, c.length = n) (h1 : ∀ v ∈ l.flatten, v.oneCell' = true) (hr : rest.length = L * n) (hg : w.heap[g]? = some (.cells rest.toArray T (0, 0))) (h : RowG w ao n l) :
    ∃ w', (Builtin.copy_ #[dT, dT] ty #[.slice (some ⟨g, 0, none⟩) L L, .slice ao L cap]).run P w = .ok (.int .i64 L) w' ∧ w'.heap[g]? = some (.cells l.flatten.toArray T (0, 0)) ∧ (∀ B w0, Below B w0 w → B ≤ g → Below B w0 w') ∧ w'.heap.size = w.heap.size := by
  obtain ⟨b, off, rfl, _, _⟩ := h 0 h0
  have hfl := flatG_len l hn
  have := run_copy_rowN (P := P) w dT dT ty elem n L g 0 L L ⟨b, off, none⟩ L cap rest.toArray T l.flatten hu hs hg (Nat.min_self _).symm (by rw [hfl, hL]) (row_flat hn h) (by rw [hfl]; simp [hr, hL]) h1
  refine ⟨_, this, ?_, fun B w0 hb hB => hb.trans ⟨rfl, rfl, rfl, by simp [World.setRow], fun k hk => setRow_other w g k _ (by omega)⟩, by simp [World.setRow]⟩
  rw [setRow_heap w g _ _ T _ hg]
  simp [hfl, hr, hL]

theorem szUid : (Try.prog.info? 28).map (·.size) = some 2 := by kernel_rfl
theorem inUid : (Try.prog.info? 28).map (fun i => (i.zero.isSome, i.size, i.bytes)) = some (true, 2, 32) := by kernel_rfl
theorem szAttr : (Try.prog.info? 50).map (·.size) = some 8 := by kernel_rfl
theorem inAttr : (Try.prog.info? 50).map (fun i => (i.zero.isSome, i.size, i.bytes)) = some (true, 8, 112) := by kernel_rfl
theorem szValue : (Try.prog.info? 48).map (·.size) = some 7 := by kernel_rfl
theorem inValue : (Try.prog.info? 48).map (fun i => (i.zero.isSome, i.size, i.bytes)) = some (true, 7, 96) := by kernel_rfl
end Go.Proofs.Ytfnfdpkndkcmbaa
