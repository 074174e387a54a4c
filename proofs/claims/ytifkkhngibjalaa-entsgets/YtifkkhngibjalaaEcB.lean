/-
  ents.copyList of uids, attributes, values: what it returns.
-/
import Derived.Test.YtifkkhngibjalaaEcA
import Derived.Test.YtifkkhngibjalaaVcA
namespace Go.Proofs.Ytifkkhngibjalaa
open Go.RowKit Go.Sort

/-- A copy of a whole row into one as long, that was made for it. -/
theorem copy_rowN {P : Program} (w : World) (g n : Nat) (l : List (List Value)) (ao : Option Addr) (cap L : Nat) (rest : List Value) (dT ty elem T : TypeId) (hu : P.underlying dT = some (.slice elem)) (hs : (P.info? elem).map (·.size) = some n) (hL : L = l.length) (h0 : 0 < l.length) (hn : ∀ c ∈ l, c.length = n) (h1 : ∀ v ∈ l.flatten, v.oneCell' = true) (hr : rest.length = L * n) (hg : w.heap[g]? = some (.cells rest.toArray T (0, 0))) (h : RowG w ao n l) :
    ∃ w', (Builtin.copy_ #[dT, dT] ty #[.slice (some ⟨g, 0, none⟩) L L, .slice ao L cap]).run P w = .ok (.int .i64 L) w' ∧ w'.heap[g]? = some (.cells l.flatten.toArray T (0, 0)) ∧ (∀ B w0, Below B w0 w → B ≤ g → Below B w0 w') ∧ w'.heap.size = w.heap.size := by
  obtain ⟨b, off, rfl, _, _⟩ := h 0 h0
  have hfl := flatG_len l hn
  have := run_copy_rowN (P := P) w dT dT ty elem n L g 0 L L ⟨b, off, none⟩ L cap rest.toArray T l.flatten hu hs hg (Nat.min_self _).symm (by rw [hfl, hL]) (row_flat hn h) (by rw [hfl]; simp [hr, hL]) h1
  refine ⟨_, this, ?_, fun B w0 hb hB => hb.trans ⟨rfl, rfl, rfl, by simp [World.setRow], fun k hk => setRow_other w g k _ (by omega)⟩, by simp [World.setRow]⟩
  rw [setRow_heap w g _ _ T _ hg]
  simp [hfl, hr, hL]

theorem szUid : (Try.prog.info? 30).map (·.size) = some 2 := by kernel_rfl
theorem inUid : (Try.prog.info? 30).map (fun i => (i.zero.isSome, i.size, i.bytes)) = some (true, 2, 32) := by kernel_rfl
set_option maxHeartbeats 2000000 in
set_option maxRecDepth 1000000 in
theorem listUid_any (l : List U2) (ao : Option Addr) (cap : Nat) (w : World) (hl : l.length ≤ 1048576) (hr : RowG w ao 2 (l.map U2.cells)) :
    Calls Try.prog 41 #[.slice ao l.length cap] w fun e w' => ∃ ao', e = .returned (.slice ao' l.length l.length) ∧ Below w.heap.size w w' ∧ OwnR w' w.heap.size 30 ao' (l.map U2.cells) := by
  by_cases h0 : l.length = 0
  · obtain rfl : l = [] := List.eq_nil_of_length_eq_zero h0
    clear h0 hr hl
    go_enter Try.func41, Try.ntmps41
    go_wp2
    go_ret
    exact ⟨none, rfl, Below.refl _ _, .inl ⟨rfl, rfl⟩⟩
  · obtain ⟨L, hL⟩ : ∃ L : Nat, L = l.length := ⟨_, rfl⟩
    obtain ⟨rest, hre, hmk⟩ := make_rowN (P := Try.prog) 31 30 2 32 L (L : Int) Try.underlying31 inUid rfl (by omega) (by decide)
    have b1 := below1 w (.cells rest.toArray 30)
    obtain ⟨w2, hcp, h2, k2, _⟩ := copy_rowN (P := Try.prog) (w.alloc (.cells rest.toArray 30)) w.heap.size 2 (l.map U2.cells) ao cap L rest 31 3 30 30 Try.underlying31 szUid (by rw [hL]; simp) (by simp; omega) (lenU l) (oneU l) hre (alloc_heap _ _) (hr.below b1)
    have hb2 := k2 _ _ b1 (Nat.le_refl _)
    have i0 : ((L : Int) == 0) = false := by
      have : ¬ (L : Int) = 0 := by omega
      simpa using this
    have hne : l.map U2.cells ≠ [] := fun h => h0 (by simpa using congrArg List.length h)
    have HL := hide hL
    rw [← hL]
    clear hL h0 hr hl hre k2
    go_enter Try.func41, Try.ntmps41
    go_wp2
    go_ret
    exact ⟨_, rfl, hb2, .inr ⟨hne, w.heap.size, Nat.le_refl _, rfl, h2⟩⟩

theorem szAttr : (Try.prog.info? 41).map (·.size) = some 8 := by kernel_rfl
theorem inAttr : (Try.prog.info? 41).map (fun i => (i.zero.isSome, i.size, i.bytes)) = some (true, 8, 112) := by kernel_rfl
set_option maxHeartbeats 2000000 in
set_option maxRecDepth 1000000 in
theorem listAttr_any (l : List A8) (ao : Option Addr) (cap : Nat) (w : World) (hl : l.length ≤ 1048576) (hr : RowG w ao 8 (l.map A8.cells)) :
    Calls Try.prog 42 #[.slice ao l.length cap] w fun e w' => ∃ ao', e = .returned (.slice ao' l.length l.length) ∧ Below w.heap.size w w' ∧ OwnR w' w.heap.size 41 ao' (l.map A8.cells) := by
  by_cases h0 : l.length = 0
  · obtain rfl : l = [] := List.eq_nil_of_length_eq_zero h0
    clear h0 hr hl
    go_enter Try.func42, Try.ntmps42
    go_wp2
    go_ret
    exact ⟨none, rfl, Below.refl _ _, .inl ⟨rfl, rfl⟩⟩
  · obtain ⟨L, hL⟩ : ∃ L : Nat, L = l.length := ⟨_, rfl⟩
    obtain ⟨rest, hre, hmk⟩ := make_rowN (P := Try.prog) 32 41 8 112 L (L : Int) Try.underlying32 inAttr rfl (by omega) (by decide)
    have b1 := below1 w (.cells rest.toArray 41)
    obtain ⟨w2, hcp, h2, k2, _⟩ := copy_rowN (P := Try.prog) (w.alloc (.cells rest.toArray 41)) w.heap.size 8 (l.map A8.cells) ao cap L rest 32 3 41 41 Try.underlying32 szAttr (by rw [hL]; simp) (by simp; omega) (lenA l) (oneA l) hre (alloc_heap _ _) (hr.below b1)
    have hb2 := k2 _ _ b1 (Nat.le_refl _)
    have i0 : ((L : Int) == 0) = false := by
      have : ¬ (L : Int) = 0 := by omega
      simpa using this
    have hne : l.map A8.cells ≠ [] := fun h => h0 (by simpa using congrArg List.length h)
    have HL := hide hL
    rw [← hL]
    clear hL h0 hr hl hre k2
    go_enter Try.func42, Try.ntmps42
    go_wp2
    go_ret
    exact ⟨_, rfl, hb2, .inr ⟨hne, w.heap.size, Nat.le_refl _, rfl, h2⟩⟩

theorem szValue : (Try.prog.info? 38).map (·.size) = some 7 := by kernel_rfl
theorem inValue : (Try.prog.info? 38).map (fun i => (i.zero.isSome, i.size, i.bytes)) = some (true, 7, 96) := by kernel_rfl
set_option maxHeartbeats 2000000 in
set_option maxRecDepth 1000000 in
theorem listValue_any (l : List R7) (ao : Option Addr) (cap : Nat) (w : World) (hl : l.length ≤ 1048576) (hr : RowG w ao 7 (l.map R7.cells)) :
    Calls Try.prog 37 #[.slice ao l.length cap] w fun e w' => ∃ ao', e = .returned (.slice ao' l.length l.length) ∧ Below w.heap.size w w' ∧ OwnR w' w.heap.size 38 ao' (l.map R7.cells) := by
  by_cases h0 : l.length = 0
  · obtain rfl : l = [] := List.eq_nil_of_length_eq_zero h0
    clear h0 hr hl
    go_enter Try.func37, Try.ntmps37
    go_wp2
    go_ret
    exact ⟨none, rfl, Below.refl _ _, .inl ⟨rfl, rfl⟩⟩
  · obtain ⟨L, hL⟩ : ∃ L : Nat, L = l.length := ⟨_, rfl⟩
    obtain ⟨rest, hre, hmk⟩ := make_rowN (P := Try.prog) 36 38 7 96 L (L : Int) Try.underlying36 inValue rfl (by omega) (by decide)
    have b1 := below1 w (.cells rest.toArray 38)
    obtain ⟨w2, hcp, h2, k2, _⟩ := copy_rowN (P := Try.prog) (w.alloc (.cells rest.toArray 38)) w.heap.size 7 (l.map R7.cells) ao cap L rest 36 3 38 38 Try.underlying36 szValue (by rw [hL]; simp) (by simp; omega) (lenV l) (oneV l) hre (alloc_heap _ _) (hr.below b1)
    have hb2 := k2 _ _ b1 (Nat.le_refl _)
    have i0 : ((L : Int) == 0) = false := by
      have : ¬ (L : Int) = 0 := by omega
      simpa using this
    have hne : l.map R7.cells ≠ [] := fun h => h0 (by simpa using congrArg List.length h)
    have HL := hide hL
    rw [← hL]
    clear hL h0 hr hl hre k2
    go_enter Try.func37, Try.ntmps37
    go_wp2
    go_ret
    exact ⟨_, rfl, hb2, .inr ⟨hne, w.heap.size, Nat.le_refl _, rfl, h2⟩⟩
end Go.Proofs.Ytifkkhngibjalaa
