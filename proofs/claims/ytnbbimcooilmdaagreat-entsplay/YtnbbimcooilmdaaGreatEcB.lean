/-
  ents.copyList of uids, attributes, values: what it returns.
-/
import Derived.Test.YtnbbimcooilmdaaGreatEcA
import Derived.Test.YtnbbimcooilmdaaGreatVcA
namespace Go.Proofs.YtnbbimcooilmdaaGreat
open Go.RowKit Go.Sort

/-- A copy of a whole row into one as long, that was made for it. -/
theorem copy_rowN {P : Program} (w : World) (g n : Nat) (l : List (List Value)) (ao : Option Addr) (cap L : Nat) (rest : List Value) (dT ty elem T : TypeId) (hu : P.underlying dT = some (.slice elem)) (hs : (P.info? elem).map (·.size) = some n) (hL : L = l.length) (h0 : 0 < l.length) (hn : ∀ c ∈ l, c.length = n) (h1 : ∀ v ∈ l.flatten, v.oneCell' = true) (hr : rest.length = L * n) (hg : w.heap[g]? = some (.cells rest.toArray T (0, 0))) (h : RowG w ao n l) :
    ∃ w', (Builtin.copy_ #[dT, dT] ty #[.slice (some ⟨g, 0, none⟩) L L, .slice ao L cap]).run P w = .ok (.int .i64 L) w' ∧ w'.heap[g]? = some (.cells l.flatten.toArray T (0, 0)) ∧ (∀ B w0, Below B w0 w → B ≤ g → Below B w0 w') ∧ w'.heap.size = w.heap.size := by
  obtain ⟨b, off, rfl, _, _⟩ := h 0 h0
  have hfl := flatG_len l hn
  have := run_copy_rowN (P := P) w dT dT ty elem n L g 0 L L ⟨b, off, none⟩ L cap rest.toArray T l.flatten hu hs hg (Nat.min_self _).symm (by rw [hfl, hL]) (row_flat hn h) (by rw [hfl]; simp [hr, hL]) h1
  refine ⟨_, this, ?_, fun B w0 hb hB => hb.trans ⟨rfl, rfl, rfl, by simp [World.setRow], fun k hk => setRow_other w g k _ (by omega)⟩, by simp [World.setRow]⟩
  rw [setRow_heap w g _ _ T _ hg]
  simp [hfl, hr, hL]

theorem szUid : (Tryz.prog.info? 25).map (·.size) = some 2 := by kernel_rfl
theorem inUid : (Tryz.prog.info? 25).map (fun i => (i.zero.isSome, i.size, i.bytes)) = some (true, 2, 32) := by kernel_rfl
set_option maxHeartbeats 2000000 in
set_option maxRecDepth 1000000 in
theorem listUid_any (l : List U2) (ao : Option Addr) (cap : Nat) (w : World) (hl : l.length ≤ 1048576) (hr : RowG w ao 2 (l.map U2.cells)) :
    Calls Tryz.prog 53 #[.slice ao l.length cap] w fun e w' => ∃ ao', e = .returned (.slice ao' l.length l.length) ∧ Below w.heap.size w w' ∧ OwnR w' w.heap.size 25 ao' (l.map U2.cells) := by
  by_cases h0 : l.length = 0
  · obtain rfl : l = [] := List.eq_nil_of_length_eq_zero h0
    clear h0 hr hl
    go_enter Tryz.func53, Tryz.ntmps53
    go_wp2
    go_ret
    exact ⟨none, rfl, Below.refl _ _, .inl ⟨rfl, rfl⟩⟩
  · obtain ⟨L, hL⟩ : ∃ L : Nat, L = l.length := ⟨_, rfl⟩
    obtain ⟨rest, hre, hmk⟩ := make_rowN (P := Tryz.prog) 26 25 2 32 L (L : Int) Tryz.underlying26 inUid rfl (by omega) (by decide)
    have b1 := below1 w (.cells rest.toArray 25)
    obtain ⟨w2, hcp, h2, k2, _⟩ := copy_rowN (P := Tryz.prog) (w.alloc (.cells rest.toArray 25)) w.heap.size 2 (l.map U2.cells) ao cap L rest 26 3 25 25 Tryz.underlying26 szUid (by rw [hL]; simp) (by simp; omega) (lenU l) (oneU l) hre (alloc_heap _ _) (hr.below b1)
    have hb2 := k2 _ _ b1 (Nat.le_refl _)
    have i0 : ((L : Int) == 0) = false := by
      have : ¬ (L : Int) = 0 := by omega
      simpa using this
    have hne : l.map U2.cells ≠ [] := fun h => h0 (by simpa using congrArg List.length h)
    have HL := hide hL
    rw [← hL]
    clear hL h0 hr hl hre k2
    go_enter Tryz.func53, Tryz.ntmps53
    go_wp2
    go_ret
    exact ⟨_, rfl, hb2, .inr ⟨hne, w.heap.size, Nat.le_refl _, rfl, h2⟩⟩

theorem szAttr : (Tryz.prog.info? 56).map (·.size) = some 8 := by kernel_rfl
theorem inAttr : (Tryz.prog.info? 56).map (fun i => (i.zero.isSome, i.size, i.bytes)) = some (true, 8, 112) := by kernel_rfl
set_option maxHeartbeats 2000000 in
set_option maxRecDepth 1000000 in
theorem listAttr_any (l : List A8) (ao : Option Addr) (cap : Nat) (w : World) (hl : l.length ≤ 1048576) (hr : RowG w ao 8 (l.map A8.cells)) :
    Calls Tryz.prog 54 #[.slice ao l.length cap] w fun e w' => ∃ ao', e = .returned (.slice ao' l.length l.length) ∧ Below w.heap.size w w' ∧ OwnR w' w.heap.size 56 ao' (l.map A8.cells) := by
  by_cases h0 : l.length = 0
  · obtain rfl : l = [] := List.eq_nil_of_length_eq_zero h0
    clear h0 hr hl
    go_enter Tryz.func54, Tryz.ntmps54
    go_wp2
    go_ret
    exact ⟨none, rfl, Below.refl _ _, .inl ⟨rfl, rfl⟩⟩
  · obtain ⟨L, hL⟩ : ∃ L : Nat, L = l.length := ⟨_, rfl⟩
    obtain ⟨rest, hre, hmk⟩ := make_rowN (P := Tryz.prog) 27 56 8 112 L (L : Int) Tryz.underlying27 inAttr rfl (by omega) (by decide)
    have b1 := below1 w (.cells rest.toArray 56)
    obtain ⟨w2, hcp, h2, k2, _⟩ := copy_rowN (P := Tryz.prog) (w.alloc (.cells rest.toArray 56)) w.heap.size 8 (l.map A8.cells) ao cap L rest 27 3 56 56 Tryz.underlying27 szAttr (by rw [hL]; simp) (by simp; omega) (lenA l) (oneA l) hre (alloc_heap _ _) (hr.below b1)
    have hb2 := k2 _ _ b1 (Nat.le_refl _)
    have i0 : ((L : Int) == 0) = false := by
      have : ¬ (L : Int) = 0 := by omega
      simpa using this
    have hne : l.map A8.cells ≠ [] := fun h => h0 (by simpa using congrArg List.length h)
    have HL := hide hL
    rw [← hL]
    clear hL h0 hr hl hre k2
    go_enter Tryz.func54, Tryz.ntmps54
    go_wp2
    go_ret
    exact ⟨_, rfl, hb2, .inr ⟨hne, w.heap.size, Nat.le_refl _, rfl, h2⟩⟩

theorem szValue : (Tryz.prog.info? 52).map (·.size) = some 7 := by kernel_rfl
theorem inValue : (Tryz.prog.info? 52).map (fun i => (i.zero.isSome, i.size, i.bytes)) = some (true, 7, 96) := by kernel_rfl
set_option maxHeartbeats 2000000 in
set_option maxRecDepth 1000000 in
theorem listValue_any (l : List R7) (ao : Option Addr) (cap : Nat) (w : World) (hl : l.length ≤ 1048576) (hr : RowG w ao 7 (l.map R7.cells)) :
    Calls Tryz.prog 56 #[.slice ao l.length cap] w fun e w' => ∃ ao', e = .returned (.slice ao' l.length l.length) ∧ Below w.heap.size w w' ∧ OwnR w' w.heap.size 52 ao' (l.map R7.cells) := by
  by_cases h0 : l.length = 0
  · obtain rfl : l = [] := List.eq_nil_of_length_eq_zero h0
    clear h0 hr hl
    go_enter Tryz.func56, Tryz.ntmps56
    go_wp2
    go_ret
    exact ⟨none, rfl, Below.refl _ _, .inl ⟨rfl, rfl⟩⟩
  · obtain ⟨L, hL⟩ : ∃ L : Nat, L = l.length := ⟨_, rfl⟩
    obtain ⟨rest, hre, hmk⟩ := make_rowN (P := Tryz.prog) 50 52 7 96 L (L : Int) Tryz.underlying50 inValue rfl (by omega) (by decide)
    have b1 := below1 w (.cells rest.toArray 52)
    obtain ⟨w2, hcp, h2, k2, _⟩ := copy_rowN (P := Tryz.prog) (w.alloc (.cells rest.toArray 52)) w.heap.size 7 (l.map R7.cells) ao cap L rest 50 3 52 52 Tryz.underlying50 szValue (by rw [hL]; simp) (by simp; omega) (lenV l) (oneV l) hre (alloc_heap _ _) (hr.below b1)
    have hb2 := k2 _ _ b1 (Nat.le_refl _)
    have i0 : ((L : Int) == 0) = false := by
      have : ¬ (L : Int) = 0 := by omega
      simpa using this
    have hne : l.map R7.cells ≠ [] := fun h => h0 (by simpa using congrArg List.length h)
    have HL := hide hL
    rw [← hL]
    clear hL h0 hr hl hre k2
    go_enter Tryz.func56, Tryz.ntmps56
    go_wp2
    go_ret
    exact ⟨_, rfl, hb2, .inr ⟨hne, w.heap.size, Nat.le_refl _, rfl, h2⟩⟩
end Go.Proofs.YtnbbimcooilmdaaGreat
