/-
  slices.Insert of one value into a row of the call's own: in the midst.
-/
import Derived.Test.YtgeibceijlaoaaaGreatVcF
import Derived.Test.YtgeibceijlaoaaaGreatVcK
namespace Go.Proofs.YtgeibceijlaoaaaGreat
open Go.RowKit Go.Sort

theorem cell_of_block {w : World} {g : Nat} {cur : Array Value} {t : TypeId} {fz : Nat × Nat} (h : w.heap[g]? = some (.cells cur t fz)) (j : Nat) : w.cell? ⟨g, j, none⟩ = cur[j]? := by
  simp [World.cell?, h]

theorem fz_of_block {w : World} {g : Nat} {cur : Array Value} {t : TypeId} (h : w.heap[g]? = some (.cells cur t (0, 0))) (j : Nat) : w.frozen? ⟨g, j, none⟩ = false := by
  simp [World.frozen?, h]

theorem shape_of_block {w : World} {g : Nat} {cur : Array Value} {t : TypeId} (h : w.heap[g]? = some (.cells cur t (0, 0))) : w.shape? g = some (t, cur.size) := by
  simp [World.shape?, h]

theorem overlaps_no (w : World) (g vb off la ca lb cb : Nat) (cur vs : Array Value) (hne : vb ≠ g) (hg : w.heap[g]? = some (.cells cur 26 (0, 0))) (hv : w.heap[vb]? = some (.cells vs 26 (0, 0))) (hc : cur.size ≠ 0) :
    (callFunc 60 #[.slice (some ⟨vb, 0, none⟩) la ca, .slice (some ⟨g, off, none⟩) lb cb]).run Tryz.prog w = .ok (.value (.bool false)) w := by
  rw [run_callFunc_extern Tryz.func60 (by kernel_rfl) (by kernel_rfl) (by kernel_rfl) (e := Extern.SlicesOverlaps.overlaps #[24, 24] #[4]) (by kernel_rfl),
    Lib.run_overlaps_apart w 24 4 26 Tryz.underlying24 7 (fun w => by kernel_rfl) ⟨vb, 0, none⟩ ⟨g, off, none⟩ la ca lb cb hne _ _ _ _ (shape_of_block hv) (shape_of_block hg) hc (fz_of_block hv 0) (fz_of_block hv _)]
  rfl

set_option maxHeartbeats 4000000 in
set_option maxRecDepth 100000 in
/-- In the midst, where there is room. -/
theorem insert_shift (B g n i cap vb vc : Nat) (cur : Array Value) (vs : List Value) (w : World) (hBg : B ≤ g) (hg : w.heap[g]? = some (.cells cur 26 (0, 0))) (hcm : cap ≤ maxLen) (hcs : cur.size = cap * 7) (hn : n ≤ 1000) (hi : i < n) (hroom : n + 1 ≤ cap)
    (hvl : vs.length = 7) (hvb : vb ≠ g) (hv : w.heap[vb]? = some (.cells vs.toArray 26 (0, 0))) (h1v : ∀ u ∈ vs, u.oneCell' = true) (h1x : ∀ u ∈ cur.toList.take (n * 7), u.oneCell' = true) :
    Calls Tryz.prog 45 #[.slice (some ⟨g, 0, none⟩) n cap, .int .i64 i, .slice (some ⟨vb, 0, none⟩) 1 vc] w fun e w' => ∃ v', e = .returned v' ∧ w'.ownsRow B 26 7 v' (n + 1) (((cur.toList.take (n * 7)).take (i * 7)) ++ vs ++ ((cur.toList.take (n * 7)).drop (i * 7))) ∧ w.grownBy w' (some g) := by
  have hszV : (Tryz.prog.info? 26).map (·.size) = some 7 := by kernel_rfl
  obtain ⟨cs, hcsE⟩ : ∃ cs, cs = (cur.toList.take (n * 7)).drop (i * 7) := ⟨_, rfl⟩
  have hcl : cs.length = (n - i) * 7 := by rw [hcsE, List.length_drop, List.length_take, Array.length_toList]; omega
  have h1c : ∀ u ∈ cs, u.oneCell' = true := fun u hu => h1x u (List.mem_of_mem_drop (by rw [hcsE] at hu; exact hu))
  obtain ⟨row1, hr1⟩ : ∃ row1, row1 = (cur.toList.take ((i + 1) * 7) ++ cs ++ cur.toList.drop ((i + 1) * 7 + cs.length)).toArray := ⟨_, rfl⟩
  obtain ⟨W1, hW1⟩ : ∃ W1, W1 = w.drew.setRow g row1 := ⟨_, rfl⟩
  have hgd : w.drew.heap[g]? = some (.cells cur 26 (0, 0)) := hg
  have cp1 : ∀ ty o1 o2 dl sl dc sc, o1 = (i + 1) * 7 → o2 = i * 7 → Nat.min sl dl = n - i → (Builtin.copy_ #[24, 24] ty #[.slice (some ⟨g, o1, none⟩) dl dc, .slice (some ⟨g, o2, none⟩) sl sc]).run Tryz.prog w.drew = .ok (goInt ((n - i : Nat) : Int).toNat) W1 := by
    intro ty o1 o2 dl sl dc sc e1 e2 e3
    subst e1 e2
    have h := run_copy_k (P := Tryz.prog) w.drew 24 24 ty 26 7 g ((i + 1) * 7) dl dc ⟨g, i * 7, none⟩ sl sc cur 26 cs Tryz.underlying24 hszV hgd (by rw [hcl, e3])
      (fun j v hj => by
        rw [Addr.add_lit, cell_of_block hgd]
        rw [hcsE, List.getElem?_drop, List.getElem?_take] at hj
        split at hj
        · simpa using hj
        · cases hj) (by rw [hcl]; omega) h1c
    rw [h, e3, hW1, hr1]
    rfl
  have hg1 : W1.heap[g]? = some (.cells row1 26 (0, 0)) := by rw [hW1]; exact setRow_heap _ _ _ _ _ _ hgd
  have hv1 : W1.heap[vb]? = some (.cells vs.toArray 26 (0, 0)) := by rw [hW1, setRow_other _ _ _ _ hvb]; exact hv
  have hr1s : row1.size = cap * 7 := by
    rw [hr1]
    simp only [List.size_toArray, List.length_append, List.length_take, List.length_drop, Array.length_toList]
    omega
  obtain ⟨row2, hr2⟩ : ∃ row2, row2 = (row1.toList.take (i * 7) ++ vs ++ row1.toList.drop (i * 7 + vs.length)).toArray := ⟨_, rfl⟩
  obtain ⟨W2, hW2⟩ : ∃ W2, W2 = W1.setRow g row2 := ⟨_, rfl⟩
  have cp2 : ∀ ty o1 dl dc, o1 = i * 7 → 1 ≤ dl → (Builtin.copy_ #[24, 24] ty #[.slice (some ⟨g, o1, none⟩) dl dc, .slice (some ⟨vb, 0, none⟩) 1 vc]).run Tryz.prog W1 = .ok (goInt 1) W2 := by
    intro ty o1 dl dc e1 e3
    subst e1
    have em : Nat.min 1 dl = 1 := Nat.min_eq_left e3
    have h := run_copy_k (P := Tryz.prog) W1 24 24 ty 26 7 g (i * 7) dl dc ⟨vb, 0, none⟩ 1 vc row1 26 vs Tryz.underlying24 hszV hg1 (by rw [hvl, em])
      (fun j v hj => by
        rw [Addr.add_lit, cell_of_block hv1, Nat.zero_add]
        simpa using hj) (by omega) h1v
    rw [h, em, hW2, hr2]
    rfl
  have hfin : W2.ownsRow B 26 7 (.slice (some ⟨g, 0, none⟩) (n + 1) cap) (n + 1) (((cur.toList.take (n * 7)).take (i * 7)) ++ vs ++ ((cur.toList.take (n * 7)).drop (i * 7))) := by
    refine ⟨?_, .inr ⟨g, cap, row2, rfl, hBg, ?_, by omega, hcm, ?_, ?_⟩⟩
    · simp only [List.length_append, List.length_take, List.length_drop, Array.length_toList]
      omega
    · rw [hW2]
      exact setRow_heap _ _ _ _ _ _ hg1
    · rw [hr2]
      simp only [List.size_toArray, List.length_append, List.length_take, List.length_drop, Array.length_toList]
      omega
    · rw [hr2, hr1, ← hcsE, hvl]
      have hc0 : cur.toList.length = cap * 7 := by simpa using hcs
      have e1 : List.take (i * 7) (cur.toList.take ((i + 1) * 7) ++ cs ++ cur.toList.drop ((i + 1) * 7 + cs.length)) = (cur.toList.take (n * 7)).take (i * 7) := by
        rw [List.append_assoc, List.take_append_of_le_length (by rw [List.length_take]; omega), List.take_take, List.take_take]
        congr 1
        omega
      have e2 : List.drop (i * 7 + 7) (cur.toList.take ((i + 1) * 7) ++ cs ++ cur.toList.drop ((i + 1) * 7 + cs.length)) = cs ++ cur.toList.drop ((i + 1) * 7 + cs.length) := by
        rw [List.append_assoc]
        exact List.drop_left' (by rw [List.length_take]; omega)
      simp only [e1, e2]
      rw [← List.append_assoc (List.take (i * 7) (List.take (n * 7) cur.toList) ++ vs)]
      exact List.take_left' (by simp only [List.length_append, List.length_take, hcl, hvl, hc0]; omega)
  have hgro : w.grownBy W2 (some g) := by
    refine ⟨by rw [hW2, hW1]; rfl, by rw [hW2, hW1]; rfl, by rw [hW2, hW1]; rfl, by rw [hW2, hW1]; simp [World.setRow], fun k hk hkg => ?_⟩
    have : k ≠ g := fun e => hkg (by rw [e])
    rw [hW2, setRow_other _ _ _ _ this, hW1, setRow_other _ _ _ _ this]
    rfl
  have cp2' := fun ty => cp2 ty (i * 7) (n + 1 - i) (cap - i) rfl (by omega)
  have HF := hide hfin
  clear hfin hr2 hr1 hW1 hW2 hcsE
  have hov' := fun off la ca lb cb => overlaps_no w g vb off la ca lb cb cur vs.toArray hvb hg hv (by omega)
  have b1 : (i : Int) < (n : Int) := by omega
  have b2 : ¬ ((i : Int) = (n : Int)) := by omega
  have b3 : ¬ ((cap : Int) < (n : Int) + 1) := by omega
  have b4 : ¬ (cap = i) := by omega
  have b5 : ¬ (cap = i + 1) := by omega
  have b6 : (i : Int) ≤ (n : Int) + 1 := by omega
  have b7 : i ≤ n := by omega
  have b8 : i ≤ n + 1 := by omega
  have hw1 : IntKind.i64.wrap ((i : Int) + 1) = (i : Int) + 1 := by rw [IntKind.wrap_i64]; omega
  have hb1 : (0 : Int) ≤ (i : Int) + 1 := by omega
  have htn : ((i : Int) + 1).toNat = i + 1 := by omega
  unfold maxLen at hcm
  go_enter Tryz.func45, Tryz.ntmps45
  go_wp2_with (simp only [hov'])
  refine wp_still_tail 8 (by kernel_rfl) (by kernel_rfl) ?_
  simp only [List.take_succ_cons, List.take_zero, List.drop_succ_cons, List.drop_zero]
  repeat still_step
  refine wpStill_nil ?_
  refine wp_copy_run _ rfl _ _ 24 24 rfl _ _ rfl rfl (cp1 _ _ _ _ _ _ _ ?e1 ?e2 ?e3) ?_
  case e1 => omega
  case e2 => omega
  case e3 => simp only [Nat.min_def]; split <;> omega
  go_wp2_with (at_builtin; refine wp_copy_run _ rfl _ _ 24 24 rfl _ _ rfl rfl (cp2' _) ?_)
  go_wp2
  go_ret
  exact ⟨_, rfl, unhide HF, hgro⟩
end Go.Proofs.YtgeibceijlaoaaaGreat
