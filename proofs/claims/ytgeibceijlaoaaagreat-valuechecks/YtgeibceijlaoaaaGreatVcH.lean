/-
  slices.Insert of one value into a row of the call's own: in the midst, where there is no room; and all roads together.
-/
import Derived.Test.YtgeibceijlaoaaaGreatVcG
namespace Go.Proofs.YtgeibceijlaoaaaGreat
open Go.RowKit Go.Sort

theorem zero_size (z : Array Value) (k : Nat) : (Builtin.zeroCells z k).size = k * z.size := by simp [Builtin.zeroCells]

theorem wp_append_eq {P : Program} (w : World) {ops : Array Oper} {rest : List Oper} {o : Oper} {a : Act} {Q : Exit → Act → World → Prop} (hgd : o.guard = none) (d s : Operand) (t t' : TypeId)
    (ho : o.op = .call { callee := .builtin .append, args := #[d, s], argTypes := #[t, t'] }) (v u : Value) (hd : a.eval d = v) (hs : a.eval s = u) {v' : Value} {w' : World}
    (hr : (Builtin.append_ #[t, t'] o.type #[v, u]).run P w = .ok v' w') (h : wpList P ops Q rest (a.put o.dst v') w') : wpList P ops Q (o :: rest) a w :=
  wpList_plain hgd fun K hK => by
    unfold Oper.wp execOp
    simp only [ho, resolve, invoke, builtin, Sem.run_bind, Sem.run_pure, Result.andThen_ok, List.map_toArray, List.map_cons, List.map_nil, hd, hs, hr]
    exact hK _ _ h

set_option maxHeartbeats 4000000 in
set_option maxRecDepth 100000 in
/-- In the midst, where there is no room. -/
theorem insert_grow (B g n i vb vc : Nat) (cur : Array Value) (vs : List Value) (w : World) (hBw : B ≤ w.heap.size) (hg : w.heap[g]? = some (.cells cur 26 (0, 0))) (hcs : cur.size = n * 7) (hn : n ≤ 1000) (hi : i < n)
    (hvl : vs.length = 7) (hv : w.heap[vb]? = some (.cells vs.toArray 26 (0, 0))) (h1v : ∀ u ∈ vs, u.oneCell' = true) (h1x : ∀ u ∈ cur.toList.take (n * 7), u.oneCell' = true) :
    Calls Tryz.prog 45 #[.slice (some ⟨g, 0, none⟩) n n, .int .i64 i, .slice (some ⟨vb, 0, none⟩) 1 vc] w fun e w' => ∃ v', e = .returned v' ∧ w'.ownsRow B 26 7 v' (n + 1) (((cur.toList.take (n * 7)).take (i * 7)) ++ vs ++ ((cur.toList.take (n * 7)).drop (i * 7))) ∧ w.grownBy w' (some g) := by
  obtain ⟨i0, hi0, hz0, hz1, hz2⟩ := info_parts infoValue
  have hszV : (Tryz.prog.info? 26).map (·.size) = some 7 := by kernel_rfl
  have hgl : g < w.heap.size := (Array.getElem?_eq_some_iff.1 hg).1
  have hvbl : vb < w.heap.size := (Array.getElem?_eq_some_iff.1 hv).1
  have hc0 : cur.toList.length = n * 7 := by simpa using hcs
  obtain ⟨olds, hol⟩ : ∃ olds, olds = (cur.toList.take (n * 7)).take (i * 7) := ⟨_, rfl⟩
  have holl : olds.length = i * 7 := by rw [hol, List.length_take, List.length_take]; omega
  have hold : (Builtin.firstCells i0.size i (.slice (some ⟨g, 0, none⟩) i n)).run Tryz.prog w.drew = .ok olds.toArray w.drew := by
    rw [hz1]
    have h := run_loadCells_list (P := Tryz.prog) w.drew ⟨g, 0, none⟩ olds (fun j v hj => by
      rw [Addr.add_lit, Nat.zero_add]
      show w.cell? _ = _
      rw [cell_of_block hg]
      rw [hol, List.getElem?_take] at hj
      split at hj
      · rw [List.getElem?_take] at hj
        split at hj
        · simpa using hj
        · cases hj
      · cases hj)
    rw [holl] at h
    simpa [Builtin.firstCells] using h
  have hik : i + (n + 1 - i) = n + 1 := by omega
  have hap := Lib.run_append_grow_zeros (P := Tryz.prog) w 24 3 24 26 i0 _ .i64 .i64 Tryz.underlying24 Tryz.underlying3 hi0 hz0 (some ⟨g, 0, none⟩) i n olds hold (n + 1 - i) (by omega) (by omega) (by omega) (by omega) (by rw [hz2]; omega) (by rw [hz2, hik]; exact growslice_fits (by omega) (by omega))
  rw [hik] at hap
  obtain ⟨G, hG⟩ : ∃ G, G = grownCap w (n + 1) n 26 := ⟨_, rfl⟩
  have hGge : n + 1 ≤ G := by rw [hG]; exact grownCap_ge _ _ _ _
  have hGle : G ≤ maxLen := by rw [hG]; exact grownCap_le_maxLen _ _ _ _ (by unfold maxLen; omega)
  rw [← hG] at hap
  clear hG
  obtain ⟨ROW, hROW⟩ : ∃ ROW : Array Value, ROW = olds.toArray ++ Builtin.zeroCells (Value.agg #[.int .i64 0, .bool false, .int .i64 0, .string ⟨#[]⟩, .string ⟨#[]⟩, .string ⟨#[]⟩, .slice none 0 0]).cells (n + 1 - i) ++ Builtin.zeroCells (Value.agg #[.int .i64 0, .bool false, .int .i64 0, .string ⟨#[]⟩, .string ⟨#[]⟩, .string ⟨#[]⟩, .slice none 0 0]).cells (G - (n + 1)) := ⟨_, rfl⟩
  rw [← hROW] at hap
  have hz7 : (Value.agg #[.int .i64 0, .bool false, .int .i64 0, .string ⟨#[]⟩, .string ⟨#[]⟩, .string ⟨#[]⟩, .slice none 0 0]).cells.size = 7 := rfl
  have hRs : ROW.size = G * 7 := by
    rw [hROW, Array.size_append, Array.size_append, zero_size, zero_size, hz7, List.size_toArray, holl]
    omega
  have hRt : ROW.toList.take (i * 7) = olds := by
    rw [hROW, Array.toList_append, Array.toList_append, List.append_assoc]
    exact List.take_left' (by simpa using holl)
  clear hROW hz7 hold
  obtain ⟨W1, hW1⟩ : ∃ W1, W1 = w.drew.alloc (.cells ROW 26) := ⟨_, rfl⟩
  rw [← hW1] at hap
  have hap' : ∀ x : Int, x = (n : Int) + 1 - (i : Int) → (Builtin.append_ #[24, 3] 24 #[.slice (some ⟨g, 0, none⟩) i n, .int .i64 x]).run Tryz.prog w = .ok (.slice (some ⟨w.heap.size, 0, none⟩) (n + 1) G) W1 := fun x hx => by
    rw [hx, show (n : Int) + 1 - (i : Int) = ((n + 1 - i : Nat) : Int) by omega]
    exact hap
  have hN1 : W1.heap[w.heap.size]? = some (.cells ROW 26 (0, 0)) := by rw [hW1]; exact heap_alloc_new w.drew _
  have hold1 : ∀ k, k < w.heap.size → W1.heap[k]? = w.heap[k]? := fun k hk => by rw [hW1]; exact Below.heap_alloc w.drew _ k hk
  have hv1 : W1.heap[vb]? = some (.cells vs.toArray 26 (0, 0)) := by rw [hold1 vb hvbl]; exact hv
  obtain ⟨row1, hr1⟩ : ∃ row1, row1 = (ROW.toList.take (i * 7) ++ vs ++ ROW.toList.drop (i * 7 + vs.length)).toArray := ⟨_, rfl⟩
  obtain ⟨W2, hW2⟩ : ∃ W2, W2 = W1.setRow w.heap.size row1 := ⟨_, rfl⟩
  have cp1 : ∀ ty, (Builtin.copy_ #[24, 24] ty #[.slice (some ⟨w.heap.size, i * 7, none⟩) (n + 1 - i) (G - i), .slice (some ⟨vb, 0, none⟩) 1 vc]).run Tryz.prog W1 = .ok (goInt 1) W2 := by
    intro ty
    have em : Nat.min 1 (n + 1 - i) = 1 := Nat.min_eq_left (by omega)
    have h := run_copy_k (P := Tryz.prog) W1 24 24 ty 26 7 w.heap.size (i * 7) (n + 1 - i) (G - i) ⟨vb, 0, none⟩ 1 vc ROW 26 vs Tryz.underlying24 hszV hN1 (by rw [hvl, em])
      (fun j v hj => by
        rw [Addr.add_lit, cell_of_block hv1, Nat.zero_add]
        simpa using hj) (by omega) h1v
    rw [h, em, hW2, hr1]
    rfl
  have hr1s : row1.size = G * 7 := by
    rw [hr1]
    simp only [List.size_toArray, List.length_append, List.length_take, List.length_drop, Array.length_toList]
    omega
  have hN2 : W2.drew.heap[w.heap.size]? = some (.cells row1 26 (0, 0)) := by rw [hW2]; exact setRow_heap _ _ _ _ _ _ hN1
  have hg2 : W2.drew.heap[g]? = some (.cells cur 26 (0, 0)) := by
    show W2.heap[g]? = _
    rw [hW2, setRow_other _ _ _ _ (by omega), hold1 g hgl]
    exact hg
  obtain ⟨cs, hcsE⟩ : ∃ cs, cs = (cur.toList.take (n * 7)).drop (i * 7) := ⟨_, rfl⟩
  have hcl : cs.length = (n - i) * 7 := by rw [hcsE, List.length_drop, List.length_take]; omega
  have h1c : ∀ u ∈ cs, u.oneCell' = true := fun u hu => h1x u (List.mem_of_mem_drop (by rw [hcsE] at hu; exact hu))
  obtain ⟨row2, hr2⟩ : ∃ row2, row2 = (row1.toList.take ((i + 1) * 7) ++ cs ++ row1.toList.drop ((i + 1) * 7 + cs.length)).toArray := ⟨_, rfl⟩
  obtain ⟨W3, hW3⟩ : ∃ W3, W3 = W2.drew.setRow w.heap.size row2 := ⟨_, rfl⟩
  have cp2 : ∀ ty o1 o2 dl sl dc sc, o1 = (i + 1) * 7 → o2 = i * 7 → Nat.min sl dl = n - i → (Builtin.copy_ #[24, 24] ty #[.slice (some ⟨w.heap.size, o1, none⟩) dl dc, .slice (some ⟨g, o2, none⟩) sl sc]).run Tryz.prog W2.drew = .ok (goInt ((n - i : Nat) : Int).toNat) W3 := by
    intro ty o1 o2 dl sl dc sc e1 e2 e3
    subst e1 e2
    have h := run_copy_k (P := Tryz.prog) W2.drew 24 24 ty 26 7 w.heap.size ((i + 1) * 7) dl dc ⟨g, i * 7, none⟩ sl sc row1 26 cs Tryz.underlying24 hszV hN2 (by rw [hcl, e3])
      (fun j v hj => by
        rw [Addr.add_lit, cell_of_block hg2]
        rw [hcsE, List.getElem?_drop, List.getElem?_take] at hj
        split at hj
        · simpa using hj
        · cases hj) (by rw [hcl]; omega) h1c
    rw [h, e3, hW3, hr2]
    rfl
  have hfin : W3.ownsRow B 26 7 (.slice (some ⟨w.heap.size, 0, none⟩) (n + 1) G) (n + 1) (((cur.toList.take (n * 7)).take (i * 7)) ++ vs ++ ((cur.toList.take (n * 7)).drop (i * 7))) := by
    refine ⟨?_, .inr ⟨w.heap.size, G, row2, rfl, hBw, ?_, by omega, hGle, ?_, ?_⟩⟩
    · simp only [List.length_append, List.length_take, List.length_drop]
      omega
    · rw [hW3]
      exact setRow_heap _ _ _ _ _ _ hN2
    · rw [hr2]
      simp only [List.size_toArray, List.length_append, List.length_take, List.length_drop, Array.length_toList]
      omega
    · rw [hr2, hr1, ← hcsE, ← hol, hRt, hvl]
      have hRl : ROW.toList.length = G * 7 := by simpa using hRs
      have e1 : List.take ((i + 1) * 7) (olds ++ vs ++ ROW.toList.drop (i * 7 + 7)) = olds ++ vs :=
        List.take_left' (by rw [List.length_append]; omega)
      simp only [e1]
      exact List.take_left' (by simp only [List.length_append, hcl, hvl, holl]; omega)
  have hgro : w.grownBy W3 (some g) := by
    refine ⟨by rw [hW3, hW2, hW1]; rfl, by rw [hW3, hW2, hW1]; rfl, by rw [hW3, hW2, hW1]; rfl, ?_, fun k hk hkg => ?_⟩
    · have e1 : W1.heap.size = w.heap.size + 1 := by rw [hW1]; simp
      have e2 : W2.heap.size = W1.heap.size := by rw [hW2]; simp [World.setRow]
      have e3 : W3.heap.size = W2.heap.size := by rw [hW3]; simp [World.setRow]
      omega
    · have : k ≠ w.heap.size := by omega
      rw [hW3, setRow_other _ _ _ _ this]
      show W2.heap[k]? = _
      rw [hW2, setRow_other _ _ _ _ this, hold1 k hk]
  have HF := hide hfin
  have HG := hide hgro
  clear hfin hgro hr2 hr1 hW1 hW2 hW3 hcsE hol hap hRt hN1 hN2 hg2 hv1 hold1 hg hv
  have b1 : (i : Int) < (n : Int) := by omega
  have b2 : ¬ ((i : Int) = (n : Int)) := by omega
  have b3 : (n : Int) < (n : Int) + 1 := by omega
  have b4 : ¬ (n = i) := by omega
  have b5 : ¬ (G = i) := by omega
  have b5' : ¬ (G = i + 1) := by omega
  have b6 : (i : Int) ≤ (n : Int) + 1 := by omega
  have b7 : i ≤ n := by omega
  have b8 : i ≤ n + 1 := by omega
  have hw1 : IntKind.i64.wrap ((i : Int) + 1) = (i : Int) + 1 := by rw [IntKind.wrap_i64]; omega
  have hb1 : (0 : Int) ≤ (i : Int) + 1 := by omega
  have htn : ((i : Int) + 1).toNat = i + 1 := by omega
  have hap2 := hap' _ rfl
  unfold maxLen at hGle
  go_enter Tryz.func45, Tryz.ntmps45
  go_wp2_with (at_builtin; first | refine wp_append_eq _ rfl _ _ 24 3 rfl _ _ rfl rfl hap2 ?_ | refine wp_copy_run _ rfl _ _ 24 24 rfl _ _ rfl rfl (cp1 _) ?_)
  refine wp_still_tail 8 (by kernel_rfl) (by kernel_rfl) ?_
  simp only [List.take_succ_cons, List.take_zero, List.drop_succ_cons, List.drop_zero]
  repeat still_step
  refine wpStill_nil ?_
  refine wp_copy_run _ rfl _ _ 24 24 rfl _ _ rfl rfl (cp2 _ _ _ _ _ _ _ ?e1 ?e2 ?e3) ?_
  case e1 => omega
  case e2 => omega
  case e3 => simp only [Nat.min_def]; split <;> omega
  go_wp2
  go_ret
  exact ⟨_, rfl, unhide HF, unhide HG⟩

/-- Anywhere. -/
theorem insert_one (B : Nat) (v : Value) (n i : Nat) (xs : List Value) (vb vc : Nat) (vs : List Value) (w : World) (hown : w.ownsRow B 26 7 v n xs) (hn : n ≤ 1000) (hi : i ≤ n) (hBw : B ≤ w.heap.size)
    (hvl : vs.length = 7) (hvb : v.ownBlock ≠ some vb) (hv : w.heap[vb]? = some (.cells vs.toArray 26 (0, 0))) (h1v : ∀ u ∈ vs, u.oneCell' = true) (h1x : ∀ u ∈ xs, u.oneCell' = true) :
    Calls Tryz.prog 45 #[v, .int .i64 i, .slice (some ⟨vb, 0, none⟩) 1 vc] w fun e w' => ∃ v', e = .returned v' ∧ w'.ownsRow B 26 7 v' (n + 1) (xs.take (i * 7) ++ vs ++ xs.drop (i * 7)) ∧ w.grownBy w' v.ownBlock := by
  by_cases hin : i = n
  · subst hin
    rw [show xs.take (i * 7) ++ vs ++ xs.drop (i * 7) = xs ++ vs by rw [List.take_of_length_le (by rw [hown.1]; exact Nat.le_refl _), List.drop_of_length_le (by rw [hown.1]; exact Nat.le_refl _), List.append_nil]]
    exact insert_end B v i xs vb vc vs w hown hn hBw hvl (fun j u hj => by rw [cell_of_block hv]; simpa using hj) h1v
  · rcases hown.2 with ⟨_, h0⟩ | ⟨g, cap, cur, rfl, hBg, hg, hnc, hcm, hcs, hxs⟩
    · omega
    · subst hxs
      by_cases hroom : n + 1 ≤ cap
      · exact insert_shift B g n i cap vb vc cur vs w hBg hg hcm hcs hn (by omega) hroom hvl (fun e => hvb (by rw [e]; rfl)) hv h1v h1x
      · obtain rfl : cap = n := by omega
        exact insert_grow B g cap i vb vc cur vs w hBw hg hcs hn (by omega) hvl hv h1v h1x
end Go.Proofs.YtgeibceijlaoaaaGreat
