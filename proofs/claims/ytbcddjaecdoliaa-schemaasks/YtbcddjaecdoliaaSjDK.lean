/-
  Rows of texts, of fields, held against one another: slices.Equal, chancelref10.texts.
  schema.sameKind, sameAction, slices.EqualFunc of them, schema.Same: what they return.
  chancelref10.in, Fits: what they return.
  chancelref10.Same: what it returns.
  chancellaw10.SchemaAsks: what is told of a name; a call's answer laid into a place of its own (no walk in it).
  An append of a whole row of texts, at the builtin.
  chancellaw10.SchemaAsks: schemas of one kind and one action; a type laid into a place of its own (no walk in it).
-/
import Derived.Test.YtbcddjaecdoliaaSjAC
import Derived.BigGuardPart
import Derived.Test.YtbcddjaecdoliaaSgD
import Derived.Deep.Upon
namespace Go.Proofs.Ytbcddjaecdoliaa
open Go.RowKit Go.Sort

theorem toList_baS (a b : ByteArray) : a.toList = b.toList ↔ a = b := by
  constructor
  · intro h
    rw [ByteArray.toList_eq, ByteArray.toList_eq] at h
    exact ByteArray.ext (Array.toList_inj.1 h)
  · intro h
    rw [h]
theorem beq_bytesS (a b : ByteArray) : decide (a = b) = (a.toList == b.toList) := by
  by_cases h : a = b
  · subst h
    rw [decide_eq_true rfl, beq_self_eq_true]
  · rw [decide_eq_false h, bytes_ne h]
set_option maxRecDepth 100000 in
theorem equalField (a b : F4) (W : World) : (Op.equal 31 a.val b.val).run Try.prog W = .ok (decide (a = b)) W := by
  obtain ⟨a0, a1, a2, a3⟩ := a
  obtain ⟨b0, b1, b2, b3⟩ := b
  unfold Op.equal Op.maxDepth F4.val
  rw [Op.equalIn]
  simp [go_sem]
  by_cases h0 : a0 = b0 <;> by_cases h1 : a1 = b1 <;> by_cases h2 : a2 = b2 <;> by_cases h3 : a3 = b3 <;> simp [toList_baS, h0, h1, h2, h3, go_sem]
theorem binNeqField (a b : F4) (W : World) : (binOp .neq 31 (.agg #[.string a.nm, .int .i64 a.k, .int .i64 a.o, .string a.tn]) (.agg #[.string b.nm, .int .i64 b.k, .int .i64 b.o, .string b.tn])).run Try.prog W = .ok (.bool (!decide (a = b))) W := by
  have h := equalField a b W
  unfold F4.val at h
  simp only [binOp, Sem.run_bind, h, Result.andThen_ok, Sem.run_pure]
set_option maxHeartbeats 2000000 in
set_option maxRecDepth 1000000 in
theorem eqS_any (l l' : List ByteArray) (ao ao' : Option Addr) (c c' : Nat) (w : World) (hl : l.length ≤ 281474976710656) (hr : RowG w ao 1 (l.map strC)) (hr' : RowG w ao' 1 (l'.map strC)) :
    Calls Try.prog 53 #[.slice ao l.length c, .slice ao' l'.length c'] w fun e w' => e = .returned (.bool (decide (l = l'))) ∧ Below w.heap.size w w' := by
  by_cases he : l'.length = l.length
  case neg =>
    have e1 : ((l.length : Int) == (l'.length : Int)) = false := by
      rw [beq_eq_false_iff_ne]
      omega
    rw [decide_eq_false (fun h => he (by rw [h]))]
    go_enter Try.func53, Try.ntmps53
    go_wp2
    go_ret
    exact ⟨rfl, Below.refl _ _⟩
  have HE := hide he
  rw [he]
  have HV := hide (show ∀ j (h : j < l.length) (h' : j < l'.length), l[j] ≠ l'[j] → decide (l = l') = false from fun j h h' hn => decide_eq_false fun e => hn (by subst e; rfl))
  have HW := hide (show (∀ j (h : j < l.length) (h' : j < l'.length), l[j] = l'[j]) → decide (l = l') = true from fun h => decide_eq_true (List.ext_getElem he.symm h))
  generalize decide (l = l') = z at *
  clear he
  go_enter Try.func53, Try.ntmps53
  go_wp2
  go_loopw [13] (fun iv wr => ∃ i : Nat, iv = .int .i64 i ∧ i ≤ l.length ∧ Below w.heap.size w wr ∧ ∀ k (h : k < l.length) (h' : k < l'.length), k < i → l[k] = l'[k]) (fun iv _ => l.length - (intOf iv).toNat)
  case atStart => exact ⟨0, by go_num, Nat.zero_le _, Below.refl _ _, fun k _ _ h => absurd h (Nat.not_lt_zero _)⟩
  case round =>
    obtain ⟨j, rfl, hj, hbw, hlow⟩ := hrel
    have Hlow := hide hlow
    clear hlow
    by_cases hlt : j < l.length
    · have i1 : (j : Int) < (l.length : Int) := by omega
      have k0 : (0 : Int) ≤ (j : Int) := by omega
      have hlt' : j < l'.length := by rw [unhide HE]; exact hlt
      obtain ⟨b, off, rfl, hb, hcx⟩ := rowG_at hr hbw hlt
      obtain ⟨b', off', rfl, hb', hcy⟩ := rowG_at hr' hbw hlt'
      have A := hcx 0 _ rfl
      have B := hcy 0 _ rfl
      rw [Nat.mul_one, Nat.add_zero] at A B
      have HZ := hide (show ∀ y, (l[j].toList == l'[j].toList) = y → (y = false → z = false) ∧ (y = true → l[j] = l'[j]) from fun y hy => ⟨fun h => unhide HV j hlt hlt' (fun e => by rw [e, beq_self_eq_true] at hy; rw [h] at hy; cases hy), fun h => by rw [h, ← beq_bytesS] at hy; exact of_decide_eq_true hy⟩)
      obtain ⟨y, hy⟩ : ∃ y, (l[j].toList == l'[j].toList) = y := ⟨_, rfl⟩
      have HZ2 := hide (unhide HZ y hy)
      clear HZ
      obtain ⟨x, hx⟩ : ∃ x, x = l[j] := ⟨_, rfl⟩
      obtain ⟨x', hx'⟩ : ∃ x', x' = l'[j] := ⟨_, rfl⟩
      rw [← hx] at A hy
      rw [← hx'] at B hy
      clear hx hx' hcx hcy
      have a0 := cell_regrown A
      have d0 := cell_regrown B
      clear A B
      cases y
      · go_wp2_with fail
        refine wp_region_quiet_below (by kernel_rfl) (by kernel_rfl) ?_
        repeat (quiet_step (fail))
        refine wpQuiet_nil ?_
        intro _ hw'
        obtain ⟨⟨dq, osq⟩, hw''⟩ := hw'
        subst hw''
        have b3 := hbw.trans ((below_regrown wr dq osq).mono hbw.size)
        generalize grow (redrawn wr dq) osq = w3 at *
        clear a0 d0
        have hz := (unhide HZ2).1 (by trivial)
        subst hz
        go_wp2
        go_ret
        exact ⟨rfl, b3⟩
      · go_wp2_with fail
        refine wp_region_quiet_below (by kernel_rfl) (by kernel_rfl) ?_
        repeat (quiet_step (fail))
        refine wpQuiet_nil ?_
        intro _ hw'
        obtain ⟨⟨dq, osq⟩, hw''⟩ := hw'
        subst hw''
        have b3 := hbw.trans ((below_regrown wr dq osq).mono hbw.size)
        generalize grow (redrawn wr dq) osq = w3 at *
        clear a0 d0
        have HF := hide ((unhide HZ2).2 (by trivial))
        clear HZ2
        go_wp2
        go_roundw
        case rel =>
          refine ⟨j + 1, by go_num, by omega, b3, fun k h h' hk => ?_⟩
          by_cases hkj : k < j
          · exact unhide Hlow k h h' hkj
          · obtain rfl : k = j := by omega
            exact unhide HF
        case measure =>
          simp only [intOf]
          omega
    · have i1 : ¬ (j : Int) < (l.length : Int) := by omega
      have hz := unhide HW (fun k h h' => unhide Hlow k h h' (by omega))
      subst hz
      go_wp2
      go_ret
      exact ⟨rfl, hbw⟩
set_option maxHeartbeats 2000000 in
set_option maxRecDepth 1000000 in
theorem rtexts_any (l l' : List ByteArray) (ao ao' : Option Addr) (c c' : Nat) (w : World) (hl : l.length ≤ 281474976710656) (hr : RowG w ao 1 (l.map strC)) (hr' : RowG w ao' 1 (l'.map strC)) :
    Calls Try.prog 40 #[.slice ao l.length c, .slice ao' l'.length c'] w fun e w' => e = .returned (.bool (decide (l = l'))) ∧ Below w.heap.size w w' := by
  by_cases he : l'.length = l.length
  case neg =>
    have e1 : ((l.length : Int) == (l'.length : Int)) = false := by
      rw [beq_eq_false_iff_ne]
      omega
    rw [decide_eq_false (fun h => he (by rw [h]))]
    go_enter Try.func40, Try.ntmps40
    go_wp2
    go_ret
    exact ⟨rfl, Below.refl _ _⟩
  have HE := hide he
  rw [he]
  have HV := hide (show ∀ j (h : j < l.length) (h' : j < l'.length), l[j] ≠ l'[j] → decide (l = l') = false from fun j h h' hn => decide_eq_false fun e => hn (by subst e; rfl))
  have HW := hide (show (∀ j (h : j < l.length) (h' : j < l'.length), l[j] = l'[j]) → decide (l = l') = true from fun h => decide_eq_true (List.ext_getElem he.symm h))
  generalize decide (l = l') = z at *
  clear he
  go_enter Try.func40, Try.ntmps40
  go_wp2
  go_loopw [5] (fun iv wr => ∃ i : Nat, iv = .int .i64 i ∧ i ≤ l.length ∧ Below w.heap.size w wr ∧ ∀ k (h : k < l.length) (h' : k < l'.length), k < i → l[k] = l'[k]) (fun iv _ => l.length - (intOf iv).toNat)
  case atStart => exact ⟨0, by go_num, Nat.zero_le _, Below.refl _ _, fun k _ _ h => absurd h (Nat.not_lt_zero _)⟩
  case round =>
    obtain ⟨j, rfl, hj, hbw, hlow⟩ := hrel
    have Hlow := hide hlow
    clear hlow
    by_cases hlt : j < l.length
    · have i1 : (j : Int) < (l.length : Int) := by omega
      have k0 : (0 : Int) ≤ (j : Int) := by omega
      have hlt' : j < l'.length := by rw [unhide HE]; exact hlt
      obtain ⟨b, off, rfl, hb, hcx⟩ := rowG_at hr hbw hlt
      obtain ⟨b', off', rfl, hb', hcy⟩ := rowG_at hr' hbw hlt'
      have A := hcx 0 _ rfl
      have B := hcy 0 _ rfl
      rw [Nat.mul_one, Nat.add_zero] at A B
      have HZ := hide (show ∀ y, (l[j].toList == l'[j].toList) = y → (y = false → z = false) ∧ (y = true → l[j] = l'[j]) from fun y hy => ⟨fun h => unhide HV j hlt hlt' (fun e => by rw [e, beq_self_eq_true] at hy; rw [h] at hy; cases hy), fun h => by rw [h, ← beq_bytesS] at hy; exact of_decide_eq_true hy⟩)
      obtain ⟨y, hy⟩ : ∃ y, (l[j].toList == l'[j].toList) = y := ⟨_, rfl⟩
      have HZ2 := hide (unhide HZ y hy)
      clear HZ
      obtain ⟨x, hx⟩ : ∃ x, x = l[j] := ⟨_, rfl⟩
      obtain ⟨x', hx'⟩ : ∃ x', x' = l'[j] := ⟨_, rfl⟩
      rw [← hx] at A hy
      rw [← hx'] at B hy
      clear hx hx' hcx hcy
      have a0 := cell_regrown A
      have d0 := cell_regrown B
      clear A B
      cases y
      · go_wp2_with fail
        refine wp_region_quiet_below (by kernel_rfl) (by kernel_rfl) ?_
        repeat (quiet_step (fail))
        refine wpQuiet_nil ?_
        intro _ hw'
        obtain ⟨⟨dq, osq⟩, hw''⟩ := hw'
        subst hw''
        have b3 := hbw.trans ((below_regrown wr dq osq).mono hbw.size)
        generalize grow (redrawn wr dq) osq = w3 at *
        clear a0 d0
        have hz := (unhide HZ2).1 (by trivial)
        subst hz
        go_wp2
        go_ret
        exact ⟨rfl, b3⟩
      · go_wp2_with fail
        refine wp_region_quiet_below (by kernel_rfl) (by kernel_rfl) ?_
        repeat (quiet_step (fail))
        refine wpQuiet_nil ?_
        intro _ hw'
        obtain ⟨⟨dq, osq⟩, hw''⟩ := hw'
        subst hw''
        have b3 := hbw.trans ((below_regrown wr dq osq).mono hbw.size)
        generalize grow (redrawn wr dq) osq = w3 at *
        clear a0 d0
        have HF := hide ((unhide HZ2).2 (by trivial))
        clear HZ2
        go_wp2
        go_roundw
        case rel =>
          refine ⟨j + 1, by go_num, by omega, b3, fun k h h' hk => ?_⟩
          by_cases hkj : k < j
          · exact unhide Hlow k h h' hkj
          · obtain rfl : k = j := by omega
            exact unhide HF
        case measure =>
          simp only [intOf]
          omega
    · have i1 : ¬ (j : Int) < (l.length : Int) := by omega
      have hz := unhide HW (fun k h h' => unhide Hlow k h h' (by omega))
      subst hz
      go_wp2
      go_ret
      exact ⟨rfl, hbw⟩
set_option maxHeartbeats 2000000 in
set_option maxRecDepth 1000000 in
theorem eqF_any (l l' : List F4) (ao ao' : Option Addr) (c c' : Nat) (w : World) (hl : l.length ≤ 281474976710656) (hr : RowG w ao 4 (l.map F4.cells)) (hr' : RowG w ao' 4 (l'.map F4.cells)) :
    Calls Try.prog 54 #[.slice ao l.length c, .slice ao' l'.length c'] w fun e w' => e = .returned (.bool (decide (l = l'))) ∧ Below w.heap.size w w' := by
  by_cases he : l'.length = l.length
  case neg =>
    have e1 : ((l.length : Int) == (l'.length : Int)) = false := by
      rw [beq_eq_false_iff_ne]
      omega
    rw [decide_eq_false (fun h => he (by rw [h]))]
    go_enter Try.func54, Try.ntmps54
    go_wp2
    go_ret
    exact ⟨rfl, Below.refl _ _⟩
  have HE := hide he
  rw [he]
  have HV := hide (show ∀ j (h : j < l.length) (h' : j < l'.length), l[j] ≠ l'[j] → decide (l = l') = false from fun j h h' hn => decide_eq_false fun e => hn (by subst e; rfl))
  have HW := hide (show (∀ j (h : j < l.length) (h' : j < l'.length), l[j] = l'[j]) → decide (l = l') = true from fun h => decide_eq_true (List.ext_getElem he.symm h))
  generalize decide (l = l') = z at *
  clear he
  go_enter Try.func54, Try.ntmps54
  go_wp2
  go_loopw [13] (fun iv wr => ∃ i : Nat, iv = .int .i64 i ∧ i ≤ l.length ∧ Below w.heap.size w wr ∧ ∀ k (h : k < l.length) (h' : k < l'.length), k < i → l[k] = l'[k]) (fun iv _ => l.length - (intOf iv).toNat)
  case atStart => exact ⟨0, by go_num, Nat.zero_le _, Below.refl _ _, fun k _ _ h => absurd h (Nat.not_lt_zero _)⟩
  case round =>
    obtain ⟨j, rfl, hj, hbw, hlow⟩ := hrel
    have Hlow := hide hlow
    clear hlow
    by_cases hlt : j < l.length
    · have i1 : (j : Int) < (l.length : Int) := by omega
      have k0 : (0 : Int) ≤ (j : Int) := by omega
      have hlt' : j < l'.length := by rw [unhide HE]; exact hlt
      obtain ⟨b, off, rfl, hb, hcx⟩ := rowG_at hr hbw hlt
      obtain ⟨b', off', rfl, hb', hcy⟩ := rowG_at hr' hbw hlt'
      have A : AtF4 wr b (off + j * 4) l[j] := AtF4.of hcx
      have B : AtF4 wr b' (off' + j * 4) l'[j] := AtF4.of hcy
      have NQ := binNeqField l[j] l'[j]
      have HZ := hide (show ∀ y, (!decide (l[j] = l'[j])) = y → (y = true → z = false) ∧ (y = false → l[j] = l'[j]) from fun y hy => ⟨fun h => unhide HV j hlt hlt' (by rw [← hy] at h; simpa using h), fun h => by rw [← hy] at h; simpa using h⟩)
      generalize hy : (!decide (l[j] = l'[j])) = y at NQ
      have HZ2 := hide (unhide HZ y hy)
      clear hy HZ
      obtain ⟨x, hx⟩ : ∃ x, x = l[j] := ⟨_, rfl⟩
      obtain ⟨x', hx'⟩ : ∃ x', x' = l'[j] := ⟨_, rfl⟩
      rw [← hx] at A NQ
      rw [← hx'] at B NQ
      clear hx hx' hcx hcy
      obtain ⟨a0, a1, a2, a3⟩ := A.up
      obtain ⟨d0, d1, d2, d3⟩ := B.up
      clear A B
      cases y
      · go_wp2_with fail
        refine wp_region_quiet_below (by kernel_rfl) (by kernel_rfl) ?_
        repeat (quiet_step (fail))
        refine wpQuiet_nil ?_
        intro _ hw'
        obtain ⟨⟨dq, osq⟩, hw''⟩ := hw'
        subst hw''
        have b3 := hbw.trans ((below_regrown wr dq osq).mono hbw.size)
        generalize grow (redrawn wr dq) osq = w3 at *
        clear a0 a1 a2 a3 d0 d1 d2 d3 NQ
        have HF := hide ((unhide HZ2).2 (by trivial))
        clear HZ2
        go_wp2
        go_roundw
        case rel =>
          refine ⟨j + 1, by go_num, by omega, b3, fun k h h' hk => ?_⟩
          by_cases hkj : k < j
          · exact unhide Hlow k h h' hkj
          · obtain rfl : k = j := by omega
            exact unhide HF
        case measure =>
          simp only [intOf]
          omega
      · go_wp2_with fail
        refine wp_region_quiet_below (by kernel_rfl) (by kernel_rfl) ?_
        repeat (quiet_step (fail))
        refine wpQuiet_nil ?_
        intro _ hw'
        obtain ⟨⟨dq, osq⟩, hw''⟩ := hw'
        subst hw''
        have b3 := hbw.trans ((below_regrown wr dq osq).mono hbw.size)
        generalize grow (redrawn wr dq) osq = w3 at *
        clear a0 a1 a2 a3 d0 d1 d2 d3 NQ
        have hz := (unhide HZ2).1 (by trivial)
        subst hz
        go_wp2
        go_ret
        exact ⟨rfl, b3⟩
    · have i1 : ¬ (j : Int) < (l.length : Int) := by omega
      have hz := unhide HW (fun k h h' => unhide Hlow k h h' (by omega))
      subst hz
      go_wp2
      go_ret
      exact ⟨rfl, hbw⟩
end Go.Proofs.Ytbcddjaecdoliaa

namespace Go.Proofs.Ytbcddjaecdoliaa
open Go.RowKit Go.Sort

set_option maxHeartbeats 2000000 in
set_option maxRecDepth 1000000 in
theorem sameKind_any (kx ky : KP) (x y : N3) (w : World) (h1 : kx.ps.length ≤ 281474976710656) (h2 : kx.fs.length ≤ 281474976710656) (hx : IsK w x kx) (hy : IsK w y ky) :
    Calls Try.prog 37 #[x.val, y.val] w fun e w' => e = .returned (.bool (decide (kx = ky))) ∧ Below w.heap.size w w' := by
  obtain ⟨xn, xao, xal, xac, xbo, xbl, xbc⟩ := x
  obtain ⟨yn, yao, yal, yac, ybo, ybl, ybc⟩ := y
  obtain ⟨a1, a2, a3, a4, a5⟩ := hx
  obtain ⟨d1, d2, d3, d4, d5⟩ := hy
  simp only at a1 a2 a3 a4 a5 d1 d2 d3 d4 d5
  subst a2 a4 d2 d4
  unfold N3.val
  simp only
  have HE := hide (show decide (kx = ky) = (decide (kx.nm = ky.nm) && (decide (kx.ps = ky.ps) && decide (kx.fs = ky.fs))) by
    cases kx
    cases ky
    simp)
  have b2 := blw2 w (.cells #[.string xn, .slice xao kx.ps.length xac, .slice xbo kx.fs.length xbc] 42) (.cells #[.string yn, .slice yao ky.ps.length yac, .slice ybo ky.fs.length ybc] 42)
  have Hx : ((w.alloc (.cells #[.string xn, .slice xao kx.ps.length xac, .slice xbo kx.fs.length xbc] 42)).alloc (.cells #[.string yn, .slice yao ky.ps.length yac, .slice ybo ky.fs.length ybc] 42)).heap[w.heap.size]? = some (.cells #[.string xn, .slice xao kx.ps.length xac, .slice xbo kx.fs.length xbc] 42 (0, 0)) := by
    rw [Below.heap_alloc _ _ _ (by simp)]
    exact alloc_heap _ _
  have Hy : ((w.alloc (.cells #[.string xn, .slice xao kx.ps.length xac, .slice xbo kx.fs.length xbc] 42)).alloc (.cells #[.string yn, .slice yao ky.ps.length yac, .slice ybo ky.fs.length ybc] 42)).heap[w.heap.size + 1]? = some (.cells #[.string yn, .slice yao ky.ps.length yac, .slice ybo ky.fs.length ybc] 42 (0, 0)) := by
    have := alloc_heap (w.alloc (.cells #[.string xn, .slice xao kx.ps.length xac, .slice xbo kx.fs.length xbc] 42)) (.cells #[.string yn, .slice yao ky.ps.length yac, .slice ybo ky.fs.length ybc] 42)
    simpa using this
  have z2 : w.heap.size + 2 ≤ ((w.alloc (.cells #[.string xn, .slice xao kx.ps.length xac, .slice xbo kx.fs.length xbc] 42)).alloc (.cells #[.string yn, .slice yao ky.ps.length yac, .slice ybo ky.fs.length ybc] 42)).heap.size := by simp
  have x0 : ((w.alloc (.cells #[.string xn, .slice xao kx.ps.length xac, .slice xbo kx.fs.length xbc] 42)).alloc (.cells #[.string yn, .slice yao ky.ps.length yac, .slice ybo ky.fs.length ybc] 42)).cell? ⟨w.heap.size, 0, none⟩ = some (.string xn) := by rw [Lib.cell_of_heap Hx]; rfl
  have x1 : ((w.alloc (.cells #[.string xn, .slice xao kx.ps.length xac, .slice xbo kx.fs.length xbc] 42)).alloc (.cells #[.string yn, .slice yao ky.ps.length yac, .slice ybo ky.fs.length ybc] 42)).cell? ⟨w.heap.size, 1, none⟩ = some (.slice xao kx.ps.length xac) := by rw [Lib.cell_of_heap Hx]; rfl
  have x2 : ((w.alloc (.cells #[.string xn, .slice xao kx.ps.length xac, .slice xbo kx.fs.length xbc] 42)).alloc (.cells #[.string yn, .slice yao ky.ps.length yac, .slice ybo ky.fs.length ybc] 42)).cell? ⟨w.heap.size, 2, none⟩ = some (.slice xbo kx.fs.length xbc) := by rw [Lib.cell_of_heap Hx]; rfl
  have y0 : ((w.alloc (.cells #[.string xn, .slice xao kx.ps.length xac, .slice xbo kx.fs.length xbc] 42)).alloc (.cells #[.string yn, .slice yao ky.ps.length yac, .slice ybo ky.fs.length ybc] 42)).cell? ⟨w.heap.size + 1, 0, none⟩ = some (.string yn) := by rw [Lib.cell_of_heap Hy]; rfl
  have y1 : ((w.alloc (.cells #[.string xn, .slice xao kx.ps.length xac, .slice xbo kx.fs.length xbc] 42)).alloc (.cells #[.string yn, .slice yao ky.ps.length yac, .slice ybo ky.fs.length ybc] 42)).cell? ⟨w.heap.size + 1, 1, none⟩ = some (.slice yao ky.ps.length yac) := by rw [Lib.cell_of_heap Hy]; rfl
  have y2 : ((w.alloc (.cells #[.string xn, .slice xao kx.ps.length xac, .slice xbo kx.fs.length xbc] 42)).alloc (.cells #[.string yn, .slice yao ky.ps.length yac, .slice ybo ky.fs.length ybc] 42)).cell? ⟨w.heap.size + 1, 2, none⟩ = some (.slice ybo ky.fs.length ybc) := by rw [Lib.cell_of_heap Hy]; rfl
  have C1 := eqS_any kx.ps ky.ps xao yao xac yac _ h1 (a3.below b2) (d3.below b2)
  have C2 := fun w' (hb : Below w.heap.size w w') => eqF_any kx.fs ky.fs xbo ybo xbc ybc w' h2 (a5.below hb) (d5.below hb)
  rw [← a1, ← d1] at HE
  generalize decide (kx = ky) = z at *
  generalize decide (kx.ps = ky.ps) = z1 at *
  generalize decide (kx.fs = ky.fs) = z2' at *
  clear a1 a3 a5 d1 d3 d5 Hx Hy
  rw [beq_bytesS] at HE
  cases hn : (xn.toList == yn.toList)
  · have hz : z = false := by rw [unhide HE, hn]; rfl
    subst hz
    clear HE C1 C2
    go_enter Try.func37, Try.ntmps37
    go_wp2
    go_ret
    exact ⟨rfl, b2⟩
  · have HE := hide (show z = (z1 && z2') by rw [unhide HE, hn]; rfl)
    go_enter Try.func37, Try.ntmps37
    go_wp2_with fail
    generalize (w.alloc _).alloc _ = w2 at *
    refine C1.mono ?_
    clear C1
    rintro e w3 ⟨rfl, b3⟩
    have B3 := b2.trans (b3.mono b2.size)
    have x2' := (b3.cell (p := ⟨w.heap.size, 2, none⟩) (by show w.heap.size < _; omega)).trans x2
    have y2' := (b3.cell (p := ⟨w.heap.size + 1, 2, none⟩) (by show w.heap.size + 1 < _; omega)).trans y2
    cases z1
    · have hz : z = false := unhide HE
      subst hz
      clear C2
      go_wp2
      go_ret
      exact ⟨rfl, B3⟩
    · have hz : z = z2' := unhide HE
      subst hz
      have C2 := C2 w3 B3
      go_wp2_with fail
      refine C2.mono ?_
      rintro e w4 ⟨rfl, b4⟩
      have B4 := B3.trans (b4.mono B3.size)
      clear C2
      go_wp2
      go_ret
      exact ⟨rfl, B4⟩
set_option maxHeartbeats 2000000 in
set_option maxRecDepth 1000000 in
theorem sameAction_any (kx ky : AP) (x y : N3) (w : World) (h1 : kx.pr.length ≤ 281474976710656) (h2 : kx.re.length ≤ 281474976710656) (hx : IsA w x kx) (hy : IsA w y ky) :
    Calls Try.prog 39 #[x.val, y.val] w fun e w' => e = .returned (.bool (decide (kx = ky))) ∧ Below w.heap.size w w' := by
  obtain ⟨xn, xao, xal, xac, xbo, xbl, xbc⟩ := x
  obtain ⟨yn, yao, yal, yac, ybo, ybl, ybc⟩ := y
  obtain ⟨a1, a2, a3, a4, a5⟩ := hx
  obtain ⟨d1, d2, d3, d4, d5⟩ := hy
  simp only at a1 a2 a3 a4 a5 d1 d2 d3 d4 d5
  subst a2 a4 d2 d4
  unfold N3.val
  simp only
  have HE := hide (show decide (kx = ky) = (decide (kx.nm = ky.nm) && (decide (kx.pr = ky.pr) && decide (kx.re = ky.re))) by
    cases kx
    cases ky
    simp)
  have b2 := blw2 w (.cells #[.string xn, .slice xao kx.pr.length xac, .slice xbo kx.re.length xbc] 44) (.cells #[.string yn, .slice yao ky.pr.length yac, .slice ybo ky.re.length ybc] 44)
  have Hx : ((w.alloc (.cells #[.string xn, .slice xao kx.pr.length xac, .slice xbo kx.re.length xbc] 44)).alloc (.cells #[.string yn, .slice yao ky.pr.length yac, .slice ybo ky.re.length ybc] 44)).heap[w.heap.size]? = some (.cells #[.string xn, .slice xao kx.pr.length xac, .slice xbo kx.re.length xbc] 44 (0, 0)) := by
    rw [Below.heap_alloc _ _ _ (by simp)]
    exact alloc_heap _ _
  have Hy : ((w.alloc (.cells #[.string xn, .slice xao kx.pr.length xac, .slice xbo kx.re.length xbc] 44)).alloc (.cells #[.string yn, .slice yao ky.pr.length yac, .slice ybo ky.re.length ybc] 44)).heap[w.heap.size + 1]? = some (.cells #[.string yn, .slice yao ky.pr.length yac, .slice ybo ky.re.length ybc] 44 (0, 0)) := by
    have := alloc_heap (w.alloc (.cells #[.string xn, .slice xao kx.pr.length xac, .slice xbo kx.re.length xbc] 44)) (.cells #[.string yn, .slice yao ky.pr.length yac, .slice ybo ky.re.length ybc] 44)
    simpa using this
  have z2 : w.heap.size + 2 ≤ ((w.alloc (.cells #[.string xn, .slice xao kx.pr.length xac, .slice xbo kx.re.length xbc] 44)).alloc (.cells #[.string yn, .slice yao ky.pr.length yac, .slice ybo ky.re.length ybc] 44)).heap.size := by simp
  have x0 : ((w.alloc (.cells #[.string xn, .slice xao kx.pr.length xac, .slice xbo kx.re.length xbc] 44)).alloc (.cells #[.string yn, .slice yao ky.pr.length yac, .slice ybo ky.re.length ybc] 44)).cell? ⟨w.heap.size, 0, none⟩ = some (.string xn) := by rw [Lib.cell_of_heap Hx]; rfl
  have x1 : ((w.alloc (.cells #[.string xn, .slice xao kx.pr.length xac, .slice xbo kx.re.length xbc] 44)).alloc (.cells #[.string yn, .slice yao ky.pr.length yac, .slice ybo ky.re.length ybc] 44)).cell? ⟨w.heap.size, 1, none⟩ = some (.slice xao kx.pr.length xac) := by rw [Lib.cell_of_heap Hx]; rfl
  have x2 : ((w.alloc (.cells #[.string xn, .slice xao kx.pr.length xac, .slice xbo kx.re.length xbc] 44)).alloc (.cells #[.string yn, .slice yao ky.pr.length yac, .slice ybo ky.re.length ybc] 44)).cell? ⟨w.heap.size, 2, none⟩ = some (.slice xbo kx.re.length xbc) := by rw [Lib.cell_of_heap Hx]; rfl
  have y0 : ((w.alloc (.cells #[.string xn, .slice xao kx.pr.length xac, .slice xbo kx.re.length xbc] 44)).alloc (.cells #[.string yn, .slice yao ky.pr.length yac, .slice ybo ky.re.length ybc] 44)).cell? ⟨w.heap.size + 1, 0, none⟩ = some (.string yn) := by rw [Lib.cell_of_heap Hy]; rfl
  have y1 : ((w.alloc (.cells #[.string xn, .slice xao kx.pr.length xac, .slice xbo kx.re.length xbc] 44)).alloc (.cells #[.string yn, .slice yao ky.pr.length yac, .slice ybo ky.re.length ybc] 44)).cell? ⟨w.heap.size + 1, 1, none⟩ = some (.slice yao ky.pr.length yac) := by rw [Lib.cell_of_heap Hy]; rfl
  have y2 : ((w.alloc (.cells #[.string xn, .slice xao kx.pr.length xac, .slice xbo kx.re.length xbc] 44)).alloc (.cells #[.string yn, .slice yao ky.pr.length yac, .slice ybo ky.re.length ybc] 44)).cell? ⟨w.heap.size + 1, 2, none⟩ = some (.slice ybo ky.re.length ybc) := by rw [Lib.cell_of_heap Hy]; rfl
  have C1 := eqS_any kx.pr ky.pr xao yao xac yac _ h1 (a3.below b2) (d3.below b2)
  have C2 := fun w' (hb : Below w.heap.size w w') => eqS_any kx.re ky.re xbo ybo xbc ybc w' h2 (a5.below hb) (d5.below hb)
  rw [← a1, ← d1] at HE
  generalize decide (kx = ky) = z at *
  generalize decide (kx.pr = ky.pr) = z1 at *
  generalize decide (kx.re = ky.re) = z2' at *
  clear a1 a3 a5 d1 d3 d5 Hx Hy
  rw [beq_bytesS] at HE
  cases hn : (xn.toList == yn.toList)
  · have hz : z = false := by rw [unhide HE, hn]; rfl
    subst hz
    clear HE C1 C2
    go_enter Try.func39, Try.ntmps39
    go_wp2
    go_ret
    exact ⟨rfl, b2⟩
  · have HE := hide (show z = (z1 && z2') by rw [unhide HE, hn]; rfl)
    go_enter Try.func39, Try.ntmps39
    go_wp2_with fail
    generalize (w.alloc _).alloc _ = w2 at *
    refine C1.mono ?_
    clear C1
    rintro e w3 ⟨rfl, b3⟩
    have B3 := b2.trans (b3.mono b2.size)
    have x2' := (b3.cell (p := ⟨w.heap.size, 2, none⟩) (by show w.heap.size < _; omega)).trans x2
    have y2' := (b3.cell (p := ⟨w.heap.size + 1, 2, none⟩) (by show w.heap.size + 1 < _; omega)).trans y2
    cases z1
    · have hz : z = false := unhide HE
      subst hz
      clear C2
      go_wp2
      go_ret
      exact ⟨rfl, B3⟩
    · have hz : z = z2' := unhide HE
      subst hz
      have C2 := C2 w3 B3
      go_wp2_with fail
      refine C2.mono ?_
      rintro e w4 ⟨rfl, b4⟩
      have B4 := B3.trans (b4.mono B3.size)
      clear C2
      go_wp2
      go_ret
      exact ⟨rfl, B4⟩
set_option maxHeartbeats 2000000 in
set_option maxRecDepth 1000000 in
theorem eqfK_any (l l' : List KP) (ao ao' : Option Addr) (c c' : Nat) (w : World) (hl : l.length ≤ 281474976710656) (hsm : ∀ k ∈ l, k.ps.length ≤ 281474976710656 ∧ k.fs.length ≤ 281474976710656) (hr : IsKs w ao l) (hr' : IsKs w ao' l') :
    Calls Try.prog 36 #[.slice ao l.length c, .slice ao' l'.length c', .func (.func 37) #[] #[]] w fun e w' => e = .returned (.bool (decide (l = l'))) ∧ Below w.heap.size w w' := by
  by_cases he : l'.length = l.length
  case neg =>
    have e1 : ((l.length : Int) == (l'.length : Int)) = false := by
      rw [beq_eq_false_iff_ne]
      omega
    rw [decide_eq_false (fun h => he (by rw [h]))]
    go_enter Try.func36, Try.ntmps36
    go_wp2
    go_ret
    exact ⟨rfl, Below.refl _ _⟩
  have HE := hide he
  rw [he]
  have HV := hide (show ∀ j (h : j < l.length) (h' : j < l'.length), l[j] ≠ l'[j] → decide (l = l') = false from fun j h h' hn => decide_eq_false fun e => hn (by subst e; rfl))
  have HW := hide (show (∀ j (h : j < l.length) (h' : j < l'.length), l[j] = l'[j]) → decide (l = l') = true from fun h => decide_eq_true (List.ext_getElem he.symm h))
  have HSM := hide hsm
  generalize decide (l = l') = z at *
  clear he hsm
  go_enter Try.func36, Try.ntmps36
  go_wp2
  go_loopw [17] (fun iv wr => ∃ i : Nat, iv = .int .i64 i ∧ i ≤ l.length ∧ Below w.heap.size w wr ∧ ∀ k (h : k < l.length) (h' : k < l'.length), k < i → l[k] = l'[k]) (fun iv _ => l.length - (intOf iv).toNat)
  case atStart => exact ⟨0, by go_num, Nat.zero_le _, Below.refl _ _, fun k _ _ h => absurd h (Nat.not_lt_zero _)⟩
  case round =>
    obtain ⟨j, rfl, hj, hbw, hlow⟩ := hrel
    have Hlow := hide hlow
    clear hlow
    by_cases hlt : j < l.length
    · have i1 : (j : Int) < (l.length : Int) := by omega
      have k0 : (0 : Int) ≤ (j : Int) := by omega
      have hlt' : j < l'.length := by rw [unhide HE]; exact hlt
      obtain ⟨x, b, off, rfl, hb, A, hx⟩ := hr.get hbw hlt
      obtain ⟨y, b', off', rfl, hb', B, hy⟩ := hr'.get hbw hlt'
      have b1 := blw1 wr (.cells #[.string x.nm, .slice x.ao x.al x.ac, .slice x.bo x.bl x.bc] 42)
      have B1 := B.below b1 (Nat.lt_of_lt_of_le hb' hbw.size)
      have b2 := blw1 (wr.alloc (.cells #[.string x.nm, .slice x.ao x.al x.ac, .slice x.bo x.bl x.bc] 42)) (.cells #[.string y.nm, .slice y.ao y.al y.ac, .slice y.bo y.bl y.bc] 42)
      have b12 := b1.trans (b2.mono b1.size)
      have b02 := hbw.trans (b12.mono hbw.size)
      have hsj := unhide HSM l[j] (List.getElem_mem hlt)
      have SC := sameKind_any l[j] l'[j] x y _ hsj.1 hsj.2 (hx.below b12) (hy.below b12)
      unfold N3.val at SC
      have HZ := hide (show ∀ q, decide (l[j] = l'[j]) = q → (q = false → z = false) ∧ (q = true → l[j] = l'[j]) from fun q hq => ⟨fun h => unhide HV j hlt hlt' (of_decide_eq_false (hq.trans h)), fun h => of_decide_eq_true (hq.trans h)⟩)
      obtain ⟨q, hq⟩ : ∃ q, decide (l[j] = l'[j]) = q := ⟨_, rfl⟩
      have HZ2 := hide (unhide HZ q hq)
      rw [hq] at SC
      clear hq HZ hx hy hsj
      obtain ⟨a0, a1, a2⟩ := A
      obtain ⟨d0, d1, d2⟩ := B1
      clear B
      go_wp2_with fail
      clear a0 a1 a2 d0 d1 d2
      generalize (wr.alloc _).alloc _ = w2 at *
      refine SC.mono ?_
      clear SC
      rintro e w3 ⟨rfl, b3⟩
      have b03 := b02.trans (b3.mono b02.size)
      cases q
      · have hz := (unhide HZ2).1 (by trivial)
        subst hz
        go_wp2
        go_ret
        exact ⟨rfl, b03⟩
      · have HF := hide ((unhide HZ2).2 (by trivial))
        clear HZ2
        go_wp2
        go_roundw
        case rel =>
          refine ⟨j + 1, by go_num, by omega, b03, fun k h h' hk => ?_⟩
          by_cases hkj : k < j
          · exact unhide Hlow k h h' hkj
          · obtain rfl : k = j := by omega
            exact unhide HF
        case measure =>
          simp only [intOf]
          omega
    · have i1 : ¬ (j : Int) < (l.length : Int) := by omega
      have hz := unhide HW (fun k h h' => unhide Hlow k h h' (by omega))
      subst hz
      go_wp2
      go_ret
      exact ⟨rfl, hbw⟩
set_option maxHeartbeats 2000000 in
set_option maxRecDepth 1000000 in
theorem eqfA_any (l l' : List AP) (ao ao' : Option Addr) (c c' : Nat) (w : World) (hl : l.length ≤ 281474976710656) (hsm : ∀ k ∈ l, k.pr.length ≤ 281474976710656 ∧ k.re.length ≤ 281474976710656) (hr : IsAs w ao l) (hr' : IsAs w ao' l') :
    Calls Try.prog 38 #[.slice ao l.length c, .slice ao' l'.length c', .func (.func 39) #[] #[]] w fun e w' => e = .returned (.bool (decide (l = l'))) ∧ Below w.heap.size w w' := by
  by_cases he : l'.length = l.length
  case neg =>
    have e1 : ((l.length : Int) == (l'.length : Int)) = false := by
      rw [beq_eq_false_iff_ne]
      omega
    rw [decide_eq_false (fun h => he (by rw [h]))]
    go_enter Try.func38, Try.ntmps38
    go_wp2
    go_ret
    exact ⟨rfl, Below.refl _ _⟩
  have HE := hide he
  rw [he]
  have HV := hide (show ∀ j (h : j < l.length) (h' : j < l'.length), l[j] ≠ l'[j] → decide (l = l') = false from fun j h h' hn => decide_eq_false fun e => hn (by subst e; rfl))
  have HW := hide (show (∀ j (h : j < l.length) (h' : j < l'.length), l[j] = l'[j]) → decide (l = l') = true from fun h => decide_eq_true (List.ext_getElem he.symm h))
  have HSM := hide hsm
  generalize decide (l = l') = z at *
  clear he hsm
  go_enter Try.func38, Try.ntmps38
  go_wp2
  go_loopw [17] (fun iv wr => ∃ i : Nat, iv = .int .i64 i ∧ i ≤ l.length ∧ Below w.heap.size w wr ∧ ∀ k (h : k < l.length) (h' : k < l'.length), k < i → l[k] = l'[k]) (fun iv _ => l.length - (intOf iv).toNat)
  case atStart => exact ⟨0, by go_num, Nat.zero_le _, Below.refl _ _, fun k _ _ h => absurd h (Nat.not_lt_zero _)⟩
  case round =>
    obtain ⟨j, rfl, hj, hbw, hlow⟩ := hrel
    have Hlow := hide hlow
    clear hlow
    by_cases hlt : j < l.length
    · have i1 : (j : Int) < (l.length : Int) := by omega
      have k0 : (0 : Int) ≤ (j : Int) := by omega
      have hlt' : j < l'.length := by rw [unhide HE]; exact hlt
      obtain ⟨x, b, off, rfl, hb, A, hx⟩ := hr.get hbw hlt
      obtain ⟨y, b', off', rfl, hb', B, hy⟩ := hr'.get hbw hlt'
      have b1 := blw1 wr (.cells #[.string x.nm, .slice x.ao x.al x.ac, .slice x.bo x.bl x.bc] 44)
      have B1 := B.below b1 (Nat.lt_of_lt_of_le hb' hbw.size)
      have b2 := blw1 (wr.alloc (.cells #[.string x.nm, .slice x.ao x.al x.ac, .slice x.bo x.bl x.bc] 44)) (.cells #[.string y.nm, .slice y.ao y.al y.ac, .slice y.bo y.bl y.bc] 44)
      have b12 := b1.trans (b2.mono b1.size)
      have b02 := hbw.trans (b12.mono hbw.size)
      have hsj := unhide HSM l[j] (List.getElem_mem hlt)
      have SC := sameAction_any l[j] l'[j] x y _ hsj.1 hsj.2 (hx.below b12) (hy.below b12)
      unfold N3.val at SC
      have HZ := hide (show ∀ q, decide (l[j] = l'[j]) = q → (q = false → z = false) ∧ (q = true → l[j] = l'[j]) from fun q hq => ⟨fun h => unhide HV j hlt hlt' (of_decide_eq_false (hq.trans h)), fun h => of_decide_eq_true (hq.trans h)⟩)
      obtain ⟨q, hq⟩ : ∃ q, decide (l[j] = l'[j]) = q := ⟨_, rfl⟩
      have HZ2 := hide (unhide HZ q hq)
      rw [hq] at SC
      clear hq HZ hx hy hsj
      obtain ⟨a0, a1, a2⟩ := A
      obtain ⟨d0, d1, d2⟩ := B1
      clear B
      go_wp2_with fail
      clear a0 a1 a2 d0 d1 d2
      generalize (wr.alloc _).alloc _ = w2 at *
      refine SC.mono ?_
      clear SC
      rintro e w3 ⟨rfl, b3⟩
      have b03 := b02.trans (b3.mono b02.size)
      cases q
      · have hz := (unhide HZ2).1 (by trivial)
        subst hz
        go_wp2
        go_ret
        exact ⟨rfl, b03⟩
      · have HF := hide ((unhide HZ2).2 (by trivial))
        clear HZ2
        go_wp2
        go_roundw
        case rel =>
          refine ⟨j + 1, by go_num, by omega, b03, fun k h h' hk => ?_⟩
          by_cases hkj : k < j
          · exact unhide Hlow k h h' hkj
          · obtain rfl : k = j := by omega
            exact unhide HF
        case measure =>
          simp only [intOf]
          omega
    · have i1 : ¬ (j : Int) < (l.length : Int) := by omega
      have hz := unhide HW (fun k h h' => unhide Hlow k h h' (by omega))
      subst hz
      go_wp2
      go_ret
      exact ⟨rfl, hbw⟩
set_option maxHeartbeats 2000000 in
set_option maxRecDepth 1000000 in
theorem mSame_any (s t : SP) (v u : Value) (w : World) (hsm : SmallAll s) (hs : IsS w v s) (ht : IsS w u t) :
    Calls Try.prog 15 #[v, u] w fun e w' => e = .returned (.bool (decide (s = t))) ∧ Below w.heap.size w w' := by
  obtain ⟨xko, xkc, xao, xac, rfl, hk, ha⟩ := hs.ex
  obtain ⟨yko, ykc, yao, yac, rfl, hk', ha'⟩ := ht.ex
  have HE := hide (show decide (s = t) = (decide (s.ks = t.ks) && decide (s.ac = t.ac)) by
    cases s
    cases t
    simp)
  have b2 := blw2 w (.cells #[.slice xko s.ks.length xkc, .slice xao s.ac.length xac] 25) (.cells #[.slice yko t.ks.length ykc, .slice yao t.ac.length yac] 25)
  have Hx : ((w.alloc (.cells #[.slice xko s.ks.length xkc, .slice xao s.ac.length xac] 25)).alloc (.cells #[.slice yko t.ks.length ykc, .slice yao t.ac.length yac] 25)).heap[w.heap.size]? = some (.cells #[.slice xko s.ks.length xkc, .slice xao s.ac.length xac] 25 (0, 0)) := by
    rw [Below.heap_alloc _ _ _ (by simp)]
    exact alloc_heap _ _
  have Hy : ((w.alloc (.cells #[.slice xko s.ks.length xkc, .slice xao s.ac.length xac] 25)).alloc (.cells #[.slice yko t.ks.length ykc, .slice yao t.ac.length yac] 25)).heap[w.heap.size + 1]? = some (.cells #[.slice yko t.ks.length ykc, .slice yao t.ac.length yac] 25 (0, 0)) := by
    have := alloc_heap (w.alloc (.cells #[.slice xko s.ks.length xkc, .slice xao s.ac.length xac] 25)) (.cells #[.slice yko t.ks.length ykc, .slice yao t.ac.length yac] 25)
    simpa using this
  have z2 : w.heap.size + 2 ≤ ((w.alloc (.cells #[.slice xko s.ks.length xkc, .slice xao s.ac.length xac] 25)).alloc (.cells #[.slice yko t.ks.length ykc, .slice yao t.ac.length yac] 25)).heap.size := by simp
  have x0 : ((w.alloc (.cells #[.slice xko s.ks.length xkc, .slice xao s.ac.length xac] 25)).alloc (.cells #[.slice yko t.ks.length ykc, .slice yao t.ac.length yac] 25)).cell? ⟨w.heap.size, 0, none⟩ = some (.slice xko s.ks.length xkc) := by rw [Lib.cell_of_heap Hx]; rfl
  have x1 : ((w.alloc (.cells #[.slice xko s.ks.length xkc, .slice xao s.ac.length xac] 25)).alloc (.cells #[.slice yko t.ks.length ykc, .slice yao t.ac.length yac] 25)).cell? ⟨w.heap.size, 1, none⟩ = some (.slice xao s.ac.length xac) := by rw [Lib.cell_of_heap Hx]; rfl
  have y0 : ((w.alloc (.cells #[.slice xko s.ks.length xkc, .slice xao s.ac.length xac] 25)).alloc (.cells #[.slice yko t.ks.length ykc, .slice yao t.ac.length yac] 25)).cell? ⟨w.heap.size + 1, 0, none⟩ = some (.slice yko t.ks.length ykc) := by rw [Lib.cell_of_heap Hy]; rfl
  have y1 : ((w.alloc (.cells #[.slice xko s.ks.length xkc, .slice xao s.ac.length xac] 25)).alloc (.cells #[.slice yko t.ks.length ykc, .slice yao t.ac.length yac] 25)).cell? ⟨w.heap.size + 1, 1, none⟩ = some (.slice yao t.ac.length yac) := by rw [Lib.cell_of_heap Hy]; rfl
  have C1 := eqfK_any s.ks t.ks xko yko xkc ykc _ hsm.sm.1 (fun k hk => by
    obtain ⟨j, hj, rfl⟩ := List.getElem_of_mem hk
    exact ⟨(hsm.k j hj).ps, (hsm.k j hj).fs⟩) (hk.below b2) (hk'.below b2)
  have C2 := fun w' (hb : Below w.heap.size w w') => eqfA_any s.ac t.ac xao yao xac yac w' hsm.sm.2 (fun k hk => by
    obtain ⟨j, hj, rfl⟩ := List.getElem_of_mem hk
    exact ⟨(hsm.a j hj).pr, (hsm.a j hj).re⟩) (ha.below hb) (ha'.below hb)
  generalize decide (s = t) = z at *
  generalize decide (s.ks = t.ks) = z1 at *
  generalize decide (s.ac = t.ac) = z2' at *
  clear hs ht hk ha hk' ha' Hx Hy hsm
  go_enter Try.func15, Try.ntmps15
  go_wp2_with fail
  generalize (w.alloc _).alloc _ = w2 at *
  refine C1.mono ?_
  clear C1
  rintro e w3 ⟨rfl, b3⟩
  have B3 := b2.trans (b3.mono b2.size)
  have x1' := (b3.cell (p := ⟨w.heap.size, 1, none⟩) (by show w.heap.size < _; omega)).trans x1
  have y1' := (b3.cell (p := ⟨w.heap.size + 1, 1, none⟩) (by show w.heap.size + 1 < _; omega)).trans y1
  cases z1
  · have hz : z = false := unhide HE
    subst hz
    clear C2
    go_wp2
    go_ret
    exact ⟨rfl, B3⟩
  · have hz : z = z2' := unhide HE
    subst hz
    have C2 := C2 w3 B3
    go_wp2_with fail
    refine C2.mono ?_
    rintro e w4 ⟨rfl, b4⟩
    have B4 := B3.trans (b4.mono B3.size)
    clear C2
    go_wp2
    go_ret
    exact ⟨rfl, B4⟩
end Go.Proofs.Ytbcddjaecdoliaa

namespace Go.Proofs.Ytbcddjaecdoliaa
open Go.RowKit Go.Sort

set_option maxHeartbeats 2000000 in
set_option maxRecDepth 1000000 in
theorem rin_any (l : List ByteArray) (n : ByteArray) (ao : Option Addr) (cap : Nat) (w : World) (hl : l.length ≤ 281474976710656) (hr : RowS w ao l) :
    Calls Try.prog 47 #[.slice ao l.length cap, .string n] w fun e w' => e = .returned (.bool (!noneB l n)) ∧ Below w.heap.size w w' := by
  have HR := hide hr
  have HF := hide (show ∀ j (h : j < l.length), l[j] = n → noneB l n = false from fun j h e => noneB_false (e ▸ List.getElem_mem h))
  have HT := hide (show (∀ j (h : j < l.length), l[j] ≠ n) → noneB l n = true from fun h => noneB_true fun hm => by
    obtain ⟨j, hj, e⟩ := List.getElem_of_mem hm
    exact h j hj e)
  generalize noneB l n = z at *
  clear hr
  go_enter Try.func47, Try.ntmps47
  go_wp2
  go_loopw [5] (fun iv wr => ∃ i : Nat, iv = .int .i64 i ∧ i ≤ l.length ∧ Below w.heap.size w wr ∧ ∀ j (hj : j < l.length), j < i → l[j] ≠ n) (fun iv _ => l.length - (intOf iv).toNat)
  case atStart => exact ⟨0, by go_num, Nat.zero_le _, Below.refl _ _, fun j _ h => absurd h (Nat.not_lt_zero _)⟩
  case round =>
    obtain ⟨i, rfl, hil, hbw, hlo⟩ := hrel
    have Hlo := hide hlo
    clear hlo
    by_cases hlt : i < l.length
    · have i0 : (0 : Int) ≤ (i : Int) := by omega
      have i1 : (i : Int) < (l.length : Int) := by omega
      obtain ⟨g, off, rfl, hg, hx⟩ := (unhide HR).get hbw hlt
      obtain ⟨x, hxe⟩ : ∃ x, x = l[i] := ⟨_, rfl⟩
      rw [← hxe] at hx
      have Hx := hide hxe
      clear hxe
      by_cases he : x = n
      · have hd : (x.toList == n.toList) = true := by rw [he]; exact beq_self_eq_true _
        have hz := unhide HF i hlt ((unhide Hx).symm.trans he)
        subst hz
        clear he
        go_wp2
        go_ret
        exact ⟨rfl, hbw⟩
      · have hd : (x.toList == n.toList) = false := bytes_ne he
        have He := hide he
        clear he
        go_wp2
        go_roundw
        case rel =>
          refine ⟨i + 1, by go_num, by omega, hbw, fun j hj hji => ?_⟩
          by_cases e : j = i
          · subst e
            exact fun h => unhide He ((unhide Hx).trans h)
          · exact unhide Hlo j hj (by omega)
        case measure =>
          simp only [intOf]
          omega
    · have i1 : ¬ (i : Int) < (l.length : Int) := by omega
      have hz := unhide HT (fun j hj => unhide Hlo j hj (by omega))
      subst hz
      go_wp2
      go_ret
      exact ⟨rfl, hbw⟩
/-- What is found of an action's name, in short. -/
def FitsOfS (s : SP) (n : ByteArray) (is : Bool) (A : AP) : Prop := (is = true ∧ actOf s n = some A) ∨ (is = false ∧ actOf s n = none)
theorem found_actS {s : SP} {n : ByteArray} {e : Ending} {w' : World} (h : FoundA s n e w') (hs : ∀ j (h : j < s.ac.length), SmallA s.ac[j]) : ∃ (x : N3) (is : Bool) (A : AP), e = .returned (.tuple #[.agg #[.string x.nm, .slice x.ao x.al x.ac, .slice x.bo x.bl x.bc], .bool is]) ∧ IsA w' x A ∧ FitsOfS s n is A ∧ A.pr.length ≤ 281474976710656 ∧ A.re.length ≤ 281474976710656 := by
  rcases h with ⟨h1, h2⟩ | ⟨i, hi, x, h1, h3, h4⟩
  · refine ⟨zN3, false, ⟨⟨#[]⟩, [], []⟩, h2, ⟨rfl, rfl, rowG_nil _ _ _, rfl, rowG_nil _ _ _⟩, .inr ⟨rfl, ?_⟩, by simp, by simp⟩
    rcases actOf_place (s := s) (n := n) (z := -1) (.inl ⟨rfl, h1⟩) with ⟨_, h⟩ | ⟨i, _, e, _⟩
    · exact h
    · omega
  · have ha := hs i hi
    refine ⟨x, true, s.ac[i], h4, h3, .inl ⟨rfl, ?_⟩, ha.pr, ha.re⟩
    rcases actOf_place h1 with ⟨h, _⟩ | ⟨j, hj, e, h⟩
    · omega
    · have : i = j := by omega
      subst this
      exact h
theorem fits_told {s : SP} {q : Q6} {is : Bool} {A : AP} (h : FitsOfS s q.ai is A) : fitsC s q = if !(q.at_.toList == sAction.toList) || !is then 15 else if noneB A.pr q.pt || noneB A.re q.rt then 16 else 0 := by
  unfold fitsC
  rw [← beq_bytesS]
  by_cases ha : q.at_ = sAction
  · rw [if_pos ha, decide_eq_true ha]
    rcases h with ⟨rfl, h⟩ | ⟨rfl, h⟩
    · rw [h]
      simp
    · rw [h]
      simp
  · rw [if_neg ha, decide_eq_false ha]
    simp
set_option maxHeartbeats 4000000 in
set_option maxRecDepth 1000000 in
theorem rfits_any (s : SP) (v : Value) (q : Q6) (w : World) (hl : s.ac.length ≤ 281474976710656) (hla : ∀ j (h : j < s.ac.length), SmallA s.ac[j]) (hs : IsS w v s) :
    Calls Try.prog 25 #[v, q.val] w fun e w' => e = .returned (.int .i64 (fitsC s q)) ∧ Below w.heap.size w w' := by
  obtain ⟨ko, kc, ao, ac, rfl, _, _⟩ := hs.ex
  have HFT := hide (fun is A (h : FitsOfS s q.ai is A) => fits_told (q := q) h)
  obtain ⟨pt, pi, at_, ai, rt, ri⟩ := q
  simp only at HFT
  unfold Q6.val
  simp only
  have B := blw2 w (.cells #[.slice ko s.ks.length kc, .slice ao s.ac.length ac] 25) (.cells #[.string pt, .string pi, .string at_, .string ai, .string rt, .string ri] 58)
  have C := (rAction_any s _ ai _ hl (hs.below B)).mono (fun e w9 h => And.intro (found_actS h.1 hla) h.2)
  have c0 : ((w.alloc (.cells #[.slice ko s.ks.length kc, .slice ao s.ac.length ac] 25)).alloc (.cells #[.string pt, .string pi, .string at_, .string ai, .string rt, .string ri] 58)).cell? ⟨w.heap.size, 0, none⟩ = some (.slice ko s.ks.length kc) := by simp
  have c1 : ((w.alloc (.cells #[.slice ko s.ks.length kc, .slice ao s.ac.length ac] 25)).alloc (.cells #[.string pt, .string pi, .string at_, .string ai, .string rt, .string ri] 58)).cell? ⟨w.heap.size, 1, none⟩ = some (.slice ao s.ac.length ac) := by simp
  have q0 : ((w.alloc (.cells #[.slice ko s.ks.length kc, .slice ao s.ac.length ac] 25)).alloc (.cells #[.string pt, .string pi, .string at_, .string ai, .string rt, .string ri] 58)).cell? ⟨w.heap.size + 1, 0, none⟩ = some (.string pt) := by simp
  have q2 : ((w.alloc (.cells #[.slice ko s.ks.length kc, .slice ao s.ac.length ac] 25)).alloc (.cells #[.string pt, .string pi, .string at_, .string ai, .string rt, .string ri] 58)).cell? ⟨w.heap.size + 1, 2, none⟩ = some (.string at_) := by simp
  have q3 : ((w.alloc (.cells #[.slice ko s.ks.length kc, .slice ao s.ac.length ac] 25)).alloc (.cells #[.string pt, .string pi, .string at_, .string ai, .string rt, .string ri] 58)).cell? ⟨w.heap.size + 1, 3, none⟩ = some (.string ai) := by simp
  have q4 : ((w.alloc (.cells #[.slice ko s.ks.length kc, .slice ao s.ac.length ac] 25)).alloc (.cells #[.string pt, .string pi, .string at_, .string ai, .string rt, .string ri] 58)).cell? ⟨w.heap.size + 1, 4, none⟩ = some (.string rt) := by simp
  have z2 : w.heap.size + 2 ≤ ((w.alloc (.cells #[.slice ko s.ks.length kc, .slice ao s.ac.length ac] 25)).alloc (.cells #[.string pt, .string pi, .string at_, .string ai, .string rt, .string ri] 58)).heap.size := by simp
  generalize fitsC s ⟨pt, pi, at_, ai, rt, ri⟩ = FC at *
  clear hs hla
  go_enter Try.func25, Try.ntmps25
  go_wp2_with fail
  generalize (w.alloc _).alloc _ = w2 at *
  refine C.mono ?_
  clear C
  rintro e w3 ⟨⟨x, is, A, rfl, hA, hF, hl1, hl2⟩, b3⟩
  obtain ⟨xn, xao, xal, xac, xbo, xbl, xbc⟩ := x
  obtain ⟨k1, k2, k3, k4, k5⟩ := hA
  simp only at k1 k2 k3 k4 k5
  subst k2 k4
  have HE := hide (unhide HFT is A hF)
  clear HFT hF k1
  have b4 := blw1 w3 (.cells #[.string xn, .slice xao A.pr.length xac, .slice xbo A.re.length xbc] 44)
  have b24 := b3.trans (b4.mono b3.size)
  have B4 := B.trans (b24.mono B.size)
  have C1 := rin_any A.pr pt xao xac _ hl1 (k3.below b4)
  have C2 := fun w' (hb : Below (w3.alloc (.cells #[.string xn, .slice xao A.pr.length xac, .slice xbo A.re.length xbc] 44)).heap.size (w3.alloc (.cells #[.string xn, .slice xao A.pr.length xac, .slice xbo A.re.length xbc] 44)) w') => rin_any A.re rt xbo xbc w' hl2 ((k5.below b4).below hb)
  have q0' := (b24.cell (p := ⟨w.heap.size + 1, 0, none⟩) (by show w.heap.size + 1 < _; omega)).trans q0
  have q2' := (b24.cell (p := ⟨w.heap.size + 1, 2, none⟩) (by show w.heap.size + 1 < _; omega)).trans q2
  have q4' := (b24.cell (p := ⟨w.heap.size + 1, 4, none⟩) (by show w.heap.size + 1 < _; omega)).trans q4
  have x1 : (w3.alloc (.cells #[.string xn, .slice xao A.pr.length xac, .slice xbo A.re.length xbc] 44)).cell? ⟨w3.heap.size, 1, none⟩ = some (.slice xao A.pr.length xac) := by simp
  have x2 : (w3.alloc (.cells #[.string xn, .slice xao A.pr.length xac, .slice xbo A.re.length xbc] 44)).cell? ⟨w3.heap.size, 2, none⟩ = some (.slice xbo A.re.length xbc) := by simp
  have z4 : w3.heap.size < (w3.alloc (.cells #[.string xn, .slice xao A.pr.length xac, .slice xbo A.re.length xbc] 44)).heap.size := by simp
  have z24 := b24.size
  generalize noneB A.pr pt = y1 at *
  generalize noneB A.re rt = y2 at *
  obtain ⟨ea, hea⟩ : ∃ ea, (at_.toList == sAction.toList) = ea := ⟨_, rfl⟩
  rw [hea] at HE
  have hea' : (at_.toList == [65, 99, 116, 105, 111, 110]) = ea := by rw [show sAction.toList = [65, 99, 116, 105, 111, 110] by rw [ByteArray.toList_eq]; rfl] at hea; exact hea
  clear hea k3 k5 c0 c1 q3 q0 q2 q4
  cases ea
  case false =>
    have hz : FC = 15 := (unhide HE).trans rfl
    subst hz
    clear C1 C2 HE
    go_wp2
    go_ret
    exact ⟨rfl, B4⟩
  cases is
  case false =>
    have hz : FC = 15 := (unhide HE).trans rfl
    subst hz
    clear C1 C2 HE
    go_wp2
    go_ret
    exact ⟨rfl, B4⟩
  have HE := hide (show FC = if y1 || y2 then 16 else 0 from (unhide HE).trans rfl)
  go_wp2_with fail
  generalize w3.alloc _ = w4 at *
  refine C1.mono ?_
  clear C1
  rintro e w5 ⟨rfl, b5⟩
  have B5 := B4.trans (b5.mono B4.size)
  cases y1
  case true =>
    have hz : FC = 16 := (unhide HE).trans rfl
    subst hz
    clear C2 HE
    go_wp2
    go_ret
    exact ⟨rfl, B5⟩
  have C2 := C2 w5 b5
  have x2' := (b5.cell (p := ⟨w3.heap.size, 2, none⟩) (by show w3.heap.size < _; omega)).trans x2
  have q4'' := (b5.cell (p := ⟨w.heap.size + 1, 4, none⟩) (by show w.heap.size + 1 < _; omega)).trans q4'
  go_wp2_with fail
  refine C2.mono ?_
  clear C2
  rintro e w6 ⟨rfl, b6⟩
  have B6 := B5.trans (b6.mono B5.size)
  cases y2
  · have hz : FC = 0 := (unhide HE).trans rfl
    subst hz
    go_wp2
    go_ret
    exact ⟨rfl, B6⟩
  · have hz : FC = 16 := (unhide HE).trans rfl
    subst hz
    go_wp2
    go_ret
    exact ⟨rfl, B6⟩
end Go.Proofs.Ytbcddjaecdoliaa

namespace Go.Proofs.Ytbcddjaecdoliaa
open Go.RowKit Go.Sort

theorem kp_ext {k k' : KP} (h1 : k.nm = k'.nm) (h2 : k.ps = k'.ps) (h3 : k.fs = k'.fs) : k = k' := by
  cases k
  cases k'
  simp_all
theorem ap_ext {k k' : AP} (h1 : k.nm = k'.nm) (h2 : k.pr = k'.pr) (h3 : k.re = k'.re) : k = k' := by
  cases k
  cases k'
  simp_all
/-- Two places are made, and each is filled: what has been done of it. -/
structure PP (w0 : World) (T : TypeId) (sa sb : Nat) (ca cb : Array Value) (L : Nat → Bool) (a' : Act) (w' : World) : Prop where
  below : Below w0.heap.size w0 w'
  A : L 10 = true → ∃ V, a'.tmps.getD sa undef = .pointer (some ⟨V, 0, none⟩) ∧ w0.heap.size ≤ V ∧ V < w'.heap.size ∧ w'.heap[V]? = some (.cells (if L 12 = true then ca else #[.string ⟨#[]⟩, .slice none 0 0, .slice none 0 0]) T (0, 0))
  B : L 11 = true → ∃ V, a'.tmps.getD sb undef = .pointer (some ⟨V, 0, none⟩) ∧ w0.heap.size ≤ V ∧ V < w'.heap.size ∧ w'.heap[V]? = some (.cells (if L 13 = true then cb else #[.string ⟨#[]⟩, .slice none 0 0, .slice none 0 0]) T (0, 0))
  ne : L 10 = true → L 11 = true → a'.tmps.getD sa undef ≠ a'.tmps.getD sb undef
  oA : L 12 = true → L 10 = true
  oB : L 13 = true → L 11 = true
section
variable {w0 : World} {T : TypeId} {sa sb : Nat} {ca cb : Array Value} {L : Nat → Bool} {a' : Act} {w' w'' : World}
theorem PP.start (a : Act) (w0 : World) : PP w0 T sa sb ca cb (fun _ => false) a w0.drew := ⟨(Below.refl _ _).drew, fun h => (by cases h), fun h => (by cases h), fun h => (by cases h), fun h => (by cases h), fun h => (by cases h)⟩
theorem PP.step (h : PP w0 T sa sb ca cb L a' w') (hb : Below w'.heap.size w' w'') (i d : Nat) (v : Value) (h10 : i ≠ 10) (h11 : i ≠ 11) (h12 : i ≠ 12) (h13 : i ≠ 13) (hda : d ≠ sa) (hdb : d ≠ sb) : PP w0 T sa sb ca cb (fun j => decide (j = i) || L j) (a'.put (some d) v) w'' := by
  have e10 : (decide (10 = i) || L 10) = L 10 := by simp [Ne.symm h10]
  have e11 : (decide (11 = i) || L 11) = L 11 := by simp [Ne.symm h11]
  have e12 : (decide (12 = i) || L 12) = L 12 := by simp [Ne.symm h12]
  have e13 : (decide (13 = i) || L 13) = L 13 := by simp [Ne.symm h13]
  refine ⟨h.below.trans (hb.mono h.below.size), ?_, ?_, ?_, ?_, ?_⟩ <;> simp only [e10, e11, e12, e13, put_other _ _ _ _ hda, put_other _ _ _ _ hdb]
  · intro y
    obtain ⟨V, x1, x2, x3, x4⟩ := h.A y
    exact ⟨V, x1, x2, Nat.lt_of_lt_of_le x3 hb.size, kept_of_below hb x4⟩
  · intro y
    obtain ⟨V, x1, x2, x3, x4⟩ := h.B y
    exact ⟨V, x1, x2, Nat.lt_of_lt_of_le x3 hb.size, kept_of_below hb x4⟩
  · exact h.ne
  · exact h.oA
  · exact h.oB
theorem PP.allocA (h : PP w0 T sa sb ca cb L a' w') (hL : L 10 = false) (hs : sa < a'.tmps.size) (hab : sb ≠ sa) : PP w0 T sa sb ca cb (fun j => decide (j = 10) || L j) (a'.put (some sa) (.pointer (some ⟨w'.heap.size, 0, none⟩))) (w'.alloc (.cells #[.string ⟨#[]⟩, .slice none 0 0, .slice none 0 0] T)) := by
  have n12 : L 12 = false := by
    cases e : L 12 with
    | false => rfl
    | true => rw [h.oA e] at hL; cases hL
  have hb := blw1 w' (.cells #[.string ⟨#[]⟩, .slice none 0 0, .slice none 0 0] T)
  have e12 : (decide (12 = 10) || L 12) = L 12 := by simp
  have e11 : (decide (11 = 10) || L 11) = L 11 := by simp
  have e13 : (decide (13 = 10) || L 13) = L 13 := by simp
  refine ⟨h.below.trans (hb.mono h.below.size), fun _ => ⟨w'.heap.size, put_same _ _ _ hs, h.below.size, by simp, ?_⟩, ?_, ?_, fun y => by simp, ?_⟩
  · simp only [n12]
    exact alloc_heap _ _
  · simp only [e11, e13, put_other _ _ _ _ (Ne.symm hab)]
    intro y
    obtain ⟨V, x1, x2, x3, x4⟩ := h.B y
    exact ⟨V, x1, x2, Nat.lt_of_lt_of_le x3 hb.size, kept_of_below hb x4⟩
  · simp only [e11, put_other _ _ _ _ (Ne.symm hab), put_same _ _ _ hs]
    intro _ y e
    obtain ⟨V, x1, x2, x3, x4⟩ := h.B y
    rw [x1] at e
    injection e with e
    injection e with e
    injection e with e
    omega
  · simp only [e11, e13]
    exact h.oB
theorem PP.allocB (h : PP w0 T sa sb ca cb L a' w') (hL : L 11 = false) (hs : sb < a'.tmps.size) (hab : sa ≠ sb) : PP w0 T sa sb ca cb (fun j => decide (j = 11) || L j) (a'.put (some sb) (.pointer (some ⟨w'.heap.size, 0, none⟩))) (w'.alloc (.cells #[.string ⟨#[]⟩, .slice none 0 0, .slice none 0 0] T)) := by
  have n13 : L 13 = false := by
    cases e : L 13 with
    | false => rfl
    | true => rw [h.oB e] at hL; cases hL
  have hb := blw1 w' (.cells #[.string ⟨#[]⟩, .slice none 0 0, .slice none 0 0] T)
  have e12 : (decide (12 = 11) || L 12) = L 12 := by simp
  have e10 : (decide (10 = 11) || L 10) = L 10 := by simp
  have e13 : (decide (13 = 11) || L 13) = L 13 := by simp
  refine ⟨h.below.trans (hb.mono h.below.size), ?_, fun _ => ⟨w'.heap.size, put_same _ _ _ hs, h.below.size, by simp, ?_⟩, ?_, ?_, fun y => by simp⟩
  · simp only [e10, e12, put_other _ _ _ _ (Ne.symm hab)]
    intro y
    obtain ⟨V, x1, x2, x3, x4⟩ := h.A y
    exact ⟨V, x1, x2, Nat.lt_of_lt_of_le x3 hb.size, kept_of_below hb x4⟩
  · simp only [n13]
    exact alloc_heap _ _
  · simp only [e10, put_other _ _ _ _ (Ne.symm hab), put_same _ _ _ hs]
    intro y _ e
    obtain ⟨V, x1, x2, x3, x4⟩ := h.A y
    rw [x1] at e
    injection e with e
    injection e with e
    injection e with e
    omega
  · simp only [e10, e12]
    exact h.oA
theorem set3_at (w : World) (V : Nat) (a b c : Value) (h : w.heap[V]? = some (.cells #[.string ⟨#[]⟩, .slice none 0 0, .slice none 0 0] T (0, 0))) : (((w.setCell ⟨V, 0, none⟩ a).setCell ⟨V, 1, none⟩ b).setCell ⟨V, 2, none⟩ c).heap[V]? = some (.cells #[a, b, c] T (0, 0)) := by
  have h1 := heap_setCell_same w V 0 _ _ a h
  have h2 := heap_setCell_same _ V 1 _ _ b h1
  exact heap_setCell_same _ V 2 _ _ c h2
theorem set3_ne (w : World) (V : Nat) (a b c : Value) (k : Nat) (hk : k ≠ V) : (((w.setCell ⟨V, 0, none⟩ a).setCell ⟨V, 1, none⟩ b).setCell ⟨V, 2, none⟩ c).heap[k]? = w.heap[k]? := (Below.heap_setCell _ ⟨V, 2, none⟩ _ k hk).trans ((Below.heap_setCell _ ⟨V, 1, none⟩ _ k hk).trans (Below.heap_setCell _ ⟨V, 0, none⟩ _ k hk))
theorem PP.storeA {x y z : Value} (h : PP w0 T sa sb #[x, y, z] cb L a' w') (hA : L 10 = true) (hL : L 12 = false) : ∃ V, a'.tmps.getD sa undef = .pointer (some ⟨V, 0, none⟩) ∧ w'.heap[V]? = some (.cells #[.string ⟨#[]⟩, .slice none 0 0, .slice none 0 0] T (0, 0)) ∧ PP w0 T sa sb #[x, y, z] cb (fun j => decide (j = 12) || L j) a' (((w'.setCell ⟨V, 0, none⟩ x).setCell ⟨V, 1, none⟩ y).setCell ⟨V, 2, none⟩ z) := by
  obtain ⟨V, x1, x2, x3, x4⟩ := h.A hA
  rw [hL, if_neg (by decide)] at x4
  have e10 : (decide (10 = 12) || L 10) = L 10 := by simp
  have e11 : (decide (11 = 12) || L 11) = L 11 := by simp
  have e13 : (decide (13 = 12) || L 13) = L 13 := by simp
  refine ⟨V, x1, x4, ((h.below.setCell (p := ⟨V, 0, none⟩) x2 _).setCell (p := ⟨V, 1, none⟩) x2 _).setCell (p := ⟨V, 2, none⟩) x2 _, fun _ => ⟨V, x1, x2, by simpa using x3, ?_⟩, ?_, ?_, fun _ => by simp [hA], ?_⟩
  · simp only [decide_true, Bool.true_or, if_true]
    exact set3_at w' V x y z x4
  · simp only [e11, e13]
    intro q
    obtain ⟨U, u1, u2, u3, u4⟩ := h.B q
    refine ⟨U, u1, u2, by simpa using u3, (set3_ne w' V x y z U (fun e => h.ne hA q (by rw [x1, u1, e]))).trans u4⟩
  · simp only [e10, e11]
    exact h.ne
  · simp only [e11, e13]
    exact h.oB
theorem PP.storeB {x y z : Value} (h : PP w0 T sa sb ca #[x, y, z] L a' w') (hB : L 11 = true) (hL : L 13 = false) : ∃ V, a'.tmps.getD sb undef = .pointer (some ⟨V, 0, none⟩) ∧ w'.heap[V]? = some (.cells #[.string ⟨#[]⟩, .slice none 0 0, .slice none 0 0] T (0, 0)) ∧ PP w0 T sa sb ca #[x, y, z] (fun j => decide (j = 13) || L j) a' (((w'.setCell ⟨V, 0, none⟩ x).setCell ⟨V, 1, none⟩ y).setCell ⟨V, 2, none⟩ z) := by
  obtain ⟨V, x1, x2, x3, x4⟩ := h.B hB
  rw [hL, if_neg (by decide)] at x4
  have e10 : (decide (10 = 13) || L 10) = L 10 := by simp
  have e11 : (decide (11 = 13) || L 11) = L 11 := by simp
  have e12 : (decide (12 = 13) || L 12) = L 12 := by simp
  refine ⟨V, x1, x4, ((h.below.setCell (p := ⟨V, 0, none⟩) x2 _).setCell (p := ⟨V, 1, none⟩) x2 _).setCell (p := ⟨V, 2, none⟩) x2 _, ?_, fun _ => ⟨V, x1, x2, by simpa using x3, ?_⟩, ?_, ?_, fun _ => by simp [hB]⟩
  · simp only [e10, e12]
    intro q
    obtain ⟨U, u1, u2, u3, u4⟩ := h.A q
    refine ⟨U, u1, u2, by simpa using u3, (set3_ne w' V x y z U (fun e => h.ne q hB (by rw [x1, u1, e]))).trans u4⟩
  · simp only [decide_true, Bool.true_or, if_true]
    exact set3_at w' V x y z x4
  · simp only [e10, e11]
    exact h.ne
  · simp only [e10, e12]
    exact h.oA
end
def ppSp (S1 S2 fld : Nat) (xr yr : Value) (i gx o gy o' : Nat) (xv yv : Value) : Nat → Value → World → Prop
  | 0, v, _ => v = .pointer (some ⟨S1, fld, none⟩)
  | 1, v, _ => v = xr
  | 2, v, _ => v = .int .i64 i
  | 3, v, _ => v = .pointer (some ⟨gx, o, none⟩)
  | 4, v, _ => v = xv
  | 5, v, _ => v = .pointer (some ⟨S2, fld, none⟩)
  | 6, v, _ => v = yr
  | 7, v, _ => v = .int .i64 i
  | 8, v, _ => v = .pointer (some ⟨gy, o', none⟩)
  | 9, v, _ => v = yv
  | _ + 10, _, _ => True
theorem ppSp_up {S1 S2 fld : Nat} {xr yr : Value} {i gx o gy o' : Nat} {xv yv : Value} {w w' : World} : ∀ q u, ppSp S1 S2 fld xr yr i gx o gy o' xv yv q u w → ppSp S1 S2 fld xr yr i gx o gy o' xv yv q u w'
  | 0, _, h | 1, _, h | 2, _, h | 3, _, h | 4, _, h | 5, _, h | 6, _, h | 7, _, h | 8, _, h | 9, _, h => h
  | _ + 10, _, _ => trivial

set_option maxHeartbeats 8000000 in
set_option maxRecDepth 1000000 in
theorem rSame_any (s t : SP) (v u : Value) (w : World) (hsm : SmallAll s) (hs : IsS w v s) (ht : IsS w u t) :
    Calls Try.prog 16 #[v, u] w fun e w' => e = .returned (.bool (decide (s = t))) ∧ Below w.heap.size w w' := by
  obtain ⟨xko, xkc, xao, xac, rfl, hk, ha⟩ := hs.ex
  obtain ⟨yko, ykc, yao, yac, rfl, hk', ha'⟩ := ht.ex
  have HNK := hide (show t.ks.length ≠ s.ks.length → decide (s = t) = false from fun h => decide_eq_false fun e => h (by rw [e]))
  have HNA := hide (show t.ac.length ≠ s.ac.length → decide (s = t) = false from fun h => decide_eq_false fun e => h (by rw [e]))
  have HVK := hide (show ∀ j (h : j < s.ks.length) (h' : j < t.ks.length), s.ks[j] ≠ t.ks[j] → decide (s = t) = false from fun j h h' hn => decide_eq_false fun e => hn (by subst e; rfl))
  have HVA := hide (show ∀ j (h : j < s.ac.length) (h' : j < t.ac.length), s.ac[j] ≠ t.ac[j] → decide (s = t) = false from fun j h h' hn => decide_eq_false fun e => hn (by subst e; rfl))
  have HW := hide (show s.ks = t.ks → s.ac = t.ac → decide (s = t) = true from fun h1 h2 => decide_eq_true (by cases s; cases t; simp_all))
  have HSM := hide hsm
  have hlk := hsm.sm.1
  have hla := hsm.sm.2
  generalize decide (s = t) = z at *
  have b2 := blw2 w (.cells #[.slice xko s.ks.length xkc, .slice xao s.ac.length xac] 25) (.cells #[.slice yko t.ks.length ykc, .slice yao t.ac.length yac] 25)
  have Hx : ((w.alloc (.cells #[.slice xko s.ks.length xkc, .slice xao s.ac.length xac] 25)).alloc (.cells #[.slice yko t.ks.length ykc, .slice yao t.ac.length yac] 25)).heap[w.heap.size]? = some (.cells #[.slice xko s.ks.length xkc, .slice xao s.ac.length xac] 25 (0, 0)) := by
    rw [Below.heap_alloc _ _ _ (by simp)]
    exact alloc_heap _ _
  have Hy : ((w.alloc (.cells #[.slice xko s.ks.length xkc, .slice xao s.ac.length xac] 25)).alloc (.cells #[.slice yko t.ks.length ykc, .slice yao t.ac.length yac] 25)).heap[w.heap.size + 1]? = some (.cells #[.slice yko t.ks.length ykc, .slice yao t.ac.length yac] 25 (0, 0)) := by
    have := alloc_heap (w.alloc (.cells #[.slice xko s.ks.length xkc, .slice xao s.ac.length xac] 25)) (.cells #[.slice yko t.ks.length ykc, .slice yao t.ac.length yac] 25)
    simpa using this
  have z2 : w.heap.size + 2 ≤ ((w.alloc (.cells #[.slice xko s.ks.length xkc, .slice xao s.ac.length xac] 25)).alloc (.cells #[.slice yko t.ks.length ykc, .slice yao t.ac.length yac] 25)).heap.size := by simp
  have x0 : ((w.alloc (.cells #[.slice xko s.ks.length xkc, .slice xao s.ac.length xac] 25)).alloc (.cells #[.slice yko t.ks.length ykc, .slice yao t.ac.length yac] 25)).cell? ⟨w.heap.size, 0, none⟩ = some (.slice xko s.ks.length xkc) := by rw [Lib.cell_of_heap Hx]; rfl
  have x1 : ((w.alloc (.cells #[.slice xko s.ks.length xkc, .slice xao s.ac.length xac] 25)).alloc (.cells #[.slice yko t.ks.length ykc, .slice yao t.ac.length yac] 25)).cell? ⟨w.heap.size, 1, none⟩ = some (.slice xao s.ac.length xac) := by rw [Lib.cell_of_heap Hx]; rfl
  have y0 : ((w.alloc (.cells #[.slice xko s.ks.length xkc, .slice xao s.ac.length xac] 25)).alloc (.cells #[.slice yko t.ks.length ykc, .slice yao t.ac.length yac] 25)).cell? ⟨w.heap.size + 1, 0, none⟩ = some (.slice yko t.ks.length ykc) := by rw [Lib.cell_of_heap Hy]; rfl
  have y1 : ((w.alloc (.cells #[.slice xko s.ks.length xkc, .slice xao s.ac.length xac] 25)).alloc (.cells #[.slice yko t.ks.length ykc, .slice yao t.ac.length yac] 25)).cell? ⟨w.heap.size + 1, 1, none⟩ = some (.slice yao t.ac.length yac) := by rw [Lib.cell_of_heap Hy]; rfl
  have HK := hide (And.intro hk hk')
  have HA := hide (And.intro ha ha')
  clear hs ht hk ha hk' ha' Hx Hy hsm
  by_cases hkl : t.ks.length = s.ks.length
  case neg =>
    have e1 : ((s.ks.length : Int) == (t.ks.length : Int)) = false := by
      rw [beq_eq_false_iff_ne]
      omega
    have e2 : ¬ s.ks.length = t.ks.length := fun h => hkl h.symm
    have e3 : ¬ (s.ks.length : Int) = (t.ks.length : Int) := by omega
    have hz := unhide HNK hkl
    subst hz
    go_enter Try.func16, Try.ntmps16
    go_wp2
    go_ret
    exact ⟨rfl, b2⟩
  by_cases hal : t.ac.length = s.ac.length
  case neg =>
    have e1 : ((s.ac.length : Int) == (t.ac.length : Int)) = false := by
      rw [beq_eq_false_iff_ne]
      omega
    have e2 : ¬ s.ac.length = t.ac.length := fun h => hal h.symm
    have e3 : ¬ (s.ac.length : Int) = (t.ac.length : Int) := by omega
    have hz := unhide HNA hal
    subst hz
    rw [hkl] at y0 b2 z2 x0 x1 y1 ⊢
    go_enter Try.func16, Try.ntmps16
    go_wp2
    go_ret
    exact ⟨rfl, b2⟩
  have Hkl := hide hkl
  have Hal := hide hal
  rw [hkl, hal] at y0 b2 z2 x0 x1 y1 ⊢
  clear hkl hal HNK HNA
  go_enter Try.func16, Try.ntmps16
  go_upto_block 0 with fail
  generalize (w.alloc _).alloc _ = w2 at *
  go_cut [] from 5 (fun wc => Below w2.heap.size w2 wc ∧ s.ks = t.ks)
  case first =>
    go_wp2_with fail
    go_loopw [5] (fun iv wr => ∃ i : Nat, iv = .int .i64 i ∧ i ≤ s.ks.length ∧ Below w2.heap.size w2 wr ∧ ∀ m (h : m < s.ks.length) (h' : m < t.ks.length), m < i → s.ks[m] = t.ks[m]) (fun iv _ => s.ks.length - (intOf iv).toNat)
    case atStart => exact ⟨0, by go_num, Nat.zero_le _, Below.refl _ _, fun m _ _ h => absurd h (Nat.not_lt_zero _)⟩
    case round =>
      obtain ⟨i, rfl, hil, hb2r, hlow⟩ := hrel
      have Hlow := hide hlow
      clear hlow
      have hbw := b2.trans (hb2r.mono b2.size)
      have zr := hb2r.size
      have cx := (hb2r.cell (p := ⟨w.heap.size, 0, none⟩) (by show w.heap.size < _; omega)).trans x0
      have cy := (hb2r.cell (p := ⟨w.heap.size + 1, 0, none⟩) (by show w.heap.size + 1 < _; omega)).trans y0
      have HV := HVK
      by_cases hlt : i < s.ks.length
      · have i0 : (0 : Int) ≤ (i : Int) := by omega
        have i1 : (i : Int) < (s.ks.length : Int) := by omega
        have hlt' : i < t.ks.length := by rw [unhide Hkl]; exact hlt
        obtain ⟨x, gx, ox, rfl, hgx0, ⟨p0, p1, p2⟩, hx⟩ := (unhide HK).1.get hbw hlt
        obtain ⟨y, gy, oy, rfl, hgy0, ⟨q0, q1, q2⟩, hy⟩ := (unhide HK).2.get hbw hlt'
        have hgx : gx < wr.heap.size := by have := hbw.size; omega
        have hgy : gy < wr.heap.size := by have := hbw.size; omega
        have hsj := (unhide HSM).k i hlt
        obtain ⟨k, hk⟩ : ∃ k, k = s.ks[i] := ⟨_, rfl⟩
        obtain ⟨k', hk'⟩ : ∃ k', k' = t.ks[i] := ⟨_, rfl⟩
        rw [← hk] at hx hsj
        rw [← hk'] at hy
        have Hk := hide hk
        have Hk' := hide hk'
        clear hk hk'
        obtain ⟨xn, xpo, xpl, xpc, xfo, xfl, xfc⟩ := x
        obtain ⟨yn, ypo, ypl, ypc, yfo, yfl, yfc⟩ := y
        obtain ⟨a1, a2, a3, a4, a5⟩ := hx
        obtain ⟨d1, d2, d3, d4, d5⟩ := hy
        simp only at a1 a2 a3 a4 a5 d1 d2 d3 d4 d5 p0 p1 p2 q0 q1 q2
        subst a2 a4 d2 d4
        have Hxn := hide a1
        have Hyn := hide d1
        clear a1 d1
        have h1 := hsj.ps
        have h2 := hsj.fs
        clear hsj
        go_upto_region 6 with fail
        as_aux_lemma =>
          refine wp_specsD (ppSp w.heap.size (w.heap.size + 1) 0 (.slice (some ⟨gx, ox, none⟩) s.ks.length xkc) (.slice (some ⟨gy, oy, none⟩) s.ks.length ykc) i gx (ox + i * 3) gy (oy + i * 3) (.agg #[.string xn, .slice xpo k.ps.length xpc, .slice xfo k.fs.length xfc]) (.agg #[.string yn, .slice ypo k'.ps.length ypc, .slice yfo k'.fs.length yfc])) (PP wr 42 6 7 #[.string xn, .slice xpo k.ps.length xpc, .slice xfo k.fs.length xfc] #[.string yn, .slice ypo k'.ps.length ypc, .slice yfo k'.fs.length yfc]) (by kernel_rfl) (by kernel_rfl) (by kernel_rfl) (PP.start _ wr) ?_ ?_ ?_
          · intro q o d ho hd L a' w' hL hw hRR hdep hslot hsz K hK
            have hqN : q < 14 := dstOf_lt hd
            have hR := hRR.below
            have bx : w'.cell? ⟨w.heap.size, 0, none⟩ = some (.slice (some ⟨gx, ox, none⟩) s.ks.length xkc) := (hR.cell (p := ⟨w.heap.size, 0, none⟩) (by show w.heap.size < _; omega)).trans cx
            have by_ : w'.cell? ⟨w.heap.size + 1, 0, none⟩ = some (.slice (some ⟨gy, oy, none⟩) s.ks.length ykc) := (hR.cell (p := ⟨w.heap.size + 1, 0, none⟩) (by show w.heap.size + 1 < _; omega)).trans cy
            have m0 := (hR.cell (p := ⟨gx, ox + i * 3, none⟩) hgx).trans p0
            have m1 := (hR.cell (p := ⟨gx, ox + i * 3 + 1, none⟩) hgx).trans p1
            have m2 := (hR.cell (p := ⟨gx, ox + i * 3 + 2, none⟩) hgx).trans p2
            have n0 := (hR.cell (p := ⟨gy, oy + i * 3, none⟩) hgy).trans q0
            have n1 := (hR.cell (p := ⟨gy, oy + i * 3 + 1, none⟩) hgy).trans q1
            have n2 := (hR.cell (p := ⟨gy, oy + i * 3 + 2, none⟩) hgy).trans q2
            clear hR
            have hs2 : a'.tmps.getD 2 undef = .pointer (some ⟨w.heap.size, 0, none⟩) := hslot 2 (fun q h => by have hl := dstOf_lt h; match q, hl with | 0, _ => cases h | 1, _ => cases h | 2, _ => cases h | 3, _ => cases h | 4, _ => cases h | 5, _ => cases h | 6, _ => cases h | 7, _ => cases h | 8, _ => cases h | 9, _ => cases h | 10, _ => cases h | 11, _ => cases h | 12, _ => cases h | 13, _ => cases h)
            have hs3 : a'.tmps.getD 3 undef = .pointer (some ⟨w.heap.size + 1, 0, none⟩) := hslot 3 (fun q h => by have hl := dstOf_lt h; match q, hl with | 0, _ => cases h | 1, _ => cases h | 2, _ => cases h | 3, _ => cases h | 4, _ => cases h | 5, _ => cases h | 6, _ => cases h | 7, _ => cases h | 8, _ => cases h | 9, _ => cases h | 10, _ => cases h | 11, _ => cases h | 12, _ => cases h | 13, _ => cases h)
            have hs5 : a'.tmps.getD 5 undef = .int .i64 i := hslot 5 (fun q h => by have hl := dstOf_lt h; match q, hl with | 0, _ => cases h | 1, _ => cases h | 2, _ => cases h | 3, _ => cases h | 4, _ => cases h | 5, _ => cases h | 6, _ => cases h | 7, _ => cases h | 8, _ => cases h | 9, _ => cases h | 10, _ => cases h | 11, _ => cases h | 12, _ => cases h | 13, _ => cases h)
            have hc : q = 0 ∨ q = 1 ∨ q = 2 ∨ q = 3 ∨ q = 4 ∨ q = 5 ∨ q = 6 ∨ q = 7 ∨ q = 8 ∨ q = 9 ∨ q = 10 ∨ q = 11 ∨ q = 12 ∨ q = 13 := by omega
            rcases hc with rfl | rfl | rfl | rfl | rfl | rfl | rfl | rfl | rfl | rfl | rfl | rfl | rfl | rfl
            · cases ho
              cases hd
              have e0 := hs2
              clear bx by_ m0 m1 m2 n0 n1 n2
              unfold Oper.wp
              go_simp
              exact hK _ _ rfl (hRR.step (Below.refl _ w') 0 35 _ (by decide) (by decide) (by decide) (by decide) (by decide) (by decide)) (fun _ _ h => h)
            · cases ho
              cases hd
              have e0 : a'.tmps.getD 35 undef = .pointer (some ⟨w.heap.size, 0, none⟩) := hdep 0 35 rfl (by kernel_rfl)
              have e0' : a'.tmps[35]?.getD undef = .pointer (some ⟨w.heap.size, 0, none⟩) := by simpa using e0
              clear by_ m0 m1 m2 n0 n1 n2
              unfold Oper.wp
              go_simp
              exact hK _ _ rfl (hRR.step (Below.refl _ w') 1 36 _ (by decide) (by decide) (by decide) (by decide) (by decide) (by decide)) (fun _ _ h => h)
            · cases ho
              cases hd
              have e0 := hs5
              clear bx by_ m0 m1 m2 n0 n1 n2
              unfold Oper.wp
              go_simp
              exact hK _ _ rfl (hRR.step (Below.refl _ w') 2 37 _ (by decide) (by decide) (by decide) (by decide) (by decide) (by decide)) (fun _ _ h => h)
            · cases ho
              cases hd
              have e0 : a'.tmps.getD 36 undef = .slice (some ⟨gx, ox, none⟩) s.ks.length xkc := hdep 1 36 rfl (by kernel_rfl)
              have e0' : a'.tmps[36]?.getD undef = .slice (some ⟨gx, ox, none⟩) s.ks.length xkc := by simpa using e0
              have e1 : a'.tmps.getD 37 undef = .int .i64 i := hdep 2 37 rfl (by kernel_rfl)
              have e1' : a'.tmps[37]?.getD undef = .int .i64 i := by simpa using e1
              clear bx by_ m0 m1 m2 n0 n1 n2
              unfold Oper.wp
              go_simp
              exact hK _ _ rfl (hRR.step (Below.refl _ w') 3 38 _ (by decide) (by decide) (by decide) (by decide) (by decide) (by decide)) (fun _ _ h => h)
            · cases ho
              cases hd
              have e0 : a'.tmps.getD 38 undef = .pointer (some ⟨gx, ox + i * 3, none⟩) := hdep 3 38 rfl (by kernel_rfl)
              have e0' : a'.tmps[38]?.getD undef = .pointer (some ⟨gx, ox + i * 3, none⟩) := by simpa using e0
              clear bx by_ n0 n1 n2
              unfold Oper.wp
              go_simp
              exact hK _ _ rfl (hRR.step (Below.refl _ w') 4 39 _ (by decide) (by decide) (by decide) (by decide) (by decide) (by decide)) (fun _ _ h => h)
            · cases ho
              cases hd
              have e0 := hs3
              clear bx by_ m0 m1 m2 n0 n1 n2
              unfold Oper.wp
              go_simp
              exact hK _ _ rfl (hRR.step (Below.refl _ w') 5 40 _ (by decide) (by decide) (by decide) (by decide) (by decide) (by decide)) (fun _ _ h => h)
            · cases ho
              cases hd
              have e0 : a'.tmps.getD 40 undef = .pointer (some ⟨w.heap.size + 1, 0, none⟩) := hdep 5 40 rfl (by kernel_rfl)
              have e0' : a'.tmps[40]?.getD undef = .pointer (some ⟨w.heap.size + 1, 0, none⟩) := by simpa using e0
              clear bx m0 m1 m2 n0 n1 n2
              unfold Oper.wp
              go_simp
              exact hK _ _ rfl (hRR.step (Below.refl _ w') 6 41 _ (by decide) (by decide) (by decide) (by decide) (by decide) (by decide)) (fun _ _ h => h)
            · cases ho
              cases hd
              have e0 := hs5
              clear bx by_ m0 m1 m2 n0 n1 n2
              unfold Oper.wp
              go_simp
              exact hK _ _ rfl (hRR.step (Below.refl _ w') 7 42 _ (by decide) (by decide) (by decide) (by decide) (by decide) (by decide)) (fun _ _ h => h)
            · cases ho
              cases hd
              have e0 : a'.tmps.getD 41 undef = .slice (some ⟨gy, oy, none⟩) s.ks.length ykc := hdep 6 41 rfl (by kernel_rfl)
              have e0' : a'.tmps[41]?.getD undef = .slice (some ⟨gy, oy, none⟩) s.ks.length ykc := by simpa using e0
              have e1 : a'.tmps.getD 42 undef = .int .i64 i := hdep 7 42 rfl (by kernel_rfl)
              have e1' : a'.tmps[42]?.getD undef = .int .i64 i := by simpa using e1
              clear bx by_ m0 m1 m2 n0 n1 n2
              unfold Oper.wp
              go_simp
              exact hK _ _ rfl (hRR.step (Below.refl _ w') 8 43 _ (by decide) (by decide) (by decide) (by decide) (by decide) (by decide)) (fun _ _ h => h)
            · cases ho
              cases hd
              have e0 : a'.tmps.getD 43 undef = .pointer (some ⟨gy, oy + i * 3, none⟩) := hdep 8 43 rfl (by kernel_rfl)
              have e0' : a'.tmps[43]?.getD undef = .pointer (some ⟨gy, oy + i * 3, none⟩) := by simpa using e0
              clear bx by_ m0 m1 m2
              unfold Oper.wp
              go_simp
              exact hK _ _ rfl (hRR.step (Below.refl _ w') 9 44 _ (by decide) (by decide) (by decide) (by decide) (by decide) (by decide)) (fun _ _ h => h)
            · cases ho
              cases hd
              clear bx by_ m0 m1 m2 n0 n1 n2
              unfold Oper.wp
              go_simp
              exact hK _ _ trivial (hRR.allocA hL (by rw [hsz]; first | decide | simp) (by decide)) ppSp_up
            · cases ho
              cases hd
              clear bx by_ m0 m1 m2 n0 n1 n2
              unfold Oper.wp
              go_simp
              exact hK _ _ trivial (hRR.allocB hL (by rw [hsz]; first | decide | simp) (by decide)) ppSp_up
            · cases hd
            · cases hd
          · intro q o ho hd L a' w' hL hw hRR hdep K hK
            have hqN : q < 14 := (List.getElem?_eq_some_iff.1 ho).1
            have hR := hRR.below
            have bx : w'.cell? ⟨w.heap.size, 0, none⟩ = some (.slice (some ⟨gx, ox, none⟩) s.ks.length xkc) := (hR.cell (p := ⟨w.heap.size, 0, none⟩) (by show w.heap.size < _; omega)).trans cx
            have by_ : w'.cell? ⟨w.heap.size + 1, 0, none⟩ = some (.slice (some ⟨gy, oy, none⟩) s.ks.length ykc) := (hR.cell (p := ⟨w.heap.size + 1, 0, none⟩) (by show w.heap.size + 1 < _; omega)).trans cy
            have m0 := (hR.cell (p := ⟨gx, ox + i * 3, none⟩) hgx).trans p0
            have m1 := (hR.cell (p := ⟨gx, ox + i * 3 + 1, none⟩) hgx).trans p1
            have m2 := (hR.cell (p := ⟨gx, ox + i * 3 + 2, none⟩) hgx).trans p2
            have n0 := (hR.cell (p := ⟨gy, oy + i * 3, none⟩) hgy).trans q0
            have n1 := (hR.cell (p := ⟨gy, oy + i * 3 + 1, none⟩) hgy).trans q1
            have n2 := (hR.cell (p := ⟨gy, oy + i * 3 + 2, none⟩) hgy).trans q2
            clear hR
            have hc : q = 0 ∨ q = 1 ∨ q = 2 ∨ q = 3 ∨ q = 4 ∨ q = 5 ∨ q = 6 ∨ q = 7 ∨ q = 8 ∨ q = 9 ∨ q = 10 ∨ q = 11 ∨ q = 12 ∨ q = 13 := by omega
            rcases hc with rfl | rfl | rfl | rfl | rfl | rfl | rfl | rfl | rfl | rfl | rfl | rfl | rfl | rfl
            · cases hd
            · cases hd
            · cases hd
            · cases hd
            · cases hd
            · cases hd
            · cases hd
            · cases hd
            · cases hd
            · cases hd
            · cases hd
            · cases hd
            · cases ho
              have e1 : a'.tmps.getD 39 undef = .agg #[.string xn, .slice xpo k.ps.length xpc, .slice xfo k.fs.length xfc] := hdep 4 39 rfl (by kernel_rfl)
              have e1' : a'.tmps[39]?.getD undef = .agg #[.string xn, .slice xpo k.ps.length xpc, .slice xfo k.fs.length xfc] := by simpa using e1
              obtain ⟨V, eV, hV, hS⟩ := hRR.storeA (hw 10 (by kernel_rfl)) hL
              have z0 : w'.cell? ⟨V, 0, none⟩ = some (.string ⟨#[]⟩) := by rw [Lib.cell_of_heap hV]; rfl
              have z1 : w'.cell? ⟨V, 1, none⟩ = some (.slice none 0 0) := by rw [Lib.cell_of_heap hV]; rfl
              have z2 : w'.cell? ⟨V, 2, none⟩ = some (.slice none 0 0) := by rw [Lib.cell_of_heap hV]; rfl
              have zf := fun o => Lib.frozen_of_heap hV o
              have HS := hide hS
              clear hV hS bx by_ m0 m1 m2 n0 n1 n2
              unfold Oper.wp
              go_simp
              exact hK _ (unhide HS) ppSp_up undef
            · cases ho
              have e1 : a'.tmps.getD 44 undef = .agg #[.string yn, .slice ypo k'.ps.length ypc, .slice yfo k'.fs.length yfc] := hdep 9 44 rfl (by kernel_rfl)
              have e1' : a'.tmps[44]?.getD undef = .agg #[.string yn, .slice ypo k'.ps.length ypc, .slice yfo k'.fs.length yfc] := by simpa using e1
              obtain ⟨V, eV, hV, hS⟩ := hRR.storeB (hw 11 (by kernel_rfl)) hL
              have z0 : w'.cell? ⟨V, 0, none⟩ = some (.string ⟨#[]⟩) := by rw [Lib.cell_of_heap hV]; rfl
              have z1 : w'.cell? ⟨V, 1, none⟩ = some (.slice none 0 0) := by rw [Lib.cell_of_heap hV]; rfl
              have z2 : w'.cell? ⟨V, 2, none⟩ = some (.slice none 0 0) := by rw [Lib.cell_of_heap hV]; rfl
              have zf := fun o => Lib.frozen_of_heap hV o
              have HS := hide hS
              clear hV hS bx by_ m0 m1 m2 n0 n1 n2
              unfold Oper.wp
              go_simp
              exact hK _ (unhide HS) ppSp_up undef
          · intro v L w' hLa hRR hv
            have bE := hRR.below
            obtain ⟨V, eV, hVw, hVz, hV⟩ := hRR.A (hLa 10 (by decide))
            obtain ⟨U, eU, hUw, hUz, hU⟩ := hRR.B (hLa 11 (by decide))
            rw [hLa 12 (by decide), if_pos rfl] at hV
            rw [hLa 13 (by decide), if_pos rfl] at hU
            have f0 : v 0 = _ := (hv 0 35 rfl).1
            have f1 : v 1 = _ := (hv 1 36 rfl).1
            have f2 : v 2 = _ := (hv 2 37 rfl).1
            have f3 : v 3 = _ := (hv 3 38 rfl).1
            have f4 : v 4 = _ := (hv 4 39 rfl).1
            have f5 : v 5 = _ := (hv 5 40 rfl).1
            have f6 : v 6 = _ := (hv 6 41 rfl).1
            have f7 : v 7 = _ := (hv 7 42 rfl).1
            have f8 : v 8 = _ := (hv 8 43 rfl).1
            have f9 : v 9 = _ := (hv 9 44 rfl).1
            have f10 : v 10 = .pointer (some ⟨V, 0, none⟩) := ((hv 10 6 rfl).2).symm.trans eV
            have f11 : v 11 = .pointer (some ⟨U, 0, none⟩) := ((hv 11 7 rfl).2).symm.trans eU
            clear hRR hv hLa eV eU
            simp only [putAll, dstOf, List.getElem?_cons_zero, List.getElem?_cons_succ, Option.bind_some, List.length_cons, List.length_nil, f0, f1, f2, f3, f4, f5, f6, f7, f8, f9, f10, f11]
            clear f0 f1 f2 f3 f4 f5 f6 f7 f8 f9 f10 f11
            simp only [Act.put, List.setIfInBounds_toArray, List.set_cons_succ, List.set_cons_zero]
            obtain ⟨wq, hwq⟩ : ∃ y, y = w' := ⟨_, rfl⟩
            subst hwq
            have vx0 : wq.cell? ⟨V, 0, none⟩ = some (.string xn) := by rw [Lib.cell_of_heap hV]; rfl
            have vx1 : wq.cell? ⟨V, 1, none⟩ = some (.slice xpo k.ps.length xpc) := by rw [Lib.cell_of_heap hV]; rfl
            have vx2 : wq.cell? ⟨V, 2, none⟩ = some (.slice xfo k.fs.length xfc) := by rw [Lib.cell_of_heap hV]; rfl
            have vy0 : wq.cell? ⟨U, 0, none⟩ = some (.string yn) := by rw [Lib.cell_of_heap hU]; rfl
            have vy1 : wq.cell? ⟨U, 1, none⟩ = some (.slice ypo k'.ps.length ypc) := by rw [Lib.cell_of_heap hU]; rfl
            have vy2 : wq.cell? ⟨U, 2, none⟩ = some (.slice yfo k'.fs.length yfc) := by rw [Lib.cell_of_heap hU]; rfl
            have BQ := hbw.trans (bE.mono hbw.size)
            have CT := rtexts_any k.ps k'.ps xpo ypo xpc ypc wq h1 (a3.below bE) (d3.below bE)
            cases hn : (xn.toList == yn.toList)
            · have hz : z = false := unhide HV i hlt hlt' (fun e => by
                have h := congrArg KP.nm (((unhide Hk).trans e).trans (unhide Hk').symm)
                rw [← unhide Hxn, ← unhide Hyn] at h
                rw [h, beq_self_eq_true] at hn
                cases hn)
              clear CT
              subst hz
              go_wp2
              go_ret
              exact ⟨rfl, BQ⟩
            · have hnm : k.nm = k'.nm := by
                rw [← beq_bytesS] at hn
                rw [← unhide Hxn, ← unhide Hyn]
                exact of_decide_eq_true hn
              have Hnm := hide hnm
              clear hnm
              obtain ⟨zp, hzp⟩ : ∃ zp, decide (k.ps = k'.ps) = zp := ⟨_, rfl⟩
              rw [hzp] at CT
              have Hzp := hide hzp
              clear hzp
              go_wp2_with fail
              refine CT.mono ?_
              clear CT
              rintro e w4 ⟨rfl, b4⟩
              have B4 := BQ.trans (b4.mono BQ.size)
              have vx2' := (b4.cell (p := ⟨V, 2, none⟩) (by show V < _; omega)).trans vx2
              have vy2' := (b4.cell (p := ⟨U, 2, none⟩) (by show U < _; omega)).trans vy2
              cases zp
              · have hz : z = false := unhide HV i hlt hlt' (fun e => of_decide_eq_false (unhide Hzp) (congrArg KP.ps (((unhide Hk).trans e).trans (unhide Hk').symm)))
                subst hz
                go_wp2
                go_ret
                exact ⟨rfl, B4⟩
              · by_cases hfl : k'.fs.length = k.fs.length
                case neg =>
                  have e1 : ((k.fs.length : Int) == (k'.fs.length : Int)) = false := by
                    rw [beq_eq_false_iff_ne]
                    omega
                  have hz : z = false := unhide HV i hlt hlt' (fun e => hfl (congrArg (fun q : KP => q.fs.length) (((unhide Hk).trans e).trans (unhide Hk').symm)).symm)
                  subst hz
                  go_wp2
                  go_ret
                  exact ⟨rfl, B4⟩
                have Hfl := hide hfl
                rw [hfl] at vy2'
                clear hfl vx0 vx1 vx2 vy0 vy1 vy2
                have hVz4 : V < w4.heap.size := by have := b4.size; omega
                have hUz4 : U < w4.heap.size := by have := b4.size; omega
                have HF1 := hide ((a5.below bE).below b4)
                have HF2 := hide ((d5.below bE).below b4)
                go_wp2_with fail
                go_loopw [8] (fun jv wr => ∃ j : Nat, jv = .int .i64 j ∧ j ≤ k.fs.length ∧ Below w4.heap.size w4 wr ∧ ∀ m (h : m < k.fs.length) (h' : m < k'.fs.length), m < j → k.fs[m] = k'.fs[m]) (fun jv _ => k.fs.length - (intOf jv).toNat)
                case atStart => exact ⟨0, by go_num, Nat.zero_le _, Below.refl _ _, fun m _ _ h => absurd h (Nat.not_lt_zero _)⟩
                case round =>
                  obtain ⟨j, rfl, hj, hbj, hlowj⟩ := hrel
                  have Hlowj := hide hlowj
                  clear hlowj
                  have Bj := B4.trans (hbj.mono B4.size)
                  have ux := (hbj.cell (p := ⟨V, 2, none⟩) hVz4).trans vx2'
                  have uy := (hbj.cell (p := ⟨U, 2, none⟩) hUz4).trans vy2'
                  by_cases hjt : j < k.fs.length
                  · have j1 : (j : Int) < (k.fs.length : Int) := by omega
                    have j0 : (0 : Int) ≤ (j : Int) := by omega
                    have hjt' : j < k'.fs.length := by rw [unhide Hfl]; exact hjt
                    obtain ⟨b, off, rfl, hb, A⟩ := (unhide HF1).get hbj hjt
                    obtain ⟨b', off', rfl, hb', B⟩ := (unhide HF2).get hbj hjt'
                    have NQ := binNeqField k.fs[j] k'.fs[j]
                    have HZ := hide (show ∀ y, (!decide (k.fs[j] = k'.fs[j])) = y → (y = true → z = false) ∧ (y = false → k.fs[j] = k'.fs[j]) from fun y hy => ⟨fun h => unhide HV i hlt hlt' (fun e => by
                      rw [← hy] at h
                      have he := congrArg KP.fs (((unhide Hk).trans e).trans (unhide Hk').symm)
                      have : k.fs[j] = k'.fs[j] := by simp only [he]
                      rw [decide_eq_true this] at h
                      cases h), fun h => by rw [← hy] at h; simpa using h⟩)
                    generalize hy : (!decide (k.fs[j] = k'.fs[j])) = y at NQ
                    have HZ2 := hide (unhide HZ y hy)
                    clear hy HZ
                    obtain ⟨x', hx'⟩ : ∃ x', x' = k.fs[j] := ⟨_, rfl⟩
                    obtain ⟨y', hy'⟩ : ∃ y', y' = k'.fs[j] := ⟨_, rfl⟩
                    rw [← hx'] at A NQ
                    rw [← hy'] at B NQ
                    clear hx' hy'
                    obtain ⟨g0, g1, g2, g3⟩ := A.up
                    obtain ⟨i0, i1', i2, i3⟩ := B.up
                    have ug := cell_regrown ux
                    have vg := cell_regrown uy
                    clear A B
                    go_wp2_with fail
                    refine wp_region_quiet_below (by kernel_rfl) (by kernel_rfl) ?_
                    repeat (quiet_step (fail))
                    refine wpQuiet_nil ?_
                    intro _ hw'
                    obtain ⟨⟨dq, osq⟩, hw''⟩ := hw'
                    subst hw''
                    have b3 := hbj.trans ((below_regrown wr dq osq).mono hbj.size)
                    have B3 := B4.trans (b3.mono B4.size)
                    generalize grow (redrawn wr dq) osq = w3 at *
                    clear g0 g1 g2 g3 i0 i1' i2 i3 NQ ug vg ux uy
                    cases y
                    · have HF := hide ((unhide HZ2).2 (by trivial))
                      clear HZ2
                      go_wp2
                      go_roundw
                      case rel =>
                        refine ⟨j + 1, by go_num, by omega, b3, fun m h h' hm => ?_⟩
                        by_cases hmj : m < j
                        · exact unhide Hlowj m h h' hmj
                        · obtain rfl : m = j := by omega
                          exact unhide HF
                      case measure =>
                        simp only [intOf]
                        omega
                    · have hz := (unhide HZ2).1 (by trivial)
                      subst hz
                      go_wp2
                      go_ret
                      exact ⟨rfl, B3⟩
                  · have j1 : ¬ (j : Int) < (k.fs.length : Int) := by omega
                    have HKK := hide (show k = k' from kp_ext (unhide Hnm) (of_decide_eq_true (unhide Hzp)) (List.ext_getElem (unhide Hfl).symm fun m h h' => unhide Hlowj m h h' (by omega)))
                    go_wp2
                    go_roundw
                    case rel =>
                      refine ⟨i + 1, by go_num, by omega, hb2r.trans ((bE.trans ((b4.trans (hbj.mono b4.size)).mono bE.size)).mono hb2r.size), fun m h h' hm => ?_⟩
                      by_cases hmi : m < i
                      · exact unhide Hlow m h h' hmi
                      · obtain rfl : m = i := by omega
                        exact (unhide Hk).symm.trans ((unhide HKK).trans (unhide Hk'))
                    case measure =>
                      simp only [intOf]
                      omega
      · have i1 : ¬ (i : Int) < (s.ks.length : Int) := by omega
        have HE := hide (show s.ks = t.ks from List.ext_getElem (unhide Hkl).symm fun m h h' => unhide Hlow m h h' (by omega))
        go_wp2_with fail
        go_meet
        case rel => exact ⟨hb2r, unhide HE⟩
  case rest =>
    rename World => wA
    obtain ⟨bA, hks⟩ := hcut
    have Hks := hide hks
    clear hks
    go_wp2_with fail
    go_loopw [9] (fun iv wr => ∃ i : Nat, iv = .int .i64 i ∧ i ≤ s.ac.length ∧ Below w2.heap.size w2 wr ∧ ∀ m (h : m < s.ac.length) (h' : m < t.ac.length), m < i → s.ac[m] = t.ac[m]) (fun iv _ => s.ac.length - (intOf iv).toNat)
    case atStart => exact ⟨0, by go_num, Nat.zero_le _, bA, fun m _ _ h => absurd h (Nat.not_lt_zero _)⟩
    case round =>
      obtain ⟨i, rfl, hil, hb2r, hlow⟩ := hrel
      have Hlow := hide hlow
      clear hlow
      have hbw := b2.trans (hb2r.mono b2.size)
      have zr := hb2r.size
      have cx := (hb2r.cell (p := ⟨w.heap.size, 1, none⟩) (by show w.heap.size < _; omega)).trans x1
      have cy := (hb2r.cell (p := ⟨w.heap.size + 1, 1, none⟩) (by show w.heap.size + 1 < _; omega)).trans y1
      have HV := HVA
      by_cases hlt : i < s.ac.length
      · have i0 : (0 : Int) ≤ (i : Int) := by omega
        have i1 : (i : Int) < (s.ac.length : Int) := by omega
        have hlt' : i < t.ac.length := by rw [unhide Hal]; exact hlt
        obtain ⟨x, gx, ox, rfl, hgx0, ⟨p0, p1, p2⟩, hx⟩ := (unhide HA).1.get hbw hlt
        obtain ⟨y, gy, oy, rfl, hgy0, ⟨q0, q1, q2⟩, hy⟩ := (unhide HA).2.get hbw hlt'
        have hgx : gx < wr.heap.size := by have := hbw.size; omega
        have hgy : gy < wr.heap.size := by have := hbw.size; omega
        have hsj := (unhide HSM).a i hlt
        obtain ⟨k, hk⟩ : ∃ k, k = s.ac[i] := ⟨_, rfl⟩
        obtain ⟨k', hk'⟩ : ∃ k', k' = t.ac[i] := ⟨_, rfl⟩
        rw [← hk] at hx hsj
        rw [← hk'] at hy
        have Hk := hide hk
        have Hk' := hide hk'
        clear hk hk'
        obtain ⟨xn, xpo, xpl, xpc, xfo, xfl, xfc⟩ := x
        obtain ⟨yn, ypo, ypl, ypc, yfo, yfl, yfc⟩ := y
        obtain ⟨a1, a2, a3, a4, a5⟩ := hx
        obtain ⟨d1, d2, d3, d4, d5⟩ := hy
        simp only at a1 a2 a3 a4 a5 d1 d2 d3 d4 d5 p0 p1 p2 q0 q1 q2
        subst a2 a4 d2 d4
        have Hxn := hide a1
        have Hyn := hide d1
        clear a1 d1
        have h1 := hsj.pr
        have h2 := hsj.re
        clear hsj
        
        go_upto_region 17 with fail
        as_aux_lemma =>
          refine wp_specsD (ppSp w.heap.size (w.heap.size + 1) 1 (.slice (some ⟨gx, ox, none⟩) s.ac.length xac) (.slice (some ⟨gy, oy, none⟩) s.ac.length yac) i gx (ox + i * 3) gy (oy + i * 3) (.agg #[.string xn, .slice xpo k.pr.length xpc, .slice xfo k.re.length xfc]) (.agg #[.string yn, .slice ypo k'.pr.length ypc, .slice yfo k'.re.length yfc])) (PP wr 44 10 11 #[.string xn, .slice xpo k.pr.length xpc, .slice xfo k.re.length xfc] #[.string yn, .slice ypo k'.pr.length ypc, .slice yfo k'.re.length yfc]) (by kernel_rfl) (by kernel_rfl) (by kernel_rfl) (PP.start _ wr) ?_ ?_ ?_
          · intro q o d ho hd L a' w' hL hw hRR hdep hslot hsz K hK
            have hqN : q < 14 := dstOf_lt hd
            have hR := hRR.below
            have bx : w'.cell? ⟨w.heap.size, 1, none⟩ = some (.slice (some ⟨gx, ox, none⟩) s.ac.length xac) := (hR.cell (p := ⟨w.heap.size, 1, none⟩) (by show w.heap.size < _; omega)).trans cx
            have by_ : w'.cell? ⟨w.heap.size + 1, 1, none⟩ = some (.slice (some ⟨gy, oy, none⟩) s.ac.length yac) := (hR.cell (p := ⟨w.heap.size + 1, 1, none⟩) (by show w.heap.size + 1 < _; omega)).trans cy
            have m0 := (hR.cell (p := ⟨gx, ox + i * 3, none⟩) hgx).trans p0
            have m1 := (hR.cell (p := ⟨gx, ox + i * 3 + 1, none⟩) hgx).trans p1
            have m2 := (hR.cell (p := ⟨gx, ox + i * 3 + 2, none⟩) hgx).trans p2
            have n0 := (hR.cell (p := ⟨gy, oy + i * 3, none⟩) hgy).trans q0
            have n1 := (hR.cell (p := ⟨gy, oy + i * 3 + 1, none⟩) hgy).trans q1
            have n2 := (hR.cell (p := ⟨gy, oy + i * 3 + 2, none⟩) hgy).trans q2
            clear hR
            have hs2 : a'.tmps.getD 2 undef = .pointer (some ⟨w.heap.size, 0, none⟩) := hslot 2 (fun q h => by have hl := dstOf_lt h; match q, hl with | 0, _ => cases h | 1, _ => cases h | 2, _ => cases h | 3, _ => cases h | 4, _ => cases h | 5, _ => cases h | 6, _ => cases h | 7, _ => cases h | 8, _ => cases h | 9, _ => cases h | 10, _ => cases h | 11, _ => cases h | 12, _ => cases h | 13, _ => cases h)
            have hs3 : a'.tmps.getD 3 undef = .pointer (some ⟨w.heap.size + 1, 0, none⟩) := hslot 3 (fun q h => by have hl := dstOf_lt h; match q, hl with | 0, _ => cases h | 1, _ => cases h | 2, _ => cases h | 3, _ => cases h | 4, _ => cases h | 5, _ => cases h | 6, _ => cases h | 7, _ => cases h | 8, _ => cases h | 9, _ => cases h | 10, _ => cases h | 11, _ => cases h | 12, _ => cases h | 13, _ => cases h)
            have hs9 : a'.tmps.getD 9 undef = .int .i64 i := hslot 9 (fun q h => by have hl := dstOf_lt h; match q, hl with | 0, _ => cases h | 1, _ => cases h | 2, _ => cases h | 3, _ => cases h | 4, _ => cases h | 5, _ => cases h | 6, _ => cases h | 7, _ => cases h | 8, _ => cases h | 9, _ => cases h | 10, _ => cases h | 11, _ => cases h | 12, _ => cases h | 13, _ => cases h)
            have hc : q = 0 ∨ q = 1 ∨ q = 2 ∨ q = 3 ∨ q = 4 ∨ q = 5 ∨ q = 6 ∨ q = 7 ∨ q = 8 ∨ q = 9 ∨ q = 10 ∨ q = 11 ∨ q = 12 ∨ q = 13 := by omega
            rcases hc with rfl | rfl | rfl | rfl | rfl | rfl | rfl | rfl | rfl | rfl | rfl | rfl | rfl | rfl
            · cases ho
              cases hd
              have e0 := hs2
              clear bx by_ m0 m1 m2 n0 n1 n2
              unfold Oper.wp
              go_simp
              exact hK _ _ rfl (hRR.step (Below.refl _ w') 0 92 _ (by decide) (by decide) (by decide) (by decide) (by decide) (by decide)) (fun _ _ h => h)
            · cases ho
              cases hd
              have e0 : a'.tmps.getD 92 undef = .pointer (some ⟨w.heap.size, 1, none⟩) := hdep 0 92 rfl (by kernel_rfl)
              have e0' : a'.tmps[92]?.getD undef = .pointer (some ⟨w.heap.size, 1, none⟩) := by simpa using e0
              clear by_ m0 m1 m2 n0 n1 n2
              unfold Oper.wp
              go_simp
              exact hK _ _ rfl (hRR.step (Below.refl _ w') 1 93 _ (by decide) (by decide) (by decide) (by decide) (by decide) (by decide)) (fun _ _ h => h)
            · cases ho
              cases hd
              have e0 := hs9
              clear bx by_ m0 m1 m2 n0 n1 n2
              unfold Oper.wp
              go_simp
              exact hK _ _ rfl (hRR.step (Below.refl _ w') 2 94 _ (by decide) (by decide) (by decide) (by decide) (by decide) (by decide)) (fun _ _ h => h)
            · cases ho
              cases hd
              have e0 : a'.tmps.getD 93 undef = .slice (some ⟨gx, ox, none⟩) s.ac.length xac := hdep 1 93 rfl (by kernel_rfl)
              have e0' : a'.tmps[93]?.getD undef = .slice (some ⟨gx, ox, none⟩) s.ac.length xac := by simpa using e0
              have e1 : a'.tmps.getD 94 undef = .int .i64 i := hdep 2 94 rfl (by kernel_rfl)
              have e1' : a'.tmps[94]?.getD undef = .int .i64 i := by simpa using e1
              clear bx by_ m0 m1 m2 n0 n1 n2
              unfold Oper.wp
              go_simp
              exact hK _ _ rfl (hRR.step (Below.refl _ w') 3 95 _ (by decide) (by decide) (by decide) (by decide) (by decide) (by decide)) (fun _ _ h => h)
            · cases ho
              cases hd
              have e0 : a'.tmps.getD 95 undef = .pointer (some ⟨gx, ox + i * 3, none⟩) := hdep 3 95 rfl (by kernel_rfl)
              have e0' : a'.tmps[95]?.getD undef = .pointer (some ⟨gx, ox + i * 3, none⟩) := by simpa using e0
              clear bx by_ n0 n1 n2
              unfold Oper.wp
              go_simp
              exact hK _ _ rfl (hRR.step (Below.refl _ w') 4 96 _ (by decide) (by decide) (by decide) (by decide) (by decide) (by decide)) (fun _ _ h => h)
            · cases ho
              cases hd
              have e0 := hs3
              clear bx by_ m0 m1 m2 n0 n1 n2
              unfold Oper.wp
              go_simp
              exact hK _ _ rfl (hRR.step (Below.refl _ w') 5 97 _ (by decide) (by decide) (by decide) (by decide) (by decide) (by decide)) (fun _ _ h => h)
            · cases ho
              cases hd
              have e0 : a'.tmps.getD 97 undef = .pointer (some ⟨w.heap.size + 1, 1, none⟩) := hdep 5 97 rfl (by kernel_rfl)
              have e0' : a'.tmps[97]?.getD undef = .pointer (some ⟨w.heap.size + 1, 1, none⟩) := by simpa using e0
              clear bx m0 m1 m2 n0 n1 n2
              unfold Oper.wp
              go_simp
              exact hK _ _ rfl (hRR.step (Below.refl _ w') 6 98 _ (by decide) (by decide) (by decide) (by decide) (by decide) (by decide)) (fun _ _ h => h)
            · cases ho
              cases hd
              have e0 := hs9
              clear bx by_ m0 m1 m2 n0 n1 n2
              unfold Oper.wp
              go_simp
              exact hK _ _ rfl (hRR.step (Below.refl _ w') 7 99 _ (by decide) (by decide) (by decide) (by decide) (by decide) (by decide)) (fun _ _ h => h)
            · cases ho
              cases hd
              have e0 : a'.tmps.getD 98 undef = .slice (some ⟨gy, oy, none⟩) s.ac.length yac := hdep 6 98 rfl (by kernel_rfl)
              have e0' : a'.tmps[98]?.getD undef = .slice (some ⟨gy, oy, none⟩) s.ac.length yac := by simpa using e0
              have e1 : a'.tmps.getD 99 undef = .int .i64 i := hdep 7 99 rfl (by kernel_rfl)
              have e1' : a'.tmps[99]?.getD undef = .int .i64 i := by simpa using e1
              clear bx by_ m0 m1 m2 n0 n1 n2
              unfold Oper.wp
              go_simp
              exact hK _ _ rfl (hRR.step (Below.refl _ w') 8 100 _ (by decide) (by decide) (by decide) (by decide) (by decide) (by decide)) (fun _ _ h => h)
            · cases ho
              cases hd
              have e0 : a'.tmps.getD 100 undef = .pointer (some ⟨gy, oy + i * 3, none⟩) := hdep 8 100 rfl (by kernel_rfl)
              have e0' : a'.tmps[100]?.getD undef = .pointer (some ⟨gy, oy + i * 3, none⟩) := by simpa using e0
              clear bx by_ m0 m1 m2
              unfold Oper.wp
              go_simp
              exact hK _ _ rfl (hRR.step (Below.refl _ w') 9 101 _ (by decide) (by decide) (by decide) (by decide) (by decide) (by decide)) (fun _ _ h => h)
            · cases ho
              cases hd
              clear bx by_ m0 m1 m2 n0 n1 n2
              unfold Oper.wp
              go_simp
              exact hK _ _ trivial (hRR.allocA hL (by rw [hsz]; first | decide | simp) (by decide)) ppSp_up
            · cases ho
              cases hd
              clear bx by_ m0 m1 m2 n0 n1 n2
              unfold Oper.wp
              go_simp
              exact hK _ _ trivial (hRR.allocB hL (by rw [hsz]; first | decide | simp) (by decide)) ppSp_up
            · cases hd
            · cases hd
          · intro q o ho hd L a' w' hL hw hRR hdep K hK
            have hqN : q < 14 := (List.getElem?_eq_some_iff.1 ho).1
            have hR := hRR.below
            have bx : w'.cell? ⟨w.heap.size, 1, none⟩ = some (.slice (some ⟨gx, ox, none⟩) s.ac.length xac) := (hR.cell (p := ⟨w.heap.size, 1, none⟩) (by show w.heap.size < _; omega)).trans cx
            have by_ : w'.cell? ⟨w.heap.size + 1, 1, none⟩ = some (.slice (some ⟨gy, oy, none⟩) s.ac.length yac) := (hR.cell (p := ⟨w.heap.size + 1, 1, none⟩) (by show w.heap.size + 1 < _; omega)).trans cy
            have m0 := (hR.cell (p := ⟨gx, ox + i * 3, none⟩) hgx).trans p0
            have m1 := (hR.cell (p := ⟨gx, ox + i * 3 + 1, none⟩) hgx).trans p1
            have m2 := (hR.cell (p := ⟨gx, ox + i * 3 + 2, none⟩) hgx).trans p2
            have n0 := (hR.cell (p := ⟨gy, oy + i * 3, none⟩) hgy).trans q0
            have n1 := (hR.cell (p := ⟨gy, oy + i * 3 + 1, none⟩) hgy).trans q1
            have n2 := (hR.cell (p := ⟨gy, oy + i * 3 + 2, none⟩) hgy).trans q2
            clear hR
            have hc : q = 0 ∨ q = 1 ∨ q = 2 ∨ q = 3 ∨ q = 4 ∨ q = 5 ∨ q = 6 ∨ q = 7 ∨ q = 8 ∨ q = 9 ∨ q = 10 ∨ q = 11 ∨ q = 12 ∨ q = 13 := by omega
            rcases hc with rfl | rfl | rfl | rfl | rfl | rfl | rfl | rfl | rfl | rfl | rfl | rfl | rfl | rfl
            · cases hd
            · cases hd
            · cases hd
            · cases hd
            · cases hd
            · cases hd
            · cases hd
            · cases hd
            · cases hd
            · cases hd
            · cases hd
            · cases hd
            · cases ho
              have e1 : a'.tmps.getD 96 undef = .agg #[.string xn, .slice xpo k.pr.length xpc, .slice xfo k.re.length xfc] := hdep 4 96 rfl (by kernel_rfl)
              have e1' : a'.tmps[96]?.getD undef = .agg #[.string xn, .slice xpo k.pr.length xpc, .slice xfo k.re.length xfc] := by simpa using e1
              obtain ⟨V, eV, hV, hS⟩ := hRR.storeA (hw 10 (by kernel_rfl)) hL
              have z0 : w'.cell? ⟨V, 0, none⟩ = some (.string ⟨#[]⟩) := by rw [Lib.cell_of_heap hV]; rfl
              have z1 : w'.cell? ⟨V, 1, none⟩ = some (.slice none 0 0) := by rw [Lib.cell_of_heap hV]; rfl
              have z2 : w'.cell? ⟨V, 2, none⟩ = some (.slice none 0 0) := by rw [Lib.cell_of_heap hV]; rfl
              have zf := fun o => Lib.frozen_of_heap hV o
              have HS := hide hS
              clear hV hS bx by_ m0 m1 m2 n0 n1 n2
              unfold Oper.wp
              go_simp
              exact hK _ (unhide HS) ppSp_up undef
            · cases ho
              have e1 : a'.tmps.getD 101 undef = .agg #[.string yn, .slice ypo k'.pr.length ypc, .slice yfo k'.re.length yfc] := hdep 9 101 rfl (by kernel_rfl)
              have e1' : a'.tmps[101]?.getD undef = .agg #[.string yn, .slice ypo k'.pr.length ypc, .slice yfo k'.re.length yfc] := by simpa using e1
              obtain ⟨V, eV, hV, hS⟩ := hRR.storeB (hw 11 (by kernel_rfl)) hL
              have z0 : w'.cell? ⟨V, 0, none⟩ = some (.string ⟨#[]⟩) := by rw [Lib.cell_of_heap hV]; rfl
              have z1 : w'.cell? ⟨V, 1, none⟩ = some (.slice none 0 0) := by rw [Lib.cell_of_heap hV]; rfl
              have z2 : w'.cell? ⟨V, 2, none⟩ = some (.slice none 0 0) := by rw [Lib.cell_of_heap hV]; rfl
              have zf := fun o => Lib.frozen_of_heap hV o
              have HS := hide hS
              clear hV hS bx by_ m0 m1 m2 n0 n1 n2
              unfold Oper.wp
              go_simp
              exact hK _ (unhide HS) ppSp_up undef
          · intro v L w' hLa hRR hv
            have bE := hRR.below
            obtain ⟨V, eV, hVw, hVz, hV⟩ := hRR.A (hLa 10 (by decide))
            obtain ⟨U, eU, hUw, hUz, hU⟩ := hRR.B (hLa 11 (by decide))
            rw [hLa 12 (by decide), if_pos rfl] at hV
            rw [hLa 13 (by decide), if_pos rfl] at hU
            have f0 : v 0 = _ := (hv 0 92 rfl).1
            have f1 : v 1 = _ := (hv 1 93 rfl).1
            have f2 : v 2 = _ := (hv 2 94 rfl).1
            have f3 : v 3 = _ := (hv 3 95 rfl).1
            have f4 : v 4 = _ := (hv 4 96 rfl).1
            have f5 : v 5 = _ := (hv 5 97 rfl).1
            have f6 : v 6 = _ := (hv 6 98 rfl).1
            have f7 : v 7 = _ := (hv 7 99 rfl).1
            have f8 : v 8 = _ := (hv 8 100 rfl).1
            have f9 : v 9 = _ := (hv 9 101 rfl).1
            have f10 : v 10 = .pointer (some ⟨V, 0, none⟩) := ((hv 10 10 rfl).2).symm.trans eV
            have f11 : v 11 = .pointer (some ⟨U, 0, none⟩) := ((hv 11 11 rfl).2).symm.trans eU
            clear hRR hv hLa eV eU
            simp only [putAll, dstOf, List.getElem?_cons_zero, List.getElem?_cons_succ, Option.bind_some, List.length_cons, List.length_nil, f0, f1, f2, f3, f4, f5, f6, f7, f8, f9, f10, f11]
            clear f0 f1 f2 f3 f4 f5 f6 f7 f8 f9 f10 f11
            simp only [Act.put, List.setIfInBounds_toArray, List.set_cons_succ, List.set_cons_zero]
            obtain ⟨wq, hwq⟩ : ∃ y, y = w' := ⟨_, rfl⟩
            subst hwq
            have vx0 : wq.cell? ⟨V, 0, none⟩ = some (.string xn) := by rw [Lib.cell_of_heap hV]; rfl
            have vx1 : wq.cell? ⟨V, 1, none⟩ = some (.slice xpo k.pr.length xpc) := by rw [Lib.cell_of_heap hV]; rfl
            have vx2 : wq.cell? ⟨V, 2, none⟩ = some (.slice xfo k.re.length xfc) := by rw [Lib.cell_of_heap hV]; rfl
            have vy0 : wq.cell? ⟨U, 0, none⟩ = some (.string yn) := by rw [Lib.cell_of_heap hU]; rfl
            have vy1 : wq.cell? ⟨U, 1, none⟩ = some (.slice ypo k'.pr.length ypc) := by rw [Lib.cell_of_heap hU]; rfl
            have vy2 : wq.cell? ⟨U, 2, none⟩ = some (.slice yfo k'.re.length yfc) := by rw [Lib.cell_of_heap hU]; rfl
            have BQ := hbw.trans (bE.mono hbw.size)
            have CT := rtexts_any k.pr k'.pr xpo ypo xpc ypc wq h1 (a3.below bE) (d3.below bE)
            have CU := fun w' (hb : Below wq.heap.size wq w') => rtexts_any k.re k'.re xfo yfo xfc yfc w' h2 ((a5.below bE).below hb) ((d5.below bE).below hb)
            cases hn : (xn.toList == yn.toList)
            · have hz : z = false := unhide HV i hlt hlt' (fun e => by
                have h := congrArg AP.nm (((unhide Hk).trans e).trans (unhide Hk').symm)
                rw [← unhide Hxn, ← unhide Hyn] at h
                rw [h, beq_self_eq_true] at hn
                cases hn)
              clear CT CU
              subst hz
              go_wp2
              go_ret
              exact ⟨rfl, BQ⟩
            · have hnm : k.nm = k'.nm := by
                rw [← beq_bytesS] at hn
                rw [← unhide Hxn, ← unhide Hyn]
                exact of_decide_eq_true hn
              have Hnm := hide hnm
              clear hnm
              obtain ⟨zp, hzp⟩ : ∃ zp, decide (k.pr = k'.pr) = zp := ⟨_, rfl⟩
              rw [hzp] at CT
              have Hzp := hide hzp
              clear hzp
              go_wp2_with fail
              refine CT.mono ?_
              clear CT
              rintro e w4 ⟨rfl, b4⟩
              have B4 := BQ.trans (b4.mono BQ.size)
              have vx2' := (b4.cell (p := ⟨V, 2, none⟩) (by show V < _; omega)).trans vx2
              have vy2' := (b4.cell (p := ⟨U, 2, none⟩) (by show U < _; omega)).trans vy2
              cases zp
              · have hz : z = false := unhide HV i hlt hlt' (fun e => of_decide_eq_false (unhide Hzp) (congrArg AP.pr (((unhide Hk).trans e).trans (unhide Hk').symm)))
                clear CU
                subst hz
                go_wp2
                go_ret
                exact ⟨rfl, B4⟩
              · have CU := CU w4 b4
                obtain ⟨zr, hzr⟩ : ∃ zr, decide (k.re = k'.re) = zr := ⟨_, rfl⟩
                rw [hzr] at CU
                have Hzr := hide hzr
                clear hzr
                go_wp2_with fail
                refine CU.mono ?_
                clear CU
                rintro e w5 ⟨rfl, b5⟩
                have B5 := B4.trans (b5.mono B4.size)
                cases zr
                · have hz : z = false := unhide HV i hlt hlt' (fun e => of_decide_eq_false (unhide Hzr) (congrArg AP.re (((unhide Hk).trans e).trans (unhide Hk').symm)))
                  subst hz
                  go_wp2
                  go_ret
                  exact ⟨rfl, B5⟩
                · have HKK := hide (show k = k' from ap_ext (unhide Hnm) (of_decide_eq_true (unhide Hzp)) (of_decide_eq_true (unhide Hzr)))
                  go_wp2
                  go_roundw
                  case rel =>
                    refine ⟨i + 1, by go_num, by omega, hb2r.trans ((bE.trans ((b4.trans (b5.mono b4.size)).mono bE.size)).mono hb2r.size), fun m h h' hm => ?_⟩
                    by_cases hmi : m < i
                    · exact unhide Hlow m h h' hmi
                    · obtain rfl : m = i := by omega
                      exact (unhide Hk).symm.trans ((unhide HKK).trans (unhide Hk'))
                  case measure =>
                    simp only [intOf]
                    omega
      · have i1 : ¬ (i : Int) < (s.ac.length : Int) := by omega
        have hz := unhide HW (unhide Hks) (List.ext_getElem (unhide Hal).symm fun m h h' => unhide Hlow m h h' (by omega))
        subst hz
        go_wp2
        go_ret
        exact ⟨rfl, hbw⟩
end Go.Proofs.Ytbcddjaecdoliaa

namespace Go.Proofs.Ytbcddjaecdoliaa
open Go.RowKit Go.Sort

def kOf (s : SP) (n : ByteArray) : KP := (s.ks.find? fun k => decide (k.nm = n)).getD ⟨⟨#[]⟩, [], []⟩
def aOf (s : SP) (n : ByteArray) : AP := (s.ac.find? fun k => decide (k.nm = n)).getD ⟨⟨#[]⟩, [], []⟩
theorem find_first {α : Type} (f : α → ByteArray) (n : ByteArray) : ∀ (l : List α) (i : Nat) (hi : i < l.length), f l[i] = n → (∀ j (hj : j < l.length), j < i → f l[j] ≠ n) → l.find? (fun k => decide (f k = n)) = some l[i]
  | [], i, hi, _, _ => absurd hi (Nat.not_lt_zero _)
  | a :: t, 0, _, h, _ => by
    have h : f a = n := h
    simp [h]
  | a :: t, i + 1, hi, h, hl => by
    have h0 : f a ≠ n := hl 0 (by simp) (by omega)
    rw [List.find?_cons_of_neg (by simp [h0])]
    exact find_first f n t i (by simpa using hi) h fun j hj hji => hl (j + 1) (by simpa using hj) (by omega)
theorem find_noneK {α : Type} (f : α → ByteArray) (n : ByteArray) (l : List α) (h : n ∉ l.map f) : l.find? (fun k => decide (f k = n)) = none := by
  rw [List.find?_eq_none]
  intro x hx he
  exact h (List.mem_map.2 ⟨x, hx, of_decide_eq_true he⟩)
def YV (y : N3) : Value := .agg #[.string y.nm, .slice y.ao y.al y.ac, .slice y.bo y.bl y.bc]
theorem found_k {s : SP} {n : ByteArray} {e : Ending} {w : World} (h : FoundKT s n e w) : ∃ y : N3, e = .returned (.tuple #[.agg #[.string y.nm, .slice y.ao y.al y.ac, .slice y.bo y.bl y.bc], .bool (!noneB s.names n)]) ∧ IsKT w y (kOf s n) := by
  rcases h with ⟨h1, h2⟩ | ⟨i, hi, x, h1, h3, h4⟩
  · refine ⟨zN3, by rw [noneB_true h1]; exact h2, ?_⟩
    have : kOf s n = ⟨⟨#[]⟩, [], []⟩ := by unfold kOf; rw [find_noneK KP.nm n s.ks h1]; rfl
    rw [this]
    exact ⟨⟨rfl, rfl, rowG_nil _ _ _, rfl, rowG_nil _ _ _⟩, fun _ _ h => absurd rfl h, fun _ _ h => absurd rfl h⟩
  · refine ⟨x, by rw [place_is h1]; exact h4, ?_⟩
    rcases h1 with ⟨h1, _⟩ | ⟨j, ej, hj, e1, e2⟩
    · omega
    · have : i = j := by omega
      subst this
      have hf := find_first KP.nm n s.ks i hi (by simpa [SP.names] using e1) (fun j hj hji => by have := e2 j (by simpa [SP.names] using hj) hji; simpa [SP.names] using this)
      have : kOf s n = s.ks[i] := by unfold kOf; rw [hf]; rfl
      rw [this]
      exact h3
theorem found_a {s : SP} {n : ByteArray} {e : Ending} {w : World} (h : FoundAT s n e w) : ∃ y : N3, e = .returned (.tuple #[.agg #[.string y.nm, .slice y.ao y.al y.ac, .slice y.bo y.bl y.bc], .bool (!noneB s.acts n)]) ∧ IsAT w y (aOf s n) := by
  rcases h with ⟨h1, h2⟩ | ⟨i, hi, x, h1, h3, h4⟩
  · refine ⟨zN3, by rw [noneB_true h1]; exact h2, ?_⟩
    have : aOf s n = ⟨⟨#[]⟩, [], []⟩ := by unfold aOf; rw [find_noneK AP.nm n s.ac h1]; rfl
    rw [this]
    exact ⟨⟨rfl, rfl, rowG_nil _ _ _, rfl, rowG_nil _ _ _⟩, fun _ _ h => absurd rfl h, fun _ _ h => absurd rfl h⟩
  · refine ⟨x, by rw [place_is h1]; exact h4, ?_⟩
    rcases h1 with ⟨h1, _⟩ | ⟨j, ej, hj, e1, e2⟩
    · omega
    · have : i = j := by omega
      subst this
      have hf := find_first AP.nm n s.ac i hi (by simpa [SP.acts] using e1) (fun j hj hji => by have := e2 j (by simpa [SP.acts] using hj) hji; simpa [SP.acts] using this)
      have : aOf s n = s.ac[i] := by unfold aOf; rw [hf]; rfl
      rw [this]
      exact h3
/-- A place is made, and an answer laid into it: what has been done of it. -/
structure GK (s : Nat) (w0 : World) (T : TypeId) (Q : World → N3 → Prop) (L : Nat → Bool) (a' : Act) (w' : World) : Prop where
  below : Below w0.heap.size w0 w'
  made : L 9 = true → L 10 = false → ∃ V, a'.tmps.getD s undef = .pointer (some ⟨V, 0, none⟩) ∧ w0.heap.size ≤ V ∧ w'.heap[V]? = some (.cells #[.string ⟨#[]⟩, .slice none 0 0, .slice none 0 0] T (0, 0))
  full : L 10 = true → ∃ (V : Nat) (y : N3), a'.tmps.getD s undef = .pointer (some ⟨V, 0, none⟩) ∧ w0.heap.size ≤ V ∧ w'.heap[V]? = some (.cells #[.string y.nm, .slice y.ao y.al y.ac, .slice y.bo y.bl y.bc] T (0, 0)) ∧ Q w' y
  ord : L 10 = true → L 9 = true
section
variable {s : Nat} {w0 : World} {T : TypeId} {Q : World → N3 → Prop} {L : Nat → Bool} {a' : Act} {w' w'' : World}
theorem GK.start (a : Act) (w0 : World) : GK s w0 T Q (fun _ => false) a w0.drew := ⟨(Below.refl _ _).drew, fun h => (by cases h), fun h => (by cases h), fun h => (by cases h)⟩
theorem GK.step (hQ : ∀ w w' y, KeepSF w w' → Q w y → Q w' y) (h : GK s w0 T Q L a' w') (hb : Below w'.heap.size w' w'') (i d : Nat) (v : Value) (h9 : i ≠ 9) (h10 : i ≠ 10) (hd : d ≠ s) : GK s w0 T Q (fun j => decide (j = i) || L j) (a'.put (some d) v) w'' := by
  have e9 : (decide (9 = i) || L 9) = L 9 := by simp [Ne.symm h9]
  have e10 : (decide (10 = i) || L 10) = L 10 := by simp [Ne.symm h10]
  refine ⟨h.below.trans (hb.mono h.below.size), ?_, ?_, ?_⟩ <;> simp only [e9, e10, put_other _ _ _ _ hd]
  · intro x y
    obtain ⟨V, x1, x2, x3⟩ := h.made x y
    exact ⟨V, x1, x2, kept_of_below hb x3⟩
  · intro x
    obtain ⟨V, y, x1, x2, x3, x4⟩ := h.full x
    exact ⟨V, y, x1, x2, kept_of_below hb x3, hQ _ _ _ (.of_below hb) x4⟩
  · exact h.ord
theorem GK.alloc (h : GK s w0 T Q L a' w') (hL : L 9 = false) (hs : s < a'.tmps.size) : GK s w0 T Q (fun j => decide (j = 9) || L j) (a'.put (some s) (.pointer (some ⟨w'.heap.size, 0, none⟩))) (w'.alloc (.cells #[.string ⟨#[]⟩, .slice none 0 0, .slice none 0 0] T)) := by
  have e10 : (decide (10 = 9) || L 10) = L 10 := by simp
  have no : L 10 = true → False := fun x => by
    have := h.ord x
    rw [hL] at this
    cases this
  refine ⟨h.below.alloc h.below.size _, fun _ _ => ⟨w'.heap.size, put_same _ _ _ hs, h.below.size, alloc_heap _ _⟩, fun x => (no (e10.symm.trans x)).elim, fun x => (no (e10.symm.trans x)).elim⟩
theorem GK.store (hT : T = 42 ∨ T = 44) (hQ : ∀ w w' y, KeepSF w w' → Q w y → Q w' y) (h : GK s w0 T Q L a' w') (hA : L 9 = true) (hL : L 10 = false) (y : N3) (hy : Q w' y) :
    ∃ V, a'.tmps.getD s undef = .pointer (some ⟨V, 0, none⟩) ∧ w'.heap[V]? = some (.cells #[.string ⟨#[]⟩, .slice none 0 0, .slice none 0 0] T (0, 0)) ∧ GK s w0 T Q (fun j => decide (j = 10) || L j) a' (((w'.setCell ⟨V, 0, none⟩ (.string y.nm)).setCell ⟨V, 1, none⟩ (.slice y.ao y.al y.ac)).setCell ⟨V, 2, none⟩ (.slice y.bo y.bl y.bc)) ∧ KeepSF w' (((w'.setCell ⟨V, 0, none⟩ (.string y.nm)).setCell ⟨V, 1, none⟩ (.slice y.ao y.al y.ac)).setCell ⟨V, 2, none⟩ (.slice y.bo y.bl y.bc)) := by
  obtain ⟨V, x1, x2, x3⟩ := h.made hA hL
  have kf : KeepSF w' (((w'.setCell ⟨V, 0, none⟩ (.string y.nm)).setCell ⟨V, 1, none⟩ (.slice y.ao y.al y.ac)).setCell ⟨V, 2, none⟩ (.slice y.bo y.bl y.bc)) := ⟨by simp, fun b cur T' fz hT' hb => (set3_ne w' V _ _ _ b (fun e => by
    rw [e] at hb
    have := not_typed hb x3
    rcases hT with hT | hT
    · exact sf_ne hT' (.inr (.inl rfl)) (this.trans hT)
    · exact sf_ne hT' (.inr (.inr rfl)) (this.trans hT))).trans hb⟩
  refine ⟨V, x1, x3, ⟨((h.below.setCell (p := ⟨V, 0, none⟩) x2 _).setCell (p := ⟨V, 1, none⟩) x2 _).setCell (p := ⟨V, 2, none⟩) x2 _, fun _ q => ?_, fun _ => ⟨V, y, x1, x2, set3_at w' V _ _ _ x3, hQ _ _ _ kf hy⟩, fun _ => by simp [hA]⟩, kf⟩
  simp at q
end
def skSp (sv rv : Value) (i b off : Nat) (x : ByteArray) (is : Bool) (Q : World → N3 → Prop) : Nat → Value → World → Prop
  | 0, v, _ => v = sv
  | 1, v, _ => v = rv
  | 2, v, _ => v = .int .i64 i
  | 3, v, _ => v = .pointer (some ⟨b, off + i, none⟩)
  | 4, v, _ => v = .string x
  | 5, v, w => ∃ y : N3, v = .tuple #[.agg #[.string y.nm, .slice y.ao y.al y.ac, .slice y.bo y.bl y.bc], .bool is] ∧ Q w y
  | 6, v, w => ∃ y : N3, v = .tuple #[.agg #[.string y.nm, .slice y.ao y.al y.ac, .slice y.bo y.bl y.bc], .bool is] ∧ Q w y
  | 7, v, w => ∃ y : N3, v = .agg #[.string y.nm, .slice y.ao y.al y.ac, .slice y.bo y.bl y.bc] ∧ Q w y
  | 8, v, _ => v = .bool is
  | 11, v, _ => v = .bool is
  | 9, _, _ => True
  | 10, _, _ => True
  | _ + 12, _, _ => True
theorem skSp_up {sv rv : Value} {i b off : Nat} {x : ByteArray} {is : Bool} {Q : World → N3 → Prop} {w w' : World} (hQ : ∀ w w' y, KeepSF w w' → Q w y → Q w' y) (hk : KeepSF w w') : ∀ q u, skSp sv rv i b off x is Q q u w → skSp sv rv i b off x is Q q u w'
  | 0, _, h | 1, _, h | 2, _, h | 3, _, h | 4, _, h | 8, _, h | 9, _, h | 10, _, h | 11, _, h => h
  | 5, _, ⟨y, e, h⟩ => ⟨y, e, hQ _ _ _ hk h⟩
  | 6, _, ⟨y, e, h⟩ => ⟨y, e, hQ _ _ _ hk h⟩
  | 7, _, ⟨y, e, h⟩ => ⟨y, e, hQ _ _ _ hk h⟩
  | _ + 12, _, _ => trivial
theorem fldV_form (l : List F4) (n : ByteArray) : ∃ (k o : Int) (tn : ByteArray) (b : Bool), fldV l n = .tuple #[.agg #[.int .i64 k, .int .i64 o, .string tn], .bool b] := by
  induction l with
  | nil => exact ⟨0, 0, ⟨#[]⟩, false, rfl⟩
  | cons f t ih =>
    unfold fldV
    by_cases h : f.nm = n
    · rw [if_pos h]
      exact ⟨_, _, _, _, rfl⟩
    · rw [if_neg h]
      exact ih
end Go.Proofs.Ytbcddjaecdoliaa

namespace Go.Proofs.Ytbcddjaecdoliaa
open Go.RowKit Go.Sort

def nine9 : List ByteArray := [⟨#[85, 115, 101, 114]⟩, ⟨#[71, 114, 111, 117, 112]⟩, ⟨#[68, 111, 99]⟩, ⟨#[84, 101, 97, 109]⟩, ⟨#[114, 101, 97, 100]⟩, ⟨#[111, 119, 110]⟩, ⟨#[97]⟩, ⟨#[97, 103, 101]⟩, ⟨#[]⟩]
theorem strC_list (l : List ByteArray) : (l.map strC).flatten = l.map Value.string := by
  induction l with
  | nil => rfl
  | cons a t ih =>
    simp only [List.map_cons, List.flatten_cons, ih]
    rfl
theorem appS_run {w : World} {B : Nat} {v : Value} {A C : List ByteArray} {ao : Option Addr} {m cap : Nat} (ty : TypeId) (hown : w.ownsRow B 9 1 v A.length (A.map Value.string)) (hm : m = C.length) (hr : RowS w ao C) (hl : A.length + C.length ≤ 1000000) (hB : B ≤ w.heap.size) :
    ∃ v' w', (Builtin.append_ #[39, 39] ty #[v, .slice ao m cap]).run Try.prog w = .ok v' w' ∧ w'.ownsRow B 9 1 v' (A ++ C).length ((A ++ C).map Value.string) ∧ w.grownBy w' v.ownBlock := by
  obtain ⟨iS, hiS, hzS0, hzS1, hzS2⟩ := info_parts infoStr
  subst hm
  cases C with
  | nil =>
    obtain ⟨base, sl, sc, rfl, hle⟩ : ∃ base sl sc, v = .slice base sl sc ∧ sl ≤ sc := by
      rcases hown.2 with ⟨h, _⟩ | ⟨g, cap, cur, h, _, _, h4, _⟩
      · exact ⟨_, _, _, h, Nat.le_refl _⟩
      · exact ⟨_, _, _, h, h4⟩
    have hs : Src Try.prog iS.size 39 (.slice ao 0 cap) 0 [] w := by
      refine ⟨.inl ⟨_, Try.underlying39⟩, fun w' => by simp [Builtin.lenOf], ?_, ?_, by simp, fun u hu => absurd hu List.not_mem_nil⟩
      · cases ao with
        | none => simp [Builtin.firstCells]
        | some a =>
          have := run_loadCells_list (P := Try.prog) w a [] (by simp)
          simpa [Builtin.firstCells] using this
      · cases ao with
        | none => simp [Builtin.firstCells]
        | some a =>
          have := run_loadCells_list (P := Try.prog) w.drew a [] (by simp)
          simpa [Builtin.firstCells] using this
    refine ⟨_, _, run_append_nothing (P := Try.prog) w 39 39 ty 9 iS Try.underlying39 hiS base sl sc hle (.slice ao 0 cap) hs, ?_, ⟨rfl, rfl, rfl, Nat.le_refl _, fun _ _ _ => rfl⟩⟩
    rw [List.append_nil]
    exact hown
  | cons c t =>
    obtain ⟨b, off, rfl, _, _⟩ := hr.get (Below.refl _ w) (show 0 < (c :: t).length by simp)
    obtain ⟨v', w', h1, h2, h3, _, _⟩ := run_append_own_at (P := Try.prog) w B 39 ty 9 iS _ 1 16 Try.underlying39 hiS hzS0 hzS1 hzS2 rfl (by decide) v A.length (A.map Value.string) hown ⟨b, off, none⟩ (c :: t).length cap ((c :: t).map Value.string) (by rw [List.length_map, Nat.mul_one]) (fun j u hu => by
      rw [List.getElem?_map] at hu
      have hj : j < (c :: t).length := by
        cases e : (c :: t)[j]? with
        | none => rw [e] at hu; cases hu
        | some q => exact (List.getElem?_eq_some_iff.1 e).1
      obtain ⟨b', off', e, _, hc⟩ := hr.get (Below.refl _ w) hj
      cases e
      rw [List.getElem?_eq_getElem hj] at hu
      rw [Addr.add_lit]
      rw [hc]
      exact hu) (fun u hu => by
      obtain ⟨q, _, rfl⟩ := List.mem_map.1 hu
      rfl) (by unfold maxLen; omega) (by omega) hB
    exact ⟨v', w', h1, by rw [List.length_append, List.map_append]; exact h2, h3⟩
set_option maxRecDepth 100000 in
theorem wpList_appS {ops : Array Oper} {rest : List Oper} {o : Oper} {a : Act} {Q : Exit → Act → World → Prop} {w : World} {B : Nat} {v : Value} {A C : List ByteArray} {ao : Option Addr} {m cap : Nat} (hgd : o.guard = none) (s x : Operand)
    (ho : o.op = .call { callee := .builtin .append, args := #[s, x], argTypes := #[39, 39] }) (hs : a.eval s = v) (hx : a.eval x = .slice ao m cap)
    (hown : w.ownsRow B 9 1 v A.length (A.map Value.string)) (hm : m = C.length) (hr : RowS w ao C) (hl : A.length + C.length ≤ 1000000) (hB : B ≤ w.heap.size)
    (h : ∀ v' w', w'.ownsRow B 9 1 v' (A ++ C).length ((A ++ C).map Value.string) → w.grownBy w' v.ownBlock → wpList Try.prog ops Q rest (a.put o.dst v') w') : wpList Try.prog ops Q (o :: rest) a w := by
  obtain ⟨v', w', hrun, h1, h2⟩ := appS_run (cap := cap) o.type hown hm hr hl hB
  refine wpList_plain hgd fun _ hK => ?_
  unfold Oper.wp execOp
  simp only [ho, resolve, invoke, builtin, Sem.run_bind, Sem.run_pure, Result.andThen_ok, List.map_toArray, List.map_cons, List.map_nil, hs, hx, hrun]
  exact hK _ _ (h v' w' h1 h2)
end Go.Proofs.Ytbcddjaecdoliaa

namespace Go.Proofs.Ytbcddjaecdoliaa
open Go.RowKit Go.Sort

theorem alloc4 (w : World) (o1 o2 o3 o4 : Obj) : Below w.heap.size w ((((w.alloc o1).alloc o2).alloc o3).alloc o4) ∧ w.heap.size + 4 ≤ ((((w.alloc o1).alloc o2).alloc o3).alloc o4).heap.size ∧ ((((w.alloc o1).alloc o2).alloc o3).alloc o4).heap[w.heap.size]? = some o1 ∧ ((((w.alloc o1).alloc o2).alloc o3).alloc o4).heap[w.heap.size + 1]? = some o2 ∧ ((((w.alloc o1).alloc o2).alloc o3).alloc o4).heap[w.heap.size + 2]? = some o3 ∧ ((((w.alloc o1).alloc o2).alloc o3).alloc o4).heap[w.heap.size + 3]? = some o4 := by
  obtain ⟨b3, z3, h1, h2, h3⟩ := alloc3 w o1 o2 o3
  have b4 := blw1 (((w.alloc o1).alloc o2).alloc o3) o4
  have h4 := alloc_heap (((w.alloc o1).alloc o2).alloc o3) o4
  rw [z3] at h4
  exact ⟨b3.trans (b4.mono b3.size), by simp, kept_of_below b4 h1, kept_of_below b4 h2, kept_of_below b4 h3, h4⟩
theorem isS_one {w : World} {b1 b2 : Nat} {x y : N3} {k : KP} {a : AP} (h1 : w.heap[b1]? = some (.cells #[.string x.nm, .slice x.ao x.al x.ac, .slice x.bo x.bl x.bc] 42 (0, 0))) (h2 : w.heap[b2]? = some (.cells #[.string y.nm, .slice y.ao y.al y.ac, .slice y.bo y.bl y.bc] 44 (0, 0))) (hx : IsK w x k) (hy : IsA w y a) : IsS w (.agg #[.slice (some ⟨b1, 0, none⟩) 1 1, .slice (some ⟨b2, 0, none⟩) 1 1]) ⟨[k], [a]⟩ := by
  have row : ∀ {b : Nat} {T : TypeId} {q : N3}, w.heap[b]? = some (.cells #[.string q.nm, .slice q.ao q.al q.ac, .slice q.bo q.bl q.bc] T (0, 0)) → RowG w (some ⟨b, 0, none⟩) 3 ([q].map N3.cells) := fun {b T q} h => row_of_flat (T := T) (fr := (0, 0)) (fun c hc => by
    obtain ⟨u, _, rfl⟩ := List.mem_map.1 hc
    rfl) (by simpa [N3.cells] using h)
  exact ⟨⟨some ⟨b1, 0, none⟩, 1, some ⟨b2, 0, none⟩, 1, rfl, ⟨⟨[x], rfl, row h1, fun j h h' => by
    have : j = 0 := by simpa using h
    subst this
    exact hx⟩⟩, ⟨⟨[y], rfl, row h2, fun j h h' => by
    have : j = 0 := by simpa using h
    subst this
    exact hy⟩⟩⟩⟩
theorem kOf_mem (s : SP) (n : ByteArray) : kOf s n ∈ s.ks ∨ kOf s n = ⟨⟨#[]⟩, [], []⟩ := by
  unfold kOf
  cases h : s.ks.find? fun k => decide (k.nm = n) with
  | none => exact .inr rfl
  | some k => exact .inl (List.mem_of_find?_eq_some h)
theorem aOf_mem (s : SP) (n : ByteArray) : aOf s n ∈ s.ac ∨ aOf s n = ⟨⟨#[]⟩, [], []⟩ := by
  unfold aOf
  cases h : s.ac.find? fun k => decide (k.nm = n) with
  | none => exact .inr rfl
  | some k => exact .inl (List.mem_of_find?_eq_some h)
theorem small_one {s : SP} (h : SmallAll s) (n : ByteArray) : SmallAll ⟨[kOf s n], [aOf s n]⟩ := by
  refine small_of (by simp) (by simp) (fun k hk => ?_) (fun a ha => ?_)
  · rw [List.mem_singleton.1 hk]
    rcases kOf_mem s n with hm | hm
    · obtain ⟨j, hj, e⟩ := List.getElem_of_mem hm
      rw [← e]
      exact h.k j hj
    · rw [hm]
      exact ⟨by decide, by decide, by decide, fun j hj => absurd hj (Nat.not_lt_zero _)⟩
  · rw [List.mem_singleton.1 ha]
    rcases aOf_mem s n with hm | hm
    · obtain ⟨j, hj, e⟩ := List.getElem_of_mem hm
      rw [← e]
      exact h.a j hj
    · rw [hm]
      exact ⟨by decide, by decide, by decide⟩
/-- A place is made, and a type laid into it. -/
structure GT (s : Nat) (w0 : World) (fk fo : Int) (tn : ByteArray) (L : Nat → Bool) (a' : Act) (w' : World) : Prop where
  below : Below w0.heap.size w0 w'
  made : L 13 = true → L 14 = false → ∃ V, a'.tmps.getD s undef = .pointer (some ⟨V, 0, none⟩) ∧ w0.heap.size ≤ V ∧ w'.heap[V]? = some (.cells #[.int .i64 0, .int .i64 0, .string ⟨#[]⟩] 29 (0, 0))
  full : L 14 = true → ∃ V, a'.tmps.getD s undef = .pointer (some ⟨V, 0, none⟩) ∧ w0.heap.size ≤ V ∧ w'.heap[V]? = some (.cells #[.int .i64 fk, .int .i64 fo, .string tn] 29 (0, 0))
  ord : L 14 = true → L 13 = true
section
variable {s : Nat} {w0 : World} {fk fo : Int} {tn : ByteArray} {L : Nat → Bool} {a' : Act} {w' w'' : World}
theorem GT.start (a : Act) (w0 : World) : GT s w0 fk fo tn (fun _ => false) a w0.drew := ⟨(Below.refl _ _).drew, fun h => (by cases h), fun h => (by cases h), fun h => (by cases h)⟩
theorem GT.step (h : GT s w0 fk fo tn L a' w') (hb : Below w'.heap.size w' w'') (i d : Nat) (v : Value) (h9 : i ≠ 13) (h10 : i ≠ 14) (hd : d ≠ s) : GT s w0 fk fo tn (fun j => decide (j = i) || L j) (a'.put (some d) v) w'' := by
  have e9 : (decide (13 = i) || L 13) = L 13 := by simp [Ne.symm h9]
  have e10 : (decide (14 = i) || L 14) = L 14 := by simp [Ne.symm h10]
  refine ⟨h.below.trans (hb.mono h.below.size), ?_, ?_, ?_⟩ <;> simp only [e9, e10, put_other _ _ _ _ hd]
  · intro x y
    obtain ⟨V, x1, x2, x3⟩ := h.made x y
    exact ⟨V, x1, x2, kept_of_below hb x3⟩
  · intro x
    obtain ⟨V, x1, x2, x3⟩ := h.full x
    exact ⟨V, x1, x2, kept_of_below hb x3⟩
  · exact h.ord
theorem GT.alloc (h : GT s w0 fk fo tn L a' w') (hL : L 13 = false) (hs : s < a'.tmps.size) : GT s w0 fk fo tn (fun j => decide (j = 13) || L j) (a'.put (some s) (.pointer (some ⟨w'.heap.size, 0, none⟩))) (w'.alloc (.cells #[.int .i64 0, .int .i64 0, .string ⟨#[]⟩] 29)) := by
  have e10 : (decide (14 = 13) || L 14) = L 14 := by simp
  have no : L 14 = true → False := fun x => by
    have := h.ord x
    rw [hL] at this
    cases this
  exact ⟨h.below.alloc h.below.size _, fun _ _ => ⟨w'.heap.size, put_same _ _ _ hs, h.below.size, alloc_heap _ _⟩, fun x => (no (e10.symm.trans x)).elim, fun x => (no (e10.symm.trans x)).elim⟩
theorem GT.store (h : GT s w0 fk fo tn L a' w') (hA : L 13 = true) (hL : L 14 = false) : ∃ V, a'.tmps.getD s undef = .pointer (some ⟨V, 0, none⟩) ∧ w'.heap[V]? = some (.cells #[.int .i64 0, .int .i64 0, .string ⟨#[]⟩] 29 (0, 0)) ∧ GT s w0 fk fo tn (fun j => decide (j = 14) || L j) a' (((w'.setCell ⟨V, 0, none⟩ (.int .i64 fk)).setCell ⟨V, 1, none⟩ (.int .i64 fo)).setCell ⟨V, 2, none⟩ (.string tn)) := by
  obtain ⟨V, x1, x2, x3⟩ := h.made hA hL
  have s1 := heap_setCell_same w' V 0 _ _ (.int .i64 fk) x3
  have s2 := heap_setCell_same _ V 1 _ _ (.int .i64 fo) s1
  have s3 := heap_setCell_same _ V 2 _ _ (.string tn) s2
  refine ⟨V, x1, x3, ((h.below.setCell (p := ⟨V, 0, none⟩) x2 _).setCell (p := ⟨V, 1, none⟩) x2 _).setCell (p := ⟨V, 2, none⟩) x2 _, fun _ q => ?_, fun _ => ⟨V, x1, x2, s3⟩, fun _ => by simp [hA]⟩
  simp at q
end
def stSp (S : Nat) (rw_ : Value) (j kb ko : Nat) (kv av : Value) (i g off : Nat) (x : ByteArray) (tv ty : Value) (b : Bool) : Nat → Value → World → Prop
  | 0, v, _ => v = .pointer (some ⟨S, 0, none⟩)
  | 1, v, _ => v = rw_
  | 2, v, _ => v = .int .i64 j
  | 3, v, _ => v = .pointer (some ⟨kb, ko + j * 3, none⟩)
  | 4, v, _ => v = kv
  | 5, v, _ => v = av
  | 6, v, _ => v = .int .i64 i
  | 7, v, _ => v = .pointer (some ⟨g, off + i, none⟩)
  | 8, v, _ => v = .string x
  | 9, v, _ => v = tv
  | 10, v, _ => v = tv
  | 11, v, _ => v = ty
  | 12, v, _ => v = .bool b
  | 13, _, _ => True
  | 14, _, _ => True
  | 15, v, _ => v = .bool b
  | _ + 16, _, _ => True
theorem stSp_up {S : Nat} {rw_ : Value} {j kb ko : Nat} {kv av : Value} {i g off : Nat} {x : ByteArray} {tv ty : Value} {b : Bool} {w w' : World} : ∀ q u, stSp S rw_ j kb ko kv av i g off x tv ty b q u w → stSp S rw_ j kb ko kv av i g off x tv ty b q u w'
  | 0, _, h | 1, _, h | 2, _, h | 3, _, h | 4, _, h | 5, _, h | 6, _, h | 7, _, h | 8, _, h | 9, _, h | 10, _, h | 11, _, h | 12, _, h | 13, _, h | 14, _, h | 15, _, h => h
  | _ + 16, _, _ => trivial
set_option maxRecDepth 100000 in
theorem equalType (k o : Int) (t : ByteArray) (W : World) : (Op.equal 29 (.agg #[.int .i64 k, .int .i64 o, .string t]) (.agg #[.int .i64 k, .int .i64 o, .string t])).run Try.prog W = .ok true W := by
  unfold Op.equal Op.maxDepth
  rw [Op.equalIn]
  simp [go_sem]
theorem binNeqType (k o : Int) (t : ByteArray) (W : World) : (binOp .neq 29 (.agg #[.int .i64 k, .int .i64 o, .string t]) (.agg #[.int .i64 k, .int .i64 o, .string t])).run Try.prog W = .ok (.bool false) W := by
  have h := equalType k o t W
  simp only [binOp, Sem.run_bind, h, Result.andThen_ok, Sem.run_pure]
  rfl
end Go.Proofs.Ytbcddjaecdoliaa
