/-
  pack's reader: text, cmd, fault: what they return.
-/
import Derived.Test.YtkeljejddfpnmaaDoorKCmdP
namespace Go.Proofs.YtkeljejddfpnmaaDoor
open Go.RowKit Go.Sort

theorem val2_nat (s : RS) : val 2 s = ((txtN s : Nat) : Int) := by
  have h : beV (frt 2 s) < 65536 := by
    rcases frt_len 2 s with e | e
    · exact beV_lt4 _ 2 e
    · rw [e]; decide
  unfold val numV txtN
  rw [IntKind.wrap_i64]
  omega
theorem Keep1.row {x : Nat} {w w' : World} {ao : Option Addr} {l : List UInt8} (k : Keep1 x w w') (h : BRowN w x ao l) : BRowN w' x ao l := h.same k.size fun i hi hx => k.block i hi hx hx

set_option maxHeartbeats 2000000 in
theorem rtext7_any (s : RS) (w : World) (rb : Nat) (h : RdK w rb s) :
    Calls Tryd.prog 39 #[.pointer (some ⟨rb, 0, none⟩)] w fun e w' => e = .returned (.string ⟨(txtV s).toArray⟩) ∧ Keep1 rb w w' ∧ RdK w' rb (txtS s) := by
  have N := rnumber_any 2 (by decide) s w rb h
  rw [val2_nat] at N
  have X := fun w' h' => next_any (txtN s) (nxt 2 s) w' rb h'
  unfold txtV txtS
  generalize txtN s = n at *
  generalize nxt 2 s = s1 at *
  go_enter Tryd.func39, Tryd.ntmps39
  go_wp2_with fail
  refine Calls.mono N ?_
  rintro e w1 ⟨rfl, k1, h1⟩
  go_wp2_with fail
  refine (X w1 h1).mono ?_
  rintro e w2 ⟨ao, cap, rfl, _, hrow, k2, h2⟩
  have CV := conv_run cap rfl hrow.row
  go_wp2
  go_ret
  exact ⟨rfl, k1.trans k2, h2⟩

set_option maxHeartbeats 2000000 in
theorem fault_any (s : RS) (w : World) (rb : Nat) (h : RdK w rb s) :
    Calls Tryd.prog 38 #[.pointer (some ⟨rb, 0, none⟩)] w fun e w' => e = .returned (.int .i64 (fltE s)) ∧ w' = w := by
  obtain ⟨ao, cap, h⟩ := h
  obtain ⟨c0, c1, c2, _⟩ := r_cells h.obj
  obtain ⟨l, b, d⟩ := s
  unfold fltE
  simp only [] at c0 c1 c2 ⊢
  clear h
  cases b with
  | true =>
    go_enter Tryd.func38, Tryd.ntmps38
    go_wp2
    go_ret
    exact ⟨rfl, rfl⟩
  | false =>
    cases d with
    | true =>
      go_enter Tryd.func38, Tryd.ntmps38
      go_wp2
      go_ret
      exact ⟨rfl, rfl⟩
    | false =>
      simp only [Bool.false_eq_true, if_false]
      by_cases h0 : 0 < l.length
      · rw [if_pos h0]
        have i1 : (0 : Int) < (l.length : Int) := by omega
        generalize l.length = n at *
        clear h0
        go_enter Tryd.func38, Tryd.ntmps38
        go_wp2
        go_ret
        exact ⟨rfl, rfl⟩
      · rw [if_neg h0]
        have h1 : l.length = 0 := by omega
        rw [h1] at c0
        clear h0 h1
        go_enter Tryd.func38, Tryd.ntmps38
        go_wp2
        go_ret
        exact ⟨rfl, rfl⟩

/-- The block of a command that is read. -/
theorem c5_set {w : World} {b : Nat} {c : C5} (h : w.heap[b]? = some c.obj) :
    (∀ x, (w.setCell ⟨b, 0, none⟩ (.int .i64 x)).heap[b]? = some (C5.obj { c with cl := x })) ∧ (∀ x, (w.setCell ⟨b, 1, none⟩ (.int .i64 x)).heap[b]? = some (C5.obj { c with sq := x })) ∧ (∀ x, (w.setCell ⟨b, 2, none⟩ (.int .i64 x)).heap[b]? = some (C5.obj { c with kd := x })) ∧
    (∀ x, (w.setCell ⟨b, 3, none⟩ (.string x)).heap[b]? = some (C5.obj { c with nm := x })) ∧ (∀ x, (w.setCell ⟨b, 4, none⟩ (.string x)).heap[b]? = some (C5.obj { c with tx := x })) := by
  unfold C5.obj at h ⊢
  refine ⟨fun x => ?_, fun x => ?_, fun x => ?_, fun x => ?_, fun x => ?_⟩ <;> simp [World.setCell, Array.getElem?_modify, h]
theorem Keep2.bl {x y k : Nat} {w w' : World} {o : Obj} (h : Keep2 x y w w') (hx : k ≠ x) (hy : k ≠ y) (ho : w.heap[k]? = some o) : w'.heap[k]? = some o :=
  (h.block k (Array.getElem?_eq_some_iff.1 ho).1 hx hy).trans ho
theorem c5_cell {w : World} {b : Nat} {c : C5} (h : w.heap[b]? = some c.obj) (k : Nat) (n : Int) : w.cell? ⟨b, k, none⟩ ≠ some (.int .u8 n) := by
  unfold C5.obj at h
  rw [Lib.cell_of_heap h]
  rcases k with _ | _ | _ | _ | _ | k <;> simp
theorem RdK.setc {w : World} {rb : Nat} {s : RS} (h : RdK w rb s) {b : Nat} {c : C5} (hc : w.heap[b]? = some c.obj) (hb : rb ≠ b) (o : Nat) (u : Value) : RdK (w.setCell ⟨b, o, none⟩ u) rb s := by
  obtain ⟨ao, cap, h⟩ := h
  refine ⟨ao, cap, (Below.heap_setCell _ _ _ _ hb).trans h.obj, h.cap, ?_⟩
  rcases h.row with e | ⟨g, off, e, hg, hx, hcc⟩
  · exact .inl e
  · by_cases h0 : s.l.length = 0
    · exact .inl (List.eq_nil_of_length_eq_zero h0)
    · have hgb : g ≠ b := fun e => by
        subst e
        exact c5_cell hc _ _ (hcc 0 (by omega))
      exact .inr ⟨g, off, e, by simp only [World.setCell, Array.size_modify]; exact hg, hx, fun j hj => (World.cell?_of_block (w := w) (Below.heap_setCell _ _ _ _ hgb)).trans (hcc j hj)⟩

def set5 (w : World) (b : Nat) (c : C5) : World := ((((w.setCell ⟨b, 0, none⟩ (.int .i64 c.cl)).setCell ⟨b, 1, none⟩ (.int .i64 c.sq)).setCell ⟨b, 2, none⟩ (.int .i64 c.kd)).setCell ⟨b, 3, none⟩ (.string c.nm)).setCell ⟨b, 4, none⟩ (.string c.tx)
theorem set5_at {w : World} {b : Nat} {c0 : C5} (h : w.heap[b]? = some c0.obj) (c : C5) : (set5 w b c).heap[b]? = some c.obj :=
  (c5_set ((c5_set ((c5_set ((c5_set ((c5_set h).1 c.cl)).2.1 c.sq)).2.2.1 c.kd)).2.2.2.1 c.nm)).2.2.2.2 c.tx
theorem RdK.set5 {w : World} {rb : Nat} {s : RS} (h : RdK w rb s) {b : Nat} {c0 : C5} (hz : w.heap[b]? = some c0.obj) (hb : rb ≠ b) (c : C5) : RdK (set5 w b c) rb s := by
  have z1 := (c5_set hz).1 c.cl
  have z2 := (c5_set z1).2.1 c.sq
  have z3 := (c5_set z2).2.2.1 c.kd
  have z4 := (c5_set z3).2.2.2.1 c.nm
  exact ((((h.setc hz hb 0 _).setc z1 hb 1 _).setc z2 hb 2 _).setc z3 hb 3 _).setc z4 hb 4 _
theorem Keep2.set1 {x y b o : Nat} {a w : World} (h : Keep2 x y a w) (hb : a.heap.size ≤ b) (u : Value) : Keep2 x y a (w.setCell ⟨b, o, none⟩ u) :=
  ⟨h.os, h.tape, h.output, by have := h.size; simp only [World.setCell, Array.size_modify]; exact this, fun i hi hx hy => by
    rw [Below.heap_setCell _ _ _ _ (by show i ≠ b; omega)]
    exact h.block i hi hx hy⟩
theorem Keep2.set5 {x y b : Nat} {a w : World} (h : Keep2 x y a w) (hb : a.heap.size ≤ b) (c : C5) : Keep2 x y a (set5 w b c) := ((((h.set1 hb _).set1 hb _).set1 hb _).set1 hb _).set1 hb _

set_option maxHeartbeats 8000000 in
set_option maxRecDepth 1000000 in
theorem rcmd_any (s : RS) (w : World) (rb : Nat) (h : RdK w rb s) :
    Calls Tryd.prog 27 #[.pointer (some ⟨rb, 0, none⟩)] w fun e w' => e = .returned (cmdV s).val ∧ Keep1 rb w w' ∧ RdK w' rb (cmdS s) := by
  have hlt := h.lt
  have b2 := below2 w (.cells #[.int .i64 0, .int .i64 0, .int .i64 0, .string ⟨#[]⟩, .string ⟨#[]⟩] 23) (.cells #[.int .i64 0, .int .i64 0, .int .i64 0, .string ⟨#[]⟩, .string ⟨#[]⟩] 23)
  have zr := kept_of_below (new1 _ (.cells #[.int .i64 0, .int .i64 0, .int .i64 0, .string ⟨#[]⟩, .string ⟨#[]⟩] 23)) (alloc_heap w (.cells #[.int .i64 0, .int .i64 0, .int .i64 0, .string ⟨#[]⟩, .string ⟨#[]⟩] 23))
  have zc := alloc_heap (w.alloc (.cells #[.int .i64 0, .int .i64 0, .int .i64 0, .string ⟨#[]⟩, .string ⟨#[]⟩] 23)) (.cells #[.int .i64 0, .int .i64 0, .int .i64 0, .string ⟨#[]⟩, .string ⟨#[]⟩] 23)
  rw [show (w.alloc (.cells #[.int .i64 0, .int .i64 0, .int .i64 0, .string ⟨#[]⟩, .string ⟨#[]⟩] 23)).heap.size = w.heap.size + 1 by simp] at zc
  have h2 := h.below b2
  have hrc : rb ≠ w.heap.size + 1 := by omega
  have hcr : w.heap.size + 1 ≠ rb := by omega
  have hrr : w.heap.size ≠ rb := by omega
  have k0 : Keep1 rb w ((w.alloc (.cells #[.int .i64 0, .int .i64 0, .int .i64 0, .string ⟨#[]⟩, .string ⟨#[]⟩] 23)).alloc (.cells #[.int .i64 0, .int .i64 0, .int .i64 0, .string ⟨#[]⟩, .string ⟨#[]⟩] 23)) := .of_below b2
  have KS : ∀ (a : World) (o : Nat) (u : Value), Keep1 rb w a → Keep1 rb w (a.setCell ⟨w.heap.size + 1, o, none⟩ u) := fun a o u k =>
    ⟨k.os, k.tape, k.output, by have := k.size; simp only [World.setCell, Array.size_modify]; exact this, fun i hi hx hy => by
      rw [Below.heap_setCell _ _ _ _ (by show i ≠ w.heap.size + 1; omega)]
      exact k.block i hi hx hy⟩
  unfold cmdV cmdS
  obtain ⟨s3, hs3⟩ : ∃ s3, s3 = nxt 1 (nxt 8 (nxt 1 s)) := ⟨_, rfl⟩
  rw [← hs3]
  have HS3 := hide hs3
  clear hs3
  go_enter Tryd.func27, Tryd.ntmps27
  go_upto_region 2 with fail
  generalize (w.alloc _).alloc _ = w2 at *
  have zc : w2.heap[w.heap.size + 1]? = some (C5.obj ⟨0, 0, 0, ⟨#[]⟩, ⟨#[]⟩⟩) := zc
  have zr : w2.heap[w.heap.size]? = some (C5.obj ⟨0, 0, 0, ⟨#[]⟩, ⟨#[]⟩⟩) := zr
  go_wp2_with fail
  refine Calls.mono (rnumber_any 1 (by decide) s w2 rb h2) ?_
  rintro e w3 ⟨rfl, k3, h3⟩
  have zc3 := k3.bl hcr hcr zc
  have zr3 := k3.bl hrr hrr zr
  obtain ⟨u0, _, _, _, _, uf⟩ := blk5 zc3
  have zc4 := (c5_set zc3).1 (val 1 s)
  have h4 := h3.setc zc3 hrc 0 (.int .i64 (val 1 s))
  have zr4 := zr3
  rw [← Below.heap_setCell _ ⟨w.heap.size + 1, 0, none⟩ (.int .i64 (val 1 s)) _ (show w.heap.size ≠ w.heap.size + 1 by omega)] at zr4
  have k4 := KS _ 0 (.int .i64 (val 1 s)) (k0.trans k3)
  go_upto_region 3 with fail
  clear u0 uf zc3 zr3 h3 k3 h2 zc zr k0
  generalize World.setCell _ _ _ = w4 at *
  go_wp2_with fail
  refine Calls.mono (rnumber_any 8 (by decide) (nxt 1 s) w4 rb h4) ?_
  rintro e w5 ⟨rfl, k5, h5⟩
  have zc5 := k5.bl hcr hcr zc4
  have zr5 := k5.bl hrr hrr zr4
  obtain ⟨_, u1, _, _, _, uf⟩ := blk5 zc5
  have zc6 := (c5_set zc5).2.1 (val 8 (nxt 1 s))
  have h6 := h5.setc zc5 hrc 1 (.int .i64 (val 8 (nxt 1 s)))
  have zr6 := zr5
  rw [← Below.heap_setCell _ ⟨w.heap.size + 1, 1, none⟩ (.int .i64 (val 8 (nxt 1 s))) _ (show w.heap.size ≠ w.heap.size + 1 by omega)] at zr6
  have k6 := KS _ 1 (.int .i64 (val 8 (nxt 1 s))) (k4.trans k5)
  go_upto_region 4 with fail
  clear u1 uf zc5 zr5 h5 k5 h4 zc4 zr4 k4
  generalize World.setCell _ _ _ = w6 at *
  go_wp2_with fail
  refine Calls.mono (rnumber_any 1 (by decide) (nxt 8 (nxt 1 s)) w6 rb h6) ?_
  rintro e w7 ⟨rfl, k7, h7⟩
  rw [← unhide HS3] at h7
  have zc7 := k7.bl hcr hcr zc6
  have zr7 := k7.bl hrr hrr zr6
  obtain ⟨_, _, u2, _, _, uf⟩ := blk5 zc7
  have zc8 := (c5_set zc7).2.2.1 (val 1 (nxt 8 (nxt 1 s)))
  have h8 := h7.setc zc7 hrc 2 (.int .i64 (val 1 (nxt 8 (nxt 1 s))))
  have zr8 := zr7
  rw [← Below.heap_setCell _ ⟨w.heap.size + 1, 2, none⟩ (.int .i64 (val 1 (nxt 8 (nxt 1 s)))) _ (show w.heap.size ≠ w.heap.size + 1 by omega)] at zr8
  have k8 := KS _ 2 (.int .i64 (val 1 (nxt 8 (nxt 1 s)))) (k6.trans k7)
  go_upto_region 5 with fail
  clear u2 uf zc7 zr7 h7 k7 h6 zc6 zr6 k6
  generalize World.setCell _ _ _ = w8 at *
  go_wp2_with fail
  refine Calls.mono (rtext7_any s3 w8 rb h8) ?_
  rintro e w9 ⟨rfl, k9, h9⟩
  have zc9 := k9.bl hcr hcr zc8
  have zr9 := k9.bl hrr hrr zr8
  obtain ⟨_, _, _, u3, _, uf⟩ := blk5 zc9
  have zc10 := (c5_set zc9).2.2.2.1 ⟨(txtV s3).toArray⟩
  have h10 := h9.setc zc9 hrc 3 (.string ⟨(txtV s3).toArray⟩)
  have zr10 := zr9
  rw [← Below.heap_setCell _ ⟨w.heap.size + 1, 3, none⟩ (.string ⟨(txtV s3).toArray⟩) _ (show w.heap.size ≠ w.heap.size + 1 by omega)] at zr10
  have k10 := KS _ 3 (.string ⟨(txtV s3).toArray⟩) (k8.trans k9)
  go_upto_region 6 with fail
  clear u3 uf zc9 zr9 h9 k9 h8 zc8 zr8 k8
  generalize World.setCell _ _ _ = w10 at *
  go_wp2_with fail
  refine Calls.mono (rtext7_any (txtS s3) w10 rb h10) ?_
  rintro e w11 ⟨rfl, k11, h11⟩
  have zc11 := k11.bl hcr hcr zc10
  have zr11 := k11.bl hrr hrr zr10
  obtain ⟨_, _, _, _, u4, uf⟩ := blk5 zc11
  have zc12 := (c5_set zc11).2.2.2.2 ⟨(txtV (txtS s3)).toArray⟩
  have h12 := h11.setc zc11 hrc 4 (.string ⟨(txtV (txtS s3)).toArray⟩)
  have zr12 := zr11
  rw [← Below.heap_setCell _ ⟨w.heap.size + 1, 4, none⟩ (.string ⟨(txtV (txtS s3)).toArray⟩) _ (show w.heap.size ≠ w.heap.size + 1 by omega)] at zr12
  have k12 := KS _ 4 (.string ⟨(txtV (txtS s3)).toArray⟩) (k10.trans k11)
  go_upto_region 7 with fail
  clear u4 uf zc11 zr11 h11 k11 h10 zc10 zr10 k10
  generalize World.setCell _ _ _ = w12 at *
  obtain ⟨c0, c1, c2, c3, c4, _⟩ := blk5 zc12
  obtain ⟨r0, r1, r2, r3, r4, rf⟩ := blk5 zr12
  simp only [] at c0 c1 c2 c3 c4
  go_wp2
  refine bodyPost_ret (v := _) (by simp [results, Tryd.results27, go_sem, r0, r1, r2, r3, r4]; rfl) rfl ⟨rfl, k12.set5 (Nat.le_refl _) ⟨val 1 s, val 8 (nxt 1 s), val 1 (nxt 8 (nxt 1 s)), ⟨(txtV s3).toArray⟩, ⟨(txtV (txtS s3)).toArray⟩⟩, h12.set5 zr12 (Ne.symm hrr) ⟨val 1 s, val 8 (nxt 1 s), val 1 (nxt 8 (nxt 1 s)), ⟨(txtV s3).toArray⟩, ⟨(txtV (txtS s3)).toArray⟩⟩⟩
end Go.Proofs.YtkeljejddfpnmaaDoor
