/-
 Package types: ofSet, ofLeaf: what they return.
 Package types: ofNode: what it returns.
 Package types: Of: what it returns.
-/
import Derived.Test.YtagnbpobcijakaaTyAC
import Derived.Test.YtagnbpobcijakaaVeN
import Derived.BigGuardPart
import Derived.Test.YtagnbpobcijakaaTyD
import Derived.Maps.AppendAt
namespace Go.Proofs.Ytagnbpobcijakaa
open Go.RowKit Go.Sort

/-- What the operations of a region answer, one by one. -/
def SpL (l : List Value) : Nat → Value → World → Prop := fun q v _ => v = l.getD q undef
/-- While a type is laid into the place of the result. -/
structure RS (m S : Nat) (w0 w1 : World) (V : Nat) (k o : Int) (n : ByteArray) (L : Nat → Bool) (a' : Act) (w' : World) : Prop where
 below : Below w0.heap.size w0 w'
 size : w1.heap.size ≤ w'.heap.size
 keep : ∀ b, b < w1.heap.size → b ≠ V → w'.heap[b]? = w1.heap[b]?
 zero : L m = false → w'.heap[V]? = some (.cells #[.int .i64 0, .int .i64 0, .string ⟨#[]⟩] 54 (0, 0))
 full : L m = true → w'.heap[V]? = some (.cells #[.int .i64 k, .int .i64 o, .string n] 54 (0, 0))
 sl : a'.tmps.getD S undef = .pointer (some ⟨V, 0, none⟩)
section
variable {m S : Nat} {w0 w1 : World} {V : Nat} {k o : Int} {n : ByteArray} {L : Nat → Bool} {a' : Act} {w' w'' : World}
theorem RS.start (a : Act) (hb : Below w0.heap.size w0 w1) (h : w1.heap[V]? = some (.cells #[.int .i64 0, .int .i64 0, .string ⟨#[]⟩] 54 (0, 0))) (hs : a.tmps.getD S undef = .pointer (some ⟨V, 0, none⟩)) : RS m S w0 w1 V k o n (fun _ => false) a w1.drew :=
 ⟨hb.drew, Nat.le_refl _, fun _ _ _ => rfl, fun _ => h, fun h => (by cases h), hs⟩
theorem RS.step (h : RS m S w0 w1 V k o n L a' w') (hb : Below w'.heap.size w' w'') (i d : Nat) (v : Value) (hi : i ≠ m) (hd : d ≠ S) : RS m S w0 w1 V k o n (fun j => decide (j = i) || L j) (a'.put (some d) v) w'' := by
 have e9 : (decide (m = i) || L m) = L m := by simp [Ne.symm hi]
 have hz := h.size
 exact ⟨h.below.trans (hb.mono h.below.size), Nat.le_trans hz hb.size, fun b y1 y2 => (hb.block b (by omega)).trans (h.keep b y1 y2), fun y => kept_of_below hb (h.zero (e9.symm.trans y)), fun y => kept_of_below hb (h.full (e9.symm.trans y)), (put_other _ _ _ _ hd).trans h.sl⟩
theorem RS.put (h : RS m S w0 w1 V k o n L a' w') (_hV : V < w1.heap.size) (hw : w0.heap.size ≤ V) (hL : L m = false) : RS m S w0 w1 V k o n (fun j => decide (j = m) || L j) a' (((w'.setCell ⟨V, 0, none⟩ (.int .i64 k)).setCell ⟨V, 1, none⟩ (.int .i64 o)).setCell ⟨V, 2, none⟩ (.string n)) := by
 have s1 := heap_setCell_same w' V 0 _ _ (.int .i64 k) (h.zero hL)
 have s2 := heap_setCell_same _ V 1 _ _ (.int .i64 o) s1
 have s3 := heap_setCell_same _ V 2 _ _ (.string n) s2
 refine ⟨((h.below.setCell (p := ⟨V, 0, none⟩) hw _).setCell (p := ⟨V, 1, none⟩) hw _).setCell (p := ⟨V, 2, none⟩) hw _, by have := h.size; simpa using this, fun b y1 y2 => ?_, fun y => ?_, fun _ => s3, h.sl⟩
 ·exact ((Below.heap_setCell _ ⟨V, 2, none⟩ _ b y2).trans ((Below.heap_setCell _ ⟨V, 1, none⟩ _ b y2).trans (Below.heap_setCell _ ⟨V, 0, none⟩ _ b y2))).trans (h.keep b y1 y2)
 ·simp at y
end
theorem setT_all {a : T3} {t : List T3} (h5 : a.k ≠ 5) (h : ∀ j (hj : j < (a :: t).length), (a :: t)[j] = a) : setT (a :: t) = (⟨5, a.k, a.n⟩, 0) := by
 show (if a.k = 5 then _ else _) = _
 rw [if_neg h5, if_pos]
 rw [List.all_eq_true]
 intro x hx
 obtain ⟨j, hj, e⟩ := List.getElem_of_mem hx
 rw [← e, h j hj]
 simp
theorem setT_not {a : T3} {t : List T3} {j : Nat} (hj : j < (a :: t).length) (h : (a :: t)[j] ≠ a) : setT (a :: t) = (zT, 16) := by
 show (if a.k = 5 then _ else _) = _
 by_cases h5 : a.k = 5
 ·rw [if_pos h5]
 ·rw [if_neg h5, if_neg]
  intro hh
  have := List.all_eq_true.1 hh _ (List.getElem_mem hj)
  exact h (of_decide_eq_true this)
set_option maxHeartbeats 2000000 in
set_option maxRecDepth 1000000 in
theorem ofSet_any (l : List T3) (lo : Option Addr) (cap Ln : Nat) (w : World) (hL : Ln = l.length) (hl : l.length ≤ 281474976710656) (hr : RowT3 w lo l) : Calls Try.prog 46 #[.slice lo Ln cap] w fun e w' => e = .returned (setT l).ret ∧ Below w.heap.size w w' := by
 have b1 := blw1 w (.cells #[.int .i64 0, .int .i64 0, .string ⟨#[]⟩] 54)
 have h1 := alloc_heap w (.cells #[.int .i64 0, .int .i64 0, .string ⟨#[]⟩] 54)
 have z1 : (w.alloc (.cells #[.int .i64 0, .int .i64 0, .string ⟨#[]⟩] 54)).heap.size = w.heap.size + 1 := by simp
 cases l with
 | nil =>
  subst hL
  simp only [List.length_nil]
  clear hr hl
  go_enter Try.func46, Try.ntmps46
  go_upto_region 1 with fail
  generalize w.alloc _ = w1 at *
  have HE := hide (show setT [] = (⟨0, 0, ⟨#[]⟩⟩, 16) from rfl)
  obtain ⟨z0, z1, z2⟩ := bl3_ h1
  have zf : ∀ o, w1.frozen? ⟨w.heap.size, o, none⟩ = false := fun o => Lib.frozen_of_heap h1 o
  have HQ := hide (set3_all (.int .i64 0) (.int .i64 0) (.string ⟨#[]⟩) h1 b1 (Nat.le_refl _))
  go_wp2
  obtain ⟨q0, q1, q2, qb⟩ := unhide HQ
  exact bodyPost_ret (v := .tuple #[.agg #[.int .i64 0, .int .i64 0, .string ⟨#[]⟩], .int .i64 16]) (by simp [results, Try.results46, go_sem, q0, q1, q2]) rfl ⟨by rw [unhide HE]; rfl, qb⟩
 | cons a t =>
  obtain ⟨g, off, rfl, hg, hat⟩ := hr.get (Below.refl _ w) (show 0 < (a :: t).length by simp)
  have hat : AtT3 w g off a := by simpa using hat
  obtain ⟨a0, a1, a2⟩ := hat
  have L0 : 0 < Ln := by rw [hL]; simp
  have l0 : ((Ln : Int) == 0) = false := by
   have : ¬ (Ln : Int) = 0 := by omega
   simpa using this
  have i00 : (0 : Int) < (Ln : Int) := by omega
  have hLb : Ln ≤ 281474976710656 := by rw [hL]; exact hl
  have HL := hide hL
  have HR := hide hr
  clear hL hl hr
  go_enter Try.func46, Try.ntmps46
  go_upto_region 1 with fail
  generalize w.alloc _ = w1 at *
  have y0 := (b1.cell (p := ⟨g, off, none⟩) hg).trans a0
  have y1 := (b1.cell (p := ⟨g, off + 1, none⟩) hg).trans a1
  have y2 := (b1.cell (p := ⟨g, off + 2, none⟩) hg).trans a2
  by_cases h5 : a.k = 5
  ·rw [h5] at y0
   have HE := hide (show setT (a :: t) = (⟨0, 0, ⟨#[]⟩⟩, 16) from by
    show (if a.k = 5 then _ else _) = _
    rw [if_pos h5]
    rfl)
   obtain ⟨z0, z1, z2⟩ := bl3_ h1
   have zf : ∀ o, w1.frozen? ⟨w.heap.size, o, none⟩ = false := fun o => Lib.frozen_of_heap h1 o
   have HQ := hide (set3_all (.int .i64 0) (.int .i64 0) (.string ⟨#[]⟩) h1 b1 (Nat.le_refl _))
   go_wp2
   obtain ⟨q0, q1, q2, qb⟩ := unhide HQ
   exact bodyPost_ret (v := .tuple #[.agg #[.int .i64 0, .int .i64 0, .string ⟨#[]⟩], .int .i64 16]) (by simp [results, Try.results46, go_sem, q0, q1, q2]) rfl ⟨by rw [unhide HE]; rfl, qb⟩
  ·have g5 : (a.k == 5) = false := by simpa using h5
   have H5 := hide h5
   clear h5
   go_wp2_with fail
   clear y0 y1 y2
   go_loopw [19] (fun iv wr => ∃ i : Nat, iv = .int .i64 i ∧ i ≤ Ln ∧ Below w1.heap.size w1 wr ∧ ∀ j (hj : j < (a :: t).length), j < i → (a :: t)[j] = a) (fun iv _ => Ln - (intOf iv).toNat)
   case atStart => exact ⟨0, by go_num, Nat.zero_le _, Below.refl _ _, fun j _ h => absurd h (Nat.not_lt_zero _)⟩
   case round =>
    obtain ⟨i, rfl, hil, hbw, hall⟩ := hrel
    have Hall := hide hall
    clear hall
    have b0w := b1.trans (hbw.mono b1.size)
    have hqw := kept_of_below hbw h1
    by_cases hlt : i < Ln
    ·have i0 : (0 : Int) ≤ (i : Int) := by omega
     have i1 : (i : Int) < (Ln : Int) := by omega
     have hlt' : i < (a :: t).length := by rw [← unhide HL]; exact hlt
     obtain ⟨g', off', eg, _, ⟨c0, c1, c2⟩⟩ := (unhide HR).get b0w hlt'
     cases eg
     have BT := binNeqT3 (a :: t)[i] a
     have HX := hide (show ∀ z, z = (!decide ((a :: t)[i] = a)) → (z = true → setT (a :: t) = (zT, 16)) ∧ (z = false → (a :: t)[i] = a) from fun z hz => ⟨fun h => setT_not hlt' (fun e => by rw [hz, e] at h; simp at h), fun h => by rw [hz] at h; simpa using h⟩)
     have HN := hide (show ((a :: t)[i] = a) → ∀ j (hj : j < (a :: t).length), j < i + 1 → (a :: t)[j] = a from fun e j hj hji => by
      by_cases h : j < i
      ·exact unhide Hall j hj h
      ·have : j = i := by omega
       subst this
       exact e)
     obtain ⟨z, hz⟩ : ∃ z, z = (!decide ((a :: t)[i] = a)) := ⟨_, rfl⟩
     rw [← hz] at BT
     have HZ := hide (unhide HX z hz)
     clear hz HX Hall
     generalize hai : (a :: t)[i] = b at *
     clear hai hlt'
     have bF := blw1 wr (.cells #[.int .i64 b.k, .int .i64 b.o, .string b.n] 54)
     have HFb := alloc_heap wr (.cells #[.int .i64 b.k, .int .i64 b.o, .string b.n] 54)
     have hqF := kept_of_below bF hqw
     have b0F := b0w.trans (bF.mono b0w.size)
     have bwF := hbw.trans (bF.mono hbw.size)
     go_upto_region 6 with fail
     generalize wr.alloc _ = wF at *
     have g0 := cell_regrown (show wF.cell? ⟨wr.heap.size, 0, none⟩ = some (.int .i64 b.k) by rw [Lib.cell_of_heap HFb]; rfl)
     have g1 := cell_regrown (show wF.cell? ⟨wr.heap.size, 1, none⟩ = some (.int .i64 b.o) by rw [Lib.cell_of_heap HFb]; rfl)
     have g2 := cell_regrown (show wF.cell? ⟨wr.heap.size, 2, none⟩ = some (.string b.n) by rw [Lib.cell_of_heap HFb]; rfl)
     have g3 := cell_regrown ((b0F.cell (p := ⟨g, off, none⟩) hg).trans a0)
     have g4 := cell_regrown ((b0F.cell (p := ⟨g, off + 1, none⟩) hg).trans a1)
     have g6 := cell_regrown ((b0F.cell (p := ⟨g, off + 2, none⟩) hg).trans a2)
     clear c0 c1 c2
     refine wp_region_quiet_below (by kernel_rfl) (by kernel_rfl) ?_
     repeat (first | go_big_quiet_step (fail) | quiet_step (fail))
     refine wpQuiet_nil ?_
     intro _ hw'
     obtain ⟨⟨dq2, osq2⟩, hw''⟩ := hw'
     subst hw''
     have b11 := below_regrown wF dq2 osq2
     generalize grow (redrawn wF dq2) osq2 = w6' at *
     clear g0 g1 g2 g3 g4 g6
     have hq6 := kept_of_below b11 hqF
     have b06 := b0F.trans (b11.mono b0F.size)
     have bw6 := bwF.trans (b11.mono bwF.size)
     cases z
     ·have HN := hide (unhide HN ((unhide HZ).2 rfl))
      clear HZ BT
      go_wp2
      go_roundw
      case rel => exact ⟨i + 1, by go_num, by omega, bw6, unhide HN⟩
      case measure =>
       simp only [intOf]
       omega
     ·have HE := hide (show setT (a :: t) = (⟨0, 0, ⟨#[]⟩⟩, 16) from (unhide HZ).1 rfl)
      clear HZ HN BT
      obtain ⟨z0, z1, z2⟩ := bl3_ hq6
      have zf : ∀ o, w6'.frozen? ⟨w.heap.size, o, none⟩ = false := fun o => Lib.frozen_of_heap hq6 o
      have HQ := hide (set3_all (.int .i64 0) (.int .i64 0) (.string ⟨#[]⟩) hq6 b06 (Nat.le_refl _))
      go_wp2
      obtain ⟨q0, q1, q2, qb⟩ := unhide HQ
      exact bodyPost_ret (v := .tuple #[.agg #[.int .i64 0, .int .i64 0, .string ⟨#[]⟩], .int .i64 16]) (by simp [results, Try.results46, go_sem, q0, q1, q2]) rfl ⟨by rw [unhide HE]; rfl, qb⟩
    ·have i1 : ¬ (i : Int) < (Ln : Int) := by omega
     have HE := hide (show setT (a :: t) = (⟨5, a.k, a.n⟩, 0) from setT_all (unhide H5) fun j hj => unhide Hall j hj (by have := unhide HL; omega))
     have hVlt : w.heap.size < wr.heap.size := (Array.getElem?_eq_some_iff.1 hqw).1
     have hVle : w.heap.size ≤ w.heap.size := Nat.le_refl _
     clear Hall
     go_upto_region 9 with fail
     refine wp_specsD (SpL [.slice (some ⟨g, off, none⟩) Ln cap, .pointer (some ⟨g, off, none⟩), .pointer (some ⟨g, off, none⟩), .int .i64 a.k, .slice (some ⟨g, off, none⟩) Ln cap, .pointer (some ⟨g, off, none⟩), .pointer (some ⟨g, off + 2, none⟩), .string a.n, .agg #[.int .i64 5, .int .i64 a.k, .string a.n], undef, .int .i64 0]) (RS 9 2 w wr (w.heap.size) (5) (a.k) (a.n)) (by kernel_rfl) (by kernel_rfl) (by kernel_rfl) (RS.start _ b0w hqw rfl) ?_ ?_ ?_
     ·intro q o d ho hd L a' w' hL hw hRR hdep hslot hsz K hK
      have hqN : q < 11 := dstOf_lt hd
      have hR := hRR.below
      have x0 := (hR.cell (p := ⟨g, off, none⟩) hg).trans a0
      have x2 := (hR.cell (p := ⟨g, off + 2, none⟩) hg).trans a2
      have hs0 : a'.tmps.getD 0 undef = .slice (some ⟨g, off, none⟩) Ln cap := hslot 0 (fun q h => by have hl := dstOf_lt h; match q, hl with | 0, _ => cases h | 1, _ => cases h | 2, _ => cases h | 3, _ => cases h | 4, _ => cases h | 5, _ => cases h | 6, _ => cases h | 7, _ => cases h | 8, _ => cases h | 9, _ => cases h | 10, _ => cases h)
      have hc : q = 0 ∨ q = 1 ∨ q = 2 ∨ q = 3 ∨ q = 4 ∨ q = 5 ∨ q = 6 ∨ q = 7 ∨ q = 8 ∨ q = 9 ∨ q = 10 := by omega
      rcases hc with rfl | rfl | rfl | rfl | rfl | rfl | rfl | rfl | rfl | rfl | rfl
      ·cases ho
       cases hd
       have e0 := hs0
       clear x0 x2
       unfold Oper.wp
       go_simp
       exact hK _ _ rfl (hRR.step (Below.refl _ w') 0 30 _ (by decide) (by decide)) (fun _ _ h => h)
      ·cases ho
       cases hd
       have e0 : a'.tmps.getD 30 undef = .slice (some ⟨g, off, none⟩) Ln cap := hdep 0 30 rfl (by kernel_rfl)
       have e0' := gd_ e0
       clear x0 x2
       unfold Oper.wp
       go_simp
       exact hK _ _ rfl (hRR.step (Below.refl _ w') 1 31 _ (by decide) (by decide)) (fun _ _ h => h)
      ·cases ho
       cases hd
       have e0 : a'.tmps.getD 31 undef = .pointer (some ⟨g, off, none⟩) := hdep 1 31 rfl (by kernel_rfl)
       have e0' := gd_ e0
       clear x0 x2
       unfold Oper.wp
       go_simp
       exact hK _ _ rfl (hRR.step (Below.refl _ w') 2 32 _ (by decide) (by decide)) (fun _ _ h => h)
      ·cases ho
       cases hd
       have e0 : a'.tmps.getD 32 undef = .pointer (some ⟨g, off, none⟩) := hdep 2 32 rfl (by kernel_rfl)
       have e0' := gd_ e0
       clear x2
       unfold Oper.wp
       go_simp
       exact hK _ _ rfl (hRR.step (Below.refl _ w') 3 33 _ (by decide) (by decide)) (fun _ _ h => h)
      ·cases ho
       cases hd
       have e0 := hs0
       clear x0 x2
       unfold Oper.wp
       go_simp
       exact hK _ _ rfl (hRR.step (Below.refl _ w') 4 34 _ (by decide) (by decide)) (fun _ _ h => h)
      ·cases ho
       cases hd
       have e0 : a'.tmps.getD 34 undef = .slice (some ⟨g, off, none⟩) Ln cap := hdep 4 34 rfl (by kernel_rfl)
       have e0' := gd_ e0
       clear x0 x2
       unfold Oper.wp
       go_simp
       exact hK _ _ rfl (hRR.step (Below.refl _ w') 5 35 _ (by decide) (by decide)) (fun _ _ h => h)
      ·cases ho
       cases hd
       have e0 : a'.tmps.getD 35 undef = .pointer (some ⟨g, off, none⟩) := hdep 5 35 rfl (by kernel_rfl)
       have e0' := gd_ e0
       clear x0 x2
       unfold Oper.wp
       go_simp
       exact hK _ _ rfl (hRR.step (Below.refl _ w') 6 36 _ (by decide) (by decide)) (fun _ _ h => h)
      ·cases ho
       cases hd
       have e0 : a'.tmps.getD 36 undef = .pointer (some ⟨g, off + 2, none⟩) := hdep 6 36 rfl (by kernel_rfl)
       have e0' := gd_ e0
       clear x0
       unfold Oper.wp
       go_simp
       exact hK _ _ rfl (hRR.step (Below.refl _ w') 7 37 _ (by decide) (by decide)) (fun _ _ h => h)
      ·cases ho
       cases hd
       have e0 : a'.tmps.getD 33 undef = .int .i64 a.k := hdep 3 33 rfl (by kernel_rfl)
       have e0' := gd_ e0
       have e1 : a'.tmps.getD 37 undef = .string a.n := hdep 7 37 rfl (by kernel_rfl)
       have e1' := gd_ e1
       clear x0 x2
       have hb0 : 33 < a'.tmps.size := by rw [hsz]; first | decide | simp
       have e0'' : a'.tmps[33] = .int .i64 a.k := by simpa [hb0] using e0
       have hb1 : 37 < a'.tmps.size := by rw [hsz]; first | decide | simp
       have e1'' : a'.tmps[37] = .string a.n := by simpa [hb1] using e1
       unfold Oper.wp
       go_simp
       exact hK _ _ rfl (hRR.step (Below.refl _ w') 8 38 _ (by decide) (by decide)) (fun _ _ h => h)
      ·cases hd
      ·cases ho
       cases hd
       clear x0 x2
       unfold Oper.wp
       go_simp
       exact hK _ _ rfl (hRR.step (Below.refl _ w') 10 3 _ (by decide) (by decide)) (fun _ _ h => h)
     ·intro q o ho hd L a' w' hL hw hRR hdep K hK
      have hqN : q < 11 := (List.getElem?_eq_some_iff.1 ho).1
      have hR := hRR.below
      have x0 := (hR.cell (p := ⟨g, off, none⟩) hg).trans a0
      have x2 := (hR.cell (p := ⟨g, off + 2, none⟩) hg).trans a2
      have hc : q = 0 ∨ q = 1 ∨ q = 2 ∨ q = 3 ∨ q = 4 ∨ q = 5 ∨ q = 6 ∨ q = 7 ∨ q = 8 ∨ q = 9 ∨ q = 10 := by omega
      rcases hc with rfl | rfl | rfl | rfl | rfl | rfl | rfl | rfl | rfl | rfl | rfl
      ·cases hd
      ·cases hd
      ·cases hd
      ·cases hd
      ·cases hd
      ·cases hd
      ·cases hd
      ·cases hd
      ·cases hd
      ·cases ho
       have e0 : a'.tmps.getD 38 undef = .agg #[.int .i64 5, .int .i64 a.k, .string a.n] := hdep 8 38 rfl (by kernel_rfl)
       have e0' := gd_ e0
       have hz := hRR.zero hL
       obtain ⟨r0, r1, r2⟩ := bl3_ hz
       have fz := fun o => Lib.frozen_of_heap hz o
       have e1 : a'.tmps.getD 2 undef = .pointer (some ⟨w.heap.size, 0, none⟩) := hRR.sl
       have HP := hide (hRR.put hVlt hVle hL)
       clear x0 x2 hz
       unfold Oper.wp
       go_simp
       exact hK _ (unhide HP) (fun _ _ h => h) undef
      ·cases hd
     ·intro v L w' hLa hRR hv
      have bE := hRR.below
      have hVf := hRR.full (hLa 9 (by decide))
      have f0 : v 0 = .slice (some ⟨g, off, none⟩) Ln cap := (hv 0 30 rfl).1
      have f1 : v 1 = .pointer (some ⟨g, off, none⟩) := (hv 1 31 rfl).1
      have f2 : v 2 = .pointer (some ⟨g, off, none⟩) := (hv 2 32 rfl).1
      have f3 : v 3 = .int .i64 a.k := (hv 3 33 rfl).1
      have f4 : v 4 = .slice (some ⟨g, off, none⟩) Ln cap := (hv 4 34 rfl).1
      have f5 : v 5 = .pointer (some ⟨g, off, none⟩) := (hv 5 35 rfl).1
      have f6 : v 6 = .pointer (some ⟨g, off + 2, none⟩) := (hv 6 36 rfl).1
      have f7 : v 7 = .string a.n := (hv 7 37 rfl).1
      have f8 : v 8 = .agg #[.int .i64 5, .int .i64 a.k, .string a.n] := (hv 8 38 rfl).1
      have f10 : v 10 = .int .i64 0 := (hv 10 3 rfl).1
      clear hRR hv hLa
      simp only [putAll, dstOf, List.getElem?_cons_zero, List.getElem?_cons_succ, Option.bind_some, List.length_cons, List.length_nil, f0, f1, f2, f3, f4, f5, f6, f7, f8, f10]
      clear f0 f1 f2 f3 f4 f5 f6 f7 f8 f10
      simp only [Act.put, List.setIfInBounds_toArray, List.set_cons_succ, List.set_cons_zero]
      generalize v 9 = vm
      obtain ⟨d0, d1, d2⟩ := bl3_ hVf
      go_wp2
      exact bodyPost_ret (v := .tuple #[.agg #[.int .i64 5, .int .i64 a.k, .string a.n], .int .i64 0]) (by simp [results, Try.results46, go_sem, d0, d1, d2]) rfl ⟨by rw [unhide HE]; rfl, bE⟩
set_option maxHeartbeats 2000000 in
set_option maxRecDepth 1000000 in
theorem ofLeaf_any (s : SP) (v : Value) (p ac r : ByteArray) (k : Int) (eb : Bool) (en : Int) (es et ei : ByteArray) (elo : Option Addr) (ell elc : Nat) (w : World) (hsm : SmS s) (hs : IsS w v s) : Calls Try.prog 47 #[v, .agg #[.string p, .string ac, .string r], .agg #[.int .i64 k, .bool eb, .int .i64 en, .string es, .string et, .string ei, .slice elo ell elc]] w fun e w' => e = .returned (leafT s p r k es et ei).ret ∧ Below w.heap.size w w' := by
 obtain ⟨ko, kc, ao, acp, rfl, _, _⟩ := hs.ex
 obtain ⟨bX, zX, k1, k2, k3, k4⟩ := alloc4 w (.cells #[.slice ko s.ks.length kc, .slice ao s.ac.length acp] 33) (.cells #[.string p, .string ac, .string r] 60) (.cells #[.int .i64 k, .bool eb, .int .i64 en, .string es, .string et, .string ei, .slice elo ell elc] 39) (.cells #[.int .i64 0, .int .i64 0, .string ⟨#[]⟩] 54)
 have hs0 := hs
 go_enter Try.func47, Try.ntmps47
 go_upto_region 1 with fail
 generalize (((w.alloc _).alloc _).alloc _).alloc _ = w1 at *
 obtain ⟨cn0, cn1, cn2⟩ := bl3_ k2
 have ce0 : w1.cell? ⟨w.heap.size + 2, 0, none⟩ = some (.int .i64 k) := lc_ k3 rfl
 have ce3 : w1.cell? ⟨w.heap.size + 2, 3, none⟩ = some (.string es) := lc_ k3 rfl
 by_cases ho : k = 1
 ·subst ho
  have HE := hide (show leafT s p r 1 es et ei = (⟨1, 0, ⟨#[]⟩⟩, 0) from by unfold leafT; rw [if_pos rfl])
  obtain ⟨z0, z1, z2⟩ := bl3_ k4
  have zf : ∀ o, w1.frozen? ⟨w.heap.size + 3, o, none⟩ = false := fun o => Lib.frozen_of_heap k4 o
  have HQ := hide (set3_all (.int .i64 1) (.int .i64 0) (.string ⟨#[]⟩) k4 bX (Nat.le_add_right _ 3))
  go_wp2
  obtain ⟨q0, q1, q2, qb⟩ := unhide HQ
  exact bodyPost_ret (v := .tuple #[.agg #[.int .i64 1, .int .i64 0, .string ⟨#[]⟩], .int .i64 0]) (by simp [results, Try.results47, go_sem, q0, q1, q2]) rfl ⟨by rw [unhide HE]; rfl, qb⟩
 have g1 : (k == 1) = false := by simpa using ho
 have m1 := ho
 clear ho
 by_cases ho : k = 2
 ·subst ho
  clear g1
  have HE := hide (show leafT s p r 2 es et ei = (⟨2, 0, ⟨#[]⟩⟩, 0) from by unfold leafT; rw [if_neg (by decide), if_pos rfl])
  obtain ⟨z0, z1, z2⟩ := bl3_ k4
  have zf : ∀ o, w1.frozen? ⟨w.heap.size + 3, o, none⟩ = false := fun o => Lib.frozen_of_heap k4 o
  have HQ := hide (set3_all (.int .i64 2) (.int .i64 0) (.string ⟨#[]⟩) k4 bX (Nat.le_add_right _ 3))
  go_wp2
  obtain ⟨q0, q1, q2, qb⟩ := unhide HQ
  exact bodyPost_ret (v := .tuple #[.agg #[.int .i64 2, .int .i64 0, .string ⟨#[]⟩], .int .i64 0]) (by simp [results, Try.results47, go_sem, q0, q1, q2]) rfl ⟨by rw [unhide HE]; rfl, qb⟩
 have g2 : (k == 2) = false := by simpa using ho
 have m2 := ho
 clear ho
 by_cases ho : k = 3
 ·subst ho
  clear g1 g2
  have HE := hide (show leafT s p r 3 es et ei = (⟨3, 0, ⟨#[]⟩⟩, 0) from by unfold leafT; rw [if_neg (by decide), if_neg (by decide), if_pos rfl])
  obtain ⟨z0, z1, z2⟩ := bl3_ k4
  have zf : ∀ o, w1.frozen? ⟨w.heap.size + 3, o, none⟩ = false := fun o => Lib.frozen_of_heap k4 o
  have HQ := hide (set3_all (.int .i64 3) (.int .i64 0) (.string ⟨#[]⟩) k4 bX (Nat.le_add_right _ 3))
  go_wp2
  obtain ⟨q0, q1, q2, qb⟩ := unhide HQ
  exact bodyPost_ret (v := .tuple #[.agg #[.int .i64 3, .int .i64 0, .string ⟨#[]⟩], .int .i64 0]) (by simp [results, Try.results47, go_sem, q0, q1, q2]) rfl ⟨by rw [unhide HE]; rfl, qb⟩
 have g3 : (k == 3) = false := by simpa using ho
 have m3 := ho
 clear ho
 by_cases ho : k = 4
 ·subst ho
  clear g1 g2 g3 m1 m2 m3
  obtain ⟨z, hzz⟩ : ∃ z, z = namedB s et ei := ⟨_, rfl⟩
  have CN := fun w' (hb : Below w.heap.size w w') => isNamed_any s _ et ei w' hsm (hs0.below hb)
  rw [← hzz] at CN
  have CE := fun w' (_hb : Below w.heap.size w w') => ofEntity_any et z w'
  have HE : leafT s p r 4 es et ei = entT et z := by rw [hzz]; rfl
  obtain ⟨x, hx⟩ : ∃ x : TR, x = entT et z := ⟨_, rfl⟩
  rw [← hx] at CE HE
  obtain ⟨⟨xk, xo, xn⟩, xe⟩ := x
  have HE := hide HE
  unfold TR.ret at CE
  simp only at CE
  have hVlt : w.heap.size + 3 < w1.heap.size := (Array.getElem?_eq_some_iff.1 k4).1
  have hVle : w.heap.size ≤ w.heap.size + 3 := Nat.le_add_right _ _
  clear hx hzz cn0 cn1 cn2 ce3 hs hs0
  go_upto_region 9 with fail
  clear ce0
  refine wp_specsD (SpL [.pointer (some ⟨w.heap.size + 2, 4, none⟩), .pointer (some ⟨w.heap.size + 2, 4, none⟩), .string et, .agg #[.slice ko s.ks.length kc, .slice ao s.ac.length acp], .pointer (some ⟨w.heap.size + 2, 4, none⟩), .agg #[.string et, .string ei], .bool z, .tuple #[.agg #[.int .i64 xk, .int .i64 xo, .string xn], .int .i64 xe], .agg #[.int .i64 xk, .int .i64 xo, .string xn], .int .i64 xe, undef, .int .i64 xe]) (RS 10 6 w w1 (w.heap.size + 3) (xk) (xo) (xn)) (by kernel_rfl) (by kernel_rfl) (by kernel_rfl) (RS.start _ bX k4 rfl) ?_ ?_ ?_
  ·intro q o d ho hd L a' w' hL hw hRR hdep hslot hsz K hK
   have hqN : q < 12 := dstOf_lt hd
   have hR := hRR.below
   have m1 := (hRR.keep w.heap.size (by omega) (by omega)).trans k1
   have m3 := (hRR.keep (w.heap.size + 2) (by omega) (by omega)).trans k3
   obtain ⟨y0, y1⟩ := bl2_ m1
   have y4 : w'.cell? ⟨w.heap.size + 2, 4, none⟩ = some (.string et) := lc_ m3 rfl
   have y5 : w'.cell? ⟨w.heap.size + 2, 5, none⟩ = some (.string ei) := lc_ m3 rfl
   clear m1 m3
   have hs3 : a'.tmps.getD 3 undef = .pointer (some ⟨w.heap.size, 0, none⟩) := hslot 3 (fun q h => by have hl := dstOf_lt h; match q, hl with | 0, _ => cases h | 1, _ => cases h | 2, _ => cases h | 3, _ => cases h | 4, _ => cases h | 5, _ => cases h | 6, _ => cases h | 7, _ => cases h | 8, _ => cases h | 9, _ => cases h | 10, _ => cases h | 11, _ => cases h)
   have hs5 : a'.tmps.getD 5 undef = .pointer (some ⟨w.heap.size + 2, 0, none⟩) := hslot 5 (fun q h => by have hl := dstOf_lt h; match q, hl with | 0, _ => cases h | 1, _ => cases h | 2, _ => cases h | 3, _ => cases h | 4, _ => cases h | 5, _ => cases h | 6, _ => cases h | 7, _ => cases h | 8, _ => cases h | 9, _ => cases h | 10, _ => cases h | 11, _ => cases h)
   have hc : q = 0 ∨ q = 1 ∨ q = 2 ∨ q = 3 ∨ q = 4 ∨ q = 5 ∨ q = 6 ∨ q = 7 ∨ q = 8 ∨ q = 9 ∨ q = 10 ∨ q = 11 := by omega
   rcases hc with rfl | rfl | rfl | rfl | rfl | rfl | rfl | rfl | rfl | rfl | rfl | rfl
   ·cases ho
    cases hd
    have e0 := hs5
    clear y0 y1 y4 y5
    unfold Oper.wp
    go_simp
    exact hK _ _ rfl (hRR.step (Below.refl _ w') 0 21 _ (by decide) (by decide)) (fun _ _ h => h)
   ·cases ho
    cases hd
    have e0 : a'.tmps.getD 21 undef = .pointer (some ⟨w.heap.size + 2, 4, none⟩) := hdep 0 21 rfl (by kernel_rfl)
    have e0' := gd_ e0
    clear y0 y1 y4 y5
    unfold Oper.wp
    go_simp
    exact hK _ _ rfl (hRR.step (Below.refl _ w') 1 22 _ (by decide) (by decide)) (fun _ _ h => h)
   ·cases ho
    cases hd
    have e0 : a'.tmps.getD 22 undef = .pointer (some ⟨w.heap.size + 2, 4, none⟩) := hdep 1 22 rfl (by kernel_rfl)
    have e0' := gd_ e0
    clear y0 y1 y5
    unfold Oper.wp
    go_simp
    exact hK _ _ rfl (hRR.step (Below.refl _ w') 2 23 _ (by decide) (by decide)) (fun _ _ h => h)
   ·cases ho
    cases hd
    have e0 := hs3
    clear y4 y5
    unfold Oper.wp
    go_simp
    exact hK _ _ rfl (hRR.step (Below.refl _ w') 3 24 _ (by decide) (by decide)) (fun _ _ h => h)
   ·cases ho
    cases hd
    have e0 := hs5
    clear y0 y1 y4 y5
    unfold Oper.wp
    go_simp
    exact hK _ _ rfl (hRR.step (Below.refl _ w') 4 25 _ (by decide) (by decide)) (fun _ _ h => h)
   ·cases ho
    cases hd
    have e0 : a'.tmps.getD 25 undef = .pointer (some ⟨w.heap.size + 2, 4, none⟩) := hdep 4 25 rfl (by kernel_rfl)
    have e0' := gd_ e0
    clear y0 y1
    unfold Oper.wp
    go_simp
    exact hK _ _ rfl (hRR.step (Below.refl _ w') 5 26 _ (by decide) (by decide)) (fun _ _ h => h)
   ·cases ho
    cases hd
    have e0 : a'.tmps.getD 24 undef = .agg #[.slice ko s.ks.length kc, .slice ao s.ac.length acp] := hdep 3 24 rfl (by kernel_rfl)
    have e0' := gd_ e0
    have e1 : a'.tmps.getD 26 undef = .agg #[.string et, .string ei] := hdep 5 26 rfl (by kernel_rfl)
    have e1' := gd_ e1
    clear y0 y1 y4 y5
    unfold Oper.wp
    go_simp
    refine (CN w' hR).mono ?_
    rintro e w9 ⟨rfl, b9⟩
    exact hK _ _ rfl (hRR.step b9 6 27 _ (by decide) (by decide)) (fun _ _ h => h)
   ·cases ho
    cases hd
    have e0 : a'.tmps.getD 23 undef = .string et := hdep 2 23 rfl (by kernel_rfl)
    have e0' := gd_ e0
    have e1 : a'.tmps.getD 27 undef = .bool z := hdep 6 27 rfl (by kernel_rfl)
    have e1' := gd_ e1
    clear y0 y1 y4 y5
    unfold Oper.wp
    go_simp
    refine (CE w' hR).mono ?_
    rintro e w9 ⟨rfl, b9⟩
    exact hK _ _ rfl (hRR.step b9 7 28 _ (by decide) (by decide)) (fun _ _ h => h)
   ·cases ho
    cases hd
    have e0 : a'.tmps.getD 28 undef = .tuple #[.agg #[.int .i64 xk, .int .i64 xo, .string xn], .int .i64 xe] := hdep 7 28 rfl (by kernel_rfl)
    have e0' := gd_ e0
    clear y0 y1 y4 y5
    unfold Oper.wp
    go_simp
    exact hK _ _ rfl (hRR.step (Below.refl _ w') 8 29 _ (by decide) (by decide)) (fun _ _ h => h)
   ·cases ho
    cases hd
    have e0 : a'.tmps.getD 28 undef = .tuple #[.agg #[.int .i64 xk, .int .i64 xo, .string xn], .int .i64 xe] := hdep 7 28 rfl (by kernel_rfl)
    have e0' := gd_ e0
    clear y0 y1 y4 y5
    unfold Oper.wp
    go_simp
    exact hK _ _ rfl (hRR.step (Below.refl _ w') 9 30 _ (by decide) (by decide)) (fun _ _ h => h)
   ·cases hd
   ·cases ho
    cases hd
    have e0 : a'.tmps.getD 30 undef = .int .i64 xe := hdep 9 30 rfl (by kernel_rfl)
    have e0' := gd_ e0
    clear y0 y1 y4 y5
    unfold Oper.wp
    go_simp
    exact hK _ _ rfl (hRR.step (Below.refl _ w') 11 7 _ (by decide) (by decide)) (fun _ _ h => h)
  ·intro q o ho hd L a' w' hL hw hRR hdep K hK
   have hqN : q < 12 := (List.getElem?_eq_some_iff.1 ho).1
   have hR := hRR.below
   have m1 := (hRR.keep w.heap.size (by omega) (by omega)).trans k1
   have m3 := (hRR.keep (w.heap.size + 2) (by omega) (by omega)).trans k3
   obtain ⟨y0, y1⟩ := bl2_ m1
   have y4 : w'.cell? ⟨w.heap.size + 2, 4, none⟩ = some (.string et) := lc_ m3 rfl
   have y5 : w'.cell? ⟨w.heap.size + 2, 5, none⟩ = some (.string ei) := lc_ m3 rfl
   clear m1 m3
   have hc : q = 0 ∨ q = 1 ∨ q = 2 ∨ q = 3 ∨ q = 4 ∨ q = 5 ∨ q = 6 ∨ q = 7 ∨ q = 8 ∨ q = 9 ∨ q = 10 ∨ q = 11 := by omega
   rcases hc with rfl | rfl | rfl | rfl | rfl | rfl | rfl | rfl | rfl | rfl | rfl | rfl
   ·cases hd
   ·cases hd
   ·cases hd
   ·cases hd
   ·cases hd
   ·cases hd
   ·cases hd
   ·cases hd
   ·cases hd
   ·cases hd
   ·cases ho
    have e0 : a'.tmps.getD 29 undef = .agg #[.int .i64 xk, .int .i64 xo, .string xn] := hdep 8 29 rfl (by kernel_rfl)
    have e0' := gd_ e0
    have hz := hRR.zero hL
    obtain ⟨r0, r1, r2⟩ := bl3_ hz
    have fz := fun o => Lib.frozen_of_heap hz o
    have e1 : a'.tmps.getD 6 undef = .pointer (some ⟨w.heap.size + 3, 0, none⟩) := hRR.sl
    have HP := hide (hRR.put hVlt hVle hL)
    clear y0 y1 y4 y5 hz
    unfold Oper.wp
    go_simp
    exact hK _ (unhide HP) (fun _ _ h => h) undef
   ·cases hd
  ·intro v L w' hLa hRR hv
   have bE := hRR.below
   have hVf := hRR.full (hLa 10 (by decide))
   have f0 : v 0 = .pointer (some ⟨w.heap.size + 2, 4, none⟩) := (hv 0 21 rfl).1
   have f1 : v 1 = .pointer (some ⟨w.heap.size + 2, 4, none⟩) := (hv 1 22 rfl).1
   have f2 : v 2 = .string et := (hv 2 23 rfl).1
   have f3 : v 3 = .agg #[.slice ko s.ks.length kc, .slice ao s.ac.length acp] := (hv 3 24 rfl).1
   have f4 : v 4 = .pointer (some ⟨w.heap.size + 2, 4, none⟩) := (hv 4 25 rfl).1
   have f5 : v 5 = .agg #[.string et, .string ei] := (hv 5 26 rfl).1
   have f6 : v 6 = .bool z := (hv 6 27 rfl).1
   have f7 : v 7 = .tuple #[.agg #[.int .i64 xk, .int .i64 xo, .string xn], .int .i64 xe] := (hv 7 28 rfl).1
   have f8 : v 8 = .agg #[.int .i64 xk, .int .i64 xo, .string xn] := (hv 8 29 rfl).1
   have f9 : v 9 = .int .i64 xe := (hv 9 30 rfl).1
   have f11 : v 11 = .int .i64 xe := (hv 11 7 rfl).1
   clear hRR hv hLa
   simp only [putAll, dstOf, List.getElem?_cons_zero, List.getElem?_cons_succ, Option.bind_some, List.length_cons, List.length_nil, f0, f1, f2, f3, f4, f5, f6, f7, f8, f9, f11]
   clear f0 f1 f2 f3 f4 f5 f6 f7 f8 f9 f11
   simp only [Act.put, List.setIfInBounds_toArray, List.set_cons_succ, List.set_cons_zero]
   generalize v 10 = vm
   obtain ⟨d0, d1, d2⟩ := bl3_ hVf
   go_wp2
   exact bodyPost_ret (v := .tuple #[.agg #[.int .i64 xk, .int .i64 xo, .string xn], .int .i64 xe]) (by simp [results, Try.results47, go_sem, d0, d1, d2]) rfl ⟨by rw [unhide HE]; rfl, bE⟩
 have g4 : (k == 4) = false := by simpa using ho
 have m4 := ho
 clear ho
 by_cases ho : k = 5
 ·subst ho
  clear g1 g2 g3 g4 m1 m2 m3 m4 hs hs0
  have C := ofVar_any p ac r es w1
  have HE : leafT s p r 5 es et ei = varT p r es := rfl
  obtain ⟨x, hx⟩ : ∃ x : TR, x = varT p r es := ⟨_, rfl⟩
  rw [← hx] at C HE
  obtain ⟨⟨xk, xo, xn⟩, xe⟩ := x
  have HE := hide HE
  clear hx
  unfold TR.ret at C
  simp only at C
  go_wp2_with fail
  refine C.mono ?_
  clear C
  rintro e9 w5 ⟨rfl, b5⟩
  have hV5 := kept_of_below b5 k4
  have bb5 := bX.trans (b5.mono bX.size)
  obtain ⟨z0, z1, z2⟩ := bl3_ hV5
  have zf : ∀ o, w5.frozen? ⟨w.heap.size + 3, o, none⟩ = false := fun o => Lib.frozen_of_heap hV5 o
  have HQ := hide (set3_all (.int .i64 xk) (.int .i64 xo) (.string xn) hV5 bb5 (Nat.le_add_right _ 3))
  go_wp2
  obtain ⟨q0, q1, q2, qb⟩ := unhide HQ
  exact bodyPost_ret (v := .tuple #[.agg #[.int .i64 xk, .int .i64 xo, .string xn], .int .i64 xe]) (by simp [results, Try.results47, go_sem, q0, q1, q2]) rfl ⟨by rw [unhide HE]; rfl, qb⟩
 have g5 : (k == 5) = false := by simpa using ho
 have m5 := ho
 clear ho hs hs0
 have HE := hide (show leafT s p r k es et ei = (⟨0, 0, ⟨#[]⟩⟩, 13) from by unfold leafT; rw [if_neg m1, if_neg m2, if_neg m3, if_neg m4, if_neg m5]; rfl)
 obtain ⟨z0, z1, z2⟩ := bl3_ k4
 have zf : ∀ o, w1.frozen? ⟨w.heap.size + 3, o, none⟩ = false := fun o => Lib.frozen_of_heap k4 o
 have HQ := hide (set3_all (.int .i64 0) (.int .i64 0) (.string ⟨#[]⟩) k4 bX (Nat.le_add_right _ 3))
 go_wp2
 obtain ⟨q0, q1, q2, qb⟩ := unhide HQ
 exact bodyPost_ret (v := .tuple #[.agg #[.int .i64 0, .int .i64 0, .string ⟨#[]⟩], .int .i64 13]) (by simp [results, Try.results47, go_sem, q0, q1, q2]) rfl ⟨by rw [unhide HE]; rfl, qb⟩
end Go.Proofs.Ytagnbpobcijakaa

namespace Go.Proofs.Ytagnbpobcijakaa
open Go.RowKit Go.Sort

set_option maxHeartbeats 8000000 in
set_option maxRecDepth 1000000 in
theorem ofNode_any (s : SP) (v : Value) (p ac r : ByteArray) (k : Int) (eb : Bool) (en : Int) (es et ei : ByteArray) (elo : Option Addr) (ell elc : Nat) (l : List T3) (lo : Option Addr) (cap : Nat) (w : World) (hsm : SmS s) (hs : IsS w v s) (hl : l.length ≤ 281474976710656) (hr : RowT3 w lo l) : Calls Try.prog 32 #[v, .agg #[.string p, .string ac, .string r], .agg #[.int .i64 k, .bool eb, .int .i64 en, .string es, .string et, .string ei, .slice elo ell elc], .slice lo l.length cap] w fun e w' => e = .returned (nodeT s p r k es et ei l).ret ∧ Below w.heap.size w w' := by
 obtain ⟨ko, kc, ao, acp, rfl, _, _⟩ := hs.ex
 obtain ⟨bX, zX, k1, k2, k3, k4⟩ := alloc4 w (.cells #[.slice ko s.ks.length kc, .slice ao s.ac.length acp] 33) (.cells #[.string p, .string ac, .string r] 60) (.cells #[.int .i64 k, .bool eb, .int .i64 en, .string es, .string et, .string ei, .slice elo ell elc] 39) (.cells #[.int .i64 0, .int .i64 0, .string ⟨#[]⟩] 54)
 have hs1 := hs.below bX
 have hVlt : w.heap.size + 3 < ((((w.alloc (.cells #[.slice ko s.ks.length kc, .slice ao s.ac.length acp] 33)).alloc (.cells #[.string p, .string ac, .string r] 60)).alloc (.cells #[.int .i64 k, .bool eb, .int .i64 en, .string es, .string et, .string ei, .slice elo ell elc] 39)).alloc (.cells #[.int .i64 0, .int .i64 0, .string ⟨#[]⟩] 54)).heap.size := (Array.getElem?_eq_some_iff.1 k4).1
 have hVle : w.heap.size ≤ w.heap.size + 3 := Nat.le_add_right _ _
 have HR := hide hr
 have CSet := ofSet_any l lo cap l.length _ rfl hl (hr.below bX)
 clear hr
 by_cases ho : k = 6
 ·subst ho
  obtain ⟨Ln, hLn⟩ : ∃ Ln : Nat, Ln = l.length := ⟨_, rfl⟩
  rw [← hLn] at CSet ⊢
  clear hLn hl
  go_enter Try.func32, Try.ntmps32
  go_upto_region 1 with fail
  generalize (((w.alloc _).alloc _).alloc _).alloc _ = w1 at *
  have ce0 : w1.cell? ⟨w.heap.size + 2, 0, none⟩ = some (.int .i64 6) := lc_ k3 rfl
  have C := CSet
  have HE : nodeT s p r 6 es et ei l = setT l := rfl
  obtain ⟨x, hx⟩ : ∃ x : TR, x = setT l := ⟨_, rfl⟩
  rw [← hx] at C HE
  obtain ⟨⟨xk, xo, xn⟩, xe⟩ := x
  have HE := hide HE
  clear hx
  unfold TR.ret at C
  simp only at C
  go_wp2_with fail
  refine C.mono ?_
  clear C
  rintro e9 w5 ⟨rfl, b5⟩
  have hV5 := kept_of_below b5 k4
  have bb5 := bX.trans (b5.mono bX.size)
  obtain ⟨z0, z1, z2⟩ := bl3_ hV5
  have zf : ∀ o, w5.frozen? ⟨w.heap.size + 3, o, none⟩ = false := fun o => Lib.frozen_of_heap hV5 o
  have HQ := hide (set3_all (.int .i64 xk) (.int .i64 xo) (.string xn) hV5 bb5 (Nat.le_add_right _ 3))
  go_wp2
  obtain ⟨q0, q1, q2, qb⟩ := unhide HQ
  exact bodyPost_ret (v := .tuple #[.agg #[.int .i64 xk, .int .i64 xo, .string xn], .int .i64 xe]) (by simp [results, Try.results32, go_sem, q0, q1, q2]) rfl ⟨by rw [unhide HE]; rfl, qb⟩
 have g6 : (k == 6) = false := by simpa using ho
 clear CSet
 have hn : ∀ l, nodeT s p r k es et ei l = (match l with
  | [] => leafT s p r k es et ei
  | [a] => oneT s k es a
  | [a, b] => twoT k a b
  | [a, b, c] => threeT k a b c
  | _ => (zT, 13)) := fun l => if_neg ho
 match l, hl, HR with
 | [], _, _ =>
  simp only [List.length_nil]
  go_enter Try.func32, Try.ntmps32
  go_upto_region 1 with fail
  generalize (((w.alloc _).alloc _).alloc _).alloc _ = w1 at *
  obtain ⟨cs0, cs1⟩ := bl2_ k1
  obtain ⟨cn0, cn1, cn2⟩ := bl3_ k2
  obtain ⟨ce0, ce1, ce2, ce3, ce4, ce5, ce6⟩ := bl7_ k3
  have C := ofLeaf_any s _ p ac r k eb en es et ei elo ell elc w1 hsm hs1
  have HE : nodeT s p r k es et ei [] = leafT s p r k es et ei := hn []
  obtain ⟨x, hx⟩ : ∃ x : TR, x = leafT s p r k es et ei := ⟨_, rfl⟩
  rw [← hx] at C HE
  obtain ⟨⟨xk, xo, xn⟩, xe⟩ := x
  have HE := hide HE
  clear hx
  unfold TR.ret at C
  simp only at C
  go_wp2_with fail
  refine C.mono ?_
  clear C
  rintro e9 w5 ⟨rfl, b5⟩
  have hV5 := kept_of_below b5 k4
  have bb5 := bX.trans (b5.mono bX.size)
  clear cs0 cs1 cn0 cn1 cn2 ce0 ce1 ce2 ce3 ce4 ce5 ce6
  obtain ⟨z0, z1, z2⟩ := bl3_ hV5
  have zf : ∀ o, w5.frozen? ⟨w.heap.size + 3, o, none⟩ = false := fun o => Lib.frozen_of_heap hV5 o
  have HQ := hide (set3_all (.int .i64 xk) (.int .i64 xo) (.string xn) hV5 bb5 (Nat.le_add_right _ 3))
  go_wp2
  obtain ⟨q0, q1, q2, qb⟩ := unhide HQ
  exact bodyPost_ret (v := .tuple #[.agg #[.int .i64 xk, .int .i64 xo, .string xn], .int .i64 xe]) (by simp [results, Try.results32, go_sem, q0, q1, q2]) rfl ⟨by rw [unhide HE]; rfl, qb⟩
 | [a], _, HR =>
  obtain ⟨g, off, rfl, hg, hat⟩ := (unhide HR).get (Below.refl _ w) (show 0 < [a].length by simp)
  obtain ⟨a0, a1, a2⟩ : AtT3 w g (off) a := by simpa using hat
  clear hat
  simp only [List.length_cons, List.length_nil, Nat.zero_add]
  go_enter Try.func32, Try.ntmps32
  go_upto_region 1 with fail
  generalize (((w.alloc _).alloc _).alloc _).alloc _ = w1 at *
  have ce0 : w1.cell? ⟨w.heap.size + 2, 0, none⟩ = some (.int .i64 k) := lc_ k3 rfl
  go_upto_region 7 with fail
  have C0 := fun w' (hb : Below w.heap.size w w') => ofOne_any s _ k eb en es et ei elo ell elc a.k a.o a.n w' hsm (hs.below hb)
  have HE : nodeT s p r k es et ei [a] = oneT s k es ⟨a.k, a.o, a.n⟩ := hn [a]
  obtain ⟨x, hx⟩ : ∃ x : TR, x = oneT s k es ⟨a.k, a.o, a.n⟩ := ⟨_, rfl⟩
  rw [← hx] at C0 HE
  obtain ⟨⟨xk, xo, xn⟩, xe⟩ := x
  have HE := hide HE
  unfold TR.ret at C0
  simp only at C0
  clear hx ce0
  refine wp_specsD (SpL [.agg #[.slice ko s.ks.length kc, .slice ao s.ac.length acp], .agg #[.int .i64 k, .bool eb, .int .i64 en, .string es, .string et, .string ei, .slice elo ell elc], .slice (some ⟨g, off, none⟩) 1 cap, .pointer (some ⟨g, off, none⟩), .agg #[.int .i64 a.k, .int .i64 a.o, .string a.n], .tuple #[.agg #[.int .i64 xk, .int .i64 xo, .string xn], .int .i64 xe], .agg #[.int .i64 xk, .int .i64 xo, .string xn], .int .i64 xe, undef, .int .i64 xe]) (RS 8 8 w w1 (w.heap.size + 3) (xk) (xo) (xn)) (by kernel_rfl) (by kernel_rfl) (by kernel_rfl) (RS.start _ bX k4 rfl) ?_ ?_ ?_
  ·intro q o d ho hd L a' w' hL hw hRR hdep hslot hsz K hK
   have hqN : q < 10 := dstOf_lt hd
   have hR := hRR.below
   have m1 := (hRR.keep w.heap.size (by omega) (by omega)).trans k1
   obtain ⟨s0, s1⟩ := bl2_ m1
   clear m1
   have m3 := (hRR.keep (w.heap.size + 2) (by omega) (by omega)).trans k3
   obtain ⟨y0, y1, y2, y3, y4, y5, y6⟩ := bl7_ m3
   clear m3
   have a0' := (hR.cell (p := ⟨g, off, none⟩) hg).trans a0
   have a1' := (hR.cell (p := ⟨g, off + 1, none⟩) hg).trans a1
   have a2' := (hR.cell (p := ⟨g, off + 2, none⟩) hg).trans a2
   have hs3 : a'.tmps.getD 3 undef = .slice (some ⟨g, off, none⟩) 1 cap := hslot 3 (fun q h => by have hl := dstOf_lt h; match q, hl with | 0, _ => cases h | 1, _ => cases h | 2, _ => cases h | 3, _ => cases h | 4, _ => cases h | 5, _ => cases h | 6, _ => cases h | 7, _ => cases h | 8, _ => cases h | 9, _ => cases h)
   have hs4 : a'.tmps.getD 4 undef = .pointer (some ⟨w.heap.size, 0, none⟩) := hslot 4 (fun q h => by have hl := dstOf_lt h; match q, hl with | 0, _ => cases h | 1, _ => cases h | 2, _ => cases h | 3, _ => cases h | 4, _ => cases h | 5, _ => cases h | 6, _ => cases h | 7, _ => cases h | 8, _ => cases h | 9, _ => cases h)
   have hs6 : a'.tmps.getD 6 undef = .pointer (some ⟨w.heap.size + 2, 0, none⟩) := hslot 6 (fun q h => by have hl := dstOf_lt h; match q, hl with | 0, _ => cases h | 1, _ => cases h | 2, _ => cases h | 3, _ => cases h | 4, _ => cases h | 5, _ => cases h | 6, _ => cases h | 7, _ => cases h | 8, _ => cases h | 9, _ => cases h)
   have hc : q = 0 ∨ q = 1 ∨ q = 2 ∨ q = 3 ∨ q = 4 ∨ q = 5 ∨ q = 6 ∨ q = 7 ∨ q = 8 ∨ q = 9 := by omega
   rcases hc with rfl | rfl | rfl | rfl | rfl | rfl | rfl | rfl | rfl | rfl
   ·cases ho
    cases hd
    have e0 := hs4
    clear y0 y1 y2 y3 y4 y5 y6 a0' a1' a2'
    unfold Oper.wp
    go_simp
    exact hK _ _ rfl (hRR.step (Below.refl _ w') 0 29 _ (by decide) (by decide)) (fun _ _ h => h)
   ·cases ho
    cases hd
    have e0 := hs6
    clear s0 s1 a0' a1' a2'
    unfold Oper.wp
    go_simp
    exact hK _ _ rfl (hRR.step (Below.refl _ w') 1 30 _ (by decide) (by decide)) (fun _ _ h => h)
   ·cases ho
    cases hd
    have e0 := hs3
    clear s0 s1 y0 y1 y2 y3 y4 y5 y6 a0' a1' a2'
    unfold Oper.wp
    go_simp
    exact hK _ _ rfl (hRR.step (Below.refl _ w') 2 31 _ (by decide) (by decide)) (fun _ _ h => h)
   ·cases ho
    cases hd
    have e0 : a'.tmps.getD 31 undef = .slice (some ⟨g, off, none⟩) 1 cap := hdep 2 31 rfl (by kernel_rfl)
    have e0' := gd_ e0
    clear s0 s1 y0 y1 y2 y3 y4 y5 y6 a0' a1' a2'
    unfold Oper.wp
    go_simp
    exact hK _ _ rfl (hRR.step (Below.refl _ w') 3 32 _ (by decide) (by decide)) (fun _ _ h => h)
   ·cases ho
    cases hd
    have e0 : a'.tmps.getD 32 undef = .pointer (some ⟨g, off, none⟩) := hdep 3 32 rfl (by kernel_rfl)
    have e0' := gd_ e0
    clear s0 s1 y0 y1 y2 y3 y4 y5 y6
    unfold Oper.wp
    go_simp
    exact hK _ _ rfl (hRR.step (Below.refl _ w') 4 33 _ (by decide) (by decide)) (fun _ _ h => h)
   ·cases ho
    cases hd
    have e0 : a'.tmps.getD 29 undef = .agg #[.slice ko s.ks.length kc, .slice ao s.ac.length acp] := hdep 0 29 rfl (by kernel_rfl)
    have e0' := gd_ e0
    have e1 : a'.tmps.getD 30 undef = .agg #[.int .i64 k, .bool eb, .int .i64 en, .string es, .string et, .string ei, .slice elo ell elc] := hdep 1 30 rfl (by kernel_rfl)
    have e1' := gd_ e1
    have e2 : a'.tmps.getD 33 undef = .agg #[.int .i64 a.k, .int .i64 a.o, .string a.n] := hdep 4 33 rfl (by kernel_rfl)
    have e2' := gd_ e2
    clear s0 s1 y0 y1 y2 y3 y4 y5 y6 a0' a1' a2'
    unfold Oper.wp
    go_simp
    refine (C0 w' hR).mono ?_
    rintro e w9 ⟨rfl, b9⟩
    exact hK _ _ rfl (hRR.step b9 5 34 _ (by decide) (by decide)) (fun _ _ h => h)
   ·cases ho
    cases hd
    have e0 : a'.tmps.getD 34 undef = .tuple #[.agg #[.int .i64 xk, .int .i64 xo, .string xn], .int .i64 xe] := hdep 5 34 rfl (by kernel_rfl)
    have e0' := gd_ e0
    clear s0 s1 y0 y1 y2 y3 y4 y5 y6 a0' a1' a2'
    unfold Oper.wp
    go_simp
    exact hK _ _ rfl (hRR.step (Below.refl _ w') 6 35 _ (by decide) (by decide)) (fun _ _ h => h)
   ·cases ho
    cases hd
    have e0 : a'.tmps.getD 34 undef = .tuple #[.agg #[.int .i64 xk, .int .i64 xo, .string xn], .int .i64 xe] := hdep 5 34 rfl (by kernel_rfl)
    have e0' := gd_ e0
    clear s0 s1 y0 y1 y2 y3 y4 y5 y6 a0' a1' a2'
    unfold Oper.wp
    go_simp
    exact hK _ _ rfl (hRR.step (Below.refl _ w') 7 36 _ (by decide) (by decide)) (fun _ _ h => h)
   ·cases hd
   ·cases ho
    cases hd
    have e0 : a'.tmps.getD 36 undef = .int .i64 xe := hdep 7 36 rfl (by kernel_rfl)
    have e0' := gd_ e0
    clear s0 s1 y0 y1 y2 y3 y4 y5 y6 a0' a1' a2'
    unfold Oper.wp
    go_simp
    exact hK _ _ rfl (hRR.step (Below.refl _ w') 9 9 _ (by decide) (by decide)) (fun _ _ h => h)
  ·intro q o ho hd L a' w' hL hw hRR hdep K hK
   have hqN : q < 10 := (List.getElem?_eq_some_iff.1 ho).1
   have hR := hRR.below
   have m1 := (hRR.keep w.heap.size (by omega) (by omega)).trans k1
   obtain ⟨s0, s1⟩ := bl2_ m1
   clear m1
   have m3 := (hRR.keep (w.heap.size + 2) (by omega) (by omega)).trans k3
   obtain ⟨y0, y1, y2, y3, y4, y5, y6⟩ := bl7_ m3
   clear m3
   have a0' := (hR.cell (p := ⟨g, off, none⟩) hg).trans a0
   have a1' := (hR.cell (p := ⟨g, off + 1, none⟩) hg).trans a1
   have a2' := (hR.cell (p := ⟨g, off + 2, none⟩) hg).trans a2
   have hc : q = 0 ∨ q = 1 ∨ q = 2 ∨ q = 3 ∨ q = 4 ∨ q = 5 ∨ q = 6 ∨ q = 7 ∨ q = 8 ∨ q = 9 := by omega
   rcases hc with rfl | rfl | rfl | rfl | rfl | rfl | rfl | rfl | rfl | rfl
   ·cases hd
   ·cases hd
   ·cases hd
   ·cases hd
   ·cases hd
   ·cases hd
   ·cases hd
   ·cases hd
   ·cases ho
    have e0 : a'.tmps.getD 35 undef = .agg #[.int .i64 xk, .int .i64 xo, .string xn] := hdep 6 35 rfl (by kernel_rfl)
    have e0' := gd_ e0
    have hz := hRR.zero hL
    obtain ⟨r0, r1, r2⟩ := bl3_ hz
    have fz := fun o => Lib.frozen_of_heap hz o
    have e1 : a'.tmps.getD 8 undef = .pointer (some ⟨w.heap.size + 3, 0, none⟩) := hRR.sl
    have HP := hide (hRR.put hVlt hVle hL)
    clear s0 s1 y0 y1 y2 y3 y4 y5 y6 a0' a1' a2' hz
    unfold Oper.wp
    go_simp
    exact hK _ (unhide HP) (fun _ _ h => h) undef
   ·cases hd
  ·intro v L w' hLa hRR hv
   have bE := hRR.below
   have hVf := hRR.full (hLa 8 (by decide))
   have f0 : v 0 = .agg #[.slice ko s.ks.length kc, .slice ao s.ac.length acp] := (hv 0 29 rfl).1
   have f1 : v 1 = .agg #[.int .i64 k, .bool eb, .int .i64 en, .string es, .string et, .string ei, .slice elo ell elc] := (hv 1 30 rfl).1
   have f2 : v 2 = .slice (some ⟨g, off, none⟩) 1 cap := (hv 2 31 rfl).1
   have f3 : v 3 = .pointer (some ⟨g, off, none⟩) := (hv 3 32 rfl).1
   have f4 : v 4 = .agg #[.int .i64 a.k, .int .i64 a.o, .string a.n] := (hv 4 33 rfl).1
   have f5 : v 5 = .tuple #[.agg #[.int .i64 xk, .int .i64 xo, .string xn], .int .i64 xe] := (hv 5 34 rfl).1
   have f6 : v 6 = .agg #[.int .i64 xk, .int .i64 xo, .string xn] := (hv 6 35 rfl).1
   have f7 : v 7 = .int .i64 xe := (hv 7 36 rfl).1
   have f9 : v 9 = .int .i64 xe := (hv 9 9 rfl).1
   clear hRR hv hLa
   simp only [putAll, dstOf, List.getElem?_cons_zero, List.getElem?_cons_succ, Option.bind_some, List.length_cons, List.length_nil, f0, f1, f2, f3, f4, f5, f6, f7, f9]
   clear f0 f1 f2 f3 f4 f5 f6 f7 f9
   simp only [Act.put, List.setIfInBounds_toArray, List.set_cons_succ, List.set_cons_zero]
   generalize v 8 = vm
   obtain ⟨d0, d1, d2⟩ := bl3_ hVf
   go_wp2
   exact bodyPost_ret (v := .tuple #[.agg #[.int .i64 xk, .int .i64 xo, .string xn], .int .i64 xe]) (by simp [results, Try.results32, go_sem, d0, d1, d2]) rfl ⟨by rw [unhide HE]; rfl, bE⟩
 | [a, b], _, HR =>
  obtain ⟨g, off, rfl, hg, hat⟩ := (unhide HR).get (Below.refl _ w) (show 0 < [a, b].length by simp)
  obtain ⟨a0, a1, a2⟩ : AtT3 w g (off) a := by simpa using hat
  clear hat
  obtain ⟨g_, off_, eg, _, hat⟩ := (unhide HR).get (Below.refl _ w) (show 1 < [a, b].length by simp)
  cases eg
  obtain ⟨b0, b1, b2⟩ : AtT3 w g (off + 3) b := by simpa using hat
  clear hat
  have b1 : w.cell? ⟨g, off + 4, none⟩ = _ := b1
  have b2 : w.cell? ⟨g, off + 5, none⟩ = _ := b2
  simp only [List.length_cons, List.length_nil, Nat.zero_add, Nat.reduceAdd]
  go_enter Try.func32, Try.ntmps32
  go_upto_region 1 with fail
  generalize (((w.alloc _).alloc _).alloc _).alloc _ = w1 at *
  have ce0 : w1.cell? ⟨w.heap.size + 2, 0, none⟩ = some (.int .i64 k) := lc_ k3 rfl
  go_upto_region 9 with fail
  have C0 := fun w' => ofTwo_any k a.k a.o a.n b.k b.o b.n w'
  have HE : nodeT s p r k es et ei [a, b] = twoT k ⟨a.k, a.o, a.n⟩ ⟨b.k, b.o, b.n⟩ := hn [a, b]
  obtain ⟨x, hx⟩ : ∃ x : TR, x = twoT k ⟨a.k, a.o, a.n⟩ ⟨b.k, b.o, b.n⟩ := ⟨_, rfl⟩
  rw [← hx] at C0 HE
  obtain ⟨⟨xk, xo, xn⟩, xe⟩ := x
  have HE := hide HE
  unfold TR.ret at C0
  simp only at C0
  clear hx ce0
  refine wp_specsD (SpL [.pointer (some ⟨w.heap.size + 2, 0, none⟩), .int .i64 k, .slice (some ⟨g, off, none⟩) 2 cap, .pointer (some ⟨g, off, none⟩), .agg #[.int .i64 a.k, .int .i64 a.o, .string a.n], .slice (some ⟨g, off, none⟩) 2 cap, .pointer (some ⟨g, off + 3, none⟩), .agg #[.int .i64 b.k, .int .i64 b.o, .string b.n], .tuple #[.agg #[.int .i64 xk, .int .i64 xo, .string xn], .int .i64 xe], .agg #[.int .i64 xk, .int .i64 xo, .string xn], .int .i64 xe, undef, .int .i64 xe]) (RS 11 8 w w1 (w.heap.size + 3) (xk) (xo) (xn)) (by kernel_rfl) (by kernel_rfl) (by kernel_rfl) (RS.start _ bX k4 rfl) ?_ ?_ ?_
  ·intro q o d ho hd L a' w' hL hw hRR hdep hslot hsz K hK
   have hqN : q < 13 := dstOf_lt hd
   have hR := hRR.below
   have m3 := (hRR.keep (w.heap.size + 2) (by omega) (by omega)).trans k3
   have y0 : w'.cell? ⟨w.heap.size + 2, 0, none⟩ = some (.int .i64 k) := lc_ m3 rfl
   clear m3
   have a0' := (hR.cell (p := ⟨g, off, none⟩) hg).trans a0
   have a1' := (hR.cell (p := ⟨g, off + 1, none⟩) hg).trans a1
   have a2' := (hR.cell (p := ⟨g, off + 2, none⟩) hg).trans a2
   have b0' := (hR.cell (p := ⟨g, off + 3, none⟩) hg).trans b0
   have b1' := (hR.cell (p := ⟨g, off + 4, none⟩) hg).trans b1
   have b2' := (hR.cell (p := ⟨g, off + 5, none⟩) hg).trans b2
   have hs3 : a'.tmps.getD 3 undef = .slice (some ⟨g, off, none⟩) 2 cap := hslot 3 (fun q h => by have hl := dstOf_lt h; match q, hl with | 0, _ => cases h | 1, _ => cases h | 2, _ => cases h | 3, _ => cases h | 4, _ => cases h | 5, _ => cases h | 6, _ => cases h | 7, _ => cases h | 8, _ => cases h | 9, _ => cases h | 10, _ => cases h | 11, _ => cases h | 12, _ => cases h)
   have hs6 : a'.tmps.getD 6 undef = .pointer (some ⟨w.heap.size + 2, 0, none⟩) := hslot 6 (fun q h => by have hl := dstOf_lt h; match q, hl with | 0, _ => cases h | 1, _ => cases h | 2, _ => cases h | 3, _ => cases h | 4, _ => cases h | 5, _ => cases h | 6, _ => cases h | 7, _ => cases h | 8, _ => cases h | 9, _ => cases h | 10, _ => cases h | 11, _ => cases h | 12, _ => cases h)
   have hc : q = 0 ∨ q = 1 ∨ q = 2 ∨ q = 3 ∨ q = 4 ∨ q = 5 ∨ q = 6 ∨ q = 7 ∨ q = 8 ∨ q = 9 ∨ q = 10 ∨ q = 11 ∨ q = 12 := by omega
   rcases hc with rfl | rfl | rfl | rfl | rfl | rfl | rfl | rfl | rfl | rfl | rfl | rfl | rfl
   ·cases ho
    cases hd
    have e0 := hs6
    clear y0 a0' a1' a2' b0' b1' b2'
    unfold Oper.wp
    go_simp
    exact hK _ _ rfl (hRR.step (Below.refl _ w') 0 39 _ (by decide) (by decide)) (fun _ _ h => h)
   ·cases ho
    cases hd
    have e0 : a'.tmps.getD 39 undef = .pointer (some ⟨w.heap.size + 2, 0, none⟩) := hdep 0 39 rfl (by kernel_rfl)
    have e0' := gd_ e0
    clear a0' a1' a2' b0' b1' b2'
    unfold Oper.wp
    go_simp
    exact hK _ _ rfl (hRR.step (Below.refl _ w') 1 40 _ (by decide) (by decide)) (fun _ _ h => h)
   ·cases ho
    cases hd
    have e0 := hs3
    clear y0 a0' a1' a2' b0' b1' b2'
    unfold Oper.wp
    go_simp
    exact hK _ _ rfl (hRR.step (Below.refl _ w') 2 41 _ (by decide) (by decide)) (fun _ _ h => h)
   ·cases ho
    cases hd
    have e0 : a'.tmps.getD 41 undef = .slice (some ⟨g, off, none⟩) 2 cap := hdep 2 41 rfl (by kernel_rfl)
    have e0' := gd_ e0
    clear y0 a0' a1' a2' b0' b1' b2'
    unfold Oper.wp
    go_simp
    exact hK _ _ rfl (hRR.step (Below.refl _ w') 3 42 _ (by decide) (by decide)) (fun _ _ h => h)
   ·cases ho
    cases hd
    have e0 : a'.tmps.getD 42 undef = .pointer (some ⟨g, off, none⟩) := hdep 3 42 rfl (by kernel_rfl)
    have e0' := gd_ e0
    clear y0 b0' b1' b2'
    unfold Oper.wp
    go_simp
    exact hK _ _ rfl (hRR.step (Below.refl _ w') 4 43 _ (by decide) (by decide)) (fun _ _ h => h)
   ·cases ho
    cases hd
    have e0 := hs3
    clear y0 a0' a1' a2' b0' b1' b2'
    unfold Oper.wp
    go_simp
    exact hK _ _ rfl (hRR.step (Below.refl _ w') 5 44 _ (by decide) (by decide)) (fun _ _ h => h)
   ·cases ho
    cases hd
    have e0 : a'.tmps.getD 44 undef = .slice (some ⟨g, off, none⟩) 2 cap := hdep 5 44 rfl (by kernel_rfl)
    have e0' := gd_ e0
    clear y0 a0' a1' a2' b0' b1' b2'
    unfold Oper.wp
    go_simp
    exact hK _ _ rfl (hRR.step (Below.refl _ w') 6 45 _ (by decide) (by decide)) (fun _ _ h => h)
   ·cases ho
    cases hd
    have e0 : a'.tmps.getD 45 undef = .pointer (some ⟨g, off + 3, none⟩) := hdep 6 45 rfl (by kernel_rfl)
    have e0' := gd_ e0
    clear y0 a0' a1' a2'
    unfold Oper.wp
    go_simp
    exact hK _ _ rfl (hRR.step (Below.refl _ w') 7 46 _ (by decide) (by decide)) (fun _ _ h => h)
   ·cases ho
    cases hd
    have e0 : a'.tmps.getD 40 undef = .int .i64 k := hdep 1 40 rfl (by kernel_rfl)
    have e0' := gd_ e0
    have e1 : a'.tmps.getD 43 undef = .agg #[.int .i64 a.k, .int .i64 a.o, .string a.n] := hdep 4 43 rfl (by kernel_rfl)
    have e1' := gd_ e1
    have e2 : a'.tmps.getD 46 undef = .agg #[.int .i64 b.k, .int .i64 b.o, .string b.n] := hdep 7 46 rfl (by kernel_rfl)
    have e2' := gd_ e2
    clear y0 a0' a1' a2' b0' b1' b2'
    unfold Oper.wp
    go_simp
    refine (C0 w').mono ?_
    rintro e w9 ⟨rfl, b9⟩
    exact hK _ _ rfl (hRR.step b9 8 47 _ (by decide) (by decide)) (fun _ _ h => h)
   ·cases ho
    cases hd
    have e0 : a'.tmps.getD 47 undef = .tuple #[.agg #[.int .i64 xk, .int .i64 xo, .string xn], .int .i64 xe] := hdep 8 47 rfl (by kernel_rfl)
    have e0' := gd_ e0
    clear y0 a0' a1' a2' b0' b1' b2'
    unfold Oper.wp
    go_simp
    exact hK _ _ rfl (hRR.step (Below.refl _ w') 9 48 _ (by decide) (by decide)) (fun _ _ h => h)
   ·cases ho
    cases hd
    have e0 : a'.tmps.getD 47 undef = .tuple #[.agg #[.int .i64 xk, .int .i64 xo, .string xn], .int .i64 xe] := hdep 8 47 rfl (by kernel_rfl)
    have e0' := gd_ e0
    clear y0 a0' a1' a2' b0' b1' b2'
    unfold Oper.wp
    go_simp
    exact hK _ _ rfl (hRR.step (Below.refl _ w') 10 49 _ (by decide) (by decide)) (fun _ _ h => h)
   ·cases hd
   ·cases ho
    cases hd
    have e0 : a'.tmps.getD 49 undef = .int .i64 xe := hdep 10 49 rfl (by kernel_rfl)
    have e0' := gd_ e0
    clear y0 a0' a1' a2' b0' b1' b2'
    unfold Oper.wp
    go_simp
    exact hK _ _ rfl (hRR.step (Below.refl _ w') 12 9 _ (by decide) (by decide)) (fun _ _ h => h)
  ·intro q o ho hd L a' w' hL hw hRR hdep K hK
   have hqN : q < 13 := (List.getElem?_eq_some_iff.1 ho).1
   have hR := hRR.below
   have m3 := (hRR.keep (w.heap.size + 2) (by omega) (by omega)).trans k3
   have y0 : w'.cell? ⟨w.heap.size + 2, 0, none⟩ = some (.int .i64 k) := lc_ m3 rfl
   clear m3
   have a0' := (hR.cell (p := ⟨g, off, none⟩) hg).trans a0
   have a1' := (hR.cell (p := ⟨g, off + 1, none⟩) hg).trans a1
   have a2' := (hR.cell (p := ⟨g, off + 2, none⟩) hg).trans a2
   have b0' := (hR.cell (p := ⟨g, off + 3, none⟩) hg).trans b0
   have b1' := (hR.cell (p := ⟨g, off + 4, none⟩) hg).trans b1
   have b2' := (hR.cell (p := ⟨g, off + 5, none⟩) hg).trans b2
   have hc : q = 0 ∨ q = 1 ∨ q = 2 ∨ q = 3 ∨ q = 4 ∨ q = 5 ∨ q = 6 ∨ q = 7 ∨ q = 8 ∨ q = 9 ∨ q = 10 ∨ q = 11 ∨ q = 12 := by omega
   rcases hc with rfl | rfl | rfl | rfl | rfl | rfl | rfl | rfl | rfl | rfl | rfl | rfl | rfl
   ·cases hd
   ·cases hd
   ·cases hd
   ·cases hd
   ·cases hd
   ·cases hd
   ·cases hd
   ·cases hd
   ·cases hd
   ·cases hd
   ·cases hd
   ·cases ho
    have e0 : a'.tmps.getD 48 undef = .agg #[.int .i64 xk, .int .i64 xo, .string xn] := hdep 9 48 rfl (by kernel_rfl)
    have e0' := gd_ e0
    have hz := hRR.zero hL
    obtain ⟨r0, r1, r2⟩ := bl3_ hz
    have fz := fun o => Lib.frozen_of_heap hz o
    have e1 : a'.tmps.getD 8 undef = .pointer (some ⟨w.heap.size + 3, 0, none⟩) := hRR.sl
    have HP := hide (hRR.put hVlt hVle hL)
    clear y0 a0' a1' a2' b0' b1' b2' hz
    unfold Oper.wp
    go_simp
    exact hK _ (unhide HP) (fun _ _ h => h) undef
   ·cases hd
  ·intro v L w' hLa hRR hv
   have bE := hRR.below
   have hVf := hRR.full (hLa 11 (by decide))
   have f0 : v 0 = .pointer (some ⟨w.heap.size + 2, 0, none⟩) := (hv 0 39 rfl).1
   have f1 : v 1 = .int .i64 k := (hv 1 40 rfl).1
   have f2 : v 2 = .slice (some ⟨g, off, none⟩) 2 cap := (hv 2 41 rfl).1
   have f3 : v 3 = .pointer (some ⟨g, off, none⟩) := (hv 3 42 rfl).1
   have f4 : v 4 = .agg #[.int .i64 a.k, .int .i64 a.o, .string a.n] := (hv 4 43 rfl).1
   have f5 : v 5 = .slice (some ⟨g, off, none⟩) 2 cap := (hv 5 44 rfl).1
   have f6 : v 6 = .pointer (some ⟨g, off + 3, none⟩) := (hv 6 45 rfl).1
   have f7 : v 7 = .agg #[.int .i64 b.k, .int .i64 b.o, .string b.n] := (hv 7 46 rfl).1
   have f8 : v 8 = .tuple #[.agg #[.int .i64 xk, .int .i64 xo, .string xn], .int .i64 xe] := (hv 8 47 rfl).1
   have f9 : v 9 = .agg #[.int .i64 xk, .int .i64 xo, .string xn] := (hv 9 48 rfl).1
   have f10 : v 10 = .int .i64 xe := (hv 10 49 rfl).1
   have f12 : v 12 = .int .i64 xe := (hv 12 9 rfl).1
   clear hRR hv hLa
   simp only [putAll, dstOf, List.getElem?_cons_zero, List.getElem?_cons_succ, Option.bind_some, List.length_cons, List.length_nil, f0, f1, f2, f3, f4, f5, f6, f7, f8, f9, f10, f12]
   clear f0 f1 f2 f3 f4 f5 f6 f7 f8 f9 f10 f12
   simp only [Act.put, List.setIfInBounds_toArray, List.set_cons_succ, List.set_cons_zero]
   generalize v 11 = vm
   obtain ⟨d0, d1, d2⟩ := bl3_ hVf
   go_wp2
   exact bodyPost_ret (v := .tuple #[.agg #[.int .i64 xk, .int .i64 xo, .string xn], .int .i64 xe]) (by simp [results, Try.results32, go_sem, d0, d1, d2]) rfl ⟨by rw [unhide HE]; rfl, bE⟩
 | [a, b, c], _, HR =>
  obtain ⟨g, off, rfl, hg, hat⟩ := (unhide HR).get (Below.refl _ w) (show 0 < [a, b, c].length by simp)
  obtain ⟨a0, a1, a2⟩ : AtT3 w g (off) a := by simpa using hat
  clear hat
  obtain ⟨g_, off_, eg, _, hat⟩ := (unhide HR).get (Below.refl _ w) (show 1 < [a, b, c].length by simp)
  cases eg
  obtain ⟨b0, b1, b2⟩ : AtT3 w g (off + 3) b := by simpa using hat
  clear hat
  have b1 : w.cell? ⟨g, off + 4, none⟩ = _ := b1
  have b2 : w.cell? ⟨g, off + 5, none⟩ = _ := b2
  obtain ⟨g_, off_, eg, _, hat⟩ := (unhide HR).get (Below.refl _ w) (show 2 < [a, b, c].length by simp)
  cases eg
  obtain ⟨c0, c1, c2⟩ : AtT3 w g (off + 6) c := by simpa using hat
  clear hat
  have c1 : w.cell? ⟨g, off + 7, none⟩ = _ := c1
  have c2 : w.cell? ⟨g, off + 8, none⟩ = _ := c2
  simp only [List.length_cons, List.length_nil, Nat.zero_add, Nat.reduceAdd]
  go_enter Try.func32, Try.ntmps32
  go_upto_region 1 with fail
  generalize (((w.alloc _).alloc _).alloc _).alloc _ = w1 at *
  have ce0 : w1.cell? ⟨w.heap.size + 2, 0, none⟩ = some (.int .i64 k) := lc_ k3 rfl
  go_upto_region 11 with fail
  have C0 := fun w' => ofThree_any k a.k a.o a.n b.k b.o b.n c.k c.o c.n w'
  have HE : nodeT s p r k es et ei [a, b, c] = threeT k ⟨a.k, a.o, a.n⟩ ⟨b.k, b.o, b.n⟩ ⟨c.k, c.o, c.n⟩ := hn [a, b, c]
  obtain ⟨x, hx⟩ : ∃ x : TR, x = threeT k ⟨a.k, a.o, a.n⟩ ⟨b.k, b.o, b.n⟩ ⟨c.k, c.o, c.n⟩ := ⟨_, rfl⟩
  rw [← hx] at C0 HE
  obtain ⟨⟨xk, xo, xn⟩, xe⟩ := x
  have HE := hide HE
  unfold TR.ret at C0
  simp only at C0
  clear hx ce0
  refine wp_specsD (SpL [.pointer (some ⟨w.heap.size + 2, 0, none⟩), .int .i64 k, .slice (some ⟨g, off, none⟩) 3 cap, .pointer (some ⟨g, off, none⟩), .agg #[.int .i64 a.k, .int .i64 a.o, .string a.n], .slice (some ⟨g, off, none⟩) 3 cap, .pointer (some ⟨g, off + 3, none⟩), .agg #[.int .i64 b.k, .int .i64 b.o, .string b.n], .slice (some ⟨g, off, none⟩) 3 cap, .pointer (some ⟨g, off + 6, none⟩), .agg #[.int .i64 c.k, .int .i64 c.o, .string c.n], .tuple #[.agg #[.int .i64 xk, .int .i64 xo, .string xn], .int .i64 xe], .agg #[.int .i64 xk, .int .i64 xo, .string xn], .int .i64 xe, undef, .int .i64 xe]) (RS 14 8 w w1 (w.heap.size + 3) (xk) (xo) (xn)) (by kernel_rfl) (by kernel_rfl) (by kernel_rfl) (RS.start _ bX k4 rfl) ?_ ?_ ?_
  ·intro q o d ho hd L a' w' hL hw hRR hdep hslot hsz K hK
   have hqN : q < 16 := dstOf_lt hd
   have hR := hRR.below
   have m3 := (hRR.keep (w.heap.size + 2) (by omega) (by omega)).trans k3
   have y0 : w'.cell? ⟨w.heap.size + 2, 0, none⟩ = some (.int .i64 k) := lc_ m3 rfl
   clear m3
   have a0' := (hR.cell (p := ⟨g, off, none⟩) hg).trans a0
   have a1' := (hR.cell (p := ⟨g, off + 1, none⟩) hg).trans a1
   have a2' := (hR.cell (p := ⟨g, off + 2, none⟩) hg).trans a2
   have b0' := (hR.cell (p := ⟨g, off + 3, none⟩) hg).trans b0
   have b1' := (hR.cell (p := ⟨g, off + 4, none⟩) hg).trans b1
   have b2' := (hR.cell (p := ⟨g, off + 5, none⟩) hg).trans b2
   have c0' := (hR.cell (p := ⟨g, off + 6, none⟩) hg).trans c0
   have c1' := (hR.cell (p := ⟨g, off + 7, none⟩) hg).trans c1
   have c2' := (hR.cell (p := ⟨g, off + 8, none⟩) hg).trans c2
   have hs3 : a'.tmps.getD 3 undef = .slice (some ⟨g, off, none⟩) 3 cap := hslot 3 (fun q h => by have hl := dstOf_lt h; match q, hl with | 0, _ => cases h | 1, _ => cases h | 2, _ => cases h | 3, _ => cases h | 4, _ => cases h | 5, _ => cases h | 6, _ => cases h | 7, _ => cases h | 8, _ => cases h | 9, _ => cases h | 10, _ => cases h | 11, _ => cases h | 12, _ => cases h | 13, _ => cases h | 14, _ => cases h | 15, _ => cases h)
   have hs6 : a'.tmps.getD 6 undef = .pointer (some ⟨w.heap.size + 2, 0, none⟩) := hslot 6 (fun q h => by have hl := dstOf_lt h; match q, hl with | 0, _ => cases h | 1, _ => cases h | 2, _ => cases h | 3, _ => cases h | 4, _ => cases h | 5, _ => cases h | 6, _ => cases h | 7, _ => cases h | 8, _ => cases h | 9, _ => cases h | 10, _ => cases h | 11, _ => cases h | 12, _ => cases h | 13, _ => cases h | 14, _ => cases h | 15, _ => cases h)
   have hc : q = 0 ∨ q = 1 ∨ q = 2 ∨ q = 3 ∨ q = 4 ∨ q = 5 ∨ q = 6 ∨ q = 7 ∨ q = 8 ∨ q = 9 ∨ q = 10 ∨ q = 11 ∨ q = 12 ∨ q = 13 ∨ q = 14 ∨ q = 15 := by omega
   rcases hc with rfl | rfl | rfl | rfl | rfl | rfl | rfl | rfl | rfl | rfl | rfl | rfl | rfl | rfl | rfl | rfl
   ·cases ho
    cases hd
    have e0 := hs6
    clear y0 a0' a1' a2' b0' b1' b2' c0' c1' c2'
    unfold Oper.wp
    go_simp
    exact hK _ _ rfl (hRR.step (Below.refl _ w') 0 52 _ (by decide) (by decide)) (fun _ _ h => h)
   ·cases ho
    cases hd
    have e0 : a'.tmps.getD 52 undef = .pointer (some ⟨w.heap.size + 2, 0, none⟩) := hdep 0 52 rfl (by kernel_rfl)
    have e0' := gd_ e0
    clear a0' a1' a2' b0' b1' b2' c0' c1' c2'
    unfold Oper.wp
    go_simp
    exact hK _ _ rfl (hRR.step (Below.refl _ w') 1 53 _ (by decide) (by decide)) (fun _ _ h => h)
   ·cases ho
    cases hd
    have e0 := hs3
    clear y0 a0' a1' a2' b0' b1' b2' c0' c1' c2'
    unfold Oper.wp
    go_simp
    exact hK _ _ rfl (hRR.step (Below.refl _ w') 2 54 _ (by decide) (by decide)) (fun _ _ h => h)
   ·cases ho
    cases hd
    have e0 : a'.tmps.getD 54 undef = .slice (some ⟨g, off, none⟩) 3 cap := hdep 2 54 rfl (by kernel_rfl)
    have e0' := gd_ e0
    clear y0 a0' a1' a2' b0' b1' b2' c0' c1' c2'
    unfold Oper.wp
    go_simp
    exact hK _ _ rfl (hRR.step (Below.refl _ w') 3 55 _ (by decide) (by decide)) (fun _ _ h => h)
   ·cases ho
    cases hd
    have e0 : a'.tmps.getD 55 undef = .pointer (some ⟨g, off, none⟩) := hdep 3 55 rfl (by kernel_rfl)
    have e0' := gd_ e0
    clear y0 b0' b1' b2' c0' c1' c2'
    unfold Oper.wp
    go_simp
    exact hK _ _ rfl (hRR.step (Below.refl _ w') 4 56 _ (by decide) (by decide)) (fun _ _ h => h)
   ·cases ho
    cases hd
    have e0 := hs3
    clear y0 a0' a1' a2' b0' b1' b2' c0' c1' c2'
    unfold Oper.wp
    go_simp
    exact hK _ _ rfl (hRR.step (Below.refl _ w') 5 57 _ (by decide) (by decide)) (fun _ _ h => h)
   ·cases ho
    cases hd
    have e0 : a'.tmps.getD 57 undef = .slice (some ⟨g, off, none⟩) 3 cap := hdep 5 57 rfl (by kernel_rfl)
    have e0' := gd_ e0
    clear y0 a0' a1' a2' b0' b1' b2' c0' c1' c2'
    unfold Oper.wp
    go_simp
    exact hK _ _ rfl (hRR.step (Below.refl _ w') 6 58 _ (by decide) (by decide)) (fun _ _ h => h)
   ·cases ho
    cases hd
    have e0 : a'.tmps.getD 58 undef = .pointer (some ⟨g, off + 3, none⟩) := hdep 6 58 rfl (by kernel_rfl)
    have e0' := gd_ e0
    clear y0 a0' a1' a2' c0' c1' c2'
    unfold Oper.wp
    go_simp
    exact hK _ _ rfl (hRR.step (Below.refl _ w') 7 59 _ (by decide) (by decide)) (fun _ _ h => h)
   ·cases ho
    cases hd
    have e0 := hs3
    clear y0 a0' a1' a2' b0' b1' b2' c0' c1' c2'
    unfold Oper.wp
    go_simp
    exact hK _ _ rfl (hRR.step (Below.refl _ w') 8 60 _ (by decide) (by decide)) (fun _ _ h => h)
   ·cases ho
    cases hd
    have e0 : a'.tmps.getD 60 undef = .slice (some ⟨g, off, none⟩) 3 cap := hdep 8 60 rfl (by kernel_rfl)
    have e0' := gd_ e0
    clear y0 a0' a1' a2' b0' b1' b2' c0' c1' c2'
    unfold Oper.wp
    go_simp
    exact hK _ _ rfl (hRR.step (Below.refl _ w') 9 61 _ (by decide) (by decide)) (fun _ _ h => h)
   ·cases ho
    cases hd
    have e0 : a'.tmps.getD 61 undef = .pointer (some ⟨g, off + 6, none⟩) := hdep 9 61 rfl (by kernel_rfl)
    have e0' := gd_ e0
    clear y0 a0' a1' a2' b0' b1' b2'
    unfold Oper.wp
    go_simp
    exact hK _ _ rfl (hRR.step (Below.refl _ w') 10 62 _ (by decide) (by decide)) (fun _ _ h => h)
   ·cases ho
    cases hd
    have e0 : a'.tmps.getD 53 undef = .int .i64 k := hdep 1 53 rfl (by kernel_rfl)
    have e0' := gd_ e0
    have e1 : a'.tmps.getD 56 undef = .agg #[.int .i64 a.k, .int .i64 a.o, .string a.n] := hdep 4 56 rfl (by kernel_rfl)
    have e1' := gd_ e1
    have e2 : a'.tmps.getD 59 undef = .agg #[.int .i64 b.k, .int .i64 b.o, .string b.n] := hdep 7 59 rfl (by kernel_rfl)
    have e2' := gd_ e2
    have e3 : a'.tmps.getD 62 undef = .agg #[.int .i64 c.k, .int .i64 c.o, .string c.n] := hdep 10 62 rfl (by kernel_rfl)
    have e3' := gd_ e3
    clear y0 a0' a1' a2' b0' b1' b2' c0' c1' c2'
    unfold Oper.wp
    go_simp
    refine (C0 w').mono ?_
    rintro e w9 ⟨rfl, b9⟩
    exact hK _ _ rfl (hRR.step b9 11 63 _ (by decide) (by decide)) (fun _ _ h => h)
   ·cases ho
    cases hd
    have e0 : a'.tmps.getD 63 undef = .tuple #[.agg #[.int .i64 xk, .int .i64 xo, .string xn], .int .i64 xe] := hdep 11 63 rfl (by kernel_rfl)
    have e0' := gd_ e0
    clear y0 a0' a1' a2' b0' b1' b2' c0' c1' c2'
    unfold Oper.wp
    go_simp
    exact hK _ _ rfl (hRR.step (Below.refl _ w') 12 64 _ (by decide) (by decide)) (fun _ _ h => h)
   ·cases ho
    cases hd
    have e0 : a'.tmps.getD 63 undef = .tuple #[.agg #[.int .i64 xk, .int .i64 xo, .string xn], .int .i64 xe] := hdep 11 63 rfl (by kernel_rfl)
    have e0' := gd_ e0
    clear y0 a0' a1' a2' b0' b1' b2' c0' c1' c2'
    unfold Oper.wp
    go_simp
    exact hK _ _ rfl (hRR.step (Below.refl _ w') 13 65 _ (by decide) (by decide)) (fun _ _ h => h)
   ·cases hd
   ·cases ho
    cases hd
    have e0 : a'.tmps.getD 65 undef = .int .i64 xe := hdep 13 65 rfl (by kernel_rfl)
    have e0' := gd_ e0
    clear y0 a0' a1' a2' b0' b1' b2' c0' c1' c2'
    unfold Oper.wp
    go_simp
    exact hK _ _ rfl (hRR.step (Below.refl _ w') 15 9 _ (by decide) (by decide)) (fun _ _ h => h)
  ·intro q o ho hd L a' w' hL hw hRR hdep K hK
   have hqN : q < 16 := (List.getElem?_eq_some_iff.1 ho).1
   have hR := hRR.below
   have m3 := (hRR.keep (w.heap.size + 2) (by omega) (by omega)).trans k3
   have y0 : w'.cell? ⟨w.heap.size + 2, 0, none⟩ = some (.int .i64 k) := lc_ m3 rfl
   clear m3
   have a0' := (hR.cell (p := ⟨g, off, none⟩) hg).trans a0
   have a1' := (hR.cell (p := ⟨g, off + 1, none⟩) hg).trans a1
   have a2' := (hR.cell (p := ⟨g, off + 2, none⟩) hg).trans a2
   have b0' := (hR.cell (p := ⟨g, off + 3, none⟩) hg).trans b0
   have b1' := (hR.cell (p := ⟨g, off + 4, none⟩) hg).trans b1
   have b2' := (hR.cell (p := ⟨g, off + 5, none⟩) hg).trans b2
   have c0' := (hR.cell (p := ⟨g, off + 6, none⟩) hg).trans c0
   have c1' := (hR.cell (p := ⟨g, off + 7, none⟩) hg).trans c1
   have c2' := (hR.cell (p := ⟨g, off + 8, none⟩) hg).trans c2
   have hc : q = 0 ∨ q = 1 ∨ q = 2 ∨ q = 3 ∨ q = 4 ∨ q = 5 ∨ q = 6 ∨ q = 7 ∨ q = 8 ∨ q = 9 ∨ q = 10 ∨ q = 11 ∨ q = 12 ∨ q = 13 ∨ q = 14 ∨ q = 15 := by omega
   rcases hc with rfl | rfl | rfl | rfl | rfl | rfl | rfl | rfl | rfl | rfl | rfl | rfl | rfl | rfl | rfl | rfl
   ·cases hd
   ·cases hd
   ·cases hd
   ·cases hd
   ·cases hd
   ·cases hd
   ·cases hd
   ·cases hd
   ·cases hd
   ·cases hd
   ·cases hd
   ·cases hd
   ·cases hd
   ·cases hd
   ·cases ho
    have e0 : a'.tmps.getD 64 undef = .agg #[.int .i64 xk, .int .i64 xo, .string xn] := hdep 12 64 rfl (by kernel_rfl)
    have e0' := gd_ e0
    have hz := hRR.zero hL
    obtain ⟨r0, r1, r2⟩ := bl3_ hz
    have fz := fun o => Lib.frozen_of_heap hz o
    have e1 : a'.tmps.getD 8 undef = .pointer (some ⟨w.heap.size + 3, 0, none⟩) := hRR.sl
    have HP := hide (hRR.put hVlt hVle hL)
    clear y0 a0' a1' a2' b0' b1' b2' c0' c1' c2' hz
    unfold Oper.wp
    go_simp
    exact hK _ (unhide HP) (fun _ _ h => h) undef
   ·cases hd
  ·intro v L w' hLa hRR hv
   have bE := hRR.below
   have hVf := hRR.full (hLa 14 (by decide))
   have f0 : v 0 = .pointer (some ⟨w.heap.size + 2, 0, none⟩) := (hv 0 52 rfl).1
   have f1 : v 1 = .int .i64 k := (hv 1 53 rfl).1
   have f2 : v 2 = .slice (some ⟨g, off, none⟩) 3 cap := (hv 2 54 rfl).1
   have f3 : v 3 = .pointer (some ⟨g, off, none⟩) := (hv 3 55 rfl).1
   have f4 : v 4 = .agg #[.int .i64 a.k, .int .i64 a.o, .string a.n] := (hv 4 56 rfl).1
   have f5 : v 5 = .slice (some ⟨g, off, none⟩) 3 cap := (hv 5 57 rfl).1
   have f6 : v 6 = .pointer (some ⟨g, off + 3, none⟩) := (hv 6 58 rfl).1
   have f7 : v 7 = .agg #[.int .i64 b.k, .int .i64 b.o, .string b.n] := (hv 7 59 rfl).1
   have f8 : v 8 = .slice (some ⟨g, off, none⟩) 3 cap := (hv 8 60 rfl).1
   have f9 : v 9 = .pointer (some ⟨g, off + 6, none⟩) := (hv 9 61 rfl).1
   have f10 : v 10 = .agg #[.int .i64 c.k, .int .i64 c.o, .string c.n] := (hv 10 62 rfl).1
   have f11 : v 11 = .tuple #[.agg #[.int .i64 xk, .int .i64 xo, .string xn], .int .i64 xe] := (hv 11 63 rfl).1
   have f12 : v 12 = .agg #[.int .i64 xk, .int .i64 xo, .string xn] := (hv 12 64 rfl).1
   have f13 : v 13 = .int .i64 xe := (hv 13 65 rfl).1
   have f15 : v 15 = .int .i64 xe := (hv 15 9 rfl).1
   clear hRR hv hLa
   simp only [putAll, dstOf, List.getElem?_cons_zero, List.getElem?_cons_succ, Option.bind_some, List.length_cons, List.length_nil, f0, f1, f2, f3, f4, f5, f6, f7, f8, f9, f10, f11, f12, f13, f15]
   clear f0 f1 f2 f3 f4 f5 f6 f7 f8 f9 f10 f11 f12 f13 f15
   simp only [Act.put, List.setIfInBounds_toArray, List.set_cons_succ, List.set_cons_zero]
   generalize v 14 = vm
   obtain ⟨d0, d1, d2⟩ := bl3_ hVf
   go_wp2
   exact bodyPost_ret (v := .tuple #[.agg #[.int .i64 xk, .int .i64 xo, .string xn], .int .i64 xe]) (by simp [results, Try.results32, go_sem, d0, d1, d2]) rfl ⟨by rw [unhide HE]; rfl, bE⟩
 | a :: b :: c :: d :: t, _, _ =>
  have hE : nodeT s p r k es et ei (a :: b :: c :: d :: t) = (zT, 13) := hn _
  obtain ⟨Ln, hLn⟩ : ∃ Ln : Nat, Ln = (a :: b :: c :: d :: t).length := ⟨_, rfl⟩
  have h4 : 4 ≤ Ln := by rw [hLn]; simp
  have q0 : ((Ln : Int) == 0) = false := by
   have : ¬ (Ln : Int) = 0 := by omega
   simpa using this
  have q1 : ((Ln : Int) == 1) = false := by
   have : ¬ (Ln : Int) = 1 := by omega
   simpa using this
  have q2 : ((Ln : Int) == 2) = false := by
   have : ¬ (Ln : Int) = 2 := by omega
   simpa using this
  have q3 : ((Ln : Int) == 3) = false := by
   have : ¬ (Ln : Int) = 3 := by omega
   simpa using this
  rw [← hLn]
  clear hLn
  go_enter Try.func32, Try.ntmps32
  go_upto_region 1 with fail
  generalize (((w.alloc _).alloc _).alloc _).alloc _ = w1 at *
  have ce0 : w1.cell? ⟨w.heap.size + 2, 0, none⟩ = some (.int .i64 k) := lc_ k3 rfl
  have HE := hide (show nodeT s p r k es et ei (a :: b :: c :: d :: t) = (⟨0, 0, ⟨#[]⟩⟩, 13) from hE)
  obtain ⟨z0, z1, z2⟩ := bl3_ k4
  have zf : ∀ o, w1.frozen? ⟨w.heap.size + 3, o, none⟩ = false := fun o => Lib.frozen_of_heap k4 o
  have HQ := hide (set3_all (.int .i64 0) (.int .i64 0) (.string ⟨#[]⟩) k4 bX (Nat.le_add_right _ 3))
  go_wp2
  obtain ⟨q0, q1, q2, qb⟩ := unhide HQ
  exact bodyPost_ret (v := .tuple #[.agg #[.int .i64 0, .int .i64 0, .string ⟨#[]⟩], .int .i64 13]) (by simp [results, Try.results32, go_sem, q0, q1, q2]) rfl ⟨by rw [unhide HE]; rfl, qb⟩
end Go.Proofs.Ytagnbpobcijakaa

namespace Go.Proofs.Ytagnbpobcijakaa
open Go.RowKit Go.Sort

mutual
/-- No list of a tree is very long. -/
def slE : Ex → Bool
 | .mk _ _ _ _ _ _ l => decide (l.length ≤ 100000) && slL l
def slL : List Ex → Bool
 | [] => true
 | e :: l => slE e && slL l
end
theorem slL_get : ∀ (l : List Ex) (j : Nat) (h : j < l.length), slL l = true → slE l[j] = true
 | [], j, h, _ => absurd h (Nat.not_lt_zero _)
 | e :: l, 0, _, h => by
  unfold slL at h
  simp only [Bool.and_eq_true] at h
  exact h.1
 | e :: l, j + 1, hj, h => by
  unfold slL at h
  simp only [Bool.and_eq_true] at h
  exact slL_get l j (by simpa using hj) h.2
theorem IsE.lift {w w' : World} {q : R7} {e : Ex} (h : IsE w (fun _ => True) q e) (hb : Below w.heap.size w w') : IsE w' (fun _ => True) q e := IsE.turn hb.size (fun b _ hl => ⟨hb.block b hl, trivial⟩) q e h
theorem infoT3 : (Try.prog.info? 54).map (fun i => (i.zero, i.size, i.bytes)) = some (some (.agg #[.int .i64 0, .int .i64 0, .string ⟨#[]⟩]), 3, 32) := by kernel_rfl
theorem inT3 : (Try.prog.info? 54).map (fun i => (i.zero.isSome, i.size, i.bytes)) = some (true, 3, 32) := by kernel_rfl
theorem make_row0 {P : Program} (t e : TypeId) (s by_ n : Nat) (N : Int) (ht : P.underlying t = some (.slice e)) (hi : (P.info? e).map (fun i => (i.zero.isSome, i.size, i.bytes)) = some (true, s, by_)) (hN : N = (n : Int)) (hn : n ≤ 2097152) (hb : by_ ≤ 1000) :
  ∃ rest : List Value, rest.length = n * s ∧ ∀ W : World, (Instr.makeSlice t (.int .i64 0) (.int .i64 N)).run P W = .ok (.slice (some ⟨W.heap.size, 0, none⟩) 0 n) (W.alloc (.cells rest.toArray e)) := by
 cases h : P.info? e with
 | none => rw [h] at hi; cases hi
 | some i =>
  rw [h] at hi
  simp only [Option.map_some, Option.some.injEq, Prod.mk.injEq] at hi
  obtain ⟨h1, h2, h3⟩ := hi
  obtain ⟨z, hz⟩ := Option.isSome_iff_exists.1 h1
  have hbb : (by_ : Int) * N ≤ 281474976710656 := by
   have := Nat.mul_le_mul hb hn
   rw [hN]
   omega
  refine ⟨(madeCells z.cells (n * s)).toList, by simp [size_madeCells], fun W => ?_⟩
  have := run_make (P := P) W t e i z ht h hz .i64 .i64 0 N (by omega) (by omega) (by rw [h3]; exact hbb) (by omega)
  rw [this, h2, hN]
  simp
theorem typE_mk (s : SP) (p r : ByteArray) (k : Int) (b : Bool) (m : Int) (sx t i : List UInt8) (l : List Ex) : typE s p r (.mk k b m sx t i l) = match typL s p r [] l with
  | .inl ts => nodeT s p r k (ba sx) (ba t) (ba i) ts
  | .inr e => (zT, e) := by
 rw [typE]
 cases typL s p r [] l <;> rfl
set_option maxHeartbeats 8000000 in
set_option maxRecDepth 1000000 in
theorem yOf_any (s : SP) (p ac r : ByteArray) (hsm : SmS s) : ∀ (n : Nat) (e : Ex), depE e ≤ n → slE e = true → ∀ (v : Value) (q : R7) (w : World), IsS w v s → IsE w (fun _ => True) q e →
  Calls Try.prog 15 #[v, .agg #[.string p, .string ac, .string r], .agg #[.int .i64 q.k, .bool q.b, .int .i64 q.n, .string q.s, .string q.t, .string q.i, .slice q.lo q.ll q.lc]] w fun en w' => en = .returned (typE s p r e).ret ∧ Below w.heap.size w w' := by
 intro n
 induction n with
 | zero =>
  intro e hd
  cases e
  unfold depE at hd
  omega
 | succ n ih =>
  intro e hd hsl v q w hs hq
  obtain ⟨k, b, m, sx, t, i, l⟩ := e
  unfold IsE at hq
  obtain ⟨q1, q2, q3, q4, q5, q6, q7, q8⟩ := hq
  obtain ⟨qk, qb, qn, qs, qt, qi, qlo, Ln, qlc⟩ := q
  simp only at q1 q2 q3 q4 q5 q6 q7 q8
  subst q1 q2 q3 q4 q5 q6
  simp only
  rw [slE] at hsl
  simp only [Bool.and_eq_true, decide_eq_true_eq] at hsl
  have hdl : depL l ≤ n := by
   unfold depE at hd
   omega
  have hLb : Ln ≤ 100000 := by rw [q7]; exact hsl.1
  have HE := hide (typE_mk s p r qk qb qn sx t i l)
  have HK := hide q8
  have HL := hide q7
  have HS := hide hs
  have IH := hide (fun (j : Nat) (hj : j < l.length) (x : R7) (w9 w' : World) (hb : Below w9.heap.size w9 w') (hs9 : IsS w9 v s) (hx : IsE w9 (fun _ => True) x l[j]) => ih l[j] (Nat.le_trans (depL_get l j hj) hdl) (slL_get l j hj hsl.2) v x w' (hs9.below hb) (hx.lift hb))
  clear ih hd hsl hdl q7 q8
  obtain ⟨ko, kc, ao, acp, rfl, _, _⟩ := hs.ex
  clear hs
  obtain ⟨bX, zX, k1, k2, k3, k4⟩ := alloc4 w (.cells #[.slice ko s.ks.length kc, .slice ao s.ac.length acp] 33) (.cells #[.string p, .string ac, .string r] 60) (.cells #[.int .i64 qk, .bool qb, .int .i64 qn, .string (ba sx), .string (ba t), .string (ba i), .slice qlo Ln qlc] 39) (.cells #[.int .i64 0, .int .i64 0, .string ⟨#[]⟩] 54)
  obtain ⟨rest, hre, hmk⟩ := make_row0 (P := Try.prog) 91 54 3 32 Ln (Ln : Int) Try.underlying91 inT3 rfl (by omega) (by decide)
  obtain ⟨iT, hiT, hzT0, hzT1, hzT2⟩ := info_parts infoT3
  go_enter Try.func15, Try.ntmps15
  go_upto_region 1 with fail
  generalize (((w.alloc _).alloc _).alloc _).alloc _ = w1 at *
  have ce6 : w1.cell? ⟨w.heap.size + 2, 6, none⟩ = some (.slice qlo Ln qlc) := lc_ k3 rfl
  have b2 := blw1 w1 (.cells rest.toArray 54)
  have own2 : (w1.alloc (.cells rest.toArray 54)).ownsRow w1.heap.size 54 3 (.slice (some ⟨w1.heap.size, 0, none⟩) 0 Ln) 0 [] := ⟨rfl, .inr ⟨w1.heap.size, Ln, _, rfl, Nat.le_refl _, alloc_heap _ _, Nat.zero_le _, by unfold maxLen; omega, by simp [hre], by simp⟩⟩
  have ce6' := (b2.cell (p := ⟨w.heap.size + 2, 6, none⟩) (by show w.heap.size + 2 < _; omega)).trans ce6
  clear hre
  go_upto_region 2 with fail
  generalize w1.alloc _ = w2 at *
  clear ce6 hmk
  go_wp2_with fail
  clear ce6'
  have Hown2 := hide own2
  clear own2
  go_loopw [8, 20] (fun kv iv wr => ∃ (j : Nat) (ts : List T3), iv = .int .i64 j ∧ j ≤ Ln ∧ ts.length = j ∧ Below w1.heap.size w1 wr ∧ wr.ownsRow w1.heap.size 54 3 kv ts.length (ts.map T3.cells).flatten ∧ typL s p r [] l = typL s p r ts (l.drop j)) (fun _ iv _ => Ln - (intOf iv).toNat)
  case atStart => exact ⟨0, [], by go_num, Nat.zero_le _, rfl, b2, unhide Hown2, rfl⟩
  case round =>
   rename Value => kv
   obtain ⟨j, ts, rfl, hjl, htl, hbw, hown, hty⟩ := hrel
   have Hown := hide hown
   have Hty := hide hty
   have Htl := hide htl
   clear hown hty htl
   have b0r := bX.trans (hbw.mono bX.size)
   have k1r := kept_of_below hbw k1
   have k2r := kept_of_below hbw k2
   have k3r := kept_of_below hbw k3
   have k4r := kept_of_below hbw k4
   by_cases hlt : j < Ln
   ·have i0 : (0 : Int) ≤ (j : Int) := by omega
    have i1 : (j : Int) < (Ln : Int) := by omega
    have hlt' : j < l.length := by rw [← unhide HL]; exact hlt
    obtain ⟨x, g, off, rfl, hg, hat0, hx⟩ := IsEs.get l 0 j hlt' (unhide HK)
    have hat := hat0.below b0r hg
    rw [Nat.zero_add] at hat
    obtain ⟨a0, a1, a2, a3, a4, a5, a6⟩ := hat
    have C := fun w' (hb : Below w.heap.size w w') => unhide IH j hlt' x w w' hb (unhide HS) hx
    have HN := hide (And.intro (typL_next s p r ts l j hlt') (typL_err s p r ts l j hlt'))
    obtain ⟨X, hX⟩ : ∃ X, X = typE s p r l[j] := ⟨_, rfl⟩
    rw [← hX] at C HN
    clear hX hat0 hx hlt'
    obtain ⟨⟨xk, xo, xn⟩, xe⟩ := X
    unfold TR.ret at C
    simp only at C HN
    have b4 := blw1 wr (.cells #[.int .i64 x.k, .bool x.b, .int .i64 x.n, .string x.s, .string x.t, .string x.i, .slice x.lo x.ll x.lc] 39)
    have h4 := alloc_heap wr (.cells #[.int .i64 x.k, .bool x.b, .int .i64 x.n, .string x.s, .string x.t, .string x.i, .slice x.lo x.ll x.lc] 39)
    have b04 := b0r.trans (b4.mono b0r.size)
    have k14 := kept_of_below b4 k1r
    have k24 := kept_of_below b4 k2r
    have k44 := kept_of_below b4 k4r
    have bw4 := hbw.trans (b4.mono hbw.size)
    go_upto_region 5 with fail
    have Hown := hide (owns_below b4 (unhide Hown))
    generalize wr.alloc _ = w4 at *
    clear a0 a1 a2 a3 a4 a5 a6
    obtain ⟨cs0, cs1⟩ := bl2_ k14
    obtain ⟨cn0, cn1, cn2⟩ := bl3_ k24
    obtain ⟨cx0, cx1, cx2, cx3, cx4, cx5, cx6⟩ := bl7_ h4
    have C := C w4 b04
    go_wp2_with fail
    refine C.mono ?_
    clear C cs0 cs1 cn0 cn1 cn2 cx0 cx1 cx2 cx3 cx4 cx5 cx6
    rintro e9 w5 ⟨rfl, b5⟩
    have b6 := blw1 w5 (.cells #[.int .i64 xk, .int .i64 xo, .string xn] 54)
    have h6 := alloc_heap w5 (.cells #[.int .i64 xk, .int .i64 xo, .string xn] 54)
    have k46 := kept_of_below b6 (kept_of_below b5 k44)
    have B56 := b5.trans (b6.mono b5.size)
    have b06 := b04.trans (B56.mono b04.size)
    have bw6 := bw4.trans (B56.mono bw4.size)
    have Hown := hide (owns_below b6 (owns_below b5 (unhide Hown)))
    go_upto_region 6 with fail
    generalize w5.alloc _ = w6 at *
    by_cases hxe : xe = 0
    ·subst hxe
     have HN2 := hide ((unhide Hty).trans ((unhide HN).1 rfl))
     clear HN Hty
     obtain ⟨t0, t1, t2⟩ := bl3_ h6
     have b7 := blw1 w6 (.cells #[.int .i64 xk, .int .i64 xo, .string xn] 54)
     have h7 := alloc_heap w6 (.cells #[.int .i64 xk, .int .i64 xo, .string xn] 54)
     have Hown7 := hide (owns_below b7 (unhide Hown))
     have bw7 := bw6.trans (b7.mono bw6.size)
     have z7 : w1.heap.size ≤ (w6.alloc (.cells #[.int .i64 xk, .int .i64 xo, .string xn] 54)).heap.size := bw7.size
     go_wp2_with (at_builtin; refine wpList_append_own_at _ rfl _ _ 91 rfl w1.heap.size 54 iT _ 3 32 Try.underlying91 hiT hzT0 hzT1 hzT2 rfl (by decide) _ _ _ rfl (unhide Hown7) ⟨w6.heap.size, 0, none⟩ 1 1 [.int .i64 xk, .int .i64 xo, .string xn] rfl rfl ?p1 ?p2 ?p3 ?p4 ?p5 ?_)
     case p1 =>
      intro c u hu
      rw [Addr.add_lit, Nat.zero_add, Lib.cell_of_heap h7]
      simpa using hu
     case p2 =>
      intro u hu
      simp only [List.mem_cons, List.not_mem_nil, or_false] at hu
      rcases hu with rfl | rfl | rfl <;> rfl
     case p3 => have := unhide Htl; unfold maxLen; omega
     case p4 => have := unhide Htl; omega
     case p5 => first | exact z7 | simpa using z7
     intro v8 w8 hown8 hgrow _ _
     have hown8' : w8.ownsRow w1.heap.size 54 3 v8 (ts ++ [(⟨xk, xo, xn⟩ : T3)]).length ((ts ++ [(⟨xk, xo, xn⟩ : T3)]).map T3.cells).flatten := by
      rw [List.map_append, List.flatten_append, List.length_append]
      exact hown8
     have bw8 : Below w1.heap.size w1 w8 := bw7.grown hgrow bw7.size (fun j hj => ((unhide Hown7).lt j hj).1)
     have H8 := hide hown8'
     clear hown8 hown8' hgrow Hown Hown7 t0 t1 t2 h7 h6
     go_wp2
     go_roundw
     case rel => exact ⟨j + 1, ts ++ [⟨xk, xo, xn⟩], by go_num, by omega, by rw [List.length_append]; simp [unhide Htl], bw8, unhide H8, unhide HN2⟩
     case measure =>
      simp only [intOf]
      omega
    ·have gx : (xe == 0) = false := by simpa using hxe
     have HE := hide (show typE s p r (.mk qk qb qn sx t i l) = (⟨0, 0, ⟨#[]⟩⟩, xe) from by rw [unhide HE, unhide Hty, (unhide HN).2 hxe]; rfl)
     clear hxe HN
     obtain ⟨z0, z1, z2⟩ := bl3_ k46
     have zf : ∀ o, w6.frozen? ⟨w.heap.size + 3, o, none⟩ = false := fun o => Lib.frozen_of_heap k46 o
     have HQ := hide (set3_all (.int .i64 0) (.int .i64 0) (.string ⟨#[]⟩) k46 b06 (Nat.le_add_right _ 3))
     go_wp2
     obtain ⟨q0, q1, q2, qb_⟩ := unhide HQ
     exact bodyPost_ret (v := .tuple #[.agg #[.int .i64 0, .int .i64 0, .string ⟨#[]⟩], .int .i64 xe]) (by simp [results, Try.results15, go_sem, q0, q1, q2]) rfl ⟨by rw [unhide HE]; rfl, qb_⟩
   ·have i1 : ¬ (j : Int) < (Ln : Int) := by omega
    have HE := hide (show typE s p r (.mk qk qb qn sx t i l) = nodeT s p r qk (ba sx) (ba t) (ba i) ts from by
     have hn : l.length ≤ j := by
      have := unhide HL
      omega
     rw [unhide HE, unhide Hty, List.drop_eq_nil_of_le hn, typL])
    obtain ⟨tlo, tlc, rfl, hrow, _, _⟩ := own_row (f := T3.cells) (fun _ => rfl) (unhide Hown)
    have hrow : RowT3 wr tlo ts := hrow
    have C := ofNode_any s _ p ac r qk qb qn (ba sx) (ba t) (ba i) qlo Ln qlc ts tlo tlc wr hsm ((unhide HS).below b0r) (by have := unhide Htl; omega) hrow
    obtain ⟨X, hX⟩ : ∃ X, X = nodeT s p r qk (ba sx) (ba t) (ba i) ts := ⟨_, rfl⟩
    rw [← hX] at C HE
    clear hX
    obtain ⟨⟨xk, xo, xn⟩, xe⟩ := X
    unfold TR.ret at C
    simp only at C
    obtain ⟨cs0, cs1⟩ := bl2_ k1r
    obtain ⟨cn0, cn1, cn2⟩ := bl3_ k2r
    obtain ⟨cx0, cx1, cx2, cx3, cx4, cx5, cx6⟩ := bl7_ k3r
    have Hrow := hide hrow
    clear hrow
    clear Htl
    generalize ts.length = tl at *
    go_wp2_with fail
    refine C.mono ?_
    clear C cs0 cs1 cn0 cn1 cn2 cx0 cx1 cx2 cx3 cx4 cx5 cx6
    rintro e9 w5 ⟨rfl, b5⟩
    have k45 := kept_of_below b5 k4r
    have b05 := b0r.trans (b5.mono b0r.size)
    obtain ⟨z0, z1, z2⟩ := bl3_ k45
    have zf : ∀ o, w5.frozen? ⟨w.heap.size + 3, o, none⟩ = false := fun o => Lib.frozen_of_heap k45 o
    have HQ := hide (set3_all (.int .i64 xk) (.int .i64 xo) (.string xn) k45 b05 (Nat.le_add_right _ 3))
    go_wp2
    obtain ⟨q0, q1, q2, qb_⟩ := unhide HQ
    exact bodyPost_ret (v := .tuple #[.agg #[.int .i64 xk, .int .i64 xo, .string xn], .int .i64 xe]) (by simp [results, Try.results15, go_sem, q0, q1, q2]) rfl ⟨by rw [unhide HE]; rfl, qb_⟩
end Go.Proofs.Ytagnbpobcijakaa
