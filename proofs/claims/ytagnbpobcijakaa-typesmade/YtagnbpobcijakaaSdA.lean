/-
 chancelref10.Kind, Action, in; slices.Index, Contains of texts: what they return.
-/
import Derived.Test.YtagnbpobcijakaaScJ
namespace Go.Proofs.Ytagnbpobcijakaa
open Go.RowKit Go.Sort

def zN3 : N3 := ⟨⟨#[]⟩, none, 0, 0, none, 0, 0⟩

/-- What is found of a name: nothing, or the first one. -/
def FoundK (s : SP) (n : ByteArray) (e : Ending) (w' : World) : Prop := (n ∉ s.names ∧ e = .returned (.tuple #[zN3.val, .bool false])) ∨ ∃ (i : Nat) (hi : i < s.ks.length) (x : N3), Place s.names n i ∧ IsK w' x s.ks[i] ∧ e = .returned (.tuple #[x.val, .bool true])
set_option maxHeartbeats 2000000 in
set_option maxRecDepth 1000000 in
theorem rKind_any (s : SP) (v : Value) (n : ByteArray) (w : World) (hl : s.ks.length ≤ 281474976710656) (hs : IsS w v s) :
  Calls Try.prog 40 #[v, .string n] w fun e w' => FoundK s n e w' ∧ Below w.heap.size w w' := by
 obtain ⟨ko, kc, ao, ac, rfl, hk, ha⟩ := hs.ex
 have b2 := blw2 w (.cells #[.slice ko s.ks.length kc, .slice ao s.ac.length ac] 33) (.cells #[.string ⟨#[]⟩, .slice none 0 0, .slice none 0 0] 80)
 have HR := hide hk
 have HL := hide (show ∀ j (h : j < s.ks.length), s.names[j]'(by simpa [SP.names] using h) = s.ks[j].nm from fun j h => by simp [SP.names])
 have c0 : ((w.alloc (.cells #[.slice ko s.ks.length kc, .slice ao s.ac.length ac] 33)).alloc (.cells #[.string ⟨#[]⟩, .slice none 0 0, .slice none 0 0] 80)).cell? ⟨w.heap.size, 0, none⟩ = some (.slice ko s.ks.length kc) := by simp
 have hq : ((w.alloc (.cells #[.slice ko s.ks.length kc, .slice ao s.ac.length ac] 33)).alloc (.cells #[.string ⟨#[]⟩, .slice none 0 0, .slice none 0 0] 80)).heap[w.heap.size + 1]? = some (.cells #[.string ⟨#[]⟩, .slice none 0 0, .slice none 0 0] 80 (0, 0)) := by
  have := alloc_heap (w.alloc (.cells #[.slice ko s.ks.length kc, .slice ao s.ac.length ac] 33)) (.cells #[.string ⟨#[]⟩, .slice none 0 0, .slice none 0 0] 80)
  simpa using this
 have z2 : ((w.alloc (.cells #[.slice ko s.ks.length kc, .slice ao s.ac.length ac] 33)).alloc (.cells #[.string ⟨#[]⟩, .slice none 0 0, .slice none 0 0] 80)).heap.size = w.heap.size + 2 := by simp
 clear hs hk ha
 go_enter Try.func40, Try.ntmps40
 go_wp2_with fail
 generalize (w.alloc _).alloc _ = w2 at *
 go_wp2
 go_loopw [6] (fun iv wr => ∃ i : Nat, iv = .int .i64 i ∧ i ≤ s.ks.length ∧ Below w2.heap.size w2 wr ∧ ∀ j (hj : j < s.ks.length), j < i → (s.ks[j]).nm ≠ n) (fun iv _ => s.ks.length - (intOf iv).toNat)
 case atStart => exact ⟨0, by go_num, Nat.zero_le _, Below.refl _ _, fun j _ h => absurd h (Nat.not_lt_zero _)⟩
 case round =>
  obtain ⟨i, rfl, hil, hbw, hlo⟩ := hrel
  have Hlo := hide hlo
  clear hlo
  have b0w := b2.trans (hbw.mono b2.size)
  have c0' := (hbw.cell (p := ⟨w.heap.size, 0, none⟩) (by show w.heap.size < _; omega)).trans c0
  have hqw := kept_of_below hbw hq
  have r0' : wr.cell? ⟨w.heap.size + 1, 0, none⟩ = some (.string ⟨#[]⟩) := lc_ hqw rfl
  have r1' : wr.cell? ⟨w.heap.size + 1, 1, none⟩ = some (.slice none 0 0) := lc_ hqw rfl
  have r2' : wr.cell? ⟨w.heap.size + 1, 2, none⟩ = some (.slice none 0 0) := lc_ hqw rfl
  have fz0' := Lib.frozen_of_heap hqw 0
  have fz1' := Lib.frozen_of_heap hqw 1
  have fz2' := Lib.frozen_of_heap hqw 2
  have Hqw := hide hqw
  clear hqw
  by_cases hlt : i < s.ks.length
  ·have i0 : (0 : Int) ≤ (i : Int) := by omega
   have i1 : (i : Int) < (s.ks.length : Int) := by omega
   obtain ⟨x, g, off, rfl, hg, hx, hk⟩ := (unhide HR).get (Below.refl _ w) hlt
   obtain ⟨xn, xao, xal, xac, xbo, xbl, xbc⟩ := x
   obtain ⟨a0, a1, a2⟩ := hx.below b0w hg
   simp only at a0 a1 a2
   have Hk := hide hk
   have Hn := hide hk.nm
   clear hk
   by_cases he : xn = n
   ·subst he
    have hb7 := ((b0w.setCell (p := ⟨w.heap.size + 1, 0, none⟩) (by show w.heap.size ≤ w.heap.size + 1; omega) (.string xn)).setCell (p := ⟨w.heap.size + 1, 1, none⟩) (by show w.heap.size ≤ w.heap.size + 1; omega) (.slice xao xal xac)).setCell (p := ⟨w.heap.size + 1, 2, none⟩) (by show w.heap.size ≤ w.heap.size + 1; omega) (.slice xbo xbl xbc)
    have q7 := heap_setCell_same _ (w.heap.size + 1) 2 _ _ (.slice xbo xbl xbc) (heap_setCell_same _ (w.heap.size + 1) 1 _ _ (.slice xao xal xac) (heap_setCell_same wr (w.heap.size + 1) 0 _ _ (.string xn) (unhide Hqw)))
    have Hq7 := hide q7
    clear q7
    go_wp2
    have d0 : (((wr.setCell ⟨w.heap.size + 1, 0, none⟩ (.string xn)).setCell ⟨w.heap.size + 1, 1, none⟩ (.slice xao xal xac)).setCell ⟨w.heap.size + 1, 2, none⟩ (.slice xbo xbl xbc)).cell? ⟨w.heap.size + 1, 0, none⟩ = some (.string xn) := by rw [Lib.cell_of_heap (unhide Hq7)]; rfl
    have d1 : (((wr.setCell ⟨w.heap.size + 1, 0, none⟩ (.string xn)).setCell ⟨w.heap.size + 1, 1, none⟩ (.slice xao xal xac)).setCell ⟨w.heap.size + 1, 2, none⟩ (.slice xbo xbl xbc)).cell? ⟨w.heap.size + 1, 1, none⟩ = some (.slice xao xal xac) := by rw [Lib.cell_of_heap (unhide Hq7)]; rfl
    have d2 : (((wr.setCell ⟨w.heap.size + 1, 0, none⟩ (.string xn)).setCell ⟨w.heap.size + 1, 1, none⟩ (.slice xao xal xac)).setCell ⟨w.heap.size + 1, 2, none⟩ (.slice xbo xbl xbc)).cell? ⟨w.heap.size + 1, 2, none⟩ = some (.slice xbo xbl xbc) := by rw [Lib.cell_of_heap (unhide Hq7)]; rfl
    generalize ((wr.setCell _ _).setCell _ _).setCell _ _ = w7 at *
    refine bodyPost_ret (v := .tuple #[.agg #[.string xn, .slice xao xal xac, .slice xbo xbl xbc], .bool true]) (by simp [results, Try.results40, go_sem, d0, d1, d2]) rfl ⟨.inr ⟨i, hlt, ⟨xn, xao, xal, xac, xbo, xbl, xbc⟩, .inr ⟨i, rfl, by simpa [SP.names] using hlt, ?_, fun j hj hji => ?_⟩, (unhide Hk).below hb7, rfl⟩, hb7⟩
    ·rw [unhide HL i hlt]
     exact (unhide Hn).symm
    ·rw [unhide HL j (by simpa [SP.names] using hj)]
     exact unhide Hlo j (by simpa [SP.names] using hj) hji
   ·have hd : (xn.toList == n.toList) = false := bytes_ne he
    have He := hide he
    clear he
    go_wp2
    go_roundw
    case rel =>
     refine ⟨i + 1, by go_num, by omega, hbw, fun j hj hji => ?_⟩
     by_cases e : j = i
     ·subst e
      exact fun h => unhide He ((unhide Hn).trans h)
     ·exact unhide Hlo j hj (by omega)
    case measure =>
     simp only [intOf]
     omega
  ·have i1 : ¬ (i : Int) < (s.ks.length : Int) := by omega
   have hb7 := ((b0w.setCell (p := ⟨w.heap.size + 1, 0, none⟩) (by show w.heap.size ≤ w.heap.size + 1; omega) (.string ⟨#[]⟩)).setCell (p := ⟨w.heap.size + 1, 1, none⟩) (by show w.heap.size ≤ w.heap.size + 1; omega) (.slice none 0 0)).setCell (p := ⟨w.heap.size + 1, 2, none⟩) (by show w.heap.size ≤ w.heap.size + 1; omega) (.slice none 0 0)
   have q7 := heap_setCell_same _ (w.heap.size + 1) 2 _ _ (.slice none 0 0) (heap_setCell_same _ (w.heap.size + 1) 1 _ _ (.slice none 0 0) (heap_setCell_same wr (w.heap.size + 1) 0 _ _ (.string ⟨#[]⟩) (unhide Hqw)))
   have Hq7 := hide q7
   clear q7
   go_wp2
   have d0 : (((wr.setCell ⟨w.heap.size + 1, 0, none⟩ (.string ⟨#[]⟩)).setCell ⟨w.heap.size + 1, 1, none⟩ (.slice none 0 0)).setCell ⟨w.heap.size + 1, 2, none⟩ (.slice none 0 0)).cell? ⟨w.heap.size + 1, 0, none⟩ = some (.string ⟨#[]⟩) := by rw [Lib.cell_of_heap (unhide Hq7)]; rfl
   have d1 : (((wr.setCell ⟨w.heap.size + 1, 0, none⟩ (.string ⟨#[]⟩)).setCell ⟨w.heap.size + 1, 1, none⟩ (.slice none 0 0)).setCell ⟨w.heap.size + 1, 2, none⟩ (.slice none 0 0)).cell? ⟨w.heap.size + 1, 1, none⟩ = some (.slice none 0 0) := by rw [Lib.cell_of_heap (unhide Hq7)]; rfl
   have d2 : (((wr.setCell ⟨w.heap.size + 1, 0, none⟩ (.string ⟨#[]⟩)).setCell ⟨w.heap.size + 1, 1, none⟩ (.slice none 0 0)).setCell ⟨w.heap.size + 1, 2, none⟩ (.slice none 0 0)).cell? ⟨w.heap.size + 1, 2, none⟩ = some (.slice none 0 0) := by rw [Lib.cell_of_heap (unhide Hq7)]; rfl
   generalize ((wr.setCell _ _).setCell _ _).setCell _ _ = w7 at *
   refine bodyPost_ret (v := .tuple #[.agg #[.string ⟨#[]⟩, .slice none 0 0, .slice none 0 0], .bool false]) (by simp [results, Try.results40, go_sem, d0, d1, d2]) rfl ⟨.inl ⟨fun h => ?_, rfl⟩, hb7⟩
   obtain ⟨j, hj, e⟩ := List.getElem_of_mem h
   have hj' : j < s.ks.length := by simpa [SP.names] using hj
   rw [unhide HL j hj'] at e
   exact unhide Hlo j hj' (by omega) e

/-- What is found of a name: nothing, or the first one. -/
def FoundA (s : SP) (n : ByteArray) (e : Ending) (w' : World) : Prop := (n ∉ s.acts ∧ e = .returned (.tuple #[zN3.val, .bool false])) ∨ ∃ (i : Nat) (hi : i < s.ac.length) (x : N3), Place s.acts n i ∧ IsA w' x s.ac[i] ∧ e = .returned (.tuple #[x.val, .bool true])
set_option maxHeartbeats 2000000 in
set_option maxRecDepth 1000000 in
theorem rAction_any (s : SP) (v : Value) (n : ByteArray) (w : World) (hl : s.ac.length ≤ 281474976710656) (hs : IsS w v s) :
  Calls Try.prog 53 #[v, .string n] w fun e w' => FoundA s n e w' ∧ Below w.heap.size w w' := by
 obtain ⟨ko, kc, ao, ac, rfl, hk, ha⟩ := hs.ex
 have b2 := blw2 w (.cells #[.slice ko s.ks.length kc, .slice ao s.ac.length ac] 33) (.cells #[.string ⟨#[]⟩, .slice none 0 0, .slice none 0 0] 83)
 have HR := hide ha
 have HL := hide (show ∀ j (h : j < s.ac.length), s.acts[j]'(by simpa [SP.acts] using h) = s.ac[j].nm from fun j h => by simp [SP.acts])
 have c0 : ((w.alloc (.cells #[.slice ko s.ks.length kc, .slice ao s.ac.length ac] 33)).alloc (.cells #[.string ⟨#[]⟩, .slice none 0 0, .slice none 0 0] 83)).cell? ⟨w.heap.size, 1, none⟩ = some (.slice ao s.ac.length ac) := by simp
 have hq : ((w.alloc (.cells #[.slice ko s.ks.length kc, .slice ao s.ac.length ac] 33)).alloc (.cells #[.string ⟨#[]⟩, .slice none 0 0, .slice none 0 0] 83)).heap[w.heap.size + 1]? = some (.cells #[.string ⟨#[]⟩, .slice none 0 0, .slice none 0 0] 83 (0, 0)) := by
  have := alloc_heap (w.alloc (.cells #[.slice ko s.ks.length kc, .slice ao s.ac.length ac] 33)) (.cells #[.string ⟨#[]⟩, .slice none 0 0, .slice none 0 0] 83)
  simpa using this
 have z2 : ((w.alloc (.cells #[.slice ko s.ks.length kc, .slice ao s.ac.length ac] 33)).alloc (.cells #[.string ⟨#[]⟩, .slice none 0 0, .slice none 0 0] 83)).heap.size = w.heap.size + 2 := by simp
 clear hs hk ha
 go_enter Try.func53, Try.ntmps53
 go_wp2_with fail
 generalize (w.alloc _).alloc _ = w2 at *
 go_wp2
 go_loopw [6] (fun iv wr => ∃ i : Nat, iv = .int .i64 i ∧ i ≤ s.ac.length ∧ Below w2.heap.size w2 wr ∧ ∀ j (hj : j < s.ac.length), j < i → (s.ac[j]).nm ≠ n) (fun iv _ => s.ac.length - (intOf iv).toNat)
 case atStart => exact ⟨0, by go_num, Nat.zero_le _, Below.refl _ _, fun j _ h => absurd h (Nat.not_lt_zero _)⟩
 case round =>
  obtain ⟨i, rfl, hil, hbw, hlo⟩ := hrel
  have Hlo := hide hlo
  clear hlo
  have b0w := b2.trans (hbw.mono b2.size)
  have c0' := (hbw.cell (p := ⟨w.heap.size, 1, none⟩) (by show w.heap.size < _; omega)).trans c0
  have hqw := kept_of_below hbw hq
  have r0' : wr.cell? ⟨w.heap.size + 1, 0, none⟩ = some (.string ⟨#[]⟩) := lc_ hqw rfl
  have r1' : wr.cell? ⟨w.heap.size + 1, 1, none⟩ = some (.slice none 0 0) := lc_ hqw rfl
  have r2' : wr.cell? ⟨w.heap.size + 1, 2, none⟩ = some (.slice none 0 0) := lc_ hqw rfl
  have fz0' := Lib.frozen_of_heap hqw 0
  have fz1' := Lib.frozen_of_heap hqw 1
  have fz2' := Lib.frozen_of_heap hqw 2
  have Hqw := hide hqw
  clear hqw
  by_cases hlt : i < s.ac.length
  ·have i0 : (0 : Int) ≤ (i : Int) := by omega
   have i1 : (i : Int) < (s.ac.length : Int) := by omega
   obtain ⟨x, g, off, rfl, hg, hx, hk⟩ := (unhide HR).get (Below.refl _ w) hlt
   obtain ⟨xn, xao, xal, xac, xbo, xbl, xbc⟩ := x
   obtain ⟨a0, a1, a2⟩ := hx.below b0w hg
   simp only at a0 a1 a2
   have Hk := hide hk
   have Hn := hide hk.nm
   clear hk
   by_cases he : xn = n
   ·subst he
    have hb7 := ((b0w.setCell (p := ⟨w.heap.size + 1, 0, none⟩) (by show w.heap.size ≤ w.heap.size + 1; omega) (.string xn)).setCell (p := ⟨w.heap.size + 1, 1, none⟩) (by show w.heap.size ≤ w.heap.size + 1; omega) (.slice xao xal xac)).setCell (p := ⟨w.heap.size + 1, 2, none⟩) (by show w.heap.size ≤ w.heap.size + 1; omega) (.slice xbo xbl xbc)
    have q7 := heap_setCell_same _ (w.heap.size + 1) 2 _ _ (.slice xbo xbl xbc) (heap_setCell_same _ (w.heap.size + 1) 1 _ _ (.slice xao xal xac) (heap_setCell_same wr (w.heap.size + 1) 0 _ _ (.string xn) (unhide Hqw)))
    have Hq7 := hide q7
    clear q7
    go_wp2
    have d0 : (((wr.setCell ⟨w.heap.size + 1, 0, none⟩ (.string xn)).setCell ⟨w.heap.size + 1, 1, none⟩ (.slice xao xal xac)).setCell ⟨w.heap.size + 1, 2, none⟩ (.slice xbo xbl xbc)).cell? ⟨w.heap.size + 1, 0, none⟩ = some (.string xn) := by rw [Lib.cell_of_heap (unhide Hq7)]; rfl
    have d1 : (((wr.setCell ⟨w.heap.size + 1, 0, none⟩ (.string xn)).setCell ⟨w.heap.size + 1, 1, none⟩ (.slice xao xal xac)).setCell ⟨w.heap.size + 1, 2, none⟩ (.slice xbo xbl xbc)).cell? ⟨w.heap.size + 1, 1, none⟩ = some (.slice xao xal xac) := by rw [Lib.cell_of_heap (unhide Hq7)]; rfl
    have d2 : (((wr.setCell ⟨w.heap.size + 1, 0, none⟩ (.string xn)).setCell ⟨w.heap.size + 1, 1, none⟩ (.slice xao xal xac)).setCell ⟨w.heap.size + 1, 2, none⟩ (.slice xbo xbl xbc)).cell? ⟨w.heap.size + 1, 2, none⟩ = some (.slice xbo xbl xbc) := by rw [Lib.cell_of_heap (unhide Hq7)]; rfl
    generalize ((wr.setCell _ _).setCell _ _).setCell _ _ = w7 at *
    refine bodyPost_ret (v := .tuple #[.agg #[.string xn, .slice xao xal xac, .slice xbo xbl xbc], .bool true]) (by simp [results, Try.results53, go_sem, d0, d1, d2]) rfl ⟨.inr ⟨i, hlt, ⟨xn, xao, xal, xac, xbo, xbl, xbc⟩, .inr ⟨i, rfl, by simpa [SP.acts] using hlt, ?_, fun j hj hji => ?_⟩, (unhide Hk).below hb7, rfl⟩, hb7⟩
    ·rw [unhide HL i hlt]
     exact (unhide Hn).symm
    ·rw [unhide HL j (by simpa [SP.acts] using hj)]
     exact unhide Hlo j (by simpa [SP.acts] using hj) hji
   ·have hd : (xn.toList == n.toList) = false := bytes_ne he
    have He := hide he
    clear he
    go_wp2
    go_roundw
    case rel =>
     refine ⟨i + 1, by go_num, by omega, hbw, fun j hj hji => ?_⟩
     by_cases e : j = i
     ·subst e
      exact fun h => unhide He ((unhide Hn).trans h)
     ·exact unhide Hlo j hj (by omega)
    case measure =>
     simp only [intOf]
     omega
  ·have i1 : ¬ (i : Int) < (s.ac.length : Int) := by omega
   have hb7 := ((b0w.setCell (p := ⟨w.heap.size + 1, 0, none⟩) (by show w.heap.size ≤ w.heap.size + 1; omega) (.string ⟨#[]⟩)).setCell (p := ⟨w.heap.size + 1, 1, none⟩) (by show w.heap.size ≤ w.heap.size + 1; omega) (.slice none 0 0)).setCell (p := ⟨w.heap.size + 1, 2, none⟩) (by show w.heap.size ≤ w.heap.size + 1; omega) (.slice none 0 0)
   have q7 := heap_setCell_same _ (w.heap.size + 1) 2 _ _ (.slice none 0 0) (heap_setCell_same _ (w.heap.size + 1) 1 _ _ (.slice none 0 0) (heap_setCell_same wr (w.heap.size + 1) 0 _ _ (.string ⟨#[]⟩) (unhide Hqw)))
   have Hq7 := hide q7
   clear q7
   go_wp2
   have d0 : (((wr.setCell ⟨w.heap.size + 1, 0, none⟩ (.string ⟨#[]⟩)).setCell ⟨w.heap.size + 1, 1, none⟩ (.slice none 0 0)).setCell ⟨w.heap.size + 1, 2, none⟩ (.slice none 0 0)).cell? ⟨w.heap.size + 1, 0, none⟩ = some (.string ⟨#[]⟩) := by rw [Lib.cell_of_heap (unhide Hq7)]; rfl
   have d1 : (((wr.setCell ⟨w.heap.size + 1, 0, none⟩ (.string ⟨#[]⟩)).setCell ⟨w.heap.size + 1, 1, none⟩ (.slice none 0 0)).setCell ⟨w.heap.size + 1, 2, none⟩ (.slice none 0 0)).cell? ⟨w.heap.size + 1, 1, none⟩ = some (.slice none 0 0) := by rw [Lib.cell_of_heap (unhide Hq7)]; rfl
   have d2 : (((wr.setCell ⟨w.heap.size + 1, 0, none⟩ (.string ⟨#[]⟩)).setCell ⟨w.heap.size + 1, 1, none⟩ (.slice none 0 0)).setCell ⟨w.heap.size + 1, 2, none⟩ (.slice none 0 0)).cell? ⟨w.heap.size + 1, 2, none⟩ = some (.slice none 0 0) := by rw [Lib.cell_of_heap (unhide Hq7)]; rfl
   generalize ((wr.setCell _ _).setCell _ _).setCell _ _ = w7 at *
   refine bodyPost_ret (v := .tuple #[.agg #[.string ⟨#[]⟩, .slice none 0 0, .slice none 0 0], .bool false]) (by simp [results, Try.results53, go_sem, d0, d1, d2]) rfl ⟨.inl ⟨fun h => ?_, rfl⟩, hb7⟩
   obtain ⟨j, hj, e⟩ := List.getElem_of_mem h
   have hj' : j < s.ac.length := by simpa [SP.acts] using hj
   rw [unhide HL j hj'] at e
   exact unhide Hlo j hj' (by omega) e
end Go.Proofs.Ytagnbpobcijakaa
