/-
  pack.msgSize, the writer's truth and head: what they return.
-/
import Derived.Test.YtkeljejddfpnmaaDoorPkM
namespace Go.Proofs.YtkeljejddfpnmaaDoor
open Go.RowKit Go.Sort

def WrW (w : World) (rb g total : Nat) : Prop := ∃ T, WrAt w rb g total T
theorem numW (size : Nat) (hsize : size ≤ 8) (n : Int) (w : World) (rb g total : Nat) (h : WrW w rb g total) (ht : total ≤ 281474976710656) :
    Calls Tryd.prog 21 #[.pointer (some ⟨rb, 0, none⟩), .int .i64 n, .int .i64 size] w fun e w' => e = .returned (.tuple #[]) ∧ Keep2 rb g w w' ∧ WrW w' rb g total := by
  obtain ⟨T, h⟩ := h
  exact (wnumber_any size hsize n w rb g total T h ht).mono fun e w' ⟨h1, h2, h3⟩ => ⟨h1, h2, _, h3⟩
theorem WrW.below {w w' : World} {rb g total : Nat} (h : WrW w rb g total) (hb : Below w.heap.size w w') : WrW w' rb g total := by
  obtain ⟨T, h⟩ := h
  exact ⟨T, h.below hb⟩
theorem WrW.lt {w : World} {rb g total : Nat} (h : WrW w rb g total) : rb < w.heap.size ∧ g < w.heap.size := by
  obtain ⟨T, h⟩ := h
  exact h.lt

theorem truthW (b : Bool) (w : World) (rb g total : Nat) (h : WrW w rb g total) (ht : total ≤ 281474976710656) :
    Calls Tryd.prog 43 #[.pointer (some ⟨rb, 0, none⟩), .bool b] w fun e w' => e = .returned (.tuple #[]) ∧ Keep2 rb g w w' ∧ WrW w' rb g total := by
  have N1 := numW 1 (by decide) 1 w rb g total h ht
  have N0 := numW 1 (by decide) 0 w rb g total h ht
  cases b with
  | true =>
    go_enter Tryd.func43, Tryd.ntmps43
    go_wp2_with fail
    refine Calls.mono N1 ?_
    rintro e w1 ⟨rfl, k1, h1⟩
    go_wp2
    exact bodyPost_ret (results_none rfl _ _ _) rfl ⟨rfl, k1, h1⟩
  | false =>
    go_enter Tryd.func43, Tryd.ntmps43
    go_wp2_with fail
    refine Calls.mono N0 ?_
    rintro e w1 ⟨rfl, k1, h1⟩
    go_wp2
    go_end0
    exact ⟨rfl, k1, h1⟩

theorem blk14 {w : World} {b : Nat} {m : M14} (h : w.heap[b]? = some m.obj) :
    w.cell? ⟨b, 0, none⟩ = some (.int .i64 m.fr) ∧ w.cell? ⟨b, 1, none⟩ = some (.int .i64 m.to) ∧ w.cell? ⟨b, 2, none⟩ = some (.int .i64 m.kd) ∧ w.cell? ⟨b, 3, none⟩ = some (.int .i64 m.tm) ∧ w.cell? ⟨b, 4, none⟩ = some (.int .i64 m.ix) ∧ w.cell? ⟨b, 5, none⟩ = some (.int .i64 m.ls) ∧ w.cell? ⟨b, 6, none⟩ = some (.int .i64 m.cm) ∧ w.cell? ⟨b, 7, none⟩ = some (.int .i64 m.sq) ∧ w.cell? ⟨b, 8, none⟩ = some (.bool m.ys) ∧
    w.cell? ⟨b, 9, none⟩ = some (.slice m.tO m.tn m.tc) ∧ w.cell? ⟨b, 10, none⟩ = some (.slice m.kO m.kn m.kc) ∧ w.cell? ⟨b, 11, none⟩ = some (.slice m.eO m.en m.ec) ∧ w.cell? ⟨b, 12, none⟩ = some (.slice m.mO m.mn m.mc) ∧ w.cell? ⟨b, 13, none⟩ = some (.slice m.dO m.dn m.dc) ∧ ∀ o, w.frozen? ⟨b, o, none⟩ = false := by
  unfold M14.obj at h
  refine ⟨?_, ?_, ?_, ?_, ?_, ?_, ?_, ?_, ?_, ?_, ?_, ?_, ?_, ?_, fun o => Lib.frozen_of_heap h o⟩ <;> rw [Lib.cell_of_heap h] <;> rfl

set_option maxHeartbeats 8000000 in
set_option maxRecDepth 1000000 in
theorem headW (m : M14) (w : World) (rb g total : Nat) (h : WrW w rb g total) (ht : total ≤ 281474976710656) :
    Calls Tryd.prog 37 #[.pointer (some ⟨rb, 0, none⟩), m.val] w fun e w' => e = .returned (.tuple #[]) ∧ Keep2 rb g w w' ∧ WrW w' rb g total := by
  have n1 := new1 w m.obj
  have z1 := alloc_heap w m.obj
  have h1 := h.below n1
  have hl := h.lt
  have NW := fun size hs n w' h' => numW size hs n w' rb g total h' ht
  have TW := fun b w' h' => truthW b w' rb g total h' ht
  have hx : w.heap.size ≠ rb := by omega
  have hy : w.heap.size ≠ g := by omega
  have HZ : ∀ a b : World, Keep2 rb g a b → a.heap[w.heap.size]? = some m.obj → b.heap[w.heap.size]? = some m.obj := fun a b k z => (k.block _ (Array.getElem?_eq_some_iff.1 z).1 hx hy).trans z
  have k1 : Keep2 rb g w (w.alloc m.obj) := .of_below n1
  unfold M14.val M14.cells
  go_enter Tryd.func37, Tryd.ntmps37
  go_upto_region 1 with fail
  have ew : w.alloc (.cells m.cells 45) = w.alloc m.obj := rfl
  unfold M14.cells at ew
  rw [ew]
  clear ew
  generalize w.alloc m.obj = w1 at *
  obtain ⟨c0, c1, c2, c3, c4, c5, c6, c7, c8, _⟩ := blk14 z1
  go_wp2_with fail
  refine Calls.mono (NW 8 (by decide) m.fr w1 h1) ?_
  rintro e w2 ⟨rfl, k2, h2⟩
  have k2 := k1.trans k2
  have z2 := HZ _ _ ‹_› z1
  obtain ⟨c0, c1, c2, c3, c4, c5, c6, c7, c8, _⟩ := blk14 z2
  go_wp2_with fail
  refine Calls.mono (NW 8 (by decide) m.to w2 h2) ?_
  rintro e w3 ⟨rfl, k3, h3⟩
  have z3 := HZ _ _ k3 z2
  have k3 := k2.trans k3
  obtain ⟨c0, c1, c2, c3, c4, c5, c6, c7, c8, _⟩ := blk14 z3
  go_wp2_with fail
  refine Calls.mono (NW 1 (by decide) m.kd w3 h3) ?_
  rintro e w4 ⟨rfl, k4, h4⟩
  have z4 := HZ _ _ k4 z3
  have k4 := k3.trans k4
  obtain ⟨c0, c1, c2, c3, c4, c5, c6, c7, c8, _⟩ := blk14 z4
  go_wp2_with fail
  refine Calls.mono (NW 8 (by decide) m.tm w4 h4) ?_
  rintro e w5 ⟨rfl, k5, h5⟩
  have z5 := HZ _ _ k5 z4
  have k5 := k4.trans k5
  obtain ⟨c0, c1, c2, c3, c4, c5, c6, c7, c8, _⟩ := blk14 z5
  go_wp2_with fail
  refine Calls.mono (NW 8 (by decide) m.ix w5 h5) ?_
  rintro e w6 ⟨rfl, k6, h6⟩
  have z6 := HZ _ _ k6 z5
  have k6 := k5.trans k6
  obtain ⟨c0, c1, c2, c3, c4, c5, c6, c7, c8, _⟩ := blk14 z6
  go_wp2_with fail
  refine Calls.mono (NW 8 (by decide) m.ls w6 h6) ?_
  rintro e w7 ⟨rfl, k7, h7⟩
  have z7 := HZ _ _ k7 z6
  have k7 := k6.trans k7
  obtain ⟨c0, c1, c2, c3, c4, c5, c6, c7, c8, _⟩ := blk14 z7
  go_wp2_with fail
  refine Calls.mono (NW 8 (by decide) m.cm w7 h7) ?_
  rintro e w8 ⟨rfl, k8, h8⟩
  have z8 := HZ _ _ k8 z7
  have k8 := k7.trans k8
  obtain ⟨c0, c1, c2, c3, c4, c5, c6, c7, c8, _⟩ := blk14 z8
  go_wp2_with fail
  refine Calls.mono (NW 8 (by decide) m.sq w8 h8) ?_
  rintro e w9 ⟨rfl, k9, h9⟩
  have z9 := HZ _ _ k9 z8
  have k9 := k8.trans k9
  obtain ⟨c0, c1, c2, c3, c4, c5, c6, c7, c8, _⟩ := blk14 z9
  go_wp2_with fail
  refine Calls.mono (TW m.ys w9 h9) ?_
  rintro e w10 ⟨rfl, k10, h10⟩
  go_wp2
  go_end0
  exact ⟨rfl, k9.trans k10, h10⟩
end Go.Proofs.YtkeljejddfpnmaaDoor
