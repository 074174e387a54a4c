/-
  pack's reader: next, number; copyOf: what they return.
-/
import Derived.Test.YtkeljejddfpnmaaDoorPkE
import Derived.BigQuiet
import Derived.Deep.QuietTactic
import Derived.Lib.OthersKept
namespace Go.Proofs.YtkeljejddfpnmaaDoor
open Go.RowKit Go.Sort

/-! ## Cuts of bytes. -/

theorem addr_add (g o k : Nat) : (⟨g, o, none⟩ : Addr).add k = ⟨g, o + k, none⟩ := by
  unfold Addr.add
  split <;> simp_all
theorem BRowN.drop {w : World} {x : Nat} {ao : Option Addr} {l : List UInt8} (h : BRowN w x ao l) (k cap : Nat) (hc : l.length ≤ cap) : BRowN w x (if cap = k then ao else ao.map (·.add k)) (l.drop k) := by
  by_cases hk : l.length ≤ k
  · exact .inl (List.drop_eq_nil_of_le hk)
  · rcases h with rfl | ⟨g, off, rfl, hg, hx, h⟩
    · simp at hk
    · rw [if_neg (by omega)]
      refine .inr ⟨g, off + k, by simp [addr_add], hg, hx, fun j hj => ?_⟩
      rw [List.length_drop] at hj
      rw [List.getElem_drop, show off + k + j = off + (k + j) by omega]
      exact h (k + j) (by omega)
theorem BRowN.take {w : World} {x : Nat} {ao : Option Addr} {l : List UInt8} (h : BRowN w x ao l) (k : Nat) : BRowN w x ao (l.take k) := by
  rcases h with rfl | ⟨g, off, rfl, hg, hx, h⟩
  · exact .inl (by simp)
  · refine .inr ⟨g, off, rfl, hg, hx, fun j hj => ?_⟩
    rw [List.getElem_take]
    exact h j (by rw [List.length_take] at hj; omega)
theorem run_cut_l (ao : Option Addr) (n cap k : Nat) (hk : k ≤ n) : ∃ ao', ao' = (if cap = k then ao else ao.map (·.add k)) ∧ ∀ W, (Instr.slice 24 (.slice ao n cap) (some (.int .i64 k)) none none).run Tryd.prog W = .ok (.slice ao' (n - k) (cap - k)) W := by
  refine ⟨_, rfl, fun W => ?_⟩
  rw [run_slice_l (P := Tryd.prog) (w := W) 24 ao n cap (by kernel_rfl) .i64 k (by omega) (by omega)]
  rw [show (sizeOf (Tryd.prog.elem 24)).run Tryd.prog W = .ok 1 W by kernel_rfl]
  simp [sliced, Result.andThen]
theorem run_cut_h (ao : Option Addr) (n cap k : Nat) (hk : k ≤ cap) (W : World) : (Instr.slice 24 (.slice ao n cap) none (some (.int .i64 k)) none).run Tryd.prog W = .ok (.slice ao k cap) W := by
  rw [run_slice_h (P := Tryd.prog) (w := W) 24 ao n cap (by kernel_rfl) .i64 k (by omega) (by omega)]
  rw [show (sizeOf (Tryd.prog.elem 24)).run Tryd.prog W = .ok 1 W by kernel_rfl]
  have e0 : ∀ a : Addr, a.add 0 = a := fun a => by unfold Addr.add; simp
  cases ao <;> simp [sliced, Result.andThen, e0]

/-! ## The reader. -/

structure RS where
  l : List UInt8
  cut : Bool
  bad : Bool
def rObj (ao : Option Addr) (n c : Nat) (b d : Bool) : Obj := .cells #[.slice ao n c, .bool b, .bool d] 68 (0, 0)
structure RdB (w : World) (rb : Nat) (ao : Option Addr) (cap : Nat) (s : RS) : Prop where
  obj : w.heap[rb]? = some (rObj ao s.l.length cap s.cut s.bad)
  cap : s.l.length ≤ cap
  row : BRowN w rb ao s.l
def RdK (w : World) (rb : Nat) (s : RS) : Prop := ∃ ao cap, RdB w rb ao cap s
theorem RdK.lt {w : World} {rb : Nat} {s : RS} (h : RdK w rb s) : rb < w.heap.size := by
  obtain ⟨ao, cap, h⟩ := h
  exact (Array.getElem?_eq_some_iff.1 h.obj).1
theorem RdK.below {w w' : World} {rb : Nat} {s : RS} (h : RdK w rb s) (hb : Below w.heap.size w w') : RdK w' rb s := by
  have hlt := h.lt
  obtain ⟨ao, cap, h⟩ := h
  exact ⟨ao, cap, (hb.block rb hlt).trans h.obj, h.cap, h.row.same hb.size fun k hk _ => hb.block k hk⟩
def nxt (n : Nat) (s : RS) : RS := if n ≤ s.l.length then ⟨s.l.drop n, s.cut, s.bad⟩ else ⟨[], true, s.bad⟩
def frt (n : Nat) (s : RS) : List UInt8 := if n ≤ s.l.length then s.l.take n else []
/-- A call that turns no old block but one. -/
abbrev Keep1 (x : Nat) (w w' : World) : Prop := Keep2 x x w w'

theorem r_cells {w : World} {rb : Nat} {ao : Option Addr} {n c : Nat} {b d : Bool} (h : w.heap[rb]? = some (rObj ao n c b d)) : w.cell? ⟨rb, 0, none⟩ = some (.slice ao n c) ∧ w.cell? ⟨rb, 1, none⟩ = some (.bool b) ∧ w.cell? ⟨rb, 2, none⟩ = some (.bool d) ∧ ∀ o, w.frozen? ⟨rb, o, none⟩ = false :=
  ⟨by rw [Lib.cell_of_heap h]; rfl, by rw [Lib.cell_of_heap h]; rfl, by rw [Lib.cell_of_heap h]; rfl, fun o => Lib.frozen_of_heap h o⟩
theorem r_set0 {w : World} {rb : Nat} {ao : Option Addr} {n c : Nat} {b d : Bool} (h : w.heap[rb]? = some (rObj ao n c b d)) (ao' : Option Addr) (n' c' : Nat) : (w.setCell ⟨rb, 0, none⟩ (.slice ao' n' c')).heap[rb]? = some (rObj ao' n' c' b d) := by
  simp [World.setCell, Array.getElem?_modify, h, rObj]
theorem r_set1 {w : World} {rb : Nat} {ao : Option Addr} {n c : Nat} {b d : Bool} (h : w.heap[rb]? = some (rObj ao n c b d)) (b' : Bool) : (w.setCell ⟨rb, 1, none⟩ (.bool b')).heap[rb]? = some (rObj ao n c b' d) := by
  simp [World.setCell, Array.getElem?_modify, h, rObj]

set_option maxHeartbeats 4000000 in
set_option maxRecDepth 1000000 in
theorem next_any (n : Nat) (s : RS) (w : World) (rb : Nat) (h : RdK w rb s) :
    Calls Tryd.prog 40 #[.pointer (some ⟨rb, 0, none⟩), .int .i64 n] w fun e w' => ∃ ao cap, e = .returned (.slice ao (frt n s).length cap) ∧ (frt n s).length ≤ cap ∧ BRowN w' rb ao (frt n s) ∧ Keep1 rb w w' ∧ RdK w' rb (nxt n s) := by
  obtain ⟨ao, cap, h⟩ := h
  have hlt : rb < w.heap.size := (Array.getElem?_eq_some_iff.1 h.obj).1
  obtain ⟨c0, c1, c2, cf⟩ := r_cells h.obj
  unfold nxt frt
  by_cases hn : n ≤ s.l.length
  · rw [if_pos hn, if_pos hn, List.length_take, Nat.min_eq_left hn]
    obtain ⟨ao', hao, hsl⟩ := run_cut_l ao s.l.length cap n hn
    have hsh := run_cut_h ao s.l.length cap n (by have := h.cap; omega)
    have hrow := h.row.drop n cap h.cap
    rw [← hao] at hrow
    have i1 : ¬ (s.l.length : Int) < (n : Int) := by omega
    have K1 := (Keep2.refl rb rb w).setCell (p := ⟨rb, 0, none⟩) (.inl rfl) (.slice ao' (s.l.length - n) (cap - n))
    have hsame : ∀ k, k < w.heap.size → k ≠ rb → (w.setCell ⟨rb, 0, none⟩ (.slice ao' (s.l.length - n) (cap - n))).heap[k]? = w.heap[k]? := fun k hk hr => K1.block k hk hr hr
    have R1 := r_set0 h.obj ao' (s.l.length - n) (cap - n)
    have B1 := (h.row.take n).same (w' := w.setCell ⟨rb, 0, none⟩ (.slice ao' (s.l.length - n) (cap - n))) K1.size hsame
    have B2 := hrow.same (w' := w.setCell ⟨rb, 0, none⟩ (.slice ao' (s.l.length - n) (cap - n))) K1.size hsame
    have hcap := h.cap
    clear hao hrow hsame
    go_enter Tryd.func40, Tryd.ntmps40
    go_wp2
    go_ret
    exact ⟨ao, cap, rfl, by omega, B1, K1, ao', cap - n, by simpa using R1, by simp; omega, B2⟩
  · rw [if_neg hn, if_neg hn]
    have i1 : (s.l.length : Int) < (n : Int) := by omega
    have K1 := ((Keep2.refl rb rb w).setCell (p := ⟨rb, 0, none⟩) (.inl rfl) (.slice none 0 0)).setCell (p := ⟨rb, 1, none⟩) (.inl rfl) (.bool true)
    have R0 := r_set0 h.obj none 0 0
    have R1 := r_set1 R0 true
    obtain ⟨d0, d1, d2, df⟩ := r_cells R0
    go_enter Tryd.func40, Tryd.ntmps40
    go_wp2
    go_ret
    exact ⟨none, 0, rfl, Nat.le_refl _, .inl rfl, K1, none, 0, R1, Nat.le_refl _, .inl rfl⟩
end Go.Proofs.YtkeljejddfpnmaaDoor
