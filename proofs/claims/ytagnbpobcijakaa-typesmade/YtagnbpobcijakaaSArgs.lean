/-
 Slices of Kinds and of Actions that came in.
-/
import Derived.Test.YtagnbpobcijakaaSArg
import Derived.Test.YtagnbpobcijakaaSeA
import Derived.Deep.Slices
import Derived.OpenShut
import Derived.Stop.Joined
import Derived.ProofKit
namespace Go.Proofs.Ytagnbpobcijakaa
open Go.ChangeShapes Go.WideShapes Go.ChangeAt Go.WideMaps Go.WideElems Go.RowKit

theorem cell_ltS {w : World} {b o : Nat} {v : Value} (h : w.cell? ⟨b, o, none⟩ = some v) : b < w.heap.size := by
 rcases Nat.lt_or_ge b w.heap.size with hl | hl
 ·exact hl
 ·unfold World.cell? at h
  rw [Array.getElem?_eq_none hl] at h
  simp at h
/-- A slice whose elements can be told, one by one. -/
theorem open_rowsG {H : Type} {enc : TypeId × Value → H} {W : World} {α : Type} {n : Nat} {Ts T : TypeId} {fuel : Nat} {cs : List Value} {x : DataW H × List MemPlace} (hu : Try.prog.underlying Ts = some (.slice T)) (hc : Try.prog.cellsOf T = n) (cells : α → List Value) (hlen : ∀ a, (cells a).length = n) (hn : 0 < n) (Q : α → Prop)
  (elem : ∀ fuel cs (x : DataW H × List MemPlace), DataW.trod enc Try.prog W 0 (fun _ => true) true fuel T cs = some x → ∃ a, cs = cells a ∧ Q a) (h : DataW.trod enc Try.prog W 0 (fun _ => true) true fuel Ts cs = some x) :
  ∃ (lo : Option Addr) (rs : List α) (lc : Nat), cs = [.slice lo rs.length lc] ∧ rs.length ≤ 9223372036854775807 ∧ RowG W lo n (rs.map cells) ∧ ∀ r ∈ rs, Q r := by
 rcases Deep.open_slice hu h with ⟨hcs, _⟩ | ⟨a, len, cap, m', k, D, Pl, hcs, _, hl, hm, hmm, _, hx⟩
 ·exact ⟨none, [], 0, hcs, by simp, rowG_nil _ _ _, fun _ h => by cases h⟩
 ·have hmm' : m' = cap := by simpa using hmm
  subst hmm'
  have H : ∀ i : Fin len, ∃ r : α, Q r ∧ ∀ c u, (cells r)[c]? = some u → W.cell? ((a.add (i.1 * n)).add c) = some u := fun i => by
   obtain ⟨cs', hcells, ht⟩ := hx i.1 (by have := i.2; omega)
   rw [hc] at hcells
   obtain ⟨_, hl5, hcc⟩ := World.cells?_some hcells
   obtain ⟨r, rfl, hok⟩ := elem _ _ _ ht
   exact ⟨r, hok, fun c u hu => (hcc c (by have := (List.getElem?_eq_some_iff.1 hu).1; rw [hlen] at this; exact this)).trans hu⟩
  obtain ⟨f, hf⟩ := Classical.axiomOfChoice H
  refine ⟨some a, List.ofFn f, m', by rw [List.length_ofFn]; exact hcs, by rw [List.length_ofFn]; unfold maxLen at hm; omega, fun j hj => ?_, fun r hr => ?_⟩
  ·rw [List.length_map, List.length_ofFn] at hj
   obtain ⟨_, hc00⟩ := hf ⟨0, by omega⟩
   have h0 := hc00 0 _ (List.getElem?_eq_getElem (by rw [hlen]; exact hn))
   obtain ⟨b, off, sp⟩ := a
   have hsp' : sp = none := by simpa [Addr.add] using World.cell?_spot h0
   subst hsp'
   obtain ⟨_, hcj⟩ := hf ⟨j, hj⟩
   have k0 := hcj 0 _ (List.getElem?_eq_getElem (by rw [hlen]; exact hn))
   simp only [Addr.add_lit, Nat.add_zero] at k0
   refine ⟨b, off, rfl, cell_ltS k0, fun c u hu => ?_⟩
   rw [List.getElem_map, List.getElem_ofFn] at hu
   have := hcj c u hu
   simpa only [Addr.add_lit] using this
  ·obtain ⟨j, hj, rfl⟩ := List.getElem_of_mem hr
   rw [List.getElem_ofFn]
   exact (hf _).1
theorem c_intS : Try.prog.cellsOf 3 = 1 := by kernel_rfl
theorem c_intsS : Try.prog.cellsOf 24 = 1 := by kernel_rfl
theorem c_lF : Try.prog.cellsOf 107 = 4 := by kernel_rfl
theorem c_lFs : Try.prog.cellsOf 103 = 1 := by kernel_rfl
theorem c_lK : Try.prog.cellsOf 105 = 3 := by kernel_rfl
theorem c_lA : Try.prog.cellsOf 111 = 3 := by kernel_rfl
section
variable {H : Type} {enc : TypeId × Value → H} {W : World}
theorem intsS {fuel : Nat} {cs : List Value} {x : DataW H × List MemPlace} (h : DataW.trod enc Try.prog W 0 (fun _ => true) true fuel 24 cs = some x) : ∃ (lo : Option Addr) (rs : List Int) (lc : Nat), cs = [.slice lo rs.length lc] ∧ rs.length ≤ 9223372036854775807 ∧ RowG W lo 1 (rs.map intC) := by
 obtain ⟨lo, rs, lc, h1, h2, h3, _⟩ := open_rowsG (α := Int) Try.underlying24 c_intS intC (fun _ => rfl) (by decide) (fun _ => True) (fun f cs x h => by
  obtain ⟨k, hk, _⟩ := DataW.trod_int Try.underlying3 h
  exact ⟨k, hk, trivial⟩) h
 exact ⟨lo, rs, lc, h1, h2, h3⟩
set_option maxRecDepth 100000 in
theorem fieldS_cells {n : Nat} {cs : List Value} {x : DataW H × List MemPlace} (h : DataW.trod enc Try.prog W 0 (fun _ => true) true n 107 cs = some x) : ∃ r : LF, cs = r.cells ∧ True := by
 obtain ⟨xs, m, _, _, hlen, hxl, hall⟩ := DataW.trod_struct Try.underlying107 h
 rw [c_lF] at hlen
 have h0 := hall 0 _ rfl
 have h1 := hall 1 _ rfl
 have h2 := hall 2 _ rfl
 have h3 := hall 3 _ rfl
 have hx : xs.length = 4 := hxl
 rw [List.getElem?_eq_getElem (by omega)] at h0 h1 h2 h3
 simp only [List.getElem_toArray, List.getElem_cons_zero, List.getElem_cons_succ, c_intS] at h0 h1 h2 h3
 match cs, hlen with
 | [a, b, c, d], _ =>
  obtain ⟨k0, hk0, _⟩ := DataW.trod_int Try.underlying3 h0
  obtain ⟨k1, hk1, _⟩ := DataW.trod_int Try.underlying3 h1
  obtain ⟨k2, hk2, _⟩ := DataW.trod_int Try.underlying3 h2
  obtain ⟨k3, hk3, _⟩ := DataW.trod_int Try.underlying3 h3
  simp at hk0 hk1 hk2 hk3
  subst hk0 hk1 hk2 hk3
  exact ⟨⟨k0, k1, k2, k3⟩, rfl, trivial⟩
def OkLK (W : World) (x : L3) : Prop := ∃ k : LK, IsLK W x k ∧ k.ps.length ≤ 9223372036854775807 ∧ k.fs.length ≤ 9223372036854775807
def OkLA (W : World) (x : L3) : Prop := ∃ k : LA, IsLA W x k ∧ k.p.length ≤ 9223372036854775807 ∧ k.r.length ≤ 9223372036854775807
set_option maxRecDepth 100000 in
theorem kindS_cells {n : Nat} {cs : List Value} {x : DataW H × List MemPlace} (h : DataW.trod enc Try.prog W 0 (fun _ => true) true n 105 cs = some x) : ∃ r : L3, cs = r.cells ∧ OkLK W r := by
 obtain ⟨xs, m, _, _, hlen, hxl, hall⟩ := DataW.trod_struct Try.underlying105 h
 rw [c_lK] at hlen
 have h0 := hall 0 _ rfl
 have h1 := hall 1 _ rfl
 have h2 := hall 2 _ rfl
 have hx : xs.length = 3 := hxl
 rw [List.getElem?_eq_getElem (by omega)] at h0 h1 h2
 simp only [List.getElem_toArray, List.getElem_cons_zero, List.getElem_cons_succ, c_intS, c_intsS, c_lFs] at h0 h1 h2
 match cs, hlen with
 | [a, b, c], _ =>
  obtain ⟨k0, hk0, _⟩ := DataW.trod_int Try.underlying3 h0
  obtain ⟨po, ps, pc, hs1, hl1, hi1⟩ := intsS h1
  obtain ⟨fo, fs, fc, hs2, hl2, hi2, _⟩ := open_rowsG (α := LF) Try.underlying103 c_lF LF.cells (fun _ => rfl) (by decide) (fun _ => True) (fun f cs x h => fieldS_cells h) h2
  simp at hk0 hs1 hs2
  subst hk0 hs1 hs2
  exact ⟨⟨k0, po, ps.length, pc, fo, fs.length, fc⟩, rfl, ⟨k0, ps, fs⟩, ⟨rfl, rfl, hi1, rfl, hi2⟩, hl1, hl2⟩
set_option maxRecDepth 100000 in
theorem actS_cells {n : Nat} {cs : List Value} {x : DataW H × List MemPlace} (h : DataW.trod enc Try.prog W 0 (fun _ => true) true n 111 cs = some x) : ∃ r : L3, cs = r.cells ∧ OkLA W r := by
 obtain ⟨xs, m, _, _, hlen, hxl, hall⟩ := DataW.trod_struct Try.underlying111 h
 rw [c_lA] at hlen
 have h0 := hall 0 _ rfl
 have h1 := hall 1 _ rfl
 have h2 := hall 2 _ rfl
 have hx : xs.length = 3 := hxl
 rw [List.getElem?_eq_getElem (by omega)] at h0 h1 h2
 simp only [List.getElem_toArray, List.getElem_cons_zero, List.getElem_cons_succ, c_intS, c_intsS] at h0 h1 h2
 match cs, hlen with
 | [a, b, c], _ =>
  obtain ⟨k0, hk0, _⟩ := DataW.trod_int Try.underlying3 h0
  obtain ⟨po, ps, pc, hs1, hl1, hi1⟩ := intsS h1
  obtain ⟨fo, fs, fc, hs2, hl2, hi2⟩ := intsS h2
  simp at hk0 hs1 hs2
  subst hk0 hs1 hs2
  exact ⟨⟨k0, po, ps.length, pc, fo, fs.length, fc⟩, rfl, ⟨k0, ps, fs⟩, ⟨rfl, rfl, hi1, rfl, hi2⟩, hl1, hl2⟩
theorem choose_rows {α β : Type} {Q : α → β → Prop} : ∀ (l : List α), (∀ a ∈ l, ∃ b, Q a b) → ∃ m : List β, m.length = l.length ∧ ∀ j (h : j < l.length) (h' : j < m.length), Q l[j] m[j]
 | [], _ => ⟨[], rfl, fun j h => absurd h (Nat.not_lt_zero _)⟩
 | a :: t, h => by
  obtain ⟨b, hb⟩ := h a List.mem_cons_self
  obtain ⟨m, h1, h2⟩ := choose_rows t fun x hx => h x (List.mem_cons_of_mem _ hx)
  refine ⟨b :: m, by simp [h1], fun j hj hj' => ?_⟩
  cases j with
  | zero => exact hb
  | succ j => exact h2 j (by simpa using hj) (by simpa using hj')
set_option maxRecDepth 100000 in
theorem open_lks {b0 : Nat} {v : Value} {d : DataW H} {ps : List MemPlace} (hv : Value.okWide Try.prog W .any b0 22 v) (hd : DataW.Trod enc Try.prog W 0 (fun _ => true) true 22 v d ps) :
  ∃ (lo : Option Addr) (ks : List LK) (lc : Nat), v = .slice lo ks.length lc ∧ ks.length ≤ 9223372036854775807 ∧ IsLKs W lo ks ∧ ∀ j (h : j < ks.length), ks[j].ps.length ≤ 9223372036854775807 ∧ ks[j].fs.length ≤ 9223372036854775807 := by
 obtain ⟨a0, len0, cap0, rfl⟩ := okWide_slice Try.underlying22 hv
 obtain ⟨fuel, h⟩ := hd
 obtain ⟨lo, xs, lc, h1, h2, h3, h4⟩ := open_rowsG (α := L3) Try.underlying22 c_lK L3.cells (fun _ => rfl) (by decide) (OkLK W) (fun f cs x h => kindS_cells h) h
 obtain ⟨ks, k1, k2⟩ := choose_rows xs h4
 have h1 : [Value.slice a0 len0 cap0] = [.slice lo xs.length lc] := h1
 injection h1 with h1
 exact ⟨lo, ks, lc, by rw [h1, k1], by rw [k1]; exact h2, ⟨xs, k1.symm, h3, fun j a b => (k2 j a b).1⟩, fun j h => (k2 j (by omega) h).2⟩
set_option maxRecDepth 100000 in
theorem open_las {b0 : Nat} {v : Value} {d : DataW H} {ps : List MemPlace} (hv : Value.okWide Try.prog W .any b0 23 v) (hd : DataW.Trod enc Try.prog W 0 (fun _ => true) true 23 v d ps) :
  ∃ (lo : Option Addr) (ks : List LA) (lc : Nat), v = .slice lo ks.length lc ∧ ks.length ≤ 9223372036854775807 ∧ IsLAs W lo ks ∧ ∀ j (h : j < ks.length), ks[j].p.length ≤ 9223372036854775807 ∧ ks[j].r.length ≤ 9223372036854775807 := by
 obtain ⟨a0, len0, cap0, rfl⟩ := okWide_slice Try.underlying23 hv
 obtain ⟨fuel, h⟩ := hd
 obtain ⟨lo, xs, lc, h1, h2, h3, h4⟩ := open_rowsG (α := L3) Try.underlying23 c_lA L3.cells (fun _ => rfl) (by decide) (OkLA W) (fun f cs x h => actS_cells h) h
 obtain ⟨ks, k1, k2⟩ := choose_rows xs h4
 have h1 : [Value.slice a0 len0 cap0] = [.slice lo xs.length lc] := h1
 injection h1 with h1
 exact ⟨lo, ks, lc, by rw [h1, k1], by rw [k1]; exact h2, ⟨xs, k1.symm, h3, fun j a b => (k2 j a b).1⟩, fun j h => (k2 j (by omega) h).2⟩
end
end Go.Proofs.Ytagnbpobcijakaa
