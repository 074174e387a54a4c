/-
  chancellaw7.PackBounds: what its cases make, and the errors that they meet.
-/
import Derived.Test.YtkeljejddfpnmaaDoorPkL
namespace Go.Proofs.YtkeljejddfpnmaaDoor
open Go.RowKit Go.Sort

theorem made_toList (z : Value) (n : Nat) : (madeCells #[z] n).toList = List.replicate n z := by
  apply List.ext_getElem
  · simp [madeCells]
  · intro i h1 h2
    simp [madeCells, Nat.mod_one]
theorem u8s_zeros (n : Nat) : u8s (List.replicate n 0) = List.replicate n (.int .u8 0) := by simp [u8s]
theorem make_run (t e : TypeId) (z : Value) (by_ : Nat) (ht : Tryd.prog.underlying t = some (.slice e)) (hi : (Tryd.prog.info? e).map (fun i => (i.zero, i.size, i.bytes)) = some (some z, 1, by_)) (hz : z.cells = #[z]) (n : Nat) (N : Int) (hN : N = (n : Int)) (hn : n ≤ 1000000) (hb : by_ ≤ 1000) (W : World) :
    (Instr.makeSlice t (.int .i64 N) (.int .i64 N)).run Tryd.prog W = .ok (.slice (some ⟨W.heap.size, 0, none⟩) n n) (W.alloc (.cells (List.replicate n z).toArray e)) := by
  cases h : Tryd.prog.info? e with
  | none => rw [h] at hi; cases hi
  | some i =>
    rw [h] at hi
    simp only [Option.map_some, Option.some.injEq, Prod.mk.injEq] at hi
    obtain ⟨h1, h2, h3⟩ := hi
    have hbb : (by_ : Int) * N ≤ 281474976710656 := by
      have := Nat.mul_le_mul hb hn
      rw [hN]
      omega
    have := run_make (P := Tryd.prog) W t e i z ht h h1 .i64 .i64 N N (by omega) (Int.le_refl _) (by rw [h3]; exact hbb) (by omega)
    rw [this, h2, hN, hz]
    simp only [Int.toNat_natCast, Nat.mul_one]
    rw [← made_toList]
theorem infoIz : (Tryd.prog.info? 3).map (fun i => (i.zero, i.size, i.bytes)) = some (some (.int .i64 0), 1, 8) := by kernel_rfl
theorem infoSz : (Tryd.prog.info? 24).map (fun i => (i.zero, i.size, i.bytes)) = some (some (.slice none 0 0), 1, 24) := by kernel_rfl
theorem made_bytes {w : World} {g n : Nat} {T : TypeId} {fr : Nat × Nat} (h : w.heap[g]? = some (.cells (List.replicate n (.int .u8 0)).toArray T fr)) : BRow w (some ⟨g, 0, none⟩) (List.replicate n 0) := by
  rw [← u8s_zeros] at h
  exact row_of_block h
theorem cmd_err (c : C5) (w : World) : Calls Tryd.prog 7 #[c.val] w fun e w' => ∃ v, e = .returned (.tuple #[v, .int .i64 (errC c)]) ∧ Below w.heap.size w w' := by
  by_cases he : errC c = 0
  · exact (cmd_ok c w he).mono fun e w' ⟨g, h1, _, h3, _⟩ => ⟨_, by rw [he]; exact h1, h3⟩
  · exact (cmd_bad c w he).mono fun e w' ⟨h1, h2⟩ => ⟨_, h1, h2⟩
theorem frame_err (n : Nat) (g cap : Nat) (w : World) (hn : n ≤ 100000) (h : BRow w (some ⟨g, 0, none⟩) (List.replicate n 0)) (hT : Half w) :
    Calls Tryd.prog 12 #[.slice (some ⟨g, 0, none⟩) n cap] w fun e w' => ∃ v, e = .returned (.tuple #[v, .int .i64 (if 65000 < n then 5 else 0)]) ∧ Below w.heap.size w w' := by
  by_cases h6 : 65000 < n
  · rw [if_pos h6]
    have := frame_long (List.replicate n 0) (some ⟨g, 0, none⟩) cap w (by simpa using h6)
    rw [List.length_replicate] at this
    exact this.mono fun e w' ⟨h1, h2⟩ => ⟨_, h1, by rw [h2]; exact Below.refl _ w⟩
  · rw [if_neg h6]
    have := frame_any (List.replicate n 0) (some ⟨g, 0, none⟩) cap w (by simp; omega) h hT
    rw [List.length_replicate] at this
    exact this.mono fun e w' ⟨h1, h2, _⟩ => ⟨_, h1, h2⟩
/-- How a case ends. -/
def EndsAs (j : Nat) (E want : Int) : Prop := (j ≤ 1 ∧ E = 0) ∨ (2 ≤ j ∧ E = want)
end Go.Proofs.YtkeljejddfpnmaaDoor
