/-
  ents.Get: what it returns.
-/
import Derived.Test.YtifkkhngibjalaaEcE
namespace Go.Proofs.Ytifkkhngibjalaa
open Go.RowKit Go.Sort

def getP (l : List (ByteArray × GV)) (nm : ByteArray) : Option (ByteArray × GV) := l.find? fun a => decide (a.1 = nm)
/-- What is told of an attribute. -/
def GetPost (B : Nat) (o : Option (ByteArray × GV)) (x : Ending) (w' : World) : Prop :=
  match o with
  | some a => ∃ R : R7, x = .returned (.tuple #[R.val, .bool true]) ∧ IsGP w' (fun b => B ≤ b) a.2 R
  | none => x = .returned (.tuple #[zero7.val, .bool false])

set_option maxHeartbeats 4000000 in
set_option maxRecDepth 1000000 in
theorem get_any (e : E4) (p : EntP) (nm : ByteArray) (P : Nat → Prop) (w : World) (H : IsEnt w P e p) (hf : p.fits) :
    Calls Try.prog 9 #[e.val, .string nm] w fun x w' => Below w.heap.size w w' ∧ GetPost w.heap.size (getP p.ats nm) x w' := by
  obtain ⟨et, ei, po, m, pc, ao, n, ac⟩ := e
  obtain ⟨rs, hal, hrA, hdrop, hAs⟩ := H.ats
  simp only at hal hrA
  have hn : n ≤ 1048576 := by rw [hal, hAs.1]; exact hf.2.1
  have HF := hide hf.2.2
  have HAs := hide hAs
  have HAL := hide hal
  have HRA := hide hrA
  clear H hdrop hf hAs hal hrA
  have b2 := below2 w (.cells #[.string et, .string ei, .slice po m pc, .slice ao n ac] 34) (.cells #[.int .i64 0, .bool false, .int .i64 0, .string ⟨#[]⟩, .string ⟨#[]⟩, .string ⟨#[]⟩, .slice none 0 0] 38)
  unfold E4.val
  simp only
  go_enter Try.func9, Try.ntmps9
  go_wp2
  generalize hw2 : (w.alloc _).alloc _ = w2 at *
  have z2 : w2.heap.size = w.heap.size + 2 := by rw [← hw2]; simp
  have H2 : w2.heap[w.heap.size + 1]? = some (.cells #[.int .i64 0, .bool false, .int .i64 0, .string ⟨#[]⟩, .string ⟨#[]⟩, .string ⟨#[]⟩, .slice none 0 0] 38 (0, 0)) := by
    rw [← hw2]
    have := alloc_heap (w.alloc (.cells #[.string et, .string ei, .slice po m pc, .slice ao n ac] 34)) (.cells #[.int .i64 0, .bool false, .int .i64 0, .string ⟨#[]⟩, .string ⟨#[]⟩, .string ⟨#[]⟩, .slice none 0 0] 38)
    rwa [size1] at this
  clear hw2
  go_loopw [11] (fun iv wr => ∃ j : Nat, j ≤ n ∧ iv = .int .i64 j ∧ Below w.heap.size w wr ∧ w2.heap.size ≤ wr.heap.size ∧ wr.heap[w.heap.size + 1]? = some (.cells #[.int .i64 0, .bool false, .int .i64 0, .string ⟨#[]⟩, .string ⟨#[]⟩, .string ⟨#[]⟩, .slice none 0 0] 38 (0, 0)) ∧ getP p.ats nm = getP (p.ats.drop j) nm) (fun iv _ => n - (intOf iv).toNat)
  case atStart => exact ⟨0, Nat.zero_le _, rfl, b2, Nat.le_refl _, H2, rfl⟩
  case round =>
    obtain ⟨j, hj, rfl, hbw, hsz, h2, hget⟩ := hrel
    have Hget := hide hget
    clear hget
    have d0 : wr.cell? ⟨w.heap.size + 1, 0, none⟩ = some (.int .i64 0) := by rw [Lib.cell_of_heap h2]; rfl
    have d1 : wr.cell? ⟨w.heap.size + 1, 1, none⟩ = some (.bool false) := by rw [Lib.cell_of_heap h2]; rfl
    have d2 : wr.cell? ⟨w.heap.size + 1, 2, none⟩ = some (.int .i64 0) := by rw [Lib.cell_of_heap h2]; rfl
    have d3 : wr.cell? ⟨w.heap.size + 1, 3, none⟩ = some (.string ⟨#[]⟩) := by rw [Lib.cell_of_heap h2]; rfl
    have d4 : wr.cell? ⟨w.heap.size + 1, 4, none⟩ = some (.string ⟨#[]⟩) := by rw [Lib.cell_of_heap h2]; rfl
    have d5 : wr.cell? ⟨w.heap.size + 1, 5, none⟩ = some (.string ⟨#[]⟩) := by rw [Lib.cell_of_heap h2]; rfl
    have d6 : wr.cell? ⟨w.heap.size + 1, 6, none⟩ = some (.slice none 0 0) := by rw [Lib.cell_of_heap h2]; rfl
    have df : ∀ o, wr.frozen? ⟨w.heap.size + 1, o, none⟩ = false := fun o => Lib.frozen_of_heap h2 o
    by_cases hlt : j < n
    · have i1 : (j : Int) < (n : Int) := by omega
      have hjr : j < rs.length := by rw [← unhide HAL]; exact hlt
      have hja : j < p.ats.length := by rw [← (unhide HAs).1]; exact hjr
      obtain ⟨g, off, rfl, hg, hcell⟩ := rowG_at (unhide HRA) hbw hjr
      have A := AtA.of hcell
      obtain ⟨hnm, hIG⟩ := (unhide HAs).2 j hjr hja
      have hGl := unhide HF p.ats[j] (List.getElem_mem _)
      have hdr : p.ats.drop j = p.ats[j] :: p.ats.drop (j + 1) := List.drop_eq_getElem_cons hja
      obtain ⟨x, hx⟩ : ∃ x, x = rs[j] := ⟨_, rfl⟩
      rw [← hx] at A hnm hIG
      have HIG := hide hIG.1
      have Hnm := hide hnm
      have Hdr := hide hdr
      clear hcell hx hIG hnm hdr
      obtain ⟨xn, xv⟩ := x
      have A5 : AtA (wr.alloc (.cells #[.string xn, .int .i64 xv.k, .bool xv.b, .int .i64 xv.n, .string xv.s, .string xv.t, .string xv.i, .slice xv.lo xv.ll xv.lc] 41)) wr.heap.size 0 ⟨xn, xv⟩ := ⟨by simp, by simp, by simp, by simp, by simp, by simp, by simp, by simp⟩
      have b5 := below1 wr (.cells #[.string xn, .int .i64 xv.k, .bool xv.b, .int .i64 xv.n, .string xv.s, .string xv.t, .string xv.i, .slice xv.lo xv.ll xv.lc] 41)
      have bw5 := hbw.trans (b5.mono hbw.size)
      have z5 := size1 wr (.cells #[.string xn, .int .i64 xv.k, .bool xv.b, .int .i64 xv.n, .string xv.s, .string xv.t, .string xv.i, .slice xv.lo xv.ll xv.lc] 41)
      obtain ⟨a0, a1, a2, a3, a4, a5, a6, a7⟩ := A
      simp only at a0 a1 a2 a3 a4 a5 a6 a7
      by_cases hq : xn = nm
      · subst hq
        have CV := copyValue_any p.ats[j].2 xv _ (IsG.below (IsG.below (unhide HIG) hbw) b5) hGl
        unfold R7.val at CV
        have HG : Hid (getP p.ats xn = some p.ats[j]) := hide (by
          rw [unhide Hget, unhide Hdr, getP, List.find?_cons]
          have : decide (p.ats[j].1 = xn) = true := decide_eq_true (unhide Hnm).symm
          rw [this])
        have H2' := kept_of_below b5 h2
        clear d0 d1 d2 d3 d4 d5 d6 df h2
        go_wp2_with fail
        clear a0 a1 a2 a3 a4 a5 a6 a7 A5
        generalize wr.alloc _ = w5 at *
        refine CV.mono ?_
        rintro e w6 ⟨y, rfl, b6, hy⟩
        have H2'' := kept_of_below b6 H2'
        have d0 : w6.cell? ⟨w.heap.size + 1, 0, none⟩ = some (.int .i64 0) := by rw [Lib.cell_of_heap H2'']; rfl
        have d1 : w6.cell? ⟨w.heap.size + 1, 1, none⟩ = some (.bool false) := by rw [Lib.cell_of_heap H2'']; rfl
        have d2 : w6.cell? ⟨w.heap.size + 1, 2, none⟩ = some (.int .i64 0) := by rw [Lib.cell_of_heap H2'']; rfl
        have d3 : w6.cell? ⟨w.heap.size + 1, 3, none⟩ = some (.string ⟨#[]⟩) := by rw [Lib.cell_of_heap H2'']; rfl
        have d4 : w6.cell? ⟨w.heap.size + 1, 4, none⟩ = some (.string ⟨#[]⟩) := by rw [Lib.cell_of_heap H2'']; rfl
        have d5 : w6.cell? ⟨w.heap.size + 1, 5, none⟩ = some (.string ⟨#[]⟩) := by rw [Lib.cell_of_heap H2'']; rfl
        have d6 : w6.cell? ⟨w.heap.size + 1, 6, none⟩ = some (.slice none 0 0) := by rw [Lib.cell_of_heap H2'']; rfl
        have df : ∀ o, w6.frozen? ⟨w.heap.size + 1, o, none⟩ = false := fun o => Lib.frozen_of_heap H2'' o
        have bw6 := bw5.trans (b6.mono bw5.size)
        have Hb := hide (below_setCells (b := w.heap.size + 1) y.cells 0 w6 bw6 (Nat.le_succ _))
        have Hy := hide (hy.turn (w' := w6.setCells (w.heap.size + 1) 0 y.cells) (P' := fun b => w.heap.size ≤ b) (by rw [size_setCells]; exact Nat.le_refl _) (fun b hb _ => ⟨heap_setCells (by omega) _ _ _, by have := hbw.size; omega⟩))
        clear CV hy H2' H2''
        go_wp2
        refine bodyPost_ret (v := .tuple #[.agg #[.int .i64 y.k, .bool y.b, .int .i64 y.n, .string y.s, .string y.t, .string y.i, .slice y.lo y.ll y.lc], .bool true]) (by simp [results, Try.results9, go_sem, d0, d1, d2, d3, d4, d5, d6]) rfl ⟨unhide Hb, ?_⟩
        unfold GetPost
        rw [unhide HG]
        exact ⟨y, rfl, unhide Hy⟩
      · have hb : (xn.toList == nm.toList) = false := bytes_ne hq
        have HG : Hid (getP p.ats nm = getP (p.ats.drop (j + 1)) nm) := hide (by
          rw [unhide Hget, unhide Hdr, getP, List.find?_cons]
          have : decide (p.ats[j].1 = nm) = false := decide_eq_false (by rw [← unhide Hnm]; exact hq)
          rw [this]
          rfl)
        have H2' := hide (kept_of_below b5 h2)
        clear d0 d1 d2 d3 d4 d5 d6 df h2 hq
        go_wp2
        go_roundw
        case rel => exact ⟨j + 1, by omega, by go_num, bw5, by omega, unhide H2', unhide HG⟩
        case measure =>
          simp only [intOf]
          omega
    · obtain rfl : j = n := by omega
      have i1 : ¬ (j : Int) < (j : Int) := by omega
      have HG : Hid (getP p.ats nm = none) := hide (by
        rw [unhide Hget, List.drop_eq_nil_of_le (by rw [← (unhide HAs).1, ← unhide HAL]; exact Nat.le_refl _)]
        rfl)
      have Hb := hide (below_setCells (b := w.heap.size + 1) zero7.cells 0 wr hbw (Nat.le_succ _))
      clear h2
      go_wp2
      refine bodyPost_ret (v := .tuple #[.agg #[.int .i64 0, .bool false, .int .i64 0, .string ⟨#[]⟩, .string ⟨#[]⟩, .string ⟨#[]⟩, .slice none 0 0], .bool false]) (by simp [results, Try.results9, go_sem, d0, d1, d2, d3, d4, d5, d6]) rfl ⟨unhide Hb, ?_⟩
      unfold GetPost
      rw [unhide HG]
      rfl
end Go.Proofs.Ytifkkhngibjalaa
