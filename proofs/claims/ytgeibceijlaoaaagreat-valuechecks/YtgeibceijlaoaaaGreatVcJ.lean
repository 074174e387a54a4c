/-
  value.Set: where a kind is not the first one's, or a set's.
-/
import Derived.Test.YtgeibceijlaoaaaGreatVcI
namespace Go.Proofs.YtgeibceijlaoaaaGreat
open Go.RowKit Go.Sort

/-- The cells of a slice of values. -/
def RowV (w : World) (ao : Option Addr) (l : List R7) : Prop :=
  ∀ j (hj : j < l.length), ∃ b off, ao = some ⟨b, off, none⟩ ∧ b < w.heap.size ∧ ∀ c v, l[j].cells[c]? = some v → w.cell? ⟨b, off + j * 7 + c, none⟩ = some v

theorem RowV.below {w w' : World} {ao : Option Addr} {l : List R7} (h : RowV w ao l) (hb : Below w.heap.size w w') : RowV w' ao l := by
  intro j hj
  obtain ⟨b, off, e, hlt, hc⟩ := h j hj
  have := hb.size
  exact ⟨b, off, e, by omega, fun c v hv => (hb.cell (p := ⟨b, off + j * 7 + c, none⟩) hlt).trans (hc c v hv)⟩

/-- An element's seven cells. -/
structure At7 (w : World) (b o : Nat) (r : R7) : Prop where
  c0 : w.cell? ⟨b, o, none⟩ = some (.int .i64 r.k)
  c1 : w.cell? ⟨b, o + 1, none⟩ = some (.bool r.b)
  c2 : w.cell? ⟨b, o + 2, none⟩ = some (.int .i64 r.n)
  c3 : w.cell? ⟨b, o + 3, none⟩ = some (.string r.s)
  c4 : w.cell? ⟨b, o + 4, none⟩ = some (.string r.t)
  c5 : w.cell? ⟨b, o + 5, none⟩ = some (.string r.i)
  c6 : w.cell? ⟨b, o + 6, none⟩ = some (.slice r.lo r.ll r.lc)

theorem At7.below {w w' : World} {b o B : Nat} {r : R7} (h : At7 w b o r) (hb : Below B w w') (hlt : b < B) : At7 w' b o r :=
  ⟨(hb.cell (p := ⟨b, o, none⟩) hlt).trans h.c0, (hb.cell (p := ⟨b, o + 1, none⟩) hlt).trans h.c1, (hb.cell (p := ⟨b, o + 2, none⟩) hlt).trans h.c2, (hb.cell (p := ⟨b, o + 3, none⟩) hlt).trans h.c3, (hb.cell (p := ⟨b, o + 4, none⟩) hlt).trans h.c4, (hb.cell (p := ⟨b, o + 5, none⟩) hlt).trans h.c5, (hb.cell (p := ⟨b, o + 6, none⟩) hlt).trans h.c6⟩

/-- .. in every world that a region may be in. -/
structure At7G (w : World) (b o : Nat) (r : R7) : Prop where
  c0 : ∀ d os, (grow (redrawn w d) os).cell? ⟨b, o, none⟩ = some (.int .i64 r.k)
  c1 : ∀ d os, (grow (redrawn w d) os).cell? ⟨b, o + 1, none⟩ = some (.bool r.b)
  c2 : ∀ d os, (grow (redrawn w d) os).cell? ⟨b, o + 2, none⟩ = some (.int .i64 r.n)
  c3 : ∀ d os, (grow (redrawn w d) os).cell? ⟨b, o + 3, none⟩ = some (.string r.s)
  c4 : ∀ d os, (grow (redrawn w d) os).cell? ⟨b, o + 4, none⟩ = some (.string r.t)
  c5 : ∀ d os, (grow (redrawn w d) os).cell? ⟨b, o + 5, none⟩ = some (.string r.i)
  c6 : ∀ d os, (grow (redrawn w d) os).cell? ⟨b, o + 6, none⟩ = some (.slice r.lo r.ll r.lc)

theorem At7.up {w : World} {b o : Nat} {r : R7} (h : At7 w b o r) : At7G w b o r :=
  ⟨cell_regrown h.c0, cell_regrown h.c1, cell_regrown h.c2, cell_regrown h.c3, cell_regrown h.c4, cell_regrown h.c5, cell_regrown h.c6⟩

theorem rowV_at {w2 wr : World} {ao : Option Addr} {l : List R7} (h : RowV w2 ao l) (hbw : Below w2.heap.size w2 wr) {j : Nat} (hj : j < l.length) :
    ∃ b off, ao = some ⟨b, off, none⟩ ∧ At7 wr b (off + j * 7) l[j] ∧ b < w2.heap.size := by
  obtain ⟨b, off, e, hb, hc⟩ := h j hj
  have hc' : ∀ c v, l[j].cells[c]? = some v → wr.cell? ⟨b, off + j * 7 + c, none⟩ = some v := fun c v hv => (hbw.cell (p := ⟨b, off + j * 7 + c, none⟩) hb).trans (hc c v hv)
  exact ⟨b, off, e, ⟨hc' 0 _ rfl, hc' 1 _ rfl, hc' 2 _ rfl, hc' 3 _ rfl, hc' 4 _ rfl, hc' 5 _ rfl, hc' 6 _ rfl⟩, hb⟩

theorem at7_new (w : World) (r : R7) : At7 (w.alloc (.cells #[.int .i64 r.k, .bool r.b, .int .i64 r.n, .string r.s, .string r.t, .string r.i, .slice r.lo r.ll r.lc] 26)) w.heap.size 0 r :=
  ⟨by simp, by simp, by simp, by simp, by simp, by simp, by simp⟩

theorem set7_below {B b : Nat} {a w : World} (h : Below B a w) (hb : B ≤ b) (v0 v1 v2 v3 v4 v5 v6 : Value) :
    Below B a (((((((w.setCell ⟨b, 0, none⟩ v0).setCell ⟨b, 1, none⟩ v1).setCell ⟨b, 2, none⟩ v2).setCell ⟨b, 3, none⟩ v3).setCell ⟨b, 4, none⟩ v4).setCell ⟨b, 5, none⟩ v5).setCell ⟨b, 6, none⟩ v6) :=
  ((((((h.setCell (p := ⟨b, 0, none⟩) hb _).setCell (p := ⟨b, 1, none⟩) hb _).setCell (p := ⟨b, 2, none⟩) hb _).setCell (p := ⟨b, 3, none⟩) hb _).setCell (p := ⟨b, 4, none⟩) hb _).setCell (p := ⟨b, 5, none⟩) hb _).setCell (p := ⟨b, 6, none⟩) hb _

def zero7 : R7 := ⟨0, false, 0, ba [], ba [], ba [], none, 0, 0⟩

set_option maxHeartbeats 2000000 in
set_option maxRecDepth 100000 in
theorem set_bad (l : List R7) (ao : Option Addr) (ca : Nat) (w : World) (hl : l.length ≤ 1048576) (hr : RowV w ao l) (h0 : 0 < l.length) (hbad : ∃ (j : Nat) (hj : j < l.length), mayB l[j].k l[0].k = false) :
    Calls Tryz.prog 25 #[.slice ao l.length ca] w fun e w' => e = .returned (.tuple #[zero7.val, .int .i64 16]) ∧ Below w.heap.size w w' := by
  go_enter Tryz.func25, Tryz.ntmps25
  go_wp2
  generalize hw2 : w.alloc _ = w2
  have b02 : Below w.heap.size w w2 := by rw [← hw2]; exact below1 _ _
  have z2 : w2.heap.size = w.heap.size + 1 := by rw [← hw2]; simp
  have Hw2 := hide hw2
  clear hw2
  have hr2 := hr.below b02
  go_loopw [13] (fun iv wr => ∃ i : Nat, iv = .int .i64 i ∧ i ≤ l.length ∧ Below w2.heap.size w2 wr ∧ (∀ k (hk : k < l.length), k < i → mayB l[k].k l[0].k = true)) (fun iv _ => l.length - (intOf iv).toNat)
  case atStart => exact ⟨0, by go_num, Nat.zero_le _, Below.refl _ _, fun k _ h => absurd h (Nat.not_lt_zero _)⟩
  case round =>
    obtain ⟨j, rfl, hj, hbw, hacc⟩ := hrel
    have Hacc := hide hacc
    clear hacc
    have hlt : j < l.length := by
      rcases Nat.lt_or_ge j l.length with h | h
      · exact h
      · obtain ⟨k, hk, hb⟩ := hbad
        rw [unhide Hacc k hk (by omega)] at hb
        cases hb
    have i1 : (j : Int) < (l.length : Int) := by omega
    have i0 : (0 : Int) < (l.length : Int) := by omega
    obtain ⟨b, off, rfl, A, hb⟩ := rowV_at hr2 hbw hlt
    obtain ⟨b', off', e', A0, _⟩ := rowV_at hr2 hbw h0
    cases e'
    rw [Nat.zero_mul, Nat.add_zero] at A0
    obtain ⟨r, er⟩ : ∃ r, r = l[j] := ⟨_, rfl⟩
    obtain ⟨r0, er0⟩ : ∃ r0, r0 = l[0] := ⟨_, rfl⟩
    rw [← er] at A
    rw [← er0] at A0
    have M := mayStandBy_any r r0
    unfold R7.val at M
    obtain ⟨x, hx⟩ : ∃ x, x = mayB r.k r0.k := ⟨_, rfl⟩
    rw [← hx] at M
    have HN := hide (show x = true → ∀ k (hk : k < l.length), k < j + 1 → mayB l[k].k l[0].k = true from fun h k hk hk' => by
      by_cases e : k = j
      · subst e
        rw [← er, ← er0, ← hx]
        exact h
      · exact unhide Hacc k hk (by omega))
    clear hx er er0 Hacc
    obtain ⟨a0, a1, a2, a3, a4, a5, a6⟩ := A
    go_wp2_with fail
    have A3 := (at7_new wr r).up
    have b3 : Below w2.heap.size w2 (wr.alloc (.cells #[.int .i64 r.k, .bool r.b, .int .i64 r.n, .string r.s, .string r.t, .string r.i, .slice r.lo r.ll r.lc] 26)) := hbw.alloc hbw.size _
    have z0 := (A0.below (below1 wr (.cells #[.int .i64 r.k, .bool r.b, .int .i64 r.n, .string r.s, .string r.t, .string r.i, .slice r.lo r.ll r.lc] 26)) (by have := hbw.size; omega)).up
    clear a0 a1 a2 a3 a4 a5 a6 A0
    generalize wr.alloc _ = w3 at *
    obtain ⟨a0, a1, a2, a3, a4, a5, a6⟩ := A3
    obtain ⟨e0, e1, e2, e3, e4, e5, e6⟩ := z0
    have cS := fun d os => Calls.regrown_of (w := w3) (d := d) (os := os) (M (grow (redrawn w3 d) os))
    clear M
    refine wp_region_quiet_below (by kernel_rfl) (by kernel_rfl) ?_
    repeat (quiet_step (exact cS _ _))
    refine wpQuiet_nil ?_
    intro _ hw'
    obtain ⟨⟨dq, osq⟩, hw''⟩ := hw'
    subst hw''
    have b4 : Below w2.heap.size w2 (grow (redrawn w3 dq) osq) := b3.trans ((below_regrown w3 dq osq).mono b3.size)
    generalize grow (redrawn w3 dq) osq = w4 at *
    clear a0 a1 a2 a3 a4 a5 a6 e0 e1 e2 e3 e4 e5 e6 cS b3
    cases x
    · -- another kind
      have hc : ∀ o, (w4.cell? ⟨w.heap.size, o, none⟩) = w2.cell? ⟨w.heap.size, o, none⟩ := fun o => b4.cell (p := ⟨w.heap.size, o, none⟩) (by show w.heap.size < _; omega)
      have hf : ∀ o, (w4.frozen? ⟨w.heap.size, o, none⟩) = w2.frozen? ⟨w.heap.size, o, none⟩ := fun o => b4.frozen (p := ⟨w.heap.size, o, none⟩) (by show w.heap.size < _; omega)
      rw [← unhide Hw2] at hc hf
      go_wp2
      exact bodyPost_ret (v := .tuple #[.agg #[.int .i64 0, .bool false, .int .i64 0, .string ⟨#[]⟩, .string ⟨#[]⟩, .string ⟨#[]⟩, .slice none 0 0], .int .i64 16]) (by simp [results, Tryz.results25, go_sem, hc]) rfl ⟨rfl, set7_below (b02.trans (b4.mono b02.size)) (Nat.le_refl _) _ _ _ _ _ _ _⟩
    · go_wp2
      go_roundw
      case rel => exact ⟨j + 1, by go_num, by omega, b4, unhide HN rfl⟩
      case measure =>
        simp only [intOf]
        omega
end Go.Proofs.YtgeibceijlaoaaaGreat
