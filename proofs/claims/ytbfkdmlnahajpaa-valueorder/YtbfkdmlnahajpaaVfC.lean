/-
  chancellaw3.Good: what it returns, whatever its kind.
-/
import Derived.Test.YtbfkdmlnahajpaaVfB
namespace Go.Proofs.Ytbfkdmlnahajpaa
open Go.RowKit Go.Sort

set_option maxHeartbeats 4000000 in
set_option maxRecDepth 1000000 in
theorem good3_plain (r : RawE) (lo : Option Addr) (ll lc : Nat) (w : World) (hr : r.Ok w) (p : Nat) (hp1 : 1 ≤ p) (hp4 : p ≤ 4) (hp : 1 + r.k % 5 = (p : Int)) :
    Calls Try.prog 6 #[.agg #[.int .i64 r.k, .int .i64 r.n, .slice r.so r.xs.length r.sc, .slice lo ll lc]] w fun e w' => Below w.heap.size w w' ∧ e = .returned (ofP (plainV p r.n r.xs)).val := by
  have W1 := within3_any r.k 5 (by decide) (by decide)
  have hp5 : (p : Int) < 5 := by omega
  have PL0 := fun w' hz => plain3_any p hp1 hp4 r.k r.n r.xs r.so r.sc lo ll lc w' hr.len hr.cap hz
  obtain ⟨x, hx⟩ : ∃ x, x = ofP (plainV p r.n r.xs) := ⟨_, rfl⟩
  rw [← hx] at PL0 ⊢
  clear hx
  go_enter Try.func6, Try.ntmps6
  go_wp2_with fail
  have b2 := below2 w (.cells #[.int .i64 r.k, .int .i64 r.n, .slice r.so r.xs.length r.sc, .slice lo ll lc] 25) (.cells #[.int .i64 0, .bool false, .int .i64 0, .string ⟨#[]⟩, .string ⟨#[]⟩, .string ⟨#[]⟩, .slice none 0 0] 31)
  have PL := PL0 _ (hr.ints.below b2)
  clear PL0
  generalize hw2 : (w.alloc (.cells #[.int .i64 r.k, .int .i64 r.n, .slice r.so r.xs.length r.sc, .slice lo ll lc] 25)).alloc (.cells #[.int .i64 0, .bool false, .int .i64 0, .string ⟨#[]⟩, .string ⟨#[]⟩, .string ⟨#[]⟩, .slice none 0 0] 31) = w2 at *
  have Z2 := hide (show w2.heap.size = w.heap.size + 2 by rw [← hw2]; simp)
  have x0 : w2.cell? ⟨w.heap.size, 0, none⟩ = some (.int .i64 r.k) := by rw [← hw2]; simp
  have x1 : w2.cell? ⟨w.heap.size, 1, none⟩ = some (.int .i64 r.n) := by rw [← hw2]; simp
  have x2 : w2.cell? ⟨w.heap.size, 2, none⟩ = some (.slice r.so r.xs.length r.sc) := by rw [← hw2]; simp
  have x3 : w2.cell? ⟨w.heap.size, 3, none⟩ = some (.slice lo ll lc) := by rw [← hw2]; simp
  have Hw2 := hide hw2
  clear hw2
  refine (W1 _).mono ?_
  rintro e w1 ⟨rfl, rfl⟩
  clear W1
  go_wp2_with fail
  refine PL.mono ?_
  clear PL
  rintro e w3 ⟨rfl, b3⟩
  have hc : ∀ o, w3.cell? ⟨w.heap.size + 1, o, none⟩ = w1.cell? ⟨w.heap.size + 1, o, none⟩ := fun o => b3.cell (p := ⟨w.heap.size + 1, o, none⟩) (by have := unhide Z2; show w.heap.size + 1 < _; omega)
  have hf : ∀ o, w3.frozen? ⟨w.heap.size + 1, o, none⟩ = w1.frozen? ⟨w.heap.size + 1, o, none⟩ := fun o => b3.frozen (p := ⟨w.heap.size + 1, o, none⟩) (by have := unhide Z2; show w.heap.size + 1 < _; omega)
  rw [← unhide Hw2] at hc hf
  have b03 := b2.trans (b3.mono b2.size)
  clear x0 x1 x2 x3 b3
  unfold R7.val
  go_wp2
  exact bodyPost_ret (v := .agg #[.int .i64 x.k, .bool x.b, .int .i64 x.n, .string x.s, .string x.t, .string x.i, .slice x.lo x.ll x.lc]) (by simp [results, Try.results6, go_sem, hc]) rfl ⟨set7_below b03 (Nat.le_succ _) _ _ _ _ _ _ _, rfl⟩

/-- A value as the program holds it. -/
def IsG (w : World) : GV → R7 → Prop
  | .pl p, R => R = ofP p
  | .set l, R => ∃ ao c, R = setR ao l.length c ∧ RowV w ao (l.map ofP) ∧ ∀ ad, ao = some ad → ad.off = 0

theorem IsG.below {w w' : World} {g : GV} {R : R7} (h : IsG w g R) (hb : Below w.heap.size w w') : IsG w' g R := by
  cases g with
  | pl p => exact h
  | set l =>
    obtain ⟨ao, c, e, hr, ho⟩ := h
    exact ⟨ao, c, e, hr.below hb, ho⟩

/-- What Good makes. -/
def goodG (r : RawE) (es : List RawE) : GV := if r.k % 5 = 4 then .set (setOf lessP (goodL r.k es)) else .pl (plainV (1 + r.k % 5).toNat r.n r.xs)

theorem good3_any (r : RawE) (lo : Option Addr) (es : List RawE) (lc : Nat) (w : World) (hr : r.Ok w) (hl : es.length ≤ 9223372036854775807) (hs : RowRaw w lo es) :
    Calls Try.prog 6 #[.agg #[.int .i64 r.k, .int .i64 r.n, .slice r.so r.xs.length r.sc, .slice lo es.length lc]] w fun e w' => Below w.heap.size w w' ∧ ∃ R, e = .returned R.val ∧ IsG w' (goodG r es) R := by
  have h0 := Int.emod_nonneg r.k (show (5 : Int) ≠ 0 by decide)
  have h1 := Int.emod_lt_of_pos r.k (show (0 : Int) < 5 by decide)
  unfold goodG
  by_cases h5 : r.k % 5 = 4
  · rw [if_pos h5]
    refine (good3_set r lo es lc w hl hs h5).mono ?_
    rintro e w' ⟨hb, ao, c, he, hrow, ho⟩
    exact ⟨hb, _, he, ao, c, rfl, hrow, ho⟩
  · rw [if_neg h5]
    refine (good3_plain r lo es.length lc w hr (1 + r.k % 5).toNat (by omega) (by omega) (by omega)).mono ?_
    rintro e w' ⟨hb, he⟩
    exact ⟨hb, _, he, rfl⟩
end Go.Proofs.Ytbfkdmlnahajpaa
