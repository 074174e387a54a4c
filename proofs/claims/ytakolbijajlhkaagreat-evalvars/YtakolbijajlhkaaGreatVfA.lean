/-
  chancelref3.Set of plain values of one kind.
-/
import Derived.Test.YtakolbijajlhkaaGreatVfP
import Derived.Deep.Cut
namespace Go.Proofs.YtakolbijajlhkaaGreat
open Go.RowKit Go.Sort

theorem len_ins_le (q : PV) : ∀ S : List PV, (ins lessP q S).length ≤ S.length + 1
  | [] => by simp [ins]
  | y :: S => by
    have := len_ins_le q S
    unfold ins
    split
    · simpa using this
    · split
      · simp
      · simp
theorem len_fold_le : ∀ (l S : List PV), (l.foldl (fun acc x => ins lessP x acc) S).length ≤ S.length + l.length
  | [], S => by simp
  | x :: l, S => by
    have h1 := len_fold_le l (ins lessP x S)
    have h2 := len_ins_le x S
    simp only [List.foldl_cons, List.length_cons]
    omega
theorem len_setOf_le (l : List PV) : (setOf lessP l).length ≤ l.length := by
  have := len_fold_le l []
  simpa [setOf] using this

theorem cell_lt7 {w : World} {b o : Nat} {v : Value} (h : w.cell? ⟨b, o, none⟩ = some v) : b < w.heap.size := by
  rcases Nat.lt_or_ge b w.heap.size with hl | hl
  · exact hl
  · unfold World.cell? at h
    rw [Array.getElem?_eq_none hl] at h
    cases h

theorem own_cap {w : World} {B : Nat} {ao : Option Addr} {n c m : Nat} {xs : List Value} (h : w.ownsRow B 37 7 (.slice ao n c) m xs) : m ≤ c := by
  rcases h.2 with ⟨hv, h0⟩ | ⟨g, cap, cur, hv, _, _, hc, _⟩
  · omega
  · cases hv
    exact hc
theorem own_none {w : World} {B : Nat} {ao : Option Addr} {n c m : Nat} {xs : List Value} (h : w.ownsRow B 37 7 (.slice ao n c) m xs) : ao = none → m = 0 ∧ c = 0 := by
  rcases h.2 with ⟨hv, h0⟩ | ⟨g, cap, cur, hv, _, _, hc, _⟩
  · cases hv
    exact fun _ => ⟨h0, rfl⟩
  · cases hv
    intro h
    cases h
theorem own_at {w : World} {B : Nat} {ao : Option Addr} {n c m : Nat} {xs : List Value} (h : w.ownsRow B 37 7 (.slice ao n c) m xs) : ∀ ad, ao = some ad → ad.spot = none ∧ ad.off = 0 ∧ (∀ j, (ad.add j).block < w.heap.size) ∧ ∀ j u, xs[j]? = some u → w.cell? (ad.add j) = some u := by
  intro ad e
  subst e
  rcases h.2 with ⟨hv, _⟩ | ⟨g, cap, cur, hv, hB, hg, _⟩
  · cases hv
  · cases hv
    exact ⟨rfl, rfl, fun j => (by rw [Addr.add_lit]; exact (Array.getElem?_eq_some_iff.1 hg).1), h.cells (g := g) rfl⟩

theorem news_row (w : World) (r : R7) (n : Nat) (hn : n = w.heap.size) : ∀ j u, r.cells[j]? = some u → (w.alloc (.cells #[.int .i64 r.k, .bool r.b, .int .i64 r.n, .string r.s, .string r.t, .string r.i, .slice r.lo r.ll r.lc] 37)).cell? ((⟨n, 0, none⟩ : Addr).add j) = some u := by
  intro j u hj
  rw [Addr.add_lit, Nat.zero_add, World.cell?_alloc_at _ _ _ _ hn]
  simpa [R7.cells] using hj

end Go.Proofs.YtakolbijajlhkaaGreat
