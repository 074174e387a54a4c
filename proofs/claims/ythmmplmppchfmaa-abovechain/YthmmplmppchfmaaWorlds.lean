/-
  Small facts on worlds and on UTF-8 (no program in them): a builder, an owned row, an iterator stay as they are behind a call that only makes new blocks.
-/
import Derived.Test.YthmmplmppchfmaaPlain
import Derived.Lib.OthersKept
import Derived.Laws.Strings
namespace Go.Proofs.Ythmmplmppchfmaa
open Go Go.RowKit

theorem kept_of_below {w w' : World} (hb : Below w.heap.size w w') {k : Nat} {o : Obj} (h : w.heap[k]? = some o) : w'.heap[k]? = some o :=
  (hb.block k (Array.getElem?_eq_some_iff.1 h).1).trans h

theorem ownsF_below {w w' : World} (hb : Below w.heap.size w w') {B : Nat} {e : TypeId} {n : Nat} {v : Value} {l : Nat} {xs : List Value} (h : w.ownsRowF B e n v l xs) : w'.ownsRowF B e n v l xs := by
  refine ⟨h.1, ?_⟩
  rcases h.2 with h0 | ⟨g, cap, cur, fz, hv, hbg, hg, rest⟩
  · exact .inl h0
  · exact .inr ⟨g, cap, cur, fz, hv, hbg, kept_of_below hb hg, rest⟩

theorem owns_below {w w' : World} (hb : Below w.heap.size w w') {B : Nat} {e : TypeId} {n : Nat} {v : Value} {l : Nat} {xs : List Value} (h : w.ownsRow B e n v l xs) : w'.ownsRow B e n v l xs := by
  refine ⟨h.1, ?_⟩
  rcases h.2 with h0 | ⟨g, cap, cur, hv, hbg, hg, rest⟩
  · exact .inl h0
  · exact .inr ⟨g, cap, cur, hv, hbg, kept_of_below hb hg, rest⟩

theorem builderAt_below {w w' : World} (hb : Below w.heap.size w w') {T e : TypeId} {B b : Nat} {p : Value} {bs : List Value} (h : Lib.BuilderAtF T e B b p bs w) : Lib.BuilderAtF T e B b p bs w' := by
  obtain ⟨hB, v, hbk, hown, hne⟩ := h
  exact ⟨hB, v, kept_of_below hb hbk, ownsF_below hb hown, hne⟩

theorem builder_below {w w' : World} (hb : Below w.heap.size w w') {T e : TypeId} {B b : Nat} {bs : List Value} (h : Lib.IsBuilderF T e B b bs w) : Lib.IsBuilderF T e B b bs w' :=
  h.elim (fun x => .inl (builderAt_below hb x)) (fun x => .inr (builderAt_below hb x))

theorem owns_base {w : World} {B B' : Nat} {e : TypeId} {n : Nat} {v : Value} {l : Nat} {xs : List Value} (h : w.ownsRow B e n v l xs) (hB : B' ≤ B) : w.ownsRow B' e n v l xs := by
  refine ⟨h.1, ?_⟩
  rcases h.2 with h0 | ⟨g, cap, cur, hv, hbg, rest⟩
  · exact .inl h0
  · exact .inr ⟨g, cap, cur, hv, by omega, rest⟩

/-- The cells of a row that is owned. -/
theorem owns_open {w : World} {B : Nat} {e : TypeId} {v : Value} {n : Nat} {xs : List Value} (h : w.ownsRow B e 1 v n xs) (hn : 0 < n) :
    ∃ g cap, v = .slice (some ⟨g, 0, none⟩) n cap ∧ B ≤ g ∧ g < w.heap.size ∧ n ≤ cap ∧ ∀ (j : Nat) u, xs[j]? = some u → w.cell? ⟨g, j, none⟩ = some u := by
  rcases h.2 with ⟨_, h0⟩ | ⟨g, cap, cur, hv, hbg, hg, hnc, _, _, htake⟩
  · omega
  · refine ⟨g, cap, hv, hbg, (Array.getElem?_eq_some_iff.1 hg).1, hnc, fun j u hj => ?_⟩
    rw [Lib.cell_of_heap hg]
    rw [← htake, List.getElem?_take] at hj
    split at hj
    · simpa using hj
    · cases hj

theorem owns_slice {w : World} {B : Nat} {e : TypeId} {v : Value} {n : Nat} {xs : List Value} (h : w.ownsRow B e 1 v n xs) : ∃ ao cap, v = .slice ao n cap := by
  rcases h.2 with ⟨h0, hz⟩ | ⟨g, cap, cur, hv, _⟩
  · exact ⟨none, 0, by rw [h0, hz]⟩
  · exact ⟨_, cap, hv⟩

theorem alloc_heap (w : World) (o : Obj) : (w.alloc o).heap[w.heap.size]? = some o := by
  show (w.heap.push o)[w.heap.size]? = _
  simp

theorem toB (z : Int) (n : Nat) (h : z = n) : z.toNat.toUInt8 = UInt8.ofNat n := by subst h; rfl

theorem enc_eq (r : Int) : Utf8.encode r = ⟨(Lib.encodeRune r).toArray⟩ := by
  by_cases hv : (0 ≤ r ∧ r < 55296) ∨ (57344 ≤ r ∧ r ≤ 1114111)
  · obtain ⟨n, rfl⟩ := Int.eq_ofNat_of_zero_le (a := r) (by omega)
    have v : Utf8.valid (n : Int) = true := by simp [Utf8.valid]; omega
    unfold Lib.encodeRune
    by_cases c1 : n < 128
    · rw [Lib.encodeRuneZ_one (by omega) (by omega)]
      simp [Utf8.encode, v, c1]
    · by_cases c2 : n < 2048
      · rw [Lib.encodeRuneZ_two (by omega) (by omega)]
        simp only [List.map_cons, List.map_nil]
        rw [toB _ (192 + n / 64) (by omega), toB _ (128 + n % 64) (by omega)]
        simp [Utf8.encode, v, c1, c2]
      · by_cases c3 : n < 65536
        · rw [Lib.encodeRuneZ_three (by omega)]
          simp only [List.map_cons, List.map_nil]
          rw [toB _ (224 + n / 4096) (by omega), toB _ (128 + n / 64 % 64) (by omega), toB _ (128 + n % 64) (by omega)]
          simp [Utf8.encode, v, c1, c2, c3]
        · rw [Lib.encodeRuneZ_four (by omega) (by omega)]
          simp only [List.map_cons, List.map_nil]
          rw [toB _ (240 + n / 262144) (by omega), toB _ (128 + n / 4096 % 64) (by omega), toB _ (128 + n / 64 % 64) (by omega), toB _ (128 + n % 64) (by omega)]
          simp [Utf8.encode, v, c1, c2, c3]
  · have v : Utf8.valid r = false := by
      simp only [Utf8.valid, Bool.or_eq_false_iff, Bool.and_eq_false_iff, decide_eq_false_iff_not]
      omega
    unfold Lib.encodeRune
    rw [Lib.encodeRuneZ_bad (by omega)]
    simp [Utf8.encode, v, Utf8.runeError]
end Go.Proofs.Ythmmplmppchfmaa
