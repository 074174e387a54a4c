/-
  Raws of chancellaw5: as plain data, in memory, and as arguments.
-/
import Derived.Test.YtckjafmnaffggaaLawOf
import Derived.Lib.SmallJoins
import Derived.Deep.Slices
import Derived.OpenShut
import Derived.Stop.Joined
import Derived.ProofKit
namespace Go.Proofs.Ytckjafmnaffggaa
open Go.ChangeShapes Go.WideShapes Go.ChangeAt Go.WideMaps Go.WideElems Go.RowKit

/-- What a tree is made of. -/
inductive Rw where
  | mk (op n : Int) (s : List Int) (l : List Rw)
structure R4 where
  op : Int
  n : Int
  so : Option Addr
  sl : Nat
  sc : Nat
  lo : Option Addr
  ll : Nat
  lc : Nat
def R4.cells (r : R4) : List Value := [.int .i64 r.op, .int .i64 r.n, .slice r.so r.sl r.sc, .slice r.lo r.ll r.lc]
def R4.val (r : R4) : Value := .agg #[.int .i64 r.op, .int .i64 r.n, .slice r.so r.sl r.sc, .slice r.lo r.ll r.lc]
structure AtR (w : World) (b o : Nat) (r : R4) : Prop where
  c0 : w.cell? ⟨b, o, none⟩ = some (.int .i64 r.op)
  c1 : w.cell? ⟨b, o + 1, none⟩ = some (.int .i64 r.n)
  c2 : w.cell? ⟨b, o + 2, none⟩ = some (.slice r.so r.sl r.sc)
  c3 : w.cell? ⟨b, o + 3, none⟩ = some (.slice r.lo r.ll r.lc)
theorem AtR.below {w w' : World} {b o B : Nat} {r : R4} (h : AtR w b o r) (hb : Below B w w') (hlt : b < B) : AtR w' b o r :=
  ⟨(hb.cell (p := ⟨b, o, none⟩) hlt).trans h.c0, (hb.cell (p := ⟨b, o + 1, none⟩) hlt).trans h.c1, (hb.cell (p := ⟨b, o + 2, none⟩) hlt).trans h.c2, (hb.cell (p := ⟨b, o + 3, none⟩) hlt).trans h.c3⟩
mutual
/-- The four cells r say the raw x. -/
def IsR (w : World) : R4 → Rw → Prop
  | r, .mk op n s l => r.op = op ∧ r.n = n ∧ r.sl = s.length ∧ s.length ≤ 9223372036854775807 ∧ s.length ≤ r.sc ∧ IntsAt w r.so s ∧ r.ll = l.length ∧ l.length ≤ 9223372036854775807 ∧ IsRs w r.lo 0 l
def IsRs (w : World) : Option Addr → Nat → List Rw → Prop
  | _, _, [] => True
  | lo, j, x :: l => (∃ r b off, lo = some ⟨b, off, none⟩ ∧ b < w.heap.size ∧ AtR w b (off + j * 4) r ∧ IsR w r x) ∧ IsRs w lo (j + 1) l
end
mutual
theorem IsR.below {w w' : World} (hb : Below w.heap.size w w') : ∀ (r : R4) (x : Rw), IsR w r x → IsR w' r x
  | r, .mk _ _ _ l, h => by
    unfold IsR at h ⊢
    obtain ⟨h1, h2, h3, h4, h5, h6, h7, h8, h9⟩ := h
    exact ⟨h1, h2, h3, h4, h5, h6.below hb, h7, h8, IsRs.below hb r.lo 0 l h9⟩
theorem IsRs.below {w w' : World} (hb : Below w.heap.size w w') : ∀ (lo : Option Addr) (j : Nat) (l : List Rw), IsRs w lo j l → IsRs w' lo j l
  | _, _, [], _ => by unfold IsRs; trivial
  | lo, j, x :: l, h => by
    unfold IsRs at h ⊢
    obtain ⟨⟨r, b, off, h1, h3, h4, h5⟩, h6⟩ := h
    exact ⟨⟨r, b, off, h1, Nat.lt_of_lt_of_le h3 hb.size, h4.below hb h3, IsR.below hb r x h5⟩, IsRs.below hb lo (j + 1) l h6⟩
end
theorem IsRs.get {w : World} {lo : Option Addr} : ∀ (l : List Rw) (j0 j : Nat) (hj : j < l.length), IsRs w lo j0 l → ∃ r b off, lo = some ⟨b, off, none⟩ ∧ b < w.heap.size ∧ AtR w b (off + (j0 + j) * 4) r ∧ IsR w r l[j]
  | [], _, j, hj, _ => by simp at hj
  | e :: l, j0, 0, _, h => by
    unfold IsRs at h
    obtain ⟨⟨r, b, off, h1, h3, h4, h5⟩, _⟩ := h
    exact ⟨r, b, off, h1, h3, h4, h5⟩
  | e :: l, j0, j + 1, hj, h => by
    unfold IsRs at h
    obtain ⟨r, b, off, h1, h2, h3, h4⟩ := IsRs.get l (j0 + 1) j (by simpa using hj) h.2
    exact ⟨r, b, off, h1, h2, by rw [show j0 + (j + 1) = j0 + 1 + j by omega]; exact h3, h4⟩
theorem IsRs.mk {w : World} {b off : Nat} (hb : b < w.heap.size) : ∀ (l : List Rw) (j : Nat), (∀ i (hi : i < l.length), ∃ r, AtR w b (off + (j + i) * 4) r ∧ IsR w r l[i]) → IsRs w (some ⟨b, off, none⟩) j l
  | [], _, _ => by unfold IsRs; trivial
  | x :: l, j, h => by
    unfold IsRs
    refine ⟨?_, IsRs.mk hb l (j + 1) fun i hi => ?_⟩
    · obtain ⟨r, h1, h2⟩ := h 0 (by simp)
      exact ⟨r, b, off, rfl, hb, by simpa using h1, h2⟩
    · obtain ⟨r, h1, h2⟩ := h (i + 1) (by simpa using hi)
      exact ⟨r, by rw [show j + 1 + i = j + (i + 1) by omega]; exact h1, h2⟩

theorem c_int5 : Try.prog.cellsOf 3 = 1 := by kernel_rfl
theorem cell_lt5 {w : World} {b o : Nat} {v : Value} (h : w.cell? ⟨b, o, none⟩ = some v) : b < w.heap.size := by
  rcases Nat.lt_or_ge b w.heap.size with hl | hl
  · exact hl
  · unfold World.cell? at h
    rw [Array.getElem?_eq_none hl] at h
    cases h

set_option maxRecDepth 100000 in
theorem open_ints5 {H : Type} {enc : TypeId × Value → H} {W : World} {fuel : Nat} {v : Value} {x : DataW H × List MemPlace} (h : DataW.trod enc Try.prog W 0 (fun _ => true) true fuel 46 [v] = some x) :
    ∃ (ao : Option Addr) (xs : List Int) (cap : Nat), v = .slice ao xs.length cap ∧ xs.length ≤ 9223372036854775807 ∧ xs.length ≤ cap ∧ IntsAt W ao xs := by
  rcases open_ints Try.underlying46 Try.underlying3 c_int5 h with ⟨hcs, _⟩ | ⟨a, len', cap', zs, hcs, _, hl, hm, hz, _, hcell, hwz⟩
  · cases hcs
    exact ⟨none, [], 0, rfl, by simp, by simp, fun j hj => by simp at hj⟩
  · cases hcs
    simp only [if_true] at hz
    have hlen : (zs.take len').length = len' := by rw [List.length_take]; omega
    refine ⟨some a, zs.take len', cap', by rw [hlen], by rw [hlen]; unfold maxLen at hm; omega, by omega, fun j hj => ?_⟩
    obtain ⟨b, off, rfl, h2⟩ := ints_at hcell (by omega)
    have h3 := h2 j (by omega)
    refine ⟨b, off, rfl, cell_lt5 h3, ?_⟩
    rw [h3, List.getElem_take, List.getD, List.getElem?_eq_getElem (by omega)]
    rfl

theorem mem_size {H : Type} (l r : List (DataW H)) {d : DataW H} (h : d ∈ l) : SizeOf.sizeOf d < SizeOf.sizeOf (DataW.slice l r : DataW H) := by
  have := List.sizeOf_lt_of_mem h
  simp only [DataW.slice.sizeOf_spec]
  omega
theorem agg_size {H : Type} (a b c d : DataW H) : SizeOf.sizeOf d < SizeOf.sizeOf (DataW.agg [a, b, c, d] : DataW H) := by
  simp only [DataW.agg.sizeOf_spec, List.cons.sizeOf_spec]
  omega

end Go.Proofs.Ytckjafmnaffggaa
