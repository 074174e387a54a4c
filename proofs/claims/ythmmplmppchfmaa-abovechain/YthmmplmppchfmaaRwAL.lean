/-
  Raws of chancellaw5: as plain data, in memory, and as arguments.
  chancellaw5.Few: what it returns; what a raw that is few has.
  chancellaw5.id, name, Uid: what they return.
-/
import Derived.Test.YthmmplmppchfmaaEncAll
import Derived.Lib.SmallJoins
import Derived.Deep.Slices
import Derived.OpenShut
import Derived.Stop.Joined
import Derived.ProofKit
import Derived.Test.YthmmplmppchfmaaPlainAll
import Derived.Deep.Cut
import Derived.Test.YthmmplmppchfmaaElAO
import Derived.Test.YthmmplmppchfmaaVeK
namespace Go.Proofs.Ythmmplmppchfmaa
open Go.ChangeShapes Go.WideShapes Go.ChangeAt Go.WideMaps Go.WideElems Go.RowKit

/-- What a tree is made of. -/
inductive Rw where
  | mk (op n : Int) (s : List Int) (l : List Rw)
structure R4 where
  op : Int
  n : Int
  so : Option Addr
  sl : Nat
  sc : Nat
  lo : Option Addr
  ll : Nat
  lc : Nat
def R4.cells (r : R4) : List Value := [.int .i64 r.op, .int .i64 r.n, .slice r.so r.sl r.sc, .slice r.lo r.ll r.lc]
def R4.val (r : R4) : Value := .agg #[.int .i64 r.op, .int .i64 r.n, .slice r.so r.sl r.sc, .slice r.lo r.ll r.lc]
structure AtR (w : World) (b o : Nat) (r : R4) : Prop where
  c0 : w.cell? ⟨b, o, none⟩ = some (.int .i64 r.op)
  c1 : w.cell? ⟨b, o + 1, none⟩ = some (.int .i64 r.n)
  c2 : w.cell? ⟨b, o + 2, none⟩ = some (.slice r.so r.sl r.sc)
  c3 : w.cell? ⟨b, o + 3, none⟩ = some (.slice r.lo r.ll r.lc)
theorem AtR.below {w w' : World} {b o B : Nat} {r : R4} (h : AtR w b o r) (hb : Below B w w') (hlt : b < B) : AtR w' b o r :=
  ⟨(hb.cell (p := ⟨b, o, none⟩) hlt).trans h.c0, (hb.cell (p := ⟨b, o + 1, none⟩) hlt).trans h.c1, (hb.cell (p := ⟨b, o + 2, none⟩) hlt).trans h.c2, (hb.cell (p := ⟨b, o + 3, none⟩) hlt).trans h.c3⟩
mutual
/-- The four cells r say the raw x. -/
def IsR (w : World) : R4 → Rw → Prop
  | r, .mk op n s l => r.op = op ∧ r.n = n ∧ r.sl = s.length ∧ s.length ≤ 9223372036854775807 ∧ s.length ≤ r.sc ∧ IntsAt w r.so s ∧ r.ll = l.length ∧ l.length ≤ 9223372036854775807 ∧ IsRs w r.lo 0 l
def IsRs (w : World) : Option Addr → Nat → List Rw → Prop
  | _, _, [] => True
  | lo, j, x :: l => (∃ r b off, lo = some ⟨b, off, none⟩ ∧ b < w.heap.size ∧ AtR w b (off + j * 4) r ∧ IsR w r x) ∧ IsRs w lo (j + 1) l
end
mutual
theorem IsR.below {w w' : World} (hb : Below w.heap.size w w') : ∀ (r : R4) (x : Rw), IsR w r x → IsR w' r x
  | r, .mk _ _ _ l, h => by
    unfold IsR at h ⊢
    obtain ⟨h1, h2, h3, h4, h5, h6, h7, h8, h9⟩ := h
    exact ⟨h1, h2, h3, h4, h5, h6.below hb, h7, h8, IsRs.below hb r.lo 0 l h9⟩
theorem IsRs.below {w w' : World} (hb : Below w.heap.size w w') : ∀ (lo : Option Addr) (j : Nat) (l : List Rw), IsRs w lo j l → IsRs w' lo j l
  | _, _, [], _ => by unfold IsRs; trivial
  | lo, j, x :: l, h => by
    unfold IsRs at h ⊢
    obtain ⟨⟨r, b, off, h1, h3, h4, h5⟩, h6⟩ := h
    exact ⟨⟨r, b, off, h1, Nat.lt_of_lt_of_le h3 hb.size, h4.below hb h3, IsR.below hb r x h5⟩, IsRs.below hb lo (j + 1) l h6⟩
end
theorem IsRs.get {w : World} {lo : Option Addr} : ∀ (l : List Rw) (j0 j : Nat) (hj : j < l.length), IsRs w lo j0 l → ∃ r b off, lo = some ⟨b, off, none⟩ ∧ b < w.heap.size ∧ AtR w b (off + (j0 + j) * 4) r ∧ IsR w r l[j]
  | [], _, j, hj, _ => by simp at hj
  | e :: l, j0, 0, _, h => by
    unfold IsRs at h
    obtain ⟨⟨r, b, off, h1, h3, h4, h5⟩, _⟩ := h
    exact ⟨r, b, off, h1, h3, h4, h5⟩
  | e :: l, j0, j + 1, hj, h => by
    unfold IsRs at h
    obtain ⟨r, b, off, h1, h2, h3, h4⟩ := IsRs.get l (j0 + 1) j (by simpa using hj) h.2
    exact ⟨r, b, off, h1, h2, by rw [show j0 + (j + 1) = j0 + 1 + j by omega]; exact h3, h4⟩
theorem IsRs.mk {w : World} {b off : Nat} (hb : b < w.heap.size) : ∀ (l : List Rw) (j : Nat), (∀ i (hi : i < l.length), ∃ r, AtR w b (off + (j + i) * 4) r ∧ IsR w r l[i]) → IsRs w (some ⟨b, off, none⟩) j l
  | [], _, _ => by unfold IsRs; trivial
  | x :: l, j, h => by
    unfold IsRs
    refine ⟨?_, IsRs.mk hb l (j + 1) fun i hi => ?_⟩
    · obtain ⟨r, h1, h2⟩ := h 0 (by simp)
      exact ⟨r, b, off, rfl, hb, by simpa using h1, h2⟩
    · obtain ⟨r, h1, h2⟩ := h (i + 1) (by simpa using hi)
      exact ⟨r, by rw [show j + 1 + i = j + (i + 1) by omega]; exact h1, h2⟩

theorem c_int5 : Try.prog.cellsOf 3 = 1 := by kernel_rfl
theorem cell_lt5 {w : World} {b o : Nat} {v : Value} (h : w.cell? ⟨b, o, none⟩ = some v) : b < w.heap.size := by
  rcases Nat.lt_or_ge b w.heap.size with hl | hl
  · exact hl
  · unfold World.cell? at h
    rw [Array.getElem?_eq_none hl] at h
    cases h

set_option maxRecDepth 100000 in
theorem open_ints5 {H : Type} {enc : TypeId × Value → H} {W : World} {fuel : Nat} {v : Value} {x : DataW H × List MemPlace} (h : DataW.trod enc Try.prog W 0 (fun _ => true) true fuel 23 [v] = some x) :
    ∃ (ao : Option Addr) (xs : List Int) (cap : Nat), v = .slice ao xs.length cap ∧ xs.length ≤ 9223372036854775807 ∧ xs.length ≤ cap ∧ IntsAt W ao xs := by
  rcases open_ints Try.underlying23 Try.underlying3 c_int5 h with ⟨hcs, _⟩ | ⟨a, len', cap', zs, hcs, _, hl, hm, hz, _, hcell, hwz⟩
  · cases hcs
    exact ⟨none, [], 0, rfl, by simp, by simp, fun j hj => by simp at hj⟩
  · cases hcs
    simp only [if_true] at hz
    have hlen : (zs.take len').length = len' := by rw [List.length_take]; omega
    refine ⟨some a, zs.take len', cap', by rw [hlen], by rw [hlen]; unfold maxLen at hm; omega, by omega, fun j hj => ?_⟩
    obtain ⟨b, off, rfl, h2⟩ := ints_at hcell (by omega)
    have h3 := h2 j (by omega)
    refine ⟨b, off, rfl, cell_lt5 h3, ?_⟩
    rw [h3, List.getElem_take, List.getD, List.getElem?_eq_getElem (by omega)]
    rfl

theorem mem_size {H : Type} (l r : List (DataW H)) {d : DataW H} (h : d ∈ l) : SizeOf.sizeOf d < SizeOf.sizeOf (DataW.slice l r : DataW H) := by
  have := List.sizeOf_lt_of_mem h
  simp only [DataW.slice.sizeOf_spec]
  omega
theorem agg_size {H : Type} (a b c d : DataW H) : SizeOf.sizeOf d < SizeOf.sizeOf (DataW.agg [a, b, c, d] : DataW H) := by
  simp only [DataW.agg.sizeOf_spec, List.cons.sizeOf_spec]
  omega

end Go.Proofs.Ythmmplmppchfmaa

namespace Go.Proofs.Ythmmplmppchfmaa
open Go.RowKit Go.Sort

mutual
def depR : Rw → Nat
  | .mk _ _ _ l => depRs l + 1
def depRs : List Rw → Nat
  | [] => 0
  | x :: l => max (depR x) (depRs l)
end
theorem depRs_get : ∀ (l : List Rw) (j : Nat) (h : j < l.length), depR l[j] ≤ depRs l
  | [], j, h => by simp at h
  | e :: l, 0, _ => by
    show depR e ≤ depRs (e :: l)
    unfold depRs
    exact Nat.le_max_left _ _
  | e :: l, j + 1, hj => by
    have := depRs_get l j (by simpa using hj)
    show depR (l[j]'(by simpa using hj)) ≤ depRs (e :: l)
    unfold depRs
    exact Nat.le_trans this (Nat.le_max_right _ _)
mutual
def fewR : Rw → Int → Int
  | .mk _ _ s l, m => if m ≤ 0 ∨ 12 < l.length ∨ 60 < s.length then 0 else fewL l (m - 1)
def fewL : List Rw → Int → Int
  | [], m => m
  | x :: l, m => if 0 < m then fewL l (fewR x m) else m
end
mutual
def smR : Rw → Bool
  | .mk _ _ s l => decide (l.length ≤ 12) && (decide (s.length ≤ 60) && smRs l)
def smRs : List Rw → Bool
  | [] => true
  | x :: l => smR x && smRs l
end
mutual
theorem fewR_le : ∀ (x : Rw) (m : Int), 0 ≤ fewR x m ∧ (0 ≤ m → fewR x m ≤ m)
  | .mk _ _ s l, m => by
    unfold fewR
    split
    · exact ⟨Int.le_refl _, fun h => h⟩
    · have := fewL_le l (m - 1) (by omega)
      exact ⟨this.1, fun _ => by omega⟩
theorem fewL_le : ∀ (l : List Rw) (m : Int), 0 ≤ m → 0 ≤ fewL l m ∧ fewL l m ≤ m
  | [], m, h => by unfold fewL; exact ⟨h, Int.le_refl _⟩
  | x :: l, m, h => by
    unfold fewL
    split
    · have h1 := fewR_le x m
      have h2 := fewL_le l (fewR x m) h1.1
      have h3 := h1.2 h
      exact ⟨h2.1, by omega⟩
    · exact ⟨h, Int.le_refl _⟩
end
mutual
theorem fewR_ok : ∀ (x : Rw) (m : Int), 0 < fewR x m → smR x = true
  | .mk _ _ s l, m, h => by
    unfold fewR at h
    split at h
    · omega
    · rename_i hc
      unfold smR
      rw [decide_eq_true (by omega), decide_eq_true (by omega), fewL_ok l (m - 1) h]
      rfl
theorem fewL_ok : ∀ (l : List Rw) (m : Int), 0 < fewL l m → smRs l = true
  | [], m, h => by unfold smRs; rfl
  | x :: l, m, h => by
    unfold fewL at h
    split at h
    · have h2 := fewL_ok l _ h
      have h1 : 0 < fewR x m := by
        rcases Int.lt_or_le 0 (fewR x m) with h3 | h3
        · exact h3
        · have h4 := (fewR_le x m).1
          have h5 : fewR x m = 0 := by omega
          rw [h5] at h
          have := (fewL_le l 0 (Int.le_refl _)).2
          omega
      unfold smRs
      rw [fewR_ok x m h1, h2]
      rfl
    · omega
end
theorem fewL_drop (l : List Rw) (k : Nat) (h : k < l.length) (m : Int) : fewL (l.drop k) m = if 0 < m then fewL (l.drop (k + 1)) (fewR l[k] m) else m := by
  rw [List.drop_eq_getElem_cons h, fewL]
theorem fewL_out (l : List Rw) (m : Int) (h : ¬ 0 < m) : fewL l m = m := by
  cases l with
  | nil => rfl
  | cons x l => rw [fewL, if_neg h]

theorem blk4 {w : World} {b : Nat} {v0 v1 v2 v3 : Value} {T : TypeId} (h : w.heap[b]? = some (.cells #[v0, v1, v2, v3] T (0, 0))) :
    w.cell? ⟨b, 0, none⟩ = some v0 ∧ w.cell? ⟨b, 1, none⟩ = some v1 ∧ w.cell? ⟨b, 2, none⟩ = some v2 ∧ w.cell? ⟨b, 3, none⟩ = some v3 ∧ ∀ o, w.frozen? ⟨b, o, none⟩ = false :=
  ⟨by rw [Lib.cell_of_heap h]; rfl, by rw [Lib.cell_of_heap h]; rfl, by rw [Lib.cell_of_heap h]; rfl, by rw [Lib.cell_of_heap h]; rfl, fun o => Lib.frozen_of_heap h o⟩

end Go.Proofs.Ythmmplmppchfmaa

namespace Go.Proofs.Ythmmplmppchfmaa
open Go.RowKit Go.Sort

def idt5 (xs : List Int) : List UInt8 := txt (xs.take 8)
theorem intsAt_take {w : World} {ao : Option Addr} {xs : List Int} (h : IntsAt w ao xs) (n : Nat) : IntsAt w ao (xs.take n) := by
  intro j hj
  rw [List.length_take] at hj
  obtain ⟨b, off, e, hb, hc⟩ := h j (by omega)
  exact ⟨b, off, e, hb, by rw [hc, List.getElem_take]⟩
set_option maxHeartbeats 1000000 in
set_option maxRecDepth 1000000 in
theorem id5_any (xs : List Int) (ao : Option Addr) (c : Nat) (w : World) (hl : xs.length ≤ 9223372036854775807) (hc : xs.length ≤ c) (hz : IntsAt w ao xs) :
    Calls Try.prog 37 #[.slice ao xs.length c] w fun e w' => e = .returned (.string (ba (idt5 xs))) ∧ Below w.heap.size w w' := by
  by_cases h30 : 8 < xs.length
  · have O := lawOf_any (xs.take 8) ao c w (by rw [List.length_take]; omega) (intsAt_take hz 8)
    rw [List.length_take, Nat.min_eq_left (by omega)] at O
    have i1 : (8 : Int) < (xs.length : Int) := by omega
    have i2 : (8 : Int) ≤ (c : Int) := by omega
    go_enter Try.func37, Try.ntmps37
    go_wp2_with fail
    refine O.mono ?_
    rintro e w2 ⟨rfl, b2⟩
    go_wp2
    go_ret
    exact ⟨rfl, b2⟩
  · have e1 : xs.take 8 = xs := List.take_of_length_le (by omega)
    have O := lawOf_any xs ao c w hl hz
    have i1 : ¬ (8 : Int) < (xs.length : Int) := by omega
    unfold idt5
    rw [e1]
    go_enter Try.func37, Try.ntmps37
    go_wp2_with fail
    refine O.mono ?_
    rintro e w2 ⟨rfl, b2⟩
    go_wp2
    go_ret
    exact ⟨rfl, b2⟩

def nm7 : List (List UInt8) := [[97], [97, 103, 101], [105, 102], [99, 111, 110, 116, 97, 105, 110, 115], [112, 114, 105, 110, 99, 105, 112, 97, 108], [95, 120], [110, 97, 109, 101]]
def nmI (n : Int) : List UInt8 := nm7.getD (n % 7).toNat []
theorem nm_cell (m : Nat) (hm : m < 7) : (#[.string ⟨#[97]⟩, .string ⟨#[97, 103, 101]⟩, .string ⟨#[105, 102]⟩, .string ⟨#[99, 111, 110, 116, 97, 105, 110, 115]⟩, .string ⟨#[112, 114, 105, 110, 99, 105, 112, 97, 108]⟩, .string ⟨#[95, 120]⟩, .string ⟨#[110, 97, 109, 101]⟩] : Array Value)[m]? = some (.string (ba (nm7.getD m []))) := by
  match m, hm with
  | 0, _ | 1, _ | 2, _ | 3, _ | 4, _ | 5, _ | 6, _ => rfl
set_option maxHeartbeats 1000000 in
set_option maxRecDepth 1000000 in
theorem name5_any (n : Int) (w : World) : Calls Try.prog 36 #[.int .i64 n] w fun e w' => e = .returned (.string (ba (nmI n))) ∧ Below w.heap.size w w' := by
  obtain ⟨m, hm⟩ : ∃ m : Nat, (m : Int) = n % 7 := ⟨(n % 7).toNat, by omega⟩
  have hm7 : m < 7 := by omega
  have W := fun w' => within5_any n 7 (by decide) (by decide) w'
  rw [← hm] at W
  have e : nmI n = nm7.getD m [] := by unfold nmI; rw [← hm]; rfl
  rw [e]
  have n1 := newS w (.cells #[.string ⟨#[97]⟩, .string ⟨#[97, 103, 101]⟩, .string ⟨#[105, 102]⟩, .string ⟨#[99, 111, 110, 116, 97, 105, 110, 115]⟩, .string ⟨#[112, 114, 105, 110, 99, 105, 112, 97, 108]⟩, .string ⟨#[95, 120]⟩, .string ⟨#[110, 97, 109, 101]⟩] 9)
  have Z1 : (w.alloc (.cells #[.string ⟨#[97]⟩, .string ⟨#[97, 103, 101]⟩, .string ⟨#[105, 102]⟩, .string ⟨#[99, 111, 110, 116, 97, 105, 110, 115]⟩, .string ⟨#[112, 114, 105, 110, 99, 105, 112, 97, 108]⟩, .string ⟨#[95, 120]⟩, .string ⟨#[110, 97, 109, 101]⟩] 9)).heap[w.heap.size]? = some (.cells #[.string ⟨#[97]⟩, .string ⟨#[97, 103, 101]⟩, .string ⟨#[105, 102]⟩, .string ⟨#[99, 111, 110, 116, 97, 105, 110, 115]⟩, .string ⟨#[112, 114, 105, 110, 99, 105, 112, 97, 108]⟩, .string ⟨#[95, 120]⟩, .string ⟨#[110, 97, 109, 101]⟩] 9 (0, 0)) := alloc_heap _ _
  have hx : (w.alloc (.cells #[.string ⟨#[97]⟩, .string ⟨#[97, 103, 101]⟩, .string ⟨#[105, 102]⟩, .string ⟨#[99, 111, 110, 116, 97, 105, 110, 115]⟩, .string ⟨#[112, 114, 105, 110, 99, 105, 112, 97, 108]⟩, .string ⟨#[95, 120]⟩, .string ⟨#[110, 97, 109, 101]⟩] 9)).cell? ⟨w.heap.size, m, none⟩ = some (.string (ba (nm7.getD m []))) := by rw [Lib.cell_of_heap Z1]; exact nm_cell m hm7
  have i1 : (m : Int) < 7 := by omega
  generalize ba (nm7.getD m []) = X at *
  clear hm e Z1
  go_enter Try.func36, Try.ntmps36
  go_wp2_with fail
  generalize w.alloc _ = w1 at *
  refine (W _).mono ?_
  rintro e w2 ⟨rfl, rfl⟩
  go_wp2
  go_ret
  exact ⟨rfl, n1⟩

def ty5 : List (List UInt8) := [[85, 115, 101, 114], [71, 114, 111, 117, 112], [68, 111, 99], [65, 99, 116, 105, 111, 110], [105, 102]]
def tyI5 (n : Int) : List UInt8 := ty5.getD (n % 5).toNat []
def ty5Cells : Array Value := #[.string ⟨#[85, 115, 101, 114]⟩, .string ⟨#[71, 114, 111, 117, 112]⟩, .string ⟨#[68, 111, 99]⟩, .string ⟨#[65, 99, 116, 105, 111, 110]⟩, .string ⟨#[105, 102]⟩]
theorem ty5_cell (m : Nat) (hm : m < 5) : ty5Cells[m]? = some (.string (ba (ty5.getD m []))) := by
  match m, hm with
  | 0, _ | 1, _ | 2, _ | 3, _ | 4, _ => rfl
/-- What each slot of the region holds. -/
def uid5Sp (m : Nat) (n : Int) (sv : Value) (t i : ByteArray) : Nat → Value → World → Prop
  | 0, v, w => ∃ blk, v = .slice (some ⟨blk, 0, none⟩) 5 5 ∧ blk < w.heap.size ∧ w.cell? ⟨blk, m, none⟩ = some (.string t)
  | 1, v, _ => v = .int .i64 n
  | 2, v, _ => v = .int .i64 m
  | 3, v, w => ∃ blk, v = .pointer (some ⟨blk, m, none⟩) ∧ blk < w.heap.size ∧ w.cell? ⟨blk, m, none⟩ = some (.string t)
  | 4, v, _ => v = .string t
  | 5, v, _ => v = sv
  | 6, v, _ => v = .string i
  | 7, v, _ => v = .agg #[.string t, .string i]
  | _, _, _ => True
theorem uid5Sp_up {m : Nat} {n : Int} {sv : Value} {t i : ByteArray} {w w' : World} (hb : Below w.heap.size w w') : ∀ j u, uid5Sp m n sv t i j u w → uid5Sp m n sv t i j u w'
  | 0, _, ⟨blk, e, hl, hc⟩ => ⟨blk, e, Nat.lt_of_lt_of_le hl hb.size, (hb.cell (p := ⟨blk, m, none⟩) hl).trans hc⟩
  | 1, _, h => h
  | 2, _, h => h
  | 3, _, ⟨blk, e, hl, hc⟩ => ⟨blk, e, Nat.lt_of_lt_of_le hl hb.size, (hb.cell (p := ⟨blk, m, none⟩) hl).trans hc⟩
  | 4, _, h => h
  | 5, _, h => h
  | 6, _, h => h
  | 7, _, h => h
  | _ + 8, _, _ => trivial

set_option maxHeartbeats 4000000 in
set_option maxRecDepth 1000000 in
theorem uid5_any (n : Int) (xs : List Int) (so : Option Addr) (sc : Nat) (w : World) (hl : xs.length ≤ 9223372036854775807) (hc : xs.length ≤ sc) (hz : IntsAt w so xs) :
    Calls Try.prog 21 #[.int .i64 n, .slice so xs.length sc] w fun e w' => e = .returned (.agg #[.string (ba (tyI5 n)), .string (ba (idt5 xs))]) ∧ Below w.heap.size w w' := by
  obtain ⟨m, hm0⟩ : ∃ m : Nat, (m : Int) = n % 5 := ⟨(n % 5).toNat, by omega⟩
  have hm : m < 5 := by omega
  have WI := fun w' => within5_any n 5 (by decide) (by decide) w'
  rw [← hm0] at WI
  have e : tyI5 n = ty5.getD m [] := by unfold tyI5; rw [← hm0]; rfl
  rw [e]
  have ID := fun w' hz' => id5_any xs so sc w' hl hc hz'
  have hty := ty5_cell m hm
  generalize ba (ty5.getD m []) = ty at *
  clear hm0 e
  go_enter Try.func21, Try.ntmps21
  go_wp2_with fail
  generalize hw2 : w.alloc (.cells #[.string ⟨#[]⟩, .string ⟨#[]⟩] 28) = w2
  have b02 : Below w.heap.size w w2 := by rw [← hw2]; exact newS _ _
  have z2 : w2.heap.size = w.heap.size + 1 := by rw [← hw2]; simp
  have d0 : (w2.cell? ⟨w.heap.size, 0, none⟩).isSome = true := by rw [← hw2]; simp
  have d1 : (w2.cell? ⟨w.heap.size, 1, none⟩).isSome = true := by rw [← hw2]; simp
  have g0 : w2.frozen? ⟨w.heap.size, 0, none⟩ = false := by rw [← hw2]; simp
  have g1 : w2.frozen? ⟨w.heap.size, 1, none⟩ = false := by rw [← hw2]; simp
  clear hw2
  have Z2 := hide z2
  clear z2
  refine wp_specs 8 (uid5Sp m n (.slice so xs.length sc) ty (ba (idt5 xs))) (fun w' => Below w2.heap.size w2 w') (by kernel_rfl) (by kernel_rfl) (Below.refl _ w2).drew ?_ ?_
  · intro i o hi ho a' w' hR hdep hslot K hK
    match i, hi with
    | 0, _ =>
      cases ho
      unfold Oper.wp
      go_simp
      exact hK _ _ ⟨w'.heap.size, rfl, by simp, by rw [World.cell?_alloc_at _ _ _ _ rfl]; exact hty⟩ (hR.alloc hR.size _) (uid5Sp_up (newS _ _))
    | 1, _ =>
      cases ho
      have e : a'.tmps.getD 0 undef = .int .i64 n := hslot 0 (by decide)
      unfold Oper.wp
      go_simp
      exact hK _ _ rfl hR (fun _ _ h => h)
    | 2, _ =>
      cases ho
      have e : a'.tmps.getD 6 undef = .int .i64 n := hdep 1 (by kernel_rfl)
      unfold Oper.wp
      go_simp
      refine (WI w').mono ?_
      rintro e w3 ⟨rfl, rfl⟩
      exact hK _ _ rfl hR (fun _ _ h => h)
    | 3, _ =>
      cases ho
      obtain ⟨blk, e1, hb, hcell⟩ : uid5Sp _ _ _ _ _ 0 (a'.tmps.getD 5 undef) w' := hdep 0 (by kernel_rfl)
      have e2 : a'.tmps.getD 7 undef = .int .i64 m := hdep 2 (by kernel_rfl)
      have hm5 : (m : Int) < 5 := by omega
      unfold Oper.wp
      go_simp
      exact hK _ _ ⟨blk, rfl, hb, hcell⟩ hR (fun _ _ h => h)
    | 4, _ =>
      cases ho
      obtain ⟨blk, e1, hb, hcell⟩ : uid5Sp _ _ _ _ _ 3 (a'.tmps.getD 8 undef) w' := hdep 3 (by kernel_rfl)
      unfold Oper.wp
      go_simp
      exact hK _ _ rfl hR (fun _ _ h => h)
    | 5, _ =>
      cases ho
      have e : a'.tmps.getD 1 undef = .slice so xs.length sc := hslot 1 (by decide)
      unfold Oper.wp
      go_simp
      exact hK _ _ rfl hR (fun _ _ h => h)
    | 6, _ =>
      cases ho
      have e : a'.tmps.getD 10 undef = .slice so xs.length sc := hdep 5 (by kernel_rfl)
      have ID' := ID w' ((hz.below b02).below hR)
      clear ID
      unfold Oper.wp
      go_simp
      refine ID'.mono ?_
      rintro e w3 ⟨rfl, b3⟩
      exact hK _ _ rfl (hR.trans (b3.mono hR.size)) (uid5Sp_up b3)
    | 7, _ =>
      cases ho
      have e1 : a'.tmps.getD 9 undef = .string ty := hdep 4 (by kernel_rfl)
      have e2 : a'.tmps.getD 11 undef = .string (ba (idt5 xs)) := hdep 6 (by kernel_rfl)
      have e1' : a'.tmps[9]?.getD undef = .string ty := by simpa using e1
      have e2' : a'.tmps[11]?.getD undef = .string (ba (idt5 xs)) := by simpa using e2
      unfold Oper.wp
      go_simp
      exact hK _ _ rfl hR (fun _ _ h => h)
  · intro a' w' hR hall hslot hdef hsz
    have e2 : a'.tmps.getD 4 undef = .pointer (some ⟨w.heap.size, 0, none⟩) := hslot 4 (by decide)
    have e18 : a'.tmps.getD 12 undef = .agg #[.string ty, .string (ba (idt5 xs))] := hall 7 (by decide)
    have k0 := (hR.cell (p := ⟨w.heap.size, 0, none⟩) (by have := unhide Z2; show w.heap.size < _; omega))
    have k1 := (hR.cell (p := ⟨w.heap.size, 1, none⟩) (by have := unhide Z2; show w.heap.size < _; omega))
    have f0 := (hR.frozen (p := ⟨w.heap.size, 0, none⟩) (by have := unhide Z2; show w.heap.size < _; omega)).trans g0
    have f1 := (hR.frozen (p := ⟨w.heap.size, 1, none⟩) (by have := unhide Z2; show w.heap.size < _; omega)).trans g1
    rw [← k0] at d0
    rw [← k1] at d1
    obtain ⟨x0, hx0⟩ := Option.isSome_iff_exists.1 d0
    obtain ⟨x1, hx1⟩ := Option.isSome_iff_exists.1 d1
    have b03 := b02.trans (hR.mono b02.size)
    have e2' : a'.tmps[4]?.getD undef = .pointer (some ⟨w.heap.size, 0, none⟩) := by simpa using e2
    clear k0 k1 d0 d1 hall hslot
    simp only [List.drop_succ_cons, List.drop_zero]
    go_wp2
    exact bodyPost_ret (v := .agg #[.string ty, .string (ba (idt5 xs))]) (by simp [results, Try.results21, go_sem, e2', hx0, hx1]) hdef ⟨rfl, (b03.setCell (p := ⟨w.heap.size, 0, none⟩) (Nat.le_refl _) _).setCell (p := ⟨w.heap.size, 1, none⟩) (Nat.le_refl _) _⟩
end Go.Proofs.Ythmmplmppchfmaa
