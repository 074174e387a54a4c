/-
  chancellaw4.same, piece: what they return.
-/
import Derived.Test.YtfkbbenjmhngcaaDoorLeyA
import Derived.BigQuiet
import Derived.Deep.QuietTactic
namespace Go.Proofs.YtfkbbenjmhngcaaDoor
open Go.RowKit

theorem cellsT_at : ∀ (ts : List Tok) (j : Nat) (h : j < ts.length) (c : Nat), c < 4 → (cellsT ts)[j * 4 + c]? = (ts[j].cells)[c]?
  | [], j, h, _, _ => by simp at h
  | t :: r, 0, _, c, hc => by
    show (t.cells ++ cellsT r)[0 * 4 + c]? = _
    rw [Nat.zero_mul, Nat.zero_add, List.getElem?_append_left (by simpa [Tok.cells] using hc)]
    rfl
  | t :: r, j + 1, h, c, hc => by
    have := cellsT_at r j (by simpa using h) c hc
    show (t.cells ++ cellsT r)[(j + 1) * 4 + c]? = (r[j]'(by simpa using h)).cells[c]?
    rw [← this, List.getElem?_append_right (by simp [Tok.cells]; omega)]
    congr 1
    simp [Tok.cells]
    omega

/-- A row of tokens. -/
def RowT (w : World) (ao : Option Addr) (ts : List Tok) : Prop := ∀ j (hj : j < ts.length), ∃ g, ao = some ⟨g, 0, none⟩ ∧ g < w.heap.size ∧ At4 w g (j * 4) ts[j].k ⟨ts[j].s.toArray⟩ ts[j].n ts[j].p
theorem rowT_own {w : World} {B : Nat} {e : TypeId} {v : Value} {ts : List Tok} (h : w.ownsRow B e 4 v ts.length (cellsT ts)) : ∃ ao cap, v = .slice ao ts.length cap ∧ RowT w ao ts := by
  obtain ⟨ao, cap, e⟩ := owns_any h
  refine ⟨ao, cap, e, fun j hj => ?_⟩
  obtain ⟨g, cap', e', _, hg, _, hc⟩ := owns_cells h (by omega)
  rw [e] at e'
  cases e'
  exact ⟨g, rfl, hg, hc _ _ (cellsT_at ts j hj 0 (by decide)), hc _ _ (cellsT_at ts j hj 1 (by decide)), hc _ _ (cellsT_at ts j hj 2 (by decide)), hc _ _ (cellsT_at ts j hj 3 (by decide))⟩

theorem At4.below {w w' : World} {b o B : Nat} {k : Int} {y : ByteArray} {n p : Int} (h : At4 w b o k y n p) (hb : Below B w w') (hlt : b < B) : At4 w' b o k y n p :=
  ⟨(hb.cell (p := ⟨b, o, none⟩) hlt).trans h.c0, (hb.cell (p := ⟨b, o + 1, none⟩) hlt).trans h.c1, (hb.cell (p := ⟨b, o + 2, none⟩) hlt).trans h.c2, (hb.cell (p := ⟨b, o + 3, none⟩) hlt).trans h.c3⟩
theorem RowT.below {w w' : World} {ao : Option Addr} {ts : List Tok} (h : RowT w ao ts) (hb : Below w.heap.size w w') : RowT w' ao ts := fun j hj => by
  obtain ⟨g, e, hg, A⟩ := h j hj
  have := hb.size
  exact ⟨g, e, by omega, A.below hb hg⟩

set_option maxHeartbeats 4000000 in
set_option maxRecDepth 1000000 in
theorem same4_row (ts : List Tok) (hl : ts.length ≤ 1048576) (ao bo : Option Addr) (ca cb : Nat) (w : World) (ha : RowT w ao ts) (hb : RowT w bo ts) :
    Calls Tryd.prog 14 #[.slice ao ts.length ca, .slice bo ts.length cb] w fun e w' => e = .returned (.bool true) ∧ Below w.heap.size w w' := by
  go_enter Tryd.func14, Tryd.ntmps14
  go_wp2
  go_loopw [5] (fun iv wr => ∃ i : Nat, i ≤ ts.length ∧ iv = .int .i64 i ∧ wr.heap = w.heap ∧ Below w.heap.size w wr) (fun iv _ => ts.length - (intOf iv).toNat)
  case atStart => exact ⟨0, Nat.zero_le _, rfl, rfl, Below.refl _ _⟩
  case round =>
    obtain ⟨i, hi, rfl, hheap, hbw⟩ := hrel
    by_cases hlt : i < ts.length
    · have i1 : (i : Int) < (ts.length : Int) := by omega
      obtain ⟨g, rfl, _, A⟩ := ha i hlt
      obtain ⟨h, rfl, _, B⟩ := hb i hlt
      generalize ts[i] = t at *
      obtain ⟨k, s, n, p⟩ := t
      obtain ⟨a0, a1, a2, a3⟩ := A
      obtain ⟨b0, b1, b2, b3⟩ := B
      have cl : ∀ q, wr.cell? q = w.cell? q := fun q => by simp [World.cell?, hheap]
      rw [← cl] at a0 a1 a2 a3 b0 b1 b2 b3
      have Hheap := hide hheap
      clear cl hheap
      simp only at a0 a1 a2 a3 b0 b1 b2 b3
      generalize (ByteArray.mk s.toArray) = y at *
      go_wp2
      go_quiet (fail)
      go_wp2
      go_roundw
      case rel => exact ⟨i + 1, by omega, by go_num, unhide Hheap, below_drewN hbw _⟩
      case measure =>
        simp only [intOf]
        omega
    · have i1 : ¬ (i : Int) < (ts.length : Int) := by omega
      go_wp2
      go_ret
      exact ⟨rfl, hbw⟩

def pieceV : Array Value := #[.string ⟨#[97]⟩, .string ⟨#[112, 101, 114, 109, 105, 116]⟩, .string ⟨#[105, 102]⟩, .string ⟨#[95, 120]⟩, .string ⟨#[97, 98, 99, 100, 101, 102, 103, 104, 105, 106, 107, 108]⟩, .string ⟨#[97, 98, 99, 100, 101, 102, 103, 104, 105, 106, 107, 108, 109]⟩, .string ⟨#[48]⟩, .string ⟨#[55]⟩, .string ⟨#[57, 50, 50, 51, 51, 55, 50, 48, 51, 54, 56, 53, 52, 55, 55, 53, 56, 48, 55]⟩, .string ⟨#[57, 50, 50, 51, 51, 55, 50, 48, 51, 54, 56, 53, 52, 55, 55, 53, 56, 48, 56]⟩, .string ⟨#[48, 49]⟩, .string ⟨#[58, 58]⟩, .string ⟨#[61, 61]⟩, .string ⟨#[33, 61]⟩, .string ⟨#[60, 61]⟩, .string ⟨#[62, 61]⟩, .string ⟨#[38, 38]⟩, .string ⟨#[124, 124]⟩, .string ⟨#[45, 62]⟩, .string ⟨#[40]⟩, .string ⟨#[41]⟩, .string ⟨#[123]⟩, .string ⟨#[125]⟩, .string ⟨#[91]⟩, .string ⟨#[93]⟩, .string ⟨#[44]⟩, .string ⟨#[59]⟩, .string ⟨#[58]⟩, .string ⟨#[46]⟩, .string ⟨#[60]⟩, .string ⟨#[62]⟩, .string ⟨#[33]⟩, .string ⟨#[43]⟩, .string ⟨#[45]⟩, .string ⟨#[42]⟩, .string ⟨#[61]⟩, .string ⟨#[38]⟩, .string ⟨#[124]⟩, .string ⟨#[47]⟩, .string ⟨#[64]⟩, .string ⟨#[35]⟩, .string ⟨#[57, 97]⟩]
def pieceL : List (List UInt8) := [[97], [112, 101, 114, 109, 105, 116], [105, 102], [95, 120], [97, 98, 99, 100, 101, 102, 103, 104, 105, 106, 107, 108], [97, 98, 99, 100, 101, 102, 103, 104, 105, 106, 107, 108, 109], [48], [55], [57, 50, 50, 51, 51, 55, 50, 48, 51, 54, 56, 53, 52, 55, 55, 53, 56, 48, 55], [57, 50, 50, 51, 51, 55, 50, 48, 51, 54, 56, 53, 52, 55, 55, 53, 56, 48, 56], [48, 49], [58, 58], [61, 61], [33, 61], [60, 61], [62, 61], [38, 38], [124, 124], [45, 62], [40], [41], [123], [125], [91], [93], [44], [59], [58], [46], [60], [62], [33], [43], [45], [42], [61], [38], [124], [47], [64], [35], [57, 97]]
theorem pieceV_eq : pieceV = (pieceL.map fun l => Value.string ⟨l.toArray⟩).toArray := rfl
theorem pieceL_len : ∀ l ∈ pieceL, l.length ≤ 19 := by decide
theorem piece_at (q : Nat) (h : q < 42) (W : World) : ∃ M : ByteArray, M.data.toList ∈ pieceL ∧ M.size ≤ 19 ∧ (W.alloc (.cells pieceV 9)).cell? ⟨W.heap.size, q, none⟩ = some (.string M) := by
  have hm : pieceL[q]'h ∈ pieceL := List.getElem_mem h
  refine ⟨⟨(pieceL[q]'h).toArray⟩, by simpa using hm, by rw [Lib.size_eq]; simpa using pieceL_len _ hm, ?_⟩
  rw [pieceV_eq, World.cell?_alloc_at _ _ _ _ rfl, List.getElem?_toArray, List.getElem?_map, List.getElem?_eq_getElem (show q < pieceL.length from h)]
  rfl

/-- What piece answers: one of the table, or a quoted text. -/
def IsPiece (l : List UInt8) : Prop := l ∈ pieceL ∨ ∃ zs : List Int, l = quoteL (txt zs)

set_option maxHeartbeats 4000000 in
set_option maxRecDepth 1000000 in
theorem piece4_any (n : Int) (zs : List Int) (ao : Option Addr) (cap : Nat) (w : World) (hl : zs.length ≤ 9223372036854775807) (hz : IntsAt w ao zs) :
    Calls Tryd.prog 10 #[.int .i64 n, .slice ao zs.length cap] w fun e w' => ∃ p : ByteArray, e = .returned (.string p) ∧ p.size ≤ 300 ∧ IsPiece p.data.toList ∧ Below w.heap.size w w' := by
  have W := within4_any n 50 (by decide) (by decide)
  obtain ⟨q, hq⟩ : ∃ q : Nat, (q : Int) = n % 50 := ⟨(n % 50).toNat, by omega⟩
  rw [← hq] at W
  clear hq
  have b1 := new1 w (.cells pieceV 9)
  have hz1 := hz.below b1
  by_cases h42 : q < 42
  · have i1 : ¬ (42 : Int) ≤ (q : Int) := by omega
    obtain ⟨M, hM, hMs, hcell⟩ := piece_at q h42 w
    unfold pieceV at hcell b1
    go_enter Tryd.func10, Tryd.ntmps10
    go_wp2_with fail
    generalize w.alloc _ = w1 at *
    refine (W _).mono ?_
    rintro e w2 ⟨rfl, rfl⟩
    go_wp2
    go_ret
    exact ⟨M, rfl, by omega, .inl hM, b1⟩
  · have i1 : (42 : Int) ≤ (q : Int) := by omega
    unfold pieceV at hz1 b1
    have hq : ∀ s : ByteArray, s.data.toList = txt zs → bquote s.data.toList = quoteL (txt zs) ∧ (bquote s.data.toList).length ≤ 300 := fun s h => by
      have e : bquote s.data.toList = quoteL (txt zs) := by rw [h]; exact bquote_ofL _ (picks_ok zs)
      refine ⟨e, ?_⟩
      have h6 : ∀ l : List Int, (l.flatMap quoL).length ≤ 6 * l.length := by
        intro l
        induction l with
        | nil => simp
        | cons x r ih =>
          have := quoL_len x
          rw [List.flatMap_cons, List.length_append, List.length_cons]
          omega
      have := h6 (picks zs)
      have h40 : (picks zs).length ≤ 40 := by rw [picks, List.length_map, List.length_take]; omega
      rw [e, quoteL, show runes (txt zs) = picks zs from runes_ofL _ (picks_ok zs), List.length_cons, List.length_append, List.length_singleton]
      omega
    go_enter Tryd.func10, Tryd.ntmps10
    go_wp2_with fail
    generalize w.alloc _ = w1 at *
    refine (W _).mono ?_
    rintro e w2 ⟨rfl, rfl⟩
    go_wp2_with fail
    refine (lawOf_txt zs ao cap _ hl hz1).mono ?_
    rintro e w3 ⟨s, rfl, hs1, hs2, b3⟩
    go_wp2_with fail
    refine (rquote_any s _ (by omega)).mono ?_
    rintro e w4 ⟨rfl, rfl⟩
    go_wp2
    go_ret
    have hq2 := hq s hs1
    rw [hs1] at hq2
    exact ⟨⟨(bquote (txt zs)).toArray⟩, rfl, by rw [Lib.size_eq]; exact hq2.2, .inr ⟨zs, hq2.1⟩, b1.trans (b3.mono b1.size)⟩
end Go.Proofs.YtfkbbenjmhngcaaDoor
