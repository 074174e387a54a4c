/-
  chancellaw6.known.
-/
import Derived.Test.YtpblalklenebhaaDoorShI
import Derived.Deep.Cut
import Derived.BigRegion
namespace Go.Proofs.YtpblalklenebhaaDoor
open Go.RowKit Go.Sort

/-- Seven cells of a block. -/
theorem at7_blk {w : World} {b : Nat} {cs : Array Value} {T : TypeId} {fr : Nat × Nat} (h : w.heap[b]? = some (.cells cs T fr)) (o : Nat) (r : R7)
    (h0 : cs[o]? = some (.int .i64 r.k)) (h1 : cs[o + 1]? = some (.bool r.b)) (h2 : cs[o + 2]? = some (.int .i64 r.n)) (h3 : cs[o + 3]? = some (.string r.s)) (h4 : cs[o + 4]? = some (.string r.t)) (h5 : cs[o + 5]? = some (.string r.i)) (h6 : cs[o + 6]? = some (.slice r.lo r.ll r.lc)) : At7 w b o r :=
  ⟨by rw [Lib.cell_of_heap h]; exact h0, by rw [Lib.cell_of_heap h]; exact h1, by rw [Lib.cell_of_heap h]; exact h2, by rw [Lib.cell_of_heap h]; exact h3, by rw [Lib.cell_of_heap h]; exact h4, by rw [Lib.cell_of_heap h]; exact h5, by rw [Lib.cell_of_heap h]; exact h6⟩
def anyB : Nat → Prop := fun _ => True
def rLong (n : Int) : R7 := ⟨2, false, n, ⟨#[]⟩, ⟨#[]⟩, ⟨#[]⟩, none, 0, 0⟩
def rOp (k : Int) (g off n c : Nat) : R7 := ⟨k, false, 0, ⟨#[]⟩, ⟨#[]⟩, ⟨#[]⟩, some ⟨g, off, none⟩, n, c⟩
theorem is_long (w : World) (n : Int) : IsE w anyB (rLong n) (eLong n) := by unfold eLong IsE IsEs rLong; simp [ba]
theorem is_two {w : World} {g off c : Nat} {rx ry : R7} {x y : Ex} (k : Int) (hg : g < w.heap.size) (a1 : At7 w g off rx) (a2 : At7 w g (off + 7) ry) (h1 : IsE w anyB rx x) (h2 : IsE w anyB ry y) : IsE w anyB (rOp k g off 2 c) (eOp k [x, y]) := by
  unfold eOp IsE rOp
  refine ⟨rfl, rfl, rfl, rfl, rfl, rfl, rfl, ?_⟩
  unfold IsEs
  refine ⟨⟨rx, g, off, rfl, trivial, hg, by simpa using a1, h1⟩, ?_⟩
  unfold IsEs
  refine ⟨⟨ry, g, off, rfl, trivial, hg, by simpa using a2, h2⟩, ?_⟩
  unfold IsEs
  trivial
theorem is_one {w : World} {g off c : Nat} {rx : R7} {x : Ex} (k : Int) (s : List UInt8) (hg : g < w.heap.size) (a1 : At7 w g off rx) (h1 : IsE w anyB rx x) : IsE w anyB ⟨k, false, 0, ba s, ⟨#[]⟩, ⟨#[]⟩, some ⟨g, off, none⟩, 1, c⟩ (eTx k s [x]) := by
  unfold eTx IsE
  refine ⟨rfl, rfl, rfl, rfl, rfl, rfl, rfl, ?_⟩
  unfold IsEs
  refine ⟨⟨rx, g, off, rfl, trivial, hg, by simpa using a1, h1⟩, ?_⟩
  unfold IsEs
  trivial

/-- A tree's text, at once. -/
theorem shows_of {x : Ex} {m : Nat} {X : List UInt8} (h1 : depE x ≤ m) (h2 : okS x = true) (h3 : showE x = X) (h4 : X.length ≤ 10000000000000) : ∀ (r : R7) (w : World), Tab6 w → IsE w anyB r x → Calls Tryd.prog 11 #[r.val] w fun e w' => e = .returned (.string (ba X)) ∧ Below w.heap.size w w' := by
  have := shows_all anyB m x h1 h2 (by rw [h3]; exact h4)
  unfold Shows at this
  rw [h3] at this
  exact this

theorem alloc2_fst (w : World) (o o' : Obj) : (((w.alloc o).alloc o').drew).heap[w.heap.size]? = some o := kept_of_below (newS (w.alloc o) o') (alloc_heap w o)
theorem alloc2_snd (w : World) (o o' : Obj) : (((w.alloc o).alloc o').drew).heap[w.heap.size + 1]? = some o' := by
  have := alloc_heap (w.alloc o) o'
  rw [show (w.alloc o).heap.size = w.heap.size + 1 by simp] at this
  exact this
theorem alloc2_below (w : World) (o o' : Obj) : Below w.heap.size w (((w.alloc o).alloc o').drew) := ((newS w o).trans ((newS (w.alloc o) o').mono (newS w o).size)).drew
theorem box_at {w : World} {b : Nat} {r : R7} {T : TypeId} {fr : Nat × Nat} (h : w.heap[b]? = some (.cells #[.int .i64 r.k, .bool r.b, .int .i64 r.n, .string r.s, .string r.t, .string r.i, .slice r.lo r.ll r.lc] T fr)) : At7 w b 0 r :=
  at7_blk h 0 r rfl rfl rfl rfl rfl rfl rfl

def kn1 : Ex := eOp 15 [eLong 1, eOp 15 [eLong 2, eLong 3]]
def kn2 : Ex := eOp 15 [eOp 15 [eLong 1, eLong 2], eLong 3]
theorem kn1_text : showE kn1 = [49, 32, 45, 32, 40, 50, 32, 45, 32, 51, 41] := by decide +kernel
theorem kn2_text : showE kn2 = [49, 32, 45, 32, 50, 32, 45, 32, 51] := by decide +kernel

set_option maxHeartbeats 4000000 in
set_option maxRecDepth 1000000 in
theorem known6_any (w : World) (hT : Tab6 w) : Calls Tryd.prog 8 #[] w fun e w' => e = .returned (.bool true) ∧ Below w.heap.size w w' := by
  have S1 := shows_of (m := 5) (x := kn1) (by decide +kernel) (by decide +kernel) kn1_text (by decide)
  have S2 := shows_of (m := 5) (x := kn2) (by decide +kernel) (by decide +kernel) kn2_text (by decide)
  have HS1 := hide S1
  have HS2 := hide S2
  have HT := hide hT
  clear S1 S2 hT
  go_enter Tryd.func8, Tryd.ntmps8
  go_upto_region 2 with fail
  have n1 := newS w (.cells #[.int .i64 2, .bool false, .int .i64 1, .string ⟨#[]⟩, .string ⟨#[]⟩, .string ⟨#[]⟩, .slice none 0 0, .int .i64 2, .bool false, .int .i64 2, .string ⟨#[]⟩, .string ⟨#[]⟩, .string ⟨#[]⟩, .slice none 0 0, .int .i64 2, .bool false, .int .i64 3, .string ⟨#[]⟩, .string ⟨#[]⟩, .string ⟨#[]⟩, .slice none 0 0] 32)
  have Z1 : (w.alloc (.cells #[.int .i64 2, .bool false, .int .i64 1, .string ⟨#[]⟩, .string ⟨#[]⟩, .string ⟨#[]⟩, .slice none 0 0, .int .i64 2, .bool false, .int .i64 2, .string ⟨#[]⟩, .string ⟨#[]⟩, .string ⟨#[]⟩, .slice none 0 0, .int .i64 2, .bool false, .int .i64 3, .string ⟨#[]⟩, .string ⟨#[]⟩, .string ⟨#[]⟩, .slice none 0 0] 32)).heap[w.heap.size]? = some (.cells #[.int .i64 2, .bool false, .int .i64 1, .string ⟨#[]⟩, .string ⟨#[]⟩, .string ⟨#[]⟩, .slice none 0 0, .int .i64 2, .bool false, .int .i64 2, .string ⟨#[]⟩, .string ⟨#[]⟩, .string ⟨#[]⟩, .slice none 0 0, .int .i64 2, .bool false, .int .i64 3, .string ⟨#[]⟩, .string ⟨#[]⟩, .string ⟨#[]⟩, .slice none 0 0] 32 (0, 0)) := alloc_heap _ _
  generalize w.alloc _ = w1 at *
  have x0 : w1.cell? ⟨w.heap.size, 0, none⟩ = some (.int .i64 2) := by rw [Lib.cell_of_heap Z1]; rfl
  have x1 : w1.cell? ⟨w.heap.size, 1, none⟩ = some (.bool false) := by rw [Lib.cell_of_heap Z1]; rfl
  have x2 : w1.cell? ⟨w.heap.size, 2, none⟩ = some (.int .i64 1) := by rw [Lib.cell_of_heap Z1]; rfl
  have x3 : w1.cell? ⟨w.heap.size, 3, none⟩ = some (.string ⟨#[]⟩) := by rw [Lib.cell_of_heap Z1]; rfl
  have x4 : w1.cell? ⟨w.heap.size, 4, none⟩ = some (.string ⟨#[]⟩) := by rw [Lib.cell_of_heap Z1]; rfl
  have x5 : w1.cell? ⟨w.heap.size, 5, none⟩ = some (.string ⟨#[]⟩) := by rw [Lib.cell_of_heap Z1]; rfl
  have x6 : w1.cell? ⟨w.heap.size, 6, none⟩ = some (.slice none 0 0) := by rw [Lib.cell_of_heap Z1]; rfl
  have hlt : w.heap.size < w1.heap.size := (Array.getElem?_eq_some_iff.1 Z1).1
  go_cut [2] from 8 (fun s2 wc => ∃ b2 ba : Nat, s2 = .pointer (some ⟨b2, 0, none⟩) ∧ Below w1.heap.size w1 wc ∧ wc.heap[b2]? = some (.cells #[.int .i64 15, .bool false, .int .i64 0, .string ⟨#[]⟩, .string ⟨#[]⟩, .string ⟨#[]⟩, .slice (some ⟨ba, 0, none⟩) 2 2] 32 (0, 0)) ∧ wc.heap[ba]? = some (.cells #[.int .i64 2, .bool false, .int .i64 1, .string ⟨#[]⟩, .string ⟨#[]⟩, .string ⟨#[]⟩, .slice none 0 0, .int .i64 15, .bool false, .int .i64 0, .string ⟨#[]⟩, .string ⟨#[]⟩, .string ⟨#[]⟩, .slice (some ⟨w.heap.size, 7, none⟩) 2 2] 32 (0, 0)))
  case first =>
    go_region
    · go_wp2_with fail
      go_meet
      case rel => exact ⟨w1.heap.size + 1, w1.heap.size, rfl, alloc2_below _ _ _, alloc2_snd _ _ _, alloc2_fst _ _ _⟩
    · go_wp2_with fail
      go_meet
      case rel => exact ⟨w1.heap.size, w1.heap.size + 1, rfl, alloc2_below _ _ _, alloc2_fst _ _ _, alloc2_snd _ _ _⟩
  obtain ⟨b2, ba2, rfl, bw2, Y2, Y3⟩ := hcut
  obtain ⟨w2, rfl⟩ : ∃ w2, w2 = wc := ⟨_, rfl⟩
  clear x0 x1 x2 x3 x4 x5 x6
  have Z2 := kept_of_below bw2 Z1
  have x0 : w2.cell? ⟨w.heap.size, 14, none⟩ = some (.int .i64 2) := by rw [Lib.cell_of_heap Z2]; rfl
  have x1 : w2.cell? ⟨w.heap.size, 15, none⟩ = some (.bool false) := by rw [Lib.cell_of_heap Z2]; rfl
  have x2 : w2.cell? ⟨w.heap.size, 16, none⟩ = some (.int .i64 3) := by rw [Lib.cell_of_heap Z2]; rfl
  have x3 : w2.cell? ⟨w.heap.size, 17, none⟩ = some (.string ⟨#[]⟩) := by rw [Lib.cell_of_heap Z2]; rfl
  have x4 : w2.cell? ⟨w.heap.size, 18, none⟩ = some (.string ⟨#[]⟩) := by rw [Lib.cell_of_heap Z2]; rfl
  have x5 : w2.cell? ⟨w.heap.size, 19, none⟩ = some (.string ⟨#[]⟩) := by rw [Lib.cell_of_heap Z2]; rfl
  have x6 : w2.cell? ⟨w.heap.size, 20, none⟩ = some (.slice none 0 0) := by rw [Lib.cell_of_heap Z2]; rfl
  have hlt2 : w.heap.size < w2.heap.size := (Array.getElem?_eq_some_iff.1 Z2).1
  go_upto_region 3 with fail
  go_cut [3] from 16 (fun s3 wd => ∃ b3 bb : Nat, s3 = .pointer (some ⟨b3, 0, none⟩) ∧ Below w2.heap.size w2 wd ∧ wd.heap[b3]? = some (.cells #[.int .i64 15, .bool false, .int .i64 0, .string ⟨#[]⟩, .string ⟨#[]⟩, .string ⟨#[]⟩, .slice (some ⟨bb, 0, none⟩) 2 2] 32 (0, 0)) ∧ wd.heap[bb]? = some (.cells #[.int .i64 15, .bool false, .int .i64 0, .string ⟨#[]⟩, .string ⟨#[]⟩, .string ⟨#[]⟩, .slice (some ⟨w.heap.size, 0, none⟩) 2 3, .int .i64 2, .bool false, .int .i64 3, .string ⟨#[]⟩, .string ⟨#[]⟩, .string ⟨#[]⟩, .slice none 0 0] 32 (0, 0)))
  case first =>
    go_region
    · go_wp2_with fail
      go_meet
      case rel => exact ⟨w2.heap.size + 1, w2.heap.size, rfl, alloc2_below _ _ _, alloc2_snd _ _ _, alloc2_fst _ _ _⟩
    · go_wp2_with fail
      go_meet
      case rel => exact ⟨w2.heap.size, w2.heap.size + 1, rfl, alloc2_below _ _ _, alloc2_fst _ _ _, alloc2_snd _ _ _⟩
  obtain ⟨b3, bb, rfl, bw3, Y4, Y5⟩ := hcut
  clear x0 x1 x2 x3 x4 x5 x6
  have Z3 := kept_of_below bw3 Z2
  have Y2 := kept_of_below bw3 Y2
  have Y3 := kept_of_below bw3 Y3
  have b02 := n1.trans (bw2.mono n1.size)
  have b03 := b02.trans (bw3.mono b02.size)
  have sz : ∀ {k : Nat} {o : Obj}, wc.heap[k]? = some o → k < wc.heap.size := fun h => (Array.getElem?_eq_some_iff.1 h).1
  have E1 : IsE wc anyB (rOp 15 ba2 0 2 2) kn1 := is_two 15 (sz Y3) (at7_blk Y3 0 (rLong 1) rfl rfl rfl rfl rfl rfl rfl) (at7_blk Y3 7 (rOp 15 w.heap.size 7 2 2) rfl rfl rfl rfl rfl rfl rfl) (is_long _ _) (is_two 15 (sz Z3) (at7_blk Z3 7 (rLong 2) rfl rfl rfl rfl rfl rfl rfl) (at7_blk Z3 14 (rLong 3) rfl rfl rfl rfl rfl rfl rfl) (is_long _ _) (is_long _ _))
  have E2 : IsE wc anyB (rOp 15 bb 0 2 2) kn2 := is_two 15 (sz Y5) (at7_blk Y5 0 (rOp 15 w.heap.size 0 2 3) rfl rfl rfl rfl rfl rfl rfl) (at7_blk Y5 7 (rLong 3) rfl rfl rfl rfl rfl rfl rfl) (is_two 15 (sz Z3) (at7_blk Z3 0 (rLong 1) rfl rfl rfl rfl rfl rfl rfl) (at7_blk Z3 7 (rLong 2) rfl rfl rfl rfl rfl rfl rfl) (is_long _ _) (is_long _ _)) (is_long _ _)
  have C1 := unhide HS1 _ wc ((unhide HT).below b03) E1
  have HE2 := hide E2
  unfold rOp R7.val at C1
  simp only at C1
  obtain ⟨y0, y1, y2, y3, y4, y5, y6, _⟩ := blk7 Y2
  clear E1 E2 HS1
  have q1 : ((ba [49, 32, 45, 32, 40, 50, 32, 45, 32, 51, 41]).toList == [49, 32, 45, 32, 40, 50, 32, 45, 32, 51, 41]) = true := by rw [ba_list]; rfl
  have q2 : ((ba [49, 32, 45, 32, 50, 32, 45, 32, 51]).toList == [49, 32, 45, 32, 50, 32, 45, 32, 51]) = true := by rw [ba_list]; rfl
  go_wp2_with fail
  refine C1.mono ?_
  rintro e w4 ⟨rfl, b4⟩
  have b04 := b03.trans (b4.mono b03.size)
  have C2 := unhide HS2 _ w4 ((unhide HT).below b04) (IsE.turn b4.size (fun b hb hb2 => ⟨b4.block b hb2, hb⟩) _ _ (unhide HE2))
  unfold rOp R7.val at C2
  simp only at C2
  clear y0 y1 y2 y3 y4 y5 y6 C1
  obtain ⟨y0, y1, y2, y3, y4, y5, y6, _⟩ := blk7 (kept_of_below b4 Y4)
  go_wp2_with fail
  refine C2.mono ?_
  rintro e w5 ⟨rfl, b5⟩
  go_wp2
  go_ret
  exact ⟨rfl, b04.trans (b5.mono b04.size)⟩
end Go.Proofs.YtpblalklenebhaaDoor
