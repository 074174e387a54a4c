/-
  chancellaw5.Entity: what its slots hold.
-/
import Derived.Test.YthmmplmppchfmaaElAO
namespace Go.Proofs.Ythmmplmppchfmaa
open Go.RowKit Go.Sort

/-- A letter out of a byte. -/
theorem conv_letter (b m : Nat) (W : World) (hm : m < 100) (h : W.heap[b]? = some (.cells #[.int .u8 (97 + (m : Int))] 5 (0, 0))) : (convert 37 9 (.slice (some ⟨b, 0, none⟩) 1 1)).run Try.prog W = .ok (.string (letS m)) W := by
  obtain ⟨c, hc⟩ : ∃ c, c = UInt8.ofNat (97 + m) := ⟨_, rfl⟩
  have hcn : (c.toNat : Int) = 97 + (m : Int) := by
    rw [hc, UInt8.toNat_ofNat']
    omega
  have e1 : letS m = ⟨#[c]⟩ := by rw [hc]; rfl
  rw [e1]
  refine run_convert_bytes_back _ 37 9 5 ⟨b, 0, none⟩ 1 [c] Try.underlying37 Try.underlying5 Try.underlying9 ?_
  intro j hj
  have hj0 : j = 0 := by simpa using hj
  subst hj0
  show _ = some (Value.int .u8 ((c.toNat : Nat) : Int))
  rw [hcn, Addr.add_lit, Lib.cell_of_heap h]
  rfl
theorem letS_of (n : Int) (m : Nat) (h : (m : Int) = n % 5) : letS m = idE n := by
  unfold idE
  rw [← h]
  rfl
theorem infoUidE : (Try.prog.info? 28).map (fun i => (i.zero, i.size, i.bytes)) = some (some (.agg #[.string ⟨#[]⟩, .string ⟨#[]⟩]), 2, 32) := by kernel_rfl
theorem infoAttrE : (Try.prog.info? 51).map (fun i => (i.zero, i.size, i.bytes)) = some (some (.agg #[.string ⟨#[]⟩, .int .i64 0, .bool false, .int .i64 0, .string ⟨#[]⟩, .string ⟨#[]⟩, .string ⟨#[]⟩, .slice none 0 0]), 8, 112) := by kernel_rfl
theorem sizeVals (W : World) : (sizeOf (Try.prog.elem 47)).run Try.prog W = .ok 7 W := by kernel_rfl
theorem run_cutV_h (ao : Option Addr) (n cap k : Nat) (hk : k ≤ cap) (W : World) : (Instr.slice 47 (.slice ao n cap) none (some (.int .i64 k)) none).run Try.prog W = .ok (.slice ao k cap) W := by
  rw [run_slice_h (P := Try.prog) (w := W) 47 ao n cap (by kernel_rfl) .i64 k (by omega) (by omega)]
  rw [sizeVals]
  have e0 : ∀ a : Addr, a.add 0 = a := fun a => by unfold Addr.add; simp
  cases ao <;> simp [sliced, Result.andThen, e0]

def en1Sp (B W2 m : Nat) (t n : Int) (kt ls : ByteArray) : Nat → Value → World → Prop
  | 0, v, _ => v = .pointer (some ⟨B, 0, none⟩)
  | 1, v, _ => v = .int .i64 t
  | 2, v, _ => v = .string kt
  | 3, v, _ => v = .pointer (some ⟨B, 1, none⟩)
  | 4, v, _ => v = .int .i64 n
  | 5, v, _ => v = .int .i64 m
  | 6, v, _ => v = .int .i64 (97 + (m : Int))
  | 7, v, _ => v = .int .u8 (97 + (m : Int))
  | 8, v, w => ∃ b, v = .slice (some ⟨b, 0, none⟩) 1 1 ∧ w.heap[b]? = some (.cells #[.int .u8 (97 + (m : Int))] 5 (0, 0))
  | 9, v, _ => v = .string ls
  | 10, v, _ => v = .agg #[.string kt, .string ls]
  | 11, v, _ => v = .agg #[.string kt, .string ls, .slice none 0 0, .slice none 0 0]
  | 12, v, w => ∃ E, v = .pointer (some ⟨E, 0, none⟩) ∧ W2 ≤ E ∧ w.heap[E]? = some (.cells #[.string ⟨#[]⟩, .string ⟨#[]⟩, .slice none 0 0, .slice none 0 0] 40 (0, 0))
  | _ + 13, _, _ => True
theorem en1Sp_up {B W2 m : Nat} {t n : Int} {kt ls : ByteArray} {w w' : World} (hb : Below w.heap.size w w') : ∀ q u, en1Sp B W2 m t n kt ls q u w → en1Sp B W2 m t n kt ls q u w'
  | 0, _, h | 1, _, h | 2, _, h | 3, _, h | 4, _, h | 5, _, h | 6, _, h | 7, _, h | 9, _, h | 10, _, h | 11, _, h => h
  | 8, _, ⟨b, e, h⟩ => ⟨b, e, kept_of_below hb h⟩
  | 12, _, ⟨E, e, h1, h⟩ => ⟨E, e, h1, kept_of_below hb h⟩
  | _ + 13, _, _ => trivial
def en2Sp (B E pb poff i m : Nat) (x : Int) (lv sv : Value) (kx ls : ByteArray) : Nat → Value → World → Prop
  | 0, v, _ => v = .pointer (some ⟨E, 2, none⟩)
  | 1, v, _ => v = lv
  | 2, v, _ => v = .pointer (some ⟨B, 2, none⟩)
  | 3, v, _ => v = sv
  | 4, v, _ => v = .int .i64 i
  | 5, v, _ => v = .pointer (some ⟨pb, poff + i, none⟩)
  | 6, v, _ => v = .int .i64 x
  | 7, v, _ => v = .string kx
  | 8, v, _ => v = .pointer (some ⟨B, 2, none⟩)
  | 9, v, _ => v = sv
  | 10, v, _ => v = .int .i64 i
  | 11, v, _ => v = .pointer (some ⟨pb, poff + i, none⟩)
  | 12, v, _ => v = .int .i64 x
  | 13, v, _ => v = .int .i64 (wrap64 (x.tdiv 4))
  | 14, v, _ => v = .int .i64 m
  | 15, v, _ => v = .int .i64 (97 + (m : Int))
  | 16, v, _ => v = .int .u8 (97 + (m : Int))
  | 17, v, w => ∃ b, v = .slice (some ⟨b, 0, none⟩) 1 1 ∧ w.heap[b]? = some (.cells #[.int .u8 (97 + (m : Int))] 5 (0, 0))
  | 18, v, _ => v = .string ls
  | 19, v, _ => v = .agg #[.string kx, .string ls]
  | 20, v, w => ∃ b, v = .slice (some ⟨b, 0, none⟩) 1 1 ∧ w.heap[b]? = some (.cells #[.string kx, .string ls] 28 (0, 0))
  | _ + 21, _, _ => True
theorem en2Sp_up {B E pb poff i m : Nat} {x : Int} {lv sv : Value} {kx ls : ByteArray} {w w' : World} (hb : Below w.heap.size w w') : ∀ q u, en2Sp B E pb poff i m x lv sv kx ls q u w → en2Sp B E pb poff i m x lv sv kx ls q u w'
  | 0, _, h | 1, _, h | 2, _, h | 3, _, h | 4, _, h | 5, _, h | 6, _, h | 7, _, h | 8, _, h | 9, _, h | 10, _, h | 11, _, h | 12, _, h | 13, _, h | 14, _, h | 15, _, h | 16, _, h | 18, _, h | 19, _, h => h
  | 17, _, ⟨b, e, h⟩ => ⟨b, e, kept_of_below hb h⟩
  | 20, _, ⟨b, e, h⟩ => ⟨b, e, kept_of_below hb h⟩
  | _ + 21, _, _ => trivial
def en3Sp (B E nb noff j : Nat) (x : Int) (lv sv : Value) (nm : ByteArray) (R : R7) : Nat → Value → World → Prop
  | 0, v, _ => v = .pointer (some ⟨E, 3, none⟩)
  | 1, v, _ => v = lv
  | 2, v, _ => v = .pointer (some ⟨B, 3, none⟩)
  | 3, v, _ => v = sv
  | 4, v, _ => v = .int .i64 j
  | 5, v, _ => v = .pointer (some ⟨nb, noff + j, none⟩)
  | 6, v, _ => v = .int .i64 x
  | 7, v, _ => v = .string nm
  | 8, v, _ => v = .agg #[.int .i64 R.k, .bool R.b, .int .i64 R.n, .string R.s, .string R.t, .string R.i, .slice R.lo R.ll R.lc]
  | 9, v, _ => v = .agg #[.string nm, .int .i64 R.k, .bool R.b, .int .i64 R.n, .string R.s, .string R.t, .string R.i, .slice R.lo R.ll R.lc]
  | 10, v, w => ∃ b, v = .slice (some ⟨b, 0, none⟩) 1 1 ∧ w.heap[b]? = some (.cells #[.string nm, .int .i64 R.k, .bool R.b, .int .i64 R.n, .string R.s, .string R.t, .string R.i, .slice R.lo R.ll R.lc] 51 (0, 0))
  | _ + 11, _, _ => True
theorem en3Sp_up {B E nb noff j : Nat} {x : Int} {lv sv : Value} {nm : ByteArray} {R : R7} {w w' : World} (hb : Below w.heap.size w w') : ∀ q u, en3Sp B E nb noff j x lv sv nm R q u w → en3Sp B E nb noff j x lv sv nm R q u w'
  | 0, _, h | 1, _, h | 2, _, h | 3, _, h | 4, _, h | 5, _, h | 6, _, h | 7, _, h | 8, _, h | 9, _, h => h
  | 10, _, ⟨b, e, h⟩ => ⟨b, e, kept_of_below hb h⟩
  | _ + 11, _, _ => trivial

/-- What the second loop keeps. -/
structure EnInv (w : World) (B E W5 : Nat) (xb : Array Value) (kt ls : ByteArray) (pv lv : Value) (us : List U2) (l : List (ByteArray × GV)) (wr : World) (rs : List A8) : Prop where
  below : Below w.heap.size w wr
  size : W5 ≤ wr.heap.size
  h1 : wr.heap[B]? = some (.cells xb 45 (0, 0))
  h2 : wr.heap[B + 1]? = some (.cells #[.string ⟨#[]⟩, .string ⟨#[]⟩, .slice none 0 0, .slice none 0 0] 40 (0, 0))
  hE : wr.heap[E]? = some (.cells #[.string kt, .string ls, pv, lv] 40 (0, 0))
  rowU : ∃ ao cap, pv = .slice ao us.length cap ∧ RowG wr ao 2 (us.map U2.cells) ∧ ∀ ad, ao = some ad → E < ad.block ∧ ad.block < W5
  own : wr.ownsRow W5 51 8 lv rs.length (rs.map A8.cells).flatten
  nil : rs = [] → lv.ownBlock = none
  at_ : IsAs wr (fun _ _ => True) rs l
theorem enInv_step {w : World} {B E W5 : Nat} {xb : Array Value} {kt ls : ByteArray} {pv lv lv' : Value} {us : List U2} {l : List (ByteArray × GV)} {wr w' w6 : World} {rs : List A8} {nm : ByteArray} {R : R7} {G : GV}
    (h : EnInv w B E W5 xb kt ls pv lv us l wr rs) (hB : w.heap.size ≤ B) (hBE : B + 1 < E) (hEW : E < W5) (b' : Below wr.heap.size wr w') (hG : IsG w' G R)
    (hown : w6.ownsRow W5 51 8 lv' (rs.length + 1) ((rs.map A8.cells).flatten ++ [.string nm, .int .i64 R.k, .bool R.b, .int .i64 R.n, .string R.s, .string R.t, .string R.i, .slice R.lo R.ll R.lc])) (hgr : w'.grownBy w6 lv.ownBlock) :
    EnInv w B E W5 xb kt ls pv lv' us (l ++ [(nm, G)]) (w6.setCell ⟨E, 3, none⟩ lv') (rs ++ [⟨nm, R⟩]) := by
  have hlt := h.own.lt
  have hne : ∀ k, k < W5 → some k ≠ lv.ownBlock := fun k hk e => by
    have := (hlt k e.symm).1
    omega
  have hk6 : ∀ k, k < wr.heap.size → some k ≠ lv.ownBlock → w6.heap[k]? = wr.heap[k]? := fun k hk hn => (hgr.block k (Nat.lt_of_lt_of_le hk b'.size) hn).trans (b'.block k hk)
  have hk7 : ∀ k, k ≠ E → (w6.setCell ⟨E, 3, none⟩ lv').heap[k]? = w6.heap[k]? := fun k hk => Below.heap_setCell w6 ⟨E, 3, none⟩ lv' k hk
  have hs7 : (w6.setCell ⟨E, 3, none⟩ lv').heap.size = w6.heap.size := by simp
  have hsz := h.size
  have s6 := hgr.size
  have s5 := b'.size
  have hbel := h.below.size
  have b6 : Below w.heap.size w w6 := (h.below.trans (b'.mono h.below.size)).grown hgr (by omega) (fun k e => by have := (hlt k e).1; omega)
  -- what stays: values, whose blocks are no row of attributes
  have keep : ∀ (g : GV) (r : R7), IsG w' g r → IsGP (w6.setCell ⟨E, 3, none⟩ lv') (fun _ => True) g r := fun g r hg => by
    have hE' := kept_of_below b' h.hE
    have e1 : IsGP w' (fun k => k ≠ E) g r := hg.other (b := E) (s := kt) (by rw [Lib.cell_of_heap hE']; rfl)
    have e2 : IsGP w' (fun k => some k ≠ lv.ownBlock) g r := by
      rcases h.own.2 with ⟨hv, _⟩ | ⟨g', cap, cur, hv, hB', hg', hcap, _, hcs, hxs⟩
      · rw [hv]
        exact ⟨hg, fun _ _ _ => (by intro e; cases e)⟩
      · by_cases h0 : rs.length = 0
        · have := h.nil (List.eq_nil_of_length_eq_zero h0)
          rw [hv] at this
          cases this
        · have hc : w'.cell? ⟨g', 0, none⟩ = some (.string rs[0].nm) := by
            rw [Lib.cell_of_heap (kept_of_below b' hg')]
            have h3 : ((rs.map A8.cells).flatten)[0]? = some (.string rs[0].nm) := by
              have := flat_get (rs.map A8.cells) (lenA _) 0 0 (by simpa using Nat.pos_of_ne_zero h0) (by decide)
              simpa [A8.cells] using this
            rw [← hxs, List.getElem?_take] at h3
            split at h3
            · simpa using h3
            · cases h3
          have := hg.other hc
          rw [hv]
          exact ⟨hg, fun ad e hl hk => this.2 ad e hl (by cases hk; rfl)⟩
    have e3 : IsGP w' (fun k => k ≠ E ∧ some k ≠ lv.ownBlock) g r := ⟨hg, fun ad e hl => ⟨e1.2 ad e hl, e2.2 ad e hl⟩⟩
    exact e3.turn (by omega) fun b hb hl => ⟨(hk7 b hb.1).trans (hgr.block b hl hb.2), trivial⟩
  refine ⟨b6.setCell (p := ⟨E, 3, none⟩) (by show w.heap.size ≤ E; omega) lv', by omega, (hk7 B (by omega)).trans ((hk6 B (by omega) (hne B (by omega))).trans h.h1), (hk7 (B + 1) (by omega)).trans ((hk6 (B + 1) (by omega) (hne (B + 1) (by omega))).trans h.h2), ?_, ?_, ?_, fun e => by simp at e, ?_⟩
  · have hE6 := (hk6 E (by omega) (hne E hEW)).trans h.hE
    have := heap_setCell_same w6 E 3 _ _ lv' hE6
    simpa using this
  · obtain ⟨ao, cap, e, hr, had⟩ := h.rowU
    refine ⟨ao, cap, e, hr.turn (by omega) fun ad e1 _ hl => ?_, had⟩
    have := had ad e1
    exact (hk7 _ (by omega)).trans (hk6 _ hl (hne _ this.2))
  · rw [List.length_append, List.map_append, List.flatten_append]
    refine ⟨by simpa [A8.cells] using hown.1, hown.2.imp id fun ⟨g, cap, cur, h1, h2, h3, h4⟩ => ⟨g, cap, cur, h1, h2, (hk7 g (by omega)).trans h3, ?_⟩⟩
    simpa [A8.cells] using h4
  · have hl := h.at_.1
    refine ⟨by simp [hl], fun k h1 h2 => ?_⟩
    rcases Nat.lt_or_ge k rs.length with hk | hk
    · rw [List.getElem_append_left hk, List.getElem_append_left (by omega)]
      obtain ⟨e1, e2⟩ := h.at_.2 k hk (by omega)
      exact ⟨e1, keep _ _ (IsG.below e2.1 b')⟩
    · have hk' : k = rs.length := by simp at h1; omega
      subst hk'
      rw [List.getElem_append_right (Nat.le_refl _), List.getElem_append_right (by omega)]
      simp only [Nat.sub_self, hl, List.getElem_cons_zero]
      exact ⟨by trivial, keep _ _ hG⟩
end Go.Proofs.Ythmmplmppchfmaa
