/-
  ents.copyEntity: what it returns.
-/
import Derived.Test.YtnbbimcooilmdaaGreatEcD
namespace Go.Proofs.YtnbbimcooilmdaaGreat
open Go.RowKit Go.Sort

/-- What each slot of the region holds. -/
def ceSp (B E g n j W5 : Nat) (x : R7) (G : GV) : Nat → Value → World → Prop
  | 0, v, _ => v = .pointer (some ⟨B, 3, none⟩)
  | 1, v, _ => v = .slice (some ⟨g, 0, none⟩) n n
  | 2, v, _ => v = .int .i64 j
  | 3, v, _ => v = .pointer (some ⟨E, 1, none⟩)
  | 4, v, _ => v = .agg #[.int .i64 x.k, .bool x.b, .int .i64 x.n, .string x.s, .string x.t, .string x.i, .slice x.lo x.ll x.lc]
  | 5, v, w => ∃ y : R7, v = .agg #[.int .i64 y.k, .bool y.b, .int .i64 y.n, .string y.s, .string y.t, .string y.i, .slice y.lo y.ll y.lc] ∧ IsGP w (fun b => W5 ≤ b) G y
  | 6, v, _ => v = .pointer (some ⟨g, j * 8, none⟩)
  | 7, v, _ => v = .pointer (some ⟨g, j * 8 + 1, none⟩)
  | _ + 8, _, _ => True
theorem ceSp_up {B E g n j W5 : Nat} {x : R7} {G : GV} {w w' : World} (hb : Below w.heap.size w w') : ∀ i u, ceSp B E g n j W5 x G i u w → ceSp B E g n j W5 x G i u w'
  | 0, _, h | 1, _, h | 2, _, h | 3, _, h | 4, _, h | 6, _, h | 7, _, h => h
  | 5, _, ⟨y, e, h⟩ => ⟨y, e, h.below hb⟩
  | _ + 8, _, _ => trivial

/-- What the loop keeps. -/
structure CeInv (w : World) (B3 : Nat) (t i : ByteArray) (po ao : Option Addr) (m n : Nat) (p : EntP) (j : Nat) (wr : World) (rs : List A8) : Prop where
  below : Below w.heap.size w wr
  size : B3 ≤ wr.heap.size
  h1 : wr.heap[w.heap.size]? = some (.cells #[.string t, .string i, .slice po m m, .slice ao n n] 29 (0, 0))
  h2 : wr.heap[w.heap.size + 1]? = some (.cells #[.string ⟨#[]⟩, .string ⟨#[]⟩, .slice none 0 0, .slice none 0 0] 29 (0, 0))
  rowU : RowG wr po 2 (p.ps.map U2.cells)
  rowA : RowG wr ao 8 (rs.map A8.cells)
  fz : ∀ ad, ao = some ad → ∀ o, wr.frozen? ⟨ad.block, o, none⟩ = false
  len : rs.length = n
  at_ : IsAs wr (fun k b => (∀ ad, ao = some ad → b ≠ ad.block) ∧ (k < j → w.heap.size + 2 ≤ b)) rs p.ats

theorem ceInv_step {w : World} {B3 : Nat} {t i : ByteArray} {po : Option Addr} {m n g : Nat} {p : EntP} {j W5 : Nat} {wr w' : World} {rs : List A8} {y : R7} (h : CeInv w B3 t i po (some ⟨g, 0, none⟩) m n p j wr rs)
    (hj : j < rs.length) (hj' : j < p.ats.length) (hg : w.heap.size + 2 ≤ g) (hgw : g < wr.heap.size) (hpo : ∀ ad, po = some ad → ad.block ≠ g) (hW : wr.heap.size ≤ W5) (b6 : Below wr.heap.size wr w') (hy : IsGP w' (fun b => W5 ≤ b) p.ats[j].2 y) :
    CeInv w B3 t i po (some ⟨g, 0, none⟩) m n p (j + 1) (w'.setCells g (j * 8 + 1) y.cells) (rs.set j ⟨rs[j].nm, y⟩) := by
  have h1' := kept_of_below b6 h.h1
  have h2' := kept_of_below b6 h.h2
  have hs : (w'.setCells g (j * 8 + 1) y.cells).heap.size = w'.heap.size := size_setCells _ _ _
  refine ⟨belowSetCells _ _ _ (h.below.trans (b6.mono h.below.size)) (by omega), by rw [hs]; exact Nat.le_trans h.size b6.size, (heap_setCells (by omega) _ _ _).trans h1', (heap_setCells (by omega) _ _ _).trans h2', ?_, ?_, ?_, by simpa using h.len, ?_⟩
  · exact (h.rowU.below b6).turn (by rw [hs]; exact Nat.le_refl _) fun ad e _ _ => heap_setCells (hpo ad e) _ _ _
  · rw [List.map_set]
    exact rowG_set (lenA rs) (h.rowA.below b6) (by simpa using hj) rfl (fun k hk => by
      obtain rfl : k = 0 := by omega
      simp [A8.cells]) (fun k => by rw [Nat.add_comm]; rfl)
  · intro ad e o
    cases e
    rw [World.frozen?_setCells]
    exact (b6.frozen (p := ⟨g, o, none⟩) hgw).trans (h.fz _ rfl o)
  · have hlen := h.at_.1
    refine ⟨by simpa using hlen, fun k hk hk' => ?_⟩
    have hk1 : k < rs.length := by simpa using hk
    by_cases e : j = k
    · subst e
      rw [List.getElem_set_self]
      refine ⟨(h.at_.2 j hj hk').1, hy.turn (by rw [hs]; exact Nat.le_refl _) fun b hb hb2 => ⟨heap_setCells (by omega) _ _ _, fun ad e => ?_, fun _ => by omega⟩⟩
      cases e
      show b ≠ g
      omega
    · rw [List.getElem_set_ne e]
      obtain ⟨e1, h1⟩ := h.at_.2 k hk1 hk'
      refine ⟨e1, h1.turn (by rw [hs]; exact b6.size) fun b hb hb2 => ⟨(heap_setCells (hb.1 _ rfl) _ _ _).trans (b6.block b hb2), hb.1, fun hkj => hb.2 (by omega)⟩⟩

set_option maxHeartbeats 4000000 in
set_option maxRecDepth 1000000 in
theorem copyEntity_any (e : E4) (p : EntP) (P : Nat → Prop) (w : World) (H : IsEnt w P e p) (hf : p.fits) :
    Calls Tryz.prog 32 #[e.val] w fun x w' => ∃ e' : E4, x = .returned e'.val ∧ Below w.heap.size w w' ∧ IsEnt w' (fun b => w.heap.size ≤ b) e' p := by
  obtain ⟨et, ei, po, m, pc, ao, n, ac⟩ := e
  obtain ⟨rs, hal, hrA, hdrop, hAs⟩ := H.ats
  clear hdrop
  have hu := H.u
  have hpl := H.pl
  have hrU := H.rowU
  simp only at hal hrA hu hpl hrU
  clear H
  have b2 := below2 w (.cells #[.string et, .string ei, .slice po m pc, .slice ao n ac] 29) (.cells #[.string ⟨#[]⟩, .string ⟨#[]⟩, .slice none 0 0, .slice none 0 0] 29)
  have LU := listUid_any p.ps po pc _ hf.1 (hrU.below b2)
  have LA := fun w' hb => listAttr_any rs ao ac w' (by rw [hAs.1]; exact hf.2.1) (hrA.below hb)
  rw [← hpl] at LU
  rw [← hal] at LA
  have HAs := hide (hAs.turn (w' := w) (P' := fun _ b => b < w.heap.size) (Nat.le_refl _) (fun _ b _ hb => ⟨rfl, hb⟩))
  have HF := hide hf.2.2
  have HU := hide hu
  have HPL := hide hpl
  have HAL := hide hal
  have hm0 : m ≤ 1048576 := by rw [hpl]; exact hf.1
  have hn0 : n ≤ 1048576 := by rw [hal, hAs.1]; exact hf.2.1
  clear hrU hrA hAs hf hu hpl hal
  unfold E4.val
  simp only
  go_enter Tryz.func32, Tryz.ntmps32
  go_wp2_with fail
  generalize hw2 : (w.alloc _).alloc _ = w2 at *
  have z2 : w2.heap.size = w.heap.size + 2 := by rw [← hw2]; simp
  have H1 : w2.heap[w.heap.size]? = some (.cells #[.string et, .string ei, .slice po m pc, .slice ao n ac] 29 (0, 0)) := by
    rw [← hw2, Below.heap_alloc _ _ _ (by simp)]
    exact alloc_heap _ _
  have H2 : w2.heap[w.heap.size + 1]? = some (.cells #[.string ⟨#[]⟩, .string ⟨#[]⟩, .slice none 0 0, .slice none 0 0] 29 (0, 0)) := by
    rw [← hw2]
    have := alloc_heap (w.alloc (.cells #[.string et, .string ei, .slice po m pc, .slice ao n ac] 29)) (.cells #[.string ⟨#[]⟩, .string ⟨#[]⟩, .slice none 0 0, .slice none 0 0] 29)
    rwa [size1] at this
  clear hw2
  refine LU.mono ?_
  rintro e w3 ⟨po', rfl, b3, own3⟩
  clear LU
  have H1 := kept_of_below b3 H1
  have H2 := kept_of_below b3 H2
  have b03 := b2.trans (b3.mono b2.size)
  have z3 := b3.size
  have x2 : w3.cell? ⟨w.heap.size, 2, none⟩ = some (.slice po m pc) := by rw [Lib.cell_of_heap H1]; rfl
  have x3 : w3.cell? ⟨w.heap.size, 3, none⟩ = some (.slice ao n ac) := by rw [Lib.cell_of_heap H1]; rfl
  have f2 : ∀ o, w3.frozen? ⟨w.heap.size, o, none⟩ = false := fun o => Lib.frozen_of_heap H1 o
  have b04 := b03.setCell (p := ⟨w.heap.size, 2, none⟩) (Nat.le_refl _) (.slice po' m m)
  have G1 := heap_setCell_same w3 w.heap.size 2 _ _ (.slice po' m m) H1
  have G2 := (Below.heap_setCell w3 ⟨w.heap.size, 2, none⟩ (.slice po' m m) (w.heap.size + 1) (by show w.heap.size + 1 ≠ w.heap.size; omega)).trans H2
  have own4 : OwnR (w3.setCell ⟨w.heap.size, 2, none⟩ (.slice po' m m)) w2.heap.size 25 po' (p.ps.map U2.cells) := by
    rcases own3 with h | ⟨h0, g, hg, e, h⟩
    · exact .inl h
    · exact .inr ⟨h0, g, hg, e, (Below.heap_setCell w3 ⟨w.heap.size, 2, none⟩ (.slice po' m m) g (by show g ≠ w.heap.size; omega)).trans h⟩
  have z4 : (w3.setCell ⟨w.heap.size, 2, none⟩ (.slice po' m m)).heap.size = w3.heap.size := by simp
  clear own3 H1 H2 b2 b3
  go_wp2_with fail
  clear x2 x3 f2
  generalize w3.setCell ⟨w.heap.size, 2, none⟩ (.slice po' m m) = w4 at *
  simp only [List.setIfInBounds_toArray, List.set_cons_succ, List.set_cons_zero] at G1
  refine (LA w4 b04).mono ?_
  rintro e w5 ⟨ao', rfl, b5, own5⟩
  clear LA
  have H1 := kept_of_below b5 G1
  have H2 := kept_of_below b5 G2
  have b05 := b04.trans (b5.mono b04.size)
  have z5 := b5.size
  have own5u := own4.below b5
  have x3 : w5.cell? ⟨w.heap.size, 3, none⟩ = some (.slice ao n ac) := by rw [Lib.cell_of_heap H1]; rfl
  have f3 : ∀ o, w5.frozen? ⟨w.heap.size, o, none⟩ = false := fun o => Lib.frozen_of_heap H1 o
  have b06 := b05.setCell (p := ⟨w.heap.size, 3, none⟩) (Nat.le_refl _) (.slice ao' n n)
  have G1' := heap_setCell_same w5 w.heap.size 3 _ _ (.slice ao' n n) H1
  have G2' := (Below.heap_setCell w5 ⟨w.heap.size, 3, none⟩ (.slice ao' n n) (w.heap.size + 1) (by show w.heap.size + 1 ≠ w.heap.size; omega)).trans H2
  have own6u : OwnR (w5.setCell ⟨w.heap.size, 3, none⟩ (.slice ao' n n)) w2.heap.size 25 po' (p.ps.map U2.cells) := by
    rcases own5u with h | ⟨h0, g, hg, e, h⟩
    · exact .inl h
    · exact .inr ⟨h0, g, hg, e, (Below.heap_setCell w5 ⟨w.heap.size, 3, none⟩ (.slice ao' n n) g (by show g ≠ w.heap.size; omega)).trans h⟩
  have own6 : OwnR (w5.setCell ⟨w.heap.size, 3, none⟩ (.slice ao' n n)) w4.heap.size 56 ao' (rs.map A8.cells) := by
    rcases own5 with h | ⟨h0, g, hg, e, h⟩
    · exact .inl h
    · exact .inr ⟨h0, g, hg, e, (Below.heap_setCell w5 ⟨w.heap.size, 3, none⟩ (.slice ao' n n) g (by show g ≠ w.heap.size; omega)).trans h⟩
  have z6 : (w5.setCell ⟨w.heap.size, 3, none⟩ (.slice ao' n n)).heap.size = w5.heap.size := by simp
  have hpo : ∀ ad, po' = some ad → w.heap.size + 2 ≤ ad.block ∧ ad.block < w4.heap.size := by
    rcases own4 with ⟨_, e⟩ | ⟨_, g, hg, e, h⟩
    · intro ad h; rw [e] at h; cases h
    · intro ad h'
      rw [e] at h'
      cases h'
      have h2 := (Array.getElem?_eq_some_iff.1 h).1
      exact ⟨by show _ ≤ g; omega, h2⟩
  clear own4 own5 own5u H1 H2 G1 G2 b5
  go_wp2
  clear x3 f3
  generalize w5.setCell ⟨w.heap.size, 3, none⟩ (.slice ao' n n) = w6 at *
  simp only [List.setIfInBounds_toArray, List.set_cons_succ, List.set_cons_zero] at G1'
  have hao : ∀ ad, ao' = some ad → ad.off = 0 ∧ w4.heap.size ≤ ad.block := by
    rcases own6 with ⟨_, e⟩ | ⟨_, g, hg, e, h⟩
    · intro ad h; rw [e] at h; cases h
    · intro ad h'; rw [e] at h'; cases h'; exact ⟨rfl, hg⟩
  have hfz : ∀ ad, ao' = some ad → ∀ o, w6.frozen? ⟨ad.block, o, none⟩ = false := by
    rcases own6 with ⟨_, e⟩ | ⟨_, g, _, e, h⟩
    · intro ad h; rw [e] at h; cases h
    · intro ad h' o; rw [e] at h'; cases h'; exact Lib.frozen_of_heap h o
  have inv0 : CeInv w w4.heap.size et ei po' ao' m n p 0 w6 rs :=
    ⟨b06, by omega, G1', G2', own6u.row (lenU _), own6.row (lenA _), hfz, (unhide HAL).symm, (unhide HAs).turn (by have := b06.size; omega) (fun _ b hb _ => ⟨b06.block b hb, fun ad e => by have := (hao ad e).2; have := b04.size; omega, fun h => absurd h (Nat.not_lt_zero _)⟩)⟩
  have Hpo := hide hpo
  have Hao := hide hao
  have H0 := hide inv0
  clear hpo hao hfz own6 own6u G1' G2' inv0 HAL HAs
  go_loopw [16] (fun iv wr => ∃ (j : Nat) (rs : List A8), j ≤ n ∧ iv = .int .i64 j ∧ CeInv w w4.heap.size et ei po' ao' m n p j wr rs) (fun iv _ => n - (intOf iv).toNat)
  case atStart => exact ⟨0, rs, by omega, rfl, unhide H0⟩
  case round =>
    clear H0 rs
    obtain ⟨j, rs, hj, rfl, inv⟩ := hrel
    have hbw := inv.below
    have hsz := inv.size
    by_cases hlt : j < n
    · have i1 : (j : Int) < (n : Int) := by omega
      have hjr : j < rs.length := by rw [inv.len]; exact hlt
      have hja : j < p.ats.length := by rw [← inv.at_.1]; exact hjr
      obtain ⟨g, off, rfl, hg, hcell⟩ := rowG_at inv.rowA (Below.refl _ wr) hjr
      obtain ⟨hoff, hgB⟩ := unhide Hao _ rfl
      have hoff : off = 0 := hoff
      subst hoff
      have hgB : w4.heap.size ≤ g := hgB
      have hpg : ∀ ad, po' = some ad → ad.block ≠ g := fun ad e => by have := (unhide Hpo ad e).2; omega
      have hz4 : w.heap.size + 2 ≤ w4.heap.size := by omega
      have hIG := (inv.at_.2 j hjr hja).2.1
      have hGl := unhide HF p.ats[j] (List.getElem_mem _)
      have STEP := fun (W5 : Nat) (w' : World) (y : R7) (hW : wr.heap.size ≤ W5) (b6 : Below wr.heap.size wr w') (hy : IsGP w' (fun b => W5 ≤ b) p.ats[j].2 y) => ceInv_step inv hjr hja (by omega) hg hpg hW b6 hy
      obtain ⟨x, hx⟩ : ∃ x, x = rs[j] := ⟨_, rfl⟩
      rw [← hx] at hcell hIG STEP
      have A : AtE8 wr g (j * 8) x := by
        have h := hcell
        simp only [Nat.zero_add] at h
        exact AtE8.of h
      have h1 := inv.h1
      have HST := hide STEP
      have HIG := hide hIG
      have Hfr := hide (inv.fz _ rfl)
      clear hcell hx hIG STEP inv
      obtain ⟨xn, xv⟩ := x
      have A5 : AtE8 (wr.alloc (.cells #[.string xn, .int .i64 xv.k, .bool xv.b, .int .i64 xv.n, .string xv.s, .string xv.t, .string xv.i, .slice xv.lo xv.ll xv.lc] 56)) wr.heap.size 0 ⟨xn, xv⟩ := ⟨by simp, by simp, by simp, by simp, by simp, by simp, by simp, by simp⟩
      have b5 := below1 wr (.cells #[.string xn, .int .i64 xv.k, .bool xv.b, .int .i64 xv.n, .string xv.s, .string xv.t, .string xv.i, .slice xv.lo xv.ll xv.lc] 56)
      have z5 := size1 wr (.cells #[.string xn, .int .i64 xv.k, .bool xv.b, .int .i64 xv.n, .string xv.s, .string xv.t, .string xv.i, .slice xv.lo xv.ll xv.lc] 56)
      obtain ⟨a0, a1, a2, a3, a4, a5, a6, a7⟩ := A
      simp only at a0 a1 a2 a3 a4 a5 a6 a7
      go_upto_region 6 with fail
      have A : AtE8 wr g (j * 8) ⟨xn, xv⟩ := ⟨a0, a1, a2, a3, a4, a5, a6, a7⟩
      clear a0 a1 a2 a3 a4 a5 a6 a7
      have H1 := kept_of_below b5 h1
      generalize wr.alloc _ = w7 at *
      refine wp_specs_put 8 (ceSp w.heap.size wr.heap.size g n j w7.heap.size xv p.ats[j].2) (fun w' => Below w7.heap.size w7 w') (by kernel_rfl) (by kernel_rfl) (Below.refl _ w7).drew ?_ ?_
      · intro i o hi ho a' w' hR hdep hslot K hK
        have H1' := kept_of_below hR H1
        have c3 : w'.cell? ⟨w.heap.size, 3, none⟩ = some (.slice (some ⟨g, 0, none⟩) n n) := by rw [Lib.cell_of_heap H1']; rfl
        have b' := b5.trans (hR.mono b5.size)
        obtain ⟨d0, d1, d2, d3, d4, d5, d6, d7⟩ := A5.below hR (by omega)
        simp only [Nat.zero_add] at d1 d2 d3 d4 d5 d6 d7
        have hc : i = 0 ∨ i = 1 ∨ i = 2 ∨ i = 3 ∨ i = 4 ∨ i = 5 ∨ i = 6 ∨ i = 7 := by omega
        rcases hc with rfl | rfl | rfl | rfl | rfl | rfl | rfl | rfl
        · cases ho
          have e : a'.tmps.getD 1 undef = .pointer (some ⟨w.heap.size, 0, none⟩) := hslot 1 (by decide)
          unfold Oper.wp
          go_simp
          exact hK _ _ rfl hR (fun _ _ h => h)
        · cases ho
          have e : a'.tmps.getD 21 undef = .pointer (some ⟨w.heap.size, 3, none⟩) := hdep 0 (by kernel_rfl)
          unfold Oper.wp
          go_simp
          exact hK _ _ rfl hR (fun _ _ h => h)
        · cases ho
          have e : a'.tmps.getD 3 undef = .int .i64 j := hslot 3 (by decide)
          unfold Oper.wp
          go_simp
          exact hK _ _ rfl hR (fun _ _ h => h)
        · cases ho
          have e : a'.tmps.getD 4 undef = .pointer (some ⟨wr.heap.size, 0, none⟩) := hslot 4 (by decide)
          unfold Oper.wp
          go_simp
          exact hK _ _ rfl hR (fun _ _ h => h)
        · cases ho
          have e : a'.tmps.getD 24 undef = .pointer (some ⟨wr.heap.size, 1, none⟩) := hdep 3 (by kernel_rfl)
          unfold Oper.wp
          go_simp
          exact hK _ _ rfl hR (fun _ _ h => h)
        · cases ho
          have e : a'.tmps.getD 25 undef = .agg #[.int .i64 xv.k, .bool xv.b, .int .i64 xv.n, .string xv.s, .string xv.t, .string xv.i, .slice xv.lo xv.ll xv.lc] := hdep 4 (by kernel_rfl)
          have CV := copyValue_any p.ats[j].2 xv w' (IsG.below (unhide HIG) b') hGl
          unfold R7.val at CV
          clear d0 d1 d2 d3 d4 d5 d6 d7 c3
          unfold Oper.wp
          go_simp
          refine CV.mono ?_
          rintro e w8 ⟨y, rfl, b8, hy⟩
          exact hK _ _ ⟨y, rfl, hy.turn (Nat.le_refl _) fun b hb _ => ⟨rfl, Nat.le_trans hR.size hb⟩⟩ (hR.trans (b8.mono hR.size)) (ceSp_up b8)
        · cases ho
          have e1 : a'.tmps.getD 22 undef = .slice (some ⟨g, 0, none⟩) n n := hdep 1 (by kernel_rfl)
          have e2 : a'.tmps.getD 23 undef = .int .i64 j := hdep 2 (by kernel_rfl)
          have k0 : (0 : Int) ≤ (j : Int) := by omega
          unfold Oper.wp
          go_simp
          exact hK _ _ (by simp [ceSp]) hR (fun _ _ h => h)
        · cases ho
          have e : a'.tmps.getD 27 undef = .pointer (some ⟨g, j * 8, none⟩) := hdep 6 (by kernel_rfl)
          unfold Oper.wp
          go_simp
          exact hK _ _ rfl hR (fun _ _ h => h)
      · intro v w' hR hall
        have f0 := hall 0 (by decide)
        have f1 := hall 1 (by decide)
        have f2 := hall 2 (by decide)
        have f3 := hall 3 (by decide)
        have f4 := hall 4 (by decide)
        obtain ⟨y, f5, hy⟩ := hall 5 (by decide)
        have f6 := hall 6 (by decide)
        have f7 := hall 7 (by decide)
        unfold ceSp at f0 f1 f2 f3 f4 f6 f7
        have b6 := b5.trans (hR.mono b5.size)
        have NEXT := hide (unhide HST w7.heap.size w' y b5.size b6 hy)
        obtain ⟨a0, a1, a2, a3, a4, a5, a6, a7⟩ := A.below b6 hg
        simp only at a0 a1 a2 a3 a4 a5 a6 a7
        have F6 : ∀ o, w'.frozen? ⟨g, o, none⟩ = false := fun o => (b6.frozen (p := ⟨g, o, none⟩) hg).trans (unhide Hfr o)
        clear hall A A5 H1 h1 hy
        simp only [putAll, dstOf, List.getElem?_cons_zero, List.getElem?_cons_succ, Option.bind_some, List.drop_succ_cons, List.drop_zero, f0, f1, f2, f3, f4, f5, f6, f7]
        clear f0 f1 f2 f3 f4 f5 f6 f7
        simp only [Act.put, List.setIfInBounds_toArray, List.set_cons_succ, List.set_cons_zero]
        go_wp2
        go_roundw
        case rel => exact ⟨j + 1, _, by omega, by go_num, unhide NEXT⟩
        case measure =>
          simp only [intOf]
          omega
    · obtain rfl : j = n := by omega
      have i1 : ¬ (j : Int) < (j : Int) := by omega
      have h1 := inv.h1
      have h2 := inv.h2
      have c0 : wr.cell? ⟨w.heap.size, 0, none⟩ = some (.string et) := by rw [Lib.cell_of_heap h1]; rfl
      have c1 : wr.cell? ⟨w.heap.size, 1, none⟩ = some (.string ei) := by rw [Lib.cell_of_heap h1]; rfl
      have c2 : wr.cell? ⟨w.heap.size, 2, none⟩ = some (.slice po' m m) := by rw [Lib.cell_of_heap h1]; rfl
      have c3 : wr.cell? ⟨w.heap.size, 3, none⟩ = some (.slice ao' j j) := by rw [Lib.cell_of_heap h1]; rfl
      have d0 : wr.cell? ⟨w.heap.size + 1, 0, none⟩ = some (.string ⟨#[]⟩) := by rw [Lib.cell_of_heap h2]; rfl
      have d1 : wr.cell? ⟨w.heap.size + 1, 1, none⟩ = some (.string ⟨#[]⟩) := by rw [Lib.cell_of_heap h2]; rfl
      have d2 : wr.cell? ⟨w.heap.size + 1, 2, none⟩ = some (.slice none 0 0) := by rw [Lib.cell_of_heap h2]; rfl
      have d3 : wr.cell? ⟨w.heap.size + 1, 3, none⟩ = some (.slice none 0 0) := by rw [Lib.cell_of_heap h2]; rfl
      have df : ∀ o, wr.frozen? ⟨w.heap.size + 1, o, none⟩ = false := fun o => Lib.frozen_of_heap h2 o
      have Hb := hide (belowSetCells (b := w.heap.size + 1) [.string et, .string ei, .slice po' m m, .slice ao' j j] 0 wr hbw (Nat.le_succ _))
      have hkb : ∀ b, b ≠ w.heap.size + 1 → (wr.setCells (w.heap.size + 1) 0 [.string et, .string ei, .slice po' m m, .slice ao' j j]).heap[b]? = wr.heap[b]? := fun b hb => heap_setCells hb _ _ _
      have hs : (wr.setCells (w.heap.size + 1) 0 [.string et, .string ei, .slice po' m m, .slice ao' j j]).heap.size = wr.heap.size := size_setCells _ _ _
      have lt4 : w.heap.size + 2 ≤ w4.heap.size := by omega
      have fin : IsEnt (wr.setCells (w.heap.size + 1) 0 [.string et, .string ei, .slice po' m m, .slice ao' j j]) (fun b => w.heap.size ≤ b) ⟨et, ei, po', m, m, ao', j, j⟩ p := by
        refine ⟨unhide HU, unhide HPL, inv.rowU.turn (by omega) (fun ad e _ _ => hkb _ (by have := (unhide Hpo ad e).1; omega)), fun ad e _ => by have := (unhide Hpo ad e).1; omega, rs, inv.len.symm, inv.rowA.turn (by omega) (fun ad e _ _ => hkb _ (by have := (unhide Hao ad e).2; omega)), fun ad e _ => by have := (unhide Hao ad e).2; omega, ?_⟩
        refine ⟨inv.at_.1, fun k hk hk' => ⟨(inv.at_.2 k hk hk').1, (inv.at_.2 k hk hk').2.turn (by omega) fun b hb _ => ?_⟩⟩
        have := hb.2 (by have := inv.len; omega)
        exact ⟨hkb b (by omega), by omega⟩
      have Hfin := hide fin
      clear h1 h2 inv fin hkb hs
      go_wp2
      exact bodyPost_ret (v := .agg #[.string et, .string ei, .slice po' m m, .slice ao' j j]) (by simp [results, Tryz.results32, go_sem, d0, d1, d2, d3]) rfl ⟨⟨et, ei, po', m, m, ao', j, j⟩, rfl, unhide Hb, unhide Hfin⟩
end Go.Proofs.YtnbbimcooilmdaaGreat
