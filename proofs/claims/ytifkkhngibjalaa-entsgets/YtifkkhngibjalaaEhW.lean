/-
  chancellaw8.EntsGets: the walk.
-/
import Derived.Test.YtifkkhngibjalaaEhVB
namespace Go.Proofs.Ytifkkhngibjalaa
open Go.RowKit Go.Sort

def eg6Sp (E : Nat) (lv raw : Value) (G : GV) : Nat → Value → World → Prop
  | 0, v, _ => v = .pointer (some ⟨E, 3, none⟩)
  | 1, v, _ => v = lv
  | 2, v, _ => v = raw
  | 3, v, w => ∃ R : R7, v = .agg #[.int .i64 R.k, .bool R.b, .int .i64 R.n, .string R.s, .string R.t, .string R.i, .slice R.lo R.ll R.lc] ∧ IsG w G R
  | 4, v, w => ∃ R : R7, v = .agg #[.string ⟨#[122, 122]⟩, .int .i64 R.k, .bool R.b, .int .i64 R.n, .string R.s, .string R.t, .string R.i, .slice R.lo R.ll R.lc] ∧ IsG w G R
  | 5, v, _ => v = .agg #[.int .i64 1, .bool false, .int .i64 0, .string ⟨#[]⟩, .string ⟨#[]⟩, .string ⟨#[]⟩, .slice none 0 0]
  | 6, v, _ => v = .agg #[.string ⟨#[122, 122]⟩, .int .i64 1, .bool false, .int .i64 0, .string ⟨#[]⟩, .string ⟨#[]⟩, .string ⟨#[]⟩, .slice none 0 0]
  | 7, v, w => ∃ (R : R7) (b : Nat), v = .slice (some ⟨b, 0, none⟩) 2 2 ∧ w.heap[b]? = some (.cells #[.string ⟨#[122, 122]⟩, .int .i64 R.k, .bool R.b, .int .i64 R.n, .string R.s, .string R.t, .string R.i, .slice R.lo R.ll R.lc, .string ⟨#[122, 122]⟩, .int .i64 1, .bool false, .int .i64 0, .string ⟨#[]⟩, .string ⟨#[]⟩, .string ⟨#[]⟩, .slice none 0 0] 41 (0, 0)) ∧ IsG w G R
  | _ + 8, _, _ => True
theorem eg6Sp_up {E : Nat} {lv raw : Value} {G : GV} {w w' : World} (hb : Below w.heap.size w w') : ∀ q u, eg6Sp E lv raw G q u w → eg6Sp E lv raw G q u w'
  | 0, _, h | 1, _, h | 2, _, h | 5, _, h | 6, _, h => h
  | 3, _, ⟨R, e, h⟩ => ⟨R, e, h.below hb⟩
  | 4, _, ⟨R, e, h⟩ => ⟨R, e, h.below hb⟩
  | 7, _, ⟨R, b, e, h1, h⟩ => ⟨R, b, e, kept_of_below hb h1, h.below hb⟩
  | _ + 8, _, _ => trivial
def eg8Sp (R1 : R7) (raw : Value) (G : GV) : Nat → Value → World → Prop
  | 0, v, _ => v = .bool true
  | 1, v, _ => v = .bool false
  | 2, v, _ => v = .bool false
  | 3, v, _ => v = .agg #[.int .i64 R1.k, .bool R1.b, .int .i64 R1.n, .string R1.s, .string R1.t, .string R1.i, .slice R1.lo R1.ll R1.lc]
  | 4, v, _ => v = raw
  | 5, v, w => ∃ R : R7, v = .agg #[.int .i64 R.k, .bool R.b, .int .i64 R.n, .string R.s, .string R.t, .string R.i, .slice R.lo R.ll R.lc] ∧ IsG w G R
  | 6, v, _ => v = .bool true
  | 7, v, _ => v = .bool false
  | 8, v, _ => v = .bool false
  | _ + 9, _, _ => True
theorem eg8Sp_up {R1 : R7} {raw : Value} {G : GV} {w w' : World} (hb : Below w.heap.size w w') : ∀ q u, eg8Sp R1 raw G q u w → eg8Sp R1 raw G q u w'
  | 0, _, h | 1, _, h | 2, _, h | 3, _, h | 4, _, h | 6, _, h | 7, _, h | 8, _, h => h
  | 5, _, ⟨R, e, h⟩ => ⟨R, e, h.below hb⟩
  | _ + 9, _, _ => trivial
def eg13Sp (E gb go n c j : Nat) (ev : Value) (nm : ByteArray) (G : GV) : Nat → Value → World → Prop
  | 0, v, _ => v = ev
  | 1, v, _ => v = .pointer (some ⟨E, 3, none⟩)
  | 2, v, _ => v = .slice (some ⟨gb, go, none⟩) n c
  | 3, v, _ => v = .int .i64 j
  | 4, v, _ => v = .pointer (some ⟨gb, go + j * 8, none⟩)
  | 5, v, _ => v = .pointer (some ⟨gb, go + j * 8, none⟩)
  | 6, v, _ => v = .string nm
  | 7, v, w => ∃ R : R7, v = .tuple #[.agg #[.int .i64 R.k, .bool R.b, .int .i64 R.n, .string R.s, .string R.t, .string R.i, .slice R.lo R.ll R.lc], .bool true] ∧ IsG w G R
  | 8, v, w => ∃ R : R7, v = .tuple #[.agg #[.int .i64 R.k, .bool R.b, .int .i64 R.n, .string R.s, .string R.t, .string R.i, .slice R.lo R.ll R.lc], .bool true] ∧ IsG w G R
  | 9, v, w => ∃ R : R7, v = .agg #[.int .i64 R.k, .bool R.b, .int .i64 R.n, .string R.s, .string R.t, .string R.i, .slice R.lo R.ll R.lc] ∧ IsG w G R
  | 10, v, _ => v = .bool true
  | 11, v, _ => (∃ V, v = .pointer (some ⟨V, 0, none⟩))
  | 12, v, _ => v = v
  | 13, v, _ => v = .bool true
  | _ + 14, _, _ => True
theorem eg13Sp_up {E gb go n c j : Nat} {ev : Value} {nm : ByteArray} {G : GV} {w w' : World} (hb : ∀ R, IsG w G R → IsG w' G R) : ∀ q u, eg13Sp E gb go n c j ev nm G q u w → eg13Sp E gb go n c j ev nm G q u w'
  | 0, _, h | 1, _, h | 2, _, h | 3, _, h | 4, _, h | 5, _, h | 6, _, h | 10, _, h | 11, _, h | 12, _, h | 13, _, h => h
  | 7, _, ⟨R, e, h⟩ => ⟨R, e, hb R h⟩
  | 8, _, ⟨R, e, h⟩ => ⟨R, e, hb R h⟩
  | 9, _, ⟨R, e, h⟩ => ⟨R, e, hb R h⟩
  | _ + 14, _, _ => trivial

set_option maxHeartbeats 40000000 in
set_option maxRecDepth 1000000 in
theorem egets_walk (x : EntR) (s : ByteArray) (r : RawE) (lo : Option Addr) (es : List RawE) (lc : Nat) (w : World) (hx : x.Ok w) (hrk : r.Ok w) (hel : es.length ≤ 9223372036854775807) (hrr : RowRaw w lo es) :
    Calls Try.prog 3 #[x.val, .string s, .agg #[.int .i64 r.k, .int .i64 r.n, .slice r.so r.xs.length r.sc, .slice lo es.length lc]] w fun e w' => e = .returned (.bool true) ∧ Below w.heap.size w w' := by
  obtain ⟨i0, hi, hz0, hz1, hz2⟩ := info_parts infoAttrE
  have b2 := below2 w (.cells #[.int .i64 x.t, .int .i64 x.n, .slice x.po x.ps.length x.pc, .slice x.no x.ns.length x.nc, .slice x.vo x.vs.length x.vc] 25) (.cells #[.int .i64 r.k, .int .i64 r.n, .slice r.so r.xs.length r.sc, .slice lo es.length lc] 27)
  have GD := fun w' hb => good3_any r lo es lc w' (hrk.below hb) hel (hrr.below hb)
  have HX := hide hx
  clear hx hrk hel hrr
  unfold EntR.val
  go_enter Try.func3, Try.ntmps3
  go_upto_region 1 with fail
  generalize hw2 : (w.alloc _).alloc _ = w2 at *
  have z2 : w2.heap.size = w.heap.size + 2 := by rw [← hw2]; simp
  have H1 : w2.heap[w.heap.size]? = some (.cells #[.int .i64 x.t, .int .i64 x.n, .slice x.po x.ps.length x.pc, .slice x.no x.ns.length x.nc, .slice x.vo x.vs.length x.vc] 25 (0, 0)) := by
    rw [← hw2, Below.heap_alloc _ _ _ (by simp)]
    exact alloc_heap _ _
  have H2 : w2.heap[w.heap.size + 1]? = some (.cells #[.int .i64 r.k, .int .i64 r.n, .slice r.so r.xs.length r.sc, .slice lo es.length lc] 27 (0, 0)) := by
    rw [← hw2]
    have := alloc_heap (w.alloc (.cells #[.int .i64 x.t, .int .i64 x.n, .slice x.po x.ps.length x.pc, .slice x.no x.ns.length x.nc, .slice x.vo x.vs.length x.vc] 25)) (.cells #[.int .i64 r.k, .int .i64 r.n, .slice r.so r.xs.length r.sc, .slice lo es.length lc] 27)
    rwa [size1] at this
  clear hw2
  have K := known8_any w2
  go_wp2_with fail
  refine K.mono ?_
  clear K
  rintro q w3 ⟨rfl, b23⟩
  have b03 := b2.trans (b23.mono b2.size)
  by_cases h100 : 100 < s.size
  · have i100 : (100 : Int) < (s.size : Int) := by omega
    go_wp2
    go_ret
    exact ⟨rfl, b03⟩
  have i100 : ¬ (100 : Int) < (s.size : Int) := by omega
  have H13 := kept_of_below b23 H1
  have H23 := kept_of_below b23 H2
  have c0 : w3.cell? ⟨w.heap.size, 0, none⟩ = some (.int .i64 x.t) := by rw [Lib.cell_of_heap H13]; rfl
  have c1 : w3.cell? ⟨w.heap.size, 1, none⟩ = some (.int .i64 x.n) := by rw [Lib.cell_of_heap H13]; rfl
  have c2 : w3.cell? ⟨w.heap.size, 2, none⟩ = some (.slice x.po x.ps.length x.pc) := by rw [Lib.cell_of_heap H13]; rfl
  have c3 : w3.cell? ⟨w.heap.size, 3, none⟩ = some (.slice x.no x.ns.length x.nc) := by rw [Lib.cell_of_heap H13]; rfl
  have c4 : w3.cell? ⟨w.heap.size, 4, none⟩ = some (.slice x.vo x.vs.length x.vc) := by rw [Lib.cell_of_heap H13]; rfl
  have EN := entity5_own x w3 ((unhide HX).below b03)
  unfold EntR.val at EN
  clear H1 H2 HX
  go_wp2_with fail
  clear c0 c1 c2 c3 c4
  refine EN.mono ?_
  clear EN
  rintro q w4 ⟨b34, e, rs, W5, rfl, he, hal, hown, hAs, hpo, hnil, hW5⟩
  unfold E4.val
  have b04 := b03.trans (b34.mono b03.size)
  have b45 := below1 w4 (.cells #[.string e.t, .string e.i, .slice e.po e.pl e.pc, .slice e.ao e.al e.ac] 34)
  have z5 := size1 w4 (.cells #[.string e.t, .string e.i, .slice e.po e.pl e.pc, .slice e.ao e.al e.ac] 34)
  have HE : (w4.alloc (.cells #[.string e.t, .string e.i, .slice e.po e.pl e.pc, .slice e.ao e.al e.ac] 34)).heap[w4.heap.size]? = some (.cells #[.string e.t, .string e.i, .slice e.po e.pl e.pc, .slice e.ao e.al e.ac] 34 (0, 0)) := alloc_heap _ _
  have b05 := b04.trans (b45.mono b04.size)
  have HB1 := kept_of_below b45 (kept_of_below b34 H23)
  have hlow : ∀ ad, e.po = some ad → (entP x).ps ≠ [] → ad.block < w4.heap.size := fun ad e1 hne => by
    obtain ⟨b, off, e', hb, _⟩ := he.rowU 0 (by simpa using List.length_pos_iff.2 hne)
    rw [e1] at e'
    cases e'
    exact hb
  obtain ⟨W6, hW3, hW4, hown6, hpo6⟩ := own_base hown hpo hlow hW5 b34.size
  clear hown hpo
  have hown := hown6
  have hpo := hpo6
  clear hown6 hpo6
  have hW : w.heap.size + 2 ≤ W6 := by have := b23.size; omega
  have b26 : Below w2.heap.size w2 (w4.alloc (.cells #[.string e.t, .string e.i, .slice e.po e.pl e.pc, .slice e.ao e.al e.ac] 34)) := (b23.trans (b34.mono b23.size)).trans (b45.mono (b23.trans (b34.mono b23.size)).size)
  have hE2 : w.heap.size + 2 ≤ w4.heap.size := by have := b23.size; have := b34.size; omega
  clear H13 H23
  have HAL := hide hal
  clear hal
  go_upto_region 6 with fail
  obtain ⟨E, hE⟩ : ∃ E, E = w4.heap.size := ⟨_, rfl⟩
  rw [← hE] at HE hlow z5 hE2 ⊢
  clear hE
  have b0w := b05
  generalize w4.alloc _ = w5 at *
  have b26z : w.heap.size + 2 ≤ w2.heap.size := by omega
  rw [z2] at b26
  refine wp_specs_put 8 (eg6Sp E (.slice e.ao e.al e.ac) (.agg #[.int .i64 r.k, .int .i64 r.n, .slice r.so r.xs.length r.sc, .slice lo es.length lc]) (goodG r es)) (fun w' => Below w5.heap.size w5 w') (by kernel_rfl) (by kernel_rfl) (Below.refl _ w5).drew ?_ ?_
  · intro q o hq' ho a' w' hR hdep hslot K hK
    have HE' := kept_of_below hR HE
    have cE : w'.cell? ⟨E, 3, none⟩ = some (.slice e.ao e.al e.ac) := by rw [Lib.cell_of_heap HE']; rfl
    have HB' := kept_of_below hR HB1
    have r0 : w'.cell? ⟨w.heap.size + 1, 0, none⟩ = some (.int .i64 r.k) := by rw [Lib.cell_of_heap HB']; rfl
    have r1 : w'.cell? ⟨w.heap.size + 1, 1, none⟩ = some (.int .i64 r.n) := by rw [Lib.cell_of_heap HB']; rfl
    have r2 : w'.cell? ⟨w.heap.size + 1, 2, none⟩ = some (.slice r.so r.xs.length r.sc) := by rw [Lib.cell_of_heap HB']; rfl
    have r3 : w'.cell? ⟨w.heap.size + 1, 3, none⟩ = some (.slice lo es.length lc) := by rw [Lib.cell_of_heap HB']; rfl
    have hc : q = 0 ∨ q = 1 ∨ q = 2 ∨ q = 3 ∨ q = 4 ∨ q = 5 ∨ q = 6 ∨ q = 7 := by omega
    rcases hc with rfl | rfl | rfl | rfl | rfl | rfl | rfl | rfl
    · cases ho
      have e0 : a'.tmps.getD 7 undef = .pointer (some ⟨E, 0, none⟩) := hslot 7 (by decide)
      unfold Oper.wp
      go_simp
      exact hK _ _ rfl hR (fun _ _ h => h)
    · cases ho
      have e0 : a'.tmps.getD 26 undef = .pointer (some ⟨E, 3, none⟩) := hdep 0 (by kernel_rfl)
      unfold Oper.wp
      go_simp
      exact hK _ _ rfl hR (fun _ _ h => h)
    · cases ho
      have e0 : a'.tmps.getD 5 undef = .pointer (some ⟨w.heap.size + 1, 0, none⟩) := hslot 5 (by decide)
      unfold Oper.wp
      go_simp
      exact hK _ _ rfl hR (fun _ _ h => h)
    · cases ho
      have e1 : a'.tmps.getD 28 undef = .agg #[.int .i64 r.k, .int .i64 r.n, .slice r.so r.xs.length r.sc, .slice lo es.length lc] := hdep 2 (by kernel_rfl)
      clear cE r0 r1 r2 r3
      unfold Oper.wp
      go_simp
      refine (GD w' (b0w.trans (hR.mono b0w.size))).mono ?_
      rintro e w9 ⟨b9, R, rfl, hGR⟩
      exact hK _ _ ⟨R, rfl, hGR⟩ (hR.trans (b9.mono hR.size)) (eg6Sp_up b9)
    · cases ho
      obtain ⟨R, e1, hGR⟩ : eg6Sp E (.slice e.ao e.al e.ac) (.agg #[.int .i64 r.k, .int .i64 r.n, .slice r.so r.xs.length r.sc, .slice lo es.length lc]) (goodG r es) 3 (a'.tmps.getD 29 undef) w' := hdep 3 (by kernel_rfl)
      have e1' : a'.tmps[29]?.getD undef = .agg #[.int .i64 R.k, .bool R.b, .int .i64 R.n, .string R.s, .string R.t, .string R.i, .slice R.lo R.ll R.lc] := by simpa using e1
      unfold Oper.wp
      go_simp
      exact hK _ _ ⟨R, rfl, hGR⟩ hR (fun _ _ h => h)
    · cases ho
      unfold Oper.wp
      go_simp
      exact hK _ _ rfl hR (fun _ _ h => h)
    · cases ho
      have e0 : a'.tmps.getD 31 undef = .agg #[.int .i64 1, .bool false, .int .i64 0, .string ⟨#[]⟩, .string ⟨#[]⟩, .string ⟨#[]⟩, .slice none 0 0] := hdep 5 (by kernel_rfl)
      have e0' : a'.tmps[31]?.getD undef = .agg #[.int .i64 1, .bool false, .int .i64 0, .string ⟨#[]⟩, .string ⟨#[]⟩, .string ⟨#[]⟩, .slice none 0 0] := by simpa using e0
      unfold Oper.wp
      go_simp
      exact hK _ _ rfl hR (fun _ _ h => h)
    · cases ho
      obtain ⟨R, e1, hGR⟩ : eg6Sp E (.slice e.ao e.al e.ac) (.agg #[.int .i64 r.k, .int .i64 r.n, .slice r.so r.xs.length r.sc, .slice lo es.length lc]) (goodG r es) 4 (a'.tmps.getD 30 undef) w' := hdep 4 (by kernel_rfl)
      have e1' : a'.tmps[30]?.getD undef = .agg #[.string ⟨#[122, 122]⟩, .int .i64 R.k, .bool R.b, .int .i64 R.n, .string R.s, .string R.t, .string R.i, .slice R.lo R.ll R.lc] := by simpa using e1
      have e2 : a'.tmps.getD 32 undef = .agg #[.string ⟨#[122, 122]⟩, .int .i64 1, .bool false, .int .i64 0, .string ⟨#[]⟩, .string ⟨#[]⟩, .string ⟨#[]⟩, .slice none 0 0] := hdep 6 (by kernel_rfl)
      have e2' : a'.tmps[32]?.getD undef = .agg #[.string ⟨#[122, 122]⟩, .int .i64 1, .bool false, .int .i64 0, .string ⟨#[]⟩, .string ⟨#[]⟩, .string ⟨#[]⟩, .slice none 0 0] := by simpa using e2
      unfold Oper.wp
      go_simp
      exact hK _ _ ⟨R, w'.heap.size, rfl, alloc_heap _ _, hGR.below (below1 _ _)⟩ (hR.alloc hR.size _) (eg6Sp_up (below1 _ _))
  · intro v w' hR hall
    have f0 := hall 0 (by decide)
    have f1 := hall 1 (by decide)
    have f2 := hall 2 (by decide)
    obtain ⟨Ra, f3, _⟩ := hall 3 (by decide)
    obtain ⟨Rb, f4, _⟩ := hall 4 (by decide)
    have f5 := hall 5 (by decide)
    have f6 := hall 6 (by decide)
    obtain ⟨R, gb, f7, hgb, hGR⟩ := hall 7 (by decide)
    unfold eg6Sp at f0 f1 f2 f5 f6
    have b6w := b05.trans (hR.mono b05.size)
    have HE' := kept_of_below hR HE
    have HB' := kept_of_below hR HB1
    obtain ⟨L1, hL1⟩ : ∃ L1, L1 = (rs.map A8.cells).flatten := ⟨_, rfl⟩
    have Hown' := hide (own_below (own_below hown b45) hR)
    rw [← hL1] at Hown'
    have hnb := (unhide Hown').lt
    have HST := hide (fun (w6 : World) (ao6 : Option Addr) (n6 c6 : Nat) h1 h2 => append2_ent (w' := w') (w6 := w6) (E := E) (ao6 := ao6) (n6 := n6) (c6 := c6) (G := goodG r es) (R := R) ((he.below b45).below hR) (unhide HAL) (own_below (own_below hown b45) hR) ((hAs.turn b45.size (fun _ b _ hl => ⟨b45.block b hl, trivial⟩)).turn hR.size (fun _ b _ hl => ⟨hR.block b hl, trivial⟩)) hpo hlow hnil HE' hGR h1 h2)
    rw [← hL1] at HST
    have hrl : rs.length ≤ 3 := by
      have := hAs.1
      have e2 : (entP x).ats.length ≤ 3 := by
        show (((x.ns.zip x.vs).take 3).map atE).length ≤ 3
        rw [List.length_map, List.length_take]
        omega
      omega
    have HHE := hide HE'
    have HHB := hide HB'
    have Hgb := hide hgb
    have HGR := hide hGR
    clear hall hL1 he hown hAs HE HB1 HE' HB' hgb hGR
    simp only [putAll, dstOf, List.getElem?_cons_zero, List.getElem?_cons_succ, Option.bind_some, List.drop_succ_cons, List.drop_zero, f0, f1, f2, f3, f4, f5, f6, f7]
    clear f0 f1 f2 f3 f4 f5 f6 f7
    simp only [Act.put, List.setIfInBounds_toArray, List.set_cons_succ, List.set_cons_zero]
    go_wp2_with (at_builtin; refine wpList_append_own _ rfl _ _ 32 rfl W6 41 i0 _ 8 112 Try.underlying32 hi hz0 hz1 hz2 rfl (by decide) _ _ _ rfl (unhide Hown') ⟨gb, 0, none⟩ 2 2 [.string ⟨#[122, 122]⟩, .int .i64 R.k, .bool R.b, .int .i64 R.n, .string R.s, .string R.t, .string R.i, .slice R.lo R.ll R.lc, .string ⟨#[122, 122]⟩, .int .i64 1, .bool false, .int .i64 0, .string ⟨#[]⟩, .string ⟨#[]⟩, .string ⟨#[]⟩, .slice none 0 0] rfl rfl ?c1 ?c2 ?c3 ?c4 ?c5 ?_)
    case c1 =>
      intro j u hj
      try simp only [Addr.add_lit, Nat.zero_add]
      rw [Lib.cell_of_heap (unhide Hgb)]
      simpa using hj
    case c2 => first | (intro u hu; simp only [List.mem_cons, List.not_mem_nil, or_false] at hu; rcases hu with rfl | rfl | rfl | rfl | rfl | rfl | rfl | rfl | rfl | rfl | rfl | rfl | rfl | rfl | rfl | rfl <;> rfl) | (repeat (first | rfl | refine And.intro rfl ?_))
    case c3 => unfold maxLen; omega
    case c4 => omega
    case c5 => have := hR.size; have := b45.size; omega
    intro v6 w6 hown6 hgrow _
    obtain ⟨ao6, n6, c6, rfl⟩ : ∃ a n c, v6 = .slice a n c := by
      rcases hown6.2 with ⟨h, _⟩ | ⟨g, cap, cur, h, _⟩
      · exact ⟨_, _, _, h⟩
      · exact ⟨_, _, _, h⟩
    obtain ⟨hI, hn6, hE6⟩ := unhide HST w6 ao6 n6 c6 hown6 hgrow
    have hBk : w6.heap[w.heap.size + 1]? = some (.cells #[.int .i64 r.k, .int .i64 r.n, .slice r.so r.xs.length r.sc, .slice lo es.length lc] 27 (0, 0)) := by
      rw [hgrow.block (w.heap.size + 1) (Array.getElem?_eq_some_iff.1 (unhide HHB)).1 (fun h => by have := (hnb _ h.symm).1; omega)]
      exact unhide HHB
    have b06 : Below w.heap.size w w6 := b6w.grown hgrow b6w.size (fun j hj => by have := (hnb j hj).1; omega)
    have hkeep : Below (w.heap.size + 2) w2 w6 := (b26.trans (hR.mono (Nat.le_trans b26z b26.size))).grown hgrow (by have := hR.size; have := b26.size; omega) (fun j hj => by have := (hnb j hj).1; omega)
    have x6 : w6.cell? ⟨E, 3, none⟩ = some (.slice e.ao e.al e.ac) := by rw [Lib.cell_of_heap hE6]; rfl
    have f6 : w6.frozen? ⟨E, 3, none⟩ = false := Lib.frozen_of_heap hE6 3
    have b07 := b06.setCell (p := ⟨E, 3, none⟩) (by show w.heap.size ≤ E; omega) (.slice ao6 n6 c6)
    have hE7 := heap_setCell_same w6 E 3 _ _ (.slice ao6 n6 c6) hE6
    simp only [List.setIfInBounds_toArray, List.set_cons_succ, List.set_cons_zero] at hE7
    have hB7 := (Below.heap_setCell w6 ⟨E, 3, none⟩ (.slice ao6 n6 c6) (w.heap.size + 1) (by show w.heap.size + 1 ≠ E; omega)).trans hBk
    have hk7 := hkeep.setCell (p := ⟨E, 3, none⟩) (by show w.heap.size + 2 ≤ E; omega) (.slice ao6 n6 c6)
    have HI := hide hI
    have HE7 := hide hE7
    have HB7 := hide hB7
    have Hn6 := hide hn6
    clear hown6 hgrow hI hn6 hE6 hBk hE7 hB7 hnb HST Hown' hkeep
    go_upto_region 7 with fail
    clear x6 f6
    generalize w6.setCell ⟨E, 3, none⟩ (.slice ao6 n6 c6) = w7 at *
    have c0 : w7.cell? ⟨E, 0, none⟩ = some (.string e.t) := by rw [Lib.cell_of_heap (unhide HE7)]; rfl
    have c1 : w7.cell? ⟨E, 1, none⟩ = some (.string e.i) := by rw [Lib.cell_of_heap (unhide HE7)]; rfl
    have c2 : w7.cell? ⟨E, 2, none⟩ = some (.slice e.po e.pl e.pc) := by rw [Lib.cell_of_heap (unhide HE7)]; rfl
    have c3 : w7.cell? ⟨E, 3, none⟩ = some (.slice ao6 n6 c6) := by rw [Lib.cell_of_heap (unhide HE7)]; rfl
    have GZ := get_any ⟨e.t, e.i, e.po, e.pl, e.pc, ao6, n6, c6⟩ (p2 (entP x) (goodG r es)) zz (fun _ => True) w7 (unhide HI) (p2_fits (goodG_len r es))
    rw [ents_zz] at GZ
    unfold E4.val zz at GZ
    simp only at GZ
    go_wp2_with fail
    clear c0 c1 c2 c3
    refine GZ.mono ?_
    clear GZ
    rintro q w8 ⟨b8, R1, rfl, hg1⟩
    have hG1 : IsG w8 (goodG r es) R1 := hg1.1
    unfold R7.val
    have b9 := below1 w8 (.cells #[.int .i64 R1.k, .bool R1.b, .int .i64 R1.n, .string R1.s, .string R1.t, .string R1.i, .slice R1.lo R1.ll R1.lc] 38)
    have z9 := size1 w8 (.cells #[.int .i64 R1.k, .bool R1.b, .int .i64 R1.n, .string R1.s, .string R1.t, .string R1.i, .slice R1.lo R1.ll R1.lc] 38)
    have HV : (w8.alloc (.cells #[.int .i64 R1.k, .bool R1.b, .int .i64 R1.n, .string R1.s, .string R1.t, .string R1.i, .slice R1.lo R1.ll R1.lc] 38)).heap[w8.heap.size]? = some (.cells #[.int .i64 R1.k, .bool R1.b, .int .i64 R1.n, .string R1.s, .string R1.t, .string R1.i, .slice R1.lo R1.ll R1.lc] 38 (0, 0)) := alloc_heap _ _
    have b08 := b07.trans (b8.mono b07.size)
    have b09 := b08.trans (b9.mono b08.size)
    have HI9 := hide (((unhide HI).below b8).below b9)
    have HE9 := hide (kept_of_below b9 (kept_of_below b8 (unhide HE7)))
    have HB9 := hide (kept_of_below b9 (kept_of_below b8 (unhide HB7)))
    have HG9 := hide (hG1.below b9)
    clear hg1 hG1 HI HE7 HB7 HHE HHB Hgb HGR b0w b6w
    go_upto_region 8 with fail
    obtain ⟨V, hV⟩ : ∃ V, V = w8.heap.size := ⟨_, rfl⟩
    rw [← hV] at HV z9 ⊢
    clear hV
    have b0w := b09
    have b9' := b9
    clear b9 b8
    generalize w8.alloc _ = w9 at *
    refine wp_specsG 9 (eg8Sp R1 (.agg #[.int .i64 r.k, .int .i64 r.n, .slice r.so r.xs.length r.sc, .slice lo es.length lc]) (goodG r es)) (fun _ _ w' => Below w9.heap.size w9 w') (by kernel_rfl) (by kernel_rfl) (by kernel_rfl) (Below.refl _ w9).drew ?_ ?_ ?_ ?_
    · intro i o ho a' w' hdep
      have hi : i < 9 := (List.getElem?_eq_some_iff.1 ho).1
      have hc : i = 0 ∨ i = 1 ∨ i = 2 ∨ i = 3 ∨ i = 4 ∨ i = 5 ∨ i = 6 ∨ i = 7 ∨ i = 8 := by omega
      rcases hc with rfl | rfl | rfl | rfl | rfl | rfl | rfl | rfl | rfl <;> cases ho
      all_goals first | exact want_none rfl | exact want_some rfl rfl (hdep 2 (by decide) (by kernel_rfl))
    · intro q o hq' ho L a' w' _ _ hR hdep hslot _ K hK
      have HB' := kept_of_below hR (unhide HB9)
      have HV' := kept_of_below hR HV
      have r0 : w'.cell? ⟨w.heap.size + 1, 0, none⟩ = some (.int .i64 r.k) := by rw [Lib.cell_of_heap HB']; rfl
      have r1 : w'.cell? ⟨w.heap.size + 1, 1, none⟩ = some (.int .i64 r.n) := by rw [Lib.cell_of_heap HB']; rfl
      have r2 : w'.cell? ⟨w.heap.size + 1, 2, none⟩ = some (.slice r.so r.xs.length r.sc) := by rw [Lib.cell_of_heap HB']; rfl
      have r3 : w'.cell? ⟨w.heap.size + 1, 3, none⟩ = some (.slice lo es.length lc) := by rw [Lib.cell_of_heap HB']; rfl
      have v0 : w'.cell? ⟨V, 0, none⟩ = some (.int .i64 R1.k) := by rw [Lib.cell_of_heap HV']; rfl
      have v1 : w'.cell? ⟨V, 1, none⟩ = some (.bool R1.b) := by rw [Lib.cell_of_heap HV']; rfl
      have v2 : w'.cell? ⟨V, 2, none⟩ = some (.int .i64 R1.n) := by rw [Lib.cell_of_heap HV']; rfl
      have v3 : w'.cell? ⟨V, 3, none⟩ = some (.string R1.s) := by rw [Lib.cell_of_heap HV']; rfl
      have v4 : w'.cell? ⟨V, 4, none⟩ = some (.string R1.t) := by rw [Lib.cell_of_heap HV']; rfl
      have v5 : w'.cell? ⟨V, 5, none⟩ = some (.string R1.i) := by rw [Lib.cell_of_heap HV']; rfl
      have v6 : w'.cell? ⟨V, 6, none⟩ = some (.slice R1.lo R1.ll R1.lc) := by rw [Lib.cell_of_heap HV']; rfl
      have hc : q = 0 ∨ q = 1 ∨ q = 2 ∨ q = 3 ∨ q = 4 ∨ q = 5 ∨ q = 6 ∨ q = 7 ∨ q = 8 := by omega
      rcases hc with rfl | rfl | rfl | rfl | rfl | rfl | rfl | rfl | rfl
      · cases ho
        have e0 : a'.tmps.getD 9 undef = .bool true := hslot 9 (by decide)
        unfold Oper.wp
        go_simp
        exact hK _ _ rfl hR (fun _ _ h => h)
      · cases ho
        have e0 : a'.tmps.getD 41 undef = .bool true := hdep 0 (by decide) (by kernel_rfl)
        unfold Oper.wp
        go_simp
        exact hK _ _ rfl hR (fun _ _ h => h)
      · cases ho
        have e0 : a'.tmps.getD 42 undef = .bool false := hdep 1 (by decide) (by kernel_rfl)
        unfold Oper.wp
        go_simp
        exact hK _ _ rfl hR (fun _ _ h => h)
      · cases ho
        have e0 : a'.tmps.getD 8 undef = .pointer (some ⟨V, 0, none⟩) := hslot 8 (by decide)
        unfold Oper.wp
        go_simp
        exact hK _ _ rfl hR (fun _ _ h => h)
      · cases ho
        have e0 : a'.tmps.getD 5 undef = .pointer (some ⟨w.heap.size + 1, 0, none⟩) := hslot 5 (by decide)
        unfold Oper.wp
        go_simp
        exact hK _ _ rfl hR (fun _ _ h => h)
      · cases ho
        have e1 : a'.tmps.getD 45 undef = .agg #[.int .i64 r.k, .int .i64 r.n, .slice r.so r.xs.length r.sc, .slice lo es.length lc] := hdep 4 (by decide) (by kernel_rfl)
        clear r0 r1 r2 r3 v0 v1 v2 v3 v4 v5 v6
        unfold Oper.wp
        go_simp
        refine (GD w' (b0w.trans (hR.mono b0w.size))).mono ?_
        rintro e w9 ⟨b9, R, rfl, hGR⟩
        exact hK _ _ ⟨R, rfl, hGR⟩ (hR.trans (b9.mono hR.size)) (eg8Sp_up b9)
      · cases ho
        have e0 : a'.tmps.getD 44 undef = .agg #[.int .i64 R1.k, .bool R1.b, .int .i64 R1.n, .string R1.s, .string R1.t, .string R1.i, .slice R1.lo R1.ll R1.lc] := hdep 3 (by decide) (by kernel_rfl)
        obtain ⟨R, e1, hGR⟩ : eg8Sp R1 (.agg #[.int .i64 r.k, .int .i64 r.n, .slice r.so r.xs.length r.sc, .slice lo es.length lc]) (goodG r es) 5 (a'.tmps.getD 46 undef) w' := hdep 5 (by decide) (by kernel_rfl)
        have SM := r3sameG_true (goodG r es) R1 R w' ((unhide HG9).below hR) hGR (by have := goodG_len r es; omega)
        unfold R7.val at SM
        clear r0 r1 r2 r3 v0 v1 v2 v3 v4 v5 v6
        unfold Oper.wp
        go_simp
        refine SM.mono ?_
        rintro e w9' ⟨rfl, b9⟩
        exact hK _ _ rfl (hR.trans (b9.mono hR.size)) (eg8Sp_up b9)
      · cases ho
        have e0 : a'.tmps.getD 47 undef = .bool true := hdep 6 (by decide) (by kernel_rfl)
        unfold Oper.wp
        go_simp
        exact hK _ _ rfl hR (fun _ _ h => h)
      · cases ho
        have e0 : a'.tmps.getD 43 undef = .bool false := hdep 2 (by decide) (by kernel_rfl)
        have e1 : a'.tmps.getD 48 undef = .bool false := hdep 7 (by decide) (by kernel_rfl)
        unfold Oper.wp
        go_simp
        exact hK _ _ rfl hR (fun _ _ h => h)
    · intro i o hi ho
      exact absurd (List.getElem?_eq_some_iff.1 ho).1 (Nat.not_lt.2 hi)
    · intro v L w' _ hR hall
      have f0 := hall 0 (by decide)
      have f1 := hall 1 (by decide)
      have f2 := hall 2 (by decide)
      have f3 := hall 3 (by decide)
      have f4 := hall 4 (by decide)
      obtain ⟨Ra, f5, _⟩ := hall 5 (by decide)
      have f6 := hall 6 (by decide)
      have f7 := hall 7 (by decide)
      have f8 := hall 8 (by decide)
      unfold eg8Sp at f0 f1 f2 f3 f4 f6 f7 f8
      simp only [putAll, dstOf, List.getElem?_cons_zero, List.getElem?_cons_succ, Option.bind_some, f0, f1, f2, f3, f4, f5, f6, f7, f8]
      clear f0 f1 f2 f3 f4 f5 f6 f7 f8
      simp only [Act.put, List.setIfInBounds_toArray, List.set_cons_succ, List.set_cons_zero]
      have b0x := b0w.trans (hR.mono b0w.size)
      have HIx := hide ((unhide HI9).below hR)
      have HEx := hide (kept_of_below hR (unhide HE9))
      have HFx := hide (p2_fits (r := x) (goodG_len r es))
      generalize p2 (entP x) (goodG r es) = P2 at HIx HFx
      obtain ⟨wA, hwA⟩ : ∃ y, y = w' := ⟨_, rfl⟩
      rw [← hwA] at HIx HEx b0x ⊢
      have hn6 : n6 ≤ 5 := by have := unhide Hn6; omega
      clear hall hR HV HB9 HG9 HI9 HE9 GD b0w b07 b08 b09 b9' z9 hwA hrl
      go_wp2
      go_loopw [10] (fun iv wr => ∃ j : Nat, j ≤ n6 ∧ iv = .int .i64 j ∧ Below wA.heap.size wA wr) (fun iv _ => n6 - (intOf iv).toNat)
      case atStart => exact ⟨0, Nat.zero_le _, rfl, Below.refl _ _⟩
      case round =>
        obtain ⟨j, hj, rfl, hbw⟩ := hrel
        by_cases hlt : j < n6
        · have i1 : (j : Int) < (n6 : Int) := by omega
          have k0 : (0 : Int) ≤ (j : Int) := by omega
          have hI := (unhide HIx).below hbw
          obtain ⟨gb, go, nm, a, rfl, hgb, hnm, ha, hain⟩ := ent_at (j := j) hI hlt
          have HE0 := hide (kept_of_below hbw (unhide HEx))
          have HAL2 := hide ((unhide HFx).2.2 a hain)
          have GP0 := fun w' (hb : Below wr.heap.size wr w') => get_any ⟨e.t, e.i, e.po, e.pl, e.pc, some ⟨gb, go, none⟩, n6, c6⟩ P2 nm (fun _ => True) w' (hI.below hb) (unhide HFx)
          have RP0 := fun w' (hb : Below wr.heap.size wr w') => r8get_any ⟨e.t, e.i, e.po, e.pl, e.pc, some ⟨gb, go, none⟩, n6, c6⟩ P2 nm (fun _ => True) w' (hI.below hb) (unhide HFx)
          simp only [ha] at GP0 RP0
          unfold E4.val at GP0 RP0
          simp only at GP0 RP0
          have GP := hide GP0
          have RP := hide RP0
          have HNM := hide hnm
          have c3 : wr.cell? ⟨E, 3, none⟩ = some (.slice (some ⟨gb, go, none⟩) n6 c6) := by rw [Lib.cell_of_heap (unhide HE0)]; rfl
          clear GP0 RP0 hI hnm ha hain
          go_upto_region 13 with fail
          clear c3
          refine wp_specsD (eg13Sp E gb go n6 c6 j (.agg #[.string e.t, .string e.i, .slice e.po e.pl e.pc, .slice (some ⟨gb, go, none⟩) n6 c6]) nm a.2) (GR 11 wr a.2) (by kernel_rfl) (by kernel_rfl) (by kernel_rfl) ⟨(Below.refl _ wr).drew, fun h => (by cases h), fun h => (by cases h)⟩ ?_ ?_ ?_
          · intro i o d ho hd L a' w' hL hw hRR hdep hslot hsz K hK
            have h14 : i < 14 := dstOf_lt hd
            have hR := hRR.1
            have HEw := kept_of_below hR (unhide HE0)
            have c0 : w'.cell? ⟨E, 0, none⟩ = some (.string e.t) := by rw [Lib.cell_of_heap (HEw)]; rfl
            have c1 : w'.cell? ⟨E, 1, none⟩ = some (.string e.i) := by rw [Lib.cell_of_heap (HEw)]; rfl
            have c2 : w'.cell? ⟨E, 2, none⟩ = some (.slice e.po e.pl e.pc) := by rw [Lib.cell_of_heap (HEw)]; rfl
            have c3 : w'.cell? ⟨E, 3, none⟩ = some (.slice (some ⟨gb, go, none⟩) n6 c6) := by rw [Lib.cell_of_heap (HEw)]; rfl
            have hnmw : w'.cell? ⟨gb, go + j * 8, none⟩ = some (.string nm) := (hR.cell (p := ⟨gb, go + j * 8, none⟩) hgb).trans (unhide HNM)
            have hs7 : a'.tmps.getD 7 undef = .pointer (some ⟨E, 0, none⟩) := hslot 7 (fun i h => by have hl := dstOf_lt h; match i, hl with | 0, _ => cases h | 1, _ => cases h | 2, _ => cases h | 3, _ => cases h | 4, _ => cases h | 5, _ => cases h | 6, _ => cases h | 7, _ => cases h | 8, _ => cases h | 9, _ => cases h | 10, _ => cases h | 11, _ => cases h | 12, _ => cases h | 13, _ => cases h)
            have hs10 : a'.tmps.getD 10 undef = .int .i64 j := hslot 10 (fun i h => by have hl := dstOf_lt h; match i, hl with | 0, _ => cases h | 1, _ => cases h | 2, _ => cases h | 3, _ => cases h | 4, _ => cases h | 5, _ => cases h | 6, _ => cases h | 7, _ => cases h | 8, _ => cases h | 9, _ => cases h | 10, _ => cases h | 11, _ => cases h | 12, _ => cases h | 13, _ => cases h)
            have hc : i = 0 ∨ i = 1 ∨ i = 2 ∨ i = 3 ∨ i = 4 ∨ i = 5 ∨ i = 6 ∨ i = 7 ∨ i = 8 ∨ i = 9 ∨ i = 10 ∨ i = 11 ∨ i = 12 ∨ i = 13 := by omega
            rcases hc with rfl | rfl | rfl | rfl | rfl | rfl | rfl | rfl | rfl | rfl | rfl | rfl | rfl | rfl
            · cases ho
              cases hd
              have e0 : a'.tmps.getD 7 undef = .pointer (some ⟨E, 0, none⟩) := hs7
              unfold Oper.wp
              go_simp
              exact hK _ _ rfl (hRR.step (Below.refl _ w') 0 58 _ (by decide) (by decide) (by decide)) (fun _ _ h => h)
            · cases ho
              cases hd
              have e0 : a'.tmps.getD 7 undef = .pointer (some ⟨E, 0, none⟩) := hs7
              unfold Oper.wp
              go_simp
              exact hK _ _ rfl (hRR.step (Below.refl _ w') 1 59 _ (by decide) (by decide) (by decide)) (fun _ _ h => h)
            · cases ho
              cases hd
              have e0 : a'.tmps.getD 59 undef = .pointer (some ⟨E, 3, none⟩) := hdep 1 59 rfl (by kernel_rfl)
              unfold Oper.wp
              go_simp
              exact hK _ _ rfl (hRR.step (Below.refl _ w') 2 60 _ (by decide) (by decide) (by decide)) (fun _ _ h => h)
            · cases ho
              cases hd
              have e0 : a'.tmps.getD 10 undef = .int .i64 j := hs10
              unfold Oper.wp
              go_simp
              exact hK _ _ rfl (hRR.step (Below.refl _ w') 3 61 _ (by decide) (by decide) (by decide)) (fun _ _ h => h)
            · cases ho
              cases hd
              have e0 : a'.tmps.getD 60 undef = .slice (some ⟨gb, go, none⟩) n6 c6 := hdep 2 60 rfl (by kernel_rfl)
              have e1 : a'.tmps.getD 61 undef = .int .i64 j := hdep 3 61 rfl (by kernel_rfl)
              unfold Oper.wp
              go_simp
              exact hK _ _ rfl (hRR.step (Below.refl _ w') 4 62 _ (by decide) (by decide) (by decide)) (fun _ _ h => h)
            · cases ho
              cases hd
              have e0 : a'.tmps.getD 62 undef = .pointer (some ⟨gb, go + j * 8, none⟩) := hdep 4 62 rfl (by kernel_rfl)
              unfold Oper.wp
              go_simp
              exact hK _ _ rfl (hRR.step (Below.refl _ w') 5 63 _ (by decide) (by decide) (by decide)) (fun _ _ h => h)
            · cases ho
              cases hd
              have e0 : a'.tmps.getD 63 undef = .pointer (some ⟨gb, go + j * 8, none⟩) := hdep 5 63 rfl (by kernel_rfl)
              unfold Oper.wp
              go_simp
              exact hK _ _ rfl (hRR.step (Below.refl _ w') 6 64 _ (by decide) (by decide) (by decide)) (fun _ _ h => h)
            · cases ho
              cases hd
              have e0 : a'.tmps.getD 58 undef = .agg #[.string e.t, .string e.i, .slice e.po e.pl e.pc, .slice (some ⟨gb, go, none⟩) n6 c6] := hdep 0 58 rfl (by kernel_rfl)
              have e1 : a'.tmps.getD 64 undef = .string nm := hdep 6 64 rfl (by kernel_rfl)
              clear c0 c1 c2 c3 hnmw
              unfold Oper.wp
              go_simp
              refine (unhide GP w' hR).mono ?_
              rintro q w9' ⟨b9, R, rfl, hg⟩
              exact hK _ _ ⟨R, rfl, hg.1⟩ (hRR.step b9 7 65 _ (by decide) (by decide) (by decide)) (eg13Sp_up (fun R h => h.below b9))
            · cases ho
              cases hd
              obtain ⟨R, e1, hGR⟩ : eg13Sp E gb go n6 c6 j (.agg #[.string e.t, .string e.i, .slice e.po e.pl e.pc, .slice (some ⟨gb, go, none⟩) n6 c6]) nm a.2 7 (a'.tmps.getD 65 undef) w' := hdep 7 65 rfl (by kernel_rfl)
              have e1' : a'.tmps[65]?.getD undef = .tuple #[.agg #[.int .i64 R.k, .bool R.b, .int .i64 R.n, .string R.s, .string R.t, .string R.i, .slice R.lo R.ll R.lc], .bool true] := by simpa using e1
              unfold Oper.wp
              go_simp
              exact hK _ _ ⟨R, rfl, hGR⟩ (hRR.step (Below.refl _ w') 8 57 _ (by decide) (by decide) (by decide)) (fun _ _ h => h)
            · cases ho
              cases hd
              obtain ⟨R, e1, hGR⟩ : eg13Sp E gb go n6 c6 j (.agg #[.string e.t, .string e.i, .slice e.po e.pl e.pc, .slice (some ⟨gb, go, none⟩) n6 c6]) nm a.2 8 (a'.tmps.getD 57 undef) w' := hdep 8 57 rfl (by kernel_rfl)
              have e1' : a'.tmps[57]?.getD undef = .tuple #[.agg #[.int .i64 R.k, .bool R.b, .int .i64 R.n, .string R.s, .string R.t, .string R.i, .slice R.lo R.ll R.lc], .bool true] := by simpa using e1
              unfold Oper.wp
              go_simp
              exact hK _ _ ⟨R, rfl, hGR⟩ (hRR.step (Below.refl _ w') 9 66 _ (by decide) (by decide) (by decide)) (fun _ _ h => h)
            · cases ho
              cases hd
              obtain ⟨R, e1, hGR⟩ : eg13Sp E gb go n6 c6 j (.agg #[.string e.t, .string e.i, .slice e.po e.pl e.pc, .slice (some ⟨gb, go, none⟩) n6 c6]) nm a.2 8 (a'.tmps.getD 57 undef) w' := hdep 8 57 rfl (by kernel_rfl)
              have e1' : a'.tmps[57]?.getD undef = .tuple #[.agg #[.int .i64 R.k, .bool R.b, .int .i64 R.n, .string R.s, .string R.t, .string R.i, .slice R.lo R.ll R.lc], .bool true] := by simpa using e1
              unfold Oper.wp
              go_simp
              exact hK _ _ rfl (hRR.step (Below.refl _ w') 10 67 _ (by decide) (by decide) (by decide)) (fun _ _ h => h)
            · cases ho
              cases hd
              unfold Oper.wp
              go_simp
              exact hK _ _ ⟨w'.heap.size, rfl⟩ (hRR.alloc hL (by rw [hsz]; first | decide | simp)) (eg13Sp_up (fun R h => h.below (below1 _ _)))
            · cases hd
            · cases ho
              cases hd
              have e0 : a'.tmps.getD 67 undef = .bool true := hdep 10 67 rfl (by kernel_rfl)
              unfold Oper.wp
              go_simp
              exact hK _ _ rfl (hRR.step (Below.refl _ w') 13 12 _ (by decide) (by decide) (by decide)) (fun _ _ h => h)
          · intro i o ho hd L a' w' hL hw hRR hdep K hK
            have h14 : i < 14 := (List.getElem?_eq_some_iff.1 ho).1
            obtain rfl : i = 12 := by
              have hc : i = 0 ∨ i = 1 ∨ i = 2 ∨ i = 3 ∨ i = 4 ∨ i = 5 ∨ i = 6 ∨ i = 7 ∨ i = 8 ∨ i = 9 ∨ i = 10 ∨ i = 11 ∨ i = 12 ∨ i = 13 := by omega
              rcases hc with rfl | rfl | rfl | rfl | rfl | rfl | rfl | rfl | rfl | rfl | rfl | rfl | rfl | rfl <;> first | rfl | cases hd
            cases ho
            obtain ⟨R, e1, hGR⟩ : eg13Sp E gb go n6 c6 j (.agg #[.string e.t, .string e.i, .slice e.po e.pl e.pc, .slice (some ⟨gb, go, none⟩) n6 c6]) nm a.2 9 (a'.tmps.getD 66 undef) w' := hdep 9 66 rfl (by kernel_rfl)
            have e1' : a'.tmps[66]?.getD undef = .agg #[.int .i64 R.k, .bool R.b, .int .i64 R.n, .string R.s, .string R.t, .string R.i, .slice R.lo R.ll R.lc] := by simpa using e1
            obtain ⟨V, eV, hVz, hS, hup⟩ := hRR.store (hw 11 (by kernel_rfl)) hL R hGR
            have d0 : w'.cell? ⟨V, 0, none⟩ = some (.int .i64 0) := by rw [Lib.cell_of_heap (hVz)]; rfl
            have d1 : w'.cell? ⟨V, 1, none⟩ = some (.bool false) := by rw [Lib.cell_of_heap (hVz)]; rfl
            have d2 : w'.cell? ⟨V, 2, none⟩ = some (.int .i64 0) := by rw [Lib.cell_of_heap (hVz)]; rfl
            have d3 : w'.cell? ⟨V, 3, none⟩ = some (.string ⟨#[]⟩) := by rw [Lib.cell_of_heap (hVz)]; rfl
            have d4 : w'.cell? ⟨V, 4, none⟩ = some (.string ⟨#[]⟩) := by rw [Lib.cell_of_heap (hVz)]; rfl
            have d5 : w'.cell? ⟨V, 5, none⟩ = some (.string ⟨#[]⟩) := by rw [Lib.cell_of_heap (hVz)]; rfl
            have d6 : w'.cell? ⟨V, 6, none⟩ = some (.slice none 0 0) := by rw [Lib.cell_of_heap (hVz)]; rfl
            have df : ∀ o, w'.frozen? ⟨V, o, none⟩ = false := fun o => Lib.frozen_of_heap hVz o
            clear hVz
            unfold Oper.wp
            go_simp
            exact hK (w'.setCells V 0 R.cells) hS (eg13Sp_up hup) undef
          · intro v L w' hLa hRR hv
            obtain ⟨bn0, _, h3⟩ := hRR
            obtain ⟨_, V1, R1, eV, hV1, hP0, hG0⟩ := h3 (hLa 12 (by decide))
            have f0 : v 0 = _ := (hv 0 58 rfl).1
            have f1 : v 1 = _ := (hv 1 59 rfl).1
            have f2 : v 2 = _ := (hv 2 60 rfl).1
            have f3 : v 3 = _ := (hv 3 61 rfl).1
            have f4 : v 4 = _ := (hv 4 62 rfl).1
            have f5 : v 5 = _ := (hv 5 63 rfl).1
            have f6 : v 6 = _ := (hv 6 64 rfl).1
            obtain ⟨Ra, f7, _⟩ : eg13Sp E gb go n6 c6 j (.agg #[.string e.t, .string e.i, .slice e.po e.pl e.pc, .slice (some ⟨gb, go, none⟩) n6 c6]) nm a.2 7 (v 7) w' := (hv 7 65 rfl).1
            obtain ⟨Rb, f8, _⟩ : eg13Sp E gb go n6 c6 j (.agg #[.string e.t, .string e.i, .slice e.po e.pl e.pc, .slice (some ⟨gb, go, none⟩) n6 c6]) nm a.2 8 (v 8) w' := (hv 8 57 rfl).1
            obtain ⟨Rc, f9, _⟩ : eg13Sp E gb go n6 c6 j (.agg #[.string e.t, .string e.i, .slice e.po e.pl e.pc, .slice (some ⟨gb, go, none⟩) n6 c6]) nm a.2 9 (v 9) w' := (hv 9 66 rfl).1
            have f10 : v 10 = _ := (hv 10 67 rfl).1
            have f11 : v 11 = .pointer (some ⟨V1, 0, none⟩) := ((hv 11 11 rfl).2).symm.trans eV
            have f13 : v 13 = _ := (hv 13 12 rfl).1
            have bn := hide bn0
            have HP1 := hide hP0
            have HG1 := hide hG0
            clear eV bn0 hP0 hG0 h3 hLa hv hV1
            simp only [putAll, dstOf, List.getElem?_cons_zero, List.getElem?_cons_succ, Option.bind_some, List.length_cons, List.length_nil, f0, f1, f2, f3, f4, f5, f6, f7, f8, f9, f10, f11, f13]
            clear f0 f1 f2 f3 f4 f5 f6 f7 f8 f9 f10 f11 f13
            simp only [Act.put, List.setIfInBounds_toArray, List.set_cons_succ, List.set_cons_zero]
            obtain ⟨wn, hwn⟩ : ∃ y, y = w' := ⟨_, rfl⟩
            subst hwn
            go_upto_region 14 with fail
            refine wp_specsD (eg13Sp E gb go n6 c6 j (.agg #[.string e.t, .string e.i, .slice e.po e.pl e.pc, .slice (some ⟨gb, go, none⟩) n6 c6]) nm a.2) (GR 13 wn a.2) (by kernel_rfl) (by kernel_rfl) (by kernel_rfl) ⟨(Below.refl _ wn).drew, fun h => (by cases h), fun h => (by cases h)⟩ ?_ ?_ ?_
            · intro i o d ho hd L a' w' hL hw hRR hdep hslot hsz K hK
              have h14 : i < 14 := dstOf_lt hd
              have hR := hRR.1
              have HEw := kept_of_below hR (kept_of_below (unhide bn) (unhide HE0))
              have c0 : w'.cell? ⟨E, 0, none⟩ = some (.string e.t) := by rw [Lib.cell_of_heap (HEw)]; rfl
              have c1 : w'.cell? ⟨E, 1, none⟩ = some (.string e.i) := by rw [Lib.cell_of_heap (HEw)]; rfl
              have c2 : w'.cell? ⟨E, 2, none⟩ = some (.slice e.po e.pl e.pc) := by rw [Lib.cell_of_heap (HEw)]; rfl
              have c3 : w'.cell? ⟨E, 3, none⟩ = some (.slice (some ⟨gb, go, none⟩) n6 c6) := by rw [Lib.cell_of_heap (HEw)]; rfl
              have hnmw : w'.cell? ⟨gb, go + j * 8, none⟩ = some (.string nm) := (hR.cell (p := ⟨gb, go + j * 8, none⟩) (by have := (unhide bn).size; show gb < _; omega)).trans (((unhide bn).cell (p := ⟨gb, go + j * 8, none⟩) hgb).trans (unhide HNM))
              have hs7 : a'.tmps.getD 7 undef = .pointer (some ⟨E, 0, none⟩) := hslot 7 (fun i h => by have hl := dstOf_lt h; match i, hl with | 0, _ => cases h | 1, _ => cases h | 2, _ => cases h | 3, _ => cases h | 4, _ => cases h | 5, _ => cases h | 6, _ => cases h | 7, _ => cases h | 8, _ => cases h | 9, _ => cases h | 10, _ => cases h | 11, _ => cases h | 12, _ => cases h | 13, _ => cases h)
              have hs10 : a'.tmps.getD 10 undef = .int .i64 j := hslot 10 (fun i h => by have hl := dstOf_lt h; match i, hl with | 0, _ => cases h | 1, _ => cases h | 2, _ => cases h | 3, _ => cases h | 4, _ => cases h | 5, _ => cases h | 6, _ => cases h | 7, _ => cases h | 8, _ => cases h | 9, _ => cases h | 10, _ => cases h | 11, _ => cases h | 12, _ => cases h | 13, _ => cases h)
              have hc : i = 0 ∨ i = 1 ∨ i = 2 ∨ i = 3 ∨ i = 4 ∨ i = 5 ∨ i = 6 ∨ i = 7 ∨ i = 8 ∨ i = 9 ∨ i = 10 ∨ i = 11 ∨ i = 12 ∨ i = 13 := by omega
              rcases hc with rfl | rfl | rfl | rfl | rfl | rfl | rfl | rfl | rfl | rfl | rfl | rfl | rfl | rfl
              · cases ho
                cases hd
                have e0 : a'.tmps.getD 7 undef = .pointer (some ⟨E, 0, none⟩) := hs7
                unfold Oper.wp
                go_simp
                exact hK _ _ rfl (hRR.step (Below.refl _ w') 0 69 _ (by decide) (by decide) (by decide)) (fun _ _ h => h)
              · cases ho
                cases hd
                have e0 : a'.tmps.getD 7 undef = .pointer (some ⟨E, 0, none⟩) := hs7
                unfold Oper.wp
                go_simp
                exact hK _ _ rfl (hRR.step (Below.refl _ w') 1 70 _ (by decide) (by decide) (by decide)) (fun _ _ h => h)
              · cases ho
                cases hd
                have e0 : a'.tmps.getD 70 undef = .pointer (some ⟨E, 3, none⟩) := hdep 1 70 rfl (by kernel_rfl)
                unfold Oper.wp
                go_simp
                exact hK _ _ rfl (hRR.step (Below.refl _ w') 2 71 _ (by decide) (by decide) (by decide)) (fun _ _ h => h)
              · cases ho
                cases hd
                have e0 : a'.tmps.getD 10 undef = .int .i64 j := hs10
                unfold Oper.wp
                go_simp
                exact hK _ _ rfl (hRR.step (Below.refl _ w') 3 72 _ (by decide) (by decide) (by decide)) (fun _ _ h => h)
              · cases ho
                cases hd
                have e0 : a'.tmps.getD 71 undef = .slice (some ⟨gb, go, none⟩) n6 c6 := hdep 2 71 rfl (by kernel_rfl)
                have e1 : a'.tmps.getD 72 undef = .int .i64 j := hdep 3 72 rfl (by kernel_rfl)
                unfold Oper.wp
                go_simp
                exact hK _ _ rfl (hRR.step (Below.refl _ w') 4 73 _ (by decide) (by decide) (by decide)) (fun _ _ h => h)
              · cases ho
                cases hd
                have e0 : a'.tmps.getD 73 undef = .pointer (some ⟨gb, go + j * 8, none⟩) := hdep 4 73 rfl (by kernel_rfl)
                unfold Oper.wp
                go_simp
                exact hK _ _ rfl (hRR.step (Below.refl _ w') 5 74 _ (by decide) (by decide) (by decide)) (fun _ _ h => h)
              · cases ho
                cases hd
                have e0 : a'.tmps.getD 74 undef = .pointer (some ⟨gb, go + j * 8, none⟩) := hdep 5 74 rfl (by kernel_rfl)
                unfold Oper.wp
                go_simp
                exact hK _ _ rfl (hRR.step (Below.refl _ w') 6 75 _ (by decide) (by decide) (by decide)) (fun _ _ h => h)
              · cases ho
                cases hd
                have e0 : a'.tmps.getD 69 undef = .agg #[.string e.t, .string e.i, .slice e.po e.pl e.pc, .slice (some ⟨gb, go, none⟩) n6 c6] := hdep 0 69 rfl (by kernel_rfl)
                have e1 : a'.tmps.getD 75 undef = .string nm := hdep 6 75 rfl (by kernel_rfl)
                clear c0 c1 c2 c3 hnmw
                unfold Oper.wp
                go_simp
                refine (unhide RP w' ((unhide bn).trans (hR.mono (unhide bn).size))).mono ?_
                rintro q w9' ⟨b9, R, rfl, hg⟩
                exact hK _ _ ⟨R, rfl, hg.1⟩ (hRR.step b9 7 76 _ (by decide) (by decide) (by decide)) (eg13Sp_up (fun R h => h.below b9))
              · cases ho
                cases hd
                obtain ⟨R, e1, hGR⟩ : eg13Sp E gb go n6 c6 j (.agg #[.string e.t, .string e.i, .slice e.po e.pl e.pc, .slice (some ⟨gb, go, none⟩) n6 c6]) nm a.2 7 (a'.tmps.getD 76 undef) w' := hdep 7 76 rfl (by kernel_rfl)
                have e1' : a'.tmps[76]?.getD undef = .tuple #[.agg #[.int .i64 R.k, .bool R.b, .int .i64 R.n, .string R.s, .string R.t, .string R.i, .slice R.lo R.ll R.lc], .bool true] := by simpa using e1
                unfold Oper.wp
                go_simp
                exact hK _ _ ⟨R, rfl, hGR⟩ (hRR.step (Below.refl _ w') 8 68 _ (by decide) (by decide) (by decide)) (fun _ _ h => h)
              · cases ho
                cases hd
                obtain ⟨R, e1, hGR⟩ : eg13Sp E gb go n6 c6 j (.agg #[.string e.t, .string e.i, .slice e.po e.pl e.pc, .slice (some ⟨gb, go, none⟩) n6 c6]) nm a.2 8 (a'.tmps.getD 68 undef) w' := hdep 8 68 rfl (by kernel_rfl)
                have e1' : a'.tmps[68]?.getD undef = .tuple #[.agg #[.int .i64 R.k, .bool R.b, .int .i64 R.n, .string R.s, .string R.t, .string R.i, .slice R.lo R.ll R.lc], .bool true] := by simpa using e1
                unfold Oper.wp
                go_simp
                exact hK _ _ ⟨R, rfl, hGR⟩ (hRR.step (Below.refl _ w') 9 77 _ (by decide) (by decide) (by decide)) (fun _ _ h => h)
              · cases ho
                cases hd
                obtain ⟨R, e1, hGR⟩ : eg13Sp E gb go n6 c6 j (.agg #[.string e.t, .string e.i, .slice e.po e.pl e.pc, .slice (some ⟨gb, go, none⟩) n6 c6]) nm a.2 8 (a'.tmps.getD 68 undef) w' := hdep 8 68 rfl (by kernel_rfl)
                have e1' : a'.tmps[68]?.getD undef = .tuple #[.agg #[.int .i64 R.k, .bool R.b, .int .i64 R.n, .string R.s, .string R.t, .string R.i, .slice R.lo R.ll R.lc], .bool true] := by simpa using e1
                unfold Oper.wp
                go_simp
                exact hK _ _ rfl (hRR.step (Below.refl _ w') 10 78 _ (by decide) (by decide) (by decide)) (fun _ _ h => h)
              · cases ho
                cases hd
                unfold Oper.wp
                go_simp
                exact hK _ _ ⟨w'.heap.size, rfl⟩ (hRR.alloc hL (by rw [hsz]; first | decide | simp)) (eg13Sp_up (fun R h => h.below (below1 _ _)))
              · cases hd
              · cases ho
                cases hd
                have e0 : a'.tmps.getD 78 undef = .bool true := hdep 10 78 rfl (by kernel_rfl)
                unfold Oper.wp
                go_simp
                exact hK _ _ rfl (hRR.step (Below.refl _ w') 13 14 _ (by decide) (by decide) (by decide)) (fun _ _ h => h)
            · intro i o ho hd L a' w' hL hw hRR hdep K hK
              have h14 : i < 14 := (List.getElem?_eq_some_iff.1 ho).1
              obtain rfl : i = 12 := by
                have hc : i = 0 ∨ i = 1 ∨ i = 2 ∨ i = 3 ∨ i = 4 ∨ i = 5 ∨ i = 6 ∨ i = 7 ∨ i = 8 ∨ i = 9 ∨ i = 10 ∨ i = 11 ∨ i = 12 ∨ i = 13 := by omega
                rcases hc with rfl | rfl | rfl | rfl | rfl | rfl | rfl | rfl | rfl | rfl | rfl | rfl | rfl | rfl <;> first | rfl | cases hd
              cases ho
              obtain ⟨R, e1, hGR⟩ : eg13Sp E gb go n6 c6 j (.agg #[.string e.t, .string e.i, .slice e.po e.pl e.pc, .slice (some ⟨gb, go, none⟩) n6 c6]) nm a.2 9 (a'.tmps.getD 77 undef) w' := hdep 9 77 rfl (by kernel_rfl)
              have e1' : a'.tmps[77]?.getD undef = .agg #[.int .i64 R.k, .bool R.b, .int .i64 R.n, .string R.s, .string R.t, .string R.i, .slice R.lo R.ll R.lc] := by simpa using e1
              obtain ⟨V, eV, hVz, hS, hup⟩ := hRR.store (hw 11 (by kernel_rfl)) hL R hGR
              have d0 : w'.cell? ⟨V, 0, none⟩ = some (.int .i64 0) := by rw [Lib.cell_of_heap (hVz)]; rfl
              have d1 : w'.cell? ⟨V, 1, none⟩ = some (.bool false) := by rw [Lib.cell_of_heap (hVz)]; rfl
              have d2 : w'.cell? ⟨V, 2, none⟩ = some (.int .i64 0) := by rw [Lib.cell_of_heap (hVz)]; rfl
              have d3 : w'.cell? ⟨V, 3, none⟩ = some (.string ⟨#[]⟩) := by rw [Lib.cell_of_heap (hVz)]; rfl
              have d4 : w'.cell? ⟨V, 4, none⟩ = some (.string ⟨#[]⟩) := by rw [Lib.cell_of_heap (hVz)]; rfl
              have d5 : w'.cell? ⟨V, 5, none⟩ = some (.string ⟨#[]⟩) := by rw [Lib.cell_of_heap (hVz)]; rfl
              have d6 : w'.cell? ⟨V, 6, none⟩ = some (.slice none 0 0) := by rw [Lib.cell_of_heap (hVz)]; rfl
              have df : ∀ o, w'.frozen? ⟨V, o, none⟩ = false := fun o => Lib.frozen_of_heap hVz o
              clear hVz
              unfold Oper.wp
              go_simp
              exact hK (w'.setCells V 0 R.cells) hS (eg13Sp_up hup) undef
            · intro v L w' hLa hRR hv
              obtain ⟨bm0, _, h3⟩ := hRR
              obtain ⟨_, V2, R2, eV, hV1, hP0, hG0⟩ := h3 (hLa 12 (by decide))
              have f0 : v 0 = _ := (hv 0 69 rfl).1
              have f1 : v 1 = _ := (hv 1 70 rfl).1
              have f2 : v 2 = _ := (hv 2 71 rfl).1
              have f3 : v 3 = _ := (hv 3 72 rfl).1
              have f4 : v 4 = _ := (hv 4 73 rfl).1
              have f5 : v 5 = _ := (hv 5 74 rfl).1
              have f6 : v 6 = _ := (hv 6 75 rfl).1
              obtain ⟨Ra, f7, _⟩ : eg13Sp E gb go n6 c6 j (.agg #[.string e.t, .string e.i, .slice e.po e.pl e.pc, .slice (some ⟨gb, go, none⟩) n6 c6]) nm a.2 7 (v 7) w' := (hv 7 76 rfl).1
              obtain ⟨Rb, f8, _⟩ : eg13Sp E gb go n6 c6 j (.agg #[.string e.t, .string e.i, .slice e.po e.pl e.pc, .slice (some ⟨gb, go, none⟩) n6 c6]) nm a.2 8 (v 8) w' := (hv 8 68 rfl).1
              obtain ⟨Rc, f9, _⟩ : eg13Sp E gb go n6 c6 j (.agg #[.string e.t, .string e.i, .slice e.po e.pl e.pc, .slice (some ⟨gb, go, none⟩) n6 c6]) nm a.2 9 (v 9) w' := (hv 9 77 rfl).1
              have f10 : v 10 = _ := (hv 10 78 rfl).1
              have f11 : v 11 = .pointer (some ⟨V2, 0, none⟩) := ((hv 11 13 rfl).2).symm.trans eV
              have f13 : v 13 = _ := (hv 13 14 rfl).1
              have bm := hide bm0
              have HP2 := hide hP0
              have HG2 := hide hG0
              have HP1' := hide (kept_of_below bm0 (unhide HP1))
              have HG1' := hide ((unhide HG1).below bm0)
              clear eV bm0 hP0 hG0 h3 hLa hv hV1
              simp only [putAll, dstOf, List.getElem?_cons_zero, List.getElem?_cons_succ, Option.bind_some, List.length_cons, List.length_nil, f0, f1, f2, f3, f4, f5, f6, f7, f8, f9, f10, f11, f13]
              clear f0 f1 f2 f3 f4 f5 f6 f7 f8 f9 f10 f11 f13
              simp only [Act.put, List.setIfInBounds_toArray, List.set_cons_succ, List.set_cons_zero]
              obtain ⟨wm, hwn⟩ : ∃ y, y = w' := ⟨_, rfl⟩
              subst hwn
              go_upto_region 15 with fail
              have bz := (unhide bn).trans ((unhide bm).mono (unhide bn).size)
              have y0 : wm.cell? ⟨V1, 0, none⟩ = some (.int .i64 R1.k) := by rw [Lib.cell_of_heap (unhide HP1')]; rfl
              have y1 : wm.cell? ⟨V1, 1, none⟩ = some (.bool R1.b) := by rw [Lib.cell_of_heap (unhide HP1')]; rfl
              have y2 : wm.cell? ⟨V1, 2, none⟩ = some (.int .i64 R1.n) := by rw [Lib.cell_of_heap (unhide HP1')]; rfl
              have y3 : wm.cell? ⟨V1, 3, none⟩ = some (.string R1.s) := by rw [Lib.cell_of_heap (unhide HP1')]; rfl
              have y4 : wm.cell? ⟨V1, 4, none⟩ = some (.string R1.t) := by rw [Lib.cell_of_heap (unhide HP1')]; rfl
              have y5 : wm.cell? ⟨V1, 5, none⟩ = some (.string R1.i) := by rw [Lib.cell_of_heap (unhide HP1')]; rfl
              have y6 : wm.cell? ⟨V1, 6, none⟩ = some (.slice R1.lo R1.ll R1.lc) := by rw [Lib.cell_of_heap (unhide HP1')]; rfl
              have z0 : wm.cell? ⟨V2, 0, none⟩ = some (.int .i64 R2.k) := by rw [Lib.cell_of_heap (unhide HP2)]; rfl
              have z1 : wm.cell? ⟨V2, 1, none⟩ = some (.bool R2.b) := by rw [Lib.cell_of_heap (unhide HP2)]; rfl
              have z2 : wm.cell? ⟨V2, 2, none⟩ = some (.int .i64 R2.n) := by rw [Lib.cell_of_heap (unhide HP2)]; rfl
              have z3 : wm.cell? ⟨V2, 3, none⟩ = some (.string R2.s) := by rw [Lib.cell_of_heap (unhide HP2)]; rfl
              have z4 : wm.cell? ⟨V2, 4, none⟩ = some (.string R2.t) := by rw [Lib.cell_of_heap (unhide HP2)]; rfl
              have z5 : wm.cell? ⟨V2, 5, none⟩ = some (.string R2.i) := by rw [Lib.cell_of_heap (unhide HP2)]; rfl
              have z6 : wm.cell? ⟨V2, 6, none⟩ = some (.slice R2.lo R2.ll R2.lc) := by rw [Lib.cell_of_heap (unhide HP2)]; rfl
              have SM := r3sameG_true a.2 R1 R2 wm (unhide HG1') (unhide HG2) (unhide HAL2)
              unfold R7.val at SM
              go_wp2_with fail
              clear y0 y1 y2 y3 y4 y5 y6 z0 z1 z2 z3 z4 z5 z6
              refine SM.mono ?_
              clear SM
              rintro q wz ⟨rfl, bz2⟩
              have bz3 := hbw.trans ((bz.trans (bz2.mono bz.size)).mono hbw.size)
              go_wp2
              go_roundw
              case rel => exact ⟨j + 1, by omega, by go_num, bz3⟩
              case measure =>
                simp only [intOf]
                omega
        · have i1 : ¬ (j : Int) < (n6 : Int) := by omega
          have hI := (unhide HIx).below hbw
          have HE0 := hide (kept_of_below hbw (unhide HEx))
          have c0 : wr.cell? ⟨E, 0, none⟩ = some (.string e.t) := by rw [Lib.cell_of_heap (unhide HE0)]; rfl
          have c1 : wr.cell? ⟨E, 1, none⟩ = some (.string e.i) := by rw [Lib.cell_of_heap (unhide HE0)]; rfl
          have c2 : wr.cell? ⟨E, 2, none⟩ = some (.slice e.po e.pl e.pc) := by rw [Lib.cell_of_heap (unhide HE0)]; rfl
          have c3 : wr.cell? ⟨E, 3, none⟩ = some (.slice ao6 n6 c6) := by rw [Lib.cell_of_heap (unhide HE0)]; rfl
          have b01 := b0x.trans (hbw.mono b0x.size)
          have z7v : zero7.val = .agg #[.int .i64 0, .bool false, .int .i64 0, .string ⟨#[]⟩, .string ⟨#[]⟩, .string ⟨#[]⟩, .slice none 0 0] := rfl
          have GF := get_any ⟨e.t, e.i, e.po, e.pl, e.pc, ao6, n6, c6⟩ P2 s (fun _ => True) wr hI (unhide HFx)
          have RF := fun w' (hb : Below wr.heap.size wr w') => r8get_any ⟨e.t, e.i, e.po, e.pl, e.pc, ao6, n6, c6⟩ P2 s (fun _ => True) w' (hI.below hb) (unhide HFx)
          unfold E4.val at GF RF
          simp only at GF RF
          have HRF := hide RF
          clear RF hI
          go_wp2_with fail
          clear c0 c1 c2 c3
          cases hg : getP P2.ats s with
          | some a =>
            rw [hg] at GF
            have RF := unhide HRF
            simp only [hg] at RF
            have HAL2 := hide ((unhide HFx).2.2 a (getP_in hg))
            refine GF.mono ?_
            clear GF HRF hg
            rintro q u1 ⟨bu1, R1, rfl, hg1⟩
            unfold R7.val
            have bu2 := below1 u1 (.cells #[.int .i64 R1.k, .bool R1.b, .int .i64 R1.n, .string R1.s, .string R1.t, .string R1.i, .slice R1.lo R1.ll R1.lc] 38)
            have bw2 := bu1.trans (bu2.mono bu1.size)
            have HE2 := hide (kept_of_below bw2 (unhide HE0))
            have HV2 : (u1.alloc (.cells #[.int .i64 R1.k, .bool R1.b, .int .i64 R1.n, .string R1.s, .string R1.t, .string R1.i, .slice R1.lo R1.ll R1.lc] 38)).heap[u1.heap.size]? = some (.cells #[.int .i64 R1.k, .bool R1.b, .int .i64 R1.n, .string R1.s, .string R1.t, .string R1.i, .slice R1.lo R1.ll R1.lc] 38 (0, 0)) := alloc_heap _ _
            have RFu := RF _ bw2
            have HG2 := hide (hg1.1.below bu2)
            clear hg1
            clear RF
            go_upto_region 18 with fail
            obtain ⟨V1, hV⟩ : ∃ V, V = u1.heap.size := ⟨_, rfl⟩
            rw [← hV] at HV2 ⊢
            clear hV
            clear bu2
            generalize u1.alloc _ = u2 at *
            have HHV2 := hide HV2
            have c0 : u2.cell? ⟨E, 0, none⟩ = some (.string e.t) := by rw [Lib.cell_of_heap (unhide HE2)]; rfl
            have c1 : u2.cell? ⟨E, 1, none⟩ = some (.string e.i) := by rw [Lib.cell_of_heap (unhide HE2)]; rfl
            have c2 : u2.cell? ⟨E, 2, none⟩ = some (.slice e.po e.pl e.pc) := by rw [Lib.cell_of_heap (unhide HE2)]; rfl
            have c3 : u2.cell? ⟨E, 3, none⟩ = some (.slice ao6 n6 c6) := by rw [Lib.cell_of_heap (unhide HE2)]; rfl
            clear HV2
            go_wp2_with fail
            clear c0 c1 c2 c3
            refine RFu.mono ?_
            clear RFu
            rintro q u3 ⟨bu3, R2, rfl, hg2⟩
            unfold R7.val
            have bu4 := below1 u3 (.cells #[.int .i64 R2.k, .bool R2.b, .int .i64 R2.n, .string R2.s, .string R2.t, .string R2.i, .slice R2.lo R2.ll R2.lc] 38)
            have bw4 := bw2.trans ((bu3.trans (bu4.mono bu3.size)).mono bw2.size)
            have HV4 : (u3.alloc (.cells #[.int .i64 R2.k, .bool R2.b, .int .i64 R2.n, .string R2.s, .string R2.t, .string R2.i, .slice R2.lo R2.ll R2.lc] 38)).heap[u3.heap.size]? = some (.cells #[.int .i64 R2.k, .bool R2.b, .int .i64 R2.n, .string R2.s, .string R2.t, .string R2.i, .slice R2.lo R2.ll R2.lc] 38 (0, 0)) := alloc_heap _ _
            have HV3 := hide (kept_of_below bu4 (kept_of_below bu3 (unhide HHV2)))
            have SM := r3sameG_true a.2 R1 R2 _ (((unhide HG2).below bu3).below bu4) (IsG.below (show IsG u3 a.2 R2 from hg2.1) bu4) (unhide HAL2)
            unfold R7.val at SM
            clear hg2
            have HSM := hide SM
            clear SM
            go_upto_region 19 with fail
            obtain ⟨V2, hV⟩ : ∃ V, V = u3.heap.size := ⟨_, rfl⟩
            rw [← hV] at HV4 ⊢
            clear hV
            clear bu4
            generalize u3.alloc _ = u4 at *
            have HHV4 := hide HV4
            clear HV4
            have SM := unhide HSM
            clear HSM
            have y0 : u4.cell? ⟨V1, 0, none⟩ = some (.int .i64 R1.k) := by rw [Lib.cell_of_heap (unhide HV3)]; rfl
            have y1 : u4.cell? ⟨V1, 1, none⟩ = some (.bool R1.b) := by rw [Lib.cell_of_heap (unhide HV3)]; rfl
            have y2 : u4.cell? ⟨V1, 2, none⟩ = some (.int .i64 R1.n) := by rw [Lib.cell_of_heap (unhide HV3)]; rfl
            have y3 : u4.cell? ⟨V1, 3, none⟩ = some (.string R1.s) := by rw [Lib.cell_of_heap (unhide HV3)]; rfl
            have y4 : u4.cell? ⟨V1, 4, none⟩ = some (.string R1.t) := by rw [Lib.cell_of_heap (unhide HV3)]; rfl
            have y5 : u4.cell? ⟨V1, 5, none⟩ = some (.string R1.i) := by rw [Lib.cell_of_heap (unhide HV3)]; rfl
            have y6 : u4.cell? ⟨V1, 6, none⟩ = some (.slice R1.lo R1.ll R1.lc) := by rw [Lib.cell_of_heap (unhide HV3)]; rfl
            have z0 : u4.cell? ⟨V2, 0, none⟩ = some (.int .i64 R2.k) := by rw [Lib.cell_of_heap (unhide HHV4)]; rfl
            have z1 : u4.cell? ⟨V2, 1, none⟩ = some (.bool R2.b) := by rw [Lib.cell_of_heap (unhide HHV4)]; rfl
            have z2 : u4.cell? ⟨V2, 2, none⟩ = some (.int .i64 R2.n) := by rw [Lib.cell_of_heap (unhide HHV4)]; rfl
            have z3 : u4.cell? ⟨V2, 3, none⟩ = some (.string R2.s) := by rw [Lib.cell_of_heap (unhide HHV4)]; rfl
            have z4 : u4.cell? ⟨V2, 4, none⟩ = some (.string R2.t) := by rw [Lib.cell_of_heap (unhide HHV4)]; rfl
            have z5 : u4.cell? ⟨V2, 5, none⟩ = some (.string R2.i) := by rw [Lib.cell_of_heap (unhide HHV4)]; rfl
            have z6 : u4.cell? ⟨V2, 6, none⟩ = some (.slice R2.lo R2.ll R2.lc) := by rw [Lib.cell_of_heap (unhide HHV4)]; rfl
            go_wp2_with fail
            clear y0 y1 y2 y3 y4 y5 y6 z0 z1 z2 z3 z4 z5 z6
            refine SM.mono ?_
            clear SM
            rintro q u5 ⟨rfl, b5⟩
            have bw5 := bw4.trans (b5.mono bw4.size)
            have bwz := b01.trans (bw5.mono b01.size)
            go_wp2
            go_ret
            exact ⟨rfl, bwz⟩
          | none =>
            rw [hg] at GF
            have RF := unhide HRF
            simp only [hg] at RF
            refine GF.mono ?_
            clear GF HRF hg
            rintro q u1 ⟨bu1, hq⟩
            obtain rfl : q = .returned (.tuple #[zero7.val, .bool false]) := hq
            rw [z7v]
            have bu2 := below1 u1 (.cells #[.int .i64 0, .bool false, .int .i64 0, .string ⟨#[]⟩, .string ⟨#[]⟩, .string ⟨#[]⟩, .slice none 0 0] 38)
            have bw2 := bu1.trans (bu2.mono bu1.size)
            have HE2 := hide (kept_of_below bw2 (unhide HE0))
            have HV2 : (u1.alloc (.cells #[.int .i64 0, .bool false, .int .i64 0, .string ⟨#[]⟩, .string ⟨#[]⟩, .string ⟨#[]⟩, .slice none 0 0] 38)).heap[u1.heap.size]? = some (.cells #[.int .i64 0, .bool false, .int .i64 0, .string ⟨#[]⟩, .string ⟨#[]⟩, .string ⟨#[]⟩, .slice none 0 0] 38 (0, 0)) := alloc_heap _ _
            have RFu := RF _ bw2
            clear RF
            go_upto_region 18 with fail
            obtain ⟨V1, hV⟩ : ∃ V, V = u1.heap.size := ⟨_, rfl⟩
            rw [← hV] at HV2 ⊢
            clear hV
            clear bu2
            generalize u1.alloc _ = u2 at *
            have HHV2 := hide HV2
            have c0 : u2.cell? ⟨E, 0, none⟩ = some (.string e.t) := by rw [Lib.cell_of_heap (unhide HE2)]; rfl
            have c1 : u2.cell? ⟨E, 1, none⟩ = some (.string e.i) := by rw [Lib.cell_of_heap (unhide HE2)]; rfl
            have c2 : u2.cell? ⟨E, 2, none⟩ = some (.slice e.po e.pl e.pc) := by rw [Lib.cell_of_heap (unhide HE2)]; rfl
            have c3 : u2.cell? ⟨E, 3, none⟩ = some (.slice ao6 n6 c6) := by rw [Lib.cell_of_heap (unhide HE2)]; rfl
            clear HV2
            go_wp2_with fail
            clear c0 c1 c2 c3
            refine RFu.mono ?_
            clear RFu
            rintro q u3 ⟨bu3, hq⟩
            obtain rfl : q = .returned (.tuple #[zero7.val, .bool false]) := hq
            rw [z7v]
            have bu4 := below1 u3 (.cells #[.int .i64 0, .bool false, .int .i64 0, .string ⟨#[]⟩, .string ⟨#[]⟩, .string ⟨#[]⟩, .slice none 0 0] 38)
            have bw4 := bw2.trans ((bu3.trans (bu4.mono bu3.size)).mono bw2.size)
            have HV4 : (u3.alloc (.cells #[.int .i64 0, .bool false, .int .i64 0, .string ⟨#[]⟩, .string ⟨#[]⟩, .string ⟨#[]⟩, .slice none 0 0] 38)).heap[u3.heap.size]? = some (.cells #[.int .i64 0, .bool false, .int .i64 0, .string ⟨#[]⟩, .string ⟨#[]⟩, .string ⟨#[]⟩, .slice none 0 0] 38 (0, 0)) := alloc_heap _ _
            have HV3 := hide (kept_of_below bu4 (kept_of_below bu3 (unhide HHV2)))
            have SM := r3same_zero (u3.alloc (.cells #[.int .i64 0, .bool false, .int .i64 0, .string ⟨#[]⟩, .string ⟨#[]⟩, .string ⟨#[]⟩, .slice none 0 0] 38))
            rw [z7v] at SM
            have HSM := hide SM
            clear SM
            go_upto_region 19 with fail
            obtain ⟨V2, hV⟩ : ∃ V, V = u3.heap.size := ⟨_, rfl⟩
            rw [← hV] at HV4 ⊢
            clear hV
            clear bu4
            generalize u3.alloc _ = u4 at *
            have HHV4 := hide HV4
            clear HV4
            have SM := unhide HSM
            clear HSM
            have y0 : u4.cell? ⟨V1, 0, none⟩ = some (.int .i64 0) := by rw [Lib.cell_of_heap (unhide HV3)]; rfl
            have y1 : u4.cell? ⟨V1, 1, none⟩ = some (.bool false) := by rw [Lib.cell_of_heap (unhide HV3)]; rfl
            have y2 : u4.cell? ⟨V1, 2, none⟩ = some (.int .i64 0) := by rw [Lib.cell_of_heap (unhide HV3)]; rfl
            have y3 : u4.cell? ⟨V1, 3, none⟩ = some (.string ⟨#[]⟩) := by rw [Lib.cell_of_heap (unhide HV3)]; rfl
            have y4 : u4.cell? ⟨V1, 4, none⟩ = some (.string ⟨#[]⟩) := by rw [Lib.cell_of_heap (unhide HV3)]; rfl
            have y5 : u4.cell? ⟨V1, 5, none⟩ = some (.string ⟨#[]⟩) := by rw [Lib.cell_of_heap (unhide HV3)]; rfl
            have y6 : u4.cell? ⟨V1, 6, none⟩ = some (.slice none 0 0) := by rw [Lib.cell_of_heap (unhide HV3)]; rfl
            have z0 : u4.cell? ⟨V2, 0, none⟩ = some (.int .i64 0) := by rw [Lib.cell_of_heap (unhide HHV4)]; rfl
            have z1 : u4.cell? ⟨V2, 1, none⟩ = some (.bool false) := by rw [Lib.cell_of_heap (unhide HHV4)]; rfl
            have z2 : u4.cell? ⟨V2, 2, none⟩ = some (.int .i64 0) := by rw [Lib.cell_of_heap (unhide HHV4)]; rfl
            have z3 : u4.cell? ⟨V2, 3, none⟩ = some (.string ⟨#[]⟩) := by rw [Lib.cell_of_heap (unhide HHV4)]; rfl
            have z4 : u4.cell? ⟨V2, 4, none⟩ = some (.string ⟨#[]⟩) := by rw [Lib.cell_of_heap (unhide HHV4)]; rfl
            have z5 : u4.cell? ⟨V2, 5, none⟩ = some (.string ⟨#[]⟩) := by rw [Lib.cell_of_heap (unhide HHV4)]; rfl
            have z6 : u4.cell? ⟨V2, 6, none⟩ = some (.slice none 0 0) := by rw [Lib.cell_of_heap (unhide HHV4)]; rfl
            go_wp2_with fail
            clear y0 y1 y2 y3 y4 y5 y6 z0 z1 z2 z3 z4 z5 z6
            refine SM.mono ?_
            clear SM
            rintro q u5 ⟨rfl, b5⟩
            have bw5 := bw4.trans (b5.mono bw4.size)
            have bwz := b01.trans (bw5.mono b01.size)
            go_wp2
            go_ret
            exact ⟨rfl, bwz⟩

end Go.Proofs.Ytifkkhngibjalaa
