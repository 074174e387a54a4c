/-
  chancellaw5.Entity: what it returns.
-/
import Derived.Test.YthmmplmppchfmaaElB
import Derived.BigGuardPart
import Derived.BigCall
namespace Go.Proofs.Ythmmplmppchfmaa
open Go.RowKit Go.Sort

theorem isG_cut_yes {w : World} {g : GV} {R : R7} (h : IsG w g R) (h3 : 3 < R.ll) : IsG w (cut3 g) { R with ll := 3 } := by
  cases g with
  | pl p =>
    have : R = ofP p := h
    rw [this] at h3
    cases p <;> exact absurd h3 (Nat.not_lt_zero 3)
  | set l =>
    have h' := h
    obtain ⟨ao, c, rfl, hr, ho⟩ := h
    exact isG_cut3 h' h3
theorem isG_cut_no {w : World} {g : GV} {R : R7} (h : IsG w g R) (h3 : ¬ 3 < R.ll) : IsG w (cut3 g) R := by
  cases g with
  | pl p => exact h
  | set l =>
    obtain ⟨ao, c, rfl, hr, ho⟩ := h
    have hl : ¬ 3 < l.length := h3
    show IsG w (.set (l.take 3)) _
    rw [List.take_of_length_le (by omega)]
    exact ⟨ao, c, rfl, hr, ho⟩

/-- An entity in memory, whose row of attributes may be grown. -/
def EntPost2 (w : World) (p : EntP) (x : Ending) (w' : World) : Prop := Below w.heap.size w w' ∧ ∃ (e : E4) (rs : List A8) (W5 : Nat), x = .returned e.val ∧ IsEnt w' (fun _ => True) e p ∧ e.al = rs.length ∧ w'.ownsRow W5 51 8 (.slice e.ao e.al e.ac) rs.length (rs.map A8.cells).flatten ∧ IsAs w' (fun _ _ => True) rs p.ats ∧ (∀ ad, e.po = some ad → ad.block < W5) ∧ (rs = [] → e.ao = none) ∧ w.heap.size ≤ W5
/-- An entity in memory. -/
def EntPost (w : World) (p : EntP) (x : Ending) (w' : World) : Prop := Below w.heap.size w w' ∧ ∃ e : E4, x = .returned e.val ∧ IsEnt w' (fun _ => True) e p

set_option maxHeartbeats 40000000 in
set_option maxRecDepth 1000000 in
theorem entity5_own (r : EntR) (w : World) (hr : r.Ok w) :
    Calls Try.prog 18 #[r.val] w fun x w' => EntPost2 w (entP r) x w' := by
  obtain ⟨i0Uid, hiUid, hz0Uid, hz1Uid, hz2Uid⟩ := info_parts infoUidE
  obtain ⟨i0Attr, hiAttr, hz0Attr, hz1Attr, hz2Attr⟩ := info_parts infoAttrE
  obtain ⟨t, n, po, ps, pc, no, ns, nc, vo, vs, vc⟩ := r
  have HOK := hide hr
  have hpl : ps.length ≤ 9223372036854775807 := hr.pl
  have hnl : ns.length ≤ 9223372036854775807 := hr.nl
  have hvl : vs.length ≤ 9223372036854775807 := hr.vl
  clear hr
  obtain ⟨m, hm⟩ : ∃ m : Nat, (m : Int) = n % 5 := ⟨(n % 5).toNat, by omega⟩
  have hm5 : (m : Int) < 5 := by omega
  have KT := fun w' => kind5_any t w'
  have WN := fun w' => within5_any n 5 (by decide) (by decide) w'
  rw [← hm] at WN
  obtain ⟨kt, hkt⟩ : ∃ kt, kt = knE t := ⟨_, rfl⟩
  obtain ⟨ls, hls⟩ : ∃ ls, ls = letS m := ⟨_, rfl⟩
  have HU : Hid ((⟨kt, ls⟩ : U2) = uidEn t n) := hide (by rw [hkt, hls, letS_of _ _ hm]; rfl)
  rw [← hkt] at KT
  have HLS := hide hls
  clear hkt hls hm
  have b2 := below2 w (.cells #[.int .i64 t, .int .i64 n, .slice po ps.length pc, .slice no ns.length nc, .slice vo vs.length vc] 45) (.cells #[.string ⟨#[]⟩, .string ⟨#[]⟩, .slice none 0 0, .slice none 0 0] 40)
  unfold EntR.val
  simp only
  go_enter Try.func18, Try.ntmps18
  go_upto_region 1 with fail
  generalize hw2 : (w.alloc _).alloc _ = w2 at *
  have z2 : w2.heap.size = w.heap.size + 2 := by rw [← hw2]; simp
  have H1 : w2.heap[w.heap.size]? = some (.cells #[.int .i64 t, .int .i64 n, .slice po ps.length pc, .slice no ns.length nc, .slice vo vs.length vc] 45 (0, 0)) := by
    rw [← hw2, Below.heap_alloc _ _ _ (by simp)]
    exact alloc_heap _ _
  have H2 : w2.heap[w.heap.size + 1]? = some (.cells #[.string ⟨#[]⟩, .string ⟨#[]⟩, .slice none 0 0, .slice none 0 0] 40 (0, 0)) := by
    rw [← hw2]
    have := alloc_heap (w.alloc (.cells #[.int .i64 t, .int .i64 n, .slice po ps.length pc, .slice no ns.length nc, .slice vo vs.length vc] 45)) (.cells #[.string ⟨#[]⟩, .string ⟨#[]⟩, .slice none 0 0, .slice none 0 0] 40)
    rwa [size1] at this
  clear hw2
  refine wp_specs_put 13 (en1Sp w.heap.size w2.heap.size m t n kt ls) (fun w' => Below w2.heap.size w2 w') (by kernel_rfl) (by kernel_rfl) (Below.refl _ w2).drew ?_ ?_
  · intro q o hq' ho a' w' hR hdep hslot K hK
    have H1' := kept_of_below hR H1
    have c0 : w'.cell? ⟨w.heap.size, 0, none⟩ = some (.int .i64 t) := by rw [Lib.cell_of_heap H1']; rfl
    have c1 : w'.cell? ⟨w.heap.size, 1, none⟩ = some (.int .i64 n) := by rw [Lib.cell_of_heap H1']; rfl
    have hc : q = 0 ∨ q = 1 ∨ q = 2 ∨ q = 3 ∨ q = 4 ∨ q = 5 ∨ q = 6 ∨ q = 7 ∨ q = 8 ∨ q = 9 ∨ q = 10 ∨ q = 11 ∨ q = 12 := by omega
    rcases hc with rfl | rfl | rfl | rfl | rfl | rfl | rfl | rfl | rfl | rfl | rfl | rfl | rfl
    · cases ho
      have e0 : a'.tmps.getD 1 undef = .pointer (some ⟨w.heap.size, 0, none⟩) := hslot 1 (by decide)
      unfold Oper.wp
      go_simp
      exact hK _ _ rfl hR (fun _ _ h => h)
    · cases ho
      have e0 : a'.tmps.getD 7 undef = .pointer (some ⟨w.heap.size, 0, none⟩) := hdep 0 (by kernel_rfl)
      unfold Oper.wp
      go_simp
      exact hK _ _ rfl hR (fun _ _ h => h)
    · cases ho
      have e0 : a'.tmps.getD 8 undef = .int .i64 t := hdep 1 (by kernel_rfl)
      clear c0 c1
      unfold Oper.wp
      go_simp
      refine (KT w').mono ?_
      rintro e w3 ⟨rfl, b3⟩
      exact hK _ _ rfl (hR.trans (b3.mono hR.size)) (en1Sp_up b3)
    · cases ho
      have e0 : a'.tmps.getD 1 undef = .pointer (some ⟨w.heap.size, 0, none⟩) := hslot 1 (by decide)
      unfold Oper.wp
      go_simp
      exact hK _ _ rfl hR (fun _ _ h => h)
    · cases ho
      have e0 : a'.tmps.getD 10 undef = .pointer (some ⟨w.heap.size, 1, none⟩) := hdep 3 (by kernel_rfl)
      unfold Oper.wp
      go_simp
      exact hK _ _ rfl hR (fun _ _ h => h)
    · cases ho
      have e0 : a'.tmps.getD 11 undef = .int .i64 n := hdep 4 (by kernel_rfl)
      clear c0 c1
      unfold Oper.wp
      go_simp
      refine (WN w').mono ?_
      rintro e w3 ⟨rfl, rfl⟩
      exact hK _ _ rfl hR (fun _ _ h => h)
    · cases ho
      have e0 : a'.tmps.getD 12 undef = .int .i64 m := hdep 5 (by kernel_rfl)
      have ew : IntKind.i64.wrap (97 + (m : Int)) = 97 + (m : Int) := by rw [IntKind.wrap_i64]; omega
      unfold Oper.wp
      go_simp
      exact hK _ _ rfl hR (fun _ _ h => h)
    · cases ho
      have e0 : a'.tmps.getD 13 undef = .int .i64 (97 + (m : Int)) := hdep 6 (by kernel_rfl)
      have ew : IntKind.u8.wrap (97 + (m : Int)) = 97 + (m : Int) := by rw [IntKind.wrap_u8]; omega
      unfold Oper.wp
      go_simp
      exact hK _ _ rfl hR (fun _ _ h => h)
    · cases ho
      have e0 : a'.tmps.getD 14 undef = .int .u8 (97 + (m : Int)) := hdep 7 (by kernel_rfl)
      have e0' : a'.tmps[14]?.getD undef = .int .u8 (97 + (m : Int)) := by simpa using e0
      unfold Oper.wp
      go_simp
      exact hK _ _ ⟨w'.heap.size, rfl, alloc_heap _ _⟩ (hR.alloc hR.size _) (en1Sp_up (below1 _ _))
    · cases ho
      obtain ⟨b, e, hb⟩ : en1Sp w.heap.size w2.heap.size m t n kt ls 8 (a'.tmps.getD 15 undef) w' := hdep 8 (by kernel_rfl)
      have hcv := conv_letter b m w' (by omega) hb
      rw [← unhide HLS] at hcv
      clear hb
      clear c0 c1
      unfold Oper.wp
      go_simp
      exact hK _ _ rfl hR (fun _ _ h => h)
    · cases ho
      have e0 : a'.tmps.getD 9 undef = .string kt := hdep 2 (by kernel_rfl)
      have e0' : a'.tmps[9]?.getD undef = .string kt := by simpa using e0
      have e1 : a'.tmps.getD 16 undef = .string ls := hdep 9 (by kernel_rfl)
      have e1' : a'.tmps[16]?.getD undef = .string ls := by simpa using e1
      unfold Oper.wp
      go_simp
      exact hK _ _ rfl hR (fun _ _ h => h)
    · cases ho
      have e0 : a'.tmps.getD 17 undef = .agg #[.string kt, .string ls] := hdep 10 (by kernel_rfl)
      have e0' : a'.tmps[17]?.getD undef = .agg #[.string kt, .string ls] := by simpa using e0
      unfold Oper.wp
      go_simp
      exact hK _ _ rfl hR (fun _ _ h => h)
    · cases ho
      clear c0 c1
      unfold Oper.wp
      go_simp
      exact hK _ _ ⟨w'.heap.size, rfl, hR.size, alloc_heap _ _⟩ (hR.alloc hR.size _) (en1Sp_up (below1 _ _))
  · intro v w' hR hall
    have f0 := hall 0 (by decide)
    have f1 := hall 1 (by decide)
    have f2 := hall 2 (by decide)
    have f3 := hall 3 (by decide)
    have f4 := hall 4 (by decide)
    have f5 := hall 5 (by decide)
    have f6 := hall 6 (by decide)
    have f7 := hall 7 (by decide)
    obtain ⟨gb, f8, hgb⟩ := hall 8 (by decide)
    have f9 := hall 9 (by decide)
    have f10 := hall 10 (by decide)
    have f11 := hall 11 (by decide)
    obtain ⟨E, f12, hEW, hE⟩ := hall 12 (by decide)
    unfold en1Sp at f0 f1 f2 f3 f4 f5 f6 f7 f9 f10 f11
    have b3 := b2.trans (hR.mono b2.size)
    have H1' := kept_of_below hR H1
    have H2' := kept_of_below hR H2
    have hEl := (Array.getElem?_eq_some_iff.1 hE).1
    have d0 : w'.cell? ⟨E, 0, none⟩ = some (.string ⟨#[]⟩) := by rw [Lib.cell_of_heap hE]; rfl
    have d1 : w'.cell? ⟨E, 1, none⟩ = some (.string ⟨#[]⟩) := by rw [Lib.cell_of_heap hE]; rfl
    have d2 : w'.cell? ⟨E, 2, none⟩ = some (.slice none 0 0) := by rw [Lib.cell_of_heap hE]; rfl
    have d3 : w'.cell? ⟨E, 3, none⟩ = some (.slice none 0 0) := by rw [Lib.cell_of_heap hE]; rfl
    have dF : ∀ o, w'.frozen? ⟨E, o, none⟩ = false := fun o => Lib.frozen_of_heap hE o
    have hEB : w.heap.size ≤ E := by omega
    have b4 := (((b3.setCell (p := ⟨E, 0, none⟩) hEB (.string kt)).setCell (p := ⟨E, 1, none⟩) hEB (.string ls)).setCell (p := ⟨E, 2, none⟩) hEB (.slice none 0 0)).setCell (p := ⟨E, 3, none⟩) hEB (.slice none 0 0)
    have GE := heap_setCell_same _ E 3 _ _ (.slice none 0 0) (heap_setCell_same _ E 2 _ _ (.slice none 0 0) (heap_setCell_same _ E 1 _ _ (.string ls) (heap_setCell_same w' E 0 _ _ (.string kt) hE)))
    simp only [List.setIfInBounds_toArray, List.set_cons_succ, List.set_cons_zero] at GE
    have hk4 : ∀ k, k ≠ E → ((((w'.setCell ⟨E, 0, none⟩ (.string kt)).setCell ⟨E, 1, none⟩ (.string ls)).setCell ⟨E, 2, none⟩ (.slice none 0 0)).setCell ⟨E, 3, none⟩ (.slice none 0 0)).heap[k]? = w'.heap[k]? := fun k hk => (Below.heap_setCell _ ⟨E, 3, none⟩ _ k hk).trans ((Below.heap_setCell _ ⟨E, 2, none⟩ _ k hk).trans ((Below.heap_setCell _ ⟨E, 1, none⟩ _ k hk).trans (Below.heap_setCell _ ⟨E, 0, none⟩ _ k hk)))
    have G1 := (hk4 w.heap.size (by omega)).trans H1'
    have G2 := (hk4 (w.heap.size + 1) (by omega)).trans H2'
    have z4 : ((((w'.setCell ⟨E, 0, none⟩ (.string kt)).setCell ⟨E, 1, none⟩ (.string ls)).setCell ⟨E, 2, none⟩ (.slice none 0 0)).setCell ⟨E, 3, none⟩ (.slice none 0 0)).heap.size = w'.heap.size := by simp
    clear hall hgb hE H1' H2' hk4 H1 H2 KT WN
    simp only [putAll, dstOf, List.getElem?_cons_zero, List.getElem?_cons_succ, Option.bind_some, List.drop_succ_cons, List.drop_zero, f0, f1, f2, f3, f4, f5, f6, f7, f8, f9, f10, f11, f12]
    clear f0 f1 f2 f3 f4 f5 f6 f7 f8 f9 f10 f11 f12
    simp only [Act.put, List.setIfInBounds_toArray, List.set_cons_succ, List.set_cons_zero]
    go_wp2
    generalize (((w'.setCell ⟨E, 0, none⟩ (.string kt)).setCell ⟨E, 1, none⟩ (.string ls)).setCell ⟨E, 2, none⟩ (.slice none 0 0)).setCell ⟨E, 3, none⟩ (.slice none 0 0) = w4 at *
    have hE4 : E < w4.heap.size := by omega
    have hBE : w.heap.size + 1 < E := by omega
    clear z4 d0 d1 d2 d3 dF
    have HG1 := hide G1
    have HG2 := hide G2
    have HGE := hide GE
    clear G1 G2 GE
    go_loopw [4] (fun iv wr => ∃ (i : Nat) (lv : Value), i ≤ 3 ∧ i ≤ ps.length ∧ iv = .int .i64 i ∧ Below w.heap.size w wr ∧ w4.heap.size ≤ wr.heap.size ∧ wr.heap[w.heap.size]? = some (.cells #[.int .i64 t, .int .i64 n, .slice po ps.length pc, .slice no ns.length nc, .slice vo vs.length vc] 45 (0, 0)) ∧ wr.heap[w.heap.size + 1]? = some (.cells #[.string ⟨#[]⟩, .string ⟨#[]⟩, .slice none 0 0, .slice none 0 0] 40 (0, 0)) ∧ wr.heap[E]? = some (.cells #[.string kt, .string ls, lv, .slice none 0 0] 40 (0, 0)) ∧ wr.ownsRow w4.heap.size 28 2 lv i (((ps.take i).map parE).map U2.cells).flatten) (fun iv _ => 3 - (intOf iv).toNat)
    case atStart => exact ⟨0, _, by omega, by omega, rfl, b4, Nat.le_refl _, unhide HG1, unhide HG2, unhide HGE, World.ownsRow_nil _ _ _ _⟩
    case round =>
      clear HG1 HG2 HGE
      obtain ⟨i, lv, hi3, hip, rfl, hbw, hsz, h1, h2, hE, hown⟩ := hrel
      have c2 : wr.cell? ⟨w.heap.size, 2, none⟩ = some (.slice po ps.length pc) := by rw [Lib.cell_of_heap h1]; rfl
      by_cases hlt : i < ps.length
      · have i1 : (i : Int) < (ps.length : Int) := by omega
        by_cases h3 : i < 3
        · have i3 : (i : Int) < 3 := by omega
          have hcx0 := (unhide HOK).ps i hlt
          obtain ⟨pb, poff, hpo, hpb0, hcx0⟩ := hcx0
          have hpo : po = some ⟨pb, poff, none⟩ := hpo
          subst hpo
          have hpb : pb < wr.heap.size := Nat.lt_of_lt_of_le hpb0 hbw.size
          have hcx := (hbw.cell (p := ⟨pb, poff + i, none⟩) hpb0).trans hcx0
          have htk : (ps.take (i + 1)).map parE = (ps.take i).map parE ++ [parE ps[i]] := by rw [List.take_succ_eq_append_getElem hlt, List.map_append]; rfl
          obtain ⟨x, hx⟩ : ∃ x, x = ps[i] := ⟨_, rfl⟩
          have hcx : wr.cell? ⟨pb, poff + i, none⟩ = some (.int .i64 x) := by rw [hx]; exact hcx
          rw [← hx] at htk
          clear hx hcx0 hpb0
          obtain ⟨m', hm'⟩ : ∃ m' : Nat, (m' : Int) = wrap64 (x.tdiv 4) % 5 := ⟨(wrap64 (x.tdiv 4) % 5).toNat, by omega⟩
          have hm5' : (m' : Int) < 5 := by omega
          have KX := fun w' => kind5_any x w'
          have WX := fun w' => within5_any (wrap64 (x.tdiv 4)) 5 (by decide) (by decide) w'
          rw [← hm'] at WX
          have hpe : parE x = ⟨knE x, letS m'⟩ := by unfold parE uidEn; rw [letS_of _ _ hm']
          obtain ⟨kx, hkx⟩ : ∃ kx, kx = knE x := ⟨_, rfl⟩
          obtain ⟨ls', hls'⟩ : ∃ ls', ls' = letS m' := ⟨_, rfl⟩
          rw [← hkx, ← hls'] at hpe
          rw [← hkx] at KX
          have Hps : Hid ((((ps.take (i + 1)).map parE).map U2.cells).flatten = (((ps.take i).map parE).map U2.cells).flatten ++ [.string kx, .string ls']) := hide (by rw [htk, hpe]; simp [U2.cells])
          have HLX := hide hls'
          clear hkx hls' htk hpe hm'
          obtain ⟨L0, hL0⟩ : ∃ L0, L0 = (((ps.take i).map parE).map U2.cells).flatten := ⟨_, rfl⟩
          rw [← hL0] at hown Hps
          clear hL0
          go_upto_region 5 with fail
          clear c2
          refine wp_specs_put 21 (en2Sp w.heap.size E pb poff i m' x lv (.slice (some ⟨pb, poff, none⟩) ps.length pc) kx ls') (fun w' => Below wr.heap.size wr w') (by kernel_rfl) (by kernel_rfl) (Below.refl _ wr).drew ?_ ?_
          · intro q o hq' ho a' w' hR hdep hslot K hK
            have H1' := kept_of_below hR h1
            have HE' := kept_of_below hR hE
            have c2' : w'.cell? ⟨w.heap.size, 2, none⟩ = some (.slice (some ⟨pb, poff, none⟩) ps.length pc) := by rw [Lib.cell_of_heap H1']; rfl
            have cE : w'.cell? ⟨E, 2, none⟩ = some lv := by rw [Lib.cell_of_heap HE']; rfl
            have cx := (hR.cell (p := ⟨pb, poff + i, none⟩) hpb).trans hcx
            have hc : q = 0 ∨ q = 1 ∨ q = 2 ∨ q = 3 ∨ q = 4 ∨ q = 5 ∨ q = 6 ∨ q = 7 ∨ q = 8 ∨ q = 9 ∨ q = 10 ∨ q = 11 ∨ q = 12 ∨ q = 13 ∨ q = 14 ∨ q = 15 ∨ q = 16 ∨ q = 17 ∨ q = 18 ∨ q = 19 ∨ q = 20 := by omega
            rcases hc with rfl | rfl | rfl | rfl | rfl | rfl | rfl | rfl | rfl | rfl | rfl | rfl | rfl | rfl | rfl | rfl | rfl | rfl | rfl | rfl | rfl
            · cases ho
              have e0 : a'.tmps.getD 3 undef = .pointer (some ⟨E, 0, none⟩) := hslot 3 (by decide)
              unfold Oper.wp
              go_simp
              exact hK _ _ rfl hR (fun _ _ h => h)
            · cases ho
              have e0 : a'.tmps.getD 30 undef = .pointer (some ⟨E, 2, none⟩) := hdep 0 (by kernel_rfl)
              unfold Oper.wp
              go_simp
              exact hK _ _ rfl hR (fun _ _ h => h)
            · cases ho
              have e0 : a'.tmps.getD 1 undef = .pointer (some ⟨w.heap.size, 0, none⟩) := hslot 1 (by decide)
              unfold Oper.wp
              go_simp
              exact hK _ _ rfl hR (fun _ _ h => h)
            · cases ho
              have e0 : a'.tmps.getD 32 undef = .pointer (some ⟨w.heap.size, 2, none⟩) := hdep 2 (by kernel_rfl)
              unfold Oper.wp
              go_simp
              exact hK _ _ rfl hR (fun _ _ h => h)
            · cases ho
              have e0 : a'.tmps.getD 4 undef = .int .i64 i := hslot 4 (by decide)
              unfold Oper.wp
              go_simp
              exact hK _ _ rfl hR (fun _ _ h => h)
            · cases ho
              have e0 : a'.tmps.getD 33 undef = .slice (some ⟨pb, poff, none⟩) ps.length pc := hdep 3 (by kernel_rfl)
              have e1 : a'.tmps.getD 34 undef = .int .i64 i := hdep 4 (by kernel_rfl)
              have k0 : (0 : Int) ≤ (i : Int) := by omega
              unfold Oper.wp
              go_simp
              exact hK _ _ (by simp [en2Sp]) hR (fun _ _ h => h)
            · cases ho
              have e0 : a'.tmps.getD 35 undef = .pointer (some ⟨pb, poff + i, none⟩) := hdep 5 (by kernel_rfl)
              unfold Oper.wp
              go_simp
              exact hK _ _ rfl hR (fun _ _ h => h)
            · cases ho
              have e0 : a'.tmps.getD 36 undef = .int .i64 x := hdep 6 (by kernel_rfl)
              clear c2' cE cx
              unfold Oper.wp
              go_simp
              refine (KX w').mono ?_
              rintro e w3 ⟨rfl, b3⟩
              exact hK _ _ rfl (hR.trans (b3.mono hR.size)) (en2Sp_up b3)
            · cases ho
              have e0 : a'.tmps.getD 1 undef = .pointer (some ⟨w.heap.size, 0, none⟩) := hslot 1 (by decide)
              unfold Oper.wp
              go_simp
              exact hK _ _ rfl hR (fun _ _ h => h)
            · cases ho
              have e0 : a'.tmps.getD 38 undef = .pointer (some ⟨w.heap.size, 2, none⟩) := hdep 8 (by kernel_rfl)
              unfold Oper.wp
              go_simp
              exact hK _ _ rfl hR (fun _ _ h => h)
            · cases ho
              have e0 : a'.tmps.getD 4 undef = .int .i64 i := hslot 4 (by decide)
              unfold Oper.wp
              go_simp
              exact hK _ _ rfl hR (fun _ _ h => h)
            · cases ho
              have e0 : a'.tmps.getD 39 undef = .slice (some ⟨pb, poff, none⟩) ps.length pc := hdep 9 (by kernel_rfl)
              have e1 : a'.tmps.getD 40 undef = .int .i64 i := hdep 10 (by kernel_rfl)
              have k0 : (0 : Int) ≤ (i : Int) := by omega
              unfold Oper.wp
              go_simp
              exact hK _ _ (by simp [en2Sp]) hR (fun _ _ h => h)
            · cases ho
              have e0 : a'.tmps.getD 41 undef = .pointer (some ⟨pb, poff + i, none⟩) := hdep 11 (by kernel_rfl)
              unfold Oper.wp
              go_simp
              exact hK _ _ rfl hR (fun _ _ h => h)
            · cases ho
              have e0 : a'.tmps.getD 42 undef = .int .i64 x := hdep 12 (by kernel_rfl)
              unfold Oper.wp
              go_simp
              exact hK _ _ (congrArg (Value.int .i64) (IntWalk.i64_left _)) hR (fun _ _ h => h)
            · cases ho
              have e0 : a'.tmps.getD 43 undef = .int .i64 (wrap64 (x.tdiv 4)) := hdep 13 (by kernel_rfl)
              clear c2' cE cx
              unfold Oper.wp
              go_simp
              refine (WX w').mono ?_
              rintro e w3 ⟨rfl, rfl⟩
              exact hK _ _ rfl hR (fun _ _ h => h)
            · cases ho
              have e0 : a'.tmps.getD 44 undef = .int .i64 m' := hdep 14 (by kernel_rfl)
              have ew : IntKind.i64.wrap (97 + (m' : Int)) = 97 + (m' : Int) := by rw [IntKind.wrap_i64]; omega
              unfold Oper.wp
              go_simp
              exact hK _ _ rfl hR (fun _ _ h => h)
            · cases ho
              have e0 : a'.tmps.getD 45 undef = .int .i64 (97 + (m' : Int)) := hdep 15 (by kernel_rfl)
              have ew : IntKind.u8.wrap (97 + (m' : Int)) = 97 + (m' : Int) := by rw [IntKind.wrap_u8]; omega
              unfold Oper.wp
              go_simp
              exact hK _ _ rfl hR (fun _ _ h => h)
            · cases ho
              have e0 : a'.tmps.getD 46 undef = .int .u8 (97 + (m' : Int)) := hdep 16 (by kernel_rfl)
              have e0' : a'.tmps[46]?.getD undef = .int .u8 (97 + (m' : Int)) := by simpa using e0
              unfold Oper.wp
              go_simp
              exact hK _ _ ⟨w'.heap.size, rfl, alloc_heap _ _⟩ (hR.alloc hR.size _) (en2Sp_up (below1 _ _))
            · cases ho
              obtain ⟨b, e, hb⟩ : en2Sp w.heap.size E pb poff i m' x lv (.slice (some ⟨pb, poff, none⟩) ps.length pc) kx ls' 17 (a'.tmps.getD 47 undef) w' := hdep 17 (by kernel_rfl)
              have hcv := conv_letter b m' w' (by omega) hb
              rw [← unhide HLX] at hcv
              clear hb
              clear c2' cE cx
              unfold Oper.wp
              go_simp
              exact hK _ _ rfl hR (fun _ _ h => h)
            · cases ho
              have e0 : a'.tmps.getD 37 undef = .string kx := hdep 7 (by kernel_rfl)
              have e0' : a'.tmps[37]?.getD undef = .string kx := by simpa using e0
              have e1 : a'.tmps.getD 48 undef = .string ls' := hdep 18 (by kernel_rfl)
              have e1' : a'.tmps[48]?.getD undef = .string ls' := by simpa using e1
              unfold Oper.wp
              go_simp
              exact hK _ _ rfl hR (fun _ _ h => h)
            · cases ho
              have e0 : a'.tmps.getD 49 undef = .agg #[.string kx, .string ls'] := hdep 19 (by kernel_rfl)
              have e0' : a'.tmps[49]?.getD undef = .agg #[.string kx, .string ls'] := by simpa using e0
              unfold Oper.wp
              go_simp
              exact hK _ _ ⟨w'.heap.size, rfl, alloc_heap _ _⟩ (hR.alloc hR.size _) (en2Sp_up (below1 _ _))
          · intro v w' hR hall
            have f0 := hall 0 (by decide)
            have f1 := hall 1 (by decide)
            have f2 := hall 2 (by decide)
            have f3 := hall 3 (by decide)
            have f4 := hall 4 (by decide)
            have f5 := hall 5 (by decide)
            have f6 := hall 6 (by decide)
            have f7 := hall 7 (by decide)
            have f8 := hall 8 (by decide)
            have f9 := hall 9 (by decide)
            have f10 := hall 10 (by decide)
            have f11 := hall 11 (by decide)
            have f12 := hall 12 (by decide)
            have f13 := hall 13 (by decide)
            have f14 := hall 14 (by decide)
            have f15 := hall 15 (by decide)
            have f16 := hall 16 (by decide)
            obtain ⟨gb1, f17, hgb1⟩ := hall 17 (by decide)
            have f18 := hall 18 (by decide)
            have f19 := hall 19 (by decide)
            obtain ⟨gb, f20, hgb⟩ := hall 20 (by decide)
            unfold en2Sp at f0 f1 f2 f3 f4 f5 f6 f7 f8 f9 f10 f11 f12 f13 f14 f15 f16 f18 f19
            have b3 := hbw.trans (hR.mono hbw.size)
            have H1' := kept_of_below hR h1
            have H2' := kept_of_below hR h2
            have HE' := kept_of_below hR hE
            have Hown' := hide (own_below hown hR)
            have hnb := (unhide Hown').lt
            have HH1 := hide H1'
            have HH2 := hide H2'
            have HHE := hide HE'
            clear hall hgb1 hown h1 h2 hE H1' H2' HE' KX WX hcx
            simp only [putAll, dstOf, List.getElem?_cons_zero, List.getElem?_cons_succ, Option.bind_some, List.drop_succ_cons, List.drop_zero, f0, f1, f2, f3, f4, f5, f6, f7, f8, f9, f10, f11, f12, f13, f14, f15, f16, f17, f18, f19, f20]
            clear f0 f1 f2 f3 f4 f5 f6 f7 f8 f9 f10 f11 f12 f13 f14 f15 f16 f17 f18 f19 f20
            simp only [Act.put, List.setIfInBounds_toArray, List.set_cons_succ, List.set_cons_zero]
            have Hgb := hide hgb
            clear hgb
            go_wp2_with (at_builtin; refine wpList_append_own _ rfl _ _ 30 rfl w4.heap.size 28 i0Uid _ 2 32 Try.underlying30 hiUid hz0Uid hz1Uid hz2Uid rfl (by decide) _ _ _ rfl (unhide Hown') ⟨gb, 0, none⟩ 1 1 [.string kx, .string ls'] rfl rfl ?c1a0 ?c2a0 ?c3a0 ?c4a0 ?c5a0 ?_)
            case c1a0 =>
              intro j u hj
              try simp only [Addr.add_lit, Nat.zero_add]
              rw [Lib.cell_of_heap (unhide Hgb)]
              simpa using hj
            case c2a0 => first | (intro u hu; simp only [List.mem_cons, List.not_mem_nil, or_false] at hu; rcases hu with rfl | rfl <;> rfl) | (repeat (first | rfl | refine And.intro rfl ?_))
            case c3a0 => unfold maxLen; omega
            case c4a0 => omega
            case c5a0 => have := hR.size; omega
            intro v6 w6 hown6 hgrow _
            obtain ⟨ao6, n6, c6, rfl⟩ : ∃ a n c, v6 = .slice a n c := by
              rcases hown6.2 with ⟨h, _⟩ | ⟨g, cap, cur, h, _⟩
              · exact ⟨_, _, _, h⟩
              · exact ⟨_, _, _, h⟩
            have b6 : Below w.heap.size w w6 := b3.grown hgrow b3.size (fun j hj => by have := (hnb j hj).1; have := b4.size; omega)
            have hne : ∀ k, k < w4.heap.size → some k ≠ lv.ownBlock := fun k hk e => by have := (hnb k e.symm).1; omega
            have hk6 : ∀ k, k < w4.heap.size → w6.heap[k]? = w'.heap[k]? := fun k hk => hgrow.block k (by have := hR.size; omega) (hne k hk)
            have hE6 := (hk6 E hE4).trans (unhide HHE)
            have x6 : w6.cell? ⟨E, 2, none⟩ = some lv := by rw [Lib.cell_of_heap hE6]; rfl
            have f6 : w6.frozen? ⟨E, 2, none⟩ = false := Lib.frozen_of_heap hE6 2
            have b7 := b6.setCell (p := ⟨E, 2, none⟩) (by show w.heap.size ≤ E; omega) (.slice ao6 n6 c6)
            have hE7 := heap_setCell_same w6 E 2 _ _ (.slice ao6 n6 c6) hE6
            simp only [List.setIfInBounds_toArray, List.set_cons_succ, List.set_cons_zero] at hE7
            have hk7 : ∀ k, k ≠ E → k < w4.heap.size → (w6.setCell ⟨E, 2, none⟩ (.slice ao6 n6 c6)).heap[k]? = w'.heap[k]? := fun k hk hl => (Below.heap_setCell w6 ⟨E, 2, none⟩ _ k hk).trans (hk6 k hl)
            have H17 := hide ((hk7 w.heap.size (by omega) (by omega)).trans (unhide HH1))
            have H27 := hide ((hk7 (w.heap.size + 1) (by omega) (by omega)).trans (unhide HH2))
            have HE7 := hide hE7
            have Hown7 := hide (show (w6.setCell ⟨E, 2, none⟩ (.slice ao6 n6 c6)).ownsRow w4.heap.size 28 2 (.slice ao6 n6 c6) (i + 1) (L0 ++ [.string kx, .string ls']) from
              ⟨hown6.1, hown6.2.imp id fun ⟨g, cap, cur, q1, q2, q3, q4⟩ => ⟨g, cap, cur, q1, q2, (Below.heap_setCell w6 ⟨E, 2, none⟩ _ g (by show g ≠ E; omega)).trans q3, q4⟩⟩)
            have z7 : w4.heap.size ≤ (w6.setCell ⟨E, 2, none⟩ (.slice ao6 n6 c6)).heap.size := by
              have := hgrow.size
              have := hR.size
              simp
              omega
            clear hown6 hgrow hE6 hE7 hk6 hk7 hne hnb
            go_wp2
            go_roundw
            case rel =>
              refine ⟨i + 1, .slice ao6 n6 c6, by omega, by omega, by go_num, b7, z7, unhide H17, unhide H27, unhide HE7, ?_⟩
              rw [unhide Hps]
              exact unhide Hown7
            case measure =>
              simp only [intOf]
              omega
        · have i3 : ¬ (i : Int) < 3 := by omega
          have hus : (ps.take i).map parE = (ps.take 3).map parE := by rw [show i = 3 by omega]
          rw [hus] at hown
          have hul : i = ((ps.take 3).map parE).length := by rw [List.length_map, List.length_take]; omega
          obtain ⟨us, hUS⟩ : ∃ us, us = (ps.take 3).map parE := ⟨_, rfl⟩
          rw [← hUS] at hown hul
          have HUS := hide hUS
          have hown' : wr.ownsRow w4.heap.size 28 2 lv (us.map U2.cells).length (us.map U2.cells).flatten := by rw [List.length_map, ← hul]; exact hown
          have hlt5 := hown'.lt
          obtain ⟨ao, cap, hlv, hrow, _, had⟩ := rowG_own (lenU _) hown'
          rw [List.length_map] at hlv
          obtain ⟨W5, hW5⟩ : ∃ W5, W5 = wr.heap.size := ⟨_, rfl⟩
          have inv0 : EnInv w w.heap.size E W5 #[.int .i64 t, .int .i64 n, .slice po ps.length pc, .slice no ns.length nc, .slice vo vs.length vc] kt ls lv (.slice none 0 0) us (((ns.zip vs).take 0).map atE) wr [] :=
            ⟨hbw, by omega, h1, h2, hE, ⟨ao, cap, hlv, hrow, fun ad e => by
              have h5 := hlt5 ad.block (by rw [hlv, e]; rfl)
              omega⟩, World.ownsRow_nil _ _ _ _, fun _ => rfl, rfl, fun _ h => absurd h (Nat.not_lt_zero _)⟩
          have hE5 : E < W5 := by omega
          have HI0 := hide inv0
          clear inv0 hown hown' hlt5 hrow had hlv h1 h2 hE hUS hus hul hW5
          obtain ⟨pv, hpv⟩ : ∃ pv, pv = lv := ⟨_, rfl⟩
          rw [← hpv] at HI0
          clear hpv
          go_wp2
          clear c2
          go_loopw [5] (fun jv wr => ∃ (j : Nat) (lv : Value) (rs : List A8), j ≤ 3 ∧ j ≤ ns.length ∧ j ≤ vs.length ∧ jv = .int .i64 j ∧ EnInv w w.heap.size E W5 #[.int .i64 t, .int .i64 n, .slice po ps.length pc, .slice no ns.length nc, .slice vo vs.length vc] kt ls pv lv us (((ns.zip vs).take j).map atE) wr rs) (fun jv _ => 3 - (intOf jv).toNat)
          case atStart => exact ⟨0, _, _, by omega, by omega, by omega, rfl, unhide HI0⟩
          case round =>
            clear HI0
            obtain ⟨j, lv, rs, hj3, hjn, hjv, rfl, inv⟩ := hrel
            have c3 : wr.cell? ⟨w.heap.size, 3, none⟩ = some (.slice no ns.length nc) := by rw [Lib.cell_of_heap inv.h1]; rfl
            have c4 : wr.cell? ⟨w.heap.size, 4, none⟩ = some (.slice vo vs.length vc) := by rw [Lib.cell_of_heap inv.h1]; rfl
            by_cases n1 : j < ns.length
            · have m1 : (j : Int) < (ns.length : Int) := by omega
              by_cases n2 : j < vs.length
              · have m2 : (j : Int) < (vs.length : Int) := by omega
                by_cases n3 : j < 3
                · have m3 : (j : Int) < 3 := by omega
                  have hcx0 := (unhide HOK).ns j n1
                  obtain ⟨nb, noff, hno, hnb0, hcx0⟩ := hcx0
                  have hno : no = some ⟨nb, noff, none⟩ := hno
                  subst hno
                  have hv0 := (unhide HOK).vs j n2
                  obtain ⟨hrk, vb, voff, lo', lc', hvo, hvb0, q0, q1, q2, q3, hl', hrr⟩ := hv0
                  have hvo : vo = some ⟨vb, voff, none⟩ := hvo
                  subst hvo
                  have hnbw : nb < wr.heap.size := Nat.lt_of_lt_of_le hnb0 inv.below.size
                  have hcxw := (inv.below.cell (p := ⟨nb, noff + j, none⟩) hnb0).trans hcx0
                  obtain ⟨x, hx⟩ : ∃ x, x = ns[j] := ⟨_, rfl⟩
                  obtain ⟨rv, hrv⟩ : ∃ rv, rv = vs[j] := ⟨_, rfl⟩
                  have hzl : j < (ns.zip vs).length := by rw [List.length_zip]; omega
                  have htk : ((ns.zip vs).take (j + 1)).map atE = ((ns.zip vs).take j).map atE ++ [(nmE x, cut3 (goodG rv.1 rv.2))] := by
                    rw [List.take_succ_eq_append_getElem hzl, List.map_append, hx, hrv]
                    simp [atE]
                  have hcxw : wr.cell? ⟨nb, noff + j, none⟩ = some (.int .i64 x) := by rw [hx]; exact hcxw
                  have hrk : rv.1.Ok w := by rw [hrv]; exact hrk
                  have q0 : w.cell? ⟨vb, voff + j * 4, none⟩ = some (.int .i64 rv.1.k) := by rw [hrv]; exact q0
                  have q1 : w.cell? ⟨vb, voff + j * 4 + 1, none⟩ = some (.int .i64 rv.1.n) := by rw [hrv]; exact q1
                  have q2 : w.cell? ⟨vb, voff + j * 4 + 2, none⟩ = some (.slice rv.1.so rv.1.xs.length rv.1.sc) := by rw [hrv]; exact q2
                  have q3 : w.cell? ⟨vb, voff + j * 4 + 3, none⟩ = some (.slice lo' rv.2.length lc') := by rw [hrv]; exact q3
                  have hl' : rv.2.length ≤ 9223372036854775807 := by rw [hrv]; exact hl'
                  have hrr : RowRaw w lo' rv.2 := by rw [hrv]; exact hrr
                  have p0 := (inv.below.cell (p := ⟨vb, voff + j * 4, none⟩) hvb0).trans q0
                  have p1 := (inv.below.cell (p := ⟨vb, voff + j * 4 + 1, none⟩) hvb0).trans q1
                  have p2 := (inv.below.cell (p := ⟨vb, voff + j * 4 + 2, none⟩) hvb0).trans q2
                  have p3 := (inv.below.cell (p := ⟨vb, voff + j * 4 + 3, none⟩) hvb0).trans q3
                  have GD := good3_cap rv.1 lo' rv.2 lc' wr (hrk.below inv.below) hl' (hrr.below inv.below)
                  have NX := fun w' => name5e_any x w'
                  obtain ⟨nm, hnm⟩ : ∃ nm, nm = nmE x := ⟨_, rfl⟩
                  rw [← hnm] at NX htk
                  have Htk := hide htk
                  clear hx hrv htk hcx0 hnb0 hrk q0 q1 q2 q3 hl' hrr hnm hvb0
                  go_wp2_with fail
                  clear p0 p1 p2 p3 c3 c4
                  refine GD.mono ?_
                  clear GD
                  rintro e w3 ⟨b3, R, rfl, hG, hcapR⟩
                  unfold R7.val
                  by_cases h3R : 3 < R.ll
                  · have i4 : (3 : Int) < (R.ll : Int) := by omega
                    obtain ⟨R', hR'⟩ : ∃ R' : R7, R' = { R with ll := 3 } := ⟨_, rfl⟩
                    have HGc : Hid (IsG w3 (cut3 (goodG rv.1 rv.2)) R') := hide (by rw [hR']; exact isG_cut_yes hG h3R)
                    have hcl : Obj.cells #[.int .i64 R.k, .bool R.b, .int .i64 R.n, .string R.s, .string R.t, .string R.i, .slice R.lo 3 R.lc] 49 = Obj.cells #[.int .i64 R'.k, .bool R'.b, .int .i64 R'.n, .string R'.s, .string R'.t, .string R'.i, .slice R'.lo R'.ll R'.lc] 49 := by rw [hR']
                    have hsl : ∀ W, (Instr.slice 47 (.slice R.lo R.ll R.lc) none (some (.int .i64 3)) none).run Try.prog W = .ok (.slice R.lo 3 R.lc) W := fun W => run_cutV_h R.lo R.ll R.lc 3 (by omega) W
                    have Hcl := hide hcl
                    clear hG h3R hR' hcl
                    go_upto_region 12 with fail
                    rw [unhide Hcl]
                    clear Hcl hsl
                    have AV := at7_new w3 R'
                    have bcv := below1 w3 (.cells #[.int .i64 R'.k, .bool R'.b, .int .i64 R'.n, .string R'.s, .string R'.t, .string R'.i, .slice R'.lo R'.ll R'.lc] 49)
                    have hVl := size1 w3 (.cells #[.int .i64 R'.k, .bool R'.b, .int .i64 R'.n, .string R'.s, .string R'.t, .string R'.i, .slice R'.lo R'.ll R'.lc] 49)
                    have bwv := b3.trans (bcv.mono b3.size)
                    have H1v := kept_of_below bwv inv.h1
                    have HEv := kept_of_below bwv inv.hE
                    have hnbv := Nat.lt_of_lt_of_le hnbw bwv.size
                    have hcxv := (bwv.cell (p := ⟨nb, noff + j, none⟩) hnbw).trans hcxw
                    obtain ⟨V, hV⟩ : ∃ V, V = w3.heap.size := ⟨_, rfl⟩
                    rw [← hV] at AV hVl ⊢
                    have hVl : V < (w3.alloc (.cells #[.int .i64 R'.k, .bool R'.b, .int .i64 R'.n, .string R'.s, .string R'.t, .string R'.i, .slice R'.lo R'.ll R'.lc] 49)).heap.size := by omega
                    have hszv := bwv.size
                    have hs5 := inv.size
                    clear hV
                    generalize w3.alloc _ = wv at *
                    refine wp_specs_put 11 (en3Sp w.heap.size E nb noff j x lv (.slice (some ⟨nb, noff, none⟩) ns.length nc) nm R') (fun w' => Below wv.heap.size wv w') (by kernel_rfl) (by kernel_rfl) (Below.refl _ wv).drew ?_ ?_
                    · intro q o hq' ho a' w' hR hdep hslot K hK
                      have H1' := kept_of_below hR H1v
                      have HE' := kept_of_below hR HEv
                      have c3' : w'.cell? ⟨w.heap.size, 3, none⟩ = some (.slice (some ⟨nb, noff, none⟩) ns.length nc) := by rw [Lib.cell_of_heap H1']; rfl
                      have cE : w'.cell? ⟨E, 3, none⟩ = some lv := by rw [Lib.cell_of_heap HE']; rfl
                      have cx := (hR.cell (p := ⟨nb, noff + j, none⟩) hnbv).trans hcxv
                      obtain ⟨v0, v1, v2, v3, v4, v5, v6⟩ := AV.below hR hVl
                      simp only [Nat.zero_add] at v1 v2 v3 v4 v5 v6
                      have hc : q = 0 ∨ q = 1 ∨ q = 2 ∨ q = 3 ∨ q = 4 ∨ q = 5 ∨ q = 6 ∨ q = 7 ∨ q = 8 ∨ q = 9 ∨ q = 10 := by omega
                      rcases hc with rfl | rfl | rfl | rfl | rfl | rfl | rfl | rfl | rfl | rfl | rfl
                      · cases ho
                        have e0 : a'.tmps.getD 3 undef = .pointer (some ⟨E, 0, none⟩) := hslot 3 (by decide)
                        unfold Oper.wp
                        go_simp
                        exact hK _ _ rfl hR (fun _ _ h => h)
                      · cases ho
                        have e0 : a'.tmps.getD 85 undef = .pointer (some ⟨E, 3, none⟩) := hdep 0 (by kernel_rfl)
                        unfold Oper.wp
                        go_simp
                        exact hK _ _ rfl hR (fun _ _ h => h)
                      · cases ho
                        have e0 : a'.tmps.getD 1 undef = .pointer (some ⟨w.heap.size, 0, none⟩) := hslot 1 (by decide)
                        unfold Oper.wp
                        go_simp
                        exact hK _ _ rfl hR (fun _ _ h => h)
                      · cases ho
                        have e0 : a'.tmps.getD 87 undef = .pointer (some ⟨w.heap.size, 3, none⟩) := hdep 2 (by kernel_rfl)
                        unfold Oper.wp
                        go_simp
                        exact hK _ _ rfl hR (fun _ _ h => h)
                      · cases ho
                        have e0 : a'.tmps.getD 5 undef = .int .i64 j := hslot 5 (by decide)
                        unfold Oper.wp
                        go_simp
                        exact hK _ _ rfl hR (fun _ _ h => h)
                      · cases ho
                        have e0 : a'.tmps.getD 88 undef = .slice (some ⟨nb, noff, none⟩) ns.length nc := hdep 3 (by kernel_rfl)
                        have e1 : a'.tmps.getD 89 undef = .int .i64 j := hdep 4 (by kernel_rfl)
                        have k0 : (0 : Int) ≤ (j : Int) := by omega
                        unfold Oper.wp
                        go_simp
                        exact hK _ _ (by simp [en3Sp]) hR (fun _ _ h => h)
                      · cases ho
                        have e0 : a'.tmps.getD 90 undef = .pointer (some ⟨nb, noff + j, none⟩) := hdep 5 (by kernel_rfl)
                        unfold Oper.wp
                        go_simp
                        exact hK _ _ rfl hR (fun _ _ h => h)
                      · cases ho
                        have e0 : a'.tmps.getD 91 undef = .int .i64 x := hdep 6 (by kernel_rfl)
                        clear c3' cE cx v0 v1 v2 v3 v4 v5 v6
                        unfold Oper.wp
                        go_simp
                        refine (NX w').mono ?_
                        rintro e w3 ⟨rfl, b3⟩
                        exact hK _ _ rfl (hR.trans (b3.mono hR.size)) (en3Sp_up b3)
                      · cases ho
                        have e0 : a'.tmps.getD 6 undef = .pointer (some ⟨V, 0, none⟩) := hslot 6 (by decide)
                        unfold Oper.wp
                        go_simp
                        exact hK _ _ rfl hR (fun _ _ h => h)
                      · cases ho
                        have e0 : a'.tmps.getD 92 undef = .string nm := hdep 7 (by kernel_rfl)
                        have e0' : a'.tmps[92]?.getD undef = .string nm := by simpa using e0
                        have e1 : a'.tmps.getD 93 undef = .agg #[.int .i64 R'.k, .bool R'.b, .int .i64 R'.n, .string R'.s, .string R'.t, .string R'.i, .slice R'.lo R'.ll R'.lc] := hdep 8 (by kernel_rfl)
                        have e1' : a'.tmps[93]?.getD undef = .agg #[.int .i64 R'.k, .bool R'.b, .int .i64 R'.n, .string R'.s, .string R'.t, .string R'.i, .slice R'.lo R'.ll R'.lc] := by simpa using e1
                        unfold Oper.wp
                        go_simp
                        exact hK _ _ rfl hR (fun _ _ h => h)
                      · cases ho
                        have e0 : a'.tmps.getD 94 undef = .agg #[.string nm, .int .i64 R'.k, .bool R'.b, .int .i64 R'.n, .string R'.s, .string R'.t, .string R'.i, .slice R'.lo R'.ll R'.lc] := hdep 9 (by kernel_rfl)
                        have e0' : a'.tmps[94]?.getD undef = .agg #[.string nm, .int .i64 R'.k, .bool R'.b, .int .i64 R'.n, .string R'.s, .string R'.t, .string R'.i, .slice R'.lo R'.ll R'.lc] := by simpa using e0
                        unfold Oper.wp
                        go_simp
                        exact hK _ _ ⟨w'.heap.size, rfl, alloc_heap _ _⟩ (hR.alloc hR.size _) (en3Sp_up (below1 _ _))
                    · intro v w' hR hall
                      have f0 := hall 0 (by decide)
                      have f1 := hall 1 (by decide)
                      have f2 := hall 2 (by decide)
                      have f3 := hall 3 (by decide)
                      have f4 := hall 4 (by decide)
                      have f5 := hall 5 (by decide)
                      have f6 := hall 6 (by decide)
                      have f7 := hall 7 (by decide)
                      have f8 := hall 8 (by decide)
                      have f9 := hall 9 (by decide)
                      obtain ⟨gb, f10, hgb⟩ := hall 10 (by decide)
                      unfold en3Sp at f0 f1 f2 f3 f4 f5 f6 f7 f8 f9
                      have b6w := bwv.trans (hR.mono bwv.size)
                      obtain ⟨L1, hL1⟩ : ∃ L1, L1 = (rs.map A8.cells).flatten := ⟨_, rfl⟩
                      have Hown' := hide (own_below (own_below inv.own bwv) hR)
                      rw [← hL1] at Hown'
                      have hnb := (unhide Hown').lt
                      have HE' := hide (kept_of_below hR HEv)
                      have hrl : rs.length ≤ 3 := by have := inv.at_.1; simp at this; omega
                      have HSTEP := hide (fun (w6 : World) (lv' : Value) h1 h2 => enInv_step (w' := w') (w6 := w6) (lv' := lv') (nm := nm) (R := R') inv (Nat.le_refl _) hBE hE5 b6w (IsG.below (IsG.below (unhide HGc) bcv) hR) h1 h2)
                      rw [← hL1] at HSTEP
                      clear hL1
                      clear hall NX hcxv H1v HEv AV
                      simp only [putAll, dstOf, List.getElem?_cons_zero, List.getElem?_cons_succ, Option.bind_some, List.drop_succ_cons, List.drop_zero, f0, f1, f2, f3, f4, f5, f6, f7, f8, f9, f10]
                      clear f0 f1 f2 f3 f4 f5 f6 f7 f8 f9 f10
                      simp only [Act.put, List.setIfInBounds_toArray, List.set_cons_succ, List.set_cons_zero]
                      have Hgb := hide hgb
                      clear hgb
                      go_wp2_with (at_builtin; refine wpList_append_own _ rfl _ _ 38 rfl W5 51 i0Attr _ 8 112 Try.underlying38 hiAttr hz0Attr hz1Attr hz2Attr rfl (by decide) _ _ _ rfl (unhide Hown') ⟨gb, 0, none⟩ 1 1 [.string nm, .int .i64 R'.k, .bool R'.b, .int .i64 R'.n, .string R'.s, .string R'.t, .string R'.i, .slice R'.lo R'.ll R'.lc] rfl rfl ?c1bx1 ?c2bx1 ?c3bx1 ?c4bx1 ?c5bx1 ?_)
                      case c1bx1 =>
                        intro j u hj
                        try simp only [Addr.add_lit, Nat.zero_add]
                        rw [Lib.cell_of_heap (unhide Hgb)]
                        simpa using hj
                      case c2bx1 => first | (intro u hu; simp only [List.mem_cons, List.not_mem_nil, or_false] at hu; rcases hu with rfl | rfl | rfl | rfl | rfl | rfl | rfl | rfl <;> rfl) | (repeat (first | rfl | refine And.intro rfl ?_))
                      case c3bx1 => unfold maxLen; omega
                      case c4bx1 => omega
                      case c5bx1 => have := hR.size; omega
                      intro v6 w6 hown6 hgrow _
                      obtain ⟨ao6, n6, c6, rfl⟩ : ∃ a n c, v6 = .slice a n c := by
                        rcases hown6.2 with ⟨h, _⟩ | ⟨g, cap, cur, h, _⟩
                        · exact ⟨_, _, _, h⟩
                        · exact ⟨_, _, _, h⟩
                      have hE6 := (hgrow.block E (by have := hR.size; have := bwv.size; omega) (fun e => by have := (hnb _ e.symm).1; omega)).trans (unhide HE')
                      have x6 : w6.cell? ⟨E, 3, none⟩ = some lv := by rw [Lib.cell_of_heap hE6]; rfl
                      have f6 : w6.frozen? ⟨E, 3, none⟩ = false := Lib.frozen_of_heap hE6 3
                      have NEXT := hide (unhide HSTEP w6 (.slice ao6 n6 c6) hown6 hgrow)
                      clear hown6 hgrow hE6 hnb inv
                      go_wp2
                      go_roundw
                      case rel =>
                        refine ⟨j + 1, .slice ao6 n6 c6, rs ++ [⟨nm, R'⟩], by omega, by omega, by omega, by go_num, ?_⟩
                        rw [unhide Htk]
                        exact unhide NEXT
                      case measure =>
                        simp only [intOf]
                        omega
                  · have i4 : ¬ (3 : Int) < (R.ll : Int) := by omega
                    obtain ⟨R', hR'⟩ : ∃ R' : R7, R' = R := ⟨_, rfl⟩
                    have HGc : Hid (IsG w3 (cut3 (goodG rv.1 rv.2)) R') := hide (by rw [hR']; exact isG_cut_no hG h3R)
                    have hcl : Obj.cells #[.int .i64 R.k, .bool R.b, .int .i64 R.n, .string R.s, .string R.t, .string R.i, .slice R.lo R.ll R.lc] 49 = Obj.cells #[.int .i64 R'.k, .bool R'.b, .int .i64 R'.n, .string R'.s, .string R'.t, .string R'.i, .slice R'.lo R'.ll R'.lc] 49 := by rw [hR']
                    have Hcl := hide hcl
                    clear hG h3R hR' hcl
                    go_upto_region 12 with fail
                    rw [unhide Hcl]
                    clear Hcl
                    have AV := at7_new w3 R'
                    have bcv := below1 w3 (.cells #[.int .i64 R'.k, .bool R'.b, .int .i64 R'.n, .string R'.s, .string R'.t, .string R'.i, .slice R'.lo R'.ll R'.lc] 49)
                    have hVl := size1 w3 (.cells #[.int .i64 R'.k, .bool R'.b, .int .i64 R'.n, .string R'.s, .string R'.t, .string R'.i, .slice R'.lo R'.ll R'.lc] 49)
                    have bwv := b3.trans (bcv.mono b3.size)
                    have H1v := kept_of_below bwv inv.h1
                    have HEv := kept_of_below bwv inv.hE
                    have hnbv := Nat.lt_of_lt_of_le hnbw bwv.size
                    have hcxv := (bwv.cell (p := ⟨nb, noff + j, none⟩) hnbw).trans hcxw
                    obtain ⟨V, hV⟩ : ∃ V, V = w3.heap.size := ⟨_, rfl⟩
                    rw [← hV] at AV hVl ⊢
                    have hVl : V < (w3.alloc (.cells #[.int .i64 R'.k, .bool R'.b, .int .i64 R'.n, .string R'.s, .string R'.t, .string R'.i, .slice R'.lo R'.ll R'.lc] 49)).heap.size := by omega
                    have hszv := bwv.size
                    have hs5 := inv.size
                    clear hV
                    generalize w3.alloc _ = wv at *
                    refine wp_specs_put 11 (en3Sp w.heap.size E nb noff j x lv (.slice (some ⟨nb, noff, none⟩) ns.length nc) nm R') (fun w' => Below wv.heap.size wv w') (by kernel_rfl) (by kernel_rfl) (Below.refl _ wv).drew ?_ ?_
                    · intro q o hq' ho a' w' hR hdep hslot K hK
                      have H1' := kept_of_below hR H1v
                      have HE' := kept_of_below hR HEv
                      have c3' : w'.cell? ⟨w.heap.size, 3, none⟩ = some (.slice (some ⟨nb, noff, none⟩) ns.length nc) := by rw [Lib.cell_of_heap H1']; rfl
                      have cE : w'.cell? ⟨E, 3, none⟩ = some lv := by rw [Lib.cell_of_heap HE']; rfl
                      have cx := (hR.cell (p := ⟨nb, noff + j, none⟩) hnbv).trans hcxv
                      obtain ⟨v0, v1, v2, v3, v4, v5, v6⟩ := AV.below hR hVl
                      simp only [Nat.zero_add] at v1 v2 v3 v4 v5 v6
                      have hc : q = 0 ∨ q = 1 ∨ q = 2 ∨ q = 3 ∨ q = 4 ∨ q = 5 ∨ q = 6 ∨ q = 7 ∨ q = 8 ∨ q = 9 ∨ q = 10 := by omega
                      rcases hc with rfl | rfl | rfl | rfl | rfl | rfl | rfl | rfl | rfl | rfl | rfl
                      · cases ho
                        have e0 : a'.tmps.getD 3 undef = .pointer (some ⟨E, 0, none⟩) := hslot 3 (by decide)
                        unfold Oper.wp
                        go_simp
                        exact hK _ _ rfl hR (fun _ _ h => h)
                      · cases ho
                        have e0 : a'.tmps.getD 85 undef = .pointer (some ⟨E, 3, none⟩) := hdep 0 (by kernel_rfl)
                        unfold Oper.wp
                        go_simp
                        exact hK _ _ rfl hR (fun _ _ h => h)
                      · cases ho
                        have e0 : a'.tmps.getD 1 undef = .pointer (some ⟨w.heap.size, 0, none⟩) := hslot 1 (by decide)
                        unfold Oper.wp
                        go_simp
                        exact hK _ _ rfl hR (fun _ _ h => h)
                      · cases ho
                        have e0 : a'.tmps.getD 87 undef = .pointer (some ⟨w.heap.size, 3, none⟩) := hdep 2 (by kernel_rfl)
                        unfold Oper.wp
                        go_simp
                        exact hK _ _ rfl hR (fun _ _ h => h)
                      · cases ho
                        have e0 : a'.tmps.getD 5 undef = .int .i64 j := hslot 5 (by decide)
                        unfold Oper.wp
                        go_simp
                        exact hK _ _ rfl hR (fun _ _ h => h)
                      · cases ho
                        have e0 : a'.tmps.getD 88 undef = .slice (some ⟨nb, noff, none⟩) ns.length nc := hdep 3 (by kernel_rfl)
                        have e1 : a'.tmps.getD 89 undef = .int .i64 j := hdep 4 (by kernel_rfl)
                        have k0 : (0 : Int) ≤ (j : Int) := by omega
                        unfold Oper.wp
                        go_simp
                        exact hK _ _ (by simp [en3Sp]) hR (fun _ _ h => h)
                      · cases ho
                        have e0 : a'.tmps.getD 90 undef = .pointer (some ⟨nb, noff + j, none⟩) := hdep 5 (by kernel_rfl)
                        unfold Oper.wp
                        go_simp
                        exact hK _ _ rfl hR (fun _ _ h => h)
                      · cases ho
                        have e0 : a'.tmps.getD 91 undef = .int .i64 x := hdep 6 (by kernel_rfl)
                        clear c3' cE cx v0 v1 v2 v3 v4 v5 v6
                        unfold Oper.wp
                        go_simp
                        refine (NX w').mono ?_
                        rintro e w3 ⟨rfl, b3⟩
                        exact hK _ _ rfl (hR.trans (b3.mono hR.size)) (en3Sp_up b3)
                      · cases ho
                        have e0 : a'.tmps.getD 6 undef = .pointer (some ⟨V, 0, none⟩) := hslot 6 (by decide)
                        unfold Oper.wp
                        go_simp
                        exact hK _ _ rfl hR (fun _ _ h => h)
                      · cases ho
                        have e0 : a'.tmps.getD 92 undef = .string nm := hdep 7 (by kernel_rfl)
                        have e0' : a'.tmps[92]?.getD undef = .string nm := by simpa using e0
                        have e1 : a'.tmps.getD 93 undef = .agg #[.int .i64 R'.k, .bool R'.b, .int .i64 R'.n, .string R'.s, .string R'.t, .string R'.i, .slice R'.lo R'.ll R'.lc] := hdep 8 (by kernel_rfl)
                        have e1' : a'.tmps[93]?.getD undef = .agg #[.int .i64 R'.k, .bool R'.b, .int .i64 R'.n, .string R'.s, .string R'.t, .string R'.i, .slice R'.lo R'.ll R'.lc] := by simpa using e1
                        unfold Oper.wp
                        go_simp
                        exact hK _ _ rfl hR (fun _ _ h => h)
                      · cases ho
                        have e0 : a'.tmps.getD 94 undef = .agg #[.string nm, .int .i64 R'.k, .bool R'.b, .int .i64 R'.n, .string R'.s, .string R'.t, .string R'.i, .slice R'.lo R'.ll R'.lc] := hdep 9 (by kernel_rfl)
                        have e0' : a'.tmps[94]?.getD undef = .agg #[.string nm, .int .i64 R'.k, .bool R'.b, .int .i64 R'.n, .string R'.s, .string R'.t, .string R'.i, .slice R'.lo R'.ll R'.lc] := by simpa using e0
                        unfold Oper.wp
                        go_simp
                        exact hK _ _ ⟨w'.heap.size, rfl, alloc_heap _ _⟩ (hR.alloc hR.size _) (en3Sp_up (below1 _ _))
                    · intro v w' hR hall
                      have f0 := hall 0 (by decide)
                      have f1 := hall 1 (by decide)
                      have f2 := hall 2 (by decide)
                      have f3 := hall 3 (by decide)
                      have f4 := hall 4 (by decide)
                      have f5 := hall 5 (by decide)
                      have f6 := hall 6 (by decide)
                      have f7 := hall 7 (by decide)
                      have f8 := hall 8 (by decide)
                      have f9 := hall 9 (by decide)
                      obtain ⟨gb, f10, hgb⟩ := hall 10 (by decide)
                      unfold en3Sp at f0 f1 f2 f3 f4 f5 f6 f7 f8 f9
                      have b6w := bwv.trans (hR.mono bwv.size)
                      obtain ⟨L1, hL1⟩ : ∃ L1, L1 = (rs.map A8.cells).flatten := ⟨_, rfl⟩
                      have Hown' := hide (own_below (own_below inv.own bwv) hR)
                      rw [← hL1] at Hown'
                      have hnb := (unhide Hown').lt
                      have HE' := hide (kept_of_below hR HEv)
                      have hrl : rs.length ≤ 3 := by have := inv.at_.1; simp at this; omega
                      have HSTEP := hide (fun (w6 : World) (lv' : Value) h1 h2 => enInv_step (w' := w') (w6 := w6) (lv' := lv') (nm := nm) (R := R') inv (Nat.le_refl _) hBE hE5 b6w (IsG.below (IsG.below (unhide HGc) bcv) hR) h1 h2)
                      rw [← hL1] at HSTEP
                      clear hL1
                      clear hall NX hcxv H1v HEv AV
                      simp only [putAll, dstOf, List.getElem?_cons_zero, List.getElem?_cons_succ, Option.bind_some, List.drop_succ_cons, List.drop_zero, f0, f1, f2, f3, f4, f5, f6, f7, f8, f9, f10]
                      clear f0 f1 f2 f3 f4 f5 f6 f7 f8 f9 f10
                      simp only [Act.put, List.setIfInBounds_toArray, List.set_cons_succ, List.set_cons_zero]
                      have Hgb := hide hgb
                      clear hgb
                      go_wp2_with (at_builtin; refine wpList_append_own _ rfl _ _ 38 rfl W5 51 i0Attr _ 8 112 Try.underlying38 hiAttr hz0Attr hz1Attr hz2Attr rfl (by decide) _ _ _ rfl (unhide Hown') ⟨gb, 0, none⟩ 1 1 [.string nm, .int .i64 R'.k, .bool R'.b, .int .i64 R'.n, .string R'.s, .string R'.t, .string R'.i, .slice R'.lo R'.ll R'.lc] rfl rfl ?c1bx2 ?c2bx2 ?c3bx2 ?c4bx2 ?c5bx2 ?_)
                      case c1bx2 =>
                        intro j u hj
                        try simp only [Addr.add_lit, Nat.zero_add]
                        rw [Lib.cell_of_heap (unhide Hgb)]
                        simpa using hj
                      case c2bx2 => first | (intro u hu; simp only [List.mem_cons, List.not_mem_nil, or_false] at hu; rcases hu with rfl | rfl | rfl | rfl | rfl | rfl | rfl | rfl <;> rfl) | (repeat (first | rfl | refine And.intro rfl ?_))
                      case c3bx2 => unfold maxLen; omega
                      case c4bx2 => omega
                      case c5bx2 => have := hR.size; omega
                      intro v6 w6 hown6 hgrow _
                      obtain ⟨ao6, n6, c6, rfl⟩ : ∃ a n c, v6 = .slice a n c := by
                        rcases hown6.2 with ⟨h, _⟩ | ⟨g, cap, cur, h, _⟩
                        · exact ⟨_, _, _, h⟩
                        · exact ⟨_, _, _, h⟩
                      have hE6 := (hgrow.block E (by have := hR.size; have := bwv.size; omega) (fun e => by have := (hnb _ e.symm).1; omega)).trans (unhide HE')
                      have x6 : w6.cell? ⟨E, 3, none⟩ = some lv := by rw [Lib.cell_of_heap hE6]; rfl
                      have f6 : w6.frozen? ⟨E, 3, none⟩ = false := Lib.frozen_of_heap hE6 3
                      have NEXT := hide (unhide HSTEP w6 (.slice ao6 n6 c6) hown6 hgrow)
                      clear hown6 hgrow hE6 hnb inv
                      go_wp2
                      go_roundw
                      case rel =>
                        refine ⟨j + 1, .slice ao6 n6 c6, rs ++ [⟨nm, R'⟩], by omega, by omega, by omega, by go_num, ?_⟩
                        rw [unhide Htk]
                        exact unhide NEXT
                      case measure =>
                        simp only [intOf]
                        omega
                · have m3 : ¬ (j : Int) < 3 := by omega
                  have hjz : ((ns.zip vs).take j).map atE = ((ns.zip vs).take 3).map atE := by rw [show j = 3 by omega]
                  have hbw := inv.below
                  have h1 := inv.h1
                  have h2 := inv.h2
                  have hE := inv.hE
                  obtain ⟨ao, cap, hpv, hrU, had⟩ := inv.rowU
                  have hown' : wr.ownsRow W5 51 8 lv (rs.map A8.cells).length (rs.map A8.cells).flatten := by rw [List.length_map]; exact inv.own
                  obtain ⟨ao2, cap2, hlv, hrA, _, had2⟩ := rowG_own (lenA _) hown'
                  rw [List.length_map] at hlv
                  subst hlv hpv
                  have e0 : wr.cell? ⟨E, 0, none⟩ = some (.string kt) := by rw [Lib.cell_of_heap hE]; rfl
                  have e1 : wr.cell? ⟨E, 1, none⟩ = some (.string ls) := by rw [Lib.cell_of_heap hE]; rfl
                  have e2 : wr.cell? ⟨E, 2, none⟩ = some (.slice ao us.length cap) := by rw [Lib.cell_of_heap hE]; rfl
                  have e3 : wr.cell? ⟨E, 3, none⟩ = some (.slice ao2 rs.length cap2) := by rw [Lib.cell_of_heap hE]; rfl
                  have d0 : wr.cell? ⟨w.heap.size + 1, 0, none⟩ = some (.string ⟨#[]⟩) := by rw [Lib.cell_of_heap h2]; rfl
                  have d1 : wr.cell? ⟨w.heap.size + 1, 1, none⟩ = some (.string ⟨#[]⟩) := by rw [Lib.cell_of_heap h2]; rfl
                  have d2 : wr.cell? ⟨w.heap.size + 1, 2, none⟩ = some (.slice none 0 0) := by rw [Lib.cell_of_heap h2]; rfl
                  have d3 : wr.cell? ⟨w.heap.size + 1, 3, none⟩ = some (.slice none 0 0) := by rw [Lib.cell_of_heap h2]; rfl
                  have dF : ∀ o, wr.frozen? ⟨w.heap.size + 1, o, none⟩ = false := fun o => Lib.frozen_of_heap h2 o
                  have hs : (wr.setCells (w.heap.size + 1) 0 [.string kt, .string ls, .slice ao us.length cap, .slice ao2 rs.length cap2]).heap.size = wr.heap.size := size_setCells _ _ _
                  have hkb : ∀ b, b ≠ w.heap.size + 1 → (wr.setCells (w.heap.size + 1) 0 [.string kt, .string ls, .slice ao us.length cap, .slice ao2 rs.length cap2]).heap[b]? = wr.heap[b]? := fun b hb => heap_setCells hb _ _ _
                  have Hb := hide (belowSetCells (b := w.heap.size + 1) [.string kt, .string ls, .slice ao us.length cap, .slice ao2 rs.length cap2] 0 wr hbw (Nat.le_succ _))
                  have asF : IsAs (wr.setCells (w.heap.size + 1) 0 [.string kt, .string ls, .slice ao us.length cap, .slice ao2 rs.length cap2]) (fun _ _ => True) rs (((ns.zip vs).take 3).map atE) := by
                    have hall := inv.at_
                    rw [hjz] at hall
                    refine ⟨hall.1, fun k q1 q2 => ⟨(hall.2 k q1 q2).1, ?_⟩⟩
                    have hg := (hall.2 k q1 q2).2.1
                    have hg2 := hg.other (b := w.heap.size + 1) (s := ⟨#[]⟩) d0
                    exact hg2.turn (by omega) fun b hb _ => ⟨hkb b hb, trivial⟩
                  have HasF := hide asF
                  have Hown2 := hide (show (wr.setCells (w.heap.size + 1) 0 [.string kt, .string ls, .slice ao us.length cap, .slice ao2 rs.length cap2]).ownsRow W5 51 8 (.slice ao2 rs.length cap2) rs.length (rs.map A8.cells).flatten from
                    ⟨inv.own.1, inv.own.2.imp id fun ⟨g, c', cur, q1, q2, q3, q4⟩ => ⟨g, c', cur, q1, q2, (hkb g (by omega)).trans q3, q4⟩⟩)
                  have Hpar := hide (fun ad e => (had ad e).2)
                  have Hnil := hide (show rs = [] → ao2 = none from fun h => by
                    have := inv.nil h
                    cases ao2 with
                    | none => rfl
                    | some _ => cases this)
                  have hW : w.heap.size ≤ W5 := by omega
                  have fin : IsEnt (wr.setCells (w.heap.size + 1) 0 [.string kt, .string ls, .slice ao us.length cap, .slice ao2 rs.length cap2]) (fun _ => True) ⟨kt, ls, ao, us.length, cap, ao2, rs.length, cap2⟩ (entP ⟨t, n, po, ps, pc, no, ns, nc, vo, vs, vc⟩) := by
                    refine ⟨unhide HU, congrArg List.length (unhide HUS), ?_, fun _ _ _ => trivial, rs, rfl, hrA.turn (by omega) (fun ad e _ _ => hkb _ (by have := (had2 ad e).2; omega)), fun _ _ _ => trivial, ?_⟩
                    · have := hrU.turn (w' := wr.setCells (w.heap.size + 1) 0 [.string kt, .string ls, .slice ao us.length cap, .slice ao2 rs.length cap2]) (by omega) (fun ad e _ _ => hkb _ (by have := (had ad e).1; omega))
                      rw [show (entP ⟨t, n, po, ps, pc, no, ns, nc, vo, vs, vc⟩).ps = us from (unhide HUS).symm]
                      exact this
                    · exact asF
                  have Hfin := hide fin
                  clear h1 h2 hE inv fin asF hkb hs hrU hrA had had2 hown'
                  clear hbw hEW hEl hEB hE4 hBE hE5 hi3 hip hsz hj3 hjn hjv hjz b2 b3 b4 hR HOK HU HUS HLS z2 hm5
                  go_upto_region 13 with fail
                  iterate 10 go_step
                  refine wp_ret ?_
                  show bodyPost Try.prog Try.f18 _ .ret _ _
                  exact bodyPost_ret (v := .agg #[.string kt, .string ls, .slice ao us.length cap, .slice ao2 rs.length cap2]) (by simp [results, Try.results18, go_sem, d0, d1, d2, d3]) rfl ⟨unhide Hb, ⟨kt, ls, ao, us.length, cap, ao2, rs.length, cap2⟩, rs, W5, rfl, unhide Hfin, rfl, unhide Hown2, unhide HasF, unhide Hpar, unhide Hnil, hW⟩
              · have m2 : ¬ (j : Int) < (vs.length : Int) := by omega
                have hjz : ((ns.zip vs).take j).map atE = ((ns.zip vs).take 3).map atE := by rw [List.take_of_length_le (by rw [List.length_zip]; omega), List.take_of_length_le (by rw [List.length_zip]; omega)]
                have hbw := inv.below
                have h1 := inv.h1
                have h2 := inv.h2
                have hE := inv.hE
                obtain ⟨ao, cap, hpv, hrU, had⟩ := inv.rowU
                have hown' : wr.ownsRow W5 51 8 lv (rs.map A8.cells).length (rs.map A8.cells).flatten := by rw [List.length_map]; exact inv.own
                obtain ⟨ao2, cap2, hlv, hrA, _, had2⟩ := rowG_own (lenA _) hown'
                rw [List.length_map] at hlv
                subst hlv hpv
                have e0 : wr.cell? ⟨E, 0, none⟩ = some (.string kt) := by rw [Lib.cell_of_heap hE]; rfl
                have e1 : wr.cell? ⟨E, 1, none⟩ = some (.string ls) := by rw [Lib.cell_of_heap hE]; rfl
                have e2 : wr.cell? ⟨E, 2, none⟩ = some (.slice ao us.length cap) := by rw [Lib.cell_of_heap hE]; rfl
                have e3 : wr.cell? ⟨E, 3, none⟩ = some (.slice ao2 rs.length cap2) := by rw [Lib.cell_of_heap hE]; rfl
                have d0 : wr.cell? ⟨w.heap.size + 1, 0, none⟩ = some (.string ⟨#[]⟩) := by rw [Lib.cell_of_heap h2]; rfl
                have d1 : wr.cell? ⟨w.heap.size + 1, 1, none⟩ = some (.string ⟨#[]⟩) := by rw [Lib.cell_of_heap h2]; rfl
                have d2 : wr.cell? ⟨w.heap.size + 1, 2, none⟩ = some (.slice none 0 0) := by rw [Lib.cell_of_heap h2]; rfl
                have d3 : wr.cell? ⟨w.heap.size + 1, 3, none⟩ = some (.slice none 0 0) := by rw [Lib.cell_of_heap h2]; rfl
                have dF : ∀ o, wr.frozen? ⟨w.heap.size + 1, o, none⟩ = false := fun o => Lib.frozen_of_heap h2 o
                have hs : (wr.setCells (w.heap.size + 1) 0 [.string kt, .string ls, .slice ao us.length cap, .slice ao2 rs.length cap2]).heap.size = wr.heap.size := size_setCells _ _ _
                have hkb : ∀ b, b ≠ w.heap.size + 1 → (wr.setCells (w.heap.size + 1) 0 [.string kt, .string ls, .slice ao us.length cap, .slice ao2 rs.length cap2]).heap[b]? = wr.heap[b]? := fun b hb => heap_setCells hb _ _ _
                have Hb := hide (belowSetCells (b := w.heap.size + 1) [.string kt, .string ls, .slice ao us.length cap, .slice ao2 rs.length cap2] 0 wr hbw (Nat.le_succ _))
                have asF : IsAs (wr.setCells (w.heap.size + 1) 0 [.string kt, .string ls, .slice ao us.length cap, .slice ao2 rs.length cap2]) (fun _ _ => True) rs (((ns.zip vs).take 3).map atE) := by
                  have hall := inv.at_
                  rw [hjz] at hall
                  refine ⟨hall.1, fun k q1 q2 => ⟨(hall.2 k q1 q2).1, ?_⟩⟩
                  have hg := (hall.2 k q1 q2).2.1
                  have hg2 := hg.other (b := w.heap.size + 1) (s := ⟨#[]⟩) d0
                  exact hg2.turn (by omega) fun b hb _ => ⟨hkb b hb, trivial⟩
                have HasF := hide asF
                have Hown2 := hide (show (wr.setCells (w.heap.size + 1) 0 [.string kt, .string ls, .slice ao us.length cap, .slice ao2 rs.length cap2]).ownsRow W5 51 8 (.slice ao2 rs.length cap2) rs.length (rs.map A8.cells).flatten from
                  ⟨inv.own.1, inv.own.2.imp id fun ⟨g, c', cur, q1, q2, q3, q4⟩ => ⟨g, c', cur, q1, q2, (hkb g (by omega)).trans q3, q4⟩⟩)
                have Hpar := hide (fun ad e => (had ad e).2)
                have Hnil := hide (show rs = [] → ao2 = none from fun h => by
                  have := inv.nil h
                  cases ao2 with
                  | none => rfl
                  | some _ => cases this)
                have hW : w.heap.size ≤ W5 := by omega
                have fin : IsEnt (wr.setCells (w.heap.size + 1) 0 [.string kt, .string ls, .slice ao us.length cap, .slice ao2 rs.length cap2]) (fun _ => True) ⟨kt, ls, ao, us.length, cap, ao2, rs.length, cap2⟩ (entP ⟨t, n, po, ps, pc, no, ns, nc, vo, vs, vc⟩) := by
                  refine ⟨unhide HU, congrArg List.length (unhide HUS), ?_, fun _ _ _ => trivial, rs, rfl, hrA.turn (by omega) (fun ad e _ _ => hkb _ (by have := (had2 ad e).2; omega)), fun _ _ _ => trivial, ?_⟩
                  · have := hrU.turn (w' := wr.setCells (w.heap.size + 1) 0 [.string kt, .string ls, .slice ao us.length cap, .slice ao2 rs.length cap2]) (by omega) (fun ad e _ _ => hkb _ (by have := (had ad e).1; omega))
                    rw [show (entP ⟨t, n, po, ps, pc, no, ns, nc, vo, vs, vc⟩).ps = us from (unhide HUS).symm]
                    exact this
                  · exact asF
                have Hfin := hide fin
                clear h1 h2 hE inv fin asF hkb hs hrU hrA had had2 hown'
                clear hbw hEW hEl hEB hE4 hBE hE5 hi3 hip hsz hj3 hjn hjv hjz b2 b3 b4 hR HOK HU HUS HLS z2 hm5
                go_upto_region 13 with fail
                iterate 10 go_step
                refine wp_ret ?_
                show bodyPost Try.prog Try.f18 _ .ret _ _
                exact bodyPost_ret (v := .agg #[.string kt, .string ls, .slice ao us.length cap, .slice ao2 rs.length cap2]) (by simp [results, Try.results18, go_sem, d0, d1, d2, d3]) rfl ⟨unhide Hb, ⟨kt, ls, ao, us.length, cap, ao2, rs.length, cap2⟩, rs, W5, rfl, unhide Hfin, rfl, unhide Hown2, unhide HasF, unhide Hpar, unhide Hnil, hW⟩
            · have m1 : ¬ (j : Int) < (ns.length : Int) := by omega
              have hjz : ((ns.zip vs).take j).map atE = ((ns.zip vs).take 3).map atE := by rw [List.take_of_length_le (by rw [List.length_zip]; omega), List.take_of_length_le (by rw [List.length_zip]; omega)]
              have hbw := inv.below
              have h1 := inv.h1
              have h2 := inv.h2
              have hE := inv.hE
              obtain ⟨ao, cap, hpv, hrU, had⟩ := inv.rowU
              have hown' : wr.ownsRow W5 51 8 lv (rs.map A8.cells).length (rs.map A8.cells).flatten := by rw [List.length_map]; exact inv.own
              obtain ⟨ao2, cap2, hlv, hrA, _, had2⟩ := rowG_own (lenA _) hown'
              rw [List.length_map] at hlv
              subst hlv hpv
              have e0 : wr.cell? ⟨E, 0, none⟩ = some (.string kt) := by rw [Lib.cell_of_heap hE]; rfl
              have e1 : wr.cell? ⟨E, 1, none⟩ = some (.string ls) := by rw [Lib.cell_of_heap hE]; rfl
              have e2 : wr.cell? ⟨E, 2, none⟩ = some (.slice ao us.length cap) := by rw [Lib.cell_of_heap hE]; rfl
              have e3 : wr.cell? ⟨E, 3, none⟩ = some (.slice ao2 rs.length cap2) := by rw [Lib.cell_of_heap hE]; rfl
              have d0 : wr.cell? ⟨w.heap.size + 1, 0, none⟩ = some (.string ⟨#[]⟩) := by rw [Lib.cell_of_heap h2]; rfl
              have d1 : wr.cell? ⟨w.heap.size + 1, 1, none⟩ = some (.string ⟨#[]⟩) := by rw [Lib.cell_of_heap h2]; rfl
              have d2 : wr.cell? ⟨w.heap.size + 1, 2, none⟩ = some (.slice none 0 0) := by rw [Lib.cell_of_heap h2]; rfl
              have d3 : wr.cell? ⟨w.heap.size + 1, 3, none⟩ = some (.slice none 0 0) := by rw [Lib.cell_of_heap h2]; rfl
              have dF : ∀ o, wr.frozen? ⟨w.heap.size + 1, o, none⟩ = false := fun o => Lib.frozen_of_heap h2 o
              have hs : (wr.setCells (w.heap.size + 1) 0 [.string kt, .string ls, .slice ao us.length cap, .slice ao2 rs.length cap2]).heap.size = wr.heap.size := size_setCells _ _ _
              have hkb : ∀ b, b ≠ w.heap.size + 1 → (wr.setCells (w.heap.size + 1) 0 [.string kt, .string ls, .slice ao us.length cap, .slice ao2 rs.length cap2]).heap[b]? = wr.heap[b]? := fun b hb => heap_setCells hb _ _ _
              have Hb := hide (belowSetCells (b := w.heap.size + 1) [.string kt, .string ls, .slice ao us.length cap, .slice ao2 rs.length cap2] 0 wr hbw (Nat.le_succ _))
              have asF : IsAs (wr.setCells (w.heap.size + 1) 0 [.string kt, .string ls, .slice ao us.length cap, .slice ao2 rs.length cap2]) (fun _ _ => True) rs (((ns.zip vs).take 3).map atE) := by
                have hall := inv.at_
                rw [hjz] at hall
                refine ⟨hall.1, fun k q1 q2 => ⟨(hall.2 k q1 q2).1, ?_⟩⟩
                have hg := (hall.2 k q1 q2).2.1
                have hg2 := hg.other (b := w.heap.size + 1) (s := ⟨#[]⟩) d0
                exact hg2.turn (by omega) fun b hb _ => ⟨hkb b hb, trivial⟩
              have HasF := hide asF
              have Hown2 := hide (show (wr.setCells (w.heap.size + 1) 0 [.string kt, .string ls, .slice ao us.length cap, .slice ao2 rs.length cap2]).ownsRow W5 51 8 (.slice ao2 rs.length cap2) rs.length (rs.map A8.cells).flatten from
                ⟨inv.own.1, inv.own.2.imp id fun ⟨g, c', cur, q1, q2, q3, q4⟩ => ⟨g, c', cur, q1, q2, (hkb g (by omega)).trans q3, q4⟩⟩)
              have Hpar := hide (fun ad e => (had ad e).2)
              have Hnil := hide (show rs = [] → ao2 = none from fun h => by
                have := inv.nil h
                cases ao2 with
                | none => rfl
                | some _ => cases this)
              have hW : w.heap.size ≤ W5 := by omega
              have fin : IsEnt (wr.setCells (w.heap.size + 1) 0 [.string kt, .string ls, .slice ao us.length cap, .slice ao2 rs.length cap2]) (fun _ => True) ⟨kt, ls, ao, us.length, cap, ao2, rs.length, cap2⟩ (entP ⟨t, n, po, ps, pc, no, ns, nc, vo, vs, vc⟩) := by
                refine ⟨unhide HU, congrArg List.length (unhide HUS), ?_, fun _ _ _ => trivial, rs, rfl, hrA.turn (by omega) (fun ad e _ _ => hkb _ (by have := (had2 ad e).2; omega)), fun _ _ _ => trivial, ?_⟩
                · have := hrU.turn (w' := wr.setCells (w.heap.size + 1) 0 [.string kt, .string ls, .slice ao us.length cap, .slice ao2 rs.length cap2]) (by omega) (fun ad e _ _ => hkb _ (by have := (had ad e).1; omega))
                  rw [show (entP ⟨t, n, po, ps, pc, no, ns, nc, vo, vs, vc⟩).ps = us from (unhide HUS).symm]
                  exact this
                · exact asF
              have Hfin := hide fin
              clear h1 h2 hE inv fin asF hkb hs hrU hrA had had2 hown'
              clear hbw hEW hEl hEB hE4 hBE hE5 hi3 hip hsz hj3 hjn hjv hjz b2 b3 b4 hR HOK HU HUS HLS z2 hm5
              go_upto_region 13 with fail
              iterate 10 go_step
              refine wp_ret ?_
              show bodyPost Try.prog Try.f18 _ .ret _ _
              exact bodyPost_ret (v := .agg #[.string kt, .string ls, .slice ao us.length cap, .slice ao2 rs.length cap2]) (by simp [results, Try.results18, go_sem, d0, d1, d2, d3]) rfl ⟨unhide Hb, ⟨kt, ls, ao, us.length, cap, ao2, rs.length, cap2⟩, rs, W5, rfl, unhide Hfin, rfl, unhide Hown2, unhide HasF, unhide Hpar, unhide Hnil, hW⟩
      · have i1 : ¬ (i : Int) < (ps.length : Int) := by omega
        have hus : (ps.take i).map parE = (ps.take 3).map parE := by rw [List.take_of_length_le (by omega), List.take_of_length_le (by omega)]
        rw [hus] at hown
        have hul : i = ((ps.take 3).map parE).length := by rw [List.length_map, List.length_take]; omega
        obtain ⟨us, hUS⟩ : ∃ us, us = (ps.take 3).map parE := ⟨_, rfl⟩
        rw [← hUS] at hown hul
        have HUS := hide hUS
        have hown' : wr.ownsRow w4.heap.size 28 2 lv (us.map U2.cells).length (us.map U2.cells).flatten := by rw [List.length_map, ← hul]; exact hown
        have hlt5 := hown'.lt
        obtain ⟨ao, cap, hlv, hrow, _, had⟩ := rowG_own (lenU _) hown'
        rw [List.length_map] at hlv
        obtain ⟨W5, hW5⟩ : ∃ W5, W5 = wr.heap.size := ⟨_, rfl⟩
        have inv0 : EnInv w w.heap.size E W5 #[.int .i64 t, .int .i64 n, .slice po ps.length pc, .slice no ns.length nc, .slice vo vs.length vc] kt ls lv (.slice none 0 0) us (((ns.zip vs).take 0).map atE) wr [] :=
          ⟨hbw, by omega, h1, h2, hE, ⟨ao, cap, hlv, hrow, fun ad e => by
            have h5 := hlt5 ad.block (by rw [hlv, e]; rfl)
            omega⟩, World.ownsRow_nil _ _ _ _, fun _ => rfl, rfl, fun _ h => absurd h (Nat.not_lt_zero _)⟩
        have hE5 : E < W5 := by omega
        have HI0 := hide inv0
        clear inv0 hown hown' hlt5 hrow had hlv h1 h2 hE hUS hus hul hW5
        obtain ⟨pv, hpv⟩ : ∃ pv, pv = lv := ⟨_, rfl⟩
        rw [← hpv] at HI0
        clear hpv
        go_wp2
        clear c2
        go_loopw [5] (fun jv wr => ∃ (j : Nat) (lv : Value) (rs : List A8), j ≤ 3 ∧ j ≤ ns.length ∧ j ≤ vs.length ∧ jv = .int .i64 j ∧ EnInv w w.heap.size E W5 #[.int .i64 t, .int .i64 n, .slice po ps.length pc, .slice no ns.length nc, .slice vo vs.length vc] kt ls pv lv us (((ns.zip vs).take j).map atE) wr rs) (fun jv _ => 3 - (intOf jv).toNat)
        case atStart => exact ⟨0, _, _, by omega, by omega, by omega, rfl, unhide HI0⟩
        case round =>
          clear HI0
          obtain ⟨j, lv, rs, hj3, hjn, hjv, rfl, inv⟩ := hrel
          have c3 : wr.cell? ⟨w.heap.size, 3, none⟩ = some (.slice no ns.length nc) := by rw [Lib.cell_of_heap inv.h1]; rfl
          have c4 : wr.cell? ⟨w.heap.size, 4, none⟩ = some (.slice vo vs.length vc) := by rw [Lib.cell_of_heap inv.h1]; rfl
          by_cases n1 : j < ns.length
          · have m1 : (j : Int) < (ns.length : Int) := by omega
            by_cases n2 : j < vs.length
            · have m2 : (j : Int) < (vs.length : Int) := by omega
              by_cases n3 : j < 3
              · have m3 : (j : Int) < 3 := by omega
                have hcx0 := (unhide HOK).ns j n1
                obtain ⟨nb, noff, hno, hnb0, hcx0⟩ := hcx0
                have hno : no = some ⟨nb, noff, none⟩ := hno
                subst hno
                have hv0 := (unhide HOK).vs j n2
                obtain ⟨hrk, vb, voff, lo', lc', hvo, hvb0, q0, q1, q2, q3, hl', hrr⟩ := hv0
                have hvo : vo = some ⟨vb, voff, none⟩ := hvo
                subst hvo
                have hnbw : nb < wr.heap.size := Nat.lt_of_lt_of_le hnb0 inv.below.size
                have hcxw := (inv.below.cell (p := ⟨nb, noff + j, none⟩) hnb0).trans hcx0
                obtain ⟨x, hx⟩ : ∃ x, x = ns[j] := ⟨_, rfl⟩
                obtain ⟨rv, hrv⟩ : ∃ rv, rv = vs[j] := ⟨_, rfl⟩
                have hzl : j < (ns.zip vs).length := by rw [List.length_zip]; omega
                have htk : ((ns.zip vs).take (j + 1)).map atE = ((ns.zip vs).take j).map atE ++ [(nmE x, cut3 (goodG rv.1 rv.2))] := by
                  rw [List.take_succ_eq_append_getElem hzl, List.map_append, hx, hrv]
                  simp [atE]
                have hcxw : wr.cell? ⟨nb, noff + j, none⟩ = some (.int .i64 x) := by rw [hx]; exact hcxw
                have hrk : rv.1.Ok w := by rw [hrv]; exact hrk
                have q0 : w.cell? ⟨vb, voff + j * 4, none⟩ = some (.int .i64 rv.1.k) := by rw [hrv]; exact q0
                have q1 : w.cell? ⟨vb, voff + j * 4 + 1, none⟩ = some (.int .i64 rv.1.n) := by rw [hrv]; exact q1
                have q2 : w.cell? ⟨vb, voff + j * 4 + 2, none⟩ = some (.slice rv.1.so rv.1.xs.length rv.1.sc) := by rw [hrv]; exact q2
                have q3 : w.cell? ⟨vb, voff + j * 4 + 3, none⟩ = some (.slice lo' rv.2.length lc') := by rw [hrv]; exact q3
                have hl' : rv.2.length ≤ 9223372036854775807 := by rw [hrv]; exact hl'
                have hrr : RowRaw w lo' rv.2 := by rw [hrv]; exact hrr
                have p0 := (inv.below.cell (p := ⟨vb, voff + j * 4, none⟩) hvb0).trans q0
                have p1 := (inv.below.cell (p := ⟨vb, voff + j * 4 + 1, none⟩) hvb0).trans q1
                have p2 := (inv.below.cell (p := ⟨vb, voff + j * 4 + 2, none⟩) hvb0).trans q2
                have p3 := (inv.below.cell (p := ⟨vb, voff + j * 4 + 3, none⟩) hvb0).trans q3
                have GD := good3_cap rv.1 lo' rv.2 lc' wr (hrk.below inv.below) hl' (hrr.below inv.below)
                have NX := fun w' => name5e_any x w'
                obtain ⟨nm, hnm⟩ : ∃ nm, nm = nmE x := ⟨_, rfl⟩
                rw [← hnm] at NX htk
                have Htk := hide htk
                clear hx hrv htk hcx0 hnb0 hrk q0 q1 q2 q3 hl' hrr hnm hvb0
                go_wp2_with fail
                clear p0 p1 p2 p3 c3 c4
                refine GD.mono ?_
                clear GD
                rintro e w3 ⟨b3, R, rfl, hG, hcapR⟩
                unfold R7.val
                by_cases h3R : 3 < R.ll
                · have i4 : (3 : Int) < (R.ll : Int) := by omega
                  obtain ⟨R', hR'⟩ : ∃ R' : R7, R' = { R with ll := 3 } := ⟨_, rfl⟩
                  have HGc : Hid (IsG w3 (cut3 (goodG rv.1 rv.2)) R') := hide (by rw [hR']; exact isG_cut_yes hG h3R)
                  have hcl : Obj.cells #[.int .i64 R.k, .bool R.b, .int .i64 R.n, .string R.s, .string R.t, .string R.i, .slice R.lo 3 R.lc] 49 = Obj.cells #[.int .i64 R'.k, .bool R'.b, .int .i64 R'.n, .string R'.s, .string R'.t, .string R'.i, .slice R'.lo R'.ll R'.lc] 49 := by rw [hR']
                  have hsl : ∀ W, (Instr.slice 47 (.slice R.lo R.ll R.lc) none (some (.int .i64 3)) none).run Try.prog W = .ok (.slice R.lo 3 R.lc) W := fun W => run_cutV_h R.lo R.ll R.lc 3 (by omega) W
                  have Hcl := hide hcl
                  clear hG h3R hR' hcl
                  go_upto_region 12 with fail
                  rw [unhide Hcl]
                  clear Hcl hsl
                  have AV := at7_new w3 R'
                  have bcv := below1 w3 (.cells #[.int .i64 R'.k, .bool R'.b, .int .i64 R'.n, .string R'.s, .string R'.t, .string R'.i, .slice R'.lo R'.ll R'.lc] 49)
                  have hVl := size1 w3 (.cells #[.int .i64 R'.k, .bool R'.b, .int .i64 R'.n, .string R'.s, .string R'.t, .string R'.i, .slice R'.lo R'.ll R'.lc] 49)
                  have bwv := b3.trans (bcv.mono b3.size)
                  have H1v := kept_of_below bwv inv.h1
                  have HEv := kept_of_below bwv inv.hE
                  have hnbv := Nat.lt_of_lt_of_le hnbw bwv.size
                  have hcxv := (bwv.cell (p := ⟨nb, noff + j, none⟩) hnbw).trans hcxw
                  obtain ⟨V, hV⟩ : ∃ V, V = w3.heap.size := ⟨_, rfl⟩
                  rw [← hV] at AV hVl ⊢
                  have hVl : V < (w3.alloc (.cells #[.int .i64 R'.k, .bool R'.b, .int .i64 R'.n, .string R'.s, .string R'.t, .string R'.i, .slice R'.lo R'.ll R'.lc] 49)).heap.size := by omega
                  have hszv := bwv.size
                  have hs5 := inv.size
                  clear hV
                  generalize w3.alloc _ = wv at *
                  refine wp_specs_put 11 (en3Sp w.heap.size E nb noff j x lv (.slice (some ⟨nb, noff, none⟩) ns.length nc) nm R') (fun w' => Below wv.heap.size wv w') (by kernel_rfl) (by kernel_rfl) (Below.refl _ wv).drew ?_ ?_
                  · intro q o hq' ho a' w' hR hdep hslot K hK
                    have H1' := kept_of_below hR H1v
                    have HE' := kept_of_below hR HEv
                    have c3' : w'.cell? ⟨w.heap.size, 3, none⟩ = some (.slice (some ⟨nb, noff, none⟩) ns.length nc) := by rw [Lib.cell_of_heap H1']; rfl
                    have cE : w'.cell? ⟨E, 3, none⟩ = some lv := by rw [Lib.cell_of_heap HE']; rfl
                    have cx := (hR.cell (p := ⟨nb, noff + j, none⟩) hnbv).trans hcxv
                    obtain ⟨v0, v1, v2, v3, v4, v5, v6⟩ := AV.below hR hVl
                    simp only [Nat.zero_add] at v1 v2 v3 v4 v5 v6
                    have hc : q = 0 ∨ q = 1 ∨ q = 2 ∨ q = 3 ∨ q = 4 ∨ q = 5 ∨ q = 6 ∨ q = 7 ∨ q = 8 ∨ q = 9 ∨ q = 10 := by omega
                    rcases hc with rfl | rfl | rfl | rfl | rfl | rfl | rfl | rfl | rfl | rfl | rfl
                    · cases ho
                      have e0 : a'.tmps.getD 3 undef = .pointer (some ⟨E, 0, none⟩) := hslot 3 (by decide)
                      unfold Oper.wp
                      go_simp
                      exact hK _ _ rfl hR (fun _ _ h => h)
                    · cases ho
                      have e0 : a'.tmps.getD 85 undef = .pointer (some ⟨E, 3, none⟩) := hdep 0 (by kernel_rfl)
                      unfold Oper.wp
                      go_simp
                      exact hK _ _ rfl hR (fun _ _ h => h)
                    · cases ho
                      have e0 : a'.tmps.getD 1 undef = .pointer (some ⟨w.heap.size, 0, none⟩) := hslot 1 (by decide)
                      unfold Oper.wp
                      go_simp
                      exact hK _ _ rfl hR (fun _ _ h => h)
                    · cases ho
                      have e0 : a'.tmps.getD 87 undef = .pointer (some ⟨w.heap.size, 3, none⟩) := hdep 2 (by kernel_rfl)
                      unfold Oper.wp
                      go_simp
                      exact hK _ _ rfl hR (fun _ _ h => h)
                    · cases ho
                      have e0 : a'.tmps.getD 5 undef = .int .i64 j := hslot 5 (by decide)
                      unfold Oper.wp
                      go_simp
                      exact hK _ _ rfl hR (fun _ _ h => h)
                    · cases ho
                      have e0 : a'.tmps.getD 88 undef = .slice (some ⟨nb, noff, none⟩) ns.length nc := hdep 3 (by kernel_rfl)
                      have e1 : a'.tmps.getD 89 undef = .int .i64 j := hdep 4 (by kernel_rfl)
                      have k0 : (0 : Int) ≤ (j : Int) := by omega
                      unfold Oper.wp
                      go_simp
                      exact hK _ _ (by simp [en3Sp]) hR (fun _ _ h => h)
                    · cases ho
                      have e0 : a'.tmps.getD 90 undef = .pointer (some ⟨nb, noff + j, none⟩) := hdep 5 (by kernel_rfl)
                      unfold Oper.wp
                      go_simp
                      exact hK _ _ rfl hR (fun _ _ h => h)
                    · cases ho
                      have e0 : a'.tmps.getD 91 undef = .int .i64 x := hdep 6 (by kernel_rfl)
                      clear c3' cE cx v0 v1 v2 v3 v4 v5 v6
                      unfold Oper.wp
                      go_simp
                      refine (NX w').mono ?_
                      rintro e w3 ⟨rfl, b3⟩
                      exact hK _ _ rfl (hR.trans (b3.mono hR.size)) (en3Sp_up b3)
                    · cases ho
                      have e0 : a'.tmps.getD 6 undef = .pointer (some ⟨V, 0, none⟩) := hslot 6 (by decide)
                      unfold Oper.wp
                      go_simp
                      exact hK _ _ rfl hR (fun _ _ h => h)
                    · cases ho
                      have e0 : a'.tmps.getD 92 undef = .string nm := hdep 7 (by kernel_rfl)
                      have e0' : a'.tmps[92]?.getD undef = .string nm := by simpa using e0
                      have e1 : a'.tmps.getD 93 undef = .agg #[.int .i64 R'.k, .bool R'.b, .int .i64 R'.n, .string R'.s, .string R'.t, .string R'.i, .slice R'.lo R'.ll R'.lc] := hdep 8 (by kernel_rfl)
                      have e1' : a'.tmps[93]?.getD undef = .agg #[.int .i64 R'.k, .bool R'.b, .int .i64 R'.n, .string R'.s, .string R'.t, .string R'.i, .slice R'.lo R'.ll R'.lc] := by simpa using e1
                      unfold Oper.wp
                      go_simp
                      exact hK _ _ rfl hR (fun _ _ h => h)
                    · cases ho
                      have e0 : a'.tmps.getD 94 undef = .agg #[.string nm, .int .i64 R'.k, .bool R'.b, .int .i64 R'.n, .string R'.s, .string R'.t, .string R'.i, .slice R'.lo R'.ll R'.lc] := hdep 9 (by kernel_rfl)
                      have e0' : a'.tmps[94]?.getD undef = .agg #[.string nm, .int .i64 R'.k, .bool R'.b, .int .i64 R'.n, .string R'.s, .string R'.t, .string R'.i, .slice R'.lo R'.ll R'.lc] := by simpa using e0
                      unfold Oper.wp
                      go_simp
                      exact hK _ _ ⟨w'.heap.size, rfl, alloc_heap _ _⟩ (hR.alloc hR.size _) (en3Sp_up (below1 _ _))
                  · intro v w' hR hall
                    have f0 := hall 0 (by decide)
                    have f1 := hall 1 (by decide)
                    have f2 := hall 2 (by decide)
                    have f3 := hall 3 (by decide)
                    have f4 := hall 4 (by decide)
                    have f5 := hall 5 (by decide)
                    have f6 := hall 6 (by decide)
                    have f7 := hall 7 (by decide)
                    have f8 := hall 8 (by decide)
                    have f9 := hall 9 (by decide)
                    obtain ⟨gb, f10, hgb⟩ := hall 10 (by decide)
                    unfold en3Sp at f0 f1 f2 f3 f4 f5 f6 f7 f8 f9
                    have b6w := bwv.trans (hR.mono bwv.size)
                    obtain ⟨L1, hL1⟩ : ∃ L1, L1 = (rs.map A8.cells).flatten := ⟨_, rfl⟩
                    have Hown' := hide (own_below (own_below inv.own bwv) hR)
                    rw [← hL1] at Hown'
                    have hnb := (unhide Hown').lt
                    have HE' := hide (kept_of_below hR HEv)
                    have hrl : rs.length ≤ 3 := by have := inv.at_.1; simp at this; omega
                    have HSTEP := hide (fun (w6 : World) (lv' : Value) h1 h2 => enInv_step (w' := w') (w6 := w6) (lv' := lv') (nm := nm) (R := R') inv (Nat.le_refl _) hBE hE5 b6w (IsG.below (IsG.below (unhide HGc) bcv) hR) h1 h2)
                    rw [← hL1] at HSTEP
                    clear hL1
                    clear hall NX hcxv H1v HEv AV
                    simp only [putAll, dstOf, List.getElem?_cons_zero, List.getElem?_cons_succ, Option.bind_some, List.drop_succ_cons, List.drop_zero, f0, f1, f2, f3, f4, f5, f6, f7, f8, f9, f10]
                    clear f0 f1 f2 f3 f4 f5 f6 f7 f8 f9 f10
                    simp only [Act.put, List.setIfInBounds_toArray, List.set_cons_succ, List.set_cons_zero]
                    have Hgb := hide hgb
                    clear hgb
                    go_wp2_with (at_builtin; refine wpList_append_own _ rfl _ _ 38 rfl W5 51 i0Attr _ 8 112 Try.underlying38 hiAttr hz0Attr hz1Attr hz2Attr rfl (by decide) _ _ _ rfl (unhide Hown') ⟨gb, 0, none⟩ 1 1 [.string nm, .int .i64 R'.k, .bool R'.b, .int .i64 R'.n, .string R'.s, .string R'.t, .string R'.i, .slice R'.lo R'.ll R'.lc] rfl rfl ?c1by3 ?c2by3 ?c3by3 ?c4by3 ?c5by3 ?_)
                    case c1by3 =>
                      intro j u hj
                      try simp only [Addr.add_lit, Nat.zero_add]
                      rw [Lib.cell_of_heap (unhide Hgb)]
                      simpa using hj
                    case c2by3 => first | (intro u hu; simp only [List.mem_cons, List.not_mem_nil, or_false] at hu; rcases hu with rfl | rfl | rfl | rfl | rfl | rfl | rfl | rfl <;> rfl) | (repeat (first | rfl | refine And.intro rfl ?_))
                    case c3by3 => unfold maxLen; omega
                    case c4by3 => omega
                    case c5by3 => have := hR.size; omega
                    intro v6 w6 hown6 hgrow _
                    obtain ⟨ao6, n6, c6, rfl⟩ : ∃ a n c, v6 = .slice a n c := by
                      rcases hown6.2 with ⟨h, _⟩ | ⟨g, cap, cur, h, _⟩
                      · exact ⟨_, _, _, h⟩
                      · exact ⟨_, _, _, h⟩
                    have hE6 := (hgrow.block E (by have := hR.size; have := bwv.size; omega) (fun e => by have := (hnb _ e.symm).1; omega)).trans (unhide HE')
                    have x6 : w6.cell? ⟨E, 3, none⟩ = some lv := by rw [Lib.cell_of_heap hE6]; rfl
                    have f6 : w6.frozen? ⟨E, 3, none⟩ = false := Lib.frozen_of_heap hE6 3
                    have NEXT := hide (unhide HSTEP w6 (.slice ao6 n6 c6) hown6 hgrow)
                    clear hown6 hgrow hE6 hnb inv
                    go_wp2
                    go_roundw
                    case rel =>
                      refine ⟨j + 1, .slice ao6 n6 c6, rs ++ [⟨nm, R'⟩], by omega, by omega, by omega, by go_num, ?_⟩
                      rw [unhide Htk]
                      exact unhide NEXT
                    case measure =>
                      simp only [intOf]
                      omega
                · have i4 : ¬ (3 : Int) < (R.ll : Int) := by omega
                  obtain ⟨R', hR'⟩ : ∃ R' : R7, R' = R := ⟨_, rfl⟩
                  have HGc : Hid (IsG w3 (cut3 (goodG rv.1 rv.2)) R') := hide (by rw [hR']; exact isG_cut_no hG h3R)
                  have hcl : Obj.cells #[.int .i64 R.k, .bool R.b, .int .i64 R.n, .string R.s, .string R.t, .string R.i, .slice R.lo R.ll R.lc] 49 = Obj.cells #[.int .i64 R'.k, .bool R'.b, .int .i64 R'.n, .string R'.s, .string R'.t, .string R'.i, .slice R'.lo R'.ll R'.lc] 49 := by rw [hR']
                  have Hcl := hide hcl
                  clear hG h3R hR' hcl
                  go_upto_region 12 with fail
                  rw [unhide Hcl]
                  clear Hcl
                  have AV := at7_new w3 R'
                  have bcv := below1 w3 (.cells #[.int .i64 R'.k, .bool R'.b, .int .i64 R'.n, .string R'.s, .string R'.t, .string R'.i, .slice R'.lo R'.ll R'.lc] 49)
                  have hVl := size1 w3 (.cells #[.int .i64 R'.k, .bool R'.b, .int .i64 R'.n, .string R'.s, .string R'.t, .string R'.i, .slice R'.lo R'.ll R'.lc] 49)
                  have bwv := b3.trans (bcv.mono b3.size)
                  have H1v := kept_of_below bwv inv.h1
                  have HEv := kept_of_below bwv inv.hE
                  have hnbv := Nat.lt_of_lt_of_le hnbw bwv.size
                  have hcxv := (bwv.cell (p := ⟨nb, noff + j, none⟩) hnbw).trans hcxw
                  obtain ⟨V, hV⟩ : ∃ V, V = w3.heap.size := ⟨_, rfl⟩
                  rw [← hV] at AV hVl ⊢
                  have hVl : V < (w3.alloc (.cells #[.int .i64 R'.k, .bool R'.b, .int .i64 R'.n, .string R'.s, .string R'.t, .string R'.i, .slice R'.lo R'.ll R'.lc] 49)).heap.size := by omega
                  have hszv := bwv.size
                  have hs5 := inv.size
                  clear hV
                  generalize w3.alloc _ = wv at *
                  refine wp_specs_put 11 (en3Sp w.heap.size E nb noff j x lv (.slice (some ⟨nb, noff, none⟩) ns.length nc) nm R') (fun w' => Below wv.heap.size wv w') (by kernel_rfl) (by kernel_rfl) (Below.refl _ wv).drew ?_ ?_
                  · intro q o hq' ho a' w' hR hdep hslot K hK
                    have H1' := kept_of_below hR H1v
                    have HE' := kept_of_below hR HEv
                    have c3' : w'.cell? ⟨w.heap.size, 3, none⟩ = some (.slice (some ⟨nb, noff, none⟩) ns.length nc) := by rw [Lib.cell_of_heap H1']; rfl
                    have cE : w'.cell? ⟨E, 3, none⟩ = some lv := by rw [Lib.cell_of_heap HE']; rfl
                    have cx := (hR.cell (p := ⟨nb, noff + j, none⟩) hnbv).trans hcxv
                    obtain ⟨v0, v1, v2, v3, v4, v5, v6⟩ := AV.below hR hVl
                    simp only [Nat.zero_add] at v1 v2 v3 v4 v5 v6
                    have hc : q = 0 ∨ q = 1 ∨ q = 2 ∨ q = 3 ∨ q = 4 ∨ q = 5 ∨ q = 6 ∨ q = 7 ∨ q = 8 ∨ q = 9 ∨ q = 10 := by omega
                    rcases hc with rfl | rfl | rfl | rfl | rfl | rfl | rfl | rfl | rfl | rfl | rfl
                    · cases ho
                      have e0 : a'.tmps.getD 3 undef = .pointer (some ⟨E, 0, none⟩) := hslot 3 (by decide)
                      unfold Oper.wp
                      go_simp
                      exact hK _ _ rfl hR (fun _ _ h => h)
                    · cases ho
                      have e0 : a'.tmps.getD 85 undef = .pointer (some ⟨E, 3, none⟩) := hdep 0 (by kernel_rfl)
                      unfold Oper.wp
                      go_simp
                      exact hK _ _ rfl hR (fun _ _ h => h)
                    · cases ho
                      have e0 : a'.tmps.getD 1 undef = .pointer (some ⟨w.heap.size, 0, none⟩) := hslot 1 (by decide)
                      unfold Oper.wp
                      go_simp
                      exact hK _ _ rfl hR (fun _ _ h => h)
                    · cases ho
                      have e0 : a'.tmps.getD 87 undef = .pointer (some ⟨w.heap.size, 3, none⟩) := hdep 2 (by kernel_rfl)
                      unfold Oper.wp
                      go_simp
                      exact hK _ _ rfl hR (fun _ _ h => h)
                    · cases ho
                      have e0 : a'.tmps.getD 5 undef = .int .i64 j := hslot 5 (by decide)
                      unfold Oper.wp
                      go_simp
                      exact hK _ _ rfl hR (fun _ _ h => h)
                    · cases ho
                      have e0 : a'.tmps.getD 88 undef = .slice (some ⟨nb, noff, none⟩) ns.length nc := hdep 3 (by kernel_rfl)
                      have e1 : a'.tmps.getD 89 undef = .int .i64 j := hdep 4 (by kernel_rfl)
                      have k0 : (0 : Int) ≤ (j : Int) := by omega
                      unfold Oper.wp
                      go_simp
                      exact hK _ _ (by simp [en3Sp]) hR (fun _ _ h => h)
                    · cases ho
                      have e0 : a'.tmps.getD 90 undef = .pointer (some ⟨nb, noff + j, none⟩) := hdep 5 (by kernel_rfl)
                      unfold Oper.wp
                      go_simp
                      exact hK _ _ rfl hR (fun _ _ h => h)
                    · cases ho
                      have e0 : a'.tmps.getD 91 undef = .int .i64 x := hdep 6 (by kernel_rfl)
                      clear c3' cE cx v0 v1 v2 v3 v4 v5 v6
                      unfold Oper.wp
                      go_simp
                      refine (NX w').mono ?_
                      rintro e w3 ⟨rfl, b3⟩
                      exact hK _ _ rfl (hR.trans (b3.mono hR.size)) (en3Sp_up b3)
                    · cases ho
                      have e0 : a'.tmps.getD 6 undef = .pointer (some ⟨V, 0, none⟩) := hslot 6 (by decide)
                      unfold Oper.wp
                      go_simp
                      exact hK _ _ rfl hR (fun _ _ h => h)
                    · cases ho
                      have e0 : a'.tmps.getD 92 undef = .string nm := hdep 7 (by kernel_rfl)
                      have e0' : a'.tmps[92]?.getD undef = .string nm := by simpa using e0
                      have e1 : a'.tmps.getD 93 undef = .agg #[.int .i64 R'.k, .bool R'.b, .int .i64 R'.n, .string R'.s, .string R'.t, .string R'.i, .slice R'.lo R'.ll R'.lc] := hdep 8 (by kernel_rfl)
                      have e1' : a'.tmps[93]?.getD undef = .agg #[.int .i64 R'.k, .bool R'.b, .int .i64 R'.n, .string R'.s, .string R'.t, .string R'.i, .slice R'.lo R'.ll R'.lc] := by simpa using e1
                      unfold Oper.wp
                      go_simp
                      exact hK _ _ rfl hR (fun _ _ h => h)
                    · cases ho
                      have e0 : a'.tmps.getD 94 undef = .agg #[.string nm, .int .i64 R'.k, .bool R'.b, .int .i64 R'.n, .string R'.s, .string R'.t, .string R'.i, .slice R'.lo R'.ll R'.lc] := hdep 9 (by kernel_rfl)
                      have e0' : a'.tmps[94]?.getD undef = .agg #[.string nm, .int .i64 R'.k, .bool R'.b, .int .i64 R'.n, .string R'.s, .string R'.t, .string R'.i, .slice R'.lo R'.ll R'.lc] := by simpa using e0
                      unfold Oper.wp
                      go_simp
                      exact hK _ _ ⟨w'.heap.size, rfl, alloc_heap _ _⟩ (hR.alloc hR.size _) (en3Sp_up (below1 _ _))
                  · intro v w' hR hall
                    have f0 := hall 0 (by decide)
                    have f1 := hall 1 (by decide)
                    have f2 := hall 2 (by decide)
                    have f3 := hall 3 (by decide)
                    have f4 := hall 4 (by decide)
                    have f5 := hall 5 (by decide)
                    have f6 := hall 6 (by decide)
                    have f7 := hall 7 (by decide)
                    have f8 := hall 8 (by decide)
                    have f9 := hall 9 (by decide)
                    obtain ⟨gb, f10, hgb⟩ := hall 10 (by decide)
                    unfold en3Sp at f0 f1 f2 f3 f4 f5 f6 f7 f8 f9
                    have b6w := bwv.trans (hR.mono bwv.size)
                    obtain ⟨L1, hL1⟩ : ∃ L1, L1 = (rs.map A8.cells).flatten := ⟨_, rfl⟩
                    have Hown' := hide (own_below (own_below inv.own bwv) hR)
                    rw [← hL1] at Hown'
                    have hnb := (unhide Hown').lt
                    have HE' := hide (kept_of_below hR HEv)
                    have hrl : rs.length ≤ 3 := by have := inv.at_.1; simp at this; omega
                    have HSTEP := hide (fun (w6 : World) (lv' : Value) h1 h2 => enInv_step (w' := w') (w6 := w6) (lv' := lv') (nm := nm) (R := R') inv (Nat.le_refl _) hBE hE5 b6w (IsG.below (IsG.below (unhide HGc) bcv) hR) h1 h2)
                    rw [← hL1] at HSTEP
                    clear hL1
                    clear hall NX hcxv H1v HEv AV
                    simp only [putAll, dstOf, List.getElem?_cons_zero, List.getElem?_cons_succ, Option.bind_some, List.drop_succ_cons, List.drop_zero, f0, f1, f2, f3, f4, f5, f6, f7, f8, f9, f10]
                    clear f0 f1 f2 f3 f4 f5 f6 f7 f8 f9 f10
                    simp only [Act.put, List.setIfInBounds_toArray, List.set_cons_succ, List.set_cons_zero]
                    have Hgb := hide hgb
                    clear hgb
                    go_wp2_with (at_builtin; refine wpList_append_own _ rfl _ _ 38 rfl W5 51 i0Attr _ 8 112 Try.underlying38 hiAttr hz0Attr hz1Attr hz2Attr rfl (by decide) _ _ _ rfl (unhide Hown') ⟨gb, 0, none⟩ 1 1 [.string nm, .int .i64 R'.k, .bool R'.b, .int .i64 R'.n, .string R'.s, .string R'.t, .string R'.i, .slice R'.lo R'.ll R'.lc] rfl rfl ?c1by4 ?c2by4 ?c3by4 ?c4by4 ?c5by4 ?_)
                    case c1by4 =>
                      intro j u hj
                      try simp only [Addr.add_lit, Nat.zero_add]
                      rw [Lib.cell_of_heap (unhide Hgb)]
                      simpa using hj
                    case c2by4 => first | (intro u hu; simp only [List.mem_cons, List.not_mem_nil, or_false] at hu; rcases hu with rfl | rfl | rfl | rfl | rfl | rfl | rfl | rfl <;> rfl) | (repeat (first | rfl | refine And.intro rfl ?_))
                    case c3by4 => unfold maxLen; omega
                    case c4by4 => omega
                    case c5by4 => have := hR.size; omega
                    intro v6 w6 hown6 hgrow _
                    obtain ⟨ao6, n6, c6, rfl⟩ : ∃ a n c, v6 = .slice a n c := by
                      rcases hown6.2 with ⟨h, _⟩ | ⟨g, cap, cur, h, _⟩
                      · exact ⟨_, _, _, h⟩
                      · exact ⟨_, _, _, h⟩
                    have hE6 := (hgrow.block E (by have := hR.size; have := bwv.size; omega) (fun e => by have := (hnb _ e.symm).1; omega)).trans (unhide HE')
                    have x6 : w6.cell? ⟨E, 3, none⟩ = some lv := by rw [Lib.cell_of_heap hE6]; rfl
                    have f6 : w6.frozen? ⟨E, 3, none⟩ = false := Lib.frozen_of_heap hE6 3
                    have NEXT := hide (unhide HSTEP w6 (.slice ao6 n6 c6) hown6 hgrow)
                    clear hown6 hgrow hE6 hnb inv
                    go_wp2
                    go_roundw
                    case rel =>
                      refine ⟨j + 1, .slice ao6 n6 c6, rs ++ [⟨nm, R'⟩], by omega, by omega, by omega, by go_num, ?_⟩
                      rw [unhide Htk]
                      exact unhide NEXT
                    case measure =>
                      simp only [intOf]
                      omega
              · have m3 : ¬ (j : Int) < 3 := by omega
                have hjz : ((ns.zip vs).take j).map atE = ((ns.zip vs).take 3).map atE := by rw [show j = 3 by omega]
                have hbw := inv.below
                have h1 := inv.h1
                have h2 := inv.h2
                have hE := inv.hE
                obtain ⟨ao, cap, hpv, hrU, had⟩ := inv.rowU
                have hown' : wr.ownsRow W5 51 8 lv (rs.map A8.cells).length (rs.map A8.cells).flatten := by rw [List.length_map]; exact inv.own
                obtain ⟨ao2, cap2, hlv, hrA, _, had2⟩ := rowG_own (lenA _) hown'
                rw [List.length_map] at hlv
                subst hlv hpv
                have e0 : wr.cell? ⟨E, 0, none⟩ = some (.string kt) := by rw [Lib.cell_of_heap hE]; rfl
                have e1 : wr.cell? ⟨E, 1, none⟩ = some (.string ls) := by rw [Lib.cell_of_heap hE]; rfl
                have e2 : wr.cell? ⟨E, 2, none⟩ = some (.slice ao us.length cap) := by rw [Lib.cell_of_heap hE]; rfl
                have e3 : wr.cell? ⟨E, 3, none⟩ = some (.slice ao2 rs.length cap2) := by rw [Lib.cell_of_heap hE]; rfl
                have d0 : wr.cell? ⟨w.heap.size + 1, 0, none⟩ = some (.string ⟨#[]⟩) := by rw [Lib.cell_of_heap h2]; rfl
                have d1 : wr.cell? ⟨w.heap.size + 1, 1, none⟩ = some (.string ⟨#[]⟩) := by rw [Lib.cell_of_heap h2]; rfl
                have d2 : wr.cell? ⟨w.heap.size + 1, 2, none⟩ = some (.slice none 0 0) := by rw [Lib.cell_of_heap h2]; rfl
                have d3 : wr.cell? ⟨w.heap.size + 1, 3, none⟩ = some (.slice none 0 0) := by rw [Lib.cell_of_heap h2]; rfl
                have dF : ∀ o, wr.frozen? ⟨w.heap.size + 1, o, none⟩ = false := fun o => Lib.frozen_of_heap h2 o
                have hs : (wr.setCells (w.heap.size + 1) 0 [.string kt, .string ls, .slice ao us.length cap, .slice ao2 rs.length cap2]).heap.size = wr.heap.size := size_setCells _ _ _
                have hkb : ∀ b, b ≠ w.heap.size + 1 → (wr.setCells (w.heap.size + 1) 0 [.string kt, .string ls, .slice ao us.length cap, .slice ao2 rs.length cap2]).heap[b]? = wr.heap[b]? := fun b hb => heap_setCells hb _ _ _
                have Hb := hide (belowSetCells (b := w.heap.size + 1) [.string kt, .string ls, .slice ao us.length cap, .slice ao2 rs.length cap2] 0 wr hbw (Nat.le_succ _))
                have asF : IsAs (wr.setCells (w.heap.size + 1) 0 [.string kt, .string ls, .slice ao us.length cap, .slice ao2 rs.length cap2]) (fun _ _ => True) rs (((ns.zip vs).take 3).map atE) := by
                  have hall := inv.at_
                  rw [hjz] at hall
                  refine ⟨hall.1, fun k q1 q2 => ⟨(hall.2 k q1 q2).1, ?_⟩⟩
                  have hg := (hall.2 k q1 q2).2.1
                  have hg2 := hg.other (b := w.heap.size + 1) (s := ⟨#[]⟩) d0
                  exact hg2.turn (by omega) fun b hb _ => ⟨hkb b hb, trivial⟩
                have HasF := hide asF
                have Hown2 := hide (show (wr.setCells (w.heap.size + 1) 0 [.string kt, .string ls, .slice ao us.length cap, .slice ao2 rs.length cap2]).ownsRow W5 51 8 (.slice ao2 rs.length cap2) rs.length (rs.map A8.cells).flatten from
                  ⟨inv.own.1, inv.own.2.imp id fun ⟨g, c', cur, q1, q2, q3, q4⟩ => ⟨g, c', cur, q1, q2, (hkb g (by omega)).trans q3, q4⟩⟩)
                have Hpar := hide (fun ad e => (had ad e).2)
                have Hnil := hide (show rs = [] → ao2 = none from fun h => by
                  have := inv.nil h
                  cases ao2 with
                  | none => rfl
                  | some _ => cases this)
                have hW : w.heap.size ≤ W5 := by omega
                have fin : IsEnt (wr.setCells (w.heap.size + 1) 0 [.string kt, .string ls, .slice ao us.length cap, .slice ao2 rs.length cap2]) (fun _ => True) ⟨kt, ls, ao, us.length, cap, ao2, rs.length, cap2⟩ (entP ⟨t, n, po, ps, pc, no, ns, nc, vo, vs, vc⟩) := by
                  refine ⟨unhide HU, congrArg List.length (unhide HUS), ?_, fun _ _ _ => trivial, rs, rfl, hrA.turn (by omega) (fun ad e _ _ => hkb _ (by have := (had2 ad e).2; omega)), fun _ _ _ => trivial, ?_⟩
                  · have := hrU.turn (w' := wr.setCells (w.heap.size + 1) 0 [.string kt, .string ls, .slice ao us.length cap, .slice ao2 rs.length cap2]) (by omega) (fun ad e _ _ => hkb _ (by have := (had ad e).1; omega))
                    rw [show (entP ⟨t, n, po, ps, pc, no, ns, nc, vo, vs, vc⟩).ps = us from (unhide HUS).symm]
                    exact this
                  · exact asF
                have Hfin := hide fin
                clear h1 h2 hE inv fin asF hkb hs hrU hrA had had2 hown'
                clear hbw hEW hEl hEB hE4 hBE hE5 hi3 hip hsz hj3 hjn hjv hjz b2 b3 b4 hR HOK HU HUS HLS z2 hm5
                go_upto_region 13 with fail
                iterate 10 go_step
                refine wp_ret ?_
                show bodyPost Try.prog Try.f18 _ .ret _ _
                exact bodyPost_ret (v := .agg #[.string kt, .string ls, .slice ao us.length cap, .slice ao2 rs.length cap2]) (by simp [results, Try.results18, go_sem, d0, d1, d2, d3]) rfl ⟨unhide Hb, ⟨kt, ls, ao, us.length, cap, ao2, rs.length, cap2⟩, rs, W5, rfl, unhide Hfin, rfl, unhide Hown2, unhide HasF, unhide Hpar, unhide Hnil, hW⟩
            · have m2 : ¬ (j : Int) < (vs.length : Int) := by omega
              have hjz : ((ns.zip vs).take j).map atE = ((ns.zip vs).take 3).map atE := by rw [List.take_of_length_le (by rw [List.length_zip]; omega), List.take_of_length_le (by rw [List.length_zip]; omega)]
              have hbw := inv.below
              have h1 := inv.h1
              have h2 := inv.h2
              have hE := inv.hE
              obtain ⟨ao, cap, hpv, hrU, had⟩ := inv.rowU
              have hown' : wr.ownsRow W5 51 8 lv (rs.map A8.cells).length (rs.map A8.cells).flatten := by rw [List.length_map]; exact inv.own
              obtain ⟨ao2, cap2, hlv, hrA, _, had2⟩ := rowG_own (lenA _) hown'
              rw [List.length_map] at hlv
              subst hlv hpv
              have e0 : wr.cell? ⟨E, 0, none⟩ = some (.string kt) := by rw [Lib.cell_of_heap hE]; rfl
              have e1 : wr.cell? ⟨E, 1, none⟩ = some (.string ls) := by rw [Lib.cell_of_heap hE]; rfl
              have e2 : wr.cell? ⟨E, 2, none⟩ = some (.slice ao us.length cap) := by rw [Lib.cell_of_heap hE]; rfl
              have e3 : wr.cell? ⟨E, 3, none⟩ = some (.slice ao2 rs.length cap2) := by rw [Lib.cell_of_heap hE]; rfl
              have d0 : wr.cell? ⟨w.heap.size + 1, 0, none⟩ = some (.string ⟨#[]⟩) := by rw [Lib.cell_of_heap h2]; rfl
              have d1 : wr.cell? ⟨w.heap.size + 1, 1, none⟩ = some (.string ⟨#[]⟩) := by rw [Lib.cell_of_heap h2]; rfl
              have d2 : wr.cell? ⟨w.heap.size + 1, 2, none⟩ = some (.slice none 0 0) := by rw [Lib.cell_of_heap h2]; rfl
              have d3 : wr.cell? ⟨w.heap.size + 1, 3, none⟩ = some (.slice none 0 0) := by rw [Lib.cell_of_heap h2]; rfl
              have dF : ∀ o, wr.frozen? ⟨w.heap.size + 1, o, none⟩ = false := fun o => Lib.frozen_of_heap h2 o
              have hs : (wr.setCells (w.heap.size + 1) 0 [.string kt, .string ls, .slice ao us.length cap, .slice ao2 rs.length cap2]).heap.size = wr.heap.size := size_setCells _ _ _
              have hkb : ∀ b, b ≠ w.heap.size + 1 → (wr.setCells (w.heap.size + 1) 0 [.string kt, .string ls, .slice ao us.length cap, .slice ao2 rs.length cap2]).heap[b]? = wr.heap[b]? := fun b hb => heap_setCells hb _ _ _
              have Hb := hide (belowSetCells (b := w.heap.size + 1) [.string kt, .string ls, .slice ao us.length cap, .slice ao2 rs.length cap2] 0 wr hbw (Nat.le_succ _))
              have asF : IsAs (wr.setCells (w.heap.size + 1) 0 [.string kt, .string ls, .slice ao us.length cap, .slice ao2 rs.length cap2]) (fun _ _ => True) rs (((ns.zip vs).take 3).map atE) := by
                have hall := inv.at_
                rw [hjz] at hall
                refine ⟨hall.1, fun k q1 q2 => ⟨(hall.2 k q1 q2).1, ?_⟩⟩
                have hg := (hall.2 k q1 q2).2.1
                have hg2 := hg.other (b := w.heap.size + 1) (s := ⟨#[]⟩) d0
                exact hg2.turn (by omega) fun b hb _ => ⟨hkb b hb, trivial⟩
              have HasF := hide asF
              have Hown2 := hide (show (wr.setCells (w.heap.size + 1) 0 [.string kt, .string ls, .slice ao us.length cap, .slice ao2 rs.length cap2]).ownsRow W5 51 8 (.slice ao2 rs.length cap2) rs.length (rs.map A8.cells).flatten from
                ⟨inv.own.1, inv.own.2.imp id fun ⟨g, c', cur, q1, q2, q3, q4⟩ => ⟨g, c', cur, q1, q2, (hkb g (by omega)).trans q3, q4⟩⟩)
              have Hpar := hide (fun ad e => (had ad e).2)
              have Hnil := hide (show rs = [] → ao2 = none from fun h => by
                have := inv.nil h
                cases ao2 with
                | none => rfl
                | some _ => cases this)
              have hW : w.heap.size ≤ W5 := by omega
              have fin : IsEnt (wr.setCells (w.heap.size + 1) 0 [.string kt, .string ls, .slice ao us.length cap, .slice ao2 rs.length cap2]) (fun _ => True) ⟨kt, ls, ao, us.length, cap, ao2, rs.length, cap2⟩ (entP ⟨t, n, po, ps, pc, no, ns, nc, vo, vs, vc⟩) := by
                refine ⟨unhide HU, congrArg List.length (unhide HUS), ?_, fun _ _ _ => trivial, rs, rfl, hrA.turn (by omega) (fun ad e _ _ => hkb _ (by have := (had2 ad e).2; omega)), fun _ _ _ => trivial, ?_⟩
                · have := hrU.turn (w' := wr.setCells (w.heap.size + 1) 0 [.string kt, .string ls, .slice ao us.length cap, .slice ao2 rs.length cap2]) (by omega) (fun ad e _ _ => hkb _ (by have := (had ad e).1; omega))
                  rw [show (entP ⟨t, n, po, ps, pc, no, ns, nc, vo, vs, vc⟩).ps = us from (unhide HUS).symm]
                  exact this
                · exact asF
              have Hfin := hide fin
              clear h1 h2 hE inv fin asF hkb hs hrU hrA had had2 hown'
              clear hbw hEW hEl hEB hE4 hBE hE5 hi3 hip hsz hj3 hjn hjv hjz b2 b3 b4 hR HOK HU HUS HLS z2 hm5
              go_upto_region 13 with fail
              iterate 10 go_step
              refine wp_ret ?_
              show bodyPost Try.prog Try.f18 _ .ret _ _
              exact bodyPost_ret (v := .agg #[.string kt, .string ls, .slice ao us.length cap, .slice ao2 rs.length cap2]) (by simp [results, Try.results18, go_sem, d0, d1, d2, d3]) rfl ⟨unhide Hb, ⟨kt, ls, ao, us.length, cap, ao2, rs.length, cap2⟩, rs, W5, rfl, unhide Hfin, rfl, unhide Hown2, unhide HasF, unhide Hpar, unhide Hnil, hW⟩
          · have m1 : ¬ (j : Int) < (ns.length : Int) := by omega
            have hjz : ((ns.zip vs).take j).map atE = ((ns.zip vs).take 3).map atE := by rw [List.take_of_length_le (by rw [List.length_zip]; omega), List.take_of_length_le (by rw [List.length_zip]; omega)]
            have hbw := inv.below
            have h1 := inv.h1
            have h2 := inv.h2
            have hE := inv.hE
            obtain ⟨ao, cap, hpv, hrU, had⟩ := inv.rowU
            have hown' : wr.ownsRow W5 51 8 lv (rs.map A8.cells).length (rs.map A8.cells).flatten := by rw [List.length_map]; exact inv.own
            obtain ⟨ao2, cap2, hlv, hrA, _, had2⟩ := rowG_own (lenA _) hown'
            rw [List.length_map] at hlv
            subst hlv hpv
            have e0 : wr.cell? ⟨E, 0, none⟩ = some (.string kt) := by rw [Lib.cell_of_heap hE]; rfl
            have e1 : wr.cell? ⟨E, 1, none⟩ = some (.string ls) := by rw [Lib.cell_of_heap hE]; rfl
            have e2 : wr.cell? ⟨E, 2, none⟩ = some (.slice ao us.length cap) := by rw [Lib.cell_of_heap hE]; rfl
            have e3 : wr.cell? ⟨E, 3, none⟩ = some (.slice ao2 rs.length cap2) := by rw [Lib.cell_of_heap hE]; rfl
            have d0 : wr.cell? ⟨w.heap.size + 1, 0, none⟩ = some (.string ⟨#[]⟩) := by rw [Lib.cell_of_heap h2]; rfl
            have d1 : wr.cell? ⟨w.heap.size + 1, 1, none⟩ = some (.string ⟨#[]⟩) := by rw [Lib.cell_of_heap h2]; rfl
            have d2 : wr.cell? ⟨w.heap.size + 1, 2, none⟩ = some (.slice none 0 0) := by rw [Lib.cell_of_heap h2]; rfl
            have d3 : wr.cell? ⟨w.heap.size + 1, 3, none⟩ = some (.slice none 0 0) := by rw [Lib.cell_of_heap h2]; rfl
            have dF : ∀ o, wr.frozen? ⟨w.heap.size + 1, o, none⟩ = false := fun o => Lib.frozen_of_heap h2 o
            have hs : (wr.setCells (w.heap.size + 1) 0 [.string kt, .string ls, .slice ao us.length cap, .slice ao2 rs.length cap2]).heap.size = wr.heap.size := size_setCells _ _ _
            have hkb : ∀ b, b ≠ w.heap.size + 1 → (wr.setCells (w.heap.size + 1) 0 [.string kt, .string ls, .slice ao us.length cap, .slice ao2 rs.length cap2]).heap[b]? = wr.heap[b]? := fun b hb => heap_setCells hb _ _ _
            have Hb := hide (belowSetCells (b := w.heap.size + 1) [.string kt, .string ls, .slice ao us.length cap, .slice ao2 rs.length cap2] 0 wr hbw (Nat.le_succ _))
            have asF : IsAs (wr.setCells (w.heap.size + 1) 0 [.string kt, .string ls, .slice ao us.length cap, .slice ao2 rs.length cap2]) (fun _ _ => True) rs (((ns.zip vs).take 3).map atE) := by
              have hall := inv.at_
              rw [hjz] at hall
              refine ⟨hall.1, fun k q1 q2 => ⟨(hall.2 k q1 q2).1, ?_⟩⟩
              have hg := (hall.2 k q1 q2).2.1
              have hg2 := hg.other (b := w.heap.size + 1) (s := ⟨#[]⟩) d0
              exact hg2.turn (by omega) fun b hb _ => ⟨hkb b hb, trivial⟩
            have HasF := hide asF
            have Hown2 := hide (show (wr.setCells (w.heap.size + 1) 0 [.string kt, .string ls, .slice ao us.length cap, .slice ao2 rs.length cap2]).ownsRow W5 51 8 (.slice ao2 rs.length cap2) rs.length (rs.map A8.cells).flatten from
              ⟨inv.own.1, inv.own.2.imp id fun ⟨g, c', cur, q1, q2, q3, q4⟩ => ⟨g, c', cur, q1, q2, (hkb g (by omega)).trans q3, q4⟩⟩)
            have Hpar := hide (fun ad e => (had ad e).2)
            have Hnil := hide (show rs = [] → ao2 = none from fun h => by
              have := inv.nil h
              cases ao2 with
              | none => rfl
              | some _ => cases this)
            have hW : w.heap.size ≤ W5 := by omega
            have fin : IsEnt (wr.setCells (w.heap.size + 1) 0 [.string kt, .string ls, .slice ao us.length cap, .slice ao2 rs.length cap2]) (fun _ => True) ⟨kt, ls, ao, us.length, cap, ao2, rs.length, cap2⟩ (entP ⟨t, n, po, ps, pc, no, ns, nc, vo, vs, vc⟩) := by
              refine ⟨unhide HU, congrArg List.length (unhide HUS), ?_, fun _ _ _ => trivial, rs, rfl, hrA.turn (by omega) (fun ad e _ _ => hkb _ (by have := (had2 ad e).2; omega)), fun _ _ _ => trivial, ?_⟩
              · have := hrU.turn (w' := wr.setCells (w.heap.size + 1) 0 [.string kt, .string ls, .slice ao us.length cap, .slice ao2 rs.length cap2]) (by omega) (fun ad e _ _ => hkb _ (by have := (had ad e).1; omega))
                rw [show (entP ⟨t, n, po, ps, pc, no, ns, nc, vo, vs, vc⟩).ps = us from (unhide HUS).symm]
                exact this
              · exact asF
            have Hfin := hide fin
            clear h1 h2 hE inv fin asF hkb hs hrU hrA had had2 hown'
            clear hbw hEW hEl hEB hE4 hBE hE5 hi3 hip hsz hj3 hjn hjv hjz b2 b3 b4 hR HOK HU HUS HLS z2 hm5
            go_upto_region 13 with fail
            iterate 10 go_step
            refine wp_ret ?_
            show bodyPost Try.prog Try.f18 _ .ret _ _
            exact bodyPost_ret (v := .agg #[.string kt, .string ls, .slice ao us.length cap, .slice ao2 rs.length cap2]) (by simp [results, Try.results18, go_sem, d0, d1, d2, d3]) rfl ⟨unhide Hb, ⟨kt, ls, ao, us.length, cap, ao2, rs.length, cap2⟩, rs, W5, rfl, unhide Hfin, rfl, unhide Hown2, unhide HasF, unhide Hpar, unhide Hnil, hW⟩

theorem entity5_any (r : EntR) (w : World) (hr : r.Ok w) : Calls Try.prog 18 #[r.val] w fun x w' => EntPost w (entP r) x w' :=
  (entity5_own r w hr).mono fun _ _ ⟨hb, e, _, _, he, hi, _⟩ => ⟨hb, e, he, hi⟩
end Go.Proofs.Ythmmplmppchfmaa
