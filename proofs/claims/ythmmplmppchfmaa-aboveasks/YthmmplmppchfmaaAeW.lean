/-
  chancellaw9.AboveAsks: the walk.
-/
import Derived.Test.YthmmplmppchfmaaAeAB
import Derived.Test.YthmmplmppchfmaaAcPU
import Derived.Test.YthmmplmppchfmaaGdG
import Derived.Test.YthmmplmppchfmaaMqKW
namespace Go.Proofs.Ythmmplmppchfmaa
open Go.RowKit Go.Sort

set_option maxHeartbeats 16000000 in
set_option maxRecDepth 1000000 in
theorem aasks_walk (lo : Option Addr) (rs : List EntR) (lc : Nat) (n m : Int) (so : Option Addr) (xs : List Int) (sc : Nat) (w : World) (hl : rs.length ≤ 9223372036854775807) (hr : RowEnt w lo rs) (hz : IntsAt w so xs) :
    Calls Try.prog 3 #[.slice lo rs.length lc, .int .i64 n, .int .i64 m, .slice so xs.length sc] w fun e w' => e = .returned (.bool true) ∧ Below w.heap.size w w' := by
  have C0 := known9_any w
  have HR := hide hr
  have HZ := hide hz
  have HL := hide hl
  obtain ⟨N, hN⟩ : ∃ N, N = xs.length := ⟨_, rfl⟩
  rw [← hN]
  have HN := hide hN
  obtain ⟨nr, hnr⟩ : ∃ nr, nr = rs.length := ⟨_, rfl⟩
  have HNR := hide hnr
  rw [← hnr]
  clear hr hz hl hN hnr
  go_enter Try.func3, Try.ntmps3
  go_wp2_with fail
  refine C0.mono ?_
  clear C0
  rintro e w1 ⟨rfl, b1⟩
  have G := good8_any lo rs lc w1 (unhide HL) ((unhide HR).below b1)
  rw [← unhide HNR] at G
  go_wp2_with fail
  refine G.mono ?_
  clear G
  rintro _ w7 ⟨b17, go, gcap, gs, rfl, hgr, hgA, _, _⟩
  have HB0 := hide (b1.trans (b17.mono b1.size))
  have HZ7 := hide ((unhide HZ).below (unhide HB0))
  have HG := hide (show G9 w7 go gs (goodsL rs) from ⟨hgr, hgA, gl_goods rs⟩)
  clear hgr hgA b1 b17 HR HL HNR HZ
  generalize goodsL rs = ps at *
  obtain ⟨f, hf⟩ := isW_ex (upS ps)
  have HF := hide hf
  clear hf
  have HPK0 := hide (fun (m : Int) (w' : World) (hb : Below w7.heap.size w7 w') => pick9_any gs ps go gcap m w' ((unhide HG).below hb))
  have C := unhide HPK0 n w7 (Below.refl _ _)
  have C2 := unhide HPK0 m
  obtain ⟨u, hu⟩ : ∃ u, u = pickP ps n := ⟨_, rfl⟩
  rw [← hu] at C
  obtain ⟨v, hv⟩ : ∃ v, v = pickP ps m := ⟨_, rfl⟩
  rw [← hv] at C2
  clear hu hv
  obtain ⟨La, hla, hLa⟩ := abv_ex (unhide HG).gl u
  have HLA := hide (show La.length ≤ 1000 by omega)
  have HLa := hide hLa
  clear hla hLa
  obtain ⟨M, hM⟩ : ∃ M, M = gs.length := ⟨_, rfl⟩
  rw [← hM] at C C2 ⊢
  have HGM := hide hM.symm
  clear hM
  go_wp2_with fail
  refine C.mono ?_
  clear C
  rintro e w8 ⟨rfl, b8⟩
  have C3 := C2 w8 b8
  clear C2
  go_wp2_with fail
  refine C3.mono ?_
  clear C3
  rintro e w8' ⟨rfl, b8'⟩
  have B78 := b8.trans (b8'.mono b8.size)
  obtain ⟨b89, h8, h9⟩ := ac2 w8' (.cells #[.string u.t, .string u.i] 28) (.cells #[.string v.t, .string v.i] 28)
  go_upto_region 5 with fail
  generalize (w8'.alloc _).alloc _ = w9 at *
  obtain ⟨Ub, hUb⟩ : ∃ Ub, Ub = w8'.heap.size := ⟨_, rfl⟩
  obtain ⟨Vb, hVb⟩ : ∃ Vb, Vb = Ub + 1 := ⟨_, rfl⟩
  rw [← hUb, ← hVb] at h9 ⊢
  rw [← hUb] at h8
  have B79 := B78.trans (b89.mono B78.size)
  have H8 := hide h8
  have H9 := hide h9
  have HB9 := hide B79
  clear hUb hVb h8 h9 B79 B78 b8 b8' b89
  go_wp2
  go_loopw [12, 13] (fun ov iv wr => ∃ (L : List U2) (j : Nat), iv = .int .i64 j ∧ j ≤ N ∧ j ≤ 4 ∧ L.length = j ∧ Below w9.heap.size w9 wr ∧ wr.ownsRow w9.heap.size 28 2 ov L.length (L.map U2.cells).flatten) (fun _ iv _ => 4 - (intOf iv).toNat)
  case atStart => exact ⟨[], 0, by go_num, Nat.zero_le _, Nat.zero_le _, rfl, Below.refl _ _, World.ownsRow_nil _ _ _ _⟩
  case round =>
    rename World => wr
    obtain ⟨L, j, rfl, hjN, hj4, hlj, hb, how⟩ := hrel
    have HOW := hide how
    have HLJ := hide hlj
    have HBr := hide ((unhide HB9).trans (hb.mono (unhide HB9).size))
    have HUU := hide (kept_of_below hb (unhide H8))
    have HVV := hide (kept_of_below hb (unhide H9))
    clear how
    have j0 : (0 : Int) ≤ (j : Int) := by omega
    by_cases hlt : j < N
    · have i1 : (j : Int) < (N : Int) := by omega
      by_cases h4 : j < 4
      · have i4 : (j : Int) < 4 := by omega
        obtain ⟨sb, soff, rfl, hsb, cj⟩ := unhide HZ7 j (by rw [← unhide HN]; exact hlt)
        obtain ⟨nj, hnj⟩ : ∃ nj, nj = xs[j]'(by rw [← unhide HN]; exact hlt) := ⟨_, rfl⟩
        rw [← hnj] at cj
        clear hnj
        have CP := unhide HPK0 nj wr (unhide HBr)
        obtain ⟨x, hx⟩ : ∃ x, x = pickP ps nj := ⟨_, rfl⟩
        rw [← hx, unhide HGM] at CP
        have cj' := ((unhide HBr).cell (p := ⟨sb, soff + j, none⟩) hsb).trans cj
        have HHB := hide hb
        clear hx hlj cj hb
        go_wp2_with fail
        refine CP.mono ?_
        clear CP cj'
        rintro e wa ⟨rfl, ba⟩
        have bb := ac1 wa (.cells #[.string x.t, .string x.i] 28)
        have hx1 := alloc_heap wa (.cells #[.string x.t, .string x.i] 28)
        have bab := ba.trans (bb.mono ba.size)
        have HO2 := hide (own_keptA (unhide HOW) fun g _ hg => bab.block g hg)
        have HR2 := hide (rowG_one hx1)
        have HB2 := hide ((unhide HHB).trans (bab.mono (unhide HHB).size))
        clear hx1 ba bb bab HOW
        go_wp2_with (at_builtin; refine wpList_appU (A := L) (C := [x]) rfl _ _ rfl rfl rfl (unhide HO2) rfl (unhide HR2) (by rw [List.length_singleton]; have := unhide HLJ; omega) (by have := (unhide HB2).size; exact this) ?_)
        intro v5 w5 ho5 hg5
        have hO5 : w5.ownsRow w9.heap.size 28 2 v5 (L ++ [x]).length ((L ++ [x]).map U2.cells).flatten := by simpa using ho5
        have HO5 := hide hO5
        have HB5 := hide (show Below w9.heap.size w9 w5 from (unhide HB2).grown hg5 (unhide HB2).size (fun g e => ((unhide HO2).lt g e).1))
        clear ho5 hg5 hO5
        go_wp2
        go_roundw
        case rel => exact ⟨L ++ [x], j + 1, by go_num, by omega, by omega, by rw [List.length_append, unhide HLJ]; rfl, unhide HB5, unhide HO5⟩
        case measure =>
          simp only [intOf]
          omega
      · have i4 : ¬ (j : Int) < 4 := by omega
        clear hb hlj
        obtain ⟨po, pc, rfl, hrow⟩ := own_rowA (unhide HOW)
        have HROW := hide hrow
        have hUr := unhide HUU
        have hVr := unhide HVV
        have cu0 : wr.cell? ⟨Ub, 0, none⟩ = some (.string u.t) := by rw [Lib.cell_of_heap hUr]; rfl
        have cu1 : wr.cell? ⟨Ub, 1, none⟩ = some (.string u.i) := by rw [Lib.cell_of_heap hUr]; rfl
        have cv0 : wr.cell? ⟨Vb, 0, none⟩ = some (.string v.t) := by rw [Lib.cell_of_heap hVr]; rfl
        have cv1 : wr.cell? ⟨Vb, 1, none⟩ = some (.string v.i) := by rw [Lib.cell_of_heap hVr]; rfl
        have hUl : Ub < wr.heap.size := (Array.getElem?_eq_some_iff.1 hUr).1
        have hVl : Vb < wr.heap.size := (Array.getElem?_eq_some_iff.1 hVr).1
        have HGr := hide ((unhide HG).below (unhide HBr))
        obtain ⟨zc, hzc⟩ : ∃ zc : Bool, zc = true ↔ ∃ f ∈ L, Way (cutS (upS ps) u) f u := ⟨@decide _ (Classical.propDecidable _), @decide_eq_true_iff _ (Classical.propDecidable _)⟩
        have CIN := hide (fun (w' : World) (hb : Below wr.heap.size wr w') => show Calls Try.prog 8 #[.slice go M gcap, .agg #[.string u.t, .string u.i], .agg #[.string v.t, .string v.i]] w' (fun e w'' => e = .returned (.bool (f u v)) ∧ Below w'.heap.size w' w'') from by
          have h := ((unhide HGr).below hb).in9 (unhide HF) gcap u v
          rw [unhide HGM] at h
          exact h)
        have CRI := hide (fun (w' : World) (hb : Below wr.heap.size wr w') => by
          have h := ((unhide HGr).below hb).rin (unhide HF) gcap u v
          rw [unhide HGM] at h
          exact h)
        have CAB := hide (fun (w' : World) (hb : Below wr.heap.size wr w') => by
          have h := ((unhide HGr).below hb).abv (unhide HLa) gcap
          rw [unhide HGM] at h
          exact h)
        have CRA := hide (fun (w' : World) (hb : Below wr.heap.size wr w') => by
          have h := ((unhide HGr).below hb).rabv (unhide HLa) gcap
          rw [unhide HGM] at h
          exact h)
        have CBE := hide (fun (w' : World) (hb : Below wr.heap.size wr w') => by
          have h := ((unhide HGr).below hb).bel (unhide HF) gcap u
          rw [unhide HGM] at h
          exact h)
        have CRB := hide (fun (w' : World) (hb : Below wr.heap.size wr w') => by
          have h := ((unhide HGr).below hb).rbel (unhide HF) gcap u
          rw [unhide HGM] at h
          exact h)
        have hL4 : L.length ≤ 4 := by have := unhide HLJ; omega
        have CCI := hide (fun (w' : World) (hb : Below wr.heap.size wr w') => by
          have h := ((unhide HGr).below hb).cir (pc := pc) hzc (hrow.below hb) hL4 gcap
          rw [unhide HGM] at h
          exact h)
        have CRC := hide (fun (w' : World) (hb : Below wr.heap.size wr w') => by
          have h := ((unhide HGr).below hb).rcir (pc := pc) hzc (hrow.below hb) hL4 gcap
          rw [unhide HGM] at h
          exact h)
        generalize L.length = np at *
        generalize f u v = z at *
        have HLB := hide (show (belF f u gs).length ≤ 1000 from Nat.le_trans (belF_len f u gs) (by have := (unhide HG).len; omega))
        generalize belF f u gs = Lb at *
        clear hrow hzc hUr hVr HOW HUU HVV HLJ
        go_upto_region 10 with fail
        refine wp_specsH 39 (fun _ => true) (SpW [.eq (.slice go M gcap), .eq (.agg #[.string u.t, .string u.i]), .eq (.agg #[.string v.t, .string v.i]), .eq (.bool z), .eq (.slice go M gcap), .eq (.agg #[.string u.t, .string u.i]), .eq (.agg #[.string v.t, .string v.i]), .eq (.bool z), .eq (.bool true), .eq (.bool true), .eq (.slice go M gcap), .eq (.agg #[.string u.t, .string u.i]), .row (La), .eq (.slice go M gcap), .eq (.agg #[.string u.t, .string u.i]), .row (La), .eq (.bool true), .eq (.bool true), .eq (.bool true), .eq (.slice go M gcap), .eq (.agg #[.string u.t, .string u.i]), .row (Lb), .eq (.slice go M gcap), .eq (.agg #[.string u.t, .string u.i]), .row (Lb), .eq (.bool true), .eq (.bool true), .eq (.bool true), .eq (.slice go M gcap), .eq (.agg #[.string u.t, .string u.i]), .eq (.slice po np pc), .eq (.bool zc), .eq (.slice go M gcap), .eq (.agg #[.string u.t, .string u.i]), .eq (.slice po np pc), .eq (.bool zc), .eq (.bool true), .eq (.bool true), .eq (.bool true)]) (fun _ _ w' => Below wr.heap.size wr w') (by kernel_rfl) (by kernel_rfl) (by kernel_rfl) (Below.refl _ wr).drew ?_ ?_ ?_ ?_ ?_ ?_
        · intro i o ho a' w' hdep
          match i, ho with
          | 0, ho =>
            cases ho
            exact want_none rfl
          | 1, ho =>
            cases ho
            exact want_none rfl
          | 2, ho =>
            cases ho
            exact want_none rfl
          | 3, ho =>
            cases ho
            exact want_none rfl
          | 4, ho =>
            cases ho
            exact want_none rfl
          | 5, ho =>
            cases ho
            exact want_none rfl
          | 6, ho =>
            cases ho
            exact want_none rfl
          | 7, ho =>
            cases ho
            exact want_none rfl
          | 8, ho =>
            cases ho
            exact want_none rfl
          | 9, ho =>
            cases ho
            exact want_none rfl
          | 10, ho =>
            cases ho
            exact want_some rfl (by kernel_rfl) (show a'.tmps.getD 52 undef = .bool true from hdep 9 (by decide) (by kernel_rfl))
          | 11, ho =>
            cases ho
            exact want_some rfl (by kernel_rfl) (show a'.tmps.getD 52 undef = .bool true from hdep 9 (by decide) (by kernel_rfl))
          | 12, ho =>
            cases ho
            exact want_some rfl (by kernel_rfl) (show a'.tmps.getD 52 undef = .bool true from hdep 9 (by decide) (by kernel_rfl))
          | 13, ho =>
            cases ho
            exact want_some rfl (by kernel_rfl) (show a'.tmps.getD 52 undef = .bool true from hdep 9 (by decide) (by kernel_rfl))
          | 14, ho =>
            cases ho
            exact want_some rfl (by kernel_rfl) (show a'.tmps.getD 52 undef = .bool true from hdep 9 (by decide) (by kernel_rfl))
          | 15, ho =>
            cases ho
            exact want_some rfl (by kernel_rfl) (show a'.tmps.getD 52 undef = .bool true from hdep 9 (by decide) (by kernel_rfl))
          | 16, ho =>
            cases ho
            exact want_some rfl (by kernel_rfl) (show a'.tmps.getD 52 undef = .bool true from hdep 9 (by decide) (by kernel_rfl))
          | 17, ho =>
            cases ho
            exact want_none rfl
          | 18, ho =>
            cases ho
            exact want_none rfl
          | 19, ho =>
            cases ho
            exact want_some rfl (by kernel_rfl) (show a'.tmps.getD 61 undef = .bool true from hdep 18 (by decide) (by kernel_rfl))
          | 20, ho =>
            cases ho
            exact want_some rfl (by kernel_rfl) (show a'.tmps.getD 61 undef = .bool true from hdep 18 (by decide) (by kernel_rfl))
          | 21, ho =>
            cases ho
            exact want_some rfl (by kernel_rfl) (show a'.tmps.getD 61 undef = .bool true from hdep 18 (by decide) (by kernel_rfl))
          | 22, ho =>
            cases ho
            exact want_some rfl (by kernel_rfl) (show a'.tmps.getD 61 undef = .bool true from hdep 18 (by decide) (by kernel_rfl))
          | 23, ho =>
            cases ho
            exact want_some rfl (by kernel_rfl) (show a'.tmps.getD 61 undef = .bool true from hdep 18 (by decide) (by kernel_rfl))
          | 24, ho =>
            cases ho
            exact want_some rfl (by kernel_rfl) (show a'.tmps.getD 61 undef = .bool true from hdep 18 (by decide) (by kernel_rfl))
          | 25, ho =>
            cases ho
            exact want_some rfl (by kernel_rfl) (show a'.tmps.getD 61 undef = .bool true from hdep 18 (by decide) (by kernel_rfl))
          | 26, ho =>
            cases ho
            exact want_none rfl
          | 27, ho =>
            cases ho
            exact want_none rfl
          | 28, ho =>
            cases ho
            exact want_some rfl (by kernel_rfl) (show a'.tmps.getD 70 undef = .bool true from hdep 27 (by decide) (by kernel_rfl))
          | 29, ho =>
            cases ho
            exact want_some rfl (by kernel_rfl) (show a'.tmps.getD 70 undef = .bool true from hdep 27 (by decide) (by kernel_rfl))
          | 30, ho =>
            cases ho
            exact want_some rfl (by kernel_rfl) (show a'.tmps.getD 70 undef = .bool true from hdep 27 (by decide) (by kernel_rfl))
          | 31, ho =>
            cases ho
            exact want_some rfl (by kernel_rfl) (show a'.tmps.getD 70 undef = .bool true from hdep 27 (by decide) (by kernel_rfl))
          | 32, ho =>
            cases ho
            exact want_some rfl (by kernel_rfl) (show a'.tmps.getD 70 undef = .bool true from hdep 27 (by decide) (by kernel_rfl))
          | 33, ho =>
            cases ho
            exact want_some rfl (by kernel_rfl) (show a'.tmps.getD 70 undef = .bool true from hdep 27 (by decide) (by kernel_rfl))
          | 34, ho =>
            cases ho
            exact want_some rfl (by kernel_rfl) (show a'.tmps.getD 70 undef = .bool true from hdep 27 (by decide) (by kernel_rfl))
          | 35, ho =>
            cases ho
            exact want_some rfl (by kernel_rfl) (show a'.tmps.getD 70 undef = .bool true from hdep 27 (by decide) (by kernel_rfl))
          | 36, ho =>
            cases ho
            exact want_some rfl (by kernel_rfl) (show a'.tmps.getD 70 undef = .bool true from hdep 27 (by decide) (by kernel_rfl))
          | 37, ho =>
            cases ho
            exact want_none rfl
          | 38, ho =>
            cases ho
            exact want_none rfl
          | i + 39, ho => exact absurd (List.getElem?_eq_some_iff.1 ho).1 (by simp)
        · intro i o hi' ho hwf
          cases hwf
        · intro i hi
          rfl
        · intro i o hi' hwi ho L a' w' hL hw hR hdep hslot hsz K hK
          have yu0 : w'.cell? ⟨Ub, 0, none⟩ = some (.string u.t) := (hR.cell (p := ⟨Ub, 0, none⟩) hUl).trans cu0
          have yu1 : w'.cell? ⟨Ub, 1, none⟩ = some (.string u.i) := (hR.cell (p := ⟨Ub, 1, none⟩) hUl).trans cu1
          have yv0 : w'.cell? ⟨Vb, 0, none⟩ = some (.string v.t) := (hR.cell (p := ⟨Vb, 0, none⟩) hVl).trans cv0
          have yv1 : w'.cell? ⟨Vb, 1, none⟩ = some (.string v.i) := (hR.cell (p := ⟨Vb, 1, none⟩) hVl).trans cv1
          match i, hi' with
          | 0, _ =>
            cases ho
            have e0 : a'.tmps.getD 9 undef = .slice go M gcap := hslot 9 (by decide)
            have HRk := hide hR
            clear hsz hR hw hdep hslot hL yu0 yu1 yv0 yv1
            unfold Oper.wp
            go_simp
            exact hK _ _ rfl (unhide HRk) (fun _ _ h => h)
          | 1, _ =>
            cases ho
            have e0 : a'.tmps.getD 10 undef = .pointer (some ⟨Ub, 0, none⟩) := hslot 10 (by decide)
            have HRk := hide hR
            clear hsz hR hw hdep hslot hL yv0 yv1
            unfold Oper.wp
            go_simp
            exact hK _ _ rfl (unhide HRk) (fun _ _ h => h)
          | 2, _ =>
            cases ho
            have e0 : a'.tmps.getD 11 undef = .pointer (some ⟨Vb, 0, none⟩) := hslot 11 (by decide)
            have HRk := hide hR
            clear hsz hR hw hdep hslot hL yu0 yu1
            unfold Oper.wp
            go_simp
            exact hK _ _ rfl (unhide HRk) (fun _ _ h => h)
          | 3, _ =>
            cases ho
            have e0 : a'.tmps.getD 43 undef = .slice go M gcap := hdep 0 (by decide) (by kernel_rfl)
            have e0' : a'.tmps[43]?.getD undef = .slice go M gcap := by simpa using e0
            have e1 : a'.tmps.getD 44 undef = .agg #[.string u.t, .string u.i] := hdep 1 (by decide) (by kernel_rfl)
            have e1' : a'.tmps[44]?.getD undef = .agg #[.string u.t, .string u.i] := by simpa using e1
            have e2 : a'.tmps.getD 45 undef = .agg #[.string v.t, .string v.i] := hdep 2 (by decide) (by kernel_rfl)
            have e2' : a'.tmps[45]?.getD undef = .agg #[.string v.t, .string v.i] := by simpa using e2
            have C := unhide CIN w' hR
            have HRk := hide hR
            clear hsz hR hw hdep hslot hL yu0 yu1 yv0 yv1
            unfold Oper.wp
            go_simp
            refine C.mono ?_
            rintro e w9 ⟨rfl, b9⟩
            exact hK _ _ rfl ((unhide HRk).trans (b9.mono (unhide HRk).size)) (SpW.up b9)
          | 4, _ =>
            cases ho
            have e0 : a'.tmps.getD 9 undef = .slice go M gcap := hslot 9 (by decide)
            have HRk := hide hR
            clear hsz hR hw hdep hslot hL yu0 yu1 yv0 yv1
            unfold Oper.wp
            go_simp
            exact hK _ _ rfl (unhide HRk) (fun _ _ h => h)
          | 5, _ =>
            cases ho
            have e0 : a'.tmps.getD 10 undef = .pointer (some ⟨Ub, 0, none⟩) := hslot 10 (by decide)
            have HRk := hide hR
            clear hsz hR hw hdep hslot hL yv0 yv1
            unfold Oper.wp
            go_simp
            exact hK _ _ rfl (unhide HRk) (fun _ _ h => h)
          | 6, _ =>
            cases ho
            have e0 : a'.tmps.getD 11 undef = .pointer (some ⟨Vb, 0, none⟩) := hslot 11 (by decide)
            have HRk := hide hR
            clear hsz hR hw hdep hslot hL yu0 yu1
            unfold Oper.wp
            go_simp
            exact hK _ _ rfl (unhide HRk) (fun _ _ h => h)
          | 7, _ =>
            cases ho
            have e0 : a'.tmps.getD 47 undef = .slice go M gcap := hdep 4 (by decide) (by kernel_rfl)
            have e0' : a'.tmps[47]?.getD undef = .slice go M gcap := by simpa using e0
            have e1 : a'.tmps.getD 48 undef = .agg #[.string u.t, .string u.i] := hdep 5 (by decide) (by kernel_rfl)
            have e1' : a'.tmps[48]?.getD undef = .agg #[.string u.t, .string u.i] := by simpa using e1
            have e2 : a'.tmps.getD 49 undef = .agg #[.string v.t, .string v.i] := hdep 6 (by decide) (by kernel_rfl)
            have e2' : a'.tmps[49]?.getD undef = .agg #[.string v.t, .string v.i] := by simpa using e2
            have C := unhide CRI w' hR
            have HRk := hide hR
            clear hsz hR hw hdep hslot hL yu0 yu1 yv0 yv1
            unfold Oper.wp
            go_simp
            refine C.mono ?_
            rintro e w9 ⟨rfl, b9⟩
            exact hK _ _ rfl ((unhide HRk).trans (b9.mono (unhide HRk).size)) (SpW.up b9)
          | 8, _ =>
            cases ho
            have e0 : a'.tmps.getD 46 undef = .bool z := hdep 3 (by decide) (by kernel_rfl)
            have e0' : a'.tmps[46]?.getD undef = .bool z := by simpa using e0
            have e1 : a'.tmps.getD 50 undef = .bool z := hdep 7 (by decide) (by kernel_rfl)
            have e1' : a'.tmps[50]?.getD undef = .bool z := by simpa using e1
            have HRk := hide hR
            clear hsz hR hw hdep hslot hL yu0 yu1 yv0 yv1
            cases z
            · unfold Oper.wp
              go_simp
              exact hK _ _ rfl (unhide HRk) (fun _ _ h => h)
            · unfold Oper.wp
              go_simp
              exact hK _ _ rfl (unhide HRk) (fun _ _ h => h)
          | 9, _ =>
            cases ho
            have e0 : a'.tmps.getD 51 undef = .bool true := hdep 8 (by decide) (by kernel_rfl)
            have e0' : a'.tmps[51]?.getD undef = .bool true := by simpa using e0
            have HRk := hide hR
            clear hsz hR hw hdep hslot hL yu0 yu1 yv0 yv1
            unfold Oper.wp
            go_simp
            exact hK _ _ rfl (unhide HRk) (fun _ _ h => h)
          | 10, _ =>
            cases ho
            have e0 : a'.tmps.getD 9 undef = .slice go M gcap := hslot 9 (by decide)
            have HRk := hide hR
            clear hsz hR hw hdep hslot hL yu0 yu1 yv0 yv1
            unfold Oper.wp
            go_simp
            exact hK _ _ rfl (unhide HRk) (fun _ _ h => h)
          | 11, _ =>
            cases ho
            have e0 : a'.tmps.getD 10 undef = .pointer (some ⟨Ub, 0, none⟩) := hslot 10 (by decide)
            have HRk := hide hR
            clear hsz hR hw hdep hslot hL yv0 yv1
            unfold Oper.wp
            go_simp
            exact hK _ _ rfl (unhide HRk) (fun _ _ h => h)
          | 12, _ =>
            cases ho
            have e0 : a'.tmps.getD 53 undef = .slice go M gcap := hdep 10 (by decide) (by kernel_rfl)
            have e0' : a'.tmps[53]?.getD undef = .slice go M gcap := by simpa using e0
            have e1 : a'.tmps.getD 54 undef = .agg #[.string u.t, .string u.i] := hdep 11 (by decide) (by kernel_rfl)
            have e1' : a'.tmps[54]?.getD undef = .agg #[.string u.t, .string u.i] := by simpa using e1
            have C := unhide CAB w' hR
            have HRk := hide hR
            clear hsz hR hw hdep hslot hL yu0 yu1 yv0 yv1
            unfold Oper.wp
            go_simp
            refine C.mono ?_
            rintro e w9 ⟨b9, ao9, c9, rfl, hr9⟩
            exact hK _ _ ⟨ao9, c9, rfl, hr9⟩ ((unhide HRk).trans (b9.mono (unhide HRk).size)) (SpW.up b9)
          | 13, _ =>
            cases ho
            have e0 : a'.tmps.getD 9 undef = .slice go M gcap := hslot 9 (by decide)
            have HRk := hide hR
            clear hsz hR hw hdep hslot hL yu0 yu1 yv0 yv1
            unfold Oper.wp
            go_simp
            exact hK _ _ rfl (unhide HRk) (fun _ _ h => h)
          | 14, _ =>
            cases ho
            have e0 : a'.tmps.getD 10 undef = .pointer (some ⟨Ub, 0, none⟩) := hslot 10 (by decide)
            have HRk := hide hR
            clear hsz hR hw hdep hslot hL yv0 yv1
            unfold Oper.wp
            go_simp
            exact hK _ _ rfl (unhide HRk) (fun _ _ h => h)
          | 15, _ =>
            cases ho
            have e0 : a'.tmps.getD 56 undef = .slice go M gcap := hdep 13 (by decide) (by kernel_rfl)
            have e0' : a'.tmps[56]?.getD undef = .slice go M gcap := by simpa using e0
            have e1 : a'.tmps.getD 57 undef = .agg #[.string u.t, .string u.i] := hdep 14 (by decide) (by kernel_rfl)
            have e1' : a'.tmps[57]?.getD undef = .agg #[.string u.t, .string u.i] := by simpa using e1
            have C := unhide CRA w' hR
            have HRk := hide hR
            clear hsz hR hw hdep hslot hL yu0 yu1 yv0 yv1
            unfold Oper.wp
            go_simp
            refine C.mono ?_
            rintro e w9 ⟨b9, ao9, c9, rfl, hr9⟩
            exact hK _ _ ⟨ao9, c9, rfl, hr9⟩ ((unhide HRk).trans (b9.mono (unhide HRk).size)) (SpW.up b9)
          | 16, _ =>
            cases ho
            obtain ⟨ao0, c0, e0, hr0⟩ : (.row (La) : Sw).sp (a'.tmps.getD 55 undef) w' := hdep 12 (by decide) (by kernel_rfl)
            have e0' : a'.tmps[55]?.getD undef = .slice ao0 (La).length c0 := by simpa using e0
            have Hr0 := hide hr0
            obtain ⟨ao1, c1, e1, hr1⟩ : (.row (La) : Sw).sp (a'.tmps.getD 58 undef) w' := hdep 15 (by decide) (by kernel_rfl)
            have e1' : a'.tmps[58]?.getD undef = .slice ao1 (La).length c1 := by simpa using e1
            have Hr1 := hide hr1
            have C := same9_eq La ao0 ao1 c0 c1 w' (unhide HLA) hr0 hr1
            have HRk := hide hR
            clear hsz hR hw hdep hslot hL hr0 hr1 yu0 yu1 yv0 yv1
            unfold Oper.wp
            go_simp
            refine C.mono ?_
            rintro e w9 ⟨rfl, b9⟩
            exact hK _ _ rfl ((unhide HRk).trans (b9.mono (unhide HRk).size)) (SpW.up b9)
          | 17, _ =>
            cases ho
            have e0 : a'.tmps.getD 52 undef = .bool true := hdep 9 (by decide) (by kernel_rfl)
            have e0' : a'.tmps[52]?.getD undef = .bool true := by simpa using e0
            have e1 : a'.tmps.getD 59 undef = .bool true := hdep 16 (by decide) (by kernel_rfl)
            have e1' : a'.tmps[59]?.getD undef = .bool true := by simpa using e1
            have HRk := hide hR
            clear hsz hR hw hdep hslot hL yu0 yu1 yv0 yv1
            unfold Oper.wp
            go_simp
            exact hK _ _ rfl (unhide HRk) (fun _ _ h => h)
          | 18, _ =>
            cases ho
            have e0 : a'.tmps.getD 60 undef = .bool true := hdep 17 (by decide) (by kernel_rfl)
            have e0' : a'.tmps[60]?.getD undef = .bool true := by simpa using e0
            have HRk := hide hR
            clear hsz hR hw hdep hslot hL yu0 yu1 yv0 yv1
            unfold Oper.wp
            go_simp
            exact hK _ _ rfl (unhide HRk) (fun _ _ h => h)
          | 19, _ =>
            cases ho
            have e0 : a'.tmps.getD 9 undef = .slice go M gcap := hslot 9 (by decide)
            have HRk := hide hR
            clear hsz hR hw hdep hslot hL yu0 yu1 yv0 yv1
            unfold Oper.wp
            go_simp
            exact hK _ _ rfl (unhide HRk) (fun _ _ h => h)
          | 20, _ =>
            cases ho
            have e0 : a'.tmps.getD 10 undef = .pointer (some ⟨Ub, 0, none⟩) := hslot 10 (by decide)
            have HRk := hide hR
            clear hsz hR hw hdep hslot hL yv0 yv1
            unfold Oper.wp
            go_simp
            exact hK _ _ rfl (unhide HRk) (fun _ _ h => h)
          | 21, _ =>
            cases ho
            have e0 : a'.tmps.getD 62 undef = .slice go M gcap := hdep 19 (by decide) (by kernel_rfl)
            have e0' : a'.tmps[62]?.getD undef = .slice go M gcap := by simpa using e0
            have e1 : a'.tmps.getD 63 undef = .agg #[.string u.t, .string u.i] := hdep 20 (by decide) (by kernel_rfl)
            have e1' : a'.tmps[63]?.getD undef = .agg #[.string u.t, .string u.i] := by simpa using e1
            have C := unhide CBE w' hR
            have HRk := hide hR
            clear hsz hR hw hdep hslot hL yu0 yu1 yv0 yv1
            unfold Oper.wp
            go_simp
            refine C.mono ?_
            rintro e w9 ⟨b9, ao9, c9, rfl, hr9⟩
            exact hK _ _ ⟨ao9, c9, rfl, hr9⟩ ((unhide HRk).trans (b9.mono (unhide HRk).size)) (SpW.up b9)
          | 22, _ =>
            cases ho
            have e0 : a'.tmps.getD 9 undef = .slice go M gcap := hslot 9 (by decide)
            have HRk := hide hR
            clear hsz hR hw hdep hslot hL yu0 yu1 yv0 yv1
            unfold Oper.wp
            go_simp
            exact hK _ _ rfl (unhide HRk) (fun _ _ h => h)
          | 23, _ =>
            cases ho
            have e0 : a'.tmps.getD 10 undef = .pointer (some ⟨Ub, 0, none⟩) := hslot 10 (by decide)
            have HRk := hide hR
            clear hsz hR hw hdep hslot hL yv0 yv1
            unfold Oper.wp
            go_simp
            exact hK _ _ rfl (unhide HRk) (fun _ _ h => h)
          | 24, _ =>
            cases ho
            have e0 : a'.tmps.getD 65 undef = .slice go M gcap := hdep 22 (by decide) (by kernel_rfl)
            have e0' : a'.tmps[65]?.getD undef = .slice go M gcap := by simpa using e0
            have e1 : a'.tmps.getD 66 undef = .agg #[.string u.t, .string u.i] := hdep 23 (by decide) (by kernel_rfl)
            have e1' : a'.tmps[66]?.getD undef = .agg #[.string u.t, .string u.i] := by simpa using e1
            have C := unhide CRB w' hR
            have HRk := hide hR
            clear hsz hR hw hdep hslot hL yu0 yu1 yv0 yv1
            unfold Oper.wp
            go_simp
            refine C.mono ?_
            rintro e w9 ⟨b9, ao9, c9, rfl, hr9⟩
            exact hK _ _ ⟨ao9, c9, rfl, hr9⟩ ((unhide HRk).trans (b9.mono (unhide HRk).size)) (SpW.up b9)
          | 25, _ =>
            cases ho
            obtain ⟨ao0, c0, e0, hr0⟩ : (.row (Lb) : Sw).sp (a'.tmps.getD 64 undef) w' := hdep 21 (by decide) (by kernel_rfl)
            have e0' : a'.tmps[64]?.getD undef = .slice ao0 (Lb).length c0 := by simpa using e0
            have Hr0 := hide hr0
            obtain ⟨ao1, c1, e1, hr1⟩ : (.row (Lb) : Sw).sp (a'.tmps.getD 67 undef) w' := hdep 24 (by decide) (by kernel_rfl)
            have e1' : a'.tmps[67]?.getD undef = .slice ao1 (Lb).length c1 := by simpa using e1
            have Hr1 := hide hr1
            have C := same9_eq Lb ao0 ao1 c0 c1 w' (unhide HLB) hr0 hr1
            have HRk := hide hR
            clear hsz hR hw hdep hslot hL hr0 hr1 yu0 yu1 yv0 yv1
            unfold Oper.wp
            go_simp
            refine C.mono ?_
            rintro e w9 ⟨rfl, b9⟩
            exact hK _ _ rfl ((unhide HRk).trans (b9.mono (unhide HRk).size)) (SpW.up b9)
          | 26, _ =>
            cases ho
            have e0 : a'.tmps.getD 61 undef = .bool true := hdep 18 (by decide) (by kernel_rfl)
            have e0' : a'.tmps[61]?.getD undef = .bool true := by simpa using e0
            have e1 : a'.tmps.getD 68 undef = .bool true := hdep 25 (by decide) (by kernel_rfl)
            have e1' : a'.tmps[68]?.getD undef = .bool true := by simpa using e1
            have HRk := hide hR
            clear hsz hR hw hdep hslot hL yu0 yu1 yv0 yv1
            unfold Oper.wp
            go_simp
            exact hK _ _ rfl (unhide HRk) (fun _ _ h => h)
          | 27, _ =>
            cases ho
            have e0 : a'.tmps.getD 69 undef = .bool true := hdep 26 (by decide) (by kernel_rfl)
            have e0' : a'.tmps[69]?.getD undef = .bool true := by simpa using e0
            have HRk := hide hR
            clear hsz hR hw hdep hslot hL yu0 yu1 yv0 yv1
            unfold Oper.wp
            go_simp
            exact hK _ _ rfl (unhide HRk) (fun _ _ h => h)
          | 28, _ =>
            cases ho
            have e0 : a'.tmps.getD 9 undef = .slice go M gcap := hslot 9 (by decide)
            have HRk := hide hR
            clear hsz hR hw hdep hslot hL yu0 yu1 yv0 yv1
            unfold Oper.wp
            go_simp
            exact hK _ _ rfl (unhide HRk) (fun _ _ h => h)
          | 29, _ =>
            cases ho
            have e0 : a'.tmps.getD 10 undef = .pointer (some ⟨Ub, 0, none⟩) := hslot 10 (by decide)
            have HRk := hide hR
            clear hsz hR hw hdep hslot hL yv0 yv1
            unfold Oper.wp
            go_simp
            exact hK _ _ rfl (unhide HRk) (fun _ _ h => h)
          | 30, _ =>
            cases ho
            have e0 : a'.tmps.getD 12 undef = .slice po np pc := hslot 12 (by decide)
            have HRk := hide hR
            clear hsz hR hw hdep hslot hL yu0 yu1 yv0 yv1
            unfold Oper.wp
            go_simp
            exact hK _ _ rfl (unhide HRk) (fun _ _ h => h)
          | 31, _ =>
            cases ho
            have e0 : a'.tmps.getD 71 undef = .slice go M gcap := hdep 28 (by decide) (by kernel_rfl)
            have e0' : a'.tmps[71]?.getD undef = .slice go M gcap := by simpa using e0
            have e1 : a'.tmps.getD 72 undef = .agg #[.string u.t, .string u.i] := hdep 29 (by decide) (by kernel_rfl)
            have e1' : a'.tmps[72]?.getD undef = .agg #[.string u.t, .string u.i] := by simpa using e1
            have e2 : a'.tmps.getD 73 undef = .slice po np pc := hdep 30 (by decide) (by kernel_rfl)
            have e2' : a'.tmps[73]?.getD undef = .slice po np pc := by simpa using e2
            have C := unhide CCI w' hR
            have HRk := hide hR
            clear hsz hR hw hdep hslot hL yu0 yu1 yv0 yv1
            unfold Oper.wp
            go_simp
            refine C.mono ?_
            rintro e w9 ⟨rfl, b9⟩
            exact hK _ _ rfl ((unhide HRk).trans (b9.mono (unhide HRk).size)) (SpW.up b9)
          | 32, _ =>
            cases ho
            have e0 : a'.tmps.getD 9 undef = .slice go M gcap := hslot 9 (by decide)
            have HRk := hide hR
            clear hsz hR hw hdep hslot hL yu0 yu1 yv0 yv1
            unfold Oper.wp
            go_simp
            exact hK _ _ rfl (unhide HRk) (fun _ _ h => h)
          | 33, _ =>
            cases ho
            have e0 : a'.tmps.getD 10 undef = .pointer (some ⟨Ub, 0, none⟩) := hslot 10 (by decide)
            have HRk := hide hR
            clear hsz hR hw hdep hslot hL yv0 yv1
            unfold Oper.wp
            go_simp
            exact hK _ _ rfl (unhide HRk) (fun _ _ h => h)
          | 34, _ =>
            cases ho
            have e0 : a'.tmps.getD 12 undef = .slice po np pc := hslot 12 (by decide)
            have HRk := hide hR
            clear hsz hR hw hdep hslot hL yu0 yu1 yv0 yv1
            unfold Oper.wp
            go_simp
            exact hK _ _ rfl (unhide HRk) (fun _ _ h => h)
          | 35, _ =>
            cases ho
            have e0 : a'.tmps.getD 75 undef = .slice go M gcap := hdep 32 (by decide) (by kernel_rfl)
            have e0' : a'.tmps[75]?.getD undef = .slice go M gcap := by simpa using e0
            have e1 : a'.tmps.getD 76 undef = .agg #[.string u.t, .string u.i] := hdep 33 (by decide) (by kernel_rfl)
            have e1' : a'.tmps[76]?.getD undef = .agg #[.string u.t, .string u.i] := by simpa using e1
            have e2 : a'.tmps.getD 77 undef = .slice po np pc := hdep 34 (by decide) (by kernel_rfl)
            have e2' : a'.tmps[77]?.getD undef = .slice po np pc := by simpa using e2
            have C := unhide CRC w' hR
            have HRk := hide hR
            clear hsz hR hw hdep hslot hL yu0 yu1 yv0 yv1
            unfold Oper.wp
            go_simp
            refine C.mono ?_
            rintro e w9 ⟨rfl, b9⟩
            exact hK _ _ rfl ((unhide HRk).trans (b9.mono (unhide HRk).size)) (SpW.up b9)
          | 36, _ =>
            cases ho
            have e0 : a'.tmps.getD 74 undef = .bool zc := hdep 31 (by decide) (by kernel_rfl)
            have e0' : a'.tmps[74]?.getD undef = .bool zc := by simpa using e0
            have e1 : a'.tmps.getD 78 undef = .bool zc := hdep 35 (by decide) (by kernel_rfl)
            have e1' : a'.tmps[78]?.getD undef = .bool zc := by simpa using e1
            have HRk := hide hR
            clear hsz hR hw hdep hslot hL yu0 yu1 yv0 yv1
            cases zc
            · unfold Oper.wp
              go_simp
              exact hK _ _ rfl (unhide HRk) (fun _ _ h => h)
            · unfold Oper.wp
              go_simp
              exact hK _ _ rfl (unhide HRk) (fun _ _ h => h)
          | 37, _ =>
            cases ho
            have e0 : a'.tmps.getD 70 undef = .bool true := hdep 27 (by decide) (by kernel_rfl)
            have e0' : a'.tmps[70]?.getD undef = .bool true := by simpa using e0
            have e1 : a'.tmps.getD 79 undef = .bool true := hdep 36 (by decide) (by kernel_rfl)
            have e1' : a'.tmps[79]?.getD undef = .bool true := by simpa using e1
            have HRk := hide hR
            clear hsz hR hw hdep hslot hL yu0 yu1 yv0 yv1
            unfold Oper.wp
            go_simp
            exact hK _ _ rfl (unhide HRk) (fun _ _ h => h)
          | 38, _ =>
            cases ho
            have e0 : a'.tmps.getD 80 undef = .bool true := hdep 37 (by decide) (by kernel_rfl)
            have e0' : a'.tmps[80]?.getD undef = .bool true := by simpa using e0
            have HRk := hide hR
            clear hsz hR hw hdep hslot hL yu0 yu1 yv0 yv1
            unfold Oper.wp
            go_simp
            exact hK _ _ rfl (unhide HRk) (fun _ _ h => h)
          | i + 39, h => exact absurd h (by omega)
        · intro i o hi' ho
          have h := (List.getElem?_eq_some_iff.1 ho).1
          simp only [List.length_cons, List.length_nil] at h
          omega
        · intro vv L wE hall hR hsp
          have bE := hR
          have sl : vv 38 = .bool true := hsp 38 (by decide)
          clear hR hall hsp
          simp only [putAll, dstOf, List.getElem?_cons_zero, List.getElem?_cons_succ, Option.bind_some, sl]
          clear sl
          simp only [Act.put, List.setIfInBounds_toArray, List.set_cons_succ, List.set_cons_zero]
          generalize vv 0 = v0
          generalize vv 1 = v1
          generalize vv 2 = v2
          generalize vv 3 = v3
          generalize vv 4 = v4
          generalize vv 5 = v5
          generalize vv 6 = v6
          generalize vv 7 = v7
          generalize vv 8 = v8
          generalize vv 9 = v9
          generalize vv 10 = v10
          generalize vv 11 = v11
          generalize vv 12 = v12
          generalize vv 13 = v13
          generalize vv 14 = v14
          generalize vv 15 = v15
          generalize vv 16 = v16
          generalize vv 17 = v17
          generalize vv 18 = v18
          generalize vv 19 = v19
          generalize vv 20 = v20
          generalize vv 21 = v21
          generalize vv 22 = v22
          generalize vv 23 = v23
          generalize vv 24 = v24
          generalize vv 25 = v25
          generalize vv 26 = v26
          generalize vv 27 = v27
          generalize vv 28 = v28
          generalize vv 29 = v29
          generalize vv 30 = v30
          generalize vv 31 = v31
          generalize vv 32 = v32
          generalize vv 33 = v33
          generalize vv 34 = v34
          generalize vv 35 = v35
          generalize vv 36 = v36
          generalize vv 37 = v37
          have HBE := hide ((unhide HB0).trans (((unhide HBr).trans (bE.mono (unhide HBr).size)).mono (unhide HB0).size))
          clear bE
          go_wp2
          go_ret
          exact ⟨rfl, unhide HBE⟩
    · have i1 : ¬ (j : Int) < (N : Int) := by omega
      clear hb hlj
      obtain ⟨po, pc, rfl, hrow⟩ := own_rowA (unhide HOW)
      have HROW := hide hrow
      have hUr := unhide HUU
      have hVr := unhide HVV
      have cu0 : wr.cell? ⟨Ub, 0, none⟩ = some (.string u.t) := by rw [Lib.cell_of_heap hUr]; rfl
      have cu1 : wr.cell? ⟨Ub, 1, none⟩ = some (.string u.i) := by rw [Lib.cell_of_heap hUr]; rfl
      have cv0 : wr.cell? ⟨Vb, 0, none⟩ = some (.string v.t) := by rw [Lib.cell_of_heap hVr]; rfl
      have cv1 : wr.cell? ⟨Vb, 1, none⟩ = some (.string v.i) := by rw [Lib.cell_of_heap hVr]; rfl
      have hUl : Ub < wr.heap.size := (Array.getElem?_eq_some_iff.1 hUr).1
      have hVl : Vb < wr.heap.size := (Array.getElem?_eq_some_iff.1 hVr).1
      have HGr := hide ((unhide HG).below (unhide HBr))
      obtain ⟨zc, hzc⟩ : ∃ zc : Bool, zc = true ↔ ∃ f ∈ L, Way (cutS (upS ps) u) f u := ⟨@decide _ (Classical.propDecidable _), @decide_eq_true_iff _ (Classical.propDecidable _)⟩
      have CIN := hide (fun (w' : World) (hb : Below wr.heap.size wr w') => show Calls Try.prog 8 #[.slice go M gcap, .agg #[.string u.t, .string u.i], .agg #[.string v.t, .string v.i]] w' (fun e w'' => e = .returned (.bool (f u v)) ∧ Below w'.heap.size w' w'') from by
        have h := ((unhide HGr).below hb).in9 (unhide HF) gcap u v
        rw [unhide HGM] at h
        exact h)
      have CRI := hide (fun (w' : World) (hb : Below wr.heap.size wr w') => by
        have h := ((unhide HGr).below hb).rin (unhide HF) gcap u v
        rw [unhide HGM] at h
        exact h)
      have CAB := hide (fun (w' : World) (hb : Below wr.heap.size wr w') => by
        have h := ((unhide HGr).below hb).abv (unhide HLa) gcap
        rw [unhide HGM] at h
        exact h)
      have CRA := hide (fun (w' : World) (hb : Below wr.heap.size wr w') => by
        have h := ((unhide HGr).below hb).rabv (unhide HLa) gcap
        rw [unhide HGM] at h
        exact h)
      have CBE := hide (fun (w' : World) (hb : Below wr.heap.size wr w') => by
        have h := ((unhide HGr).below hb).bel (unhide HF) gcap u
        rw [unhide HGM] at h
        exact h)
      have CRB := hide (fun (w' : World) (hb : Below wr.heap.size wr w') => by
        have h := ((unhide HGr).below hb).rbel (unhide HF) gcap u
        rw [unhide HGM] at h
        exact h)
      have hL4 : L.length ≤ 4 := by have := unhide HLJ; omega
      have CCI := hide (fun (w' : World) (hb : Below wr.heap.size wr w') => by
        have h := ((unhide HGr).below hb).cir (pc := pc) hzc (hrow.below hb) hL4 gcap
        rw [unhide HGM] at h
        exact h)
      have CRC := hide (fun (w' : World) (hb : Below wr.heap.size wr w') => by
        have h := ((unhide HGr).below hb).rcir (pc := pc) hzc (hrow.below hb) hL4 gcap
        rw [unhide HGM] at h
        exact h)
      generalize L.length = np at *
      generalize f u v = z at *
      have HLB := hide (show (belF f u gs).length ≤ 1000 from Nat.le_trans (belF_len f u gs) (by have := (unhide HG).len; omega))
      generalize belF f u gs = Lb at *
      clear hrow hzc hUr hVr HOW HUU HVV HLJ
      go_upto_region 10 with fail
      refine wp_specsH 39 (fun _ => true) (SpW [.eq (.slice go M gcap), .eq (.agg #[.string u.t, .string u.i]), .eq (.agg #[.string v.t, .string v.i]), .eq (.bool z), .eq (.slice go M gcap), .eq (.agg #[.string u.t, .string u.i]), .eq (.agg #[.string v.t, .string v.i]), .eq (.bool z), .eq (.bool true), .eq (.bool true), .eq (.slice go M gcap), .eq (.agg #[.string u.t, .string u.i]), .row (La), .eq (.slice go M gcap), .eq (.agg #[.string u.t, .string u.i]), .row (La), .eq (.bool true), .eq (.bool true), .eq (.bool true), .eq (.slice go M gcap), .eq (.agg #[.string u.t, .string u.i]), .row (Lb), .eq (.slice go M gcap), .eq (.agg #[.string u.t, .string u.i]), .row (Lb), .eq (.bool true), .eq (.bool true), .eq (.bool true), .eq (.slice go M gcap), .eq (.agg #[.string u.t, .string u.i]), .eq (.slice po np pc), .eq (.bool zc), .eq (.slice go M gcap), .eq (.agg #[.string u.t, .string u.i]), .eq (.slice po np pc), .eq (.bool zc), .eq (.bool true), .eq (.bool true), .eq (.bool true)]) (fun _ _ w' => Below wr.heap.size wr w') (by kernel_rfl) (by kernel_rfl) (by kernel_rfl) (Below.refl _ wr).drew ?_ ?_ ?_ ?_ ?_ ?_
      · intro i o ho a' w' hdep
        match i, ho with
        | 0, ho =>
          cases ho
          exact want_none rfl
        | 1, ho =>
          cases ho
          exact want_none rfl
        | 2, ho =>
          cases ho
          exact want_none rfl
        | 3, ho =>
          cases ho
          exact want_none rfl
        | 4, ho =>
          cases ho
          exact want_none rfl
        | 5, ho =>
          cases ho
          exact want_none rfl
        | 6, ho =>
          cases ho
          exact want_none rfl
        | 7, ho =>
          cases ho
          exact want_none rfl
        | 8, ho =>
          cases ho
          exact want_none rfl
        | 9, ho =>
          cases ho
          exact want_none rfl
        | 10, ho =>
          cases ho
          exact want_some rfl (by kernel_rfl) (show a'.tmps.getD 52 undef = .bool true from hdep 9 (by decide) (by kernel_rfl))
        | 11, ho =>
          cases ho
          exact want_some rfl (by kernel_rfl) (show a'.tmps.getD 52 undef = .bool true from hdep 9 (by decide) (by kernel_rfl))
        | 12, ho =>
          cases ho
          exact want_some rfl (by kernel_rfl) (show a'.tmps.getD 52 undef = .bool true from hdep 9 (by decide) (by kernel_rfl))
        | 13, ho =>
          cases ho
          exact want_some rfl (by kernel_rfl) (show a'.tmps.getD 52 undef = .bool true from hdep 9 (by decide) (by kernel_rfl))
        | 14, ho =>
          cases ho
          exact want_some rfl (by kernel_rfl) (show a'.tmps.getD 52 undef = .bool true from hdep 9 (by decide) (by kernel_rfl))
        | 15, ho =>
          cases ho
          exact want_some rfl (by kernel_rfl) (show a'.tmps.getD 52 undef = .bool true from hdep 9 (by decide) (by kernel_rfl))
        | 16, ho =>
          cases ho
          exact want_some rfl (by kernel_rfl) (show a'.tmps.getD 52 undef = .bool true from hdep 9 (by decide) (by kernel_rfl))
        | 17, ho =>
          cases ho
          exact want_none rfl
        | 18, ho =>
          cases ho
          exact want_none rfl
        | 19, ho =>
          cases ho
          exact want_some rfl (by kernel_rfl) (show a'.tmps.getD 61 undef = .bool true from hdep 18 (by decide) (by kernel_rfl))
        | 20, ho =>
          cases ho
          exact want_some rfl (by kernel_rfl) (show a'.tmps.getD 61 undef = .bool true from hdep 18 (by decide) (by kernel_rfl))
        | 21, ho =>
          cases ho
          exact want_some rfl (by kernel_rfl) (show a'.tmps.getD 61 undef = .bool true from hdep 18 (by decide) (by kernel_rfl))
        | 22, ho =>
          cases ho
          exact want_some rfl (by kernel_rfl) (show a'.tmps.getD 61 undef = .bool true from hdep 18 (by decide) (by kernel_rfl))
        | 23, ho =>
          cases ho
          exact want_some rfl (by kernel_rfl) (show a'.tmps.getD 61 undef = .bool true from hdep 18 (by decide) (by kernel_rfl))
        | 24, ho =>
          cases ho
          exact want_some rfl (by kernel_rfl) (show a'.tmps.getD 61 undef = .bool true from hdep 18 (by decide) (by kernel_rfl))
        | 25, ho =>
          cases ho
          exact want_some rfl (by kernel_rfl) (show a'.tmps.getD 61 undef = .bool true from hdep 18 (by decide) (by kernel_rfl))
        | 26, ho =>
          cases ho
          exact want_none rfl
        | 27, ho =>
          cases ho
          exact want_none rfl
        | 28, ho =>
          cases ho
          exact want_some rfl (by kernel_rfl) (show a'.tmps.getD 70 undef = .bool true from hdep 27 (by decide) (by kernel_rfl))
        | 29, ho =>
          cases ho
          exact want_some rfl (by kernel_rfl) (show a'.tmps.getD 70 undef = .bool true from hdep 27 (by decide) (by kernel_rfl))
        | 30, ho =>
          cases ho
          exact want_some rfl (by kernel_rfl) (show a'.tmps.getD 70 undef = .bool true from hdep 27 (by decide) (by kernel_rfl))
        | 31, ho =>
          cases ho
          exact want_some rfl (by kernel_rfl) (show a'.tmps.getD 70 undef = .bool true from hdep 27 (by decide) (by kernel_rfl))
        | 32, ho =>
          cases ho
          exact want_some rfl (by kernel_rfl) (show a'.tmps.getD 70 undef = .bool true from hdep 27 (by decide) (by kernel_rfl))
        | 33, ho =>
          cases ho
          exact want_some rfl (by kernel_rfl) (show a'.tmps.getD 70 undef = .bool true from hdep 27 (by decide) (by kernel_rfl))
        | 34, ho =>
          cases ho
          exact want_some rfl (by kernel_rfl) (show a'.tmps.getD 70 undef = .bool true from hdep 27 (by decide) (by kernel_rfl))
        | 35, ho =>
          cases ho
          exact want_some rfl (by kernel_rfl) (show a'.tmps.getD 70 undef = .bool true from hdep 27 (by decide) (by kernel_rfl))
        | 36, ho =>
          cases ho
          exact want_some rfl (by kernel_rfl) (show a'.tmps.getD 70 undef = .bool true from hdep 27 (by decide) (by kernel_rfl))
        | 37, ho =>
          cases ho
          exact want_none rfl
        | 38, ho =>
          cases ho
          exact want_none rfl
        | i + 39, ho => exact absurd (List.getElem?_eq_some_iff.1 ho).1 (by simp)
      · intro i o hi' ho hwf
        cases hwf
      · intro i hi
        rfl
      · intro i o hi' hwi ho L a' w' hL hw hR hdep hslot hsz K hK
        have yu0 : w'.cell? ⟨Ub, 0, none⟩ = some (.string u.t) := (hR.cell (p := ⟨Ub, 0, none⟩) hUl).trans cu0
        have yu1 : w'.cell? ⟨Ub, 1, none⟩ = some (.string u.i) := (hR.cell (p := ⟨Ub, 1, none⟩) hUl).trans cu1
        have yv0 : w'.cell? ⟨Vb, 0, none⟩ = some (.string v.t) := (hR.cell (p := ⟨Vb, 0, none⟩) hVl).trans cv0
        have yv1 : w'.cell? ⟨Vb, 1, none⟩ = some (.string v.i) := (hR.cell (p := ⟨Vb, 1, none⟩) hVl).trans cv1
        match i, hi' with
        | 0, _ =>
          cases ho
          have e0 : a'.tmps.getD 9 undef = .slice go M gcap := hslot 9 (by decide)
          have HRk := hide hR
          clear hsz hR hw hdep hslot hL yu0 yu1 yv0 yv1
          unfold Oper.wp
          go_simp
          exact hK _ _ rfl (unhide HRk) (fun _ _ h => h)
        | 1, _ =>
          cases ho
          have e0 : a'.tmps.getD 10 undef = .pointer (some ⟨Ub, 0, none⟩) := hslot 10 (by decide)
          have HRk := hide hR
          clear hsz hR hw hdep hslot hL yv0 yv1
          unfold Oper.wp
          go_simp
          exact hK _ _ rfl (unhide HRk) (fun _ _ h => h)
        | 2, _ =>
          cases ho
          have e0 : a'.tmps.getD 11 undef = .pointer (some ⟨Vb, 0, none⟩) := hslot 11 (by decide)
          have HRk := hide hR
          clear hsz hR hw hdep hslot hL yu0 yu1
          unfold Oper.wp
          go_simp
          exact hK _ _ rfl (unhide HRk) (fun _ _ h => h)
        | 3, _ =>
          cases ho
          have e0 : a'.tmps.getD 43 undef = .slice go M gcap := hdep 0 (by decide) (by kernel_rfl)
          have e0' : a'.tmps[43]?.getD undef = .slice go M gcap := by simpa using e0
          have e1 : a'.tmps.getD 44 undef = .agg #[.string u.t, .string u.i] := hdep 1 (by decide) (by kernel_rfl)
          have e1' : a'.tmps[44]?.getD undef = .agg #[.string u.t, .string u.i] := by simpa using e1
          have e2 : a'.tmps.getD 45 undef = .agg #[.string v.t, .string v.i] := hdep 2 (by decide) (by kernel_rfl)
          have e2' : a'.tmps[45]?.getD undef = .agg #[.string v.t, .string v.i] := by simpa using e2
          have C := unhide CIN w' hR
          have HRk := hide hR
          clear hsz hR hw hdep hslot hL yu0 yu1 yv0 yv1
          unfold Oper.wp
          go_simp
          refine C.mono ?_
          rintro e w9 ⟨rfl, b9⟩
          exact hK _ _ rfl ((unhide HRk).trans (b9.mono (unhide HRk).size)) (SpW.up b9)
        | 4, _ =>
          cases ho
          have e0 : a'.tmps.getD 9 undef = .slice go M gcap := hslot 9 (by decide)
          have HRk := hide hR
          clear hsz hR hw hdep hslot hL yu0 yu1 yv0 yv1
          unfold Oper.wp
          go_simp
          exact hK _ _ rfl (unhide HRk) (fun _ _ h => h)
        | 5, _ =>
          cases ho
          have e0 : a'.tmps.getD 10 undef = .pointer (some ⟨Ub, 0, none⟩) := hslot 10 (by decide)
          have HRk := hide hR
          clear hsz hR hw hdep hslot hL yv0 yv1
          unfold Oper.wp
          go_simp
          exact hK _ _ rfl (unhide HRk) (fun _ _ h => h)
        | 6, _ =>
          cases ho
          have e0 : a'.tmps.getD 11 undef = .pointer (some ⟨Vb, 0, none⟩) := hslot 11 (by decide)
          have HRk := hide hR
          clear hsz hR hw hdep hslot hL yu0 yu1
          unfold Oper.wp
          go_simp
          exact hK _ _ rfl (unhide HRk) (fun _ _ h => h)
        | 7, _ =>
          cases ho
          have e0 : a'.tmps.getD 47 undef = .slice go M gcap := hdep 4 (by decide) (by kernel_rfl)
          have e0' : a'.tmps[47]?.getD undef = .slice go M gcap := by simpa using e0
          have e1 : a'.tmps.getD 48 undef = .agg #[.string u.t, .string u.i] := hdep 5 (by decide) (by kernel_rfl)
          have e1' : a'.tmps[48]?.getD undef = .agg #[.string u.t, .string u.i] := by simpa using e1
          have e2 : a'.tmps.getD 49 undef = .agg #[.string v.t, .string v.i] := hdep 6 (by decide) (by kernel_rfl)
          have e2' : a'.tmps[49]?.getD undef = .agg #[.string v.t, .string v.i] := by simpa using e2
          have C := unhide CRI w' hR
          have HRk := hide hR
          clear hsz hR hw hdep hslot hL yu0 yu1 yv0 yv1
          unfold Oper.wp
          go_simp
          refine C.mono ?_
          rintro e w9 ⟨rfl, b9⟩
          exact hK _ _ rfl ((unhide HRk).trans (b9.mono (unhide HRk).size)) (SpW.up b9)
        | 8, _ =>
          cases ho
          have e0 : a'.tmps.getD 46 undef = .bool z := hdep 3 (by decide) (by kernel_rfl)
          have e0' : a'.tmps[46]?.getD undef = .bool z := by simpa using e0
          have e1 : a'.tmps.getD 50 undef = .bool z := hdep 7 (by decide) (by kernel_rfl)
          have e1' : a'.tmps[50]?.getD undef = .bool z := by simpa using e1
          have HRk := hide hR
          clear hsz hR hw hdep hslot hL yu0 yu1 yv0 yv1
          cases z
          · unfold Oper.wp
            go_simp
            exact hK _ _ rfl (unhide HRk) (fun _ _ h => h)
          · unfold Oper.wp
            go_simp
            exact hK _ _ rfl (unhide HRk) (fun _ _ h => h)
        | 9, _ =>
          cases ho
          have e0 : a'.tmps.getD 51 undef = .bool true := hdep 8 (by decide) (by kernel_rfl)
          have e0' : a'.tmps[51]?.getD undef = .bool true := by simpa using e0
          have HRk := hide hR
          clear hsz hR hw hdep hslot hL yu0 yu1 yv0 yv1
          unfold Oper.wp
          go_simp
          exact hK _ _ rfl (unhide HRk) (fun _ _ h => h)
        | 10, _ =>
          cases ho
          have e0 : a'.tmps.getD 9 undef = .slice go M gcap := hslot 9 (by decide)
          have HRk := hide hR
          clear hsz hR hw hdep hslot hL yu0 yu1 yv0 yv1
          unfold Oper.wp
          go_simp
          exact hK _ _ rfl (unhide HRk) (fun _ _ h => h)
        | 11, _ =>
          cases ho
          have e0 : a'.tmps.getD 10 undef = .pointer (some ⟨Ub, 0, none⟩) := hslot 10 (by decide)
          have HRk := hide hR
          clear hsz hR hw hdep hslot hL yv0 yv1
          unfold Oper.wp
          go_simp
          exact hK _ _ rfl (unhide HRk) (fun _ _ h => h)
        | 12, _ =>
          cases ho
          have e0 : a'.tmps.getD 53 undef = .slice go M gcap := hdep 10 (by decide) (by kernel_rfl)
          have e0' : a'.tmps[53]?.getD undef = .slice go M gcap := by simpa using e0
          have e1 : a'.tmps.getD 54 undef = .agg #[.string u.t, .string u.i] := hdep 11 (by decide) (by kernel_rfl)
          have e1' : a'.tmps[54]?.getD undef = .agg #[.string u.t, .string u.i] := by simpa using e1
          have C := unhide CAB w' hR
          have HRk := hide hR
          clear hsz hR hw hdep hslot hL yu0 yu1 yv0 yv1
          unfold Oper.wp
          go_simp
          refine C.mono ?_
          rintro e w9 ⟨b9, ao9, c9, rfl, hr9⟩
          exact hK _ _ ⟨ao9, c9, rfl, hr9⟩ ((unhide HRk).trans (b9.mono (unhide HRk).size)) (SpW.up b9)
        | 13, _ =>
          cases ho
          have e0 : a'.tmps.getD 9 undef = .slice go M gcap := hslot 9 (by decide)
          have HRk := hide hR
          clear hsz hR hw hdep hslot hL yu0 yu1 yv0 yv1
          unfold Oper.wp
          go_simp
          exact hK _ _ rfl (unhide HRk) (fun _ _ h => h)
        | 14, _ =>
          cases ho
          have e0 : a'.tmps.getD 10 undef = .pointer (some ⟨Ub, 0, none⟩) := hslot 10 (by decide)
          have HRk := hide hR
          clear hsz hR hw hdep hslot hL yv0 yv1
          unfold Oper.wp
          go_simp
          exact hK _ _ rfl (unhide HRk) (fun _ _ h => h)
        | 15, _ =>
          cases ho
          have e0 : a'.tmps.getD 56 undef = .slice go M gcap := hdep 13 (by decide) (by kernel_rfl)
          have e0' : a'.tmps[56]?.getD undef = .slice go M gcap := by simpa using e0
          have e1 : a'.tmps.getD 57 undef = .agg #[.string u.t, .string u.i] := hdep 14 (by decide) (by kernel_rfl)
          have e1' : a'.tmps[57]?.getD undef = .agg #[.string u.t, .string u.i] := by simpa using e1
          have C := unhide CRA w' hR
          have HRk := hide hR
          clear hsz hR hw hdep hslot hL yu0 yu1 yv0 yv1
          unfold Oper.wp
          go_simp
          refine C.mono ?_
          rintro e w9 ⟨b9, ao9, c9, rfl, hr9⟩
          exact hK _ _ ⟨ao9, c9, rfl, hr9⟩ ((unhide HRk).trans (b9.mono (unhide HRk).size)) (SpW.up b9)
        | 16, _ =>
          cases ho
          obtain ⟨ao0, c0, e0, hr0⟩ : (.row (La) : Sw).sp (a'.tmps.getD 55 undef) w' := hdep 12 (by decide) (by kernel_rfl)
          have e0' : a'.tmps[55]?.getD undef = .slice ao0 (La).length c0 := by simpa using e0
          have Hr0 := hide hr0
          obtain ⟨ao1, c1, e1, hr1⟩ : (.row (La) : Sw).sp (a'.tmps.getD 58 undef) w' := hdep 15 (by decide) (by kernel_rfl)
          have e1' : a'.tmps[58]?.getD undef = .slice ao1 (La).length c1 := by simpa using e1
          have Hr1 := hide hr1
          have C := same9_eq La ao0 ao1 c0 c1 w' (unhide HLA) hr0 hr1
          have HRk := hide hR
          clear hsz hR hw hdep hslot hL hr0 hr1 yu0 yu1 yv0 yv1
          unfold Oper.wp
          go_simp
          refine C.mono ?_
          rintro e w9 ⟨rfl, b9⟩
          exact hK _ _ rfl ((unhide HRk).trans (b9.mono (unhide HRk).size)) (SpW.up b9)
        | 17, _ =>
          cases ho
          have e0 : a'.tmps.getD 52 undef = .bool true := hdep 9 (by decide) (by kernel_rfl)
          have e0' : a'.tmps[52]?.getD undef = .bool true := by simpa using e0
          have e1 : a'.tmps.getD 59 undef = .bool true := hdep 16 (by decide) (by kernel_rfl)
          have e1' : a'.tmps[59]?.getD undef = .bool true := by simpa using e1
          have HRk := hide hR
          clear hsz hR hw hdep hslot hL yu0 yu1 yv0 yv1
          unfold Oper.wp
          go_simp
          exact hK _ _ rfl (unhide HRk) (fun _ _ h => h)
        | 18, _ =>
          cases ho
          have e0 : a'.tmps.getD 60 undef = .bool true := hdep 17 (by decide) (by kernel_rfl)
          have e0' : a'.tmps[60]?.getD undef = .bool true := by simpa using e0
          have HRk := hide hR
          clear hsz hR hw hdep hslot hL yu0 yu1 yv0 yv1
          unfold Oper.wp
          go_simp
          exact hK _ _ rfl (unhide HRk) (fun _ _ h => h)
        | 19, _ =>
          cases ho
          have e0 : a'.tmps.getD 9 undef = .slice go M gcap := hslot 9 (by decide)
          have HRk := hide hR
          clear hsz hR hw hdep hslot hL yu0 yu1 yv0 yv1
          unfold Oper.wp
          go_simp
          exact hK _ _ rfl (unhide HRk) (fun _ _ h => h)
        | 20, _ =>
          cases ho
          have e0 : a'.tmps.getD 10 undef = .pointer (some ⟨Ub, 0, none⟩) := hslot 10 (by decide)
          have HRk := hide hR
          clear hsz hR hw hdep hslot hL yv0 yv1
          unfold Oper.wp
          go_simp
          exact hK _ _ rfl (unhide HRk) (fun _ _ h => h)
        | 21, _ =>
          cases ho
          have e0 : a'.tmps.getD 62 undef = .slice go M gcap := hdep 19 (by decide) (by kernel_rfl)
          have e0' : a'.tmps[62]?.getD undef = .slice go M gcap := by simpa using e0
          have e1 : a'.tmps.getD 63 undef = .agg #[.string u.t, .string u.i] := hdep 20 (by decide) (by kernel_rfl)
          have e1' : a'.tmps[63]?.getD undef = .agg #[.string u.t, .string u.i] := by simpa using e1
          have C := unhide CBE w' hR
          have HRk := hide hR
          clear hsz hR hw hdep hslot hL yu0 yu1 yv0 yv1
          unfold Oper.wp
          go_simp
          refine C.mono ?_
          rintro e w9 ⟨b9, ao9, c9, rfl, hr9⟩
          exact hK _ _ ⟨ao9, c9, rfl, hr9⟩ ((unhide HRk).trans (b9.mono (unhide HRk).size)) (SpW.up b9)
        | 22, _ =>
          cases ho
          have e0 : a'.tmps.getD 9 undef = .slice go M gcap := hslot 9 (by decide)
          have HRk := hide hR
          clear hsz hR hw hdep hslot hL yu0 yu1 yv0 yv1
          unfold Oper.wp
          go_simp
          exact hK _ _ rfl (unhide HRk) (fun _ _ h => h)
        | 23, _ =>
          cases ho
          have e0 : a'.tmps.getD 10 undef = .pointer (some ⟨Ub, 0, none⟩) := hslot 10 (by decide)
          have HRk := hide hR
          clear hsz hR hw hdep hslot hL yv0 yv1
          unfold Oper.wp
          go_simp
          exact hK _ _ rfl (unhide HRk) (fun _ _ h => h)
        | 24, _ =>
          cases ho
          have e0 : a'.tmps.getD 65 undef = .slice go M gcap := hdep 22 (by decide) (by kernel_rfl)
          have e0' : a'.tmps[65]?.getD undef = .slice go M gcap := by simpa using e0
          have e1 : a'.tmps.getD 66 undef = .agg #[.string u.t, .string u.i] := hdep 23 (by decide) (by kernel_rfl)
          have e1' : a'.tmps[66]?.getD undef = .agg #[.string u.t, .string u.i] := by simpa using e1
          have C := unhide CRB w' hR
          have HRk := hide hR
          clear hsz hR hw hdep hslot hL yu0 yu1 yv0 yv1
          unfold Oper.wp
          go_simp
          refine C.mono ?_
          rintro e w9 ⟨b9, ao9, c9, rfl, hr9⟩
          exact hK _ _ ⟨ao9, c9, rfl, hr9⟩ ((unhide HRk).trans (b9.mono (unhide HRk).size)) (SpW.up b9)
        | 25, _ =>
          cases ho
          obtain ⟨ao0, c0, e0, hr0⟩ : (.row (Lb) : Sw).sp (a'.tmps.getD 64 undef) w' := hdep 21 (by decide) (by kernel_rfl)
          have e0' : a'.tmps[64]?.getD undef = .slice ao0 (Lb).length c0 := by simpa using e0
          have Hr0 := hide hr0
          obtain ⟨ao1, c1, e1, hr1⟩ : (.row (Lb) : Sw).sp (a'.tmps.getD 67 undef) w' := hdep 24 (by decide) (by kernel_rfl)
          have e1' : a'.tmps[67]?.getD undef = .slice ao1 (Lb).length c1 := by simpa using e1
          have Hr1 := hide hr1
          have C := same9_eq Lb ao0 ao1 c0 c1 w' (unhide HLB) hr0 hr1
          have HRk := hide hR
          clear hsz hR hw hdep hslot hL hr0 hr1 yu0 yu1 yv0 yv1
          unfold Oper.wp
          go_simp
          refine C.mono ?_
          rintro e w9 ⟨rfl, b9⟩
          exact hK _ _ rfl ((unhide HRk).trans (b9.mono (unhide HRk).size)) (SpW.up b9)
        | 26, _ =>
          cases ho
          have e0 : a'.tmps.getD 61 undef = .bool true := hdep 18 (by decide) (by kernel_rfl)
          have e0' : a'.tmps[61]?.getD undef = .bool true := by simpa using e0
          have e1 : a'.tmps.getD 68 undef = .bool true := hdep 25 (by decide) (by kernel_rfl)
          have e1' : a'.tmps[68]?.getD undef = .bool true := by simpa using e1
          have HRk := hide hR
          clear hsz hR hw hdep hslot hL yu0 yu1 yv0 yv1
          unfold Oper.wp
          go_simp
          exact hK _ _ rfl (unhide HRk) (fun _ _ h => h)
        | 27, _ =>
          cases ho
          have e0 : a'.tmps.getD 69 undef = .bool true := hdep 26 (by decide) (by kernel_rfl)
          have e0' : a'.tmps[69]?.getD undef = .bool true := by simpa using e0
          have HRk := hide hR
          clear hsz hR hw hdep hslot hL yu0 yu1 yv0 yv1
          unfold Oper.wp
          go_simp
          exact hK _ _ rfl (unhide HRk) (fun _ _ h => h)
        | 28, _ =>
          cases ho
          have e0 : a'.tmps.getD 9 undef = .slice go M gcap := hslot 9 (by decide)
          have HRk := hide hR
          clear hsz hR hw hdep hslot hL yu0 yu1 yv0 yv1
          unfold Oper.wp
          go_simp
          exact hK _ _ rfl (unhide HRk) (fun _ _ h => h)
        | 29, _ =>
          cases ho
          have e0 : a'.tmps.getD 10 undef = .pointer (some ⟨Ub, 0, none⟩) := hslot 10 (by decide)
          have HRk := hide hR
          clear hsz hR hw hdep hslot hL yv0 yv1
          unfold Oper.wp
          go_simp
          exact hK _ _ rfl (unhide HRk) (fun _ _ h => h)
        | 30, _ =>
          cases ho
          have e0 : a'.tmps.getD 12 undef = .slice po np pc := hslot 12 (by decide)
          have HRk := hide hR
          clear hsz hR hw hdep hslot hL yu0 yu1 yv0 yv1
          unfold Oper.wp
          go_simp
          exact hK _ _ rfl (unhide HRk) (fun _ _ h => h)
        | 31, _ =>
          cases ho
          have e0 : a'.tmps.getD 71 undef = .slice go M gcap := hdep 28 (by decide) (by kernel_rfl)
          have e0' : a'.tmps[71]?.getD undef = .slice go M gcap := by simpa using e0
          have e1 : a'.tmps.getD 72 undef = .agg #[.string u.t, .string u.i] := hdep 29 (by decide) (by kernel_rfl)
          have e1' : a'.tmps[72]?.getD undef = .agg #[.string u.t, .string u.i] := by simpa using e1
          have e2 : a'.tmps.getD 73 undef = .slice po np pc := hdep 30 (by decide) (by kernel_rfl)
          have e2' : a'.tmps[73]?.getD undef = .slice po np pc := by simpa using e2
          have C := unhide CCI w' hR
          have HRk := hide hR
          clear hsz hR hw hdep hslot hL yu0 yu1 yv0 yv1
          unfold Oper.wp
          go_simp
          refine C.mono ?_
          rintro e w9 ⟨rfl, b9⟩
          exact hK _ _ rfl ((unhide HRk).trans (b9.mono (unhide HRk).size)) (SpW.up b9)
        | 32, _ =>
          cases ho
          have e0 : a'.tmps.getD 9 undef = .slice go M gcap := hslot 9 (by decide)
          have HRk := hide hR
          clear hsz hR hw hdep hslot hL yu0 yu1 yv0 yv1
          unfold Oper.wp
          go_simp
          exact hK _ _ rfl (unhide HRk) (fun _ _ h => h)
        | 33, _ =>
          cases ho
          have e0 : a'.tmps.getD 10 undef = .pointer (some ⟨Ub, 0, none⟩) := hslot 10 (by decide)
          have HRk := hide hR
          clear hsz hR hw hdep hslot hL yv0 yv1
          unfold Oper.wp
          go_simp
          exact hK _ _ rfl (unhide HRk) (fun _ _ h => h)
        | 34, _ =>
          cases ho
          have e0 : a'.tmps.getD 12 undef = .slice po np pc := hslot 12 (by decide)
          have HRk := hide hR
          clear hsz hR hw hdep hslot hL yu0 yu1 yv0 yv1
          unfold Oper.wp
          go_simp
          exact hK _ _ rfl (unhide HRk) (fun _ _ h => h)
        | 35, _ =>
          cases ho
          have e0 : a'.tmps.getD 75 undef = .slice go M gcap := hdep 32 (by decide) (by kernel_rfl)
          have e0' : a'.tmps[75]?.getD undef = .slice go M gcap := by simpa using e0
          have e1 : a'.tmps.getD 76 undef = .agg #[.string u.t, .string u.i] := hdep 33 (by decide) (by kernel_rfl)
          have e1' : a'.tmps[76]?.getD undef = .agg #[.string u.t, .string u.i] := by simpa using e1
          have e2 : a'.tmps.getD 77 undef = .slice po np pc := hdep 34 (by decide) (by kernel_rfl)
          have e2' : a'.tmps[77]?.getD undef = .slice po np pc := by simpa using e2
          have C := unhide CRC w' hR
          have HRk := hide hR
          clear hsz hR hw hdep hslot hL yu0 yu1 yv0 yv1
          unfold Oper.wp
          go_simp
          refine C.mono ?_
          rintro e w9 ⟨rfl, b9⟩
          exact hK _ _ rfl ((unhide HRk).trans (b9.mono (unhide HRk).size)) (SpW.up b9)
        | 36, _ =>
          cases ho
          have e0 : a'.tmps.getD 74 undef = .bool zc := hdep 31 (by decide) (by kernel_rfl)
          have e0' : a'.tmps[74]?.getD undef = .bool zc := by simpa using e0
          have e1 : a'.tmps.getD 78 undef = .bool zc := hdep 35 (by decide) (by kernel_rfl)
          have e1' : a'.tmps[78]?.getD undef = .bool zc := by simpa using e1
          have HRk := hide hR
          clear hsz hR hw hdep hslot hL yu0 yu1 yv0 yv1
          cases zc
          · unfold Oper.wp
            go_simp
            exact hK _ _ rfl (unhide HRk) (fun _ _ h => h)
          · unfold Oper.wp
            go_simp
            exact hK _ _ rfl (unhide HRk) (fun _ _ h => h)
        | 37, _ =>
          cases ho
          have e0 : a'.tmps.getD 70 undef = .bool true := hdep 27 (by decide) (by kernel_rfl)
          have e0' : a'.tmps[70]?.getD undef = .bool true := by simpa using e0
          have e1 : a'.tmps.getD 79 undef = .bool true := hdep 36 (by decide) (by kernel_rfl)
          have e1' : a'.tmps[79]?.getD undef = .bool true := by simpa using e1
          have HRk := hide hR
          clear hsz hR hw hdep hslot hL yu0 yu1 yv0 yv1
          unfold Oper.wp
          go_simp
          exact hK _ _ rfl (unhide HRk) (fun _ _ h => h)
        | 38, _ =>
          cases ho
          have e0 : a'.tmps.getD 80 undef = .bool true := hdep 37 (by decide) (by kernel_rfl)
          have e0' : a'.tmps[80]?.getD undef = .bool true := by simpa using e0
          have HRk := hide hR
          clear hsz hR hw hdep hslot hL yu0 yu1 yv0 yv1
          unfold Oper.wp
          go_simp
          exact hK _ _ rfl (unhide HRk) (fun _ _ h => h)
        | i + 39, h => exact absurd h (by omega)
      · intro i o hi' ho
        have h := (List.getElem?_eq_some_iff.1 ho).1
        simp only [List.length_cons, List.length_nil] at h
        omega
      · intro vv L wE hall hR hsp
        have bE := hR
        have sl : vv 38 = .bool true := hsp 38 (by decide)
        clear hR hall hsp
        simp only [putAll, dstOf, List.getElem?_cons_zero, List.getElem?_cons_succ, Option.bind_some, sl]
        clear sl
        simp only [Act.put, List.setIfInBounds_toArray, List.set_cons_succ, List.set_cons_zero]
        generalize vv 0 = v0
        generalize vv 1 = v1
        generalize vv 2 = v2
        generalize vv 3 = v3
        generalize vv 4 = v4
        generalize vv 5 = v5
        generalize vv 6 = v6
        generalize vv 7 = v7
        generalize vv 8 = v8
        generalize vv 9 = v9
        generalize vv 10 = v10
        generalize vv 11 = v11
        generalize vv 12 = v12
        generalize vv 13 = v13
        generalize vv 14 = v14
        generalize vv 15 = v15
        generalize vv 16 = v16
        generalize vv 17 = v17
        generalize vv 18 = v18
        generalize vv 19 = v19
        generalize vv 20 = v20
        generalize vv 21 = v21
        generalize vv 22 = v22
        generalize vv 23 = v23
        generalize vv 24 = v24
        generalize vv 25 = v25
        generalize vv 26 = v26
        generalize vv 27 = v27
        generalize vv 28 = v28
        generalize vv 29 = v29
        generalize vv 30 = v30
        generalize vv 31 = v31
        generalize vv 32 = v32
        generalize vv 33 = v33
        generalize vv 34 = v34
        generalize vv 35 = v35
        generalize vv 36 = v36
        generalize vv 37 = v37
        have HBE := hide ((unhide HB0).trans (((unhide HBr).trans (bE.mono (unhide HBr).size)).mono (unhide HB0).size))
        clear bE
        go_wp2
        go_ret
        exact ⟨rfl, unhide HBE⟩
end Go.Proofs.Ythmmplmppchfmaa
