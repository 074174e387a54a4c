/-
  chancellaw9.AboveCircles: the walk.
-/
import Derived.Test.YtfnfdpkndkcmbaaAcPU
import Derived.Test.YtfnfdpkndkcmbaaGdG
import Derived.Test.YtfnfdpkndkcmbaaGdAE
import Derived.Test.YtfnfdpkndkcmbaaMqKW
import Derived.Test.YtfnfdpkndkcmbaaMpHL
namespace Go.Proofs.Ytfnfdpkndkcmbaa
open Go.RowKit Go.Sort

set_option maxHeartbeats 16000000 in
set_option maxRecDepth 1000000 in
theorem acirc_walk (lo : Option Addr) (rs : List EntR) (lc : Nat) (n : Int) (so : Option Addr) (xs : List Int) (sc : Nat) (w : World) (hl : rs.length ≤ 9223372036854775807) (hr : RowEnt w lo rs) (hz : IntsAt w so xs) :
    Calls Try.prog 3 #[.slice lo rs.length lc, .int .i64 n, .slice so xs.length sc] w fun e w' => e = .returned (.bool true) ∧ Below w.heap.size w w' := by
  obtain ⟨i0, hi, hz0, hz1, hz2⟩ := info_parts infoUidM
  have C0 := known9_any w
  have HR := hide hr
  have HZ := hide hz
  have HL := hide hl
  obtain ⟨N, hN⟩ : ∃ N, N = xs.length := ⟨_, rfl⟩
  rw [← hN]
  have HN := hide hN
  obtain ⟨nr, hnr⟩ : ∃ nr, nr = rs.length := ⟨_, rfl⟩
  have HNR := hide hnr
  rw [← hnr]
  clear hr hz hl hN hnr
  go_enter Try.func3, Try.ntmps3
  go_wp2_with fail
  refine C0.mono ?_
  clear C0
  rintro e w1 ⟨rfl, b1⟩
  have G := good8_any lo rs lc w1 (unhide HL) ((unhide HR).below b1)
  rw [← unhide HNR] at G
  go_wp2_with fail
  refine G.mono ?_
  clear G
  rintro _ w7 ⟨b17, go, gcap, gs, rfl, hgr, hgA, _, _⟩
  have HB0 := hide (b1.trans (b17.mono b1.size))
  have HRI := hide (goodsL_rising rs)
  have HG := hide (show G9 w7 go gs (goodsL rs) from ⟨hgr, hgA, gl_goods rs⟩)
  clear hgr hgA
  generalize goodsL rs = ps at *
  have HPK0 := hide (fun (m : Int) (w' : World) (hb : Below w7.heap.size w7 w') => pick9_any gs ps go gcap m w' ((unhide HG).below hb))
  have C := unhide HPK0 n w7 (Below.refl _ _)
  obtain ⟨u, hu⟩ : ∃ u, u = pickP ps n := ⟨_, rfl⟩
  rw [← hu] at C
  clear hu
  obtain ⟨M, hM⟩ : ∃ M, M = gs.length := ⟨_, rfl⟩
  rw [← hM] at C ⊢
  have HGM := hide hM.symm
  clear hM
  go_wp2_with fail
  refine C.mono ?_
  clear C
  rintro e w8 ⟨rfl, b8⟩
  obtain ⟨b89, h8, h9⟩ := ac2 w8 (.cells #[.string u.t, .string u.i] 28) (.cells (entC u (.slice none 0 0)) 33)
  unfold entC at h8 h9 b89
  have HZ7 := hide ((unhide HZ).below (unhide HB0))
  go_upto_region 6 with fail
  generalize (w8.alloc _).alloc _ = w9 at *
  obtain ⟨U, hU⟩ : ∃ U, U = w8.heap.size := ⟨_, rfl⟩
  obtain ⟨P, hP⟩ : ∃ P, P = U + 1 := ⟨_, rfl⟩
  rw [← hU, ← hP] at h9 ⊢
  rw [← hU] at h8
  have hwU : w7.heap.size ≤ U := by rw [hU]; exact b8.size
  have hwP : w7.heap.size ≤ P := by omega
  have HPU := hide hP
  have B79 := b8.trans (b89.mono b8.size)
  clear hP hU b8 b89 b1 b17
  go_wp2
  go_loopw [10] (fun iv wr => ∃ (L : List U2) (pv : Value) (j : Nat), iv = .int .i64 j ∧ j ≤ N ∧ j ≤ 4 ∧ L.length = j ∧ Below w7.heap.size w7 wr ∧ wr.heap[U]? = some (.cells #[.string u.t, .string u.i] 28 (0, 0)) ∧ wr.heap[P]? = some (.cells (entC u pv) 33 (0, 0)) ∧ wr.ownsRow (P + 1) 28 2 pv L.length (L.map U2.cells).flatten) (fun iv _ => 4 - (intOf iv).toNat)
  case atStart => exact ⟨[], .slice none 0 0, 0, by go_num, Nat.zero_le _, Nat.zero_le _, rfl, B79, h8, h9, World.ownsRow_nil _ _ _ _⟩
  case round =>
    obtain ⟨L, pv, j, rfl, hjN, hj4, hlj, hb, hUU, hPC, how⟩ := hrel
    have HB := hide hb
    have HUU := hide hUU
    have HPC := hide hPC
    have HOW := hide how
    have HLJ := hide hlj
    have HLL := hide (show L.length ≤ 4 by omega)
    have hPl : P < wr.heap.size := (Array.getElem?_eq_some_iff.1 hPC).1
    have hUl : U < wr.heap.size := (Array.getElem?_eq_some_iff.1 hUU).1
    clear hb hUU hPC how B79 h8 h9
    have j0 : (0 : Int) ≤ (j : Int) := by omega
    by_cases hlt : j < N
    · have i1 : (j : Int) < (N : Int) := by omega
      by_cases h4 : j < 4
      · have i4 : (j : Int) < 4 := by omega
        obtain ⟨sb, soff, rfl, hsb, cj⟩ := unhide HZ7 j (by rw [← unhide HN]; exact hlt)
        obtain ⟨nj, hnj⟩ : ∃ nj, nj = xs[j]'(by rw [← unhide HN]; exact hlt) := ⟨_, rfl⟩
        rw [← hnj] at cj
        clear hnj
        have HPK := hide (fun (w' : World) (hb : Below w7.heap.size w7 w') => unhide HPK0 nj w' hb)
        obtain ⟨x, hx⟩ : ∃ x, x = pickP ps nj := ⟨_, rfl⟩
        rw [← hx, unhide HGM] at HPK
        clear hx hlj
        go_upto_region 9 with fail
        refine wp_specsB 11 (auSp P wr.heap.size pv (.slice go M gcap) (.slice (some ⟨sb, soff, none⟩) N sc) j (.pointer (some ⟨sb, soff + j, none⟩)) nj x) (RcU w7 wr P (P + 1) u pv x L) (by kernel_rfl) (by kernel_rfl) (by kernel_rfl) (RcU.start (unhide HB) (unhide HPC) _) ?_ ?_ ?_
        · intro i o hi' ho Lb a' w' hL hw hR hdep hslot hsz K hK
          match i, hi' with
          | 0, _ =>
            cases ho
            have e3 : a'.tmps.getD 9 undef = .pointer (some ⟨P, 0, none⟩) := hslot 9 (by decide)
            unfold Oper.wp
            go_simp
            exact hK _ _ rfl (hR.grow hPl 0 34 _ (by decide) (by decide) (by decide) (Below.refl _ _)) (fun _ _ h => h)
          | 1, _ =>
            cases ho
            have e0 : a'.tmps.getD 34 undef = .pointer (some ⟨P, 2, none⟩) := hdep 0 (by decide) (by kernel_rfl)
            have h7 : Lb 11 = false := by
              cases e : Lb 11 with
              | false => rfl
              | true => rw [hR.ord e 1 (by decide)] at hL; cases hL
            have hp := hR.pol h7
            have x10 : w'.cell? ⟨P, 2, none⟩ = some pv := by rw [Lib.cell_of_heap hp]; rfl
            unfold Oper.wp
            go_simp
            exact hK _ _ rfl (hR.grow hPl 1 35 _ (by decide) (by decide) (by decide) (Below.refl _ _)) (fun _ _ h => h)
          | 2, _ =>
            cases ho
            have e7 : a'.tmps.getD 7 undef = .slice go M gcap := hslot 7 (by decide)
            unfold Oper.wp
            go_simp
            exact hK _ _ rfl (hR.grow hPl 2 36 _ (by decide) (by decide) (by decide) (Below.refl _ _)) (fun _ _ h => h)
          | 3, _ =>
            cases ho
            have e7 : a'.tmps.getD 2 undef = .slice (some ⟨sb, soff, none⟩) N sc := hslot 2 (by decide)
            unfold Oper.wp
            go_simp
            exact hK _ _ rfl (hR.grow hPl 3 37 _ (by decide) (by decide) (by decide) (Below.refl _ _)) (fun _ _ h => h)
          | 4, _ =>
            cases ho
            have e7 : a'.tmps.getD 10 undef = .int .i64 (j : Nat) := hslot 10 (by decide)
            unfold Oper.wp
            go_simp
            exact hK _ _ rfl (hR.grow hPl 4 38 _ (by decide) (by decide) (by decide) (Below.refl _ _)) (fun _ _ h => h)
          | 5, _ =>
            cases ho
            have e3 : a'.tmps.getD 37 undef = .slice (some ⟨sb, soff, none⟩) N sc := hdep 3 (by decide) (by kernel_rfl)
            have e3' : a'.tmps[37]?.getD undef = .slice (some ⟨sb, soff, none⟩) N sc := by simpa using e3
            have e4 : a'.tmps.getD 38 undef = .int .i64 (j : Nat) := hdep 4 (by decide) (by kernel_rfl)
            have e4' : a'.tmps[38]?.getD undef = .int .i64 (j : Nat) := by simpa using e4
            unfold Oper.wp
            go_simp
            exact hK _ _ rfl (hR.grow hPl 5 39 _ (by decide) (by decide) (by decide) (Below.refl _ _)) (fun _ _ h => h)
          | 6, _ =>
            cases ho
            have e5 : a'.tmps.getD 39 undef = .pointer (some ⟨sb, soff + j, none⟩) := hdep 5 (by decide) (by kernel_rfl)
            have e5' : a'.tmps[39]?.getD undef = .pointer (some ⟨sb, soff + j, none⟩) := by simpa using e5
            have yj : w'.cell? ⟨sb, soff + j, none⟩ = some (.int .i64 nj) := (hR.bel.cell (p := ⟨sb, soff + j, none⟩) hsb).trans cj
            unfold Oper.wp
            go_simp
            exact hK _ _ rfl (hR.grow hPl 6 40 _ (by decide) (by decide) (by decide) (Below.refl _ _)) (fun _ _ h => h)
          | 7, _ =>
            cases ho
            have e2 : a'.tmps.getD 36 undef = .slice go M gcap := hdep 2 (by decide) (by kernel_rfl)
            have e2' : a'.tmps[36]?.getD undef = .slice go M gcap := by simpa using e2
            have e6 : a'.tmps.getD 40 undef = .int .i64 nj := hdep 6 (by decide) (by kernel_rfl)
            have e6' : a'.tmps[40]?.getD undef = .int .i64 nj := by simpa using e6
            have C := unhide HPK w' hR.bel
            unfold Oper.wp
            go_simp
            refine C.mono ?_
            rintro e w9 ⟨rfl, b9⟩
            exact hK _ _ rfl (hR.grow hPl 7 41 _ (by decide) (by decide) (by decide) b9) (fun j u h => auSp_up (fun b _ hl => b9.block b hl) j u h)
          | 8, _ =>
            cases ho
            have e0 : a'.tmps.getD 41 undef = .agg #[.string x.t, .string x.i] := hdep 7 (by decide) (by kernel_rfl)
            have e0' : a'.tmps[41]?.getD undef = .agg #[.string x.t, .string x.i] := by simpa using e0
            have b4 := ac1 w' (.cells #[.string x.t, .string x.i] 28)
            have HS := hide (alloc_heap w' (.cells #[.string x.t, .string x.i] 28))
            have HRR := hide hR
            clear hsz hR
            unfold Oper.wp
            go_simp
            exact hK _ _ ⟨w'.heap.size, (unhide HRR).size, unhide HS, rfl⟩ ((unhide HRR).grow hPl 8 42 _ (by decide) (by decide) (by decide) b4) (fun j u h => auSp_up (fun b _ hl => b4.block b hl) j u h)
          | 9, _ =>
            cases ho
            have e1 : a'.tmps.getD 35 undef = pv := hdep 1 (by decide) (by kernel_rfl)
            obtain ⟨g, hg0, hg, e4⟩ : auSp P wr.heap.size pv (.slice go M gcap) (.slice (some ⟨sb, soff, none⟩) N sc) j (.pointer (some ⟨sb, soff + j, none⟩)) nj x 8 (a'.tmps.getD 42 undef) w' := hdep 8 (by decide) (by kernel_rfl)
            have hlow := hR.low hL
            have hown := own_keptA (unhide HOW) fun b e hl => hlow.block b hl
            have hcell : ∀ jj u, (U2.cells x)[jj]? = some u → w'.cell? ((⟨g, 0, none⟩ : Addr).add jj) = some u := by
              intro jj u hu
              rw [Addr.add_lit, Nat.zero_add, Lib.cell_of_heap hg]
              simpa [U2.cells] using hu
            have hLL := unhide HLL
            obtain ⟨v', w'', hr, hown', hgr, _, _⟩ := run_append_own_at (P := Try.prog) w' (P + 1) 30 30 28 i0 _ 2 32 Try.underlying30 hi hz0 hz1 hz2 rfl (by decide) pv L.length _ hown ⟨g, 0, none⟩ 1 1 (U2.cells x) rfl hcell (by
              intro u hu
              simp only [U2.cells, List.mem_cons, List.not_mem_nil, or_false] at hu
              rcases hu with rfl | rfl <;> rfl) (by unfold maxLen; omega) (by omega) (by have := hR.size; omega)
            have hs : a'.eval (.tmp 35) = pv := e1
            have hx : a'.eval (.tmp 42) = .slice (some ⟨g, 0, none⟩) 1 1 := e4
            have hR2 := hR.appd hL (by omega) (unhide HOW) (by rw [hsz]; exact Nat.le_of_ble_eq_true (by kernel_rfl)) (unhide HPC) hown' hgr
            unfold Oper.wp execOp
            simp only [resolve, invoke, builtin, Sem.run_bind, Sem.run_pure, Result.andThen_ok, List.map_toArray, List.map_cons, List.map_nil, hs, hx, hr]
            exact hK _ _ trivial hR2 (fun j u h => auSp_up (fun b hb hl => hgr.block b hl (fun e => by have := ((unhide HOW).lt b e.symm).2; omega)) j u h)
          | 10, _ =>
            cases ho
            have e3 : a'.tmps.getD 9 undef = .pointer (some ⟨P, 0, none⟩) := hslot 9 (by decide)
            unfold Oper.wp
            go_simp
            exact hK _ _ rfl (hR.grow hPl 10 44 _ (by decide) (by decide) (by decide) (Below.refl _ _)) (fun _ _ h => h)
          | i + 11, h => exact absurd h (by omega)
        · intro i o hi' ho Lb a' w' hL hw hR hdep K hK
          have : i = 11 := by
            have h := (List.getElem?_eq_some_iff.1 ho).1
            simp only [List.length_cons, List.length_nil] at h
            omega
          subst this
          cases ho
          have hall : ∀ j, j < 11 → Lb j = true := fun j hj => by
            match j, hj with
            | 0, _ => exact hw 0 (by kernel_rfl)
            | 1, _ => exact hw 1 (by kernel_rfl)
            | 2, _ => exact hw 2 (by kernel_rfl)
            | 3, _ => exact hw 3 (by kernel_rfl)
            | 4, _ => exact hw 4 (by kernel_rfl)
            | 5, _ => exact hw 5 (by kernel_rfl)
            | 6, _ => exact hw 6 (by kernel_rfl)
            | 7, _ => exact hw 7 (by kernel_rfl)
            | 8, _ => exact hw 8 (by kernel_rfl)
            | 9, _ => exact hw 9 (by kernel_rfl)
            | 10, _ => exact hw 10 (by kernel_rfl)
            | j + 11, h => exact absurd h (by omega)
          have h5 := hall 9 (by decide)
          obtain ⟨ao7, n7, c7, e1, _⟩ := hR.app h5
          have e2 : a'.tmps.getD 44 undef = .pointer (some ⟨P, 2, none⟩) := hdep 10 (by decide) (by kernel_rfl)
          have hST := hide (hR.stor hL hall hwP e1)
          have hp := hR.pol hL
          have x10 : w'.cell? ⟨P, 2, none⟩ = some pv := by rw [Lib.cell_of_heap hp]; rfl
          have f10 : w'.frozen? ⟨P, 2, none⟩ = false := Lib.frozen_of_heap hp 2
          have hup : ∀ jj u, auSp P wr.heap.size pv (.slice go M gcap) (.slice (some ⟨sb, soff, none⟩) N sc) j (.pointer (some ⟨sb, soff + j, none⟩)) nj x jj u w' → auSp P wr.heap.size pv (.slice go M gcap) (.slice (some ⟨sb, soff, none⟩) N sc) j (.pointer (some ⟨sb, soff + j, none⟩)) nj x jj u (w'.setCell ⟨P, 2, none⟩ (.slice ao7 n7 c7)) := fun j u h => auSp_up (fun b hb _ => Below.heap_setCell w' ⟨P, 2, none⟩ _ b (fun e => by have e : b = P := e; omega)) j u h
          have HUP := hide hup
          clear hp hup
          unfold Oper.wp
          go_simp
          exact hK _ (unhide hST) (unhide HUP) undef
        · intro v Lb w5 hall hR hsp
          obtain ⟨ao7, n7, c7, _, hO5, hP5⟩ := hR.app (hall 9 (by decide))
          have hP5 := hP5 (hall 11 (by decide))
          have hU5 := (hR.keep U hUl (by have := unhide HPU; omega) (fun e => by have := ((unhide HOW).lt U e).1; have := unhide HPU; omega)).trans (unhide HUU)
          have HB5 := hide hR.bel
          have HOW5 := hide hO5
          have HPC5 := hide hP5
          have HUU5 := hide hU5
          clear hR hall hsp hO5 hP5 hU5
          simp only [putAll, dstOf, List.getElem?_cons_zero, List.getElem?_cons_succ, Option.bind_some]
          simp only [Act.put, List.setIfInBounds_toArray, List.set_cons_succ, List.set_cons_zero]
          generalize v 0 = v0
          generalize v 1 = v1
          generalize v 2 = v2
          generalize v 3 = v3
          generalize v 4 = v4
          generalize v 5 = v5
          generalize v 6 = v6
          generalize v 7 = v7
          generalize v 8 = v8
          generalize v 9 = v9
          generalize v 10 = v10
          go_wp2
          go_roundw
          case rel => exact ⟨L ++ [x], .slice ao7 n7 c7, j + 1, by go_num, by omega, by omega, by rw [List.length_append, unhide HLJ]; rfl, unhide HB5, unhide HUU5, unhide HPC5, by
            rw [List.length_append, List.map_append, List.flatten_append]
            exact (show w5.ownsRow (P + 1) 28 2 (.slice ao7 n7 c7) (L.length + 1) ((L.map U2.cells).flatten ++ (([x].map U2.cells).flatten)) from by
              rw [show ([x].map U2.cells).flatten = x.cells from List.append_nil _]
              exact unhide HOW5)⟩
          case measure =>
            simp only [intOf]
            omega
      · have i4 : ¬ (j : Int) < 4 := by omega
        clear hlj
        obtain ⟨po, pc, rfl, hrow⟩ := own_rowA (unhide HOW)
        have hPC := unhide HPC
        have p0 : wr.cell? ⟨P, 0, none⟩ = some (.string u.t) := by rw [Lib.cell_of_heap hPC]; rfl
        have p1 : wr.cell? ⟨P, 1, none⟩ = some (.string u.i) := by rw [Lib.cell_of_heap hPC]; rfl
        have p2 : wr.cell? ⟨P, 2, none⟩ = some (.slice po L.length pc) := by rw [Lib.cell_of_heap hPC]; rfl
        have p3 : wr.cell? ⟨P, 3, none⟩ = some (.slice none 0 0) := by rw [Lib.cell_of_heap hPC]; rfl
        have HROW := hide hrow
        have b7r := unhide HB
        have hie : IsEnt wr (fun _ => True) ⟨u.t, u.i, po, L.length, pc, none, 0, 0⟩ ⟨u, L, []⟩ := ⟨rfl, rfl, hrow, fun _ _ _ => trivial, (isEnt_bare wr (fun _ => True) u).ats⟩
        have CP := r8put_any gs ps go gcap ⟨u.t, u.i, po, L.length, pc, none, 0, 0⟩ ⟨u, L, []⟩ wr ((unhide HG).row.below b7r) ((unhide HG).all.below b7r) hie (unhide HRI) (by have := (unhide HG).gl.len; omega)
        unfold E4.val at CP
        clear hPC hrow hie
        generalize hln : L.length = ln at *
        have HLN := hide hln
        clear hln
        rw [unhide HGM] at CP
        go_wp2_with fail
        refine CP.mono ?_
        clear CP p0 p1 p2 p3
        rintro e wp ⟨bp, no, ncap, es, rfl, hnr, hna, _, _⟩
        have hU2 := kept_of_below bp (unhide HUU)
        have hP2 := kept_of_below bp (unhide HPC)
        have HB2 := hide (b7r.trans (bp.mono b7r.size))
        have HROW2 := hide ((unhide HROW).below bp)
        have q0 : wp.cell? ⟨U, 0, none⟩ = some (.string u.t) := by rw [Lib.cell_of_heap hU2]; rfl
        have q1 : wp.cell? ⟨U, 1, none⟩ = some (.string u.i) := by rw [Lib.cell_of_heap hU2]; rfl
        have hnd := rising_nodup (rising_put (p := ⟨u, L, []⟩) (unhide HRI))
        have hp1000 : ∀ q ∈ putP ps ⟨u, L, []⟩, q.ps.length ≤ 1000 := fun q hq => by
          rcases mem_put.1 hq with rfl | ⟨hq, _⟩
          · show L.length ≤ 1000
            have := unhide HLN
            have := unhide HLL
            omega
          · exact (unhide HG).gl.ps1000 q hq
        have hN2 : ∀ y, ∀ v ∈ upS (putP ps ⟨u, L, []⟩) y, v ∈ parsP ps ++ L := fun y v hv => by
          rcases (mem_upS_put (unhide HRI) ⟨u, L, []⟩ y v).1 hv with ⟨_, h⟩ | ⟨_, h⟩
          · exact List.mem_append.2 (.inr h)
          · exact List.mem_append.2 (.inl ((unhide HG).gl.up y v h))
        have hN40 : (parsP ps ++ L).length ≤ 40 := by
          rw [List.length_append]
          have h1 := flat_len3 ps (unhide HG).gl.ps
          have h2 := (unhide HG).gl.len
          have := unhide HLN
          have := unhide HLL
          omega
        have HBN := hide (show ∀ m : List U2, m.Nodup → (∀ x, x ∈ m ↔ ∃ f ∈ upS (putP ps ⟨u, L, []⟩) u, Way (upS (putP ps ⟨u, L, []⟩)) f x) → m.length ≤ 40 from fun m hn hm => by
          have h1 := nodup_le m (parsP ps ++ L) hn fun y hy => by
            obtain ⟨f, hf, hw⟩ := (hm y).1 hy
            cases hw with
            | here => exact hN2 _ _ hf
            | step _ hx => exact hN2 _ _ hx
          omega)
        have CA := aboveG_any (upS (putP ps ⟨u, L, []⟩)) es no ncap u (parsP ps ++ L) wp (by rw [hna.1]; have h1 := put_len ps ⟨u, L, []⟩; have h2 := (unhide HG).gl.len; omega) hnr (steps_up hna hnd hp1000) hN2 (by omega) (fun m hn hm => by have := unhide HBN m hn hm; omega)
        unfold U2.val at CA
        clear hnd hp1000 hN2 hN40 hna hnr
        generalize es.length = ne at *
        go_wp2_with fail
        refine CA.mono ?_
        clear CA q0 q1
        rintro e wa ⟨ba, lo2, c2, l, rfl, hlr, hsr, hmem⟩
        have hl40 := unhide HBN l (hsr.imp fun h e => by rw [e, sto_lessU.irr] at h; cases h) hmem
        clear hsr HBN
        have HU3 := hide (kept_of_below ba hU2)
        have HP3 := hide (kept_of_below ba hP2)
        have HB3 := hide ((unhide HB2).trans (ba.mono (unhide HB2).size))
        have HROW3 := hide ((unhide HROW2).below ba)
        have HCI := hide (show u ∈ l ↔ ∃ f ∈ L, Way (cutS (upS ps) u) f u from (hmem u).trans (circle_put (unhide HRI) u L).symm)
        have HLR := hide hlr
        clear hlr hmem hU2 hP2 ba bp b7r HB2 HROW2 HROW HB HUU HPC HOW
        obtain ⟨nl, hnl⟩ : ∃ nl, nl = l.length := ⟨_, rfl⟩
        rw [← hnl] at hl40 ⊢
        have HNL := hide hnl
        clear hnl
        go_wp2_with fail
        go_loopw [12, 14] (fun bv iv wr2 => ∃ i : Nat, iv = .int .i64 i ∧ i ≤ nl ∧ bv = .bool ((l.take i).any fun y => decide (y = u)) ∧ Below wa.heap.size wa wr2) (fun _ iv _ => nl - (intOf iv).toNat)
        case atStart => exact ⟨0, by go_num, Nat.zero_le _, rfl, Below.refl _ _⟩
        case round =>
          rename World => wr2
          obtain ⟨i, rfl, hi2, rfl, hb2⟩ := hrel
          by_cases hil : i < nl
          · have q2 : (i : Int) < (nl : Int) := by omega
            have q0 : (0 : Int) ≤ (i : Int) := by omega
            have HI := hide (show i < l.length by rw [← unhide HNL]; exact hil)
            obtain ⟨xb, xoff, rfl, hxb, hxc⟩ := rowG_at (unhide HLR) hb2 (unhide HI)
            have Y : AtE2 wr2 xb (xoff + i * 2) (l[i]'(unhide HI)) := AtE2.of hxc
            have HT := hide (show ((l.take (i + 1)).any fun y => decide (y = u)) = (((l.take i).any fun y => decide (y = u)) || decide (l[i]'(unhide HI) = u)) by rw [List.take_succ_eq_append_getElem (unhide HI), List.any_append]; simp)
            obtain ⟨y, hy⟩ : ∃ y, y = l[i]'(unhide HI) := ⟨_, rfl⟩
            rw [← hy] at Y HT
            clear hy hxc
            have NQ := binEqlUid y u
            generalize decide (y = u) = z2 at *
            generalize hz1 : ((l.take i).any fun y => decide (y = u)) = z at *
            clear hz1
            obtain ⟨y0, y1⟩ := Y.up
            have hUr := kept_of_below hb2 (unhide HU3)
            have u0 := cell_regrown (show wr2.cell? ⟨U, 0, none⟩ = some (.string u.t) by rw [Lib.cell_of_heap hUr]; rfl)
            have u1 := cell_regrown (show wr2.cell? ⟨U, 1, none⟩ = some (.string u.i) by rw [Lib.cell_of_heap hUr]; rfl)
            clear Y hUr
            cases z
            · go_wp2_with fail
              refine wp_region_quiet_below (by kernel_rfl) (by kernel_rfl) ?_
              repeat (first | go_big_quiet_step (fail) | quiet_step (fail))
              refine wpQuiet_nil ?_
              intro _ hw'
              obtain ⟨⟨dq, osq⟩, hw''⟩ := hw'
              subst hw''
              have b7 := hb2.trans ((below_regrown wr2 dq osq).mono hb2.size)
              generalize grow (redrawn wr2 dq) osq = w7' at *
              clear y0 y1 u0 u1
              go_wp2
              go_roundw
              case rel => exact ⟨i + 1, by go_num, by omega, by rw [unhide HT]; rfl, b7⟩
              case measure =>
                simp only [intOf]
                omega
            · go_wp2_with fail
              refine wp_region_quiet_below (by kernel_rfl) (by kernel_rfl) ?_
              repeat (first | go_big_quiet_step (fail) | quiet_step (fail))
              refine wpQuiet_nil ?_
              intro _ hw'
              obtain ⟨⟨dq, osq⟩, hw''⟩ := hw'
              subst hw''
              have b7 := hb2.trans ((below_regrown wr2 dq osq).mono hb2.size)
              generalize grow (redrawn wr2 dq) osq = w7' at *
              clear y0 y1 u0 u1
              go_wp2
              go_roundw
              case rel => exact ⟨i + 1, by go_num, by omega, by rw [unhide HT]; rfl, b7⟩
              case measure =>
                simp only [intOf]
                omega
          · obtain rfl : i = nl := by omega
            have q2 : ¬ (i : Int) < (i : Int) := by omega
            have hIS : ((l.take i).any fun y => decide (y = u)) = true ↔ u ∈ l := by
              rw [List.take_of_length_le (by rw [← unhide HNL]; exact Nat.le_refl _), List.any_eq_true]
              exact ⟨fun ⟨y, hy, e⟩ => by rw [← of_decide_eq_true e]; exact hy, fun h => ⟨u, h, decide_eq_true rfl⟩⟩
            have HIS := hide (hIS.trans (unhide HCI))
            clear hIS
            generalize ((l.take i).any fun y => decide (y = u)) = z at *
            have bb := (unhide HB3).trans (hb2.mono (unhide HB3).size)
            have hrp := (unhide HROW3).below hb2
            have CC := circle_any (cutS (upS ps) u) gs go po gcap pc u L (parsP ps ++ L) wr2 (by have := (unhide HG).len; omega) ((unhide HG).row.below bb) hrp (by have := unhide HLN; have := unhide HLL; omega) (fun ad e hne => rowG_blk hrp (by simpa using hne) ad e) (steps_del ((unhide HG).all.below bb) (unhide HG).gl.nd (unhide HG).gl.ps1000 u) (fun y hy => List.mem_append.2 (.inr hy)) (fun y v hv => by
              unfold cutS at hv
              split at hv
              · cases hv
              · exact List.mem_append.2 (.inl ((unhide HG).gl.up y v hv))) (by
              rw [List.length_append]
              have h1 := flat_len3 ps (unhide HG).gl.ps
              have h2 := (unhide HG).gl.len
              have := unhide HLN
              have := unhide HLL
              omega)
            unfold U2.val at CC
            rw [unhide HGM, unhide HLN] at CC
            have hU9 := kept_of_below hb2 (unhide HU3)
            have hP9 := kept_of_below hb2 (unhide HP3)
            have q0 : wr2.cell? ⟨U, 0, none⟩ = some (.string u.t) := by rw [Lib.cell_of_heap hU9]; rfl
            have q1 : wr2.cell? ⟨U, 1, none⟩ = some (.string u.i) := by rw [Lib.cell_of_heap hU9]; rfl
            have p2 : wr2.cell? ⟨P, 2, none⟩ = some (.slice po ln pc) := by rw [Lib.cell_of_heap hP9]; rfl
            clear hU9 hP9 hrp
            go_wp2_with fail
            refine CC.mono ?_
            clear CC q0 q1 p2
            rintro e w9 ⟨b9, zz, rfl, hzz⟩
            have : zz = z := by rw [Bool.eq_iff_iff, hzz, unhide HIS]
            subst this
            have HBF := hide ((unhide HB0).trans ((bb.trans (b9.mono bb.size)).mono (unhide HB0).size))
            clear hzz b9 bb
            cases zz
            · go_wp2
              go_ret
              exact ⟨rfl, unhide HBF⟩
            · go_wp2
              go_ret
              exact ⟨rfl, unhide HBF⟩
    · have i1 : ¬ (j : Int) < (N : Int) := by omega
      clear hlj
      obtain ⟨po, pc, rfl, hrow⟩ := own_rowA (unhide HOW)
      have hPC := unhide HPC
      have p0 : wr.cell? ⟨P, 0, none⟩ = some (.string u.t) := by rw [Lib.cell_of_heap hPC]; rfl
      have p1 : wr.cell? ⟨P, 1, none⟩ = some (.string u.i) := by rw [Lib.cell_of_heap hPC]; rfl
      have p2 : wr.cell? ⟨P, 2, none⟩ = some (.slice po L.length pc) := by rw [Lib.cell_of_heap hPC]; rfl
      have p3 : wr.cell? ⟨P, 3, none⟩ = some (.slice none 0 0) := by rw [Lib.cell_of_heap hPC]; rfl
      have HROW := hide hrow
      have b7r := unhide HB
      have hie : IsEnt wr (fun _ => True) ⟨u.t, u.i, po, L.length, pc, none, 0, 0⟩ ⟨u, L, []⟩ := ⟨rfl, rfl, hrow, fun _ _ _ => trivial, (isEnt_bare wr (fun _ => True) u).ats⟩
      have CP := r8put_any gs ps go gcap ⟨u.t, u.i, po, L.length, pc, none, 0, 0⟩ ⟨u, L, []⟩ wr ((unhide HG).row.below b7r) ((unhide HG).all.below b7r) hie (unhide HRI) (by have := (unhide HG).gl.len; omega)
      unfold E4.val at CP
      clear hPC hrow hie
      generalize hln : L.length = ln at *
      have HLN := hide hln
      clear hln
      rw [unhide HGM] at CP
      go_wp2_with fail
      refine CP.mono ?_
      clear CP p0 p1 p2 p3
      rintro e wp ⟨bp, no, ncap, es, rfl, hnr, hna, _, _⟩
      have hU2 := kept_of_below bp (unhide HUU)
      have hP2 := kept_of_below bp (unhide HPC)
      have HB2 := hide (b7r.trans (bp.mono b7r.size))
      have HROW2 := hide ((unhide HROW).below bp)
      have q0 : wp.cell? ⟨U, 0, none⟩ = some (.string u.t) := by rw [Lib.cell_of_heap hU2]; rfl
      have q1 : wp.cell? ⟨U, 1, none⟩ = some (.string u.i) := by rw [Lib.cell_of_heap hU2]; rfl
      have hnd := rising_nodup (rising_put (p := ⟨u, L, []⟩) (unhide HRI))
      have hp1000 : ∀ q ∈ putP ps ⟨u, L, []⟩, q.ps.length ≤ 1000 := fun q hq => by
        rcases mem_put.1 hq with rfl | ⟨hq, _⟩
        · show L.length ≤ 1000
          have := unhide HLN
          have := unhide HLL
          omega
        · exact (unhide HG).gl.ps1000 q hq
      have hN2 : ∀ y, ∀ v ∈ upS (putP ps ⟨u, L, []⟩) y, v ∈ parsP ps ++ L := fun y v hv => by
        rcases (mem_upS_put (unhide HRI) ⟨u, L, []⟩ y v).1 hv with ⟨_, h⟩ | ⟨_, h⟩
        · exact List.mem_append.2 (.inr h)
        · exact List.mem_append.2 (.inl ((unhide HG).gl.up y v h))
      have hN40 : (parsP ps ++ L).length ≤ 40 := by
        rw [List.length_append]
        have h1 := flat_len3 ps (unhide HG).gl.ps
        have h2 := (unhide HG).gl.len
        have := unhide HLN
        have := unhide HLL
        omega
      have HBN := hide (show ∀ m : List U2, m.Nodup → (∀ x, x ∈ m ↔ ∃ f ∈ upS (putP ps ⟨u, L, []⟩) u, Way (upS (putP ps ⟨u, L, []⟩)) f x) → m.length ≤ 40 from fun m hn hm => by
        have h1 := nodup_le m (parsP ps ++ L) hn fun y hy => by
          obtain ⟨f, hf, hw⟩ := (hm y).1 hy
          cases hw with
          | here => exact hN2 _ _ hf
          | step _ hx => exact hN2 _ _ hx
        omega)
      have CA := aboveG_any (upS (putP ps ⟨u, L, []⟩)) es no ncap u (parsP ps ++ L) wp (by rw [hna.1]; have h1 := put_len ps ⟨u, L, []⟩; have h2 := (unhide HG).gl.len; omega) hnr (steps_up hna hnd hp1000) hN2 (by omega) (fun m hn hm => by have := unhide HBN m hn hm; omega)
      unfold U2.val at CA
      clear hnd hp1000 hN2 hN40 hna hnr
      generalize es.length = ne at *
      go_wp2_with fail
      refine CA.mono ?_
      clear CA q0 q1
      rintro e wa ⟨ba, lo2, c2, l, rfl, hlr, hsr, hmem⟩
      have hl40 := unhide HBN l (hsr.imp fun h e => by rw [e, sto_lessU.irr] at h; cases h) hmem
      clear hsr HBN
      have HU3 := hide (kept_of_below ba hU2)
      have HP3 := hide (kept_of_below ba hP2)
      have HB3 := hide ((unhide HB2).trans (ba.mono (unhide HB2).size))
      have HROW3 := hide ((unhide HROW2).below ba)
      have HCI := hide (show u ∈ l ↔ ∃ f ∈ L, Way (cutS (upS ps) u) f u from (hmem u).trans (circle_put (unhide HRI) u L).symm)
      have HLR := hide hlr
      clear hlr hmem hU2 hP2 ba bp b7r HB2 HROW2 HROW HB HUU HPC HOW
      obtain ⟨nl, hnl⟩ : ∃ nl, nl = l.length := ⟨_, rfl⟩
      rw [← hnl] at hl40 ⊢
      have HNL := hide hnl
      clear hnl
      go_wp2_with fail
      go_loopw [12, 14] (fun bv iv wr2 => ∃ i : Nat, iv = .int .i64 i ∧ i ≤ nl ∧ bv = .bool ((l.take i).any fun y => decide (y = u)) ∧ Below wa.heap.size wa wr2) (fun _ iv _ => nl - (intOf iv).toNat)
      case atStart => exact ⟨0, by go_num, Nat.zero_le _, rfl, Below.refl _ _⟩
      case round =>
        rename World => wr2
        obtain ⟨i, rfl, hi2, rfl, hb2⟩ := hrel
        by_cases hil : i < nl
        · have q2 : (i : Int) < (nl : Int) := by omega
          have q0 : (0 : Int) ≤ (i : Int) := by omega
          have HI := hide (show i < l.length by rw [← unhide HNL]; exact hil)
          obtain ⟨xb, xoff, rfl, hxb, hxc⟩ := rowG_at (unhide HLR) hb2 (unhide HI)
          have Y : AtE2 wr2 xb (xoff + i * 2) (l[i]'(unhide HI)) := AtE2.of hxc
          have HT := hide (show ((l.take (i + 1)).any fun y => decide (y = u)) = (((l.take i).any fun y => decide (y = u)) || decide (l[i]'(unhide HI) = u)) by rw [List.take_succ_eq_append_getElem (unhide HI), List.any_append]; simp)
          obtain ⟨y, hy⟩ : ∃ y, y = l[i]'(unhide HI) := ⟨_, rfl⟩
          rw [← hy] at Y HT
          clear hy hxc
          have NQ := binEqlUid y u
          generalize decide (y = u) = z2 at *
          generalize hz1 : ((l.take i).any fun y => decide (y = u)) = z at *
          clear hz1
          obtain ⟨y0, y1⟩ := Y.up
          have hUr := kept_of_below hb2 (unhide HU3)
          have u0 := cell_regrown (show wr2.cell? ⟨U, 0, none⟩ = some (.string u.t) by rw [Lib.cell_of_heap hUr]; rfl)
          have u1 := cell_regrown (show wr2.cell? ⟨U, 1, none⟩ = some (.string u.i) by rw [Lib.cell_of_heap hUr]; rfl)
          clear Y hUr
          cases z
          · go_wp2_with fail
            refine wp_region_quiet_below (by kernel_rfl) (by kernel_rfl) ?_
            repeat (first | go_big_quiet_step (fail) | quiet_step (fail))
            refine wpQuiet_nil ?_
            intro _ hw'
            obtain ⟨⟨dq, osq⟩, hw''⟩ := hw'
            subst hw''
            have b7 := hb2.trans ((below_regrown wr2 dq osq).mono hb2.size)
            generalize grow (redrawn wr2 dq) osq = w7' at *
            clear y0 y1 u0 u1
            go_wp2
            go_roundw
            case rel => exact ⟨i + 1, by go_num, by omega, by rw [unhide HT]; rfl, b7⟩
            case measure =>
              simp only [intOf]
              omega
          · go_wp2_with fail
            refine wp_region_quiet_below (by kernel_rfl) (by kernel_rfl) ?_
            repeat (first | go_big_quiet_step (fail) | quiet_step (fail))
            refine wpQuiet_nil ?_
            intro _ hw'
            obtain ⟨⟨dq, osq⟩, hw''⟩ := hw'
            subst hw''
            have b7 := hb2.trans ((below_regrown wr2 dq osq).mono hb2.size)
            generalize grow (redrawn wr2 dq) osq = w7' at *
            clear y0 y1 u0 u1
            go_wp2
            go_roundw
            case rel => exact ⟨i + 1, by go_num, by omega, by rw [unhide HT]; rfl, b7⟩
            case measure =>
              simp only [intOf]
              omega
        · obtain rfl : i = nl := by omega
          have q2 : ¬ (i : Int) < (i : Int) := by omega
          have hIS : ((l.take i).any fun y => decide (y = u)) = true ↔ u ∈ l := by
            rw [List.take_of_length_le (by rw [← unhide HNL]; exact Nat.le_refl _), List.any_eq_true]
            exact ⟨fun ⟨y, hy, e⟩ => by rw [← of_decide_eq_true e]; exact hy, fun h => ⟨u, h, decide_eq_true rfl⟩⟩
          have HIS := hide (hIS.trans (unhide HCI))
          clear hIS
          generalize ((l.take i).any fun y => decide (y = u)) = z at *
          have bb := (unhide HB3).trans (hb2.mono (unhide HB3).size)
          have hrp := (unhide HROW3).below hb2
          have CC := circle_any (cutS (upS ps) u) gs go po gcap pc u L (parsP ps ++ L) wr2 (by have := (unhide HG).len; omega) ((unhide HG).row.below bb) hrp (by have := unhide HLN; have := unhide HLL; omega) (fun ad e hne => rowG_blk hrp (by simpa using hne) ad e) (steps_del ((unhide HG).all.below bb) (unhide HG).gl.nd (unhide HG).gl.ps1000 u) (fun y hy => List.mem_append.2 (.inr hy)) (fun y v hv => by
            unfold cutS at hv
            split at hv
            · cases hv
            · exact List.mem_append.2 (.inl ((unhide HG).gl.up y v hv))) (by
            rw [List.length_append]
            have h1 := flat_len3 ps (unhide HG).gl.ps
            have h2 := (unhide HG).gl.len
            have := unhide HLN
            have := unhide HLL
            omega)
          unfold U2.val at CC
          rw [unhide HGM, unhide HLN] at CC
          have hU9 := kept_of_below hb2 (unhide HU3)
          have hP9 := kept_of_below hb2 (unhide HP3)
          have q0 : wr2.cell? ⟨U, 0, none⟩ = some (.string u.t) := by rw [Lib.cell_of_heap hU9]; rfl
          have q1 : wr2.cell? ⟨U, 1, none⟩ = some (.string u.i) := by rw [Lib.cell_of_heap hU9]; rfl
          have p2 : wr2.cell? ⟨P, 2, none⟩ = some (.slice po ln pc) := by rw [Lib.cell_of_heap hP9]; rfl
          clear hU9 hP9 hrp
          go_wp2_with fail
          refine CC.mono ?_
          clear CC q0 q1 p2
          rintro e w9 ⟨b9, zz, rfl, hzz⟩
          have : zz = z := by rw [Bool.eq_iff_iff, hzz, unhide HIS]
          subst this
          have HBF := hide ((unhide HB0).trans ((bb.trans (b9.mono bb.size)).mono (unhide HB0).size))
          clear hzz b9 bb
          cases zz
          · go_wp2
            go_ret
            exact ⟨rfl, unhide HBF⟩
          · go_wp2
            go_ret
            exact ⟨rfl, unhide HBF⟩
end Go.Proofs.Ytfnfdpkndkcmbaa
