/-
  chancellaw9.AboveMore, plain: a parent more takes nobody away; rows of uids laid one behind the other.
  chancellaw9.AboveMore: the walk.
-/
import Derived.Test.YtfnfdpkndkcmbaaAcPU
import Derived.Test.YtfnfdpkndkcmbaaGdG
import Derived.Test.YtfnfdpkndkcmbaaGdAE
import Derived.Test.YtfnfdpkndkcmbaaMqKW
namespace Go.Proofs.Ytfnfdpkndkcmbaa
open Go.RowKit Go.Sort

theorem more_sub {ps : List EntP} (hr : RisingP ps) {q : EntP} (hq : q ∈ ps) (v : U2) (x y : U2) (h : y ∈ upS ps x) : y ∈ upS (putP ps ⟨q.u, q.ps ++ [v], q.ats⟩) x := by
  rw [mem_upS_put hr]
  by_cases hx : x = q.u
  · refine .inl ⟨hx, ?_⟩
    obtain ⟨q', hq', e, hm⟩ := (mem_upS (rising_nodup hr) x y).1 h
    have h1 := find_mem (rising_nodup hr) hq
    have h2 := find_mem (rising_nodup hr) hq'
    rw [e, hx, h1] at h2
    cases h2
    exact List.mem_append.2 (.inl hm)
  · exact .inr ⟨hx, h⟩
theorem more_step {ps : List EntP} (hr : RisingP ps) (q : EntP) (v : U2) : Way (upS (putP ps ⟨q.u, q.ps ++ [v], q.ats⟩)) q.u v :=
  .step (.here _) ((mem_upS_put hr _ _ _).2 (.inl ⟨rfl, List.mem_append.2 (.inr (List.mem_singleton.2 rfl))⟩))
theorem infoUidA : (Try.prog.info? 28).map (fun i => (i.zero, i.size, i.bytes)) = some (some (.agg #[.string ⟨#[]⟩, .string ⟨#[]⟩]), 2, 32) := by kernel_rfl
/-- append of two rows of uids. -/
theorem run_appU {w : World} {B : Nat} {v : Value} {A C : List U2} {ao : Option Addr} {m cap : Nat} (ty : TypeId) (h : w.ownsRow B 28 2 v A.length (A.map U2.cells).flatten) (hm : m = C.length) (hr : RowG w ao 2 (C.map U2.cells)) (hl : A.length + C.length ≤ 1000) (hB : B ≤ w.heap.size) :
    ∃ v' w', (Builtin.append_ #[30, 30] ty #[v, .slice ao m cap]).run Try.prog w = .ok v' w' ∧ w'.ownsRow B 28 2 v' (A ++ C).length ((A ++ C).map U2.cells).flatten ∧ w.grownBy w' v.ownBlock := by
  obtain ⟨i0, hi, hz0, hz1, hz2⟩ := info_parts infoUidA
  subst hm
  rcases ao with _ | ad
  · have hC : C = [] := by
      cases C with
      | nil => rfl
      | cons c C =>
        obtain ⟨b, off, e, _⟩ := hr 0 (by simp)
        cases e
    subst hC
    refine ⟨v, w, run_append_owned_none (P := Try.prog) (w := w) B 30 ty 28 i0 2 Try.underlying30 hi v _ _ h, by simpa using h, rfl, rfl, rfl, Nat.le_refl _, fun _ _ _ => rfl⟩
  · have hnews : ∀ j u, ((C.map U2.cells).flatten)[j]? = some u → w.cell? (ad.add j) = some u := by
      intro j u hu
      have hjl : j < C.length * 2 := by
        have h1 := (List.getElem?_eq_some_iff.1 hu).1
        have h2 : ∀ l : List U2, ((l.map U2.cells).flatten).length = l.length * 2 := fun l => by
          induction l with
          | nil => rfl
          | cons a t ih =>
            rw [List.map_cons, List.flatten_cons, List.length_append, ih, List.length_cons]
            show 2 + _ = _
            omega
        rw [h2] at h1
        exact h1
      have hj2 : j / 2 < C.length := by omega
      obtain ⟨b, off, e, hb, hc⟩ := hr (j / 2) (by rw [List.length_map]; exact hj2)
      cases e
      have h3 := flat_getA C (j / 2) hj2 (j % 2) (by omega)
      rw [show j / 2 * 2 + j % 2 = j by omega, hu] at h3
      rw [List.getElem_map] at hc
      have h4 := hc (j % 2) u h3.symm
      rw [Addr.add_lit, show off + j = off + j / 2 * 2 + j % 2 by omega]
      exact h4
    have hlen : ((C.map U2.cells).flatten).length = C.length * 2 := by
      have h2 : ∀ l : List U2, ((l.map U2.cells).flatten).length = l.length * 2 := fun l => by
        induction l with
        | nil => rfl
        | cons a t ih =>
          rw [List.map_cons, List.flatten_cons, List.length_append, ih, List.length_cons]
          show 2 + _ = _
          omega
      exact h2 C
    obtain ⟨v', w', a1, a2, a3, _, _⟩ := run_append_own_at (P := Try.prog) w B 30 ty 28 i0 _ 2 32 Try.underlying30 hi hz0 hz1 hz2 rfl (by decide) v A.length _ h ad C.length cap ((C.map U2.cells).flatten) hlen hnews (by
      intro u hu
      obtain ⟨l, hl, hul⟩ := List.mem_flatten.1 hu
      obtain ⟨y, _, rfl⟩ := List.mem_map.1 hl
      simp only [U2.cells, List.mem_cons, List.not_mem_nil, or_false] at hul
      rcases hul with rfl | rfl <;> rfl) (by unfold maxLen; omega) (by omega) hB
    refine ⟨v', w', a1, ?_, a3⟩
    rw [List.length_append, List.map_append, List.flatten_append]
    exact a2
theorem wpList_appU {ops : Array Oper} {rest : List Oper} {o : Oper} {a : Act} {Q : Exit → Act → World → Prop} {w : World} {B : Nat} {v : Value} {A C : List U2} {ao : Option Addr} {m cap : Nat} (hgd : o.guard = none) (s x : Operand)
    (ho : o.op = .call { callee := .builtin .append, args := #[s, x], argTypes := #[30, 30] }) (hs : a.eval s = v) (hx : a.eval x = .slice ao m cap)
    (hown : w.ownsRow B 28 2 v A.length (A.map U2.cells).flatten) (hm : m = C.length) (hr : RowG w ao 2 (C.map U2.cells)) (hl : A.length + C.length ≤ 1000) (hB : B ≤ w.heap.size)
    (h : ∀ v' w', w'.ownsRow B 28 2 v' (A ++ C).length ((A ++ C).map U2.cells).flatten → w.grownBy w' v.ownBlock → wpList Try.prog ops Q rest (a.put o.dst v') w') : wpList Try.prog ops Q (o :: rest) a w := by
  obtain ⟨v', w', hrun, h1, h2⟩ := run_appU (cap := cap) o.type hown hm hr hl hB
  refine wpList_plain hgd fun _ hK => ?_
  unfold Oper.wp execOp
  simp only [ho, resolve, invoke, builtin, Sem.run_bind, Sem.run_pure, Result.andThen_ok, List.map_toArray, List.map_cons, List.map_nil, hs, hx, hrun]
  exact hK _ _ (h v' w' h1 h2)
theorem rowG_one {w : World} {b : Nat} {x : U2} (h : w.heap[b]? = some (.cells #[.string x.t, .string x.i] 28 (0, 0))) : RowG w (some ⟨b, 0, none⟩) 2 ([x].map U2.cells) := fun j hj => by
  have hj0 : j = 0 := by simpa using hj
  subst hj0
  refine ⟨b, 0, rfl, (Array.getElem?_eq_some_iff.1 h).1, fun c u hu => ?_⟩
  rw [Lib.cell_of_heap h]
  have : (U2.cells x)[c]? = some u := hu
  simpa [U2.cells] using this
end Go.Proofs.Ytfnfdpkndkcmbaa

namespace Go.Proofs.Ytfnfdpkndkcmbaa
open Go.RowKit Go.Sort

set_option maxHeartbeats 16000000 in
set_option maxRecDepth 1000000 in
theorem amore_walk (lo : Option Addr) (rs : List EntR) (lc : Nat) (n more : Int) (w : World) (hl : rs.length ≤ 9223372036854775807) (hr : RowEnt w lo rs) :
    Calls Try.prog 4 #[.slice lo rs.length lc, .int .i64 n, .int .i64 more] w fun e w' => e = .returned (.bool true) ∧ Below w.heap.size w w' := by
  have C0 := known9_any w
  have HR := hide hr
  have HL := hide hl
  obtain ⟨nr, hnr⟩ : ∃ nr, nr = rs.length := ⟨_, rfl⟩
  have HNR := hide hnr
  rw [← hnr]
  clear hr hl hnr
  go_enter Try.func4, Try.ntmps4
  go_wp2_with fail
  refine C0.mono ?_
  clear C0
  rintro e w1 ⟨rfl, b1⟩
  have G := good8_any lo rs lc w1 (unhide HL) ((unhide HR).below b1)
  rw [← unhide HNR] at G
  go_wp2_with fail
  refine G.mono ?_
  clear G
  rintro _ w7 ⟨b17, go, gcap, gs, rfl, hgr, hgA, _, _⟩
  have HB0 := hide (b1.trans (b17.mono b1.size))
  have HRI := hide (goodsL_rising rs)
  have HG := hide (show G9 w7 go gs (goodsL rs) from ⟨hgr, hgA, gl_goods rs⟩)
  clear hgr hgA b1 b17 HR HL HNR
  generalize goodsL rs = ps at *
  by_cases hM0 : gs.length = 0
  · have g0 : ((gs.length : Int) == 0) = true := by rw [hM0]; rfl
    clear hM0
    go_wp2
    go_ret
    exact ⟨rfl, unhide HB0⟩
  have g0 : ((gs.length : Int) == 0) = false := by
    rw [beq_eq_false_iff_ne]
    omega
  have HPK := hide (fun (w' : World) (hb : Below w7.heap.size w7 w') => pick9_any gs ps go gcap more w' ((unhide HG).below hb))
  obtain ⟨v, hv⟩ : ∃ v, v = pickP ps more := ⟨_, rfl⟩
  rw [← hv] at HPK
  clear hv
  obtain ⟨k, hk⟩ : ∃ k : Nat, n % (gs.length : Int) = k := ⟨(n % (gs.length : Int)).toNat, by
    have := Int.emod_nonneg n (b := (gs.length : Int)) (by omega)
    omega⟩
  have hkl : k < gs.length := by
    have := Int.emod_lt_of_pos n (b := (gs.length : Int)) (by omega)
    omega
  have WI := within9_any n gs.length (by omega) (by have := (unhide HG).len; omega) w7
  rw [hk] at WI
  have hkp : k < ps.length := by have := (unhide HG).all.1; omega
  have HIS := hide ((unhide HG).all.2 k hkl hkp)
  have HQM := hide (List.getElem_mem hkp)
  have HQ3 := hide ((unhide HG).gl.ps _ (List.getElem_mem hkp))
  obtain ⟨q, hq⟩ : ∃ q, q = ps[k] := ⟨_, rfl⟩
  rw [← hq] at HIS HQM HQ3
  clear hq
  obtain ⟨b, off, hgo, hb, hcx⟩ := rowG_at (unhide HG).row (Below.refl w7.heap.size w7) hkl
  have AT : AtE4 w7 b (off + k * 4) gs[k] := AtE4.of hcx
  obtain ⟨x, hx⟩ : ∃ x, x = gs[k] := ⟨_, rfl⟩
  rw [← hx] at AT HIS
  obtain ⟨a0, a1, a2, a3⟩ := AT
  have k0 : (0 : Int) ≤ (k : Int) := by omega
  obtain ⟨M, hM⟩ : ∃ M, M = gs.length := ⟨_, rfl⟩
  have k1 : (k : Int) < (M : Int) := by omega
  rw [← hM] at g0 WI hM0 ⊢
  have HGM := hide hM.symm
  clear hx hcx hk hkp hM hkl
  subst hgo
  go_wp2_with fail
  refine WI.mono ?_
  clear WI
  rintro e w8 ⟨rfl, hw8⟩
  subst hw8
  have b9 := ac1 w8 (.cells #[.string x.t, .string x.i, .slice x.po x.pl x.pc, .slice x.ao x.al x.ac] 33)
  have h9 := alloc_heap w8 (.cells #[.string x.t, .string x.i, .slice x.po x.pl x.pc, .slice x.ao x.al x.ac] 33)
  go_upto_region 8 with fail
  generalize w8.alloc _ = w9 at *
  obtain ⟨P, hP⟩ : ∃ P, P = w8.heap.size := ⟨_, rfl⟩
  rw [← hP] at h9 ⊢
  have hPw : w8.heap.size ≤ P := by omega
  clear hP a0 a1 a2 a3 k0 k1 g0 hM0
  have HB9 := hide b9
  have HP9 := hide h9
  have hro : RowG w9 x.po 2 (q.ps.map U2.cells) := ((unhide HIS).below b9).rowU
  have HPL := hide (unhide HIS).pl
  have ba := ac1 w9 (.cells #[] 28)
  have own0 : (w9.alloc (.cells #[] 28)).ownsRow (P + 1) 28 2 (.slice (some ⟨w9.heap.size, 0, none⟩) 0 0) ([] : List U2).length (([] : List U2).map U2.cells).flatten := World.ownsRow_made w9 #[] 0 (by have := (Array.getElem?_eq_some_iff.1 h9).1; omega) (by decide) rfl
  have HO := hide own0
  have HRA := hide (hro.below ba)
  have HPA := hide (kept_of_below ba h9)
  have HBA := hide (b9.trans (ba.mono b9.size))
  have HZ := hide (show P < w9.heap.size from (Array.getElem?_eq_some_iff.1 h9).1)
  have p0 : (w9.alloc (.cells #[] 28)).cell? ⟨P, 0, none⟩ = some (.string x.t) := by rw [Lib.cell_of_heap (show (w9.alloc (.cells #[] 28)).heap[P]? = _ from unhide HPA)]; rfl
  have p1 : (w9.alloc (.cells #[] 28)).cell? ⟨P, 1, none⟩ = some (.string x.i) := by rw [Lib.cell_of_heap (show (w9.alloc (.cells #[] 28)).heap[P]? = _ from unhide HPA)]; rfl
  have p2 : (w9.alloc (.cells #[] 28)).cell? ⟨P, 2, none⟩ = some (.slice x.po x.pl x.pc) := by rw [Lib.cell_of_heap (show (w9.alloc (.cells #[] 28)).heap[P]? = _ from unhide HPA)]; rfl
  have p3 : (w9.alloc (.cells #[] 28)).cell? ⟨P, 3, none⟩ = some (.slice x.ao x.al x.ac) := by rw [Lib.cell_of_heap (show (w9.alloc (.cells #[] 28)).heap[P]? = _ from unhide HPA)]; rfl
  clear own0 hro h9 b9 ba
  have hq3 := unhide HQ3
  go_wp2_with (at_builtin; refine wpList_appU (A := []) (C := q.ps) rfl _ _ rfl rfl rfl (unhide HO) (unhide HPL) (unhide HRA) (by rw [List.length_nil]; omega) (by rw [World.size_alloc]; have := unhide HZ; omega) ?_)
  intro v1 wb ho1 hg1
  have hPb : wb.heap[P]? = some (.cells #[.string x.t, .string x.i, .slice x.po x.pl x.pc, .slice x.ao x.al x.ac] 33 (0, 0)) := (hg1.block P (by rw [World.size_alloc]; have := unhide HZ; omega) (fun e => by have := ((unhide HO).lt P e.symm).1; omega)).trans (unhide HPA)
  have hBb : Below w8.heap.size w8 wb := (unhide HBA).grown hg1 (unhide HBA).size (fun g e => by have := ((unhide HO).lt g e).1; omega)
  have hzb : w9.heap.size + 1 ≤ wb.heap.size := by have := hg1.size; rwa [World.size_alloc] at this
  have HO1 := hide ho1
  have HPb := hide hPb
  have HBb := hide hBb
  have HZb := hide (show P < wb.heap.size by have := unhide HZ; omega)
  clear hg1 ho1 hPb hBb p0 p1 p2 p3 HO HRA HPA HBA
  have C := unhide HPK wb (unhide HBb)
  rw [unhide HGM] at C
  go_wp2_with fail
  refine C.mono ?_
  clear C
  rintro e wc ⟨rfl, bc⟩
  have bd := ac1 wc (.cells #[.string v.t, .string v.i] 28)
  have hd := alloc_heap wc (.cells #[.string v.t, .string v.i] 28)
  have bcd := bc.trans (bd.mono bc.size)
  have HO2 := hide (own_keptA (unhide HO1) fun g _ hg => bcd.block g hg)
  have HPd := hide (kept_of_below bcd (unhide HPb))
  have HBd := hide ((unhide HBb).trans (bcd.mono (unhide HBb).size))
  have HRd := hide (rowG_one hd)
  have hzd : P + 1 ≤ (wc.alloc (.cells #[.string v.t, .string v.i] 28)).heap.size := by have := bcd.size; have := unhide HZb; omega
  clear bc bd hd bcd HO1 HPb HBb
  go_wp2_with (at_builtin; refine wpList_appU (A := q.ps) (C := [v]) rfl _ _ rfl rfl rfl (unhide HO2) rfl (unhide HRd) (by rw [List.length_singleton]; omega) hzd ?_)
  intro v2 we ho2x hg2
  have ho2 : we.ownsRow (P + 1) 28 2 v2 (q.ps ++ [v]).length ((q.ps ++ [v]).map U2.cells).flatten := by simpa using ho2x
  clear ho2x
  have hPe : we.heap[P]? = some (.cells #[.string x.t, .string x.i, .slice x.po x.pl x.pc, .slice x.ao x.al x.ac] 33 (0, 0)) := (hg2.block P (by omega) (fun e => by have := ((unhide HO2).lt P e.symm).1; omega)).trans (unhide HPd)
  have hBe : Below w8.heap.size w8 we := (unhide HBd).grown hg2 (unhide HBd).size (fun g e => by have := ((unhide HO2).lt g e).1; omega)
  obtain ⟨po, pc, rfl, _⟩ := own_rowA ho2
  have p2 : we.cell? ⟨P, 2, none⟩ = some (.slice x.po x.pl x.pc) := by rw [Lib.cell_of_heap hPe]; rfl
  have pf : we.frozen? ⟨P, 2, none⟩ = false := Lib.frozen_of_heap hPe 2
  have HPf := hide (heap_setCell_same we P 2 _ _ (.slice po (q.ps ++ [v]).length pc) hPe)
  have HBf := hide (hBe.setCell (p := ⟨P, 2, none⟩) hPw (.slice po (q.ps ++ [v]).length pc))
  have HOf := hide (own_keptA ho2 fun g eg _ => Below.heap_setCell we ⟨P, 2, none⟩ (.slice po (q.ps ++ [v]).length pc) g (fun e => by
    have e : g = P := e
    have := (ho2.lt g eg).1
    omega))
  have HBe := hide hBe
  have HPe := hide hPe
  have HISe := hide ((unhide HIS).below hBe)
  clear hg2 ho2 hPe hBe HO2 HPd HBd HRd hzd hzb HZ HZb HPL
  obtain ⟨np, hnp⟩ : ∃ np, np = (q.ps ++ [v]).length := ⟨_, rfl⟩
  rw [← hnp] at HPf HBf HOf ⊢
  have hnp4 : np ≤ 4 := by rw [hnp, List.length_append, List.length_singleton]; omega
  have HNP := hide hnp
  clear hnp
  go_upto_region 9 with fail
  clear p2 pf
  generalize we.setCell _ _ = wf at *
  have hBf := unhide HBf
  have I := (unhide HIS).below hBf
  obtain ⟨po2, pc2, heq, hrow⟩ := own_rowA (by rw [unhide HNP] at HOf; exact unhide HOf)
  have hrow2 : RowG wf po 2 ((q.ps ++ [v]).map U2.cells) := by
    rw [← unhide HNP] at heq
    cases heq
    exact hrow
  have hie : IsEnt wf (fun _ => True) ⟨x.t, x.i, po, np, pc, x.ao, x.al, x.ac⟩ ⟨q.u, q.ps ++ [v], q.ats⟩ := ⟨I.u, unhide HNP, hrow2, fun _ _ _ => trivial, I.ats⟩
  have HXU := hide (show (⟨x.t, x.i⟩ : U2) = q.u from I.u)
  have CP := r8put_any gs ps (some ⟨b, off, none⟩) gcap ⟨x.t, x.i, po, np, pc, x.ao, x.al, x.ac⟩ ⟨q.u, q.ps ++ [v], q.ats⟩ wf ((unhide HG).row.below hBf) ((unhide HG).all.below hBf) hie (unhide HRI) (by have := (unhide HG).gl.len; omega)
  unfold E4.val at CP
  rw [unhide HGM] at CP
  have hPf := unhide HPf
  have p0 : wf.cell? ⟨P, 0, none⟩ = some (.string x.t) := by rw [Lib.cell_of_heap hPf]; rfl
  have p1 : wf.cell? ⟨P, 1, none⟩ = some (.string x.i) := by rw [Lib.cell_of_heap hPf]; rfl
  have p2 : wf.cell? ⟨P, 2, none⟩ = some (.slice po np pc) := by rw [Lib.cell_of_heap hPf]; rfl
  have p3 : wf.cell? ⟨P, 3, none⟩ = some (.slice x.ao x.al x.ac) := by rw [Lib.cell_of_heap hPf]; rfl
  clear hPf hrow hrow2 heq hie I HBe HPe HISe HOf HIS HB9 HP9
  go_wp2_with fail
  refine CP.mono ?_
  clear CP p0 p1 p2 p3
  rintro e wn ⟨bn, no, ncap, es, rfl, hnr, hna, _, _⟩
  have HBn := hide (hBf.trans (bn.mono hBf.size))
  have HPn := hide (kept_of_below bn (unhide HPf))
  have hnd := rising_nodup (rising_put (p := ⟨q.u, q.ps ++ [v], q.ats⟩) (unhide HRI))
  have hq4 : (q.ps ++ [v]).length ≤ 4 := by rw [← unhide HNP]; exact hnp4
  have hp1000 : ∀ r ∈ putP ps ⟨q.u, q.ps ++ [v], q.ats⟩, r.ps.length ≤ 1000 := fun r hr => by
    rcases mem_put.1 hr with rfl | ⟨hr, _⟩
    · show (q.ps ++ [v]).length ≤ 1000
      omega
    · exact (unhide HG).gl.ps1000 r hr
  have hN2 : ∀ y, ∀ z ∈ upS (putP ps ⟨q.u, q.ps ++ [v], q.ats⟩) y, z ∈ parsP ps ++ (q.ps ++ [v]) := fun y z hz => by
    rcases (mem_upS_put (unhide HRI) ⟨q.u, q.ps ++ [v], q.ats⟩ y z).1 hz with ⟨_, h⟩ | ⟨_, h⟩
    · exact List.mem_append.2 (.inr h)
    · exact List.mem_append.2 (.inl ((unhide HG).gl.up y z h))
  have hN9 : (parsP ps ++ (q.ps ++ [v])).length ≤ 99999 := by
    rw [List.length_append]
    have h1 := flat_len3 ps (unhide HG).gl.ps
    have h2 := (unhide HG).gl.len
    omega
  have hel : es.length ≤ 1048576 := by
    rw [hna.1]
    have h1 := put_len ps ⟨q.u, q.ps ++ [v], q.ats⟩
    have h2 := (unhide HG).gl.len
    omega
  have HIN := hide (fun (w' : World) (hb' : Below wn.heap.size wn w') (u y : U2) (hw : Way (upS (putP ps ⟨q.u, q.ps ++ [v], q.ats⟩)) u y) => show Calls Try.prog 12 #[.slice no es.length ncap, .agg #[.string u.t, .string u.i], .agg #[.string y.t, .string y.i]] w' (fun e w'' => e = .returned (.bool true) ∧ Below w'.heap.size w' w'') from
    (in_any (upS (putP ps ⟨q.u, q.ps ++ [v], q.ats⟩)) es no ncap u y (parsP ps ++ (q.ps ++ [v])) w' hel (hnr.below hb') (steps_up (hna.below hb') hnd hp1000) hN2 hN9).mono fun e w'' ⟨hb2, z, he, hz⟩ => ⟨by rw [he, hz.2 hw], hb2⟩)
  clear hnr hna hnd hp1000 hN2 hN9 hel bn hq4 hnp4 hBf HBf HPf HNP hq3
  generalize es.length = ne at *
  go_wp2_with fail
  go_loopw [11] (fun iv wr => ∃ i : Nat, iv = .int .i64 i ∧ i ≤ M ∧ Below wn.heap.size wn wr) (fun iv _ => M - (intOf iv).toNat)
  case atStart => exact ⟨0, by go_num, Nat.zero_le _, Below.refl _ _⟩
  case round =>
    obtain ⟨i, rfl, him, hb1⟩ := hrel
    have HM12 := hide (show M ≤ 12 by rw [← unhide HGM]; exact (unhide HG).len)
    have hm12 := unhide HM12
    have bw := (unhide HBn).trans (hb1.mono (unhide HBn).size)
    have i0 : (0 : Int) ≤ (i : Int) := by omega
    by_cases hil : i < M
    · have i1 : (i : Int) < (M : Int) := by omega
      obtain ⟨b', off', e', hb', hcx⟩ := rowG_at (unhide HG).row bw (j := i) (by rw [unhide HGM]; exact hil)
      cases e'
      have AT : AtE4 wr b (off + i * 4) (gs[i]'(by rw [unhide HGM]; exact hil)) := AtE4.of hcx
      obtain ⟨y, hy⟩ : ∃ y : U2, y = ⟨(gs[i]'(by rw [unhide HGM]; exact hil)).t, (gs[i]'(by rw [unhide HGM]; exact hil)).i⟩ := ⟨_, rfl⟩
      have a0 : wr.cell? ⟨b, off + i * 4, none⟩ = some (.string y.t) := by rw [hy]; exact AT.c0
      have a1 : wr.cell? ⟨b, off + i * 4 + 1, none⟩ = some (.string y.i) := by rw [hy]; exact AT.c1
      have AB := ((unhide HG).below bw).above9 gcap y
      unfold U2.val at AB
      rw [unhide HGM] at AB
      clear AT hcx hy
      go_wp2_with fail
      refine AB.mono ?_
      clear AB
      rintro _ w2 ⟨b2, lo2, c2, l, rfl, hlr, hab, hl36⟩
      have a0 := (b2.cell (p := ⟨b, off + i * 4, none⟩) (Nat.lt_of_lt_of_le hb bw.size)).trans a0
      have a1 := (b2.cell (p := ⟨b, off + i * 4 + 1, none⟩) (Nat.lt_of_lt_of_le hb bw.size)).trans a1
      have hb2 := Nat.lt_of_lt_of_le (Nat.lt_of_lt_of_le hb bw.size) b2.size
      have b12 := hb1.trans (b2.mono hb1.size)
      have HLR := hide hlr
      have HWY := hide (fun (z : U2) (hz : z ∈ l) => show Way (upS (putP ps ⟨q.u, q.ps ++ [v], q.ats⟩)) y z from by
        obtain ⟨f, hf, hw⟩ := (hab.2 z).1 hz
        exact way_sub (fun a c hc => more_sub (unhide HRI) (unhide HQM) v a c hc) ((Way.step (.here _) hf).trans hw))
      obtain ⟨nl, hnl⟩ : ∃ nl, nl = l.length := ⟨_, rfl⟩
      rw [← hnl] at hl36 ⊢
      have HNL := hide hnl
      clear hlr hab hnl b2
      go_wp2_with fail
      go_loopw [13] (fun jv wr2 => ∃ j : Nat, jv = .int .i64 j ∧ j ≤ nl ∧ Below w2.heap.size w2 wr2) (fun jv _ => nl - (intOf jv).toNat)
      case atStart => exact ⟨0, by go_num, Nat.zero_le _, Below.refl _ _⟩
      case round =>
        rename World => wr2
        obtain ⟨j, rfl, hj, hb3⟩ := hrel
        have b13 := b12.trans (hb3.mono b12.size)
        by_cases hjl : j < nl
        · have q2 : (j : Int) < (nl : Int) := by omega
          have q0 : (0 : Int) ≤ (j : Int) := by omega
          have HJ := hide (show j < l.length by rw [← unhide HNL]; exact hjl)
          obtain ⟨xb, xoff, rfl, hxb, hxc⟩ := rowG_at (unhide HLR) hb3 (unhide HJ)
          have Z : AtE2 wr2 xb (xoff + j * 2) (l[j]'(unhide HJ)) := AtE2.of hxc
          have HW := hide (unhide HWY _ (List.getElem_mem (unhide HJ)))
          obtain ⟨z, hz⟩ : ∃ z, z = l[j]'(unhide HJ) := ⟨_, rfl⟩
          rw [← hz] at Z HW
          clear hz hxc
          obtain ⟨z0, z1⟩ := Z.up
          have u0 := cell_regrown ((hb3.cell (p := ⟨b, off + i * 4, none⟩) hb2).trans a0)
          have u1 := cell_regrown ((hb3.cell (p := ⟨b, off + i * 4 + 1, none⟩) hb2).trans a1)
          have i9 := fun d os => Calls.regrown_of (w := wr2) (d := d) (os := os) (unhide HIN (grow (redrawn wr2 d) os) (b13.trans ((below_regrown wr2 d os).mono b13.size)) y z (unhide HW))
          clear Z
          go_wp2_with fail
          refine wp_region_quiet_below (by kernel_rfl) (by kernel_rfl) ?_
          repeat (first | go_big_quiet_step (fail) | quiet_step (fail))
          quiet_step (exact i9 _ _)
          repeat (first | go_big_quiet_step (fail) | quiet_step (fail))
          refine wpQuiet_nil ?_
          intro _ hw'
          obtain ⟨⟨dq, osq⟩, hw''⟩ := hw'
          subst hw''
          have b7 := hb3.trans ((below_regrown wr2 dq osq).mono hb3.size)
          generalize grow (redrawn wr2 dq) osq = w6 at *
          clear z0 z1 u0 u1 i9
          go_wp2
          go_roundw
          case rel => exact ⟨j + 1, by go_num, by omega, b7⟩
          case measure =>
            simp only [intOf]
            omega
        · have q2 : ¬ (j : Int) < (nl : Int) := by omega
          clear a0 a1
          go_wp2
          go_roundw
          case rel => exact ⟨i + 1, by go_num, by omega, b13⟩
          case measure =>
            simp only [intOf]
            omega
    · have i1 : ¬ (i : Int) < (M : Int) := by omega
      have hPr := kept_of_below hb1 (unhide HPn)
      have u0 := cell_regrown (show wr.cell? ⟨P, 0, none⟩ = some (.string x.t) by rw [Lib.cell_of_heap hPr]; rfl)
      have u1 := cell_regrown (show wr.cell? ⟨P, 1, none⟩ = some (.string x.i) by rw [Lib.cell_of_heap hPr]; rfl)
      have cP := fun d os => Calls.regrown_of (w := wr) (d := d) (os := os) (unhide HPK (grow (redrawn wr d) os) (bw.trans ((below_regrown wr d os).mono bw.size)))
      have cI := fun d os => Calls.regrown_of (w := wr) (d := d) (os := os) (unhide HIN (grow (redrawn wr d) os) (hb1.trans ((below_regrown wr d os).mono hb1.size)) ⟨x.t, x.i⟩ v (by rw [unhide HXU]; exact more_step (unhide HRI) q v))
      rw [unhide HGM] at cP
      have HBE := hide ((unhide HB0).trans (bw.mono (unhide HB0).size))
      clear hPr
      go_upto_region 19 with fail
      refine wp_region_quiet_below (by kernel_rfl) (by kernel_rfl) ?_
      repeat (first | go_big_quiet_step (fail) | quiet_step (fail))
      quiet_step (exact cP _ _)
      repeat (first | go_big_quiet_step (fail) | quiet_step (fail))
      quiet_step (exact cI _ _)
      repeat (first | go_big_quiet_step (fail) | quiet_step (fail))
      refine wpQuiet_nil ?_
      intro _ hw'
      obtain ⟨⟨dq, osq⟩, hw''⟩ := hw'
      subst hw''
      have bq := below_regrown wr dq osq
      have HBF := hide ((unhide HBE).trans (bq.mono (unhide HBE).size))
      clear u0 u1 cP cI bq
      generalize grow (redrawn wr dq) osq = w6 at *
      go_wp2
      go_ret
      exact ⟨rfl, unhide HBF⟩
end Go.Proofs.Ytfnfdpkndkcmbaa
