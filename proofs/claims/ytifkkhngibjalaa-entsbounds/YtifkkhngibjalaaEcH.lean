/-
  ents.Put: what it returns.
-/
import Derived.Test.YtifkkhngibjalaaEcG
namespace Go.Proofs.Ytifkkhngibjalaa
open Go.RowKit Go.Sort

set_option maxHeartbeats 4000000 in
set_option maxRecDepth 1000000 in
theorem put_any (es : List E4) (ps : List EntP) (ao : Option Addr) (cap : Nat) (e : E4) (p : EntP) (w : World) (hr : RowG w ao 4 (es.map E4.cells)) (hcap : es.length ≤ cap) (hA : AllEnt w (fun _ => True) es ps) (he : IsEnt w (fun _ => True) e p) (hri : RisingP ps) (hf : ∀ q ∈ ps, q.fits) (hfp : p.fits) (hl : ps.length ≤ 1000000) :
    Calls Try.prog 12 #[.slice ao es.length cap, e.val] w fun x w' => RowPost w (putP ps p) (putP ps p).length x w' := by
  obtain ⟨qs, hqs⟩ : ∃ qs, qs = putP ps p := ⟨_, rfl⟩
  obtain ⟨m, hm⟩ : ∃ m, m = qs.length := ⟨_, rfl⟩
  rw [← hqs, ← hm]
  have HQ := hide hqs
  have HM := hide hm
  clear hqs hm
  have b1 := below1 w (.cells #[.string e.t, .string e.i, .slice e.po e.pl e.pc, .slice e.ao e.al e.ac] 34)
  have z1 := size1 w (.cells #[.string e.t, .string e.i, .slice e.po e.pl e.pc, .slice e.ao e.al e.ac] 34)
  have A1 : At4 (w.alloc (.cells #[.string e.t, .string e.i, .slice e.po e.pl e.pc, .slice e.ao e.al e.ac] 34)) w.heap.size 0 e := ⟨by simp, by simp, by simp, by simp⟩
  have hel := hA.1
  have hle : es.length ≤ 1000000 := by omega
  have PL := placeOf_any es (e4u e) ao cap _ (by omega) (hr.below b1) (rising_of hA hri)
  have hu : e4u e = p.u := he.u
  have HR := hide hr
  have HA := hide hA
  have HE := hide he
  have HRI := hide hri
  have HF := hide hf
  have HFP := hide hfp
  have HU := hide hu
  have HEL := hide hel
  clear hr hA he hri hf hfp hu hel
  have hpc : e4u e = ⟨e.t, e.i⟩ := rfl
  unfold U2.val at PL
  simp only [hpc] at PL
  clear hpc
  unfold E4.val
  go_enter Try.func12, Try.ntmps12
  go_wp2_with fail
  generalize w.alloc _ = w1 at *
  refine PL.mono ?_
  clear PL
  rintro x w2 ⟨i, hc, rfl, b2⟩
  have b02 := b1.trans (b2.mono b1.size)
  have hile := hc.le
  obtain ⟨ao1, hao1, hsl1⟩ := run_cutE_l ao es.length cap i hile
  have hslh := fun W => run_cutE_h ao es.length cap i (by omega) W
  have A2 := A1.below b2 (by omega)
  have row1 : RowG w2 ao1 4 ((es.drop i).map E4.cells) := by
    rw [hao1, List.map_drop]
    exact rowG_drop ((unhide HR).below b02) i cap (by simpa using hcap)
  have HP := hide (cut_parts (u := p.u) (i := i) (unhide HRI) (by have := unhide HEL; omega) (fun k hk hki => by
      have h1 := hc.lo k (by have := unhide HEL; omega) hki
      rw [((unhide HA).2 k (by have := unhide HEL; omega) hk).u.symm, ← unhide HU]
      exact h1) (fun k hk hki => by
      have h1 := hc.hi k (by have := unhide HEL; omega) hki
      rw [((unhide HA).2 k (by have := unhide HEL; omega) hk).u.symm, ← unhide HU]
      exact h1))
  have Hc := hide hc
  have Hao1 := hide hao1
  clear hc hao1
  cases hat : isAt es ⟨e.t, e.i⟩ i with
  | false =>
    have HQS : Hid (qs = ps.take i ++ ([p] ++ ps.drop i)) := hide (by
      have hx : ¬ ∃ h : i < ps.length, ps[i].u = p.u := fun ⟨h, hu⟩ => by
        have h' : i < es.length := by have := unhide HEL; omega
        have h1 := ((unhide HA).2 i h' h).u
        unfold isAt at hat
        rw [List.getElem?_eq_getElem h', decide_eq_false_iff_not] at hat
        exact hat ((h1.trans hu).trans (unhide HU).symm)
      rw [unhide HQ, putP, (unhide HP).1, (unhide HP).2, if_neg hx]
      rfl)
    clear hat HP
    have HRB := hide row1
    clear row1
    obtain ⟨bo, hbo⟩ : ∃ bo, bo = ao1 := ⟨_, rfl⟩
    obtain ⟨nb, hnb0⟩ : ∃ nb, nb = es.length - i := ⟨_, rfl⟩
    obtain ⟨cb, hcb⟩ : ∃ cb, cb = cap - i := ⟨_, rfl⟩
    rw [← hbo, ← hnb0, ← hcb] at hsl1
    rw [← hbo] at HRB
    have Hnb0 := hide hnb0
    clear hbo hcb Hao1
    have hnb0' := hnb0
    clear hnb0
    have hnb : nb = (es.drop i).length := by rw [List.length_drop]; exact hnb0'
    have HNB := hide hnb
    clear hnb hnb0'
    go_upto_region 5 with fail
    refine wp_specs_put 6 (putSp ao bo es.length cap i nb cb e) (fun w' => Below w2.heap.size w2 w') (by kernel_rfl) (by kernel_rfl) (Below.refl _ w2).drew ?_ ?_
    · intro j o hj ho a' w' hR hdep hslot K hK
      obtain ⟨c0, c1, c2, c3⟩ := A2.below hR (by have := b2.size; omega)
      simp only [Nat.zero_add] at c1 c2 c3
      have hc : j = 0 ∨ j = 1 ∨ j = 2 ∨ j = 3 ∨ j = 4 ∨ j = 5 := by omega
      rcases hc with rfl | rfl | rfl | rfl | rfl | rfl
      · cases ho
        have e : a'.tmps.getD 0 undef = .slice ao es.length cap := hslot 0 (by decide)
        unfold Oper.wp
        go_simp
        exact hK _ _ rfl hR (fun _ _ h => h)
      · cases ho
        have e : a'.tmps.getD 5 undef = .int .i64 i := hslot 5 (by decide)
        unfold Oper.wp
        go_simp
        exact hK _ _ rfl hR (fun _ _ h => h)
      · cases ho
        have e1 : a'.tmps.getD 21 undef = .slice ao es.length cap := hdep 0 (by kernel_rfl)
        have e2 : a'.tmps.getD 22 undef = .int .i64 i := hdep 1 (by kernel_rfl)
        unfold Oper.wp
        go_simp
        exact hK _ _ rfl hR (fun _ _ h => h)
      · cases ho
        have e : a'.tmps.getD 3 undef = .pointer (some ⟨w.heap.size, 0, none⟩) := hslot 3 (by decide)
        unfold Oper.wp
        go_simp
        exact hK _ _ rfl hR (fun _ _ h => h)
      · cases ho
        have e1 : a'.tmps.getD 24 undef = .agg #[.string e.t, .string e.i, .slice e.po e.pl e.pc, .slice e.ao e.al e.ac] := hdep 3 (by kernel_rfl)
        have e1' : a'.tmps[24]?.getD undef = .agg #[.string e.t, .string e.i, .slice e.po e.pl e.pc, .slice e.ao e.al e.ac] := by simpa using e1
        unfold Oper.wp
        go_simp
        exact hK _ _ ⟨w'.heap.size, rfl, by simp, ⟨by simp, by simp, by simp, by simp⟩⟩ (hR.alloc hR.size _) (putSp_up (below1 _ _))
      · cases ho
        have e : a'.tmps.getD 7 undef = .slice bo nb cb := hslot 7 (by decide)
        unfold Oper.wp
        go_simp
        exact hK _ _ rfl hR (fun _ _ h => h)
    · intro v w' hR hall
      have f0 := hall 0 (by decide)
      have f1 := hall 1 (by decide)
      have f2 := hall 2 (by decide)
      have f3 := hall 3 (by decide)
      obtain ⟨gb, f4, hgb, Ag⟩ := hall 4 (by decide)
      have f5 := hall 5 (by decide)
      unfold putSp at f0 f1 f2 f3 f5
      have b03 := b02.trans (hR.mono b02.size)
      have bn := below1 w' (.cells #[.slice ao i cap, .slice (some ⟨gb, 0, none⟩) 1 1, .slice bo nb cb] 47)
      have b04 := b03.trans (bn.mono b03.size)
      have hln : (es.take i).length = i := by rw [List.length_take]; omega
      have CR := copyRow_any [⟨ao, cap, es.take i⟩, ⟨some ⟨gb, 0, none⟩, 1, [e]⟩, ⟨bo, cb, es.drop i⟩] (some ⟨w'.heap.size, 0, none⟩) 3 qs (fun _ => True) (w'.alloc (.cells #[.slice ao i cap, .slice (some ⟨gb, 0, none⟩) 1 1, .slice bo nb cb] 47)) (by simp)
        (fun k hk => by
          refine ⟨w'.heap.size, 0, rfl, by simp, ?_⟩
          match k, hk with
          | 0, _ => simp [hln]
          | 1, _ => simp
          | 2, _ => simp [unhide HNB])
        (fun r hrm => by
          simp only [List.mem_cons, List.not_mem_nil, or_false] at hrm
          rcases hrm with rfl | rfl | rfl
          · simp only [List.map_take]
            exact rowG_take ((unhide HR).below b04) i
          · intro j hj
            obtain rfl : j = 0 := by simp at hj; omega
            have A := Ag.below bn hgb
            refine ⟨gb, 0, rfl, Nat.lt_of_lt_of_le hgb bn.size, fun c v hv => ?_⟩
            simp only [List.map_cons, List.map_nil, List.getElem_cons_zero, E4.cells] at hv
            match c, hv with
            | 0, hv => cases hv; exact A.c0
            | 1, hv => cases hv; exact A.c1
            | 2, hv => cases hv; exact A.c2
            | 3, hv => cases hv; exact A.c3
            | _ + 4, hv => simp at hv
          · exact RowG.below (unhide HRB) ((hR.trans (bn.mono hR.size))))
        (by
          rw [unhide HQS]
          have h1 := (unhide HA).below b04
          have e1 : allE [⟨ao, cap, es.take i⟩, ⟨some ⟨gb, 0, none⟩, 1, [e]⟩, ⟨bo, cb, es.drop i⟩] = es.take i ++ ([e] ++ es.drop i) := by simp [allE]
          rw [e1]
          exact allEnt_append (allEnt_take h1 i) (allEnt_append (allEnt_one ((unhide HE).below b04)) (allEnt_drop h1 (i))))
        (fun q hq => by
          rw [unhide HQS] at hq
          simp only [List.mem_append, List.mem_cons, List.not_mem_nil, or_false] at hq
          rcases hq with hq | rfl | hq
          · exact unhide HF q (List.mem_of_mem_take hq)
          · exact unhide HFP
          · exact unhide HF q (List.mem_of_mem_drop hq))
        (by
          rw [unhide HQS]
          have := unhide HEL
          simp
          omega)
      rw [← unhide HM] at CR
      clear hall Ag hln
      simp only [putAll, dstOf, List.getElem?_cons_zero, List.getElem?_cons_succ, Option.bind_some, List.drop_succ_cons, List.drop_zero, f0, f1, f2, f3, f4, f5]
      clear f0 f1 f2 f3 f4 f5
      simp only [Act.put, List.setIfInBounds_toArray, List.set_cons_succ, List.set_cons_zero]
      simp only [List.length_cons, List.length_nil, Nat.zero_add, Nat.reduceAdd] at CR
      go_wp2_with fail
      refine CR.mono ?_
      rintro x w5 ⟨b5, G, es', rfl, hrow, hall', hG⟩
      have Hrow := hide hrow
      have Hall := hide hall'
      clear hrow hall' CR
      go_wp2
      go_ret
      exact ⟨b04.trans (b5.mono b04.size), G, es', rfl, unhide Hrow, unhide Hall, Nat.le_trans b04.size hG⟩
  | true =>
    have hil : i < es.length := by
      rcases Nat.lt_or_ge i es.length with h | h
      · exact h
      · unfold isAt at hat
        rw [List.getElem?_eq_none h] at hat
        cases hat
    have HQS : Hid (qs = ps.take i ++ ([p] ++ ps.drop (i + 1))) := hide (by
      have hx : ∃ h : i < ps.length, ps[i].u = p.u := by
        have h' : i < ps.length := by have := unhide HEL; omega
        refine ⟨h', ?_⟩
        have h1 := ((unhide HA).2 i hil h').u
        unfold isAt at hat
        rw [List.getElem?_eq_getElem hil, decide_eq_true_eq] at hat
        exact h1.symm.trans ((show (⟨es[i].t, es[i].i⟩ : U2) = ⟨e.t, e.i⟩ from hat).trans (unhide HU))
      rw [unhide HQ, putP, (unhide HP).1, (unhide HP).2, if_pos hx]
      rfl)
    clear hat HP
    obtain ⟨ao2, hao2, hsl2⟩ := run_cutE_l ao1 (es.length - i) (cap - i) 1 (by omega)
    have row2 : RowG w2 ao2 4 ((es.drop (i + 1)).map E4.cells) := by
      rw [hao2, show es.drop (i + 1) = (es.drop i).drop 1 by rw [List.drop_drop], List.map_drop]
      exact rowG_drop row1 1 (cap - i) (by simp; omega)
    have HRB := hide row2
    obtain ⟨bo, hbo⟩ : ∃ bo, bo = ao2 := ⟨_, rfl⟩
    obtain ⟨nb, hnb0⟩ : ∃ nb, nb = es.length - i - 1 := ⟨_, rfl⟩
    obtain ⟨cb, hcb⟩ : ∃ cb, cb = cap - i - 1 := ⟨_, rfl⟩
    rw [← hbo, ← hnb0, ← hcb] at hsl2
    rw [← hbo] at HRB
    have hnb0' : nb = es.length - (i + 1) := by omega
    clear hnb0
    obtain ⟨n1, hn1⟩ : ∃ n1, n1 = es.length - i := ⟨_, rfl⟩
    obtain ⟨c1, hc1⟩ : ∃ c1, c1 = cap - i := ⟨_, rfl⟩
    rw [← hn1, ← hc1] at hsl1 hsl2
    have hsl3 : ∀ W, (Instr.slice 47 (.slice ao1 n1 c1) (some (.int .i64 1)) none none).run Try.prog W = .ok (.slice bo nb cb) W := hsl2
    clear hsl2
    clear hbo hcb Hao1 row1 row2 hao2 hn1 hc1
    have hnb : nb = (es.drop (i + 1)).length := by rw [List.length_drop]; exact hnb0'
    have HNB := hide hnb
    clear hnb hnb0'
    go_upto_region 5 with fail
    refine wp_specs_put 6 (putSp ao bo es.length cap i nb cb e) (fun w' => Below w2.heap.size w2 w') (by kernel_rfl) (by kernel_rfl) (Below.refl _ w2).drew ?_ ?_
    · intro j o hj ho a' w' hR hdep hslot K hK
      obtain ⟨c0, c1, c2, c3⟩ := A2.below hR (by have := b2.size; omega)
      simp only [Nat.zero_add] at c1 c2 c3
      have hc : j = 0 ∨ j = 1 ∨ j = 2 ∨ j = 3 ∨ j = 4 ∨ j = 5 := by omega
      rcases hc with rfl | rfl | rfl | rfl | rfl | rfl
      · cases ho
        have e : a'.tmps.getD 0 undef = .slice ao es.length cap := hslot 0 (by decide)
        unfold Oper.wp
        go_simp
        exact hK _ _ rfl hR (fun _ _ h => h)
      · cases ho
        have e : a'.tmps.getD 5 undef = .int .i64 i := hslot 5 (by decide)
        unfold Oper.wp
        go_simp
        exact hK _ _ rfl hR (fun _ _ h => h)
      · cases ho
        have e1 : a'.tmps.getD 21 undef = .slice ao es.length cap := hdep 0 (by kernel_rfl)
        have e2 : a'.tmps.getD 22 undef = .int .i64 i := hdep 1 (by kernel_rfl)
        unfold Oper.wp
        go_simp
        exact hK _ _ rfl hR (fun _ _ h => h)
      · cases ho
        have e : a'.tmps.getD 3 undef = .pointer (some ⟨w.heap.size, 0, none⟩) := hslot 3 (by decide)
        unfold Oper.wp
        go_simp
        exact hK _ _ rfl hR (fun _ _ h => h)
      · cases ho
        have e1 : a'.tmps.getD 24 undef = .agg #[.string e.t, .string e.i, .slice e.po e.pl e.pc, .slice e.ao e.al e.ac] := hdep 3 (by kernel_rfl)
        have e1' : a'.tmps[24]?.getD undef = .agg #[.string e.t, .string e.i, .slice e.po e.pl e.pc, .slice e.ao e.al e.ac] := by simpa using e1
        unfold Oper.wp
        go_simp
        exact hK _ _ ⟨w'.heap.size, rfl, by simp, ⟨by simp, by simp, by simp, by simp⟩⟩ (hR.alloc hR.size _) (putSp_up (below1 _ _))
      · cases ho
        have e : a'.tmps.getD 7 undef = .slice bo nb cb := hslot 7 (by decide)
        unfold Oper.wp
        go_simp
        exact hK _ _ rfl hR (fun _ _ h => h)
    · intro v w' hR hall
      have f0 := hall 0 (by decide)
      have f1 := hall 1 (by decide)
      have f2 := hall 2 (by decide)
      have f3 := hall 3 (by decide)
      obtain ⟨gb, f4, hgb, Ag⟩ := hall 4 (by decide)
      have f5 := hall 5 (by decide)
      unfold putSp at f0 f1 f2 f3 f5
      have b03 := b02.trans (hR.mono b02.size)
      have bn := below1 w' (.cells #[.slice ao i cap, .slice (some ⟨gb, 0, none⟩) 1 1, .slice bo nb cb] 47)
      have b04 := b03.trans (bn.mono b03.size)
      have hln : (es.take i).length = i := by rw [List.length_take]; omega
      have CR := copyRow_any [⟨ao, cap, es.take i⟩, ⟨some ⟨gb, 0, none⟩, 1, [e]⟩, ⟨bo, cb, es.drop (i + 1)⟩] (some ⟨w'.heap.size, 0, none⟩) 3 qs (fun _ => True) (w'.alloc (.cells #[.slice ao i cap, .slice (some ⟨gb, 0, none⟩) 1 1, .slice bo nb cb] 47)) (by simp)
        (fun k hk => by
          refine ⟨w'.heap.size, 0, rfl, by simp, ?_⟩
          match k, hk with
          | 0, _ => simp [hln]
          | 1, _ => simp
          | 2, _ => simp [unhide HNB])
        (fun r hrm => by
          simp only [List.mem_cons, List.not_mem_nil, or_false] at hrm
          rcases hrm with rfl | rfl | rfl
          · simp only [List.map_take]
            exact rowG_take ((unhide HR).below b04) i
          · intro j hj
            obtain rfl : j = 0 := by simp at hj; omega
            have A := Ag.below bn hgb
            refine ⟨gb, 0, rfl, Nat.lt_of_lt_of_le hgb bn.size, fun c v hv => ?_⟩
            simp only [List.map_cons, List.map_nil, List.getElem_cons_zero, E4.cells] at hv
            match c, hv with
            | 0, hv => cases hv; exact A.c0
            | 1, hv => cases hv; exact A.c1
            | 2, hv => cases hv; exact A.c2
            | 3, hv => cases hv; exact A.c3
            | _ + 4, hv => simp at hv
          · exact RowG.below (unhide HRB) ((hR.trans (bn.mono hR.size))))
        (by
          rw [unhide HQS]
          have h1 := (unhide HA).below b04
          have e1 : allE [⟨ao, cap, es.take i⟩, ⟨some ⟨gb, 0, none⟩, 1, [e]⟩, ⟨bo, cb, es.drop (i + 1)⟩] = es.take i ++ ([e] ++ es.drop (i + 1)) := by simp [allE]
          rw [e1]
          exact allEnt_append (allEnt_take h1 i) (allEnt_append (allEnt_one ((unhide HE).below b04)) (allEnt_drop h1 ((i + 1)))))
        (fun q hq => by
          rw [unhide HQS] at hq
          simp only [List.mem_append, List.mem_cons, List.not_mem_nil, or_false] at hq
          rcases hq with hq | rfl | hq
          · exact unhide HF q (List.mem_of_mem_take hq)
          · exact unhide HFP
          · exact unhide HF q (List.mem_of_mem_drop hq))
        (by
          rw [unhide HQS]
          have := unhide HEL
          simp
          omega)
      rw [← unhide HM] at CR
      clear hall Ag hln
      simp only [putAll, dstOf, List.getElem?_cons_zero, List.getElem?_cons_succ, Option.bind_some, List.drop_succ_cons, List.drop_zero, f0, f1, f2, f3, f4, f5]
      clear f0 f1 f2 f3 f4 f5
      simp only [Act.put, List.setIfInBounds_toArray, List.set_cons_succ, List.set_cons_zero]
      simp only [List.length_cons, List.length_nil, Nat.zero_add, Nat.reduceAdd] at CR
      go_wp2_with fail
      refine CR.mono ?_
      rintro x w5 ⟨b5, G, es', rfl, hrow, hall', hG⟩
      have Hrow := hide hrow
      have Hall := hide hall'
      clear hrow hall' CR
      go_wp2
      go_ret
      exact ⟨b04.trans (b5.mono b04.size), G, es', rfl, unhide Hrow, unhide Hall, Nat.le_trans b04.size hG⟩
end Go.Proofs.Ytifkkhngibjalaa
