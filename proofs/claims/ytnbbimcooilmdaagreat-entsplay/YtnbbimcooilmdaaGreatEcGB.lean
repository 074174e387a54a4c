/-
  ents.Put: plain, and rows cut (no walk in it).
  ents.Put: what it returns.
  ents.Get: what it returns.
  chancellaw8.known: what it returns.
  chancellaw8.letter; rows that are owned; what rows of letters are told.
-/
import Derived.Test.YtnbbimcooilmdaaGreatEcF
import Derived.Test.YtnbbimcooilmdaaGreatEpA
import Derived.Test.YtnbbimcooilmdaaGreatEcE
import Derived.Test.YtnbbimcooilmdaaGreatEnD
namespace Go.Proofs.YtnbbimcooilmdaaGreat
open Go.RowKit Go.Sort

/-- Entities that stand by their uids, as plain data. -/
def RisingP (ps : List EntP) : Prop := (ps.map EntP.u).Pairwise fun a b => lessU a b = true
/-- One more, in its place. -/
def putP (ps : List EntP) (p : EntP) : List EntP := ps.filter (fun q => lessU q.u p.u) ++ p :: ps.filter (fun q => lessU p.u q.u)
theorem allEnt_u {w : World} {P : Nat → Prop} {es : List E4} {ps : List EntP} (h : AllEnt w P es ps) : es.map e4u = ps.map EntP.u := by
  apply List.ext_getElem
  · simpa using h.1
  · intro i h1 h2
    simp only [List.getElem_map]
    exact (h.2 i (by simpa using h1) (by simpa using h2)).u
theorem rising_of {w : World} {P : Nat → Prop} {es : List E4} {ps : List EntP} (h : AllEnt w P es ps) (hr : RisingP ps) : RisingE es := by
  unfold RisingE
  rw [allEnt_u h]
  exact hr
theorem allEnt_take {w : World} {P : Nat → Prop} {es : List E4} {ps : List EntP} (h : AllEnt w P es ps) (k : Nat) : AllEnt w P (es.take k) (ps.take k) :=
  ⟨by rw [List.length_take, List.length_take, h.1], fun j h1 h2 => by
    rw [List.getElem_take, List.getElem_take]
    exact h.2 j (by rw [List.length_take] at h1; omega) (by rw [List.length_take] at h2; omega)⟩
theorem allEnt_drop {w : World} {P : Nat → Prop} {es : List E4} {ps : List EntP} (h : AllEnt w P es ps) (k : Nat) : AllEnt w P (es.drop k) (ps.drop k) :=
  ⟨by rw [List.length_drop, List.length_drop, h.1], fun j h1 h2 => by
    rw [List.getElem_drop, List.getElem_drop]
    exact h.2 (k + j) (by rw [List.length_drop] at h1; omega) (by rw [List.length_drop] at h2; omega)⟩
theorem allEnt_append {w : World} {P : Nat → Prop} {es es' : List E4} {ps ps' : List EntP} (h : AllEnt w P es ps) (h' : AllEnt w P es' ps') : AllEnt w P (es ++ es') (ps ++ ps') :=
  ⟨by rw [List.length_append, List.length_append, h.1, h'.1], fun j h1 h2 => by
    have hl := h.1
    rcases Nat.lt_or_ge j es.length with hj | hj
    · rw [List.getElem_append_left hj, List.getElem_append_left (by omega)]
      exact h.2 j hj (by omega)
    · rw [List.getElem_append_right hj, List.getElem_append_right (by omega)]
      have h3 : j - es.length < es'.length := by rw [List.length_append] at h1; omega
      have h4 : j - ps.length < ps'.length := by rw [List.length_append] at h2; omega
      have := h'.2 (j - es.length) h3 (by omega)
      simp only [hl] at this ⊢
      exact this⟩
theorem allEnt_one {w : World} {P : Nat → Prop} {e : E4} {p : EntP} (h : IsEnt w P e p) : AllEnt w P [e] [p] :=
  ⟨rfl, fun j h1 _ => by
    obtain rfl : j = 0 := by simp at h1; omega
    exact h⟩
/-- The place of a uid, told by what stands ahead and behind. -/
theorem cut_parts {ps : List EntP} {u : U2} {i : Nat} (hr : RisingP ps) (hle : i ≤ ps.length) (hlo : ∀ k (h : k < ps.length), k < i → lessU ps[k].u u = true) (hhi : ∀ k (h : k < ps.length), i ≤ k → lessU ps[k].u u = false) :
    ps.filter (fun q => lessU q.u u) = ps.take i ∧ ps.filter (fun q => lessU u q.u) = ps.drop (if (∃ h : i < ps.length, ps[i].u = u) then i + 1 else i) := by
  have hsplit : ps = ps.take i ++ ps.drop i := (List.take_append_drop i ps).symm
  have ht : ∀ q ∈ ps.take i, lessU q.u u = true := fun q hq => by
    obtain ⟨k, hk, rfl⟩ := List.getElem_of_mem hq
    rw [List.getElem_take]
    rw [List.length_take] at hk
    exact hlo k (by omega) (by omega)
  have hd : ∀ q ∈ ps.drop i, lessU q.u u = false := fun q hq => by
    obtain ⟨k, hk, rfl⟩ := List.getElem_of_mem hq
    rw [List.getElem_drop]
    rw [List.length_drop] at hk
    exact hhi (i + k) (by omega) (by omega)
  have asym : ∀ a b, lessU a b = true → lessU b a = false := fun a b h => by
    cases h2 : lessU b a
    · rfl
    · have := sto_lessU.trans _ _ _ h h2
      rw [sto_lessU.irr] at this
      cases this
  constructor
  · conv => lhs; rw [hsplit]
    rw [List.filter_append, List.filter_eq_self.2 ht, List.filter_eq_nil_iff.2 (fun q hq => by rw [hd q hq]; decide), List.append_nil]
  · conv => lhs; rw [hsplit]
    rw [List.filter_append, List.filter_eq_nil_iff.2 (fun q hq => by rw [asym _ _ (ht q hq)]; decide), List.nil_append]
    by_cases hx : ∃ h : i < ps.length, ps[i].u = u
    · rw [if_pos hx]
      obtain ⟨hi, hu⟩ := hx
      rw [List.drop_eq_getElem_cons hi, List.filter_cons, if_neg (by rw [hu, sto_lessU.irr]; decide)]
      refine List.filter_eq_self.2 fun q hq => ?_
      obtain ⟨k, hk, rfl⟩ := List.getElem_of_mem hq
      rw [List.getElem_drop]
      rw [List.length_drop] at hk
      have := List.pairwise_iff_getElem.1 hr i (i + 1 + k) (by simpa using hi) (by simp; omega) (by omega)
      simp only [List.getElem_map] at this
      rw [hu] at this
      exact this
    · rw [if_neg hx]
      refine List.filter_eq_self.2 fun q hq => ?_
      obtain ⟨k, hk, rfl⟩ := List.getElem_of_mem hq
      rw [List.getElem_drop]
      rw [List.length_drop] at hk
      rcases sto_lessU.tri u ps[i + k].u with h | h | h
      · exact h
      · exfalso
        by_cases hk0 : k = 0
        · subst hk0
          exact hx ⟨by omega, h.symm⟩
        · have h1 := List.pairwise_iff_getElem.1 hr i (i + k) (by simp; omega) (by simp; omega) (by omega)
          simp only [List.getElem_map] at h1
          rw [← h] at h1
          have := hhi i (by omega) (Nat.le_refl _)
          rw [h1] at this
          cases this
      · have := hhi (i + k) (by omega) (by omega)
        rw [h] at this
        cases this

theorem rowG_take {w : World} {ao : Option Addr} {n : Nat} {l : List (List Value)} (h : RowG w ao n l) (k : Nat) : RowG w ao n (l.take k) := fun j hj => by
  rw [List.length_take] at hj
  obtain ⟨b, off, e, hb, hc⟩ := h j (by omega)
  exact ⟨b, off, e, hb, fun c v hv => hc c v (by rwa [List.getElem_take] at hv)⟩
theorem rowG_drop {w : World} {ao : Option Addr} {n : Nat} {l : List (List Value)} (h : RowG w ao n l) (k cap : Nat) (hc : l.length ≤ cap) : RowG w (if cap = k then ao else ao.map (·.add (k * n))) n (l.drop k) := fun j hj => by
  rw [List.length_drop] at hj
  obtain ⟨b, off, e, hb, hcell⟩ := h (k + j) (by omega)
  rw [if_neg (by omega), e]
  refine ⟨b, off + k * n, ?_, hb, fun c v hv => ?_⟩
  · simp [Addr.add_lit]
  · rw [List.getElem_drop] at hv
    have := hcell c v hv
    rw [Nat.add_mul] at this
    rw [show off + k * n + j * n + c = off + (k * n + j * n) + c by omega]
    exact this

/-- What each slot of the region holds. -/
def eputSp (ao bo : Option Addr) (n cap i nb cb : Nat) (e : E4) : Nat → Value → World → Prop
  | 0, v, _ => v = .slice ao n cap
  | 1, v, _ => v = .int .i64 i
  | 2, v, _ => v = .slice ao i cap
  | 3, v, _ => v = .agg #[.string e.t, .string e.i, .slice e.po e.pl e.pc, .slice e.ao e.al e.ac]
  | 4, v, w => ∃ b, v = .slice (some ⟨b, 0, none⟩) 1 1 ∧ b < w.heap.size ∧ AtE4 w b 0 e
  | 5, v, _ => v = .slice bo nb cb
  | _ + 6, _, _ => True
theorem eputSp_up {ao bo : Option Addr} {n cap i nb cb : Nat} {e : E4} {w w' : World} (hb : Below w.heap.size w w') : ∀ j u, eputSp ao bo n cap i nb cb e j u w → eputSp ao bo n cap i nb cb e j u w'
  | 0, _, h | 1, _, h | 2, _, h | 3, _, h | 5, _, h => h
  | 4, _, ⟨b, e1, h1, h2⟩ => ⟨b, e1, Nat.lt_of_lt_of_le h1 hb.size, h2.below hb h1⟩
  | _ + 6, _, _ => trivial

end Go.Proofs.YtnbbimcooilmdaaGreat

namespace Go.Proofs.YtnbbimcooilmdaaGreat
open Go.RowKit Go.Sort

set_option maxHeartbeats 4000000 in
set_option maxRecDepth 1000000 in
theorem eput_any (es : List E4) (ps : List EntP) (ao : Option Addr) (cap : Nat) (e : E4) (p : EntP) (w : World) (hr : RowG w ao 4 (es.map E4.cells)) (hcap : es.length ≤ cap) (hA : AllEnt w (fun _ => True) es ps) (he : IsEnt w (fun _ => True) e p) (hri : RisingP ps) (hf : ∀ q ∈ ps, q.fits) (hfp : p.fits) (hl : ps.length ≤ 1000000) :
    Calls Tryz.prog 12 #[.slice ao es.length cap, e.val] w fun x w' => RowPost w (putP ps p) (putP ps p).length x w' := by
  obtain ⟨qs, hqs⟩ : ∃ qs, qs = putP ps p := ⟨_, rfl⟩
  obtain ⟨m, hm⟩ : ∃ m, m = qs.length := ⟨_, rfl⟩
  rw [← hqs, ← hm]
  have HQ := hide hqs
  have HM := hide hm
  clear hqs hm
  have b1 := below1 w (.cells #[.string e.t, .string e.i, .slice e.po e.pl e.pc, .slice e.ao e.al e.ac] 29)
  have z1 := size1 w (.cells #[.string e.t, .string e.i, .slice e.po e.pl e.pc, .slice e.ao e.al e.ac] 29)
  have A1 : AtE4 (w.alloc (.cells #[.string e.t, .string e.i, .slice e.po e.pl e.pc, .slice e.ao e.al e.ac] 29)) w.heap.size 0 e := ⟨by simp, by simp, by simp, by simp⟩
  have hel := hA.1
  have hle : es.length ≤ 1000000 := by omega
  have PL := placeOf_any es (e4u e) ao cap _ (by omega) (hr.below b1) (rising_of hA hri)
  have hu : e4u e = p.u := he.u
  have HR := hide hr
  have HA := hide hA
  have HE := hide he
  have HRI := hide hri
  have HF := hide hf
  have HFP := hide hfp
  have HU := hide hu
  have HEL := hide hel
  clear hr hA he hri hf hfp hu hel
  have hpc : e4u e = ⟨e.t, e.i⟩ := rfl
  unfold U2.val at PL
  simp only [hpc] at PL
  clear hpc
  unfold E4.val
  go_enter Tryz.func12, Tryz.ntmps12
  go_wp2_with fail
  generalize w.alloc _ = w1 at *
  refine PL.mono ?_
  clear PL
  rintro x w2 ⟨i, hc, rfl, b2⟩
  have b02 := b1.trans (b2.mono b1.size)
  have hile := hc.le
  obtain ⟨ao1, hao1, hsl1⟩ := run_cutE_l ao es.length cap i hile
  have hslh := fun W => run_cutE_h ao es.length cap i (by omega) W
  have A2 := A1.below b2 (by omega)
  have row1 : RowG w2 ao1 4 ((es.drop i).map E4.cells) := by
    rw [hao1, List.map_drop]
    exact rowG_drop ((unhide HR).below b02) i cap (by simpa using hcap)
  have HP := hide (cut_parts (u := p.u) (i := i) (unhide HRI) (by have := unhide HEL; omega) (fun k hk hki => by
      have h1 := hc.lo k (by have := unhide HEL; omega) hki
      rw [((unhide HA).2 k (by have := unhide HEL; omega) hk).u.symm, ← unhide HU]
      exact h1) (fun k hk hki => by
      have h1 := hc.hi k (by have := unhide HEL; omega) hki
      rw [((unhide HA).2 k (by have := unhide HEL; omega) hk).u.symm, ← unhide HU]
      exact h1))
  have Hc := hide hc
  have Hao1 := hide hao1
  clear hc hao1
  cases hat : isAt es ⟨e.t, e.i⟩ i with
  | false =>
    have HQS : Hid (qs = ps.take i ++ ([p] ++ ps.drop i)) := hide (by
      have hx : ¬ ∃ h : i < ps.length, ps[i].u = p.u := fun ⟨h, hu⟩ => by
        have h' : i < es.length := by have := unhide HEL; omega
        have h1 := ((unhide HA).2 i h' h).u
        unfold isAt at hat
        rw [List.getElem?_eq_getElem h', decide_eq_false_iff_not] at hat
        exact hat ((h1.trans hu).trans (unhide HU).symm)
      rw [unhide HQ, putP, (unhide HP).1, (unhide HP).2, if_neg hx]
      rfl)
    clear hat HP
    have HRB := hide row1
    clear row1
    obtain ⟨bo, hbo⟩ : ∃ bo, bo = ao1 := ⟨_, rfl⟩
    obtain ⟨nb, hnb0⟩ : ∃ nb, nb = es.length - i := ⟨_, rfl⟩
    obtain ⟨cb, hcb⟩ : ∃ cb, cb = cap - i := ⟨_, rfl⟩
    rw [← hbo, ← hnb0, ← hcb] at hsl1
    rw [← hbo] at HRB
    have Hnb0 := hide hnb0
    clear hbo hcb Hao1
    have hnb0' := hnb0
    clear hnb0
    have hnb : nb = (es.drop i).length := by rw [List.length_drop]; exact hnb0'
    have HNB := hide hnb
    clear hnb hnb0'
    go_upto_region 5 with fail
    refine wp_specs_put 6 (eputSp ao bo es.length cap i nb cb e) (fun w' => Below w2.heap.size w2 w') (by kernel_rfl) (by kernel_rfl) (Below.refl _ w2).drew ?_ ?_
    · intro j o hj ho a' w' hR hdep hslot K hK
      obtain ⟨c0, c1, c2, c3⟩ := A2.below hR (by have := b2.size; omega)
      simp only [Nat.zero_add] at c1 c2 c3
      have hc : j = 0 ∨ j = 1 ∨ j = 2 ∨ j = 3 ∨ j = 4 ∨ j = 5 := by omega
      rcases hc with rfl | rfl | rfl | rfl | rfl | rfl
      · cases ho
        have e : a'.tmps.getD 0 undef = .slice ao es.length cap := hslot 0 (by decide)
        unfold Oper.wp
        go_simp
        exact hK _ _ rfl hR (fun _ _ h => h)
      · cases ho
        have e : a'.tmps.getD 5 undef = .int .i64 i := hslot 5 (by decide)
        unfold Oper.wp
        go_simp
        exact hK _ _ rfl hR (fun _ _ h => h)
      · cases ho
        have e1 : a'.tmps.getD 21 undef = .slice ao es.length cap := hdep 0 (by kernel_rfl)
        have e2 : a'.tmps.getD 22 undef = .int .i64 i := hdep 1 (by kernel_rfl)
        unfold Oper.wp
        go_simp
        exact hK _ _ rfl hR (fun _ _ h => h)
      · cases ho
        have e : a'.tmps.getD 3 undef = .pointer (some ⟨w.heap.size, 0, none⟩) := hslot 3 (by decide)
        unfold Oper.wp
        go_simp
        exact hK _ _ rfl hR (fun _ _ h => h)
      · cases ho
        have e1 : a'.tmps.getD 24 undef = .agg #[.string e.t, .string e.i, .slice e.po e.pl e.pc, .slice e.ao e.al e.ac] := hdep 3 (by kernel_rfl)
        have e1' : a'.tmps[24]?.getD undef = .agg #[.string e.t, .string e.i, .slice e.po e.pl e.pc, .slice e.ao e.al e.ac] := by simpa using e1
        unfold Oper.wp
        go_simp
        exact hK _ _ ⟨w'.heap.size, rfl, by simp, ⟨by simp, by simp, by simp, by simp⟩⟩ (hR.alloc hR.size _) (eputSp_up (below1 _ _))
      · cases ho
        have e : a'.tmps.getD 7 undef = .slice bo nb cb := hslot 7 (by decide)
        unfold Oper.wp
        go_simp
        exact hK _ _ rfl hR (fun _ _ h => h)
    · intro v w' hR hall
      have f0 := hall 0 (by decide)
      have f1 := hall 1 (by decide)
      have f2 := hall 2 (by decide)
      have f3 := hall 3 (by decide)
      obtain ⟨gb, f4, hgb, Ag⟩ := hall 4 (by decide)
      have f5 := hall 5 (by decide)
      unfold eputSp at f0 f1 f2 f3 f5
      have b03 := b02.trans (hR.mono b02.size)
      have bn := below1 w' (.cells #[.slice ao i cap, .slice (some ⟨gb, 0, none⟩) 1 1, .slice bo nb cb] 22)
      have b04 := b03.trans (bn.mono b03.size)
      have hln : (es.take i).length = i := by rw [List.length_take]; omega
      have CR := copyRow_any [⟨ao, cap, es.take i⟩, ⟨some ⟨gb, 0, none⟩, 1, [e]⟩, ⟨bo, cb, es.drop i⟩] (some ⟨w'.heap.size, 0, none⟩) 3 qs (fun _ => True) (w'.alloc (.cells #[.slice ao i cap, .slice (some ⟨gb, 0, none⟩) 1 1, .slice bo nb cb] 22)) (by simp)
        (fun k hk => by
          refine ⟨w'.heap.size, 0, rfl, by simp, ?_⟩
          match k, hk with
          | 0, _ => simp [hln]
          | 1, _ => simp
          | 2, _ => simp [unhide HNB])
        (fun r hrm => by
          simp only [List.mem_cons, List.not_mem_nil, or_false] at hrm
          rcases hrm with rfl | rfl | rfl
          · simp only [List.map_take]
            exact rowG_take ((unhide HR).below b04) i
          · intro j hj
            obtain rfl : j = 0 := by simp at hj; omega
            have A := Ag.below bn hgb
            refine ⟨gb, 0, rfl, Nat.lt_of_lt_of_le hgb bn.size, fun c v hv => ?_⟩
            simp only [List.map_cons, List.map_nil, List.getElem_cons_zero, E4.cells] at hv
            match c, hv with
            | 0, hv => cases hv; exact A.c0
            | 1, hv => cases hv; exact A.c1
            | 2, hv => cases hv; exact A.c2
            | 3, hv => cases hv; exact A.c3
            | _ + 4, hv => simp at hv
          · exact RowG.below (unhide HRB) ((hR.trans (bn.mono hR.size))))
        (by
          rw [unhide HQS]
          have h1 := (unhide HA).below b04
          have e1 : allE [⟨ao, cap, es.take i⟩, ⟨some ⟨gb, 0, none⟩, 1, [e]⟩, ⟨bo, cb, es.drop i⟩] = es.take i ++ ([e] ++ es.drop i) := by simp [allE]
          rw [e1]
          exact allEnt_append (allEnt_take h1 i) (allEnt_append (allEnt_one ((unhide HE).below b04)) (allEnt_drop h1 (i))))
        (fun q hq => by
          rw [unhide HQS] at hq
          simp only [List.mem_append, List.mem_cons, List.not_mem_nil, or_false] at hq
          rcases hq with hq | rfl | hq
          · exact unhide HF q (List.mem_of_mem_take hq)
          · exact unhide HFP
          · exact unhide HF q (List.mem_of_mem_drop hq))
        (by
          rw [unhide HQS]
          have := unhide HEL
          simp
          omega)
      rw [← unhide HM] at CR
      clear hall Ag hln
      simp only [putAll, dstOf, List.getElem?_cons_zero, List.getElem?_cons_succ, Option.bind_some, List.drop_succ_cons, List.drop_zero, f0, f1, f2, f3, f4, f5]
      clear f0 f1 f2 f3 f4 f5
      simp only [Act.put, List.setIfInBounds_toArray, List.set_cons_succ, List.set_cons_zero]
      simp only [List.length_cons, List.length_nil, Nat.zero_add, Nat.reduceAdd] at CR
      go_wp2_with fail
      refine CR.mono ?_
      rintro x w5 ⟨b5, G, es', rfl, hrow, hall', hG⟩
      have Hrow := hide hrow
      have Hall := hide hall'
      clear hrow hall' CR
      go_wp2
      go_ret
      exact ⟨b04.trans (b5.mono b04.size), G, es', rfl, unhide Hrow, unhide Hall, Nat.le_trans b04.size hG⟩
  | true =>
    have hil : i < es.length := by
      rcases Nat.lt_or_ge i es.length with h | h
      · exact h
      · unfold isAt at hat
        rw [List.getElem?_eq_none h] at hat
        cases hat
    have HQS : Hid (qs = ps.take i ++ ([p] ++ ps.drop (i + 1))) := hide (by
      have hx : ∃ h : i < ps.length, ps[i].u = p.u := by
        have h' : i < ps.length := by have := unhide HEL; omega
        refine ⟨h', ?_⟩
        have h1 := ((unhide HA).2 i hil h').u
        unfold isAt at hat
        rw [List.getElem?_eq_getElem hil, decide_eq_true_eq] at hat
        exact h1.symm.trans ((show (⟨es[i].t, es[i].i⟩ : U2) = ⟨e.t, e.i⟩ from hat).trans (unhide HU))
      rw [unhide HQ, putP, (unhide HP).1, (unhide HP).2, if_pos hx]
      rfl)
    clear hat HP
    obtain ⟨ao2, hao2, hsl2⟩ := run_cutE_l ao1 (es.length - i) (cap - i) 1 (by omega)
    have row2 : RowG w2 ao2 4 ((es.drop (i + 1)).map E4.cells) := by
      rw [hao2, show es.drop (i + 1) = (es.drop i).drop 1 by rw [List.drop_drop], List.map_drop]
      exact rowG_drop row1 1 (cap - i) (by simp; omega)
    have HRB := hide row2
    obtain ⟨bo, hbo⟩ : ∃ bo, bo = ao2 := ⟨_, rfl⟩
    obtain ⟨nb, hnb0⟩ : ∃ nb, nb = es.length - i - 1 := ⟨_, rfl⟩
    obtain ⟨cb, hcb⟩ : ∃ cb, cb = cap - i - 1 := ⟨_, rfl⟩
    rw [← hbo, ← hnb0, ← hcb] at hsl2
    rw [← hbo] at HRB
    have hnb0' : nb = es.length - (i + 1) := by omega
    clear hnb0
    obtain ⟨n1, hn1⟩ : ∃ n1, n1 = es.length - i := ⟨_, rfl⟩
    obtain ⟨c1, hc1⟩ : ∃ c1, c1 = cap - i := ⟨_, rfl⟩
    rw [← hn1, ← hc1] at hsl1 hsl2
    have hsl3 : ∀ W, (Instr.slice 22 (.slice ao1 n1 c1) (some (.int .i64 1)) none none).run Tryz.prog W = .ok (.slice bo nb cb) W := hsl2
    clear hsl2
    clear hbo hcb Hao1 row1 row2 hao2 hn1 hc1
    have hnb : nb = (es.drop (i + 1)).length := by rw [List.length_drop]; exact hnb0'
    have HNB := hide hnb
    clear hnb hnb0'
    go_upto_region 5 with fail
    refine wp_specs_put 6 (eputSp ao bo es.length cap i nb cb e) (fun w' => Below w2.heap.size w2 w') (by kernel_rfl) (by kernel_rfl) (Below.refl _ w2).drew ?_ ?_
    · intro j o hj ho a' w' hR hdep hslot K hK
      obtain ⟨c0, c1, c2, c3⟩ := A2.below hR (by have := b2.size; omega)
      simp only [Nat.zero_add] at c1 c2 c3
      have hc : j = 0 ∨ j = 1 ∨ j = 2 ∨ j = 3 ∨ j = 4 ∨ j = 5 := by omega
      rcases hc with rfl | rfl | rfl | rfl | rfl | rfl
      · cases ho
        have e : a'.tmps.getD 0 undef = .slice ao es.length cap := hslot 0 (by decide)
        unfold Oper.wp
        go_simp
        exact hK _ _ rfl hR (fun _ _ h => h)
      · cases ho
        have e : a'.tmps.getD 5 undef = .int .i64 i := hslot 5 (by decide)
        unfold Oper.wp
        go_simp
        exact hK _ _ rfl hR (fun _ _ h => h)
      · cases ho
        have e1 : a'.tmps.getD 21 undef = .slice ao es.length cap := hdep 0 (by kernel_rfl)
        have e2 : a'.tmps.getD 22 undef = .int .i64 i := hdep 1 (by kernel_rfl)
        unfold Oper.wp
        go_simp
        exact hK _ _ rfl hR (fun _ _ h => h)
      · cases ho
        have e : a'.tmps.getD 3 undef = .pointer (some ⟨w.heap.size, 0, none⟩) := hslot 3 (by decide)
        unfold Oper.wp
        go_simp
        exact hK _ _ rfl hR (fun _ _ h => h)
      · cases ho
        have e1 : a'.tmps.getD 24 undef = .agg #[.string e.t, .string e.i, .slice e.po e.pl e.pc, .slice e.ao e.al e.ac] := hdep 3 (by kernel_rfl)
        have e1' : a'.tmps[24]?.getD undef = .agg #[.string e.t, .string e.i, .slice e.po e.pl e.pc, .slice e.ao e.al e.ac] := by simpa using e1
        unfold Oper.wp
        go_simp
        exact hK _ _ ⟨w'.heap.size, rfl, by simp, ⟨by simp, by simp, by simp, by simp⟩⟩ (hR.alloc hR.size _) (eputSp_up (below1 _ _))
      · cases ho
        have e : a'.tmps.getD 7 undef = .slice bo nb cb := hslot 7 (by decide)
        unfold Oper.wp
        go_simp
        exact hK _ _ rfl hR (fun _ _ h => h)
    · intro v w' hR hall
      have f0 := hall 0 (by decide)
      have f1 := hall 1 (by decide)
      have f2 := hall 2 (by decide)
      have f3 := hall 3 (by decide)
      obtain ⟨gb, f4, hgb, Ag⟩ := hall 4 (by decide)
      have f5 := hall 5 (by decide)
      unfold eputSp at f0 f1 f2 f3 f5
      have b03 := b02.trans (hR.mono b02.size)
      have bn := below1 w' (.cells #[.slice ao i cap, .slice (some ⟨gb, 0, none⟩) 1 1, .slice bo nb cb] 22)
      have b04 := b03.trans (bn.mono b03.size)
      have hln : (es.take i).length = i := by rw [List.length_take]; omega
      have CR := copyRow_any [⟨ao, cap, es.take i⟩, ⟨some ⟨gb, 0, none⟩, 1, [e]⟩, ⟨bo, cb, es.drop (i + 1)⟩] (some ⟨w'.heap.size, 0, none⟩) 3 qs (fun _ => True) (w'.alloc (.cells #[.slice ao i cap, .slice (some ⟨gb, 0, none⟩) 1 1, .slice bo nb cb] 22)) (by simp)
        (fun k hk => by
          refine ⟨w'.heap.size, 0, rfl, by simp, ?_⟩
          match k, hk with
          | 0, _ => simp [hln]
          | 1, _ => simp
          | 2, _ => simp [unhide HNB])
        (fun r hrm => by
          simp only [List.mem_cons, List.not_mem_nil, or_false] at hrm
          rcases hrm with rfl | rfl | rfl
          · simp only [List.map_take]
            exact rowG_take ((unhide HR).below b04) i
          · intro j hj
            obtain rfl : j = 0 := by simp at hj; omega
            have A := Ag.below bn hgb
            refine ⟨gb, 0, rfl, Nat.lt_of_lt_of_le hgb bn.size, fun c v hv => ?_⟩
            simp only [List.map_cons, List.map_nil, List.getElem_cons_zero, E4.cells] at hv
            match c, hv with
            | 0, hv => cases hv; exact A.c0
            | 1, hv => cases hv; exact A.c1
            | 2, hv => cases hv; exact A.c2
            | 3, hv => cases hv; exact A.c3
            | _ + 4, hv => simp at hv
          · exact RowG.below (unhide HRB) ((hR.trans (bn.mono hR.size))))
        (by
          rw [unhide HQS]
          have h1 := (unhide HA).below b04
          have e1 : allE [⟨ao, cap, es.take i⟩, ⟨some ⟨gb, 0, none⟩, 1, [e]⟩, ⟨bo, cb, es.drop (i + 1)⟩] = es.take i ++ ([e] ++ es.drop (i + 1)) := by simp [allE]
          rw [e1]
          exact allEnt_append (allEnt_take h1 i) (allEnt_append (allEnt_one ((unhide HE).below b04)) (allEnt_drop h1 ((i + 1)))))
        (fun q hq => by
          rw [unhide HQS] at hq
          simp only [List.mem_append, List.mem_cons, List.not_mem_nil, or_false] at hq
          rcases hq with hq | rfl | hq
          · exact unhide HF q (List.mem_of_mem_take hq)
          · exact unhide HFP
          · exact unhide HF q (List.mem_of_mem_drop hq))
        (by
          rw [unhide HQS]
          have := unhide HEL
          simp
          omega)
      rw [← unhide HM] at CR
      clear hall Ag hln
      simp only [putAll, dstOf, List.getElem?_cons_zero, List.getElem?_cons_succ, Option.bind_some, List.drop_succ_cons, List.drop_zero, f0, f1, f2, f3, f4, f5]
      clear f0 f1 f2 f3 f4 f5
      simp only [Act.put, List.setIfInBounds_toArray, List.set_cons_succ, List.set_cons_zero]
      simp only [List.length_cons, List.length_nil, Nat.zero_add, Nat.reduceAdd] at CR
      go_wp2_with fail
      refine CR.mono ?_
      rintro x w5 ⟨b5, G, es', rfl, hrow, hall', hG⟩
      have Hrow := hide hrow
      have Hall := hide hall'
      clear hrow hall' CR
      go_wp2
      go_ret
      exact ⟨b04.trans (b5.mono b04.size), G, es', rfl, unhide Hrow, unhide Hall, Nat.le_trans b04.size hG⟩
end Go.Proofs.YtnbbimcooilmdaaGreat

namespace Go.Proofs.YtnbbimcooilmdaaGreat
open Go.RowKit Go.Sort

def getP (l : List (ByteArray × GV)) (nm : ByteArray) : Option (ByteArray × GV) := l.find? fun a => decide (a.1 = nm)
/-- What is told of an attribute. -/
def GetPost (B : Nat) (o : Option (ByteArray × GV)) (x : Ending) (w' : World) : Prop :=
  match o with
  | some a => ∃ R : R7, x = .returned (.tuple #[R.val, .bool true]) ∧ IsGP w' (fun b => B ≤ b) a.2 R
  | none => x = .returned (.tuple #[zero7.val, .bool false])

set_option maxHeartbeats 4000000 in
set_option maxRecDepth 1000000 in
theorem get_any (e : E4) (p : EntP) (nm : ByteArray) (P : Nat → Prop) (w : World) (H : IsEnt w P e p) (hf : p.fits) :
    Calls Tryz.prog 20 #[e.val, .string nm] w fun x w' => Below w.heap.size w w' ∧ GetPost w.heap.size (getP p.ats nm) x w' := by
  obtain ⟨et, ei, po, m, pc, ao, n, ac⟩ := e
  obtain ⟨rs, hal, hrA, hdrop, hAs⟩ := H.ats
  simp only at hal hrA
  have hn : n ≤ 1048576 := by rw [hal, hAs.1]; exact hf.2.1
  have HF := hide hf.2.2
  have HAs := hide hAs
  have HAL := hide hal
  have HRA := hide hrA
  clear H hdrop hf hAs hal hrA
  have b2 := below2 w (.cells #[.string et, .string ei, .slice po m pc, .slice ao n ac] 29) (.cells #[.int .i64 0, .bool false, .int .i64 0, .string ⟨#[]⟩, .string ⟨#[]⟩, .string ⟨#[]⟩, .slice none 0 0] 52)
  unfold E4.val
  simp only
  go_enter Tryz.func20, Tryz.ntmps20
  go_wp2
  generalize hw2 : (w.alloc _).alloc _ = w2 at *
  have z2 : w2.heap.size = w.heap.size + 2 := by rw [← hw2]; simp
  have H2 : w2.heap[w.heap.size + 1]? = some (.cells #[.int .i64 0, .bool false, .int .i64 0, .string ⟨#[]⟩, .string ⟨#[]⟩, .string ⟨#[]⟩, .slice none 0 0] 52 (0, 0)) := by
    rw [← hw2]
    have := alloc_heap (w.alloc (.cells #[.string et, .string ei, .slice po m pc, .slice ao n ac] 29)) (.cells #[.int .i64 0, .bool false, .int .i64 0, .string ⟨#[]⟩, .string ⟨#[]⟩, .string ⟨#[]⟩, .slice none 0 0] 52)
    rwa [size1] at this
  clear hw2
  go_loopw [11] (fun iv wr => ∃ j : Nat, j ≤ n ∧ iv = .int .i64 j ∧ Below w.heap.size w wr ∧ w2.heap.size ≤ wr.heap.size ∧ wr.heap[w.heap.size + 1]? = some (.cells #[.int .i64 0, .bool false, .int .i64 0, .string ⟨#[]⟩, .string ⟨#[]⟩, .string ⟨#[]⟩, .slice none 0 0] 52 (0, 0)) ∧ getP p.ats nm = getP (p.ats.drop j) nm) (fun iv _ => n - (intOf iv).toNat)
  case atStart => exact ⟨0, Nat.zero_le _, rfl, b2, Nat.le_refl _, H2, rfl⟩
  case round =>
    obtain ⟨j, hj, rfl, hbw, hsz, h2, hget⟩ := hrel
    have Hget := hide hget
    clear hget
    have d0 : wr.cell? ⟨w.heap.size + 1, 0, none⟩ = some (.int .i64 0) := by rw [Lib.cell_of_heap h2]; rfl
    have d1 : wr.cell? ⟨w.heap.size + 1, 1, none⟩ = some (.bool false) := by rw [Lib.cell_of_heap h2]; rfl
    have d2 : wr.cell? ⟨w.heap.size + 1, 2, none⟩ = some (.int .i64 0) := by rw [Lib.cell_of_heap h2]; rfl
    have d3 : wr.cell? ⟨w.heap.size + 1, 3, none⟩ = some (.string ⟨#[]⟩) := by rw [Lib.cell_of_heap h2]; rfl
    have d4 : wr.cell? ⟨w.heap.size + 1, 4, none⟩ = some (.string ⟨#[]⟩) := by rw [Lib.cell_of_heap h2]; rfl
    have d5 : wr.cell? ⟨w.heap.size + 1, 5, none⟩ = some (.string ⟨#[]⟩) := by rw [Lib.cell_of_heap h2]; rfl
    have d6 : wr.cell? ⟨w.heap.size + 1, 6, none⟩ = some (.slice none 0 0) := by rw [Lib.cell_of_heap h2]; rfl
    have df : ∀ o, wr.frozen? ⟨w.heap.size + 1, o, none⟩ = false := fun o => Lib.frozen_of_heap h2 o
    by_cases hlt : j < n
    · have i1 : (j : Int) < (n : Int) := by omega
      have hjr : j < rs.length := by rw [← unhide HAL]; exact hlt
      have hja : j < p.ats.length := by rw [← (unhide HAs).1]; exact hjr
      obtain ⟨g, off, rfl, hg, hcell⟩ := rowG_at (unhide HRA) hbw hjr
      have A := AtE8.of hcell
      obtain ⟨hnm, hIG⟩ := (unhide HAs).2 j hjr hja
      have hGl := unhide HF p.ats[j] (List.getElem_mem _)
      have hdr : p.ats.drop j = p.ats[j] :: p.ats.drop (j + 1) := List.drop_eq_getElem_cons hja
      obtain ⟨x, hx⟩ : ∃ x, x = rs[j] := ⟨_, rfl⟩
      rw [← hx] at A hnm hIG
      have HIG := hide hIG.1
      have Hnm := hide hnm
      have Hdr := hide hdr
      clear hcell hx hIG hnm hdr
      obtain ⟨xn, xv⟩ := x
      have A5 : AtE8 (wr.alloc (.cells #[.string xn, .int .i64 xv.k, .bool xv.b, .int .i64 xv.n, .string xv.s, .string xv.t, .string xv.i, .slice xv.lo xv.ll xv.lc] 56)) wr.heap.size 0 ⟨xn, xv⟩ := ⟨by simp, by simp, by simp, by simp, by simp, by simp, by simp, by simp⟩
      have b5 := below1 wr (.cells #[.string xn, .int .i64 xv.k, .bool xv.b, .int .i64 xv.n, .string xv.s, .string xv.t, .string xv.i, .slice xv.lo xv.ll xv.lc] 56)
      have bw5 := hbw.trans (b5.mono hbw.size)
      have z5 := size1 wr (.cells #[.string xn, .int .i64 xv.k, .bool xv.b, .int .i64 xv.n, .string xv.s, .string xv.t, .string xv.i, .slice xv.lo xv.ll xv.lc] 56)
      obtain ⟨a0, a1, a2, a3, a4, a5, a6, a7⟩ := A
      simp only at a0 a1 a2 a3 a4 a5 a6 a7
      by_cases hq : xn = nm
      · subst hq
        have CV := copyValue_any p.ats[j].2 xv _ (IsG.below (IsG.below (unhide HIG) hbw) b5) hGl
        unfold R7.val at CV
        have HG : Hid (getP p.ats xn = some p.ats[j]) := hide (by
          rw [unhide Hget, unhide Hdr, getP, List.find?_cons]
          have : decide (p.ats[j].1 = xn) = true := decide_eq_true (unhide Hnm).symm
          rw [this])
        have H2' := kept_of_below b5 h2
        clear d0 d1 d2 d3 d4 d5 d6 df h2
        go_wp2_with fail
        clear a0 a1 a2 a3 a4 a5 a6 a7 A5
        generalize wr.alloc _ = w5 at *
        refine CV.mono ?_
        rintro e w6 ⟨y, rfl, b6, hy⟩
        have H2'' := kept_of_below b6 H2'
        have d0 : w6.cell? ⟨w.heap.size + 1, 0, none⟩ = some (.int .i64 0) := by rw [Lib.cell_of_heap H2'']; rfl
        have d1 : w6.cell? ⟨w.heap.size + 1, 1, none⟩ = some (.bool false) := by rw [Lib.cell_of_heap H2'']; rfl
        have d2 : w6.cell? ⟨w.heap.size + 1, 2, none⟩ = some (.int .i64 0) := by rw [Lib.cell_of_heap H2'']; rfl
        have d3 : w6.cell? ⟨w.heap.size + 1, 3, none⟩ = some (.string ⟨#[]⟩) := by rw [Lib.cell_of_heap H2'']; rfl
        have d4 : w6.cell? ⟨w.heap.size + 1, 4, none⟩ = some (.string ⟨#[]⟩) := by rw [Lib.cell_of_heap H2'']; rfl
        have d5 : w6.cell? ⟨w.heap.size + 1, 5, none⟩ = some (.string ⟨#[]⟩) := by rw [Lib.cell_of_heap H2'']; rfl
        have d6 : w6.cell? ⟨w.heap.size + 1, 6, none⟩ = some (.slice none 0 0) := by rw [Lib.cell_of_heap H2'']; rfl
        have df : ∀ o, w6.frozen? ⟨w.heap.size + 1, o, none⟩ = false := fun o => Lib.frozen_of_heap H2'' o
        have bw6 := bw5.trans (b6.mono bw5.size)
        have Hb := hide (belowSetCells (b := w.heap.size + 1) y.cells 0 w6 bw6 (Nat.le_succ _))
        have Hy := hide (hy.turn (w' := w6.setCells (w.heap.size + 1) 0 y.cells) (P' := fun b => w.heap.size ≤ b) (by rw [size_setCells]; exact Nat.le_refl _) (fun b hb _ => ⟨heap_setCells (by omega) _ _ _, by have := hbw.size; omega⟩))
        clear CV hy H2' H2''
        go_wp2
        refine bodyPost_ret (v := .tuple #[.agg #[.int .i64 y.k, .bool y.b, .int .i64 y.n, .string y.s, .string y.t, .string y.i, .slice y.lo y.ll y.lc], .bool true]) (by simp [results, Tryz.results20, go_sem, d0, d1, d2, d3, d4, d5, d6]) rfl ⟨unhide Hb, ?_⟩
        unfold GetPost
        rw [unhide HG]
        exact ⟨y, rfl, unhide Hy⟩
      · have hb : (xn.toList == nm.toList) = false := bytes_ne hq
        have HG : Hid (getP p.ats nm = getP (p.ats.drop (j + 1)) nm) := hide (by
          rw [unhide Hget, unhide Hdr, getP, List.find?_cons]
          have : decide (p.ats[j].1 = nm) = false := decide_eq_false (by rw [← unhide Hnm]; exact hq)
          rw [this]
          rfl)
        have H2' := hide (kept_of_below b5 h2)
        clear d0 d1 d2 d3 d4 d5 d6 df h2 hq
        go_wp2
        go_roundw
        case rel => exact ⟨j + 1, by omega, by go_num, bw5, by omega, unhide H2', unhide HG⟩
        case measure =>
          simp only [intOf]
          omega
    · obtain rfl : j = n := by omega
      have i1 : ¬ (j : Int) < (j : Int) := by omega
      have HG : Hid (getP p.ats nm = none) := hide (by
        rw [unhide Hget, List.drop_eq_nil_of_le (by rw [← (unhide HAs).1, ← unhide HAL]; exact Nat.le_refl _)]
        rfl)
      have Hb := hide (belowSetCells (b := w.heap.size + 1) zero7.cells 0 wr hbw (Nat.le_succ _))
      clear h2
      go_wp2
      refine bodyPost_ret (v := .tuple #[.agg #[.int .i64 0, .bool false, .int .i64 0, .string ⟨#[]⟩, .string ⟨#[]⟩, .string ⟨#[]⟩, .slice none 0 0], .bool false]) (by simp [results, Tryz.results20, go_sem, d0, d1, d2, d3, d4, d5, d6]) rfl ⟨unhide Hb, ?_⟩
      unfold GetPost
      rw [unhide HG]
      rfl
end Go.Proofs.YtnbbimcooilmdaaGreat

namespace Go.Proofs.YtnbbimcooilmdaaGreat
open Go.RowKit Go.Sort

/-- An entity that has no parents and no attributes is told by its uid alone. -/
theorem entOk_bare {w : World} {P : Nat → Prop} {e : E4} {u : U2} (h : IsEnt w P e ⟨u, [], []⟩) (hs : small2 u) : EntOk w e [] [] (fun _ => 0) ∧ chkE (e4u e) [] [] (fun _ => 0) = chk2 u := by
  obtain ⟨rs, h1, h2, _, h4⟩ := h.ats
  obtain rfl : rs = [] := List.eq_nil_of_length_eq_zero h4.1
  have hu : e4u e = u := h.u
  refine ⟨⟨by rw [hu]; exact hs, h.pl, Nat.zero_le _, h.rowU, fun _ h => (by cases h), h1, Nat.zero_le _, h2, fun _ h => (by cases h), fun _ h => (by cases h)⟩, ?_⟩
  rw [hu]
  unfold chkE chkRowU chkRowA or3 rowE
  simp only [List.length_nil, Nat.not_lt_zero, if_false, rowGo]
  split
  · rfl
  · rename_i h
    simp only [ne_eq, not_true_eq_false, if_false]
    exact (Classical.not_not.1 h).symm
theorem isEnt_bare (w : World) (P : Nat → Prop) (u : U2) : IsEnt w P ⟨u.t, u.i, none, 0, 0, none, 0, 0⟩ ⟨u, [], []⟩ :=
  ⟨rfl, rfl, rowG_nil _ _ _, fun _ e => (by cases e), [], rfl, rowG_nil _ _ _, fun _ e => (by cases e), rfl, fun _ h => absurd h (Nat.not_lt_zero _)⟩
theorem fits_bare (u : U2) : EntP.fits ⟨u, [], []⟩ := ⟨Nat.zero_le _, Nat.zero_le _, fun _ h => by cases h⟩

def uA : U2 := ⟨⟨#[65]⟩, ⟨#[]⟩⟩
theorem chk_uA : chk2 uA = 0 := by decide
set_option maxHeartbeats 2000000 in
set_option maxRecDepth 1000000 in
theorem known8_any (w : World) : Calls Tryz.prog 5 #[] w fun e w' => e = .returned (.bool true) ∧ Below w.heap.size w w' := by
  have G := fun w' => get_any ⟨⟨#[]⟩, ⟨#[]⟩, none, 0, 0, none, 0, 0⟩ ⟨⟨⟨#[]⟩, ⟨#[]⟩⟩, [], []⟩ ⟨#[97]⟩ (fun _ => True) w' (isEnt_bare w' _ ⟨⟨#[]⟩, ⟨#[]⟩⟩) (fits_bare _)
  have Pu := fun w' => eput_any [] [] none 0 ⟨⟨#[65]⟩, ⟨#[]⟩, none, 0, 0, none, 0, 0⟩ ⟨uA, [], []⟩ w' (rowG_nil _ _ _) (Nat.le_refl _) ⟨rfl, fun _ h => absurd h (Nat.not_lt_zero _)⟩ (isEnt_bare w' _ uA) List.Pairwise.nil (fun _ h => by cases h) (fits_bare _) (Nat.zero_le _)
  have e1 : putP [] ⟨uA, [], []⟩ = [⟨uA, [], []⟩] := rfl
  rw [e1] at Pu
  clear e1
  unfold E4.val at G Pu
  simp only [List.length_cons, List.length_nil, Nat.zero_add] at G Pu
  go_enter Tryz.func5, Tryz.ntmps5
  go_wp2_with fail
  refine (G w).mono ?_
  clear G
  rintro x w1 ⟨b1, hx⟩
  obtain rfl : x = .returned (.tuple #[zero7.val, .bool false]) := hx
  unfold zero7 R7.val
  simp only
  go_wp2_with fail
  have b2 := b1.alloc b1.size (.cells #[.int .i64 0, .bool false, .int .i64 0, .string (ba []), .string (ba []), .string (ba []), .slice none 0 0] 52)
  generalize w1.alloc _ = w2 at *
  refine (Pu w2).mono ?_
  clear Pu
  rintro x w3 ⟨b3, G, es, rfl, hrow, hall, _⟩
  have b03 := b2.trans (b3.mono b2.size)
  have hle : es.length = 1 := hall.1
  have CK := echeck_any es (some ⟨G, 0, none⟩) 1 (fun _ => 0) w3 (by omega) hrow (fun e he => by
    obtain ⟨j, hj, rfl⟩ := List.getElem_of_mem he
    obtain rfl : j = 0 := by omega
    have h0 := hall.2 0 hj (Nat.lt_succ_self 0)
    have h1 := entOk_bare h0 ⟨by decide, by decide⟩
    exact ⟨[], [], _, h1.1, by rw [h1.2]; exact chk_uA.symm⟩)
  have hz : rowE (fun _ => (0 : Int)) lessE 16 es = 0 := by
    match es, hle with
    | [x], _ => rfl
  rw [hz, hle] at CK
  clear hz hle hrow hall
  go_wp2_with fail
  refine CK.mono ?_
  rintro x w4 ⟨rfl, b4⟩
  go_wp2
  go_ret
  exact ⟨rfl, b03.trans (b4.mono b03.size)⟩
end Go.Proofs.YtnbbimcooilmdaaGreat

namespace Go.Proofs.YtnbbimcooilmdaaGreat
open Go.RowKit Go.Sort

def letS (k : Nat) : ByteArray := ⟨#[UInt8.ofNat (97 + k)]⟩
theorem rowG_own {w : World} {B n : Nat} {T : TypeId} {v : Value} {l : List (List Value)} (hn : ∀ c ∈ l, c.length = n) (h : w.ownsRow B T n v l.length l.flatten) : ∃ ao cap, v = .slice ao l.length cap ∧ RowG w ao n l ∧ l.length ≤ cap ∧ ∀ ad, ao = some ad → ad.off = 0 ∧ B ≤ ad.block := by
  rcases h.2 with ⟨hv, h0⟩ | ⟨g, cap, cur, hv, hB, hg, hcap, _, hcs, hxs⟩
  · exact ⟨none, 0, by rw [hv, h0], fun j hj => by omega, by omega, fun _ e => by cases e⟩
  · refine ⟨_, cap, hv, fun j hj => ⟨g, 0, rfl, (Array.getElem?_eq_some_iff.1 hg).1, fun c u hu => ?_⟩, hcap, fun ad e => by cases e; exact ⟨rfl, hB⟩⟩
    have hc : c < n := by
      have := (List.getElem?_eq_some_iff.1 hu).1
      rwa [hn _ (List.getElem_mem hj)] at this
    rw [Lib.cell_of_heap hg, Nat.zero_add]
    rw [← flat_get l hn j c hj hc, ← hxs, List.getElem?_take] at hu
    split at hu
    · simpa using hu
    · cases hu

/-! ## Rows in order, each of which may be. -/

section
variable {α : Type} {chk : α → Int} {less : α → α → Bool}
theorem rowGo_ok : ∀ (l : List α) (prev : Option α), (∀ e ∈ l, chk e = 0) → (∀ p, prev = some p → ∀ e ∈ l, less p e = true) → l.Pairwise (fun a b => less a b = true) → rowGo chk less prev l = 0
  | [], prev, _, _, _ => by cases prev <;> rfl
  | e :: t, prev, h1, h2, h3 => by
    have h3' := List.pairwise_cons.1 h3
    have hp : prevO less prev e = true := by
      cases prev with
      | none => rfl
      | some p => exact h2 p rfl e List.mem_cons_self
    rw [rowGo_cons, if_neg (fun h => h (h1 e List.mem_cons_self)), if_neg (by rw [hp]; decide)]
    exact rowGo_ok t (some e) (fun x hx => h1 x (List.mem_cons_of_mem _ hx)) (fun p hp x hx => by cases hp; exact h3'.1 x hx) h3'.2
theorem rowE_ok (most : Nat) (l : List α) (h1 : ∀ e ∈ l, chk e = 0) (h3 : l.Pairwise (fun a b => less a b = true)) : rowE chk less most l = if most < l.length then 4 else 0 := by
  unfold rowE
  rw [rowGo_ok l none h1 (fun _ h => by cases h) h3]
end

theorem rowE_one {α : Type} (chk : α → Int) (less : α → α → Bool) (n : Nat) (e : α) : rowE chk less (n + 1) [e] = chk e := by
  unfold rowE
  rw [if_neg (by simp), rowGo_cons]
  by_cases h : chk e = 0
  · rw [if_neg (fun hn => hn h), h]
    rfl
  · rw [if_pos h]

/-- Uids by letters. -/
def uL (k : Nat) : U2 := ⟨⟨#[84]⟩, letS k⟩
def uLs (n : Nat) : List U2 := (List.range n).map uL
theorem chk_uL : ∀ k, k < 20 → chk2 (uL k) = 0 := by decide
theorem less_uL : ∀ a, a < 20 → ∀ b, b < 20 → a < b → lessU (uL a) (uL b) = true := by decide
theorem uLs_pair (n : Nat) (hn : n ≤ 20) : (uLs n).Pairwise fun a b => lessU a b = true := by
  unfold uLs
  refine List.pairwise_map.2 (List.pairwise_iff_getElem.2 fun i j hi hj hij => ?_)
  simp only [List.getElem_range]
  simp only [List.length_range] at hi hj
  exact less_uL i (by omega) j (by omega) hij
theorem small_uL (k : Nat) : small2 (uL k) := ⟨by show 1 ≤ _; decide, by show 1 ≤ _; decide⟩
theorem uLs_succ (n : Nat) : uLs (n + 1) = uLs n ++ [uL n] := by simp [uLs, List.range_succ]
theorem uLs_len (n : Nat) : (uLs n).length = n := by simp [uLs]
/-- Entities by letters. -/
def eL (k : Nat) : E4 := ⟨⟨#[84]⟩, letS k, none, 0, 0, none, 0, 0⟩
def eLs (n : Nat) : List E4 := (List.range n).map eL
theorem eLs_succ (n : Nat) : eLs (n + 1) = eLs n ++ [eL n] := by simp [eLs, List.range_succ]
theorem eLs_len (n : Nat) : (eLs n).length = n := by simp [eLs]
theorem eLs_told (n : Nat) (hn : n ≤ 20) : rowE (fun _ => (0 : Int)) lessE 16 (eLs n) = if 16 < n then 4 else 0 := by
  rw [rowE_ok 16 (eLs n) (fun _ _ => rfl) ?_, eLs_len]
  have := uLs_pair n hn
  unfold uLs at this
  unfold eLs
  exact List.pairwise_map.2 (List.pairwise_map.1 this)
theorem eL_ok (w : World) (k : Nat) (hk : k < 20) : EntOk w (eL k) [] [] (fun _ => 0) ∧ chkE (e4u (eL k)) [] [] (fun _ => 0) = 0 := by
  have := entOk_bare (isEnt_bare w (fun _ => True) (uL k)) (small_uL k)
  exact ⟨this.1, this.2.trans (chk_uL k hk)⟩
/-- Parents by letters. -/
theorem uLs_told (n : Nat) (hn : n ≤ 20) : chkRowU (uLs n) = if 4 < n then 4 else 0 := by
  unfold chkRowU
  rw [rowE_ok 4 (uLs n) (fun u hu => ?_) (uLs_pair n hn), uLs_len]
  obtain ⟨k, hk, rfl⟩ := List.mem_map.1 hu
  exact chk_uL k (by have := List.mem_range.1 hk; omega)
/-- Attributes by letters. -/
def aL (k : Nat) : A8 := ⟨letS k, ofP (.bool false)⟩
def aLs (n : Nat) : List A8 := (List.range n).map aL
theorem aLs_succ (n : Nat) : aLs (n + 1) = aLs n ++ [aL n] := by simp [aLs, List.range_succ]
theorem aLs_len (n : Nat) : (aLs n).length = n := by simp [aLs]
theorem chk_aL : ∀ k, k < 20 → chkA (aL k).nm 0 = 0 := by decide
theorem less_let : ∀ a, a < 20 → ∀ b, b < 20 → a < b → decide ((letS a).data.toList < (letS b).data.toList) = true := by decide
theorem less_aL (a b : Nat) (ha : a < 20) (hb : b < 20) (h : a < b) : lessN (aL a) (aL b) = true := by
  have := less_let a ha b hb h
  unfold lessN aL
  rw [show (letS a).toList = (ba (letS a).data.toList).toList from rfl, show (letS b).toList = (ba (letS b).data.toList).toList from rfl, bytesLess_eq, ba_list, ba_list]
  exact this
theorem aLs_told (n : Nat) (hn : n ≤ 20) : chkRowA (fun _ => 0) (aLs n) = if 5 < n then 4 else 0 := by
  unfold chkRowA
  rw [rowE_ok 5 (aLs n) (fun u hu => ?_) ?_, aLs_len]
  · unfold aLs
    refine List.pairwise_map.2 (List.pairwise_iff_getElem.2 fun i j hi hj hij => ?_)
    simp only [List.getElem_range]
    simp only [List.length_range] at hi hj
    exact less_aL i j (by omega) (by omega) hij
  · obtain ⟨k, hk, rfl⟩ := List.mem_map.1 hu
    exact chk_aL k (by have := List.mem_range.1 hk; omega)
end Go.Proofs.YtnbbimcooilmdaaGreat
