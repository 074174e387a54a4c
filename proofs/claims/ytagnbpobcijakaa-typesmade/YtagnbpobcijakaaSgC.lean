/-
 chancellaw10.kind: what it returns.
-/
import Derived.Test.YtagnbpobcijakaaSgAB
import Derived.Deep.CutBlock
import Derived.Maps.AppendAt
import Derived.BigGuardPart
namespace Go.Proofs.Ytagnbpobcijakaa
open Go.RowKit Go.Sort

/-! ## As plain data. -/

def typG (l : List ByteArray) (kn : ByteArray) (f : F4) : F4 := if f.tn = ⟨#[]⟩ then f else if noneB l f.tn then ⟨f.nm, f.k, f.o, kn⟩ else f
def ltB (a b : ByteArray) : Bool := Op.bytesLess a.data.toList b.data.toList
theorem ltB_eq (a b : ByteArray) : ltB a b = Op.bytesLess a.toList b.toList := by
 unfold ltB
 rw [ByteArray.toList_eq, ByteArray.toList_eq]
def okFl (acc : List F4) (f : F4) : Bool := match acc.getLast? with | none => true | some p => ltB p.nm f.nm
def fldG (l : List ByteArray) (kn : ByteArray) (acc : List F4) (f : F4) : List F4 := if okFl acc (typG l kn f) then acc ++ [typG l kn f] else acc
def fieldsG (l : List ByteArray) (kn : ByteArray) (fs : List F4) : List F4 := fs.foldl (fldG l kn) []
def kindG (l : List ByteArray) (k : KP) : KP := ⟨k.nm, thoseL l k.ps, fieldsG l k.nm k.fs⟩
theorem fieldsG_next (l : List ByteArray) (kn : ByteArray) (fs : List F4) (i : Nat) (h : i < fs.length) : fieldsG l kn (fs.take (i + 1)) = fldG l kn (fieldsG l kn (fs.take i)) fs[i] := by
 unfold fieldsG
 rw [List.take_succ_eq_append_getElem h, List.foldl_append]
 rfl
theorem fieldsG_len (l : List ByteArray) (kn : ByteArray) (fs : List F4) : (fieldsG l kn fs).length ≤ fs.length := by
 have : ∀ (fs acc : List F4), (fs.foldl (fldG l kn) acc).length ≤ acc.length + fs.length := by
  intro fs
  induction fs with
  | nil => intro acc; simp
  | cons f t ih =>
   intro acc
   have := ih (fldG l kn acc f)
   have h2 : (fldG l kn acc f).length ≤ acc.length + 1 := by
    unfold fldG
    cases okFl acc (typG l kn f) <;> simp
   simp only [List.foldl_cons, List.length_cons]
   omega
 have h := this fs []
 rw [List.length_nil, Nat.zero_add] at h
 exact h
/-- A kind with rows of its own. -/
def KindP (n : List ByteArray) (k : KP) (e : Ending) (w' : World) : Prop := ∃ y : N3, e = .returned (.agg #[.string y.nm, .slice y.ao y.al y.ac, .slice y.bo y.bl y.bc]) ∧ IsKT w' y (kindG n k)
/-- While fields are gathered. -/
structure KG (w3 wr : World) (l : List ByteArray) (kn : ByteArray) (fs : List F4) (lv : Value) (i : Nat) : Prop where
 below : Below w3.heap.size w3 wr
 own : wr.ownsRow w3.heap.size 109 4 lv (fieldsG l kn (fs.take i)).length ((fieldsG l kn (fs.take i)).map F4.cells).flatten

set_option maxHeartbeats 16000000 in
set_option maxRecDepth 1000000 in
theorem kind10_any (s : SP) (v : Value) (k : KP) (x : N3) (w : World) (hl : s.ks.length ≤ 281474976710656) (hlp : k.ps.length ≤ 4398046511104) (hlf : k.fs.length ≤ 1000000000) (hs : IsS w v s) (hk : IsK w x k) :
  Calls Try.prog 24 #[v, x.val] w fun e w' => Below w.heap.size w w' ∧ KindP s.names k e w' := by
 obtain ⟨iF, hiF, hzF0, hzF1, hzF2⟩ := info_parts infoField
 have CK0 := fun n w' (hb : Below w.heap.size w w') => (rKind_any s v n w' hl (hs.below hb)).mono (fun e w9 h => And.intro (found_is h.1) h.2)
 obtain ⟨nm, qo, ql, qc, fo, fl, fc⟩ := x
 obtain ⟨k1, k2, k3, k4, k5⟩ := hk
 simp only at k1 k2 k3 k4 k5
 have Hnm := hide k1
 clear k1
 subst k2 k4
 have CT0 := fun w' (hb : Below w.heap.size w w') => those_any s v k.ps qo qc w' hl hlp (hs.below hb) (k3.below hb)
 obtain ⟨ko, kc, sao, sac, rfl, _, _⟩ := hs.ex
 clear hs
 have CKH := hide CK0
 have HF := hide k5
 clear CK0 k3 k5
 unfold N3.val
 simp only
 obtain ⟨b3, z3, H0, H1, H2⟩ := alloc3 w (.cells #[.slice ko s.ks.length kc, .slice sao s.ac.length sac] 33) (.cells #[.string nm, .slice qo k.ps.length qc, .slice fo k.fs.length fc] 80) (.cells #[.string ⟨#[]⟩, .slice none 0 0, .slice none 0 0] 80)
 have CT := CT0 _ b3
 clear CT0
 obtain ⟨a0, a1⟩ := bl2_ H0
 have a2 : (((w.alloc (.cells #[.slice ko s.ks.length kc, .slice sao s.ac.length sac] 33)).alloc (.cells #[.string nm, .slice qo k.ps.length qc, .slice fo k.fs.length fc] 80)).alloc (.cells #[.string ⟨#[]⟩, .slice none 0 0, .slice none 0 0] 80)).cell? ⟨w.heap.size + 1, 1, none⟩ = some (.slice qo k.ps.length qc) := lc_ H1 rfl
 have z3 := Nat.le_of_eq z3.symm
 go_enter Try.func24, Try.ntmps24
 go_wp2_with fail
 generalize ((w.alloc _).alloc _).alloc _ = w1 at *
 clear a0 a1 a2
 refine CT.mono ?_
 clear CT
 rintro e w2 ⟨b12, po, pc, rfl, hpr, hpt⟩
 have HPR := hide hpr
 have HPT := hide hpt
 clear hpr hpt
 obtain ⟨pl, hpl⟩ : ∃ pl, pl = (thoseL s.names k.ps).length := ⟨_, rfl⟩
 rw [← hpl]
 have Hpl := hide hpl
 clear hpl
 have H1' := kept_of_below b12 H1
 have H2' := kept_of_below b12 H2
 have H0' := kept_of_below b12 H0
 have z2 := b12.size
 have o1 : w2.cell? ⟨w.heap.size + 1, 1, none⟩ = some (.slice qo k.ps.length qc) := lc_ H1' rfl
 have f1 : w2.frozen? ⟨w.heap.size + 1, 1, none⟩ = false := Lib.frozen_of_heap H1' 1
 have H13 := heap_setCell_same w2 (w.heap.size + 1) 1 _ _ (.slice po pl pc) H1'
 have H03 := (Below.heap_setCell w2 ⟨w.heap.size + 1, 1, none⟩ (.slice po pl pc) w.heap.size (by show w.heap.size ≠ w.heap.size + 1; omega)).trans H0'
 have H23 := (Below.heap_setCell w2 ⟨w.heap.size + 1, 1, none⟩ (.slice po pl pc) (w.heap.size + 2) (by show w.heap.size + 2 ≠ w.heap.size + 1; omega)).trans H2'
 have bw2 := b3.trans (b12.mono b3.size)
 have bw3 := bw2.setCell (p := ⟨w.heap.size + 1, 1, none⟩) (by show w.heap.size ≤ w.heap.size + 1; omega) (.slice po pl pc)
 have zz : w2.heap.size ≤ (w2.setCell ⟨w.heap.size + 1, 1, none⟩ (.slice po pl pc)).heap.size := by simp
 have HP3 := hide (show RowS (w2.setCell ⟨w.heap.size + 1, 1, none⟩ (.slice po pl pc)) po (thoseL s.names k.ps) ∧ TyRow (w2.setCell ⟨w.heap.size + 1, 1, none⟩ (.slice po pl pc)) 9 po (thoseL s.names k.ps) from by
  have kf : KeepSF w2 (w2.setCell ⟨w.heap.size + 1, 1, none⟩ (.slice po pl pc)) := ⟨zz, fun b cur T fz hT hb => (Below.heap_setCell w2 ⟨w.heap.size + 1, 1, none⟩ (.slice po pl pc) b (fun e => by
   have e : b = w.heap.size + 1 := e
   rw [e, H1'] at hb
   injection hb with hb
   injection hb with _ h3
   rcases hT with hT | hT <;> (rw [hT] at h3; exact absurd h3 (by decide)))).trans hb⟩
  exact ⟨row_turn (unhide HPR) (unhide HPT) (.inl rfl) kf, (unhide HPT).turn (.inl rfl) kf⟩)
 clear HPR HPT H0' H1' H2' H0 H1 H2 b12 b3
 go_upto_block 0 with fail
 clear o1 f1
 generalize w2.setCell _ _ = w3 at *
 clear zz bw2
 go_wp2_with fail
 go_loopw [5, 6] (fun lv iv wr => ∃ i : Nat, iv = .int .i64 i ∧ i ≤ k.fs.length ∧ KG w3 wr s.names nm k.fs lv i) (fun _ iv _ => k.fs.length - (intOf iv).toNat)
 case atStart => exact ⟨0, by go_num, Nat.zero_le _, Below.refl _ _, World.ownsRow_nil _ _ _ _⟩
 case round =>
  obtain ⟨i, rfl, hil, hst⟩ := hrel
  have HST := hide hst
  have hbr := hst.below
  have b0r := bw3.trans (hbr.mono bw3.size)
  have H1r := kept_of_below hbr H13
  have k2' : wr.cell? ⟨w.heap.size + 1, 2, none⟩ = some (.slice fo k.fs.length fc) := lc_ H1r rfl
  have k0' : wr.cell? ⟨w.heap.size + 1, 0, none⟩ = some (.string nm) := lc_ H1r rfl
  clear hst
  by_cases hlt : i < k.fs.length
  ·have i0 : (0 : Int) ≤ (i : Int) := by omega
   have i1 : (i : Int) < (k.fs.length : Int) := by omega
   obtain ⟨g, off, rfl, hgw, A⟩ := (unhide HF).get b0r hlt
   have HN := hide (fieldsG_next s.names nm k.fs i hlt)
   have hTl : (fieldsG s.names nm (k.fs.take i)).length ≤ 1000000000 := by
    have h1 := fieldsG_len s.names nm (k.fs.take i)
    have h2 : (k.fs.take i).length ≤ k.fs.length := by simp; omega
    omega
   obtain ⟨acc, hacc⟩ : ∃ acc, acc = fieldsG s.names nm (k.fs.take i) := ⟨_, rfl⟩
   have HST := hide (show Below w3.heap.size w3 wr ∧ wr.ownsRow w3.heap.size 109 4 u5 acc.length (acc.map F4.cells).flatten from ⟨hbr, by rw [hacc]; exact (unhide HST).own⟩)
   rw [← hacc] at HN hTl
   have Hacc := hide hacc
   clear hacc
   obtain ⟨f, hf⟩ : ∃ f, f = k.fs[i] := ⟨_, rfl⟩
   rw [← hf] at A HN
   clear hf
   obtain ⟨x0, x1, x2, x3⟩ := A
   have bF := blw1 wr (.cells #[.string f.nm, .int .i64 f.k, .int .i64 f.o, .string f.tn] 109)
   have HFb := alloc_heap wr (.cells #[.string f.nm, .int .i64 f.k, .int .i64 f.o, .string f.tn] 109)
   have q3 : (wr.alloc (.cells #[.string f.nm, .int .i64 f.k, .int .i64 f.o, .string f.tn] 109)).cell? ⟨wr.heap.size, 3, none⟩ = some (.string f.tn) := lc_ HFb rfl
   have k0'' := (bF.cell (p := ⟨w.heap.size + 1, 0, none⟩) (by have := (Array.getElem?_eq_some_iff.1 H1r).1; show w.heap.size + 1 < _; omega)).trans k0'
   have zF : wr.heap.size < (wr.alloc (.cells #[.string f.nm, .int .i64 f.k, .int .i64 f.o, .string f.tn] 109)).heap.size := by simp
   have H0r := kept_of_below bF (kept_of_below hbr H03)
   obtain ⟨s0, s1⟩ := bl2_ H0r
   have H1rr := kept_of_below bF H1r
   have zb1 := (Array.getElem?_eq_some_iff.1 H1r).1
   clear H0r H1r k0'
   obtain ⟨f', hf'⟩ : ∃ f', f' = typG s.names nm f := ⟨_, rfl⟩
   have Hf' := hide hf'
   unfold fldG at HN
   rw [← hf'] at HN
   clear hf'
   have CK := unhide CKH f.tn _ (b0r.trans (bF.mono b0r.size))
   obtain ⟨tb, htb⟩ : ∃ tb, tb = !f.tn.toList.isEmpty := ⟨_, rfl⟩
   go_upto_if 30 with fail
   rw [← htb]
   have Htb := hide htb
   clear htb
   generalize wr.alloc _ = wF at *
   go_cut [8, 9] from 15 to 63 (fun _ _ wc => wc.heap[wr.heap.size]? = some (.cells #[.string f'.nm, .int .i64 f'.k, .int .i64 f'.o, .string f'.tn] 109 (0, 0)) ∧ Below wr.heap.size wr wc)
   case first =>
    cases tb
    ·have htn : f.tn = ⟨#[]⟩ := by
      have e := unhide Htb
      rw [eq_comm, Bool.not_eq_false', List.isEmpty_iff, ByteArray.toList_eq] at e
      cases hh : f.tn with
      | mk d =>
       rw [hh] at e
       congr 1
       exact Array.toList_eq_nil_iff.1 e
     have Hg := hide (show f' = f by rw [unhide Hf']; unfold typG; rw [if_pos htn])
     clear htn CK
     go_wp2_with fail
     go_meet
     case rel => exact ⟨by rw [unhide Hg]; exact HFb, bF⟩
    ·have htn : f.tn ≠ ⟨#[]⟩ := fun h => by
      have e := unhide Htb
      rw [h, ByteArray.toList_eq] at e
      cases e
     go_wp2_with fail
     refine CK.mono ?_
     clear CK
     rintro e w4 ⟨⟨y, rfl⟩, b4⟩
     have HF4 := kept_of_below b4 HFb
     have H14 := kept_of_below b4 H1rr
     have k04 : w4.cell? ⟨w.heap.size + 1, 0, none⟩ = some (.string nm) := lc_ H14 rfl
     have bY := blw1 w4 (.cells #[.string y.nm, .slice y.ao y.al y.ac, .slice y.bo y.bl y.bc] 80)
     have HF5 := kept_of_below bY HF4
     have k05 := (bY.cell (p := ⟨w.heap.size + 1, 0, none⟩) (by have := (Array.getElem?_eq_some_iff.1 H14).1; show w.heap.size + 1 < _; omega)).trans k04
     have q5 : (w4.alloc (.cells #[.string y.nm, .slice y.ao y.al y.ac, .slice y.bo y.bl y.bc] 80)).cell? ⟨wr.heap.size, 3, none⟩ = some (.string f.tn) := lc_ HF5 rfl
     have z5 := Lib.frozen_of_heap HF5 3
     have B5 := bF.trans ((b4.trans (bY.mono b4.size)).mono bF.size)
     have Hn := hide (show ∀ is : Bool, noneB s.names f.tn = is → f' = if is then ⟨f.nm, f.k, f.o, nm⟩ else f from fun is h => by rw [unhide Hf']; unfold typG; rw [if_neg htn, h])
     clear htn HF4 H14 k04
     cases his : noneB s.names f.tn
     ·have Hg := hide (unhide Hn false his)
      clear his
      go_wp2_with fail
      go_meet
      case rel => exact ⟨by rw [unhide Hg]; exact HF5, B5⟩
     ·have Hg := hide (unhide Hn true his)
      have HF6 := heap_setCell_same _ wr.heap.size 3 _ _ (.string nm) HF5
      have B6 := B5.setCell (p := ⟨wr.heap.size, 3, none⟩) (Nat.le_refl _) (.string nm)
      have HG := hide (And.intro HF6 B6)
      clear his HF6 B6
      go_wp2_with fail
      go_meet
      case rel => exact ⟨by rw [unhide Hg]; exact (unhide HG).1, (unhide HG).2⟩
   case rest =>
    obtain ⟨hF, bc⟩ := hcut
    have ownc := own_belowS (unhide HST).2 bc
    obtain ⟨lo, lc, rfl, hrow, _, _⟩ := own_row lenF ownc
    have fn : wc.cell? ⟨wr.heap.size, 0, none⟩ = some (.string f'.nm) := lc_ hF rfl
    have fnG := cell_regrown fn
    clear fn ownc
    rcases List.eq_nil_or_concat acc with rfl | ⟨L, p, rfl⟩
    ·have HNEXT : (if okFl [] f' = true then [] ++ [f'] else []) = [] ++ [f'] := rfl
     have HNX := hide HNEXT
     clear hrow HNEXT
     simp only [List.length_nil] at *
     go_wp2_with fail
     refine wp_region_quiet_below (by kernel_rfl) (by kernel_rfl) ?_
     repeat (first | go_big_quiet_step (fail) | quiet_step (fail))
     refine wpQuiet_nil ?_
     intro _ hw'
     obtain ⟨⟨dq2, osq2⟩, hw''⟩ := hw'
     subst hw''
     have b11 := below_regrown wc dq2 osq2
     generalize grow (redrawn wc dq2) osq2 = w6 at *
     have ownq := own_belowS (own_belowS (unhide HST).2 bc) b11
     have hfq := kept_of_below b11 hF
     have bq := (unhide HST).1.trans ((bc.trans (b11.mono bc.size)).mono (unhide HST).1.size)
     obtain ⟨c0, c1, c2, c3⟩ := bl4_ hfq
     have zq := bq.size
     have bl := blw1 w6 (.cells #[.string f'.nm, .int .i64 f'.k, .int .i64 f'.o, .string f'.tn] 109)
     have zl : (w6.alloc (.cells #[.string f'.nm, .int .i64 f'.k, .int .i64 f'.o, .string f'.tn] 109)).heap.size = w6.heap.size + 1 := by simp
     have Hown := hide (own_belowS ownq bl)
     have hnb := (unhide Hown).lt
     have HNw := hide (alloc_heap w6 (.cells #[.string f'.nm, .int .i64 f'.k, .int .i64 f'.o, .string f'.tn] 109))
     have bw1 := bq.trans (bl.mono bq.size)
     clear hfq ownq bl hF
     go_wp2_with (at_builtin; refine wpList_append_own _ rfl _ _ 78 rfl w3.heap.size 109 iF _ 4 48 Try.underlying78 hiF hzF0 hzF1 hzF2 rfl (by decide) _ _ _ rfl (unhide Hown) ⟨w6.heap.size, 0, none⟩ 1 1 [.string f'.nm, .int .i64 f'.k, .int .i64 f'.o, .string f'.tn] rfl rfl ?c1 ?c2 ?c3 ?c4 ?c5 ?_)
     case c1 =>
      intro j u hj
      rw [Addr.add_lit, Nat.zero_add, Lib.cell_of_heap (unhide HNw)]
      simpa using hj
     case c2 => intro u hu; simp at hu; rcases hu with rfl | rfl | rfl | rfl <;> rfl
     case c3 => unfold maxLen; omega
     case c4 => omega
     case c5 => omega
     intro v6 w7 hown6 hgrow _
     have b7 : Below w3.heap.size w3 w7 := bw1.grown hgrow bw1.size (fun j hj => by have := (hnb j hj).1; omega)
     have HV := hide (And.intro b7 hown6)
     clear hown6 hgrow hnb
     go_wp2
     go_roundw
     case rel =>
      refine ⟨i + 1, by go_num, by omega, (unhide HV).1, ?_⟩
      rw [unhide HN, unhide HNX, List.map_append, List.flatten_append, List.length_append]
      exact (unhide HV).2
     case measure =>
      simp only [intOf]
      omega
    ·rw [List.concat_eq_append] at *
     have eL : (L ++ [p]).length = L.length + 1 := by simp
     obtain ⟨g2, off2, rfl, hg2, hc2⟩ := rowG_at hrow (Below.refl _ wc) (show L.length < (L ++ [p]).length by omega)
     have pn := hc2 0 (.string p.nm) (by simp [F4.cells])
     clear hc2 hrow
     rw [Nat.add_zero] at pn
     have pnG := cell_regrown pn
     clear pn
     have hTm : L.length + 1 ≤ 1000000000 := by omega
     have HeL := hide eL
     rw [eL]
     clear eL hTl
     generalize L.length = m at *
     have e1 : ((m : Int) + 1 == 0) = false := by rw [beq_eq_false_iff_ne]; omega
     have e2 : IntKind.i64.wrap (m : Int) = (m : Int) := by rw [IntKind.wrap_i64]; omega
     have e2' : IntKind.i64.wrap ((m : Int) + 1 - 1) = (m : Int) := by rw [IntKind.wrap_i64]; omega
     have e3 : (0 : Int) ≤ (m : Int) := by omega
     have e4 : (m : Int) < (m : Int) + 1 := by omega
     have Hok := hide (show okFl (L ++ [p]) f' = Op.bytesLess p.nm.toList f'.nm.toList by unfold okFl; rw [List.getLast?_append]; exact ltB_eq _ _)
     cases hok : Op.bytesLess p.nm.toList f'.nm.toList
     ·have HNX := hide (show (if okFl (L ++ [p]) f' = true then (L ++ [p]) ++ [f'] else (L ++ [p])) = L ++ [p] by rw [unhide Hok, hok]; rfl)
      go_wp2_with fail
      refine wp_region_quiet_below (by kernel_rfl) (by kernel_rfl) ?_
      repeat (first | go_big_quiet_step (fail) | quiet_step (fail))
      refine wpQuiet_nil ?_
      intro _ hw'
      obtain ⟨⟨dq2, osq2⟩, hw''⟩ := hw'
      subst hw''
      have b11 := below_regrown wc dq2 osq2
      generalize grow (redrawn wc dq2) osq2 = w6 at *
      have ownq := hide (own_belowS (own_belowS (unhide HST).2 bc) b11)
      have bq := (unhide HST).1.trans ((bc.trans (b11.mono bc.size)).mono (unhide HST).1.size)
      go_wp2
      go_roundw
      case rel =>
       refine ⟨i + 1, by go_num, by omega, bq, ?_⟩
       rw [unhide HN, unhide HNX]
       have := unhide ownq
       rw [unhide HeL] at *
       exact this
      case measure =>
       simp only [intOf]
       omega
     ·have HNX := hide (show (if okFl (L ++ [p]) f' = true then (L ++ [p]) ++ [f'] else (L ++ [p])) = (L ++ [p]) ++ [f'] by rw [unhide Hok, hok]; rfl)
      have HST0 := HST
      obtain ⟨XX, hXX⟩ : ∃ XX, XX = ((L ++ [p]).map F4.cells).flatten := ⟨_, rfl⟩
      have HST := hide (show Below w3.heap.size w3 wr ∧ wr.ownsRow w3.heap.size 109 4 (.slice (some ⟨g2, off2, none⟩) (m + 1) lc) (m + 1) XX from by have := unhide HST0; rw [unhide HeL, ← hXX] at this; exact this)
      have HXX := hide hXX
      clear HST0 hXX
      go_wp2_with fail
      refine wp_region_quiet_below (by kernel_rfl) (by kernel_rfl) ?_
      repeat (first | go_big_quiet_step (fail) | quiet_step (fail))
      refine wpQuiet_nil ?_
      intro _ hw'
      obtain ⟨⟨dq2, osq2⟩, hw''⟩ := hw'
      subst hw''
      have b11 := below_regrown wc dq2 osq2
      generalize grow (redrawn wc dq2) osq2 = w6 at *
      have ownq := own_belowS (own_belowS (unhide HST).2 bc) b11
      have hfq := kept_of_below b11 hF
      have bq := (unhide HST).1.trans ((bc.trans (b11.mono bc.size)).mono (unhide HST).1.size)
      obtain ⟨c0, c1, c2, c3⟩ := bl4_ hfq
      have zq := bq.size
      have bl := blw1 w6 (.cells #[.string f'.nm, .int .i64 f'.k, .int .i64 f'.o, .string f'.tn] 109)
      have zl : (w6.alloc (.cells #[.string f'.nm, .int .i64 f'.k, .int .i64 f'.o, .string f'.tn] 109)).heap.size = w6.heap.size + 1 := by simp
      have Hown := hide (own_belowS ownq bl)
      have hnb := (unhide Hown).lt
      have HNw := hide (alloc_heap w6 (.cells #[.string f'.nm, .int .i64 f'.k, .int .i64 f'.o, .string f'.tn] 109))
      have bw1 := bq.trans (bl.mono bq.size)
      clear hfq ownq bl hF
      go_wp2_with (at_builtin; refine wpList_append_own _ rfl _ _ 78 rfl w3.heap.size 109 iF _ 4 48 Try.underlying78 hiF hzF0 hzF1 hzF2 rfl (by decide) _ _ _ rfl (unhide Hown) ⟨w6.heap.size, 0, none⟩ 1 1 [.string f'.nm, .int .i64 f'.k, .int .i64 f'.o, .string f'.tn] rfl rfl ?e1 ?e2 ?e3 ?e4 ?e5 ?_)
      case e1 =>
       intro j u hj
       rw [Addr.add_lit, Nat.zero_add, Lib.cell_of_heap (unhide HNw)]
       simpa using hj
      case e2 => intro u hu; simp at hu; rcases hu with rfl | rfl | rfl | rfl <;> rfl
      case e3 => unfold maxLen; omega
      case e4 => omega
      case e5 => omega
      intro v6 w7 hown6 hgrow _
      have b7 : Below w3.heap.size w3 w7 := bw1.grown hgrow bw1.size (fun j hj => by have := (hnb j hj).1; omega)
      have HV := hide (And.intro b7 hown6)
      clear hown6 hgrow hnb
      go_wp2
      go_roundw
      case rel =>
       refine ⟨i + 1, by go_num, by omega, (unhide HV).1, ?_⟩
       rw [unhide HN, unhide HNX, List.map_append, List.flatten_append, List.length_append, unhide HeL, ← unhide HXX]
       exact (unhide HV).2
      case measure =>
       simp only [intOf]
       omega
  ·have i1 : ¬ (i : Int) < (k.fs.length : Int) := by omega
   have e : k.fs.take i = k.fs := List.take_of_length_le (by omega)
   have hown := (unhide HST).own
   rw [e] at hown
   obtain ⟨lo, lc, rfl, r1, r2, _⟩ := own_row lenF hown
   have H2r := kept_of_below hbr H23
   have HP := hide (And.intro ((unhide HP3).1.below hbr) (And.intro ((unhide HP3).2.turn (.inl rfl) (.of_below hbr)) (And.intro r1 r2)))
   clear e hown r1 r2 HP3 HST
   obtain ⟨fn, hfn⟩ : ∃ fn, fn = (fieldsG s.names nm k.fs).length := ⟨_, rfl⟩
   rw [← hfn]
   have Hfn := hide hfn
   clear hfn
   have f2 : wr.frozen? ⟨w.heap.size + 1, 2, none⟩ = false := Lib.frozen_of_heap H1r 2
   have H18 := heap_setCell_same wr (w.heap.size + 1) 2 _ _ (.slice lo fn lc) H1r
   have H28 := (Below.heap_setCell wr ⟨w.heap.size + 1, 2, none⟩ (.slice lo fn lc) (w.heap.size + 2) (by show w.heap.size + 2 ≠ w.heap.size + 1; omega)).trans H2r
   have b8 := b0r.setCell (p := ⟨w.heap.size + 1, 2, none⟩) (by show w.heap.size ≤ w.heap.size + 1; omega) (.slice lo fn lc)
   have HK8 := hide (show KeepSF wr (wr.setCell ⟨w.heap.size + 1, 2, none⟩ (.slice lo fn lc)) from ⟨by simp, fun b cur T fz hT hb => (Below.heap_setCell wr ⟨w.heap.size + 1, 2, none⟩ (.slice lo fn lc) b (fun e => by
    have e : b = w.heap.size + 1 := e
    rw [e, H1r] at hb
    injection hb with hb
    injection hb with _ h3
    rcases hT with hT | hT <;> (rw [hT] at h3; exact absurd h3 (by decide)))).trans hb⟩)
   go_upto_region 14 with fail
   clear f2 k0' k2'
   generalize wr.setCell _ _ = w8 at *
   obtain ⟨c0, c1, c2⟩ := bl3_ H18
   obtain ⟨r0, r1, r2⟩ := bl3_ H28
   have fz0 : w8.frozen? ⟨w.heap.size + 1 + 1, 0, none⟩ = false := Lib.frozen_of_heap H28 0
   have fz1 : w8.frozen? ⟨w.heap.size + 1 + 1, 1, none⟩ = false := Lib.frozen_of_heap H28 1
   have fz2 : w8.frozen? ⟨w.heap.size + 1 + 1, 2, none⟩ = false := Lib.frozen_of_heap H28 2
   have q7 := heap_setCell_same _ (w.heap.size + 2) 2 _ _ (.slice lo fn lc) (heap_setCell_same _ (w.heap.size + 2) 1 _ _ (.slice po pl pc) (heap_setCell_same w8 (w.heap.size + 2) 0 _ _ (.string nm) H28))
   have b7 := ((b8.setCell (p := ⟨w.heap.size + 2, 0, none⟩) (by show w.heap.size ≤ w.heap.size + 2; omega) (.string nm)).setCell (p := ⟨w.heap.size + 2, 1, none⟩) (by show w.heap.size ≤ w.heap.size + 2; omega) (.slice po pl pc)).setCell (p := ⟨w.heap.size + 2, 2, none⟩) (by show w.heap.size ≤ w.heap.size + 2; omega) (.slice lo fn lc)
   have k7 : KeepSF w8 (((w8.setCell ⟨w.heap.size + 2, 0, none⟩ (.string nm)).setCell ⟨w.heap.size + 2, 1, none⟩ (.slice po pl pc)).setCell ⟨w.heap.size + 2, 2, none⟩ (.slice lo fn lc)) := ⟨by simp, fun b cur T fz hT hb => by
    have hne : b ≠ w.heap.size + 2 := fun e => by
     rw [e, H28] at hb
     injection hb with hb
     injection hb with _ h3
     rcases hT with hT | hT <;> (rw [hT] at h3; exact absurd h3 (by decide))
    rw [Below.heap_setCell _ ⟨w.heap.size + 2, 2, none⟩ _ b hne, Below.heap_setCell _ ⟨w.heap.size + 2, 1, none⟩ _ b hne, Below.heap_setCell _ ⟨w.heap.size + 2, 0, none⟩ _ b hne]
    exact hb⟩
   have HQ := hide (And.intro q7 (And.intro b7 k7))
   clear q7 b7 k7 H18 H28
   go_wp2
   obtain ⟨q7, b7, k7⟩ := unhide HQ
   obtain ⟨d0, d1, d2⟩ := bl3_ q7
   generalize ((w8.setCell _ _).setCell _ _).setCell _ _ = w9 at *
   refine bodyPost_ret (v := .agg #[.string nm, .slice po pl pc, .slice lo fn lc]) (by simp [results, Try.results24, go_sem, d0, d1, d2]) rfl ⟨b7, ⟨⟨nm, po, pl, pc, lo, fn, lc⟩, rfl, ?_⟩⟩
   have kk := (unhide HK8).trans k7
   obtain ⟨p1, p2, p3, p4⟩ := unhide HP
   have e1 := unhide Hpl
   have e2 := unhide Hfn
   have e0 := unhide Hnm
   subst e0
   exact ⟨⟨rfl, e1, row_turn p1 p2 (.inl rfl) kk, e2, row_turn p3 p4 (.inr rfl) kk⟩, p2.turn (.inl rfl) kk, p4.turn (.inr rfl) kk⟩
end Go.Proofs.Ytagnbpobcijakaa
