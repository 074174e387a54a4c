/-
  ents.checkEntity, ents.Check: what they return.
-/
import Derived.Test.YtnbbimcooilmdaaGreatEnC
import Derived.Test.YtnbbimcooilmdaaGreatVeK
import Derived.Deep.Cut
namespace Go.Proofs.YtnbbimcooilmdaaGreat
open Go.RowKit Go.Sort

/-- What value.Check tells of a value, in every later world. -/
def Told (w : World) (r : R7) (z : Int) : Prop := ∀ w', Below w.heap.size w w' → Calls Tryz.prog 57 #[r.val] w' fun e w'' => e = .returned (.int .i64 z) ∧ Below w'.heap.size w' w''
theorem Told.below {w w' : World} {r : R7} {z : Int} (h : Told w r z) (hb : Below w.heap.size w w') : Told w' r z := fun w'' h2 => h w'' (hb.trans (h2.mono hb.size))

/-- An entity in memory, with its parents, and its attributes, of each of which it is known what value.Check tells. -/
structure EntOk (w : World) (e : E4) (us : List U2) (ats : List A8) (zf : R7 → Int) : Prop where
  own : small2 (e4u e)
  pl : e.pl = us.length
  ul : us.length ≤ 1048576
  rowU : RowG w e.po 2 (us.map U2.cells)
  smallU : ∀ u ∈ us, small2 u
  al : e.al = ats.length
  aal : ats.length ≤ 1048576
  rowA : RowG w e.ao 8 (ats.map A8.cells)
  smallA : ∀ a ∈ ats, a.nm.size ≤ 1099511627776
  told : ∀ a ∈ ats, Told w a.v (zf a.v)
theorem EntOk.below {w w' : World} {e : E4} {us : List U2} {ats : List A8} {zf : R7 → Int} (h : EntOk w e us ats zf) (hb : Below w.heap.size w w') : EntOk w' e us ats zf :=
  ⟨h.own, h.pl, h.ul, h.rowU.below hb, h.smallU, h.al, h.aal, h.rowA.below hb, h.smallA, fun a ha => (h.told a ha).below hb⟩
def chkRowA (zf : R7 → Int) (ats : List A8) : Int := rowE (fun a => chkA a.nm (zf a.v)) lessN 5 ats
def chkRowU (us : List U2) : Int := rowE chk2 lessU 4 us
def chkE (u : U2) (us : List U2) (ats : List A8) (zf : R7 → Int) : Int := or3 (chk2 u) (chkRowU us) (chkRowA zf ats)

/-- What each slot of the region holds. -/
def entSp (B : Nat) (e : E4) (x y z : Int) : Nat → Value → World → Prop
  | 0, v, _ => v = .pointer (some ⟨B, 0, none⟩)
  | 1, v, _ => v = .agg #[.string e.t, .string e.i]
  | 2, v, _ => v = .int .i64 x
  | 3, v, _ => v = .pointer (some ⟨B, 2, none⟩)
  | 4, v, _ => v = .slice e.po e.pl e.pc
  | 5, v, _ => v = .int .i64 y
  | 6, v, _ => v = .pointer (some ⟨B, 3, none⟩)
  | 7, v, _ => v = .slice e.ao e.al e.ac
  | 8, v, _ => v = .int .i64 z
  | _ + 9, _, _ => True
theorem entSp_up {B : Nat} {e : E4} {x y z : Int} {w w' : World} : ∀ j u, entSp B e x y z j u w → entSp B e x y z j u w'
  | 0, _, h | 1, _, h | 2, _, h | 3, _, h | 4, _, h | 5, _, h | 6, _, h | 7, _, h | 8, _, h => h
  | _ + 9, _, _ => trivial

set_option maxHeartbeats 4000000 in
set_option maxRecDepth 1000000 in
theorem checkEntity_any (e : E4) (us : List U2) (ats : List A8) (zf : R7 → Int) (w : World) (H : EntOk w e us ats zf) :
    Calls Tryz.prog 23 #[e.val] w fun x w' => x = .returned (.int .i64 (chkE (e4u e) us ats zf)) ∧ Below w.heap.size w w' := by
  have b1 := below1 w (.cells #[.string e.t, .string e.i, .slice e.po e.pl e.pc, .slice e.ao e.al e.ac] 29)
  have z1 := size1 w (.cells #[.string e.t, .string e.i, .slice e.po e.pl e.pc, .slice e.ao e.al e.ac] 29)
  have A1 : AtE4 (w.alloc (.cells #[.string e.t, .string e.i, .slice e.po e.pl e.pc, .slice e.ao e.al e.ac] 29)) w.heap.size 0 e := ⟨by simp, by simp, by simp, by simp⟩
  have C1 := fun w' => echeckUid_any (e4u e) w' H.own
  have C2 := fun w' (hb : Below w.heap.size w w') => rowUid_any us e.po e.pc 4 chk2 lessU w' H.ul (H.rowU.below hb) (fun u hu w2 _ => echeckUid_any u w2 (H.smallU u hu)) vlessUid_any
  have C3 := fun w' (hb : Below w.heap.size w w') => rowAttr_any ats e.ao e.ac 5 (fun a => chkA a.nm (zf a.v)) lessN w' H.aal (H.rowA.below hb) (fun a ha w2 h2 => checkAttr_any a (zf a.v) w2 (H.smallA a ha) ((H.told a ha).below (hb.trans (h2.mono hb.size)))) lessAttr_any
  rw [← H.pl] at C2
  rw [← H.al] at C3
  have HZ := hide (show chkE (e4u e) us ats zf = or3 (chk2 (e4u e)) (rowE chk2 lessU 4 us) (rowE (fun a => chkA a.nm (zf a.v)) lessN 5 ats) from rfl)
  generalize chkE (e4u e) us ats zf = r at *
  generalize chk2 (e4u e) = x at *
  generalize rowE chk2 lessU 4 us = y at *
  generalize rowE (fun a => chkA a.nm (zf a.v)) lessN 5 ats = z at *
  unfold U2.val e4u at C1
  simp only at C1
  clear H
  unfold E4.val
  go_enter Tryz.func23, Tryz.ntmps23
  go_upto_region 1 with fail
  generalize w.alloc _ = w1 at *
  refine wp_specs_put 9 (entSp w.heap.size e x y z) (fun w' => Below w1.heap.size w1 w') (by kernel_rfl) (by kernel_rfl) (Below.refl _ w1).drew ?_ ?_
  · intro i o hi ho a' w' hR hdep hslot K hK
    obtain ⟨c0, c1, c2, c3⟩ := A1.below hR (by omega)
    simp only [Nat.zero_add] at c1 c2 c3
    have b' := b1.trans (hR.mono b1.size)
    have hc : i = 0 ∨ i = 1 ∨ i = 2 ∨ i = 3 ∨ i = 4 ∨ i = 5 ∨ i = 6 ∨ i = 7 ∨ i = 8 := by omega
    rcases hc with rfl | rfl | rfl | rfl | rfl | rfl | rfl | rfl | rfl
    · cases ho
      have e : a'.tmps.getD 1 undef = .pointer (some ⟨w.heap.size, 0, none⟩) := hslot 1 (by decide)
      unfold Oper.wp
      go_simp
      exact hK _ _ rfl hR (fun _ _ h => h)
    · cases ho
      have e : a'.tmps.getD 3 undef = .pointer (some ⟨w.heap.size, 0, none⟩) := hdep 0 (by kernel_rfl)
      unfold Oper.wp
      go_simp
      exact hK _ _ rfl hR (fun _ _ h => h)
    · cases ho
      have e : a'.tmps.getD 4 undef = .agg #[.string e.t, .string e.i] := hdep 1 (by kernel_rfl)
      unfold Oper.wp
      go_simp
      refine (C1 w').mono ?_
      rintro e w3 ⟨rfl, b3⟩
      exact hK _ _ rfl (hR.trans (b3.mono hR.size)) entSp_up
    · cases ho
      have e : a'.tmps.getD 1 undef = .pointer (some ⟨w.heap.size, 0, none⟩) := hslot 1 (by decide)
      unfold Oper.wp
      go_simp
      exact hK _ _ rfl hR (fun _ _ h => h)
    · cases ho
      have e : a'.tmps.getD 6 undef = .pointer (some ⟨w.heap.size, 2, none⟩) := hdep 3 (by kernel_rfl)
      unfold Oper.wp
      go_simp
      exact hK _ _ rfl hR (fun _ _ h => h)
    · cases ho
      have e : a'.tmps.getD 7 undef = .slice e.po e.pl e.pc := hdep 4 (by kernel_rfl)
      unfold Oper.wp
      go_simp
      refine (C2 w' b').mono ?_
      rintro e w3 ⟨rfl, b3⟩
      exact hK _ _ rfl (hR.trans (b3.mono hR.size)) entSp_up
    · cases ho
      have e : a'.tmps.getD 1 undef = .pointer (some ⟨w.heap.size, 0, none⟩) := hslot 1 (by decide)
      unfold Oper.wp
      go_simp
      exact hK _ _ rfl hR (fun _ _ h => h)
    · cases ho
      have e : a'.tmps.getD 9 undef = .pointer (some ⟨w.heap.size, 3, none⟩) := hdep 6 (by kernel_rfl)
      unfold Oper.wp
      go_simp
      exact hK _ _ rfl hR (fun _ _ h => h)
    · cases ho
      have e : a'.tmps.getD 10 undef = .slice e.ao e.al e.ac := hdep 7 (by kernel_rfl)
      unfold Oper.wp
      go_simp
      refine (C3 w' b').mono ?_
      rintro e w3 ⟨rfl, b3⟩
      exact hK _ _ rfl (hR.trans (b3.mono hR.size)) entSp_up
  · intro v w' hR hall
    have f0 := hall 0 (by decide)
    have f1 := hall 1 (by decide)
    have f2 := hall 2 (by decide)
    have f3 := hall 3 (by decide)
    have f4 := hall 4 (by decide)
    have f5 := hall 5 (by decide)
    have f6 := hall 6 (by decide)
    have f7 := hall 7 (by decide)
    have f8 := hall 8 (by decide)
    unfold entSp at f0 f1 f2 f3 f4 f5 f6 f7 f8
    have b03 := b1.trans (hR.mono b1.size)
    clear hall C1 C2 C3 A1
    simp only [putAll, dstOf, List.getElem?_cons_zero, List.getElem?_cons_succ, Option.bind_some, List.drop_succ_cons, List.drop_zero, f0, f1, f2, f3, f4, f5, f6, f7, f8]
    clear f0 f1 f2 f3 f4 f5 f6 f7 f8
    simp only [Act.put, List.setIfInBounds_toArray, List.set_cons_succ, List.set_cons_zero]
    have OR := fun b c W h0 h1 h2 => orErr_three x y z b c W h0 h1 h2
    go_wp2_with fail
    refine (OR _ _ _ ?_ ?_ ?_).mono ?_
    · simp
    · simp
    · simp
    rintro q w4 ⟨rfl, rfl⟩
    go_wp2
    go_ret
    exact ⟨ret_int (unhide HZ).symm, b03.alloc b03.size _⟩

set_option maxHeartbeats 1000000 in
set_option maxRecDepth 1000000 in
theorem echeck_any (es : List E4) (ao : Option Addr) (cap : Nat) (cf : E4 → Int) (w : World) (hl : es.length ≤ 1048576) (hr : RowG w ao 4 (es.map E4.cells))
    (H : ∀ e ∈ es, ∃ us ats zf, EntOk w e us ats zf ∧ cf e = chkE (e4u e) us ats zf) :
    Calls Tryz.prog 8 #[.slice ao es.length cap] w fun x w' => x = .returned (.int .i64 (rowE cf lessE 16 es)) ∧ Below w.heap.size w w' := by
  have C := rowEntity_any es ao cap 16 cf lessE w hl hr (fun e he w' hb => by
    obtain ⟨us, ats, zf, h, hc⟩ := H e he
    rw [hc]
    exact checkEntity_any e us ats zf w' (h.below hb)) lessEntity_any
  generalize rowE cf lessE 16 es = r at *
  clear H hr
  go_enter Tryz.func8, Tryz.ntmps8
  go_wp2_with fail
  refine C.mono ?_
  rintro e w2 ⟨rfl, b2⟩
  go_wp2
  go_ret
  exact ⟨rfl, b2⟩
end Go.Proofs.YtnbbimcooilmdaaGreat
