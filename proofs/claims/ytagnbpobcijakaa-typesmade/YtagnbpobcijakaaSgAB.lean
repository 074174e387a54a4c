/-
 chancellaw10.those, kind, Good: what they say, as plain data; a place made and filled in a region (no walk in it).
 chancellaw10.those: what it returns.
-/
import Derived.Test.YtagnbpobcijakaaSeAS
import Derived.Test.YtagnbpobcijakaaSdA
import Derived.Test.YtagnbpobcijakaaVeN
import Derived.Deep.CutBlock
import Derived.Maps.AppendAt
namespace Go.Proofs.Ytagnbpobcijakaa
open Go.RowKit Go.Sort

def thoseL (n l : List ByteArray) : List ByteArray := l.filter fun x => !noneB n x
theorem thoseL_next (n l : List ByteArray) (i : Nat) (h : i < l.length) : thoseL n (l.take (i + 1)) = thoseL n (l.take i) ++ (if noneB n l[i] then [] else [l[i]]) := by
 unfold thoseL
 rw [List.take_succ_eq_append_getElem h, List.filter_append]
 cases e : noneB n l[i] <;> simp [e]
theorem thoseL_len (n l : List ByteArray) : (thoseL n l).length ≤ l.length := List.length_filter_le _ _

/-- A kind's place is made and filled: what has been done of it. -/
def KR (s i1 i2 : Nat) (w0 : World) (L : Nat → Bool) (a' : Act) (w' : World) : Prop :=
 Below w0.heap.size w0 w' ∧ (L i1 = true → L i2 = false → ∃ V, a'.tmps.getD s undef = .pointer (some ⟨V, 0, none⟩) ∧ w0.heap.size ≤ V ∧ w'.heap[V]? = some (.cells #[.string ⟨#[]⟩, .slice none 0 0, .slice none 0 0] 80 (0, 0))) ∧ (L i2 = true → L i1 = true)
theorem KR.start (s i1 i2 : Nat) (a : Act) (w0 : World) : KR s i1 i2 w0 (fun _ => false) a w0.drew := ⟨(Below.refl _ _).drew, fun h => (by cases h), fun h => (by cases h)⟩
theorem KR.step {s i1 i2 : Nat} {w0 w' w'' : World} {L : Nat → Bool} {a' : Act} (h : KR s i1 i2 w0 L a' w') (hb : Below w'.heap.size w' w'') (i d : Nat) (v : Value) (hi1 : i ≠ i1) (hi2 : i ≠ i2) (hd : d ≠ s) : KR s i1 i2 w0 (fun j => decide (j = i) || L j) (a'.put (some d) v) w'' := by
 obtain ⟨h1, h2, h3⟩ := h
 have e1 : (decide (i1 = i) || L i1) = L i1 := by simp [Ne.symm hi1]
 have e2 : (decide (i2 = i) || L i2) = L i2 := by simp [Ne.symm hi2]
 refine ⟨h1.trans (hb.mono h1.size), fun x y => ?_, fun x => e1.trans (h3 (e2.symm.trans x))⟩
 obtain ⟨V, x1, x2, x3⟩ := h2 (e1.symm.trans x) (e2.symm.trans y)
 exact ⟨V, (put_other _ _ _ _ hd).trans x1, x2, kept_of_below hb x3⟩
theorem KR.alloc {s i1 i2 : Nat} {w0 w' : World} {L : Nat → Bool} {a' : Act} (h : KR s i1 i2 w0 L a' w') (hL : L i1 = false) (hs : s < a'.tmps.size) (hi : i2 ≠ i1) : KR s i1 i2 w0 (fun j => decide (j = i1) || L j) (a'.put (some s) (.pointer (some ⟨w'.heap.size, 0, none⟩))) (w'.alloc (.cells #[.string ⟨#[]⟩, .slice none 0 0, .slice none 0 0] 80)) := by
 obtain ⟨h1, h2, h3⟩ := h
 refine ⟨h1.alloc h1.size _, fun _ _ => ⟨w'.heap.size, put_same _ _ _ hs, h1.size, alloc_heap _ _⟩, fun x => ?_⟩
 have e2 : (decide (i2 = i1) || L i2) = L i2 := by simp [hi]
 have := h3 (e2.symm.trans x)
 rw [hL] at this
 cases this
theorem KR.store {s i1 i2 : Nat} {w0 w' : World} {L : Nat → Bool} {a' : Act} (h : KR s i1 i2 w0 L a' w') (hL : L i1 = true) (hL2 : L i2 = false) (hi : i1 ≠ i2) (x y z : Value) :
  ∃ V, a'.tmps.getD s undef = .pointer (some ⟨V, 0, none⟩) ∧ w'.heap[V]? = some (.cells #[.string ⟨#[]⟩, .slice none 0 0, .slice none 0 0] 80 (0, 0)) ∧ KR s i1 i2 w0 (fun j => decide (j = i2) || L j) a' (((w'.setCell ⟨V, 0, none⟩ x).setCell ⟨V, 1, none⟩ y).setCell ⟨V, 2, none⟩ z) := by
 obtain ⟨h1, h2, h3⟩ := h
 obtain ⟨V, x1, x2, x3⟩ := h2 hL hL2
 refine ⟨V, x1, x3, ((h1.setCell (p := ⟨V, 0, none⟩) x2 _).setCell (p := ⟨V, 1, none⟩) x2 _).setCell (p := ⟨V, 2, none⟩) x2 _, fun _ y => ?_, fun _ => ?_⟩
 ·simp at y
 ·have : (decide (i1 = i2) || L i1) = L i1 := by simp [hi]
  exact this.trans hL
/-- What the operations of the region answer that asks for a name. -/
def thSp (sv rv : Value) (i b off : Nat) (x : ByteArray) (is : Bool) : Nat → Value → World → Prop
 | 0, v, _ => v = sv
 | 1, v, _ => v = rv
 | 2, v, _ => v = .int .i64 i
 | 3, v, _ => v = .pointer (some ⟨b, off + i, none⟩)
 | 4, v, _ => v = .string x
 | 5, v, _ => ∃ y : N3, v = .tuple #[.agg #[.string y.nm, .slice y.ao y.al y.ac, .slice y.bo y.bl y.bc], .bool is]
 | 6, v, _ => ∃ y : N3, v = .tuple #[.agg #[.string y.nm, .slice y.ao y.al y.ac, .slice y.bo y.bl y.bc], .bool is]
 | 7, v, _ => ∃ y : N3, v = .agg #[.string y.nm, .slice y.ao y.al y.ac, .slice y.bo y.bl y.bc]
 | 8, v, _ => v = .bool is
 | 11, v, _ => v = .bool is
 | _, _, _ => True
theorem thSp_up {sv rv : Value} {i b off : Nat} {x : ByteArray} {is : Bool} {w w' : World} : ∀ q u, thSp sv rv i b off x is q u w → thSp sv rv i b off x is q u w' := fun q u h => by
 match q, h with
 | 0, h | 1, h | 2, h | 3, h | 4, h | 5, h | 6, h | 7, h | 8, h | 9, h | 10, h | 11, h => exact h
 | _ + 12, _ => exact trivial
theorem place_is {l : List ByteArray} {n : ByteArray} {i : Nat} (h : Place l n i) : noneB l n = false := by
 rcases h with ⟨h, _⟩ | ⟨j, _, hj, e, _⟩
 ·omega
 ·exact noneB_false (e ▸ List.getElem_mem hj)
/-- What is asked of a name, in short: a kind, and whether there is one. -/
theorem found_is {s : SP} {n : ByteArray} {e : Ending} {w : World} (h : FoundK s n e w) : ∃ y : N3, e = .returned (.tuple #[.agg #[.string y.nm, .slice y.ao y.al y.ac, .slice y.bo y.bl y.bc], .bool (!noneB s.names n)]) := by
 rcases h with ⟨h1, h2⟩ | ⟨i, hi, x, h1, _, h3⟩
 ·exact ⟨zN3, by rw [noneB_true h1]; exact h2⟩
 ·exact ⟨x, by rw [place_is h1]; exact h3⟩
/-- While names are gathered. -/
structure TH (w wr : World) (sv : Array Value) (n l : List ByteArray) (lv : Value) (i : Nat) : Prop where
 below : Below w.heap.size w wr
 box : wr.heap[w.heap.size]? = some (.cells sv 33 (0, 0))
 own : wr.ownsRow (w.heap.size + 1) 9 1 lv (thoseL n (l.take i)).length ((thoseL n (l.take i)).map strC).flatten
theorem TH.up {w wr wt : World} {sv : Array Value} {n l : List ByteArray} {lv : Value} {i : Nat} (h : TH w wr sv n l lv i) (hb : Below wr.heap.size wr wt) : TH w wt sv n l lv i := ⟨h.below.trans (hb.mono h.below.size), kept_of_below hb h.box, own_belowS h.own hb⟩
theorem strC_flat (l : List ByteArray) (x : ByteArray) : ((l ++ [x]).map strC).flatten = (l.map strC).flatten ++ [.string x] := by simp [strC]
end Go.Proofs.Ytagnbpobcijakaa

namespace Go.Proofs.Ytagnbpobcijakaa
open Go.RowKit Go.Sort

/-- A row of its own with those names. -/
def ThoseP (n l : List ByteArray) (e : Ending) (w' : World) : Prop := ∃ o c', e = .returned (.slice o (thoseL n l).length c') ∧ RowS w' o (thoseL n l) ∧ TyRow w' 9 o (thoseL n l)
set_option maxHeartbeats 8000000 in
set_option maxRecDepth 1000000 in
theorem those_any (s : SP) (v : Value) (l : List ByteArray) (ao : Option Addr) (c : Nat) (w : World) (hl : s.ks.length ≤ 281474976710656) (hll : l.length ≤ 4398046511104) (hs : IsS w v s) (hr : RowS w ao l) :
  Calls Try.prog 25 #[v, .slice ao l.length c] w fun e w' => Below w.heap.size w w' ∧ ThoseP s.names l e w' := by
 obtain ⟨iS, hiS, hzS0, hzS1, hzS2⟩ := info_parts infoStr
 have CK0 := fun n w' (hb : Below w.heap.size w w') => (rKind_any s v n w' hl (hs.below hb)).mono (fun e w9 h => And.intro (found_is h.1) h.2)
 obtain ⟨ko, kc, sao, sac, rfl, _, _⟩ := hs.ex
 clear hs
 have CKH := hide CK0
 clear CK0
 have HR := hide hr
 clear hr
 have b1 := blw1 w (.cells #[.slice ko s.ks.length kc, .slice sao s.ac.length sac] 33)
 have H1 := alloc_heap w (.cells #[.slice ko s.ks.length kc, .slice sao s.ac.length sac] 33)
 go_enter Try.func25, Try.ntmps25
 go_wp2_with fail
 generalize w.alloc _ = w1 at *
 go_wp2
 go_loopw [5, 6] (fun lv iv wr => ∃ i : Nat, iv = .int .i64 i ∧ i ≤ l.length ∧ TH w wr #[.slice ko s.ks.length kc, .slice sao s.ac.length sac] s.names l lv i) (fun _ iv _ => l.length - (intOf iv).toNat)
 case atStart => exact ⟨0, by go_num, Nat.zero_le _, b1, H1, World.ownsRow_nil _ _ _ _⟩
 case round =>
  rename Value => lv
  obtain ⟨i, rfl, hil, hst⟩ := hrel
  have HST := hide hst
  have hbr := hst.below
  clear hst
  by_cases hlt : i < l.length
  ·have i0 : (0 : Int) ≤ (i : Int) := by omega
   have i1 : (i : Int) < (l.length : Int) := by omega
   obtain ⟨g, off, rfl, hgw, cx0⟩ := (unhide HR).get hbr hlt
   have hgr : g < wr.heap.size := by have := hbr.size; omega
   have HN := hide (thoseL_next s.names l i hlt)
   obtain ⟨x, hx⟩ : ∃ x, x = l[i] := ⟨_, rfl⟩
   rw [← hx] at cx0 HN
   clear hx
   have CK := fun w' (hb : Below wr.heap.size wr w') => unhide CKH x w' (hbr.trans (hb.mono hbr.size))
   obtain ⟨is, his⟩ : ∃ is, is = !noneB s.names x := ⟨_, rfl⟩
   have his' : noneB s.names x = !is := by rw [his, Bool.not_not]
   rw [← his] at CK
   rw [his'] at HN
   clear his his'
   go_upto_region 5 with fail
   refine wp_specsD (thSp (.agg #[.slice ko s.ks.length kc, .slice sao s.ac.length sac]) (.slice (some ⟨g, off, none⟩) l.length c) i g off x is) (KR 7 9 10 wr) (by kernel_rfl) (by kernel_rfl) (by kernel_rfl) (KR.start _ _ _ _ wr) ?_ ?_ ?_
   ·intro q o d ho hd L a' w' hL hw hRR hdep hslot hsz K hK
    have hqN : q < 12 := dstOf_lt hd
    have hR := hRR.1
    have HBw := kept_of_below hR (unhide HST).box
    obtain ⟨cb0, cb1⟩ := bl2_ HBw
    have cx : w'.cell? ⟨g, off + i, none⟩ = some (.string x) := (hR.cell (p := ⟨g, off + i, none⟩) hgr).trans cx0
    clear HBw
    have hs2 : a'.tmps.getD 2 undef = .pointer (some ⟨w.heap.size, 0, none⟩) := hslot 2 (fun q h => by have hl := dstOf_lt h; match q, hl with | 0, _ => cases h | 1, _ => cases h | 2, _ => cases h | 3, _ => cases h | 4, _ => cases h | 5, _ => cases h | 6, _ => cases h | 7, _ => cases h | 8, _ => cases h | 9, _ => cases h | 10, _ => cases h | 11, _ => cases h)
    have hs1 : a'.tmps.getD 1 undef = .slice (some ⟨g, off, none⟩) l.length c := hslot 1 (fun q h => by have hl := dstOf_lt h; match q, hl with | 0, _ => cases h | 1, _ => cases h | 2, _ => cases h | 3, _ => cases h | 4, _ => cases h | 5, _ => cases h | 6, _ => cases h | 7, _ => cases h | 8, _ => cases h | 9, _ => cases h | 10, _ => cases h | 11, _ => cases h)
    have hs6 : a'.tmps.getD 6 undef = .int .i64 i := hslot 6 (fun q h => by have hl := dstOf_lt h; match q, hl with | 0, _ => cases h | 1, _ => cases h | 2, _ => cases h | 3, _ => cases h | 4, _ => cases h | 5, _ => cases h | 6, _ => cases h | 7, _ => cases h | 8, _ => cases h | 9, _ => cases h | 10, _ => cases h | 11, _ => cases h)
    have hc : q = 0 ∨ q = 1 ∨ q = 2 ∨ q = 3 ∨ q = 4 ∨ q = 5 ∨ q = 6 ∨ q = 7 ∨ q = 8 ∨ q = 9 ∨ q = 10 ∨ q = 11 := by omega
    rcases hc with rfl | rfl | rfl | rfl | rfl | rfl | rfl | rfl | rfl | rfl | rfl | rfl
    ·cases ho
     cases hd
     have e0 := hs2
     unfold Oper.wp
     go_simp
     exact hK _ _ rfl (hRR.step (Below.refl _ w') 0 16 _ (by decide) (by decide) (by decide)) (fun _ _ h => h)
    ·cases ho
     cases hd
     have e0 := hs1
     unfold Oper.wp
     go_simp
     exact hK _ _ rfl (hRR.step (Below.refl _ w') 1 17 _ (by decide) (by decide) (by decide)) (fun _ _ h => h)
    ·cases ho
     cases hd
     have e0 := hs6
     unfold Oper.wp
     go_simp
     exact hK _ _ rfl (hRR.step (Below.refl _ w') 2 18 _ (by decide) (by decide) (by decide)) (fun _ _ h => h)
    ·cases ho
     cases hd
     have e0 : a'.tmps.getD 17 undef = .slice (some ⟨g, off, none⟩) l.length c := hdep 1 17 rfl (by kernel_rfl)
     have e0' := gd_ e0
     have e1 : a'.tmps.getD 18 undef = .int .i64 i := hdep 2 18 rfl (by kernel_rfl)
     have e1' := gd_ e1
     unfold Oper.wp
     go_simp
     exact hK _ _ rfl (hRR.step (Below.refl _ w') 3 19 _ (by decide) (by decide) (by decide)) (fun _ _ h => h)
    ·cases ho
     cases hd
     have e0 : a'.tmps.getD 19 undef = .pointer (some ⟨g, off + i, none⟩) := hdep 3 19 rfl (by kernel_rfl)
     have e0' := gd_ e0
     unfold Oper.wp
     go_simp
     exact hK _ _ rfl (hRR.step (Below.refl _ w') 4 20 _ (by decide) (by decide) (by decide)) (fun _ _ h => h)
    ·cases ho
     cases hd
     have e0 : a'.tmps.getD 16 undef = .agg #[.slice ko s.ks.length kc, .slice sao s.ac.length sac] := hdep 0 16 rfl (by kernel_rfl)
     have e0' := gd_ e0
     have e1 : a'.tmps.getD 20 undef = .string x := hdep 4 20 rfl (by kernel_rfl)
     have e1' := gd_ e1
     clear cb0 cb1 cx
     unfold Oper.wp
     go_simp
     refine (CK w' hR).mono ?_
     rintro e w9 ⟨⟨y, rfl⟩, b9⟩
     exact hK _ _ ⟨y, rfl⟩ (hRR.step b9 5 21 _ (by decide) (by decide) (by decide)) thSp_up
    ·cases ho
     cases hd
     obtain ⟨y, e1⟩ : thSp (.agg #[.slice ko s.ks.length kc, .slice sao s.ac.length sac]) (.slice (some ⟨g, off, none⟩) l.length c) i g off x is 5 (a'.tmps.getD 21 undef) w' := hdep 5 21 rfl (by kernel_rfl)
     have e1' := gd_ e1
     unfold Oper.wp
     go_simp
     exact hK _ _ ⟨y, rfl⟩ (hRR.step (Below.refl _ w') 6 15 _ (by decide) (by decide) (by decide)) (fun _ _ h => h)
    ·cases ho
     cases hd
     obtain ⟨y, e1⟩ : thSp (.agg #[.slice ko s.ks.length kc, .slice sao s.ac.length sac]) (.slice (some ⟨g, off, none⟩) l.length c) i g off x is 6 (a'.tmps.getD 15 undef) w' := hdep 6 15 rfl (by kernel_rfl)
     have e1' := gd_ e1
     unfold Oper.wp
     go_simp
     exact hK _ _ ⟨y, rfl⟩ (hRR.step (Below.refl _ w') 7 22 _ (by decide) (by decide) (by decide)) (fun _ _ h => h)
    ·cases ho
     cases hd
     obtain ⟨y, e1⟩ : thSp (.agg #[.slice ko s.ks.length kc, .slice sao s.ac.length sac]) (.slice (some ⟨g, off, none⟩) l.length c) i g off x is 6 (a'.tmps.getD 15 undef) w' := hdep 6 15 rfl (by kernel_rfl)
     have e1' := gd_ e1
     unfold Oper.wp
     go_simp
     exact hK _ _ rfl (hRR.step (Below.refl _ w') 8 23 _ (by decide) (by decide) (by decide)) (fun _ _ h => h)
    ·cases ho
     cases hd
     unfold Oper.wp
     go_simp
     exact hK _ _ trivial (hRR.alloc hL (by rw [hsz]; first | decide | simp) (by decide)) thSp_up
    ·cases hd
    ·cases ho
     cases hd
     have e0 : a'.tmps.getD 23 undef = .bool is := hdep 8 23 rfl (by kernel_rfl)
     have e0' := gd_ e0
     unfold Oper.wp
     go_simp
     exact hK _ _ rfl (hRR.step (Below.refl _ w') 11 8 _ (by decide) (by decide) (by decide)) (fun _ _ h => h)
   ·intro q o ho hd L a' w' hL hw hRR hdep K hK
    have hqN : q < 12 := (List.getElem?_eq_some_iff.1 ho).1
    have hR := hRR.1
    have HBw := kept_of_below hR (unhide HST).box
    obtain ⟨cb0, cb1⟩ := bl2_ HBw
    have cx : w'.cell? ⟨g, off + i, none⟩ = some (.string x) := (hR.cell (p := ⟨g, off + i, none⟩) hgr).trans cx0
    clear HBw
    have hc : q = 0 ∨ q = 1 ∨ q = 2 ∨ q = 3 ∨ q = 4 ∨ q = 5 ∨ q = 6 ∨ q = 7 ∨ q = 8 ∨ q = 9 ∨ q = 10 ∨ q = 11 := by omega
    rcases hc with rfl | rfl | rfl | rfl | rfl | rfl | rfl | rfl | rfl | rfl | rfl | rfl
    ·cases hd
    ·cases hd
    ·cases hd
    ·cases hd
    ·cases hd
    ·cases hd
    ·cases hd
    ·cases hd
    ·cases hd
    ·cases hd
    ·cases ho
     obtain ⟨y, e1⟩ : thSp (.agg #[.slice ko s.ks.length kc, .slice sao s.ac.length sac]) (.slice (some ⟨g, off, none⟩) l.length c) i g off x is 7 (a'.tmps.getD 22 undef) w' := hdep 7 22 rfl (by kernel_rfl)
     have e1' := gd_ e1
     obtain ⟨V, eV, hVz, hS⟩ := hRR.store (hw 9 (by kernel_rfl)) hL (by decide) (.string y.nm) (.slice y.ao y.al y.ac) (.slice y.bo y.bl y.bc)
     obtain ⟨d0, d1, d2⟩ := bl3_ hVz
     have df : ∀ o, w'.frozen? ⟨V, o, none⟩ = false := fun o => Lib.frozen_of_heap hVz o
     clear hVz cb0 cb1 cx
     unfold Oper.wp
     go_simp
     exact hK _ hS thSp_up undef
    ·cases hd
   ·intro v L w' hLa hRR hv
    have bq := hRR.1
    have f0 : v 0 = _ := (hv 0 16 rfl).1
    have f1 : v 1 = _ := (hv 1 17 rfl).1
    have f2 : v 2 = _ := (hv 2 18 rfl).1
    have f3 : v 3 = _ := (hv 3 19 rfl).1
    have f4 : v 4 = _ := (hv 4 20 rfl).1
    have f8 : v 8 = _ := (hv 8 23 rfl).1
    have f11 : v 11 = .bool is := (hv 11 8 rfl).1
    clear hRR hv hLa
    simp only [putAll, dstOf, List.getElem?_cons_zero, List.getElem?_cons_succ, Option.bind_some, List.length_cons, List.length_nil, f0, f1, f2, f3, f4, f8, f11]
    clear f0 f1 f2 f3 f4 f8 f11
    simp only [Act.put, List.setIfInBounds_toArray, List.set_cons_succ, List.set_cons_zero]
    generalize v 5 = v5
    generalize v 6 = v6
    generalize v 7 = v7
    generalize v 9 = v9
    generalize v 10 = v10
    obtain ⟨wq, hwq⟩ : ∃ y, y = w' := ⟨_, rfl⟩
    subst hwq
    have HSTq := hide ((unhide HST).up bq)
    have hgq : g < wq.heap.size := by have := bq.size; omega
    have cxq : wq.cell? ⟨g, off + i, none⟩ = some (.string x) := (bq.cell (p := ⟨g, off + i, none⟩) hgr).trans cx0
    cases is
    case false =>
     go_wp2
     go_roundw
     case rel =>
      refine ⟨i + 1, by go_num, by omega, ?_⟩
      have h := unhide HSTq
      refine ⟨h.below, h.box, ?_⟩
      rw [unhide HN]
      have := h.own
      simpa using this
     case measure =>
      simp only [intOf]
      omega
    case true =>
     have hown := (unhide HSTq).own
     have hbw := (unhide HSTq).below
     obtain ⟨T, hT⟩ : ∃ T, T = thoseL s.names (l.take i) := ⟨_, rfl⟩
     have hTl : T.length ≤ 4398046511104 := by
      have h1 := thoseL_len s.names (l.take i)
      rw [← hT] at h1
      have h2 : (l.take i).length ≤ l.length := by simp; omega
      omega
     rw [← hT] at hown HN
     have hbox := (unhide HSTq).box
     have HT := hide hT
     clear hT
     have bl := blw1 wq (.cells #[.string x] 9)
     have zl : (wq.alloc (.cells #[.string x] 9)).heap.size = wq.heap.size + 1 := by simp
     have Hown := hide (own_belowS hown bl)
     have hnb := (unhide Hown).lt
     have HNw := hide (alloc_heap wq (.cells #[.string x] 9))
     have bw1 := hbw.trans (bl.mono hbw.size)
     have hbox1 := kept_of_below bl hbox
     have zw := hbw.size
     have zb : w.heap.size < wq.heap.size := (Array.getElem?_eq_some_iff.1 hbox).1
     clear hown
     go_wp2_with (at_builtin; refine wpList_append_own _ rfl _ _ 77 rfl (w.heap.size + 1) 9 iS _ 1 16 Try.underlying77 hiS hzS0 hzS1 hzS2 rfl (by decide) _ _ _ rfl (unhide Hown) ⟨wq.heap.size, 0, none⟩ 1 1 [.string x] rfl rfl ?c1 ?c2 ?c3 ?c4 ?c5 ?_)
     case c1 =>
      intro j u hj
      rw [Addr.add_lit, Nat.zero_add, Lib.cell_of_heap (unhide HNw)]
      simpa using hj
     case c2 => intro u hu; simp at hu; subst hu; rfl
     case c3 => unfold maxLen; omega
     case c4 => omega
     case c5 => omega
     intro v6' w6 hown6 hgrow _
     have b6 : Below w.heap.size w w6 := bw1.grown hgrow bw1.size (fun j hj => by have := (hnb j hj).1; omega)
     have hbox6 := (hgrow.block w.heap.size (by omega) (fun h => by have := (hnb _ h.symm).1; omega)).trans hbox1
     have HV := hide (And.intro b6 (And.intro hbox6 hown6))
     clear hown6 hgrow hbox6 hnb
     go_wp2
     go_roundw
     case rel =>
      obtain ⟨q1, q2, q3⟩ := unhide HV
      refine ⟨i + 1, by go_num, by omega, q1, q2, ?_⟩
      rw [unhide HN]
      simp only [Bool.not_true, if_false, Bool.false_eq_true]
      rw [strC_flat, List.length_append]
      exact q3
     case measure =>
      simp only [intOf]
      omega
  ·have i1 : ¬ (i : Int) < (l.length : Int) := by omega
   have hst := unhide HST
   have e : l.take i = l := List.take_of_length_le (by omega)
   have hown := hst.own
   rw [e] at hown
   obtain ⟨o, c', rfl, r1, r2, r3⟩ := own_row lenS hown
   have HH := hide (And.intro r1 (And.intro r2 r3))
   clear hst e hown r1 r2 r3
   go_wp2
   go_ret
   exact ⟨hbr, ⟨o, c', rfl, (unhide HH).1, (unhide HH).2.1⟩⟩
end Go.Proofs.Ytagnbpobcijakaa
