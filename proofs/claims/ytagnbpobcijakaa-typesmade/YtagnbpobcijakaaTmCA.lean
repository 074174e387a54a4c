/-
 chancellaw11.truth: way 4: what it returns.
 chancellaw11.truth: way 5: what it returns.
 chancellaw11.truth: way 6: what it returns.
 chancellaw11.truth: way 7: what it returns.
-/
import Derived.Test.YtagnbpobcijakaaTmAB
namespace Go.Proofs.Ytagnbpobcijakaa
open Go.RowKit Go.Sort

set_option maxHeartbeats 8000000 in
set_option maxRecDepth 1000000 in
theorem truth11_4 (s : SP) (ko ao : Option Addr) (kc acp : Nat) (p ac r : ByteArray) (dp : Int) (n : Nat) (d : R4) (x : Rw) (w : World) (hp : isKn s p) (hr : isKn s r) (hx : IsR w d x) (COF : ∀ (w' : World) (t : T3) (d : R4) (x : Rw), Below w.heap.size w w' → GTy s t → IsR w' d x → Calls Try.prog 14 #[.agg #[.slice ko s.ks.length kc, .slice ao s.ac.length acp, .string p, .string ac, .string r, .int .i64 dp], .agg #[.int .i64 t.k, .int .i64 t.o, .string t.n], .agg #[.int .i64 d.op, .int .i64 d.n, .slice d.so d.sl d.sc, .slice d.lo d.ll d.lc]] w' fun e w9 => MakesT s p r t n w' e w9) : Calls Try.prog 60 #[.agg #[.slice ko s.ks.length kc, .slice ao s.ac.length acp, .string p, .string ac, .string r, .int .i64 dp], .agg #[.int .i64 d.op, .int .i64 d.n, .slice d.so d.sl d.sc, .slice d.lo d.ll d.lc], .int .i64 4] w fun e w' => MakesT s p r ⟨1, 0, ⟨#[]⟩⟩ (n + 1) w e w' := by
 obtain ⟨bX, zX, k1, k2, k3⟩ := alloc3 w (.cells #[.slice ko s.ks.length kc, .slice ao s.ac.length acp, .string p, .string ac, .string r, .int .i64 dp] 52) (.cells #[.int .i64 d.op, .int .i64 d.n, .slice d.so d.sl d.sc, .slice d.lo d.ll d.lc] 49) (.cells #[.int .i64 0, .bool false, .int .i64 0, .string ⟨#[]⟩, .string ⟨#[]⟩, .string ⟨#[]⟩, .slice none 0 0] 39)
 have HX := hide hx
 have CS := fun w' => some11_any s ko ao kc acp p ac r dp d.n w' hp hr
 have hg1 : GTy s ⟨1, 0, ⟨#[]⟩⟩ := .inl ⟨.inl rfl, rfl, rfl⟩
 have hg2 : GTy s ⟨2, 0, ⟨#[]⟩⟩ := .inl ⟨.inr (.inl rfl), rfl, rfl⟩
 have hg3 : GTy s ⟨3, 0, ⟨#[]⟩⟩ := .inl ⟨.inr (.inr rfl), rfl, rfl⟩
 have hgp : GTy s ⟨4, 0, p⟩ := .inr (.inl ⟨rfl, rfl, hp⟩)
 have hgr : GTy s ⟨4, 0, r⟩ := .inr (.inl ⟨rfl, rfl, hr⟩)
 have hgs : GTy s ⟨5, 4, r⟩ := .inr (.inr ⟨rfl, .inr ⟨rfl, hr⟩⟩)
 clear hx hp hr
 go_enter Try.func60, Try.ntmps60
 go_upto_region 1 with fail
 generalize ((w.alloc _).alloc _).alloc _ = w1 at *
 clear zX
 have mk2 : w1.cell? ⟨w.heap.size, 2, none⟩ = some (.string p) := lc_ k1 rfl
 have b2 := blw1 w1 (.cells #[.int .i64 4, .int .i64 0, .string p] 54)
 have k4 := alloc_heap w1 (.cells #[.int .i64 4, .int .i64 0, .string p] 54)
 go_upto_region 2 with fail
 clear mk2
 have bX := bX.trans (b2.mono bX.size)
 have k1 := kept_of_below b2 k1
 have k2 := kept_of_below b2 k2
 have k3 := kept_of_below b2 k3
 generalize w1.alloc _ = w2 at *
 obtain ⟨mk0, mk1, mk2, mk3, mk4, mk5⟩ := bl6_ k1
 obtain ⟨rr0, rr1, rr2, rr3⟩ := bl4_ k2
 have CS := CS w2
 go_wp2_with fail
 refine CS.mono ?_
 clear CS mk0 mk1 mk2 mk3 mk4 mk5 rr0 rr1 rr2 rr3
 rintro e9 w3 ⟨⟨tk, to_, tn⟩, rfl, b3, hgt, ht5⟩
 have b4 := blw1 w3 (.cells #[.int .i64 tk, .int .i64 to_, .string tn] 54)
 have k5 := alloc_heap w3 (.cells #[.int .i64 tk, .int .i64 to_, .string tn] 54)
 go_upto_region 3 with fail
 have B4 := b3.trans (b4.mono b3.size)
 have bX := bX.trans (B4.mono bX.size)
 have k1 := kept_of_below B4 k1
 have k2 := kept_of_below B4 k2
 have k3 := kept_of_below B4 k3
 have k4 := kept_of_below B4 k4
 generalize w3.alloc _ = w4 at *
 have hVlt : w.heap.size + 2 < w4.heap.size := (Array.getElem?_eq_some_iff.1 k3).1
 have CK := fun (i : Int) (h1 : 0 ≤ i ∧ i ≤ 10) w' (hb : Below w4.heap.size w4 w') => kid11_any d x i w' h1 (IsR.below (bX.trans (hb.mono bX.size)) d x (unhide HX))
 have CO := fun (t : T3) (ht : GTy s t) w' (hb : Below w4.heap.size w4 w') (d' : R4) (x' : Rw) (hx' : IsR w' d' x') => COF w' t d' x' (bX.trans (hb.mono bX.size)) ht hx'
 clear COF B4 b3 b4
 have HT := hide (show nodeT s p r 11 (ba []) (ba []) (ba []) [⟨1, 0, ⟨#[]⟩⟩] = (⟨1, 0, ⟨#[]⟩⟩, 0) from rfl)
 go_upto_region 5 with fail
 refine wp_specs_put 7 (SpM [.eq (.agg #[.slice ko s.ks.length kc, .slice ao s.ac.length acp, .string p, .string ac, .string r, .int .i64 dp]), .eq (.agg #[.int .i64 1, .int .i64 0, .string ⟨#[]⟩]), .eq (.agg #[.int .i64 d.op, .int .i64 d.n, .slice d.so d.sl d.sc, .slice d.lo d.ll d.lc]), .up (rawP), .up (treeP w4.heap.size s p r ⟨1, 0, ⟨#[]⟩⟩ n), .up (rowP w4.heap.size s p r [⟨1, 0, ⟨#[]⟩⟩] n 1), .up (treeP w4.heap.size s p r ⟨1, 0, ⟨#[]⟩⟩ (n + 1))]) (fun w' => Below w4.heap.size w4 w') (by kernel_rfl) (by kernel_rfl) (Below.refl _ w4).drew ?_ ?_
 ·intro q o hq' ho a' w' hR hdep hslot K hK
  have m1 := kept_of_below hR k1
  have m2 := kept_of_below hR k2
  have m4 := kept_of_below hR k4
  have m5 := kept_of_below hR k5
  obtain ⟨mk0, mk1, mk2, mk3, mk4, mk5⟩ := bl6_ m1
  obtain ⟨rr0, rr1, rr2, rr3⟩ := bl4_ m2
  obtain ⟨u0, u1, u2⟩ := bl3_ m4
  obtain ⟨t0, t1, t2⟩ := bl3_ m5
  clear m1 m2 m4 m5
  have hc : q = 0 ∨ q = 1 ∨ q = 2 ∨ q = 3 ∨ q = 4 ∨ q = 5 ∨ q = 6 := by omega
  rcases hc with rfl | rfl | rfl | rfl | rfl | rfl | rfl
  ·cases ho
   have e0 : a'.tmps.getD 3 undef = .pointer (some ⟨w.heap.size, 0, none⟩) := hslot 3 (by decide)
   clear rr0 rr1 rr2 rr3 u0 u1 u2 t0 t1 t2
   unfold Oper.wp
   go_simp
   exact hK _ _ rfl hR (fun _ _ h => h)
  ·cases ho
   clear mk0 mk1 mk2 mk3 mk4 mk5 rr0 rr1 rr2 rr3 u0 u1 u2 t0 t1 t2
   unfold Oper.wp
   go_simp
   exact hK _ _ rfl hR (fun _ _ h => h)
  ·cases ho
   have e0 : a'.tmps.getD 4 undef = .pointer (some ⟨w.heap.size + 1, 0, none⟩) := hslot 4 (by decide)
   clear mk0 mk1 mk2 mk3 mk4 mk5 u0 u1 u2 t0 t1 t2
   unfold Oper.wp
   go_simp
   exact hK _ _ rfl hR (fun _ _ h => h)
  ·cases ho
   have e0 : a'.tmps.getD 22 undef = .agg #[.int .i64 d.op, .int .i64 d.n, .slice d.so d.sl d.sc, .slice d.lo d.ll d.lc] := hdep 2 (by kernel_rfl)
   have e0' := gd_ e0
   clear mk0 mk1 mk2 mk3 mk4 mk5 rr0 rr1 rr2 rr3 u0 u1 u2 t0 t1 t2
   unfold Oper.wp
   go_simp
   refine (CK 0 (by decide) w' hR).mono ?_
   rintro e w9 ⟨⟨r9, y9, rfl, h9⟩, b9⟩
   exact hK _ _ ⟨r9, y9, rfl, h9⟩ (hR.trans (b9.mono hR.size)) (SpM.up b9)
  ·cases ho
   have e0 : a'.tmps.getD 20 undef = .agg #[.slice ko s.ks.length kc, .slice ao s.ac.length acp, .string p, .string ac, .string r, .int .i64 dp] := hdep 0 (by kernel_rfl)
   have e0' := gd_ e0
   have e1 : a'.tmps.getD 21 undef = .agg #[.int .i64 1, .int .i64 0, .string ⟨#[]⟩] := hdep 1 (by kernel_rfl)
   have e1' := gd_ e1
   obtain ⟨r2, x2, e2, hx2⟩ : (rawP).p (a'.tmps.getD 23 undef) w' := hdep 3 (by kernel_rfl)
   have e2' := gd_ e2
   have Hhx2 := hide hx2
   clear hx2 mk0 mk1 mk2 mk3 mk4 mk5 rr0 rr1 rr2 rr3 u0 u1 u2 t0 t1 t2
   unfold Oper.wp
   go_simp
   refine (CO ⟨1, 0, ⟨#[]⟩⟩ hg1 w' hR r2 x2 (unhide Hhx2)).mono ?_
   rintro e w9 ⟨q9, rfl, b9, y9, h9⟩
   exact hK _ _ ⟨q9, y9, rfl, h9.weak hR.size (Nat.le_refl _)⟩ (hR.trans (b9.mono hR.size)) (SpM.up b9)
  ·cases ho
   obtain ⟨q0, y0, e0, hy0⟩ : (treeP w4.heap.size s p r ⟨1, 0, ⟨#[]⟩⟩ n).p (a'.tmps.getD 24 undef) w' := hdep 4 (by kernel_rfl)
   have e0' := gd_ e0
   have Hhy0 := hide hy0
   clear hy0 mk0 mk1 mk2 mk3 mk4 mk5 rr0 rr1 rr2 rr3 u0 u1 u2 t0 t1 t2
   unfold Oper.wp
   go_simp
   exact hK _ _ ⟨w'.heap.size, [q0], [y0], _, rfl, hR.size, alloc_heap _ _, rfl, .cons ((unhide Hhy0).up (blw1 _ _)) .nil⟩ (hR.alloc hR.size _) (SpM.up (blw1 _ _))
  ·cases ho
   obtain ⟨b0, qs0, es0, cs0, e0, hB0, hb0, hc0, ha0⟩ : (rowP w4.heap.size s p r [⟨1, 0, ⟨#[]⟩⟩] n 1).p (a'.tmps.getD 25 undef) w' := hdep 5 (by kernel_rfl)
   have e0' := gd_ e0
   have HhB0 := hide hB0
   have Hhb0 := hide hb0
   have Hhc0 := hide hc0
   have Hha0 := hide ha0
   clear hB0 hb0 hc0 ha0 mk0 mk1 mk2 mk3 mk4 mk5 rr0 rr1 rr2 rr3 u0 u1 u2 t0 t1 t2
   unfold Oper.wp
   go_simp
   exact hK _ _ ⟨⟨11, false, 0, ⟨#[]⟩, ⟨#[]⟩, ⟨#[]⟩, some ⟨b0, 0, none⟩, 1, 1⟩, .mk 11 false 0 [] [] [] es0, rfl, made_node (sx := []) (unhide Hhb0) (unhide Hhc0) (unhide HhB0) (unhide Hha0) rfl (by decide) (fun _ => rfl) (by simp) (unhide HT)⟩ hR (fun _ _ h => h)
 ·intro v w' hR hall
  have f0 : v 0 = .agg #[.slice ko s.ks.length kc, .slice ao s.ac.length acp, .string p, .string ac, .string r, .int .i64 dp] := hall 0 (by decide)
  have f1 : v 1 = .agg #[.int .i64 1, .int .i64 0, .string ⟨#[]⟩] := hall 1 (by decide)
  have f2 : v 2 = .agg #[.int .i64 d.op, .int .i64 d.n, .slice d.so d.sl d.sc, .slice d.lo d.ll d.lc] := hall 2 (by decide)
  obtain ⟨qZ, yZ, eZ, hyZ⟩ : (treeP w4.heap.size s p r ⟨1, 0, ⟨#[]⟩⟩ (n + 1)).p (v 6) w' := hall 6 (by decide)
  have f6 : v 6 = .agg #[.int .i64 qZ.k, .bool qZ.b, .int .i64 qZ.n, .string qZ.s, .string qZ.t, .string qZ.i, .slice qZ.lo qZ.ll qZ.lc] := eZ
  clear eZ
  have HhyZ := hide hyZ
  clear hyZ
  clear hall
  simp only [putAll, dstOf, List.getElem?_cons_zero, List.getElem?_cons_succ, Option.bind_some, List.drop_succ_cons, List.drop_zero, f0, f1, f2, f6]
  clear f0 f1 f2 f6
  simp only [Act.put, List.setIfInBounds_toArray, List.set_cons_succ, List.set_cons_zero]
  generalize v 3 = vv3
  generalize v 4 = vv4
  generalize v 5 = vv5
  have hV := kept_of_below hR k3
  have b0 := bX.trans (hR.mono bX.size)
  obtain ⟨y0, y1, y2, y3, y4, y5, y6, yf⟩ := blk7 hV
  have HB := hide (And.intro b0 hVlt)
  have hw4 : w.heap.size ≤ w4.heap.size := bX.size
  clear hV b0 CK CO hg1 hg2 hg3 hgp hgr hgs hgt ht5
  go_wp2
  exact bodyPost_ret (v := .agg #[.int .i64 qZ.k, .bool qZ.b, .int .i64 qZ.n, .string qZ.s, .string qZ.t, .string qZ.i, .slice qZ.lo qZ.ll qZ.lc]) (by simp [results, Try.results60, go_sem, y0, y1, y2, y3, y4, y5, y6]) rfl ⟨qZ, rfl, set7S_below (unhide HB).1 (Nat.le_add_right _ 2) _ _ _ _ _ _ _, yZ, ((unhide HhyZ).keep (w' := set7S _ _ _ _ _ _ _ _ _) (by rw [set7S_size]; exact Nat.le_refl _) (fun b hB _ => set7S_heap _ _ _ _ _ _ _ _ _ _ (by have := (unhide HB).2; omega))).weak hw4 (Nat.le_refl _)⟩
end Go.Proofs.Ytagnbpobcijakaa

namespace Go.Proofs.Ytagnbpobcijakaa
open Go.RowKit Go.Sort

set_option maxHeartbeats 8000000 in
set_option maxRecDepth 1000000 in
theorem truth11_5 (s : SP) (ko ao : Option Addr) (kc acp : Nat) (p ac r : ByteArray) (dp : Int) (n : Nat) (d : R4) (x : Rw) (mm : Nat) (opv : Int) (hm : d.n % 2 = (mm : Int)) (hm2 : mm < 2) (hO : (#[.int .i64 23, .int .i64 24] : Array Value)[mm]? = some (.int .i64 opv)) (hKo : (6 ≤ opv ∧ opv ≤ 25) ∧ 2 = wantN opv) (hT : nodeT s p r opv (ba []) (ba []) (ba []) [⟨1, 0, ⟨#[]⟩⟩, ⟨1, 0, ⟨#[]⟩⟩] = (⟨1, 0, ⟨#[]⟩⟩, 0)) (w : World) (hp : isKn s p) (hr : isKn s r) (hx : IsR w d x) (COF : ∀ (w' : World) (t : T3) (d : R4) (x : Rw), Below w.heap.size w w' → GTy s t → IsR w' d x → Calls Try.prog 14 #[.agg #[.slice ko s.ks.length kc, .slice ao s.ac.length acp, .string p, .string ac, .string r, .int .i64 dp], .agg #[.int .i64 t.k, .int .i64 t.o, .string t.n], .agg #[.int .i64 d.op, .int .i64 d.n, .slice d.so d.sl d.sc, .slice d.lo d.ll d.lc]] w' fun e w9 => MakesT s p r t n w' e w9) : Calls Try.prog 60 #[.agg #[.slice ko s.ks.length kc, .slice ao s.ac.length acp, .string p, .string ac, .string r, .int .i64 dp], .agg #[.int .i64 d.op, .int .i64 d.n, .slice d.so d.sl d.sc, .slice d.lo d.ll d.lc], .int .i64 5] w fun e w' => MakesT s p r ⟨1, 0, ⟨#[]⟩⟩ (n + 1) w e w' := by
 obtain ⟨bX, zX, k1, k2, k3⟩ := alloc3 w (.cells #[.slice ko s.ks.length kc, .slice ao s.ac.length acp, .string p, .string ac, .string r, .int .i64 dp] 52) (.cells #[.int .i64 d.op, .int .i64 d.n, .slice d.so d.sl d.sc, .slice d.lo d.ll d.lc] 49) (.cells #[.int .i64 0, .bool false, .int .i64 0, .string ⟨#[]⟩, .string ⟨#[]⟩, .string ⟨#[]⟩, .slice none 0 0] 39)
 have HX := hide hx
 have CS := fun w' => some11_any s ko ao kc acp p ac r dp d.n w' hp hr
 have hg1 : GTy s ⟨1, 0, ⟨#[]⟩⟩ := .inl ⟨.inl rfl, rfl, rfl⟩
 have hg2 : GTy s ⟨2, 0, ⟨#[]⟩⟩ := .inl ⟨.inr (.inl rfl), rfl, rfl⟩
 have hg3 : GTy s ⟨3, 0, ⟨#[]⟩⟩ := .inl ⟨.inr (.inr rfl), rfl, rfl⟩
 have hgp : GTy s ⟨4, 0, p⟩ := .inr (.inl ⟨rfl, rfl, hp⟩)
 have hgr : GTy s ⟨4, 0, r⟩ := .inr (.inl ⟨rfl, rfl, hr⟩)
 have hgs : GTy s ⟨5, 4, r⟩ := .inr (.inr ⟨rfl, .inr ⟨rfl, hr⟩⟩)
 have HO := hide hO
 have HKo := hide hKo
 have HT := hide hT
 have Hmm := hide hm
 clear hx hp hr hO hKo hT hm
 go_enter Try.func60, Try.ntmps60
 go_upto_region 1 with fail
 generalize ((w.alloc _).alloc _).alloc _ = w1 at *
 clear zX
 have mk2 : w1.cell? ⟨w.heap.size, 2, none⟩ = some (.string p) := lc_ k1 rfl
 have b2 := blw1 w1 (.cells #[.int .i64 4, .int .i64 0, .string p] 54)
 have k4 := alloc_heap w1 (.cells #[.int .i64 4, .int .i64 0, .string p] 54)
 go_upto_region 2 with fail
 clear mk2
 have bX := bX.trans (b2.mono bX.size)
 have k1 := kept_of_below b2 k1
 have k2 := kept_of_below b2 k2
 have k3 := kept_of_below b2 k3
 generalize w1.alloc _ = w2 at *
 obtain ⟨mk0, mk1, mk2, mk3, mk4, mk5⟩ := bl6_ k1
 obtain ⟨rr0, rr1, rr2, rr3⟩ := bl4_ k2
 have CS := CS w2
 go_wp2_with fail
 refine CS.mono ?_
 clear CS mk0 mk1 mk2 mk3 mk4 mk5 rr0 rr1 rr2 rr3
 rintro e9 w3 ⟨⟨tk, to_, tn⟩, rfl, b3, hgt, ht5⟩
 have b4 := blw1 w3 (.cells #[.int .i64 tk, .int .i64 to_, .string tn] 54)
 have k5 := alloc_heap w3 (.cells #[.int .i64 tk, .int .i64 to_, .string tn] 54)
 go_upto_region 3 with fail
 have B4 := b3.trans (b4.mono b3.size)
 have bX := bX.trans (B4.mono bX.size)
 have k1 := kept_of_below B4 k1
 have k2 := kept_of_below B4 k2
 have k3 := kept_of_below B4 k3
 have k4 := kept_of_below B4 k4
 generalize w3.alloc _ = w4 at *
 have hVlt : w.heap.size + 2 < w4.heap.size := (Array.getElem?_eq_some_iff.1 k3).1
 have CK := fun (i : Int) (h1 : 0 ≤ i ∧ i ≤ 10) w' (hb : Below w4.heap.size w4 w') => kid11_any d x i w' h1 (IsR.below (bX.trans (hb.mono bX.size)) d x (unhide HX))
 have CO := fun (t : T3) (ht : GTy s t) w' (hb : Below w4.heap.size w4 w') (d' : R4) (x' : Rw) (hx' : IsR w' d' x') => COF w' t d' x' (bX.trans (hb.mono bX.size)) ht hx'
 clear COF B4 b3 b4
 have CW := fun w' => within11_any d.n 2 (by decide) (by decide) w'
 rw [unhide Hmm] at CW
 go_upto_region 7 with fail
 refine wp_specs_put 18 (SpM [.up (blkP (fun b => .slice (some ⟨b, 0, none⟩) 2 2) (.cells #[.int .i64 23, .int .i64 24] 3 (0, 0))), .eq (.pointer (some ⟨w.heap.size + 1, 1, none⟩)), .eq (.int .i64 d.n), .eq (.int .i64 (mm : Nat)), .up (blkP (fun b => .pointer (some ⟨b, mm, none⟩)) (.cells #[.int .i64 23, .int .i64 24] 3 (0, 0))), .eq (.int .i64 opv), .eq (.agg #[.slice ko s.ks.length kc, .slice ao s.ac.length acp, .string p, .string ac, .string r, .int .i64 dp]), .eq (.agg #[.int .i64 1, .int .i64 0, .string ⟨#[]⟩]), .eq (.agg #[.int .i64 d.op, .int .i64 d.n, .slice d.so d.sl d.sc, .slice d.lo d.ll d.lc]), .up (rawP), .up (treeP w4.heap.size s p r ⟨1, 0, ⟨#[]⟩⟩ n), .eq (.agg #[.slice ko s.ks.length kc, .slice ao s.ac.length acp, .string p, .string ac, .string r, .int .i64 dp]), .eq (.agg #[.int .i64 1, .int .i64 0, .string ⟨#[]⟩]), .eq (.agg #[.int .i64 d.op, .int .i64 d.n, .slice d.so d.sl d.sc, .slice d.lo d.ll d.lc]), .up (rawP), .up (treeP w4.heap.size s p r ⟨1, 0, ⟨#[]⟩⟩ n), .up (rowP w4.heap.size s p r [⟨1, 0, ⟨#[]⟩⟩, ⟨1, 0, ⟨#[]⟩⟩] n 2), .up (treeP w4.heap.size s p r ⟨1, 0, ⟨#[]⟩⟩ (n + 1))]) (fun w' => Below w4.heap.size w4 w') (by kernel_rfl) (by kernel_rfl) (Below.refl _ w4).drew ?_ ?_
 ·intro q o hq' ho a' w' hR hdep hslot K hK
  have m1 := kept_of_below hR k1
  have m2 := kept_of_below hR k2
  have m4 := kept_of_below hR k4
  have m5 := kept_of_below hR k5
  obtain ⟨mk0, mk1, mk2, mk3, mk4, mk5⟩ := bl6_ m1
  obtain ⟨rr0, rr1, rr2, rr3⟩ := bl4_ m2
  obtain ⟨u0, u1, u2⟩ := bl3_ m4
  obtain ⟨t0, t1, t2⟩ := bl3_ m5
  clear m1 m2 m4 m5
  have l0 : (0 : Int) ≤ (mm : Int) := by omega
  have l1 : (mm : Int) < 2 := by omega
  have hc : q = 0 ∨ q = 1 ∨ q = 2 ∨ q = 3 ∨ q = 4 ∨ q = 5 ∨ q = 6 ∨ q = 7 ∨ q = 8 ∨ q = 9 ∨ q = 10 ∨ q = 11 ∨ q = 12 ∨ q = 13 ∨ q = 14 ∨ q = 15 ∨ q = 16 ∨ q = 17 := by omega
  rcases hc with rfl | rfl | rfl | rfl | rfl | rfl | rfl | rfl | rfl | rfl | rfl | rfl | rfl | rfl | rfl | rfl | rfl | rfl
  ·cases ho
   clear mk0 mk1 mk2 mk3 mk4 mk5 rr0 rr1 rr2 rr3 u0 u1 u2 t0 t1 t2 l0 l1
   unfold Oper.wp
   go_simp
   exact hK _ _ ⟨w'.heap.size, rfl, alloc_heap _ _⟩ (hR.alloc hR.size _) (SpM.up (blw1 _ _))
  ·cases ho
   have e0 : a'.tmps.getD 4 undef = .pointer (some ⟨w.heap.size + 1, 0, none⟩) := hslot 4 (by decide)
   clear mk0 mk1 mk2 mk3 mk4 mk5 rr0 rr1 rr2 rr3 u0 u1 u2 t0 t1 t2 l0 l1
   unfold Oper.wp
   go_simp
   exact hK _ _ rfl hR (fun _ _ h => h)
  ·cases ho
   have e0 : a'.tmps.getD 30 undef = .pointer (some ⟨w.heap.size + 1, 1, none⟩) := hdep 1 (by kernel_rfl)
   have e0' := gd_ e0
   clear mk0 mk1 mk2 mk3 mk4 mk5 rr0 rr2 rr3 u0 u1 u2 t0 t1 t2 l0 l1
   unfold Oper.wp
   go_simp
   exact hK _ _ rfl hR (fun _ _ h => h)
  ·cases ho
   have e0 : a'.tmps.getD 31 undef = .int .i64 d.n := hdep 2 (by kernel_rfl)
   have e0' := gd_ e0
   clear mk0 mk1 mk2 mk3 mk4 mk5 rr0 rr1 rr2 rr3 u0 u1 u2 t0 t1 t2 l0 l1
   unfold Oper.wp
   go_simp
   refine (CW w').mono ?_
   rintro e w9 ⟨rfl, hw9⟩
   subst hw9
   exact hK _ _ rfl hR (fun _ _ h => h)
  ·cases ho
   obtain ⟨b0, e0, ho0⟩ : (blkP (fun b => .slice (some ⟨b, 0, none⟩) 2 2) (.cells #[.int .i64 23, .int .i64 24] 3 (0, 0))).p (a'.tmps.getD 29 undef) w' := hdep 0 (by kernel_rfl)
   have e0' := gd_ e0
   have Hho0 := hide ho0
   have e1 : a'.tmps.getD 32 undef = .int .i64 (mm : Nat) := hdep 3 (by kernel_rfl)
   have e1' := gd_ e1
   clear ho0 mk0 mk1 mk2 mk3 mk4 mk5 rr0 rr1 rr2 rr3 u0 u1 u2 t0 t1 t2
   unfold Oper.wp
   go_simp
   exact hK _ _ ⟨b0, rfl, unhide Hho0⟩ hR (fun _ _ h => h)
  ·cases ho
   obtain ⟨b0, e0, ho0⟩ : (blkP (fun b => .pointer (some ⟨b, mm, none⟩)) (.cells #[.int .i64 23, .int .i64 24] 3 (0, 0))).p (a'.tmps.getD 33 undef) w' := hdep 4 (by kernel_rfl)
   have e0' := gd_ e0
   have Hho0 := hide ho0
   have hcl : w'.cell? ⟨b0, mm, none⟩ = some (.int .i64 opv) := by rw [Lib.cell_of_heap ho0]; exact unhide HO
   clear ho0 mk0 mk1 mk2 mk3 mk4 mk5 rr0 rr1 rr2 rr3 u0 u1 u2 t0 t1 t2 l0 l1
   unfold Oper.wp
   go_simp
   exact hK _ _ rfl hR (fun _ _ h => h)
  ·cases ho
   have e0 : a'.tmps.getD 3 undef = .pointer (some ⟨w.heap.size, 0, none⟩) := hslot 3 (by decide)
   clear rr0 rr1 rr2 rr3 u0 u1 u2 t0 t1 t2 l0 l1
   unfold Oper.wp
   go_simp
   exact hK _ _ rfl hR (fun _ _ h => h)
  ·cases ho
   clear mk0 mk1 mk2 mk3 mk4 mk5 rr0 rr1 rr2 rr3 u0 u1 u2 t0 t1 t2 l0 l1
   unfold Oper.wp
   go_simp
   exact hK _ _ rfl hR (fun _ _ h => h)
  ·cases ho
   have e0 : a'.tmps.getD 4 undef = .pointer (some ⟨w.heap.size + 1, 0, none⟩) := hslot 4 (by decide)
   clear mk0 mk1 mk2 mk3 mk4 mk5 u0 u1 u2 t0 t1 t2 l0 l1
   unfold Oper.wp
   go_simp
   exact hK _ _ rfl hR (fun _ _ h => h)
  ·cases ho
   have e0 : a'.tmps.getD 37 undef = .agg #[.int .i64 d.op, .int .i64 d.n, .slice d.so d.sl d.sc, .slice d.lo d.ll d.lc] := hdep 8 (by kernel_rfl)
   have e0' := gd_ e0
   clear mk0 mk1 mk2 mk3 mk4 mk5 rr0 rr1 rr2 rr3 u0 u1 u2 t0 t1 t2 l0 l1
   unfold Oper.wp
   go_simp
   refine (CK 0 (by decide) w' hR).mono ?_
   rintro e w9 ⟨⟨r9, y9, rfl, h9⟩, b9⟩
   exact hK _ _ ⟨r9, y9, rfl, h9⟩ (hR.trans (b9.mono hR.size)) (SpM.up b9)
  ·cases ho
   have e0 : a'.tmps.getD 35 undef = .agg #[.slice ko s.ks.length kc, .slice ao s.ac.length acp, .string p, .string ac, .string r, .int .i64 dp] := hdep 6 (by kernel_rfl)
   have e0' := gd_ e0
   have e1 : a'.tmps.getD 36 undef = .agg #[.int .i64 1, .int .i64 0, .string ⟨#[]⟩] := hdep 7 (by kernel_rfl)
   have e1' := gd_ e1
   obtain ⟨r2, x2, e2, hx2⟩ : (rawP).p (a'.tmps.getD 38 undef) w' := hdep 9 (by kernel_rfl)
   have e2' := gd_ e2
   have Hhx2 := hide hx2
   clear hx2 mk0 mk1 mk2 mk3 mk4 mk5 rr0 rr1 rr2 rr3 u0 u1 u2 t0 t1 t2 l0 l1
   unfold Oper.wp
   go_simp
   refine (CO ⟨1, 0, ⟨#[]⟩⟩ hg1 w' hR r2 x2 (unhide Hhx2)).mono ?_
   rintro e w9 ⟨q9, rfl, b9, y9, h9⟩
   exact hK _ _ ⟨q9, y9, rfl, h9.weak hR.size (Nat.le_refl _)⟩ (hR.trans (b9.mono hR.size)) (SpM.up b9)
  ·cases ho
   have e0 : a'.tmps.getD 3 undef = .pointer (some ⟨w.heap.size, 0, none⟩) := hslot 3 (by decide)
   clear rr0 rr1 rr2 rr3 u0 u1 u2 t0 t1 t2 l0 l1
   unfold Oper.wp
   go_simp
   exact hK _ _ rfl hR (fun _ _ h => h)
  ·cases ho
   clear mk0 mk1 mk2 mk3 mk4 mk5 rr0 rr1 rr2 rr3 u0 u1 u2 t0 t1 t2 l0 l1
   unfold Oper.wp
   go_simp
   exact hK _ _ rfl hR (fun _ _ h => h)
  ·cases ho
   have e0 : a'.tmps.getD 4 undef = .pointer (some ⟨w.heap.size + 1, 0, none⟩) := hslot 4 (by decide)
   clear mk0 mk1 mk2 mk3 mk4 mk5 u0 u1 u2 t0 t1 t2 l0 l1
   unfold Oper.wp
   go_simp
   exact hK _ _ rfl hR (fun _ _ h => h)
  ·cases ho
   have e0 : a'.tmps.getD 42 undef = .agg #[.int .i64 d.op, .int .i64 d.n, .slice d.so d.sl d.sc, .slice d.lo d.ll d.lc] := hdep 13 (by kernel_rfl)
   have e0' := gd_ e0
   clear mk0 mk1 mk2 mk3 mk4 mk5 rr0 rr1 rr2 rr3 u0 u1 u2 t0 t1 t2 l0 l1
   unfold Oper.wp
   go_simp
   refine (CK 1 (by decide) w' hR).mono ?_
   rintro e w9 ⟨⟨r9, y9, rfl, h9⟩, b9⟩
   exact hK _ _ ⟨r9, y9, rfl, h9⟩ (hR.trans (b9.mono hR.size)) (SpM.up b9)
  ·cases ho
   have e0 : a'.tmps.getD 40 undef = .agg #[.slice ko s.ks.length kc, .slice ao s.ac.length acp, .string p, .string ac, .string r, .int .i64 dp] := hdep 11 (by kernel_rfl)
   have e0' := gd_ e0
   have e1 : a'.tmps.getD 41 undef = .agg #[.int .i64 1, .int .i64 0, .string ⟨#[]⟩] := hdep 12 (by kernel_rfl)
   have e1' := gd_ e1
   obtain ⟨r2, x2, e2, hx2⟩ : (rawP).p (a'.tmps.getD 43 undef) w' := hdep 14 (by kernel_rfl)
   have e2' := gd_ e2
   have Hhx2 := hide hx2
   clear hx2 mk0 mk1 mk2 mk3 mk4 mk5 rr0 rr1 rr2 rr3 u0 u1 u2 t0 t1 t2 l0 l1
   unfold Oper.wp
   go_simp
   refine (CO ⟨1, 0, ⟨#[]⟩⟩ hg1 w' hR r2 x2 (unhide Hhx2)).mono ?_
   rintro e w9 ⟨q9, rfl, b9, y9, h9⟩
   exact hK _ _ ⟨q9, y9, rfl, h9.weak hR.size (Nat.le_refl _)⟩ (hR.trans (b9.mono hR.size)) (SpM.up b9)
  ·cases ho
   obtain ⟨q0, y0, e0, hy0⟩ : (treeP w4.heap.size s p r ⟨1, 0, ⟨#[]⟩⟩ n).p (a'.tmps.getD 39 undef) w' := hdep 10 (by kernel_rfl)
   have e0' := gd_ e0
   have Hhy0 := hide hy0
   obtain ⟨q1, y1, e1, hy1⟩ : (treeP w4.heap.size s p r ⟨1, 0, ⟨#[]⟩⟩ n).p (a'.tmps.getD 44 undef) w' := hdep 15 (by kernel_rfl)
   have e1' := gd_ e1
   have Hhy1 := hide hy1
   clear hy0 hy1 mk0 mk1 mk2 mk3 mk4 mk5 rr0 rr1 rr2 rr3 u0 u1 u2 t0 t1 t2 l0 l1
   unfold Oper.wp
   go_simp
   exact hK _ _ ⟨w'.heap.size, [q0, q1], [y0, y1], _, rfl, hR.size, alloc_heap _ _, rfl, .cons ((unhide Hhy0).up (blw1 _ _)) (.cons ((unhide Hhy1).up (blw1 _ _)) .nil)⟩ (hR.alloc hR.size _) (SpM.up (blw1 _ _))
  ·cases ho
   have e0 : a'.tmps.getD 34 undef = .int .i64 opv := hdep 5 (by kernel_rfl)
   have e0' := gd_ e0
   obtain ⟨b1, qs1, es1, cs1, e1, hB1, hb1, hc1, ha1⟩ : (rowP w4.heap.size s p r [⟨1, 0, ⟨#[]⟩⟩, ⟨1, 0, ⟨#[]⟩⟩] n 2).p (a'.tmps.getD 45 undef) w' := hdep 16 (by kernel_rfl)
   have e1' := gd_ e1
   have HhB1 := hide hB1
   have Hhb1 := hide hb1
   have Hhc1 := hide hc1
   have Hha1 := hide ha1
   clear hB1 hb1 hc1 ha1 mk0 mk1 mk2 mk3 mk4 mk5 rr0 rr1 rr2 rr3 u0 u1 u2 t0 t1 t2 l0 l1
   unfold Oper.wp
   go_simp
   exact hK _ _ ⟨⟨opv, false, 0, ⟨#[]⟩, ⟨#[]⟩, ⟨#[]⟩, some ⟨b1, 0, none⟩, 2, 2⟩, .mk opv false 0 [] [] [] es1, rfl, made_node (sx := []) (unhide Hhb1) (unhide Hhc1) (unhide HhB1) (unhide Hha1) rfl (unhide HKo).1 (fun _ => (unhide HKo).2) (by simp) (unhide HT)⟩ hR (fun _ _ h => h)
 ·intro v w' hR hall
  have f1 : v 1 = .pointer (some ⟨w.heap.size + 1, 1, none⟩) := hall 1 (by decide)
  have f2 : v 2 = .int .i64 d.n := hall 2 (by decide)
  have f3 : v 3 = .int .i64 (mm : Nat) := hall 3 (by decide)
  have f5 : v 5 = .int .i64 opv := hall 5 (by decide)
  have f6 : v 6 = .agg #[.slice ko s.ks.length kc, .slice ao s.ac.length acp, .string p, .string ac, .string r, .int .i64 dp] := hall 6 (by decide)
  have f7 : v 7 = .agg #[.int .i64 1, .int .i64 0, .string ⟨#[]⟩] := hall 7 (by decide)
  have f8 : v 8 = .agg #[.int .i64 d.op, .int .i64 d.n, .slice d.so d.sl d.sc, .slice d.lo d.ll d.lc] := hall 8 (by decide)
  have f11 : v 11 = .agg #[.slice ko s.ks.length kc, .slice ao s.ac.length acp, .string p, .string ac, .string r, .int .i64 dp] := hall 11 (by decide)
  have f12 : v 12 = .agg #[.int .i64 1, .int .i64 0, .string ⟨#[]⟩] := hall 12 (by decide)
  have f13 : v 13 = .agg #[.int .i64 d.op, .int .i64 d.n, .slice d.so d.sl d.sc, .slice d.lo d.ll d.lc] := hall 13 (by decide)
  obtain ⟨qZ, yZ, eZ, hyZ⟩ : (treeP w4.heap.size s p r ⟨1, 0, ⟨#[]⟩⟩ (n + 1)).p (v 17) w' := hall 17 (by decide)
  have f17 : v 17 = .agg #[.int .i64 qZ.k, .bool qZ.b, .int .i64 qZ.n, .string qZ.s, .string qZ.t, .string qZ.i, .slice qZ.lo qZ.ll qZ.lc] := eZ
  clear eZ
  have HhyZ := hide hyZ
  clear hyZ
  clear hall
  simp only [putAll, dstOf, List.getElem?_cons_zero, List.getElem?_cons_succ, Option.bind_some, List.drop_succ_cons, List.drop_zero, f1, f2, f3, f5, f6, f7, f8, f11, f12, f13, f17]
  clear f1 f2 f3 f5 f6 f7 f8 f11 f12 f13 f17
  simp only [Act.put, List.setIfInBounds_toArray, List.set_cons_succ, List.set_cons_zero]
  generalize v 0 = vv0
  generalize v 4 = vv4
  generalize v 9 = vv9
  generalize v 10 = vv10
  generalize v 14 = vv14
  generalize v 15 = vv15
  generalize v 16 = vv16
  have hV := kept_of_below hR k3
  have b0 := bX.trans (hR.mono bX.size)
  obtain ⟨y0, y1, y2, y3, y4, y5, y6, yf⟩ := blk7 hV
  have HB := hide (And.intro b0 hVlt)
  have hw4 : w.heap.size ≤ w4.heap.size := bX.size
  clear hV b0 CK CO hg1 hg2 hg3 hgp hgr hgs hgt ht5 CW
  go_wp2
  exact bodyPost_ret (v := .agg #[.int .i64 qZ.k, .bool qZ.b, .int .i64 qZ.n, .string qZ.s, .string qZ.t, .string qZ.i, .slice qZ.lo qZ.ll qZ.lc]) (by simp [results, Try.results60, go_sem, y0, y1, y2, y3, y4, y5, y6]) rfl ⟨qZ, rfl, set7S_below (unhide HB).1 (Nat.le_add_right _ 2) _ _ _ _ _ _ _, yZ, ((unhide HhyZ).keep (w' := set7S _ _ _ _ _ _ _ _ _) (by rw [set7S_size]; exact Nat.le_refl _) (fun b hB _ => set7S_heap _ _ _ _ _ _ _ _ _ _ (by have := (unhide HB).2; omega))).weak hw4 (Nat.le_refl _)⟩
end Go.Proofs.Ytagnbpobcijakaa

namespace Go.Proofs.Ytagnbpobcijakaa
open Go.RowKit Go.Sort

set_option maxHeartbeats 8000000 in
set_option maxRecDepth 1000000 in
theorem truth11_6 (s : SP) (ko ao : Option Addr) (kc acp : Nat) (p ac r : ByteArray) (dp : Int) (n : Nat) (d : R4) (x : Rw) (w : World) (hp : isKn s p) (hr : isKn s r) (hx : IsR w d x) (COF : ∀ (w' : World) (t : T3) (d : R4) (x : Rw), Below w.heap.size w w' → GTy s t → IsR w' d x → Calls Try.prog 14 #[.agg #[.slice ko s.ks.length kc, .slice ao s.ac.length acp, .string p, .string ac, .string r, .int .i64 dp], .agg #[.int .i64 t.k, .int .i64 t.o, .string t.n], .agg #[.int .i64 d.op, .int .i64 d.n, .slice d.so d.sl d.sc, .slice d.lo d.ll d.lc]] w' fun e w9 => MakesT s p r t n w' e w9) : Calls Try.prog 60 #[.agg #[.slice ko s.ks.length kc, .slice ao s.ac.length acp, .string p, .string ac, .string r, .int .i64 dp], .agg #[.int .i64 d.op, .int .i64 d.n, .slice d.so d.sl d.sc, .slice d.lo d.ll d.lc], .int .i64 6] w fun e w' => MakesT s p r ⟨1, 0, ⟨#[]⟩⟩ (n + 1) w e w' := by
 obtain ⟨bX, zX, k1, k2, k3⟩ := alloc3 w (.cells #[.slice ko s.ks.length kc, .slice ao s.ac.length acp, .string p, .string ac, .string r, .int .i64 dp] 52) (.cells #[.int .i64 d.op, .int .i64 d.n, .slice d.so d.sl d.sc, .slice d.lo d.ll d.lc] 49) (.cells #[.int .i64 0, .bool false, .int .i64 0, .string ⟨#[]⟩, .string ⟨#[]⟩, .string ⟨#[]⟩, .slice none 0 0] 39)
 have HX := hide hx
 have CS := fun w' => some11_any s ko ao kc acp p ac r dp d.n w' hp hr
 have hg1 : GTy s ⟨1, 0, ⟨#[]⟩⟩ := .inl ⟨.inl rfl, rfl, rfl⟩
 have hg2 : GTy s ⟨2, 0, ⟨#[]⟩⟩ := .inl ⟨.inr (.inl rfl), rfl, rfl⟩
 have hg3 : GTy s ⟨3, 0, ⟨#[]⟩⟩ := .inl ⟨.inr (.inr rfl), rfl, rfl⟩
 have hgp : GTy s ⟨4, 0, p⟩ := .inr (.inl ⟨rfl, rfl, hp⟩)
 have hgr : GTy s ⟨4, 0, r⟩ := .inr (.inl ⟨rfl, rfl, hr⟩)
 have hgs : GTy s ⟨5, 4, r⟩ := .inr (.inr ⟨rfl, .inr ⟨rfl, hr⟩⟩)
 clear hx hp hr
 go_enter Try.func60, Try.ntmps60
 go_upto_region 1 with fail
 generalize ((w.alloc _).alloc _).alloc _ = w1 at *
 clear zX
 have mk2 : w1.cell? ⟨w.heap.size, 2, none⟩ = some (.string p) := lc_ k1 rfl
 have b2 := blw1 w1 (.cells #[.int .i64 4, .int .i64 0, .string p] 54)
 have k4 := alloc_heap w1 (.cells #[.int .i64 4, .int .i64 0, .string p] 54)
 go_upto_region 2 with fail
 clear mk2
 have bX := bX.trans (b2.mono bX.size)
 have k1 := kept_of_below b2 k1
 have k2 := kept_of_below b2 k2
 have k3 := kept_of_below b2 k3
 generalize w1.alloc _ = w2 at *
 obtain ⟨mk0, mk1, mk2, mk3, mk4, mk5⟩ := bl6_ k1
 obtain ⟨rr0, rr1, rr2, rr3⟩ := bl4_ k2
 have CS := CS w2
 go_wp2_with fail
 refine CS.mono ?_
 clear CS mk0 mk1 mk2 mk3 mk4 mk5 rr0 rr1 rr2 rr3
 rintro e9 w3 ⟨⟨tk, to_, tn⟩, rfl, b3, hgt, ht5⟩
 have b4 := blw1 w3 (.cells #[.int .i64 tk, .int .i64 to_, .string tn] 54)
 have k5 := alloc_heap w3 (.cells #[.int .i64 tk, .int .i64 to_, .string tn] 54)
 go_upto_region 3 with fail
 have B4 := b3.trans (b4.mono b3.size)
 have bX := bX.trans (B4.mono bX.size)
 have k1 := kept_of_below B4 k1
 have k2 := kept_of_below B4 k2
 have k3 := kept_of_below B4 k3
 have k4 := kept_of_below B4 k4
 generalize w3.alloc _ = w4 at *
 have hVlt : w.heap.size + 2 < w4.heap.size := (Array.getElem?_eq_some_iff.1 k3).1
 have CK := fun (i : Int) (h1 : 0 ≤ i ∧ i ≤ 10) w' (hb : Below w4.heap.size w4 w') => kid11_any d x i w' h1 (IsR.below (bX.trans (hb.mono bX.size)) d x (unhide HX))
 have CO := fun (t : T3) (ht : GTy s t) w' (hb : Below w4.heap.size w4 w') (d' : R4) (x' : Rw) (hx' : IsR w' d' x') => COF w' t d' x' (bX.trans (hb.mono bX.size)) ht hx'
 clear COF B4 b3 b4
 obtain ⟨m, hm⟩ : ∃ m : Nat, (m : Int) = d.n % 4 := ⟨(d.n % 4).toNat, by omega⟩
 have hm4 : m < 4 := by omega
 have CW := fun w' => within11_any d.n 4 (by decide) (by decide) w'
 rw [← hm] at CW
 have hc : m = 0 ∨ m = 1 ∨ m = 2 ∨ m = 3 := by omega
 have HKm := hide (show (6 ≤ 16 + (m : Int) ∧ 16 + (m : Int) ≤ 25) ∧ 2 = wantN (16 + (m : Int)) from by
  rcases hc with rfl | rfl | rfl | rfl <;> exact ⟨by decide, by decide⟩)
 have HT := hide (show nodeT s p r (16 + (m : Int)) (ba []) (ba []) (ba []) [⟨2, 0, ⟨#[]⟩⟩, ⟨2, 0, ⟨#[]⟩⟩] = (⟨1, 0, ⟨#[]⟩⟩, 0) from by
  rcases hc with rfl | rfl | rfl | rfl <;> rfl)
 clear hm hc
 go_upto_region 9 with fail
 refine wp_specs_put 16 (SpM [.eq (.pointer (some ⟨w.heap.size + 1, 1, none⟩)), .eq (.int .i64 d.n), .eq (.int .i64 (m : Nat)), .eq (.int .i64 (16 + (m : Int))), .eq (.agg #[.slice ko s.ks.length kc, .slice ao s.ac.length acp, .string p, .string ac, .string r, .int .i64 dp]), .eq (.agg #[.int .i64 2, .int .i64 0, .string ⟨#[]⟩]), .eq (.agg #[.int .i64 d.op, .int .i64 d.n, .slice d.so d.sl d.sc, .slice d.lo d.ll d.lc]), .up (rawP), .up (treeP w4.heap.size s p r ⟨2, 0, ⟨#[]⟩⟩ n), .eq (.agg #[.slice ko s.ks.length kc, .slice ao s.ac.length acp, .string p, .string ac, .string r, .int .i64 dp]), .eq (.agg #[.int .i64 2, .int .i64 0, .string ⟨#[]⟩]), .eq (.agg #[.int .i64 d.op, .int .i64 d.n, .slice d.so d.sl d.sc, .slice d.lo d.ll d.lc]), .up (rawP), .up (treeP w4.heap.size s p r ⟨2, 0, ⟨#[]⟩⟩ n), .up (rowP w4.heap.size s p r [⟨2, 0, ⟨#[]⟩⟩, ⟨2, 0, ⟨#[]⟩⟩] n 2), .up (treeP w4.heap.size s p r ⟨1, 0, ⟨#[]⟩⟩ (n + 1))]) (fun w' => Below w4.heap.size w4 w') (by kernel_rfl) (by kernel_rfl) (Below.refl _ w4).drew ?_ ?_
 ·intro q o hq' ho a' w' hR hdep hslot K hK
  have m1 := kept_of_below hR k1
  have m2 := kept_of_below hR k2
  have m4 := kept_of_below hR k4
  have m5 := kept_of_below hR k5
  obtain ⟨mk0, mk1, mk2, mk3, mk4, mk5⟩ := bl6_ m1
  obtain ⟨rr0, rr1, rr2, rr3⟩ := bl4_ m2
  obtain ⟨u0, u1, u2⟩ := bl3_ m4
  obtain ⟨t0, t1, t2⟩ := bl3_ m5
  clear m1 m2 m4 m5
  have ew : IntKind.i64.wrap (16 + (m : Int)) = 16 + (m : Int) := by rw [IntKind.wrap_i64]; omega
  have hc : q = 0 ∨ q = 1 ∨ q = 2 ∨ q = 3 ∨ q = 4 ∨ q = 5 ∨ q = 6 ∨ q = 7 ∨ q = 8 ∨ q = 9 ∨ q = 10 ∨ q = 11 ∨ q = 12 ∨ q = 13 ∨ q = 14 ∨ q = 15 := by omega
  rcases hc with rfl | rfl | rfl | rfl | rfl | rfl | rfl | rfl | rfl | rfl | rfl | rfl | rfl | rfl | rfl | rfl
  ·cases ho
   have e0 : a'.tmps.getD 4 undef = .pointer (some ⟨w.heap.size + 1, 0, none⟩) := hslot 4 (by decide)
   clear mk0 mk1 mk2 mk3 mk4 mk5 rr0 rr1 rr2 rr3 u0 u1 u2 t0 t1 t2 ew
   unfold Oper.wp
   go_simp
   exact hK _ _ rfl hR (fun _ _ h => h)
  ·cases ho
   have e0 : a'.tmps.getD 49 undef = .pointer (some ⟨w.heap.size + 1, 1, none⟩) := hdep 0 (by kernel_rfl)
   have e0' := gd_ e0
   clear mk0 mk1 mk2 mk3 mk4 mk5 rr0 rr2 rr3 u0 u1 u2 t0 t1 t2 ew
   unfold Oper.wp
   go_simp
   exact hK _ _ rfl hR (fun _ _ h => h)
  ·cases ho
   have e0 : a'.tmps.getD 50 undef = .int .i64 d.n := hdep 1 (by kernel_rfl)
   have e0' := gd_ e0
   clear mk0 mk1 mk2 mk3 mk4 mk5 rr0 rr1 rr2 rr3 u0 u1 u2 t0 t1 t2 ew
   unfold Oper.wp
   go_simp
   refine (CW w').mono ?_
   rintro e w9 ⟨rfl, hw9⟩
   subst hw9
   exact hK _ _ rfl hR (fun _ _ h => h)
  ·cases ho
   have e0 : a'.tmps.getD 51 undef = .int .i64 (m : Nat) := hdep 2 (by kernel_rfl)
   have e0' := gd_ e0
   clear mk0 mk1 mk2 mk3 mk4 mk5 rr0 rr1 rr2 rr3 u0 u1 u2 t0 t1 t2
   unfold Oper.wp
   go_simp
   exact hK _ _ rfl hR (fun _ _ h => h)
  ·cases ho
   have e0 : a'.tmps.getD 3 undef = .pointer (some ⟨w.heap.size, 0, none⟩) := hslot 3 (by decide)
   clear rr0 rr1 rr2 rr3 u0 u1 u2 t0 t1 t2 ew
   unfold Oper.wp
   go_simp
   exact hK _ _ rfl hR (fun _ _ h => h)
  ·cases ho
   clear mk0 mk1 mk2 mk3 mk4 mk5 rr0 rr1 rr2 rr3 u0 u1 u2 t0 t1 t2 ew
   unfold Oper.wp
   go_simp
   exact hK _ _ rfl hR (fun _ _ h => h)
  ·cases ho
   have e0 : a'.tmps.getD 4 undef = .pointer (some ⟨w.heap.size + 1, 0, none⟩) := hslot 4 (by decide)
   clear mk0 mk1 mk2 mk3 mk4 mk5 u0 u1 u2 t0 t1 t2 ew
   unfold Oper.wp
   go_simp
   exact hK _ _ rfl hR (fun _ _ h => h)
  ·cases ho
   have e0 : a'.tmps.getD 55 undef = .agg #[.int .i64 d.op, .int .i64 d.n, .slice d.so d.sl d.sc, .slice d.lo d.ll d.lc] := hdep 6 (by kernel_rfl)
   have e0' := gd_ e0
   clear mk0 mk1 mk2 mk3 mk4 mk5 rr0 rr1 rr2 rr3 u0 u1 u2 t0 t1 t2 ew
   unfold Oper.wp
   go_simp
   refine (CK 0 (by decide) w' hR).mono ?_
   rintro e w9 ⟨⟨r9, y9, rfl, h9⟩, b9⟩
   exact hK _ _ ⟨r9, y9, rfl, h9⟩ (hR.trans (b9.mono hR.size)) (SpM.up b9)
  ·cases ho
   have e0 : a'.tmps.getD 53 undef = .agg #[.slice ko s.ks.length kc, .slice ao s.ac.length acp, .string p, .string ac, .string r, .int .i64 dp] := hdep 4 (by kernel_rfl)
   have e0' := gd_ e0
   have e1 : a'.tmps.getD 54 undef = .agg #[.int .i64 2, .int .i64 0, .string ⟨#[]⟩] := hdep 5 (by kernel_rfl)
   have e1' := gd_ e1
   obtain ⟨r2, x2, e2, hx2⟩ : (rawP).p (a'.tmps.getD 56 undef) w' := hdep 7 (by kernel_rfl)
   have e2' := gd_ e2
   have Hhx2 := hide hx2
   clear hx2 mk0 mk1 mk2 mk3 mk4 mk5 rr0 rr1 rr2 rr3 u0 u1 u2 t0 t1 t2 ew
   unfold Oper.wp
   go_simp
   refine (CO ⟨2, 0, ⟨#[]⟩⟩ hg2 w' hR r2 x2 (unhide Hhx2)).mono ?_
   rintro e w9 ⟨q9, rfl, b9, y9, h9⟩
   exact hK _ _ ⟨q9, y9, rfl, h9.weak hR.size (Nat.le_refl _)⟩ (hR.trans (b9.mono hR.size)) (SpM.up b9)
  ·cases ho
   have e0 : a'.tmps.getD 3 undef = .pointer (some ⟨w.heap.size, 0, none⟩) := hslot 3 (by decide)
   clear rr0 rr1 rr2 rr3 u0 u1 u2 t0 t1 t2 ew
   unfold Oper.wp
   go_simp
   exact hK _ _ rfl hR (fun _ _ h => h)
  ·cases ho
   clear mk0 mk1 mk2 mk3 mk4 mk5 rr0 rr1 rr2 rr3 u0 u1 u2 t0 t1 t2 ew
   unfold Oper.wp
   go_simp
   exact hK _ _ rfl hR (fun _ _ h => h)
  ·cases ho
   have e0 : a'.tmps.getD 4 undef = .pointer (some ⟨w.heap.size + 1, 0, none⟩) := hslot 4 (by decide)
   clear mk0 mk1 mk2 mk3 mk4 mk5 u0 u1 u2 t0 t1 t2 ew
   unfold Oper.wp
   go_simp
   exact hK _ _ rfl hR (fun _ _ h => h)
  ·cases ho
   have e0 : a'.tmps.getD 60 undef = .agg #[.int .i64 d.op, .int .i64 d.n, .slice d.so d.sl d.sc, .slice d.lo d.ll d.lc] := hdep 11 (by kernel_rfl)
   have e0' := gd_ e0
   clear mk0 mk1 mk2 mk3 mk4 mk5 rr0 rr1 rr2 rr3 u0 u1 u2 t0 t1 t2 ew
   unfold Oper.wp
   go_simp
   refine (CK 1 (by decide) w' hR).mono ?_
   rintro e w9 ⟨⟨r9, y9, rfl, h9⟩, b9⟩
   exact hK _ _ ⟨r9, y9, rfl, h9⟩ (hR.trans (b9.mono hR.size)) (SpM.up b9)
  ·cases ho
   have e0 : a'.tmps.getD 58 undef = .agg #[.slice ko s.ks.length kc, .slice ao s.ac.length acp, .string p, .string ac, .string r, .int .i64 dp] := hdep 9 (by kernel_rfl)
   have e0' := gd_ e0
   have e1 : a'.tmps.getD 59 undef = .agg #[.int .i64 2, .int .i64 0, .string ⟨#[]⟩] := hdep 10 (by kernel_rfl)
   have e1' := gd_ e1
   obtain ⟨r2, x2, e2, hx2⟩ : (rawP).p (a'.tmps.getD 61 undef) w' := hdep 12 (by kernel_rfl)
   have e2' := gd_ e2
   have Hhx2 := hide hx2
   clear hx2 mk0 mk1 mk2 mk3 mk4 mk5 rr0 rr1 rr2 rr3 u0 u1 u2 t0 t1 t2 ew
   unfold Oper.wp
   go_simp
   refine (CO ⟨2, 0, ⟨#[]⟩⟩ hg2 w' hR r2 x2 (unhide Hhx2)).mono ?_
   rintro e w9 ⟨q9, rfl, b9, y9, h9⟩
   exact hK _ _ ⟨q9, y9, rfl, h9.weak hR.size (Nat.le_refl _)⟩ (hR.trans (b9.mono hR.size)) (SpM.up b9)
  ·cases ho
   obtain ⟨q0, y0, e0, hy0⟩ : (treeP w4.heap.size s p r ⟨2, 0, ⟨#[]⟩⟩ n).p (a'.tmps.getD 57 undef) w' := hdep 8 (by kernel_rfl)
   have e0' := gd_ e0
   have Hhy0 := hide hy0
   obtain ⟨q1, y1, e1, hy1⟩ : (treeP w4.heap.size s p r ⟨2, 0, ⟨#[]⟩⟩ n).p (a'.tmps.getD 62 undef) w' := hdep 13 (by kernel_rfl)
   have e1' := gd_ e1
   have Hhy1 := hide hy1
   clear hy0 hy1 mk0 mk1 mk2 mk3 mk4 mk5 rr0 rr1 rr2 rr3 u0 u1 u2 t0 t1 t2 ew
   unfold Oper.wp
   go_simp
   exact hK _ _ ⟨w'.heap.size, [q0, q1], [y0, y1], _, rfl, hR.size, alloc_heap _ _, rfl, .cons ((unhide Hhy0).up (blw1 _ _)) (.cons ((unhide Hhy1).up (blw1 _ _)) .nil)⟩ (hR.alloc hR.size _) (SpM.up (blw1 _ _))
  ·cases ho
   have e0 : a'.tmps.getD 52 undef = .int .i64 (16 + (m : Int)) := hdep 3 (by kernel_rfl)
   have e0' := gd_ e0
   obtain ⟨b1, qs1, es1, cs1, e1, hB1, hb1, hc1, ha1⟩ : (rowP w4.heap.size s p r [⟨2, 0, ⟨#[]⟩⟩, ⟨2, 0, ⟨#[]⟩⟩] n 2).p (a'.tmps.getD 63 undef) w' := hdep 14 (by kernel_rfl)
   have e1' := gd_ e1
   have HhB1 := hide hB1
   have Hhb1 := hide hb1
   have Hhc1 := hide hc1
   have Hha1 := hide ha1
   clear hB1 hb1 hc1 ha1 mk0 mk1 mk2 mk3 mk4 mk5 rr0 rr1 rr2 rr3 u0 u1 u2 t0 t1 t2 ew
   unfold Oper.wp
   go_simp
   exact hK _ _ ⟨⟨(16 + (m : Int)), false, 0, ⟨#[]⟩, ⟨#[]⟩, ⟨#[]⟩, some ⟨b1, 0, none⟩, 2, 2⟩, .mk (16 + (m : Int)) false 0 [] [] [] es1, rfl, made_node (sx := []) (unhide Hhb1) (unhide Hhc1) (unhide HhB1) (unhide Hha1) rfl (unhide HKm).1 (fun _ => (unhide HKm).2) (by simp) (unhide HT)⟩ hR (fun _ _ h => h)
 ·intro v w' hR hall
  have f0 : v 0 = .pointer (some ⟨w.heap.size + 1, 1, none⟩) := hall 0 (by decide)
  have f1 : v 1 = .int .i64 d.n := hall 1 (by decide)
  have f2 : v 2 = .int .i64 (m : Nat) := hall 2 (by decide)
  have f3 : v 3 = .int .i64 (16 + (m : Int)) := hall 3 (by decide)
  have f4 : v 4 = .agg #[.slice ko s.ks.length kc, .slice ao s.ac.length acp, .string p, .string ac, .string r, .int .i64 dp] := hall 4 (by decide)
  have f5 : v 5 = .agg #[.int .i64 2, .int .i64 0, .string ⟨#[]⟩] := hall 5 (by decide)
  have f6 : v 6 = .agg #[.int .i64 d.op, .int .i64 d.n, .slice d.so d.sl d.sc, .slice d.lo d.ll d.lc] := hall 6 (by decide)
  have f9 : v 9 = .agg #[.slice ko s.ks.length kc, .slice ao s.ac.length acp, .string p, .string ac, .string r, .int .i64 dp] := hall 9 (by decide)
  have f10 : v 10 = .agg #[.int .i64 2, .int .i64 0, .string ⟨#[]⟩] := hall 10 (by decide)
  have f11 : v 11 = .agg #[.int .i64 d.op, .int .i64 d.n, .slice d.so d.sl d.sc, .slice d.lo d.ll d.lc] := hall 11 (by decide)
  obtain ⟨qZ, yZ, eZ, hyZ⟩ : (treeP w4.heap.size s p r ⟨1, 0, ⟨#[]⟩⟩ (n + 1)).p (v 15) w' := hall 15 (by decide)
  have f15 : v 15 = .agg #[.int .i64 qZ.k, .bool qZ.b, .int .i64 qZ.n, .string qZ.s, .string qZ.t, .string qZ.i, .slice qZ.lo qZ.ll qZ.lc] := eZ
  clear eZ
  have HhyZ := hide hyZ
  clear hyZ
  clear hall
  simp only [putAll, dstOf, List.getElem?_cons_zero, List.getElem?_cons_succ, Option.bind_some, List.drop_succ_cons, List.drop_zero, f0, f1, f2, f3, f4, f5, f6, f9, f10, f11, f15]
  clear f0 f1 f2 f3 f4 f5 f6 f9 f10 f11 f15
  simp only [Act.put, List.setIfInBounds_toArray, List.set_cons_succ, List.set_cons_zero]
  generalize v 7 = vv7
  generalize v 8 = vv8
  generalize v 12 = vv12
  generalize v 13 = vv13
  generalize v 14 = vv14
  have hV := kept_of_below hR k3
  have b0 := bX.trans (hR.mono bX.size)
  obtain ⟨y0, y1, y2, y3, y4, y5, y6, yf⟩ := blk7 hV
  have HB := hide (And.intro b0 hVlt)
  have hw4 : w.heap.size ≤ w4.heap.size := bX.size
  clear hV b0 CK CO hg1 hg2 hg3 hgp hgr hgs hgt ht5 CW hm4
  go_wp2
  exact bodyPost_ret (v := .agg #[.int .i64 qZ.k, .bool qZ.b, .int .i64 qZ.n, .string qZ.s, .string qZ.t, .string qZ.i, .slice qZ.lo qZ.ll qZ.lc]) (by simp [results, Try.results60, go_sem, y0, y1, y2, y3, y4, y5, y6]) rfl ⟨qZ, rfl, set7S_below (unhide HB).1 (Nat.le_add_right _ 2) _ _ _ _ _ _ _, yZ, ((unhide HhyZ).keep (w' := set7S _ _ _ _ _ _ _ _ _) (by rw [set7S_size]; exact Nat.le_refl _) (fun b hB _ => set7S_heap _ _ _ _ _ _ _ _ _ _ (by have := (unhide HB).2; omega))).weak hw4 (Nat.le_refl _)⟩
end Go.Proofs.Ytagnbpobcijakaa

namespace Go.Proofs.Ytagnbpobcijakaa
open Go.RowKit Go.Sort

set_option maxHeartbeats 8000000 in
set_option maxRecDepth 1000000 in
theorem truth11_7 (s : SP) (ko ao : Option Addr) (kc acp : Nat) (p ac r : ByteArray) (dp : Int) (n : Nat) (d : R4) (x : Rw) (w : World) (hp : isKn s p) (hr : isKn s r) (hx : IsR w d x) (COF : ∀ (w' : World) (t : T3) (d : R4) (x : Rw), Below w.heap.size w w' → GTy s t → IsR w' d x → Calls Try.prog 14 #[.agg #[.slice ko s.ks.length kc, .slice ao s.ac.length acp, .string p, .string ac, .string r, .int .i64 dp], .agg #[.int .i64 t.k, .int .i64 t.o, .string t.n], .agg #[.int .i64 d.op, .int .i64 d.n, .slice d.so d.sl d.sc, .slice d.lo d.ll d.lc]] w' fun e w9 => MakesT s p r t n w' e w9) : Calls Try.prog 60 #[.agg #[.slice ko s.ks.length kc, .slice ao s.ac.length acp, .string p, .string ac, .string r, .int .i64 dp], .agg #[.int .i64 d.op, .int .i64 d.n, .slice d.so d.sl d.sc, .slice d.lo d.ll d.lc], .int .i64 7] w fun e w' => MakesT s p r ⟨1, 0, ⟨#[]⟩⟩ (n + 1) w e w' := by
 obtain ⟨bX, zX, k1, k2, k3⟩ := alloc3 w (.cells #[.slice ko s.ks.length kc, .slice ao s.ac.length acp, .string p, .string ac, .string r, .int .i64 dp] 52) (.cells #[.int .i64 d.op, .int .i64 d.n, .slice d.so d.sl d.sc, .slice d.lo d.ll d.lc] 49) (.cells #[.int .i64 0, .bool false, .int .i64 0, .string ⟨#[]⟩, .string ⟨#[]⟩, .string ⟨#[]⟩, .slice none 0 0] 39)
 have HX := hide hx
 have CS := fun w' => some11_any s ko ao kc acp p ac r dp d.n w' hp hr
 have hg1 : GTy s ⟨1, 0, ⟨#[]⟩⟩ := .inl ⟨.inl rfl, rfl, rfl⟩
 have hg2 : GTy s ⟨2, 0, ⟨#[]⟩⟩ := .inl ⟨.inr (.inl rfl), rfl, rfl⟩
 have hg3 : GTy s ⟨3, 0, ⟨#[]⟩⟩ := .inl ⟨.inr (.inr rfl), rfl, rfl⟩
 have hgp : GTy s ⟨4, 0, p⟩ := .inr (.inl ⟨rfl, rfl, hp⟩)
 have hgr : GTy s ⟨4, 0, r⟩ := .inr (.inl ⟨rfl, rfl, hr⟩)
 have hgs : GTy s ⟨5, 4, r⟩ := .inr (.inr ⟨rfl, .inr ⟨rfl, hr⟩⟩)
 clear hx hp hr
 go_enter Try.func60, Try.ntmps60
 go_upto_region 1 with fail
 generalize ((w.alloc _).alloc _).alloc _ = w1 at *
 clear zX
 have mk2 : w1.cell? ⟨w.heap.size, 2, none⟩ = some (.string p) := lc_ k1 rfl
 have b2 := blw1 w1 (.cells #[.int .i64 4, .int .i64 0, .string p] 54)
 have k4 := alloc_heap w1 (.cells #[.int .i64 4, .int .i64 0, .string p] 54)
 go_upto_region 2 with fail
 clear mk2
 have bX := bX.trans (b2.mono bX.size)
 have k1 := kept_of_below b2 k1
 have k2 := kept_of_below b2 k2
 have k3 := kept_of_below b2 k3
 generalize w1.alloc _ = w2 at *
 obtain ⟨mk0, mk1, mk2, mk3, mk4, mk5⟩ := bl6_ k1
 obtain ⟨rr0, rr1, rr2, rr3⟩ := bl4_ k2
 have CS := CS w2
 go_wp2_with fail
 refine CS.mono ?_
 clear CS mk0 mk1 mk2 mk3 mk4 mk5 rr0 rr1 rr2 rr3
 rintro e9 w3 ⟨⟨tk, to_, tn⟩, rfl, b3, hgt, ht5⟩
 have b4 := blw1 w3 (.cells #[.int .i64 tk, .int .i64 to_, .string tn] 54)
 have k5 := alloc_heap w3 (.cells #[.int .i64 tk, .int .i64 to_, .string tn] 54)
 go_upto_region 3 with fail
 have B4 := b3.trans (b4.mono b3.size)
 have bX := bX.trans (B4.mono bX.size)
 have k1 := kept_of_below B4 k1
 have k2 := kept_of_below B4 k2
 have k3 := kept_of_below B4 k3
 have k4 := kept_of_below B4 k4
 generalize w3.alloc _ = w4 at *
 have hVlt : w.heap.size + 2 < w4.heap.size := (Array.getElem?_eq_some_iff.1 k3).1
 have CK := fun (i : Int) (h1 : 0 ≤ i ∧ i ≤ 10) w' (hb : Below w4.heap.size w4 w') => kid11_any d x i w' h1 (IsR.below (bX.trans (hb.mono bX.size)) d x (unhide HX))
 have CO := fun (t : T3) (ht : GTy s t) w' (hb : Below w4.heap.size w4 w') (d' : R4) (x' : Rw) (hx' : IsR w' d' x') => COF w' t d' x' (bX.trans (hb.mono bX.size)) ht hx'
 clear COF B4 b3 b4
 obtain ⟨m, hm⟩ : ∃ m : Nat, (m : Int) = d.n % 2 := ⟨(d.n % 2).toNat, by omega⟩
 have hm4 : m < 2 := by omega
 have CW := fun w' => within11_any d.n 2 (by decide) (by decide) w'
 rw [← hm] at CW
 have hc : m = 0 ∨ m = 1 := by omega
 have HKm := hide (show (6 ≤ 20 + (m : Int) ∧ 20 + (m : Int) ≤ 25) ∧ 2 = wantN (20 + (m : Int)) from by
  rcases hc with rfl | rfl <;> exact ⟨by decide, by decide⟩)
 have HT := hide (show nodeT s p r (20 + (m : Int)) (ba []) (ba []) (ba []) [⟨tk, to_, tn⟩, ⟨tk, to_, tn⟩] = (⟨1, 0, ⟨#[]⟩⟩, 0) from by
  rcases hc with rfl | rfl <;> (show whereT (decide ((⟨tk, to_, tn⟩ : T3) = ⟨tk, to_, tn⟩) || (decide (tk = 4) && decide (tk = 4))) 1 = _; rw [decide_eq_true rfl]; rfl))
 clear hm hc
 go_upto_region 11 with fail
 refine wp_specs_put 16 (SpM [.eq (.pointer (some ⟨w.heap.size + 1, 1, none⟩)), .eq (.int .i64 d.n), .eq (.int .i64 (m : Nat)), .eq (.int .i64 (20 + (m : Int))), .eq (.agg #[.slice ko s.ks.length kc, .slice ao s.ac.length acp, .string p, .string ac, .string r, .int .i64 dp]), .eq (.agg #[.int .i64 tk, .int .i64 to_, .string tn]), .eq (.agg #[.int .i64 d.op, .int .i64 d.n, .slice d.so d.sl d.sc, .slice d.lo d.ll d.lc]), .up (rawP), .up (treeP w4.heap.size s p r ⟨tk, to_, tn⟩ n), .eq (.agg #[.slice ko s.ks.length kc, .slice ao s.ac.length acp, .string p, .string ac, .string r, .int .i64 dp]), .eq (.agg #[.int .i64 tk, .int .i64 to_, .string tn]), .eq (.agg #[.int .i64 d.op, .int .i64 d.n, .slice d.so d.sl d.sc, .slice d.lo d.ll d.lc]), .up (rawP), .up (treeP w4.heap.size s p r ⟨tk, to_, tn⟩ n), .up (rowP w4.heap.size s p r [⟨tk, to_, tn⟩, ⟨tk, to_, tn⟩] n 2), .up (treeP w4.heap.size s p r ⟨1, 0, ⟨#[]⟩⟩ (n + 1))]) (fun w' => Below w4.heap.size w4 w') (by kernel_rfl) (by kernel_rfl) (Below.refl _ w4).drew ?_ ?_
 ·intro q o hq' ho a' w' hR hdep hslot K hK
  have m1 := kept_of_below hR k1
  have m2 := kept_of_below hR k2
  have m4 := kept_of_below hR k4
  have m5 := kept_of_below hR k5
  obtain ⟨mk0, mk1, mk2, mk3, mk4, mk5⟩ := bl6_ m1
  obtain ⟨rr0, rr1, rr2, rr3⟩ := bl4_ m2
  obtain ⟨u0, u1, u2⟩ := bl3_ m4
  obtain ⟨t0, t1, t2⟩ := bl3_ m5
  clear m1 m2 m4 m5
  have ew : IntKind.i64.wrap (20 + (m : Int)) = 20 + (m : Int) := by rw [IntKind.wrap_i64]; omega
  have hc : q = 0 ∨ q = 1 ∨ q = 2 ∨ q = 3 ∨ q = 4 ∨ q = 5 ∨ q = 6 ∨ q = 7 ∨ q = 8 ∨ q = 9 ∨ q = 10 ∨ q = 11 ∨ q = 12 ∨ q = 13 ∨ q = 14 ∨ q = 15 := by omega
  rcases hc with rfl | rfl | rfl | rfl | rfl | rfl | rfl | rfl | rfl | rfl | rfl | rfl | rfl | rfl | rfl | rfl
  ·cases ho
   have e0 : a'.tmps.getD 4 undef = .pointer (some ⟨w.heap.size + 1, 0, none⟩) := hslot 4 (by decide)
   clear mk0 mk1 mk2 mk3 mk4 mk5 rr0 rr1 rr2 rr3 u0 u1 u2 t0 t1 t2 ew
   unfold Oper.wp
   go_simp
   exact hK _ _ rfl hR (fun _ _ h => h)
  ·cases ho
   have e0 : a'.tmps.getD 67 undef = .pointer (some ⟨w.heap.size + 1, 1, none⟩) := hdep 0 (by kernel_rfl)
   have e0' := gd_ e0
   clear mk0 mk1 mk2 mk3 mk4 mk5 rr0 rr2 rr3 u0 u1 u2 t0 t1 t2 ew
   unfold Oper.wp
   go_simp
   exact hK _ _ rfl hR (fun _ _ h => h)
  ·cases ho
   have e0 : a'.tmps.getD 68 undef = .int .i64 d.n := hdep 1 (by kernel_rfl)
   have e0' := gd_ e0
   clear mk0 mk1 mk2 mk3 mk4 mk5 rr0 rr1 rr2 rr3 u0 u1 u2 t0 t1 t2 ew
   unfold Oper.wp
   go_simp
   refine (CW w').mono ?_
   rintro e w9 ⟨rfl, hw9⟩
   subst hw9
   exact hK _ _ rfl hR (fun _ _ h => h)
  ·cases ho
   have e0 : a'.tmps.getD 69 undef = .int .i64 (m : Nat) := hdep 2 (by kernel_rfl)
   have e0' := gd_ e0
   clear mk0 mk1 mk2 mk3 mk4 mk5 rr0 rr1 rr2 rr3 u0 u1 u2 t0 t1 t2
   unfold Oper.wp
   go_simp
   exact hK _ _ rfl hR (fun _ _ h => h)
  ·cases ho
   have e0 : a'.tmps.getD 3 undef = .pointer (some ⟨w.heap.size, 0, none⟩) := hslot 3 (by decide)
   clear rr0 rr1 rr2 rr3 u0 u1 u2 t0 t1 t2 ew
   unfold Oper.wp
   go_simp
   exact hK _ _ rfl hR (fun _ _ h => h)
  ·cases ho
   have e0 : a'.tmps.getD 8 undef = .pointer (some ⟨w3.heap.size, 0, none⟩) := hslot 8 (by decide)
   clear mk0 mk1 mk2 mk3 mk4 mk5 rr0 rr1 rr2 rr3 u0 u1 u2 ew
   unfold Oper.wp
   go_simp
   exact hK _ _ rfl hR (fun _ _ h => h)
  ·cases ho
   have e0 : a'.tmps.getD 4 undef = .pointer (some ⟨w.heap.size + 1, 0, none⟩) := hslot 4 (by decide)
   clear mk0 mk1 mk2 mk3 mk4 mk5 u0 u1 u2 t0 t1 t2 ew
   unfold Oper.wp
   go_simp
   exact hK _ _ rfl hR (fun _ _ h => h)
  ·cases ho
   have e0 : a'.tmps.getD 73 undef = .agg #[.int .i64 d.op, .int .i64 d.n, .slice d.so d.sl d.sc, .slice d.lo d.ll d.lc] := hdep 6 (by kernel_rfl)
   have e0' := gd_ e0
   clear mk0 mk1 mk2 mk3 mk4 mk5 rr0 rr1 rr2 rr3 u0 u1 u2 t0 t1 t2 ew
   unfold Oper.wp
   go_simp
   refine (CK 0 (by decide) w' hR).mono ?_
   rintro e w9 ⟨⟨r9, y9, rfl, h9⟩, b9⟩
   exact hK _ _ ⟨r9, y9, rfl, h9⟩ (hR.trans (b9.mono hR.size)) (SpM.up b9)
  ·cases ho
   have e0 : a'.tmps.getD 71 undef = .agg #[.slice ko s.ks.length kc, .slice ao s.ac.length acp, .string p, .string ac, .string r, .int .i64 dp] := hdep 4 (by kernel_rfl)
   have e0' := gd_ e0
   have e1 : a'.tmps.getD 72 undef = .agg #[.int .i64 tk, .int .i64 to_, .string tn] := hdep 5 (by kernel_rfl)
   have e1' := gd_ e1
   obtain ⟨r2, x2, e2, hx2⟩ : (rawP).p (a'.tmps.getD 74 undef) w' := hdep 7 (by kernel_rfl)
   have e2' := gd_ e2
   have Hhx2 := hide hx2
   clear hx2 mk0 mk1 mk2 mk3 mk4 mk5 rr0 rr1 rr2 rr3 u0 u1 u2 t0 t1 t2 ew
   unfold Oper.wp
   go_simp
   refine (CO ⟨tk, to_, tn⟩ hgt w' hR r2 x2 (unhide Hhx2)).mono ?_
   rintro e w9 ⟨q9, rfl, b9, y9, h9⟩
   exact hK _ _ ⟨q9, y9, rfl, h9.weak hR.size (Nat.le_refl _)⟩ (hR.trans (b9.mono hR.size)) (SpM.up b9)
  ·cases ho
   have e0 : a'.tmps.getD 3 undef = .pointer (some ⟨w.heap.size, 0, none⟩) := hslot 3 (by decide)
   clear rr0 rr1 rr2 rr3 u0 u1 u2 t0 t1 t2 ew
   unfold Oper.wp
   go_simp
   exact hK _ _ rfl hR (fun _ _ h => h)
  ·cases ho
   have e0 : a'.tmps.getD 8 undef = .pointer (some ⟨w3.heap.size, 0, none⟩) := hslot 8 (by decide)
   clear mk0 mk1 mk2 mk3 mk4 mk5 rr0 rr1 rr2 rr3 u0 u1 u2 ew
   unfold Oper.wp
   go_simp
   exact hK _ _ rfl hR (fun _ _ h => h)
  ·cases ho
   have e0 : a'.tmps.getD 4 undef = .pointer (some ⟨w.heap.size + 1, 0, none⟩) := hslot 4 (by decide)
   clear mk0 mk1 mk2 mk3 mk4 mk5 u0 u1 u2 t0 t1 t2 ew
   unfold Oper.wp
   go_simp
   exact hK _ _ rfl hR (fun _ _ h => h)
  ·cases ho
   have e0 : a'.tmps.getD 78 undef = .agg #[.int .i64 d.op, .int .i64 d.n, .slice d.so d.sl d.sc, .slice d.lo d.ll d.lc] := hdep 11 (by kernel_rfl)
   have e0' := gd_ e0
   clear mk0 mk1 mk2 mk3 mk4 mk5 rr0 rr1 rr2 rr3 u0 u1 u2 t0 t1 t2 ew
   unfold Oper.wp
   go_simp
   refine (CK 1 (by decide) w' hR).mono ?_
   rintro e w9 ⟨⟨r9, y9, rfl, h9⟩, b9⟩
   exact hK _ _ ⟨r9, y9, rfl, h9⟩ (hR.trans (b9.mono hR.size)) (SpM.up b9)
  ·cases ho
   have e0 : a'.tmps.getD 76 undef = .agg #[.slice ko s.ks.length kc, .slice ao s.ac.length acp, .string p, .string ac, .string r, .int .i64 dp] := hdep 9 (by kernel_rfl)
   have e0' := gd_ e0
   have e1 : a'.tmps.getD 77 undef = .agg #[.int .i64 tk, .int .i64 to_, .string tn] := hdep 10 (by kernel_rfl)
   have e1' := gd_ e1
   obtain ⟨r2, x2, e2, hx2⟩ : (rawP).p (a'.tmps.getD 79 undef) w' := hdep 12 (by kernel_rfl)
   have e2' := gd_ e2
   have Hhx2 := hide hx2
   clear hx2 mk0 mk1 mk2 mk3 mk4 mk5 rr0 rr1 rr2 rr3 u0 u1 u2 t0 t1 t2 ew
   unfold Oper.wp
   go_simp
   refine (CO ⟨tk, to_, tn⟩ hgt w' hR r2 x2 (unhide Hhx2)).mono ?_
   rintro e w9 ⟨q9, rfl, b9, y9, h9⟩
   exact hK _ _ ⟨q9, y9, rfl, h9.weak hR.size (Nat.le_refl _)⟩ (hR.trans (b9.mono hR.size)) (SpM.up b9)
  ·cases ho
   obtain ⟨q0, y0, e0, hy0⟩ : (treeP w4.heap.size s p r ⟨tk, to_, tn⟩ n).p (a'.tmps.getD 75 undef) w' := hdep 8 (by kernel_rfl)
   have e0' := gd_ e0
   have Hhy0 := hide hy0
   obtain ⟨q1, y1, e1, hy1⟩ : (treeP w4.heap.size s p r ⟨tk, to_, tn⟩ n).p (a'.tmps.getD 80 undef) w' := hdep 13 (by kernel_rfl)
   have e1' := gd_ e1
   have Hhy1 := hide hy1
   clear hy0 hy1 mk0 mk1 mk2 mk3 mk4 mk5 rr0 rr1 rr2 rr3 u0 u1 u2 t0 t1 t2 ew
   unfold Oper.wp
   go_simp
   exact hK _ _ ⟨w'.heap.size, [q0, q1], [y0, y1], _, rfl, hR.size, alloc_heap _ _, rfl, .cons ((unhide Hhy0).up (blw1 _ _)) (.cons ((unhide Hhy1).up (blw1 _ _)) .nil)⟩ (hR.alloc hR.size _) (SpM.up (blw1 _ _))
  ·cases ho
   have e0 : a'.tmps.getD 70 undef = .int .i64 (20 + (m : Int)) := hdep 3 (by kernel_rfl)
   have e0' := gd_ e0
   obtain ⟨b1, qs1, es1, cs1, e1, hB1, hb1, hc1, ha1⟩ : (rowP w4.heap.size s p r [⟨tk, to_, tn⟩, ⟨tk, to_, tn⟩] n 2).p (a'.tmps.getD 81 undef) w' := hdep 14 (by kernel_rfl)
   have e1' := gd_ e1
   have HhB1 := hide hB1
   have Hhb1 := hide hb1
   have Hhc1 := hide hc1
   have Hha1 := hide ha1
   clear hB1 hb1 hc1 ha1 mk0 mk1 mk2 mk3 mk4 mk5 rr0 rr1 rr2 rr3 u0 u1 u2 t0 t1 t2 ew
   unfold Oper.wp
   go_simp
   exact hK _ _ ⟨⟨(20 + (m : Int)), false, 0, ⟨#[]⟩, ⟨#[]⟩, ⟨#[]⟩, some ⟨b1, 0, none⟩, 2, 2⟩, .mk (20 + (m : Int)) false 0 [] [] [] es1, rfl, made_node (sx := []) (unhide Hhb1) (unhide Hhc1) (unhide HhB1) (unhide Hha1) rfl (unhide HKm).1 (fun _ => (unhide HKm).2) (by simp) (unhide HT)⟩ hR (fun _ _ h => h)
 ·intro v w' hR hall
  have f0 : v 0 = .pointer (some ⟨w.heap.size + 1, 1, none⟩) := hall 0 (by decide)
  have f1 : v 1 = .int .i64 d.n := hall 1 (by decide)
  have f2 : v 2 = .int .i64 (m : Nat) := hall 2 (by decide)
  have f3 : v 3 = .int .i64 (20 + (m : Int)) := hall 3 (by decide)
  have f4 : v 4 = .agg #[.slice ko s.ks.length kc, .slice ao s.ac.length acp, .string p, .string ac, .string r, .int .i64 dp] := hall 4 (by decide)
  have f5 : v 5 = .agg #[.int .i64 tk, .int .i64 to_, .string tn] := hall 5 (by decide)
  have f6 : v 6 = .agg #[.int .i64 d.op, .int .i64 d.n, .slice d.so d.sl d.sc, .slice d.lo d.ll d.lc] := hall 6 (by decide)
  have f9 : v 9 = .agg #[.slice ko s.ks.length kc, .slice ao s.ac.length acp, .string p, .string ac, .string r, .int .i64 dp] := hall 9 (by decide)
  have f10 : v 10 = .agg #[.int .i64 tk, .int .i64 to_, .string tn] := hall 10 (by decide)
  have f11 : v 11 = .agg #[.int .i64 d.op, .int .i64 d.n, .slice d.so d.sl d.sc, .slice d.lo d.ll d.lc] := hall 11 (by decide)
  obtain ⟨qZ, yZ, eZ, hyZ⟩ : (treeP w4.heap.size s p r ⟨1, 0, ⟨#[]⟩⟩ (n + 1)).p (v 15) w' := hall 15 (by decide)
  have f15 : v 15 = .agg #[.int .i64 qZ.k, .bool qZ.b, .int .i64 qZ.n, .string qZ.s, .string qZ.t, .string qZ.i, .slice qZ.lo qZ.ll qZ.lc] := eZ
  clear eZ
  have HhyZ := hide hyZ
  clear hyZ
  clear hall
  simp only [putAll, dstOf, List.getElem?_cons_zero, List.getElem?_cons_succ, Option.bind_some, List.drop_succ_cons, List.drop_zero, f0, f1, f2, f3, f4, f5, f6, f9, f10, f11, f15]
  clear f0 f1 f2 f3 f4 f5 f6 f9 f10 f11 f15
  simp only [Act.put, List.setIfInBounds_toArray, List.set_cons_succ, List.set_cons_zero]
  generalize v 7 = vv7
  generalize v 8 = vv8
  generalize v 12 = vv12
  generalize v 13 = vv13
  generalize v 14 = vv14
  have hV := kept_of_below hR k3
  have b0 := bX.trans (hR.mono bX.size)
  obtain ⟨y0, y1, y2, y3, y4, y5, y6, yf⟩ := blk7 hV
  have HB := hide (And.intro b0 hVlt)
  have hw4 : w.heap.size ≤ w4.heap.size := bX.size
  clear hV b0 CK CO hg1 hg2 hg3 hgp hgr hgs hgt ht5 CW hm4
  go_wp2
  exact bodyPost_ret (v := .agg #[.int .i64 qZ.k, .bool qZ.b, .int .i64 qZ.n, .string qZ.s, .string qZ.t, .string qZ.i, .slice qZ.lo qZ.ll qZ.lc]) (by simp [results, Try.results60, go_sem, y0, y1, y2, y3, y4, y5, y6]) rfl ⟨qZ, rfl, set7S_below (unhide HB).1 (Nat.le_add_right _ 2) _ _ _ _ _ _ _, yZ, ((unhide HhyZ).keep (w' := set7S _ _ _ _ _ _ _ _ _) (by rw [set7S_size]; exact Nat.le_refl _) (fun b hB _ => set7S_heap _ _ _ _ _ _ _ _ _ _ (by have := (unhide HB).2; omega))).weak hw4 (Nat.le_refl _)⟩
end Go.Proofs.Ytagnbpobcijakaa
