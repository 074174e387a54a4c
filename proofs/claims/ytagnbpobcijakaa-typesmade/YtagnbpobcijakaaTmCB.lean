/-
 chancellaw11.truth: ways 8 and 9: what it returns.
 chancellaw11.truth: way 10: what it returns.
 chancellaw11.truth: the other ways: what it returns.
 chancellaw11.truth: all ways: what it returns.
-/
import Derived.Test.YtagnbpobcijakaaTmAB
import Derived.Test.YtagnbpobcijakaaTmCA
namespace Go.Proofs.Ytagnbpobcijakaa
open Go.RowKit Go.Sort

set_option maxHeartbeats 8000000 in
set_option maxRecDepth 1000000 in
theorem truth11_8 (s : SP) (ko ao : Option Addr) (kc acp : Nat) (p ac r : ByteArray) (dp : Int) (n : Nat) (d : R4) (x : Rw) (w : World) (hp : isKn s p) (hr : isKn s r) (hx : IsR w d x) (COF : ∀ (w' : World) (t : T3) (d : R4) (x : Rw), Below w.heap.size w w' → GTy s t → IsR w' d x → Calls Try.prog 14 #[.agg #[.slice ko s.ks.length kc, .slice ao s.ac.length acp, .string p, .string ac, .string r, .int .i64 dp], .agg #[.int .i64 t.k, .int .i64 t.o, .string t.n], .agg #[.int .i64 d.op, .int .i64 d.n, .slice d.so d.sl d.sc, .slice d.lo d.ll d.lc]] w' fun e w9 => MakesT s p r t n w' e w9) : Calls Try.prog 60 #[.agg #[.slice ko s.ks.length kc, .slice ao s.ac.length acp, .string p, .string ac, .string r, .int .i64 dp], .agg #[.int .i64 d.op, .int .i64 d.n, .slice d.so d.sl d.sc, .slice d.lo d.ll d.lc], .int .i64 8] w fun e w' => MakesT s p r ⟨1, 0, ⟨#[]⟩⟩ (n + 1) w e w' := by
 obtain ⟨bX, zX, k1, k2, k3⟩ := alloc3 w (.cells #[.slice ko s.ks.length kc, .slice ao s.ac.length acp, .string p, .string ac, .string r, .int .i64 dp] 52) (.cells #[.int .i64 d.op, .int .i64 d.n, .slice d.so d.sl d.sc, .slice d.lo d.ll d.lc] 49) (.cells #[.int .i64 0, .bool false, .int .i64 0, .string ⟨#[]⟩, .string ⟨#[]⟩, .string ⟨#[]⟩, .slice none 0 0] 39)
 have HX := hide hx
 have CS := fun w' => some11_any s ko ao kc acp p ac r dp d.n w' hp hr
 have hg1 : GTy s ⟨1, 0, ⟨#[]⟩⟩ := .inl ⟨.inl rfl, rfl, rfl⟩
 have hg2 : GTy s ⟨2, 0, ⟨#[]⟩⟩ := .inl ⟨.inr (.inl rfl), rfl, rfl⟩
 have hg3 : GTy s ⟨3, 0, ⟨#[]⟩⟩ := .inl ⟨.inr (.inr rfl), rfl, rfl⟩
 have hgp : GTy s ⟨4, 0, p⟩ := .inr (.inl ⟨rfl, rfl, hp⟩)
 have hgr : GTy s ⟨4, 0, r⟩ := .inr (.inl ⟨rfl, rfl, hr⟩)
 have hgs : GTy s ⟨5, 4, r⟩ := .inr (.inr ⟨rfl, .inr ⟨rfl, hr⟩⟩)
 clear hx hp hr
 go_enter Try.func60, Try.ntmps60
 go_upto_region 1 with fail
 generalize ((w.alloc _).alloc _).alloc _ = w1 at *
 clear zX
 have mk2 : w1.cell? ⟨w.heap.size, 2, none⟩ = some (.string p) := lc_ k1 rfl
 have b2 := blw1 w1 (.cells #[.int .i64 4, .int .i64 0, .string p] 54)
 have k4 := alloc_heap w1 (.cells #[.int .i64 4, .int .i64 0, .string p] 54)
 go_upto_region 2 with fail
 clear mk2
 have bX := bX.trans (b2.mono bX.size)
 have k1 := kept_of_below b2 k1
 have k2 := kept_of_below b2 k2
 have k3 := kept_of_below b2 k3
 generalize w1.alloc _ = w2 at *
 obtain ⟨mk0, mk1, mk2, mk3, mk4, mk5⟩ := bl6_ k1
 obtain ⟨rr0, rr1, rr2, rr3⟩ := bl4_ k2
 have CS := CS w2
 go_wp2_with fail
 refine CS.mono ?_
 clear CS mk0 mk1 mk2 mk3 mk4 mk5 rr0 rr1 rr2 rr3
 rintro e9 w3 ⟨⟨tk, to_, tn⟩, rfl, b3, hgt, ht5⟩
 have b4 := blw1 w3 (.cells #[.int .i64 tk, .int .i64 to_, .string tn] 54)
 have k5 := alloc_heap w3 (.cells #[.int .i64 tk, .int .i64 to_, .string tn] 54)
 go_upto_region 3 with fail
 have B4 := b3.trans (b4.mono b3.size)
 have bX := bX.trans (B4.mono bX.size)
 have k1 := kept_of_below B4 k1
 have k2 := kept_of_below B4 k2
 have k3 := kept_of_below B4 k3
 have k4 := kept_of_below B4 k4
 generalize w3.alloc _ = w4 at *
 have hVlt : w.heap.size + 2 < w4.heap.size := (Array.getElem?_eq_some_iff.1 k3).1
 have CK := fun (i : Int) (h1 : 0 ≤ i ∧ i ≤ 10) w' (hb : Below w4.heap.size w4 w') => kid11_any d x i w' h1 (IsR.below (bX.trans (hb.mono bX.size)) d x (unhide HX))
 have CO := fun (t : T3) (ht : GTy s t) w' (hb : Below w4.heap.size w4 w') (d' : R4) (x' : Rw) (hx' : IsR w' d' x') => COF w' t d' x' (bX.trans (hb.mono bX.size)) ht hx'
 clear COF B4 b3 b4
 have HT := hide (show nodeT s p r 22 (ba []) (ba []) (ba []) [⟨4, 0, p⟩, ⟨4, 0, r⟩] = (⟨1, 0, ⟨#[]⟩⟩, 0) from rfl)
 go_upto_region 13 with fail
 refine wp_specs_put 15 (SpM [.eq (.agg #[.slice ko s.ks.length kc, .slice ao s.ac.length acp, .string p, .string ac, .string r, .int .i64 dp]), .eq (.agg #[.int .i64 4, .int .i64 0, .string p]), .eq (.agg #[.int .i64 d.op, .int .i64 d.n, .slice d.so d.sl d.sc, .slice d.lo d.ll d.lc]), .up (rawP), .up (treeP w4.heap.size s p r ⟨4, 0, p⟩ n), .eq (.agg #[.slice ko s.ks.length kc, .slice ao s.ac.length acp, .string p, .string ac, .string r, .int .i64 dp]), .eq (.pointer (some ⟨w.heap.size, 2, none⟩)), .eq (.pointer (some ⟨w.heap.size, 4, none⟩)), .eq (.string r), .eq (.agg #[.int .i64 4, .int .i64 0, .string r]), .eq (.agg #[.int .i64 d.op, .int .i64 d.n, .slice d.so d.sl d.sc, .slice d.lo d.ll d.lc]), .up (rawP), .up (treeP w4.heap.size s p r ⟨4, 0, r⟩ n), .up (rowP w4.heap.size s p r [⟨4, 0, p⟩, ⟨4, 0, r⟩] n 2), .up (treeP w4.heap.size s p r ⟨1, 0, ⟨#[]⟩⟩ (n + 1))]) (fun w' => Below w4.heap.size w4 w') (by kernel_rfl) (by kernel_rfl) (Below.refl _ w4).drew ?_ ?_
 ·intro q o hq' ho a' w' hR hdep hslot K hK
  have m1 := kept_of_below hR k1
  have m2 := kept_of_below hR k2
  have m4 := kept_of_below hR k4
  have m5 := kept_of_below hR k5
  obtain ⟨mk0, mk1, mk2, mk3, mk4, mk5⟩ := bl6_ m1
  obtain ⟨rr0, rr1, rr2, rr3⟩ := bl4_ m2
  obtain ⟨u0, u1, u2⟩ := bl3_ m4
  obtain ⟨t0, t1, t2⟩ := bl3_ m5
  clear m1 m2 m4 m5
  have hc : q = 0 ∨ q = 1 ∨ q = 2 ∨ q = 3 ∨ q = 4 ∨ q = 5 ∨ q = 6 ∨ q = 7 ∨ q = 8 ∨ q = 9 ∨ q = 10 ∨ q = 11 ∨ q = 12 ∨ q = 13 ∨ q = 14 := by omega
  rcases hc with rfl | rfl | rfl | rfl | rfl | rfl | rfl | rfl | rfl | rfl | rfl | rfl | rfl | rfl | rfl
  ·cases ho
   have e0 : a'.tmps.getD 3 undef = .pointer (some ⟨w.heap.size, 0, none⟩) := hslot 3 (by decide)
   clear rr0 rr1 rr2 rr3 u0 u1 u2 t0 t1 t2
   unfold Oper.wp
   go_simp
   exact hK _ _ rfl hR (fun _ _ h => h)
  ·cases ho
   have e0 : a'.tmps.getD 7 undef = .pointer (some ⟨w1.heap.size, 0, none⟩) := hslot 7 (by decide)
   clear mk0 mk1 mk2 mk3 mk4 mk5 rr0 rr1 rr2 rr3 t0 t1 t2
   unfold Oper.wp
   go_simp
   exact hK _ _ rfl hR (fun _ _ h => h)
  ·cases ho
   have e0 : a'.tmps.getD 4 undef = .pointer (some ⟨w.heap.size + 1, 0, none⟩) := hslot 4 (by decide)
   clear mk0 mk1 mk2 mk3 mk4 mk5 u0 u1 u2 t0 t1 t2
   unfold Oper.wp
   go_simp
   exact hK _ _ rfl hR (fun _ _ h => h)
  ·cases ho
   have e0 : a'.tmps.getD 87 undef = .agg #[.int .i64 d.op, .int .i64 d.n, .slice d.so d.sl d.sc, .slice d.lo d.ll d.lc] := hdep 2 (by kernel_rfl)
   have e0' := gd_ e0
   clear mk0 mk1 mk2 mk3 mk4 mk5 rr0 rr1 rr2 rr3 u0 u1 u2 t0 t1 t2
   unfold Oper.wp
   go_simp
   refine (CK 0 (by decide) w' hR).mono ?_
   rintro e w9 ⟨⟨r9, y9, rfl, h9⟩, b9⟩
   exact hK _ _ ⟨r9, y9, rfl, h9⟩ (hR.trans (b9.mono hR.size)) (SpM.up b9)
  ·cases ho
   have e0 : a'.tmps.getD 85 undef = .agg #[.slice ko s.ks.length kc, .slice ao s.ac.length acp, .string p, .string ac, .string r, .int .i64 dp] := hdep 0 (by kernel_rfl)
   have e0' := gd_ e0
   have e1 : a'.tmps.getD 86 undef = .agg #[.int .i64 4, .int .i64 0, .string p] := hdep 1 (by kernel_rfl)
   have e1' := gd_ e1
   obtain ⟨r2, x2, e2, hx2⟩ : (rawP).p (a'.tmps.getD 88 undef) w' := hdep 3 (by kernel_rfl)
   have e2' := gd_ e2
   have Hhx2 := hide hx2
   clear hx2 mk0 mk1 mk2 mk3 mk4 mk5 rr0 rr1 rr2 rr3 u0 u1 u2 t0 t1 t2
   unfold Oper.wp
   go_simp
   refine (CO ⟨4, 0, p⟩ hgp w' hR r2 x2 (unhide Hhx2)).mono ?_
   rintro e w9 ⟨q9, rfl, b9, y9, h9⟩
   exact hK _ _ ⟨q9, y9, rfl, h9.weak hR.size (Nat.le_refl _)⟩ (hR.trans (b9.mono hR.size)) (SpM.up b9)
  ·cases ho
   have e0 : a'.tmps.getD 3 undef = .pointer (some ⟨w.heap.size, 0, none⟩) := hslot 3 (by decide)
   clear rr0 rr1 rr2 rr3 u0 u1 u2 t0 t1 t2
   unfold Oper.wp
   go_simp
   exact hK _ _ rfl hR (fun _ _ h => h)
  ·cases ho
   have e0 : a'.tmps.getD 3 undef = .pointer (some ⟨w.heap.size, 0, none⟩) := hslot 3 (by decide)
   clear mk0 mk1 mk2 mk3 mk4 mk5 rr0 rr1 rr2 rr3 u0 u1 u2 t0 t1 t2
   unfold Oper.wp
   go_simp
   exact hK _ _ rfl hR (fun _ _ h => h)
  ·cases ho
   have e0 : a'.tmps.getD 91 undef = .pointer (some ⟨w.heap.size, 2, none⟩) := hdep 6 (by kernel_rfl)
   have e0' := gd_ e0
   clear mk0 mk1 mk2 mk3 mk4 mk5 rr0 rr1 rr2 rr3 u0 u1 u2 t0 t1 t2
   unfold Oper.wp
   go_simp
   exact hK _ _ rfl hR (fun _ _ h => h)
  ·cases ho
   have e0 : a'.tmps.getD 92 undef = .pointer (some ⟨w.heap.size, 4, none⟩) := hdep 7 (by kernel_rfl)
   have e0' := gd_ e0
   clear mk0 mk1 mk2 mk3 mk5 rr0 rr1 rr2 rr3 u0 u1 u2 t0 t1 t2
   unfold Oper.wp
   go_simp
   exact hK _ _ rfl hR (fun _ _ h => h)
  ·cases ho
   have e0 : a'.tmps.getD 93 undef = .string r := hdep 8 (by kernel_rfl)
   have e0' := gd_ e0
   clear mk0 mk1 mk2 mk3 mk4 mk5 rr0 rr1 rr2 rr3 u0 u1 u2 t0 t1 t2
   unfold Oper.wp
   go_simp
   exact hK _ _ rfl hR (fun _ _ h => h)
  ·cases ho
   have e0 : a'.tmps.getD 4 undef = .pointer (some ⟨w.heap.size + 1, 0, none⟩) := hslot 4 (by decide)
   clear mk0 mk1 mk2 mk3 mk4 mk5 u0 u1 u2 t0 t1 t2
   unfold Oper.wp
   go_simp
   exact hK _ _ rfl hR (fun _ _ h => h)
  ·cases ho
   have e0 : a'.tmps.getD 95 undef = .agg #[.int .i64 d.op, .int .i64 d.n, .slice d.so d.sl d.sc, .slice d.lo d.ll d.lc] := hdep 10 (by kernel_rfl)
   have e0' := gd_ e0
   clear mk0 mk1 mk2 mk3 mk4 mk5 rr0 rr1 rr2 rr3 u0 u1 u2 t0 t1 t2
   unfold Oper.wp
   go_simp
   refine (CK 1 (by decide) w' hR).mono ?_
   rintro e w9 ⟨⟨r9, y9, rfl, h9⟩, b9⟩
   exact hK _ _ ⟨r9, y9, rfl, h9⟩ (hR.trans (b9.mono hR.size)) (SpM.up b9)
  ·cases ho
   have e0 : a'.tmps.getD 90 undef = .agg #[.slice ko s.ks.length kc, .slice ao s.ac.length acp, .string p, .string ac, .string r, .int .i64 dp] := hdep 5 (by kernel_rfl)
   have e0' := gd_ e0
   have e1 : a'.tmps.getD 94 undef = .agg #[.int .i64 4, .int .i64 0, .string r] := hdep 9 (by kernel_rfl)
   have e1' := gd_ e1
   obtain ⟨r2, x2, e2, hx2⟩ : (rawP).p (a'.tmps.getD 96 undef) w' := hdep 11 (by kernel_rfl)
   have e2' := gd_ e2
   have Hhx2 := hide hx2
   clear hx2 mk0 mk1 mk2 mk3 mk4 mk5 rr0 rr1 rr2 rr3 u0 u1 u2 t0 t1 t2
   unfold Oper.wp
   go_simp
   refine (CO ⟨4, 0, r⟩ hgr w' hR r2 x2 (unhide Hhx2)).mono ?_
   rintro e w9 ⟨q9, rfl, b9, y9, h9⟩
   exact hK _ _ ⟨q9, y9, rfl, h9.weak hR.size (Nat.le_refl _)⟩ (hR.trans (b9.mono hR.size)) (SpM.up b9)
  ·cases ho
   obtain ⟨q0, y0, e0, hy0⟩ : (treeP w4.heap.size s p r ⟨4, 0, p⟩ n).p (a'.tmps.getD 89 undef) w' := hdep 4 (by kernel_rfl)
   have e0' := gd_ e0
   have Hhy0 := hide hy0
   obtain ⟨q1, y1, e1, hy1⟩ : (treeP w4.heap.size s p r ⟨4, 0, r⟩ n).p (a'.tmps.getD 97 undef) w' := hdep 12 (by kernel_rfl)
   have e1' := gd_ e1
   have Hhy1 := hide hy1
   clear hy0 hy1 mk0 mk1 mk2 mk3 mk4 mk5 rr0 rr1 rr2 rr3 u0 u1 u2 t0 t1 t2
   unfold Oper.wp
   go_simp
   exact hK _ _ ⟨w'.heap.size, [q0, q1], [y0, y1], _, rfl, hR.size, alloc_heap _ _, rfl, .cons ((unhide Hhy0).up (blw1 _ _)) (.cons ((unhide Hhy1).up (blw1 _ _)) .nil)⟩ (hR.alloc hR.size _) (SpM.up (blw1 _ _))
  ·cases ho
   obtain ⟨b0, qs0, es0, cs0, e0, hB0, hb0, hc0, ha0⟩ : (rowP w4.heap.size s p r [⟨4, 0, p⟩, ⟨4, 0, r⟩] n 2).p (a'.tmps.getD 98 undef) w' := hdep 13 (by kernel_rfl)
   have e0' := gd_ e0
   have HhB0 := hide hB0
   have Hhb0 := hide hb0
   have Hhc0 := hide hc0
   have Hha0 := hide ha0
   clear hB0 hb0 hc0 ha0 mk0 mk1 mk2 mk3 mk4 mk5 rr0 rr1 rr2 rr3 u0 u1 u2 t0 t1 t2
   unfold Oper.wp
   go_simp
   exact hK _ _ ⟨⟨22, false, 0, ⟨#[]⟩, ⟨#[]⟩, ⟨#[]⟩, some ⟨b0, 0, none⟩, 2, 2⟩, .mk 22 false 0 [] [] [] es0, rfl, made_node (sx := []) (unhide Hhb0) (unhide Hhc0) (unhide HhB0) (unhide Hha0) rfl (by decide) (fun _ => rfl) (by simp) (unhide HT)⟩ hR (fun _ _ h => h)
 ·intro v w' hR hall
  have f0 : v 0 = .agg #[.slice ko s.ks.length kc, .slice ao s.ac.length acp, .string p, .string ac, .string r, .int .i64 dp] := hall 0 (by decide)
  have f1 : v 1 = .agg #[.int .i64 4, .int .i64 0, .string p] := hall 1 (by decide)
  have f2 : v 2 = .agg #[.int .i64 d.op, .int .i64 d.n, .slice d.so d.sl d.sc, .slice d.lo d.ll d.lc] := hall 2 (by decide)
  have f5 : v 5 = .agg #[.slice ko s.ks.length kc, .slice ao s.ac.length acp, .string p, .string ac, .string r, .int .i64 dp] := hall 5 (by decide)
  have f6 : v 6 = .pointer (some ⟨w.heap.size, 2, none⟩) := hall 6 (by decide)
  have f7 : v 7 = .pointer (some ⟨w.heap.size, 4, none⟩) := hall 7 (by decide)
  have f8 : v 8 = .string r := hall 8 (by decide)
  have f9 : v 9 = .agg #[.int .i64 4, .int .i64 0, .string r] := hall 9 (by decide)
  have f10 : v 10 = .agg #[.int .i64 d.op, .int .i64 d.n, .slice d.so d.sl d.sc, .slice d.lo d.ll d.lc] := hall 10 (by decide)
  obtain ⟨qZ, yZ, eZ, hyZ⟩ : (treeP w4.heap.size s p r ⟨1, 0, ⟨#[]⟩⟩ (n + 1)).p (v 14) w' := hall 14 (by decide)
  have f14 : v 14 = .agg #[.int .i64 qZ.k, .bool qZ.b, .int .i64 qZ.n, .string qZ.s, .string qZ.t, .string qZ.i, .slice qZ.lo qZ.ll qZ.lc] := eZ
  clear eZ
  have HhyZ := hide hyZ
  clear hyZ
  clear hall
  simp only [putAll, dstOf, List.getElem?_cons_zero, List.getElem?_cons_succ, Option.bind_some, List.drop_succ_cons, List.drop_zero, f0, f1, f2, f5, f6, f7, f8, f9, f10, f14]
  clear f0 f1 f2 f5 f6 f7 f8 f9 f10 f14
  simp only [Act.put, List.setIfInBounds_toArray, List.set_cons_succ, List.set_cons_zero]
  generalize v 3 = vv3
  generalize v 4 = vv4
  generalize v 11 = vv11
  generalize v 12 = vv12
  generalize v 13 = vv13
  have hV := kept_of_below hR k3
  have b0 := bX.trans (hR.mono bX.size)
  obtain ⟨y0, y1, y2, y3, y4, y5, y6, yf⟩ := blk7 hV
  have HB := hide (And.intro b0 hVlt)
  have hw4 : w.heap.size ≤ w4.heap.size := bX.size
  clear hV b0 CK CO hg1 hg2 hg3 hgp hgr hgs hgt ht5
  go_wp2
  exact bodyPost_ret (v := .agg #[.int .i64 qZ.k, .bool qZ.b, .int .i64 qZ.n, .string qZ.s, .string qZ.t, .string qZ.i, .slice qZ.lo qZ.ll qZ.lc]) (by simp [results, Try.results60, go_sem, y0, y1, y2, y3, y4, y5, y6]) rfl ⟨qZ, rfl, set7S_below (unhide HB).1 (Nat.le_add_right _ 2) _ _ _ _ _ _ _, yZ, ((unhide HhyZ).keep (w' := set7S _ _ _ _ _ _ _ _ _) (by rw [set7S_size]; exact Nat.le_refl _) (fun b hB _ => set7S_heap _ _ _ _ _ _ _ _ _ _ (by have := (unhide HB).2; omega))).weak hw4 (Nat.le_refl _)⟩
set_option maxHeartbeats 8000000 in
set_option maxRecDepth 1000000 in
theorem truth11_9 (s : SP) (ko ao : Option Addr) (kc acp : Nat) (p ac r : ByteArray) (dp : Int) (n : Nat) (d : R4) (x : Rw) (w : World) (hp : isKn s p) (hr : isKn s r) (hx : IsR w d x) (COF : ∀ (w' : World) (t : T3) (d : R4) (x : Rw), Below w.heap.size w w' → GTy s t → IsR w' d x → Calls Try.prog 14 #[.agg #[.slice ko s.ks.length kc, .slice ao s.ac.length acp, .string p, .string ac, .string r, .int .i64 dp], .agg #[.int .i64 t.k, .int .i64 t.o, .string t.n], .agg #[.int .i64 d.op, .int .i64 d.n, .slice d.so d.sl d.sc, .slice d.lo d.ll d.lc]] w' fun e w9 => MakesT s p r t n w' e w9) : Calls Try.prog 60 #[.agg #[.slice ko s.ks.length kc, .slice ao s.ac.length acp, .string p, .string ac, .string r, .int .i64 dp], .agg #[.int .i64 d.op, .int .i64 d.n, .slice d.so d.sl d.sc, .slice d.lo d.ll d.lc], .int .i64 9] w fun e w' => MakesT s p r ⟨1, 0, ⟨#[]⟩⟩ (n + 1) w e w' := by
 obtain ⟨bX, zX, k1, k2, k3⟩ := alloc3 w (.cells #[.slice ko s.ks.length kc, .slice ao s.ac.length acp, .string p, .string ac, .string r, .int .i64 dp] 52) (.cells #[.int .i64 d.op, .int .i64 d.n, .slice d.so d.sl d.sc, .slice d.lo d.ll d.lc] 49) (.cells #[.int .i64 0, .bool false, .int .i64 0, .string ⟨#[]⟩, .string ⟨#[]⟩, .string ⟨#[]⟩, .slice none 0 0] 39)
 have HX := hide hx
 have CS := fun w' => some11_any s ko ao kc acp p ac r dp d.n w' hp hr
 have hg1 : GTy s ⟨1, 0, ⟨#[]⟩⟩ := .inl ⟨.inl rfl, rfl, rfl⟩
 have hg2 : GTy s ⟨2, 0, ⟨#[]⟩⟩ := .inl ⟨.inr (.inl rfl), rfl, rfl⟩
 have hg3 : GTy s ⟨3, 0, ⟨#[]⟩⟩ := .inl ⟨.inr (.inr rfl), rfl, rfl⟩
 have hgp : GTy s ⟨4, 0, p⟩ := .inr (.inl ⟨rfl, rfl, hp⟩)
 have hgr : GTy s ⟨4, 0, r⟩ := .inr (.inl ⟨rfl, rfl, hr⟩)
 have hgs : GTy s ⟨5, 4, r⟩ := .inr (.inr ⟨rfl, .inr ⟨rfl, hr⟩⟩)
 clear hx hp hr
 go_enter Try.func60, Try.ntmps60
 go_upto_region 1 with fail
 generalize ((w.alloc _).alloc _).alloc _ = w1 at *
 clear zX
 have mk2 : w1.cell? ⟨w.heap.size, 2, none⟩ = some (.string p) := lc_ k1 rfl
 have b2 := blw1 w1 (.cells #[.int .i64 4, .int .i64 0, .string p] 54)
 have k4 := alloc_heap w1 (.cells #[.int .i64 4, .int .i64 0, .string p] 54)
 go_upto_region 2 with fail
 clear mk2
 have bX := bX.trans (b2.mono bX.size)
 have k1 := kept_of_below b2 k1
 have k2 := kept_of_below b2 k2
 have k3 := kept_of_below b2 k3
 generalize w1.alloc _ = w2 at *
 obtain ⟨mk0, mk1, mk2, mk3, mk4, mk5⟩ := bl6_ k1
 obtain ⟨rr0, rr1, rr2, rr3⟩ := bl4_ k2
 have CS := CS w2
 go_wp2_with fail
 refine CS.mono ?_
 clear CS mk0 mk1 mk2 mk3 mk4 mk5 rr0 rr1 rr2 rr3
 rintro e9 w3 ⟨⟨tk, to_, tn⟩, rfl, b3, hgt, ht5⟩
 have b4 := blw1 w3 (.cells #[.int .i64 tk, .int .i64 to_, .string tn] 54)
 have k5 := alloc_heap w3 (.cells #[.int .i64 tk, .int .i64 to_, .string tn] 54)
 go_upto_region 3 with fail
 have B4 := b3.trans (b4.mono b3.size)
 have bX := bX.trans (B4.mono bX.size)
 have k1 := kept_of_below B4 k1
 have k2 := kept_of_below B4 k2
 have k3 := kept_of_below B4 k3
 have k4 := kept_of_below B4 k4
 generalize w3.alloc _ = w4 at *
 have hVlt : w.heap.size + 2 < w4.heap.size := (Array.getElem?_eq_some_iff.1 k3).1
 have CK := fun (i : Int) (h1 : 0 ≤ i ∧ i ≤ 10) w' (hb : Below w4.heap.size w4 w') => kid11_any d x i w' h1 (IsR.below (bX.trans (hb.mono bX.size)) d x (unhide HX))
 have CO := fun (t : T3) (ht : GTy s t) w' (hb : Below w4.heap.size w4 w') (d' : R4) (x' : Rw) (hx' : IsR w' d' x') => COF w' t d' x' (bX.trans (hb.mono bX.size)) ht hx'
 clear COF B4 b3 b4
 have HT := hide (show nodeT s p r 22 (ba []) (ba []) (ba []) [⟨4, 0, p⟩, ⟨5, 4, r⟩] = (⟨1, 0, ⟨#[]⟩⟩, 0) from rfl)
 go_upto_region 15 with fail
 refine wp_specs_put 15 (SpM [.eq (.agg #[.slice ko s.ks.length kc, .slice ao s.ac.length acp, .string p, .string ac, .string r, .int .i64 dp]), .eq (.agg #[.int .i64 4, .int .i64 0, .string p]), .eq (.agg #[.int .i64 d.op, .int .i64 d.n, .slice d.so d.sl d.sc, .slice d.lo d.ll d.lc]), .up (rawP), .up (treeP w4.heap.size s p r ⟨4, 0, p⟩ n), .eq (.agg #[.slice ko s.ks.length kc, .slice ao s.ac.length acp, .string p, .string ac, .string r, .int .i64 dp]), .eq (.pointer (some ⟨w.heap.size, 2, none⟩)), .eq (.pointer (some ⟨w.heap.size, 4, none⟩)), .eq (.string r), .eq (.agg #[.int .i64 5, .int .i64 4, .string r]), .eq (.agg #[.int .i64 d.op, .int .i64 d.n, .slice d.so d.sl d.sc, .slice d.lo d.ll d.lc]), .up (rawP), .up (treeP w4.heap.size s p r ⟨5, 4, r⟩ n), .up (rowP w4.heap.size s p r [⟨4, 0, p⟩, ⟨5, 4, r⟩] n 2), .up (treeP w4.heap.size s p r ⟨1, 0, ⟨#[]⟩⟩ (n + 1))]) (fun w' => Below w4.heap.size w4 w') (by kernel_rfl) (by kernel_rfl) (Below.refl _ w4).drew ?_ ?_
 ·intro q o hq' ho a' w' hR hdep hslot K hK
  have m1 := kept_of_below hR k1
  have m2 := kept_of_below hR k2
  have m4 := kept_of_below hR k4
  have m5 := kept_of_below hR k5
  obtain ⟨mk0, mk1, mk2, mk3, mk4, mk5⟩ := bl6_ m1
  obtain ⟨rr0, rr1, rr2, rr3⟩ := bl4_ m2
  obtain ⟨u0, u1, u2⟩ := bl3_ m4
  obtain ⟨t0, t1, t2⟩ := bl3_ m5
  clear m1 m2 m4 m5
  have hc : q = 0 ∨ q = 1 ∨ q = 2 ∨ q = 3 ∨ q = 4 ∨ q = 5 ∨ q = 6 ∨ q = 7 ∨ q = 8 ∨ q = 9 ∨ q = 10 ∨ q = 11 ∨ q = 12 ∨ q = 13 ∨ q = 14 := by omega
  rcases hc with rfl | rfl | rfl | rfl | rfl | rfl | rfl | rfl | rfl | rfl | rfl | rfl | rfl | rfl | rfl
  ·cases ho
   have e0 : a'.tmps.getD 3 undef = .pointer (some ⟨w.heap.size, 0, none⟩) := hslot 3 (by decide)
   clear rr0 rr1 rr2 rr3 u0 u1 u2 t0 t1 t2
   unfold Oper.wp
   go_simp
   exact hK _ _ rfl hR (fun _ _ h => h)
  ·cases ho
   have e0 : a'.tmps.getD 7 undef = .pointer (some ⟨w1.heap.size, 0, none⟩) := hslot 7 (by decide)
   clear mk0 mk1 mk2 mk3 mk4 mk5 rr0 rr1 rr2 rr3 t0 t1 t2
   unfold Oper.wp
   go_simp
   exact hK _ _ rfl hR (fun _ _ h => h)
  ·cases ho
   have e0 : a'.tmps.getD 4 undef = .pointer (some ⟨w.heap.size + 1, 0, none⟩) := hslot 4 (by decide)
   clear mk0 mk1 mk2 mk3 mk4 mk5 u0 u1 u2 t0 t1 t2
   unfold Oper.wp
   go_simp
   exact hK _ _ rfl hR (fun _ _ h => h)
  ·cases ho
   have e0 : a'.tmps.getD 104 undef = .agg #[.int .i64 d.op, .int .i64 d.n, .slice d.so d.sl d.sc, .slice d.lo d.ll d.lc] := hdep 2 (by kernel_rfl)
   have e0' := gd_ e0
   clear mk0 mk1 mk2 mk3 mk4 mk5 rr0 rr1 rr2 rr3 u0 u1 u2 t0 t1 t2
   unfold Oper.wp
   go_simp
   refine (CK 0 (by decide) w' hR).mono ?_
   rintro e w9 ⟨⟨r9, y9, rfl, h9⟩, b9⟩
   exact hK _ _ ⟨r9, y9, rfl, h9⟩ (hR.trans (b9.mono hR.size)) (SpM.up b9)
  ·cases ho
   have e0 : a'.tmps.getD 102 undef = .agg #[.slice ko s.ks.length kc, .slice ao s.ac.length acp, .string p, .string ac, .string r, .int .i64 dp] := hdep 0 (by kernel_rfl)
   have e0' := gd_ e0
   have e1 : a'.tmps.getD 103 undef = .agg #[.int .i64 4, .int .i64 0, .string p] := hdep 1 (by kernel_rfl)
   have e1' := gd_ e1
   obtain ⟨r2, x2, e2, hx2⟩ : (rawP).p (a'.tmps.getD 105 undef) w' := hdep 3 (by kernel_rfl)
   have e2' := gd_ e2
   have Hhx2 := hide hx2
   clear hx2 mk0 mk1 mk2 mk3 mk4 mk5 rr0 rr1 rr2 rr3 u0 u1 u2 t0 t1 t2
   unfold Oper.wp
   go_simp
   refine (CO ⟨4, 0, p⟩ hgp w' hR r2 x2 (unhide Hhx2)).mono ?_
   rintro e w9 ⟨q9, rfl, b9, y9, h9⟩
   exact hK _ _ ⟨q9, y9, rfl, h9.weak hR.size (Nat.le_refl _)⟩ (hR.trans (b9.mono hR.size)) (SpM.up b9)
  ·cases ho
   have e0 : a'.tmps.getD 3 undef = .pointer (some ⟨w.heap.size, 0, none⟩) := hslot 3 (by decide)
   clear rr0 rr1 rr2 rr3 u0 u1 u2 t0 t1 t2
   unfold Oper.wp
   go_simp
   exact hK _ _ rfl hR (fun _ _ h => h)
  ·cases ho
   have e0 : a'.tmps.getD 3 undef = .pointer (some ⟨w.heap.size, 0, none⟩) := hslot 3 (by decide)
   clear mk0 mk1 mk2 mk3 mk4 mk5 rr0 rr1 rr2 rr3 u0 u1 u2 t0 t1 t2
   unfold Oper.wp
   go_simp
   exact hK _ _ rfl hR (fun _ _ h => h)
  ·cases ho
   have e0 : a'.tmps.getD 108 undef = .pointer (some ⟨w.heap.size, 2, none⟩) := hdep 6 (by kernel_rfl)
   have e0' := gd_ e0
   clear mk0 mk1 mk2 mk3 mk4 mk5 rr0 rr1 rr2 rr3 u0 u1 u2 t0 t1 t2
   unfold Oper.wp
   go_simp
   exact hK _ _ rfl hR (fun _ _ h => h)
  ·cases ho
   have e0 : a'.tmps.getD 109 undef = .pointer (some ⟨w.heap.size, 4, none⟩) := hdep 7 (by kernel_rfl)
   have e0' := gd_ e0
   clear mk0 mk1 mk2 mk3 mk5 rr0 rr1 rr2 rr3 u0 u1 u2 t0 t1 t2
   unfold Oper.wp
   go_simp
   exact hK _ _ rfl hR (fun _ _ h => h)
  ·cases ho
   have e0 : a'.tmps.getD 110 undef = .string r := hdep 8 (by kernel_rfl)
   have e0' := gd_ e0
   clear mk0 mk1 mk2 mk3 mk4 mk5 rr0 rr1 rr2 rr3 u0 u1 u2 t0 t1 t2
   unfold Oper.wp
   go_simp
   exact hK _ _ rfl hR (fun _ _ h => h)
  ·cases ho
   have e0 : a'.tmps.getD 4 undef = .pointer (some ⟨w.heap.size + 1, 0, none⟩) := hslot 4 (by decide)
   clear mk0 mk1 mk2 mk3 mk4 mk5 u0 u1 u2 t0 t1 t2
   unfold Oper.wp
   go_simp
   exact hK _ _ rfl hR (fun _ _ h => h)
  ·cases ho
   have e0 : a'.tmps.getD 112 undef = .agg #[.int .i64 d.op, .int .i64 d.n, .slice d.so d.sl d.sc, .slice d.lo d.ll d.lc] := hdep 10 (by kernel_rfl)
   have e0' := gd_ e0
   clear mk0 mk1 mk2 mk3 mk4 mk5 rr0 rr1 rr2 rr3 u0 u1 u2 t0 t1 t2
   unfold Oper.wp
   go_simp
   refine (CK 1 (by decide) w' hR).mono ?_
   rintro e w9 ⟨⟨r9, y9, rfl, h9⟩, b9⟩
   exact hK _ _ ⟨r9, y9, rfl, h9⟩ (hR.trans (b9.mono hR.size)) (SpM.up b9)
  ·cases ho
   have e0 : a'.tmps.getD 107 undef = .agg #[.slice ko s.ks.length kc, .slice ao s.ac.length acp, .string p, .string ac, .string r, .int .i64 dp] := hdep 5 (by kernel_rfl)
   have e0' := gd_ e0
   have e1 : a'.tmps.getD 111 undef = .agg #[.int .i64 5, .int .i64 4, .string r] := hdep 9 (by kernel_rfl)
   have e1' := gd_ e1
   obtain ⟨r2, x2, e2, hx2⟩ : (rawP).p (a'.tmps.getD 113 undef) w' := hdep 11 (by kernel_rfl)
   have e2' := gd_ e2
   have Hhx2 := hide hx2
   clear hx2 mk0 mk1 mk2 mk3 mk4 mk5 rr0 rr1 rr2 rr3 u0 u1 u2 t0 t1 t2
   unfold Oper.wp
   go_simp
   refine (CO ⟨5, 4, r⟩ hgs w' hR r2 x2 (unhide Hhx2)).mono ?_
   rintro e w9 ⟨q9, rfl, b9, y9, h9⟩
   exact hK _ _ ⟨q9, y9, rfl, h9.weak hR.size (Nat.le_refl _)⟩ (hR.trans (b9.mono hR.size)) (SpM.up b9)
  ·cases ho
   obtain ⟨q0, y0, e0, hy0⟩ : (treeP w4.heap.size s p r ⟨4, 0, p⟩ n).p (a'.tmps.getD 106 undef) w' := hdep 4 (by kernel_rfl)
   have e0' := gd_ e0
   have Hhy0 := hide hy0
   obtain ⟨q1, y1, e1, hy1⟩ : (treeP w4.heap.size s p r ⟨5, 4, r⟩ n).p (a'.tmps.getD 114 undef) w' := hdep 12 (by kernel_rfl)
   have e1' := gd_ e1
   have Hhy1 := hide hy1
   clear hy0 hy1 mk0 mk1 mk2 mk3 mk4 mk5 rr0 rr1 rr2 rr3 u0 u1 u2 t0 t1 t2
   unfold Oper.wp
   go_simp
   exact hK _ _ ⟨w'.heap.size, [q0, q1], [y0, y1], _, rfl, hR.size, alloc_heap _ _, rfl, .cons ((unhide Hhy0).up (blw1 _ _)) (.cons ((unhide Hhy1).up (blw1 _ _)) .nil)⟩ (hR.alloc hR.size _) (SpM.up (blw1 _ _))
  ·cases ho
   obtain ⟨b0, qs0, es0, cs0, e0, hB0, hb0, hc0, ha0⟩ : (rowP w4.heap.size s p r [⟨4, 0, p⟩, ⟨5, 4, r⟩] n 2).p (a'.tmps.getD 115 undef) w' := hdep 13 (by kernel_rfl)
   have e0' := gd_ e0
   have HhB0 := hide hB0
   have Hhb0 := hide hb0
   have Hhc0 := hide hc0
   have Hha0 := hide ha0
   clear hB0 hb0 hc0 ha0 mk0 mk1 mk2 mk3 mk4 mk5 rr0 rr1 rr2 rr3 u0 u1 u2 t0 t1 t2
   unfold Oper.wp
   go_simp
   exact hK _ _ ⟨⟨22, false, 0, ⟨#[]⟩, ⟨#[]⟩, ⟨#[]⟩, some ⟨b0, 0, none⟩, 2, 2⟩, .mk 22 false 0 [] [] [] es0, rfl, made_node (sx := []) (unhide Hhb0) (unhide Hhc0) (unhide HhB0) (unhide Hha0) rfl (by decide) (fun _ => rfl) (by simp) (unhide HT)⟩ hR (fun _ _ h => h)
 ·intro v w' hR hall
  have f0 : v 0 = .agg #[.slice ko s.ks.length kc, .slice ao s.ac.length acp, .string p, .string ac, .string r, .int .i64 dp] := hall 0 (by decide)
  have f1 : v 1 = .agg #[.int .i64 4, .int .i64 0, .string p] := hall 1 (by decide)
  have f2 : v 2 = .agg #[.int .i64 d.op, .int .i64 d.n, .slice d.so d.sl d.sc, .slice d.lo d.ll d.lc] := hall 2 (by decide)
  have f5 : v 5 = .agg #[.slice ko s.ks.length kc, .slice ao s.ac.length acp, .string p, .string ac, .string r, .int .i64 dp] := hall 5 (by decide)
  have f6 : v 6 = .pointer (some ⟨w.heap.size, 2, none⟩) := hall 6 (by decide)
  have f7 : v 7 = .pointer (some ⟨w.heap.size, 4, none⟩) := hall 7 (by decide)
  have f8 : v 8 = .string r := hall 8 (by decide)
  have f9 : v 9 = .agg #[.int .i64 5, .int .i64 4, .string r] := hall 9 (by decide)
  have f10 : v 10 = .agg #[.int .i64 d.op, .int .i64 d.n, .slice d.so d.sl d.sc, .slice d.lo d.ll d.lc] := hall 10 (by decide)
  obtain ⟨qZ, yZ, eZ, hyZ⟩ : (treeP w4.heap.size s p r ⟨1, 0, ⟨#[]⟩⟩ (n + 1)).p (v 14) w' := hall 14 (by decide)
  have f14 : v 14 = .agg #[.int .i64 qZ.k, .bool qZ.b, .int .i64 qZ.n, .string qZ.s, .string qZ.t, .string qZ.i, .slice qZ.lo qZ.ll qZ.lc] := eZ
  clear eZ
  have HhyZ := hide hyZ
  clear hyZ
  clear hall
  simp only [putAll, dstOf, List.getElem?_cons_zero, List.getElem?_cons_succ, Option.bind_some, List.drop_succ_cons, List.drop_zero, f0, f1, f2, f5, f6, f7, f8, f9, f10, f14]
  clear f0 f1 f2 f5 f6 f7 f8 f9 f10 f14
  simp only [Act.put, List.setIfInBounds_toArray, List.set_cons_succ, List.set_cons_zero]
  generalize v 3 = vv3
  generalize v 4 = vv4
  generalize v 11 = vv11
  generalize v 12 = vv12
  generalize v 13 = vv13
  have hV := kept_of_below hR k3
  have b0 := bX.trans (hR.mono bX.size)
  obtain ⟨y0, y1, y2, y3, y4, y5, y6, yf⟩ := blk7 hV
  have HB := hide (And.intro b0 hVlt)
  have hw4 : w.heap.size ≤ w4.heap.size := bX.size
  clear hV b0 CK CO hg1 hg2 hg3 hgp hgr hgs hgt ht5
  go_wp2
  exact bodyPost_ret (v := .agg #[.int .i64 qZ.k, .bool qZ.b, .int .i64 qZ.n, .string qZ.s, .string qZ.t, .string qZ.i, .slice qZ.lo qZ.ll qZ.lc]) (by simp [results, Try.results60, go_sem, y0, y1, y2, y3, y4, y5, y6]) rfl ⟨qZ, rfl, set7S_below (unhide HB).1 (Nat.le_add_right _ 2) _ _ _ _ _ _ _, yZ, ((unhide HhyZ).keep (w' := set7S _ _ _ _ _ _ _ _ _) (by rw [set7S_size]; exact Nat.le_refl _) (fun b hB _ => set7S_heap _ _ _ _ _ _ _ _ _ _ (by have := (unhide HB).2; omega))).weak hw4 (Nat.le_refl _)⟩
end Go.Proofs.Ytagnbpobcijakaa

namespace Go.Proofs.Ytagnbpobcijakaa
open Go.RowKit Go.Sort

set_option maxHeartbeats 8000000 in
set_option maxRecDepth 1000000 in
theorem truth11_10 (s : SP) (ko ao : Option Addr) (kc acp : Nat) (p ac r : ByteArray) (dp : Int) (n : Nat) (d : R4) (x : Rw) (w : World) (hp : isKn s p) (hr : isKn s r) (hx : IsR w d x) (COF : ∀ (w' : World) (t : T3) (d : R4) (x : Rw), Below w.heap.size w w' → GTy s t → IsR w' d x → Calls Try.prog 14 #[.agg #[.slice ko s.ks.length kc, .slice ao s.ac.length acp, .string p, .string ac, .string r, .int .i64 dp], .agg #[.int .i64 t.k, .int .i64 t.o, .string t.n], .agg #[.int .i64 d.op, .int .i64 d.n, .slice d.so d.sl d.sc, .slice d.lo d.ll d.lc]] w' fun e w9 => MakesT s p r t n w' e w9) : Calls Try.prog 60 #[.agg #[.slice ko s.ks.length kc, .slice ao s.ac.length acp, .string p, .string ac, .string r, .int .i64 dp], .agg #[.int .i64 d.op, .int .i64 d.n, .slice d.so d.sl d.sc, .slice d.lo d.ll d.lc], .int .i64 10] w fun e w' => MakesT s p r ⟨1, 0, ⟨#[]⟩⟩ (n + 1) w e w' := by
 obtain ⟨bX, zX, k1, k2, k3⟩ := alloc3 w (.cells #[.slice ko s.ks.length kc, .slice ao s.ac.length acp, .string p, .string ac, .string r, .int .i64 dp] 52) (.cells #[.int .i64 d.op, .int .i64 d.n, .slice d.so d.sl d.sc, .slice d.lo d.ll d.lc] 49) (.cells #[.int .i64 0, .bool false, .int .i64 0, .string ⟨#[]⟩, .string ⟨#[]⟩, .string ⟨#[]⟩, .slice none 0 0] 39)
 have HX := hide hx
 have CS := fun w' => some11_any s ko ao kc acp p ac r dp d.n w' hp hr
 have hg1 : GTy s ⟨1, 0, ⟨#[]⟩⟩ := .inl ⟨.inl rfl, rfl, rfl⟩
 have hg2 : GTy s ⟨2, 0, ⟨#[]⟩⟩ := .inl ⟨.inr (.inl rfl), rfl, rfl⟩
 have hg3 : GTy s ⟨3, 0, ⟨#[]⟩⟩ := .inl ⟨.inr (.inr rfl), rfl, rfl⟩
 have hgp : GTy s ⟨4, 0, p⟩ := .inr (.inl ⟨rfl, rfl, hp⟩)
 have hgr : GTy s ⟨4, 0, r⟩ := .inr (.inl ⟨rfl, rfl, hr⟩)
 have hgs : GTy s ⟨5, 4, r⟩ := .inr (.inr ⟨rfl, .inr ⟨rfl, hr⟩⟩)
 clear hx hp hr
 go_enter Try.func60, Try.ntmps60
 go_upto_region 1 with fail
 generalize ((w.alloc _).alloc _).alloc _ = w1 at *
 clear zX
 have mk2 : w1.cell? ⟨w.heap.size, 2, none⟩ = some (.string p) := lc_ k1 rfl
 have b2 := blw1 w1 (.cells #[.int .i64 4, .int .i64 0, .string p] 54)
 have k4 := alloc_heap w1 (.cells #[.int .i64 4, .int .i64 0, .string p] 54)
 go_upto_region 2 with fail
 clear mk2
 have bX := bX.trans (b2.mono bX.size)
 have k1 := kept_of_below b2 k1
 have k2 := kept_of_below b2 k2
 have k3 := kept_of_below b2 k3
 generalize w1.alloc _ = w2 at *
 obtain ⟨mk0, mk1, mk2, mk3, mk4, mk5⟩ := bl6_ k1
 obtain ⟨rr0, rr1, rr2, rr3⟩ := bl4_ k2
 have CS := CS w2
 go_wp2_with fail
 refine CS.mono ?_
 clear CS mk0 mk1 mk2 mk3 mk4 mk5 rr0 rr1 rr2 rr3
 rintro e9 w3 ⟨⟨tk, to_, tn⟩, rfl, b3, hgt, ht5⟩
 have b4 := blw1 w3 (.cells #[.int .i64 tk, .int .i64 to_, .string tn] 54)
 have k5 := alloc_heap w3 (.cells #[.int .i64 tk, .int .i64 to_, .string tn] 54)
 go_upto_region 3 with fail
 have B4 := b3.trans (b4.mono b3.size)
 have bX := bX.trans (B4.mono bX.size)
 have k1 := kept_of_below B4 k1
 have k2 := kept_of_below B4 k2
 have k3 := kept_of_below B4 k3
 have k4 := kept_of_below B4 k4
 generalize w3.alloc _ = w4 at *
 have hVlt : w.heap.size + 2 < w4.heap.size := (Array.getElem?_eq_some_iff.1 k3).1
 have CK := fun (i : Int) (h1 : 0 ≤ i ∧ i ≤ 10) w' (hb : Below w4.heap.size w4 w') => kid11_any d x i w' h1 (IsR.below (bX.trans (hb.mono bX.size)) d x (unhide HX))
 have CO := fun (t : T3) (ht : GTy s t) w' (hb : Below w4.heap.size w4 w') (d' : R4) (x' : Rw) (hx' : IsR w' d' x') => COF w' t d' x' (bX.trans (hb.mono bX.size)) ht hx'
 clear COF B4 b3 b4
 have hgst : GTy s ⟨5, tk, tn⟩ := by
  rcases hgt with ⟨h1, _, h3⟩ | ⟨h1, _, h3⟩ | ⟨h1, _⟩
  ·exact .inr (.inr ⟨rfl, .inl ⟨h1, h3⟩⟩)
  ·exact .inr (.inr ⟨rfl, .inr ⟨h1, h3⟩⟩)
  ·exact absurd h1 ht5
 have h0 : to_ = 0 := by
  rcases hgt with ⟨_, h2, _⟩ | ⟨_, h2, _⟩ | ⟨h1, _⟩
  ·exact h2
  ·exact h2
  ·exact absurd h1 ht5
 have HT := hide (show nodeT s p r 9 (ba []) (ba []) (ba []) [⟨5, tk, tn⟩, ⟨tk, to_, tn⟩] = (⟨1, 0, ⟨#[]⟩⟩, 0) from by
  show whereT (decide ((5 : Int) = 5) && decide ((⟨tk, to_, tn⟩ : T3) = ⟨tk, 0, tn⟩)) 1 = _
  rw [h0, decide_eq_true rfl, decide_eq_true rfl]
  rfl)
 clear h0
 go_upto_region 17 with fail
 refine wp_specs_put 16 (SpM [.eq (.agg #[.slice ko s.ks.length kc, .slice ao s.ac.length acp, .string p, .string ac, .string r, .int .i64 dp]), .eq (.pointer (some ⟨w3.heap.size, 0, none⟩)), .eq (.int .i64 tk), .eq (.pointer (some ⟨w3.heap.size, 2, none⟩)), .eq (.string tn), .eq (.agg #[.int .i64 5, .int .i64 tk, .string tn]), .eq (.agg #[.int .i64 d.op, .int .i64 d.n, .slice d.so d.sl d.sc, .slice d.lo d.ll d.lc]), .up (rawP), .up (treeP w4.heap.size s p r ⟨5, tk, tn⟩ n), .eq (.agg #[.slice ko s.ks.length kc, .slice ao s.ac.length acp, .string p, .string ac, .string r, .int .i64 dp]), .eq (.agg #[.int .i64 tk, .int .i64 to_, .string tn]), .eq (.agg #[.int .i64 d.op, .int .i64 d.n, .slice d.so d.sl d.sc, .slice d.lo d.ll d.lc]), .up (rawP), .up (treeP w4.heap.size s p r ⟨tk, to_, tn⟩ n), .up (rowP w4.heap.size s p r [⟨5, tk, tn⟩, ⟨tk, to_, tn⟩] n 2), .up (treeP w4.heap.size s p r ⟨1, 0, ⟨#[]⟩⟩ (n + 1))]) (fun w' => Below w4.heap.size w4 w') (by kernel_rfl) (by kernel_rfl) (Below.refl _ w4).drew ?_ ?_
 ·intro q o hq' ho a' w' hR hdep hslot K hK
  have m1 := kept_of_below hR k1
  have m2 := kept_of_below hR k2
  have m4 := kept_of_below hR k4
  have m5 := kept_of_below hR k5
  obtain ⟨mk0, mk1, mk2, mk3, mk4, mk5⟩ := bl6_ m1
  obtain ⟨rr0, rr1, rr2, rr3⟩ := bl4_ m2
  obtain ⟨u0, u1, u2⟩ := bl3_ m4
  obtain ⟨t0, t1, t2⟩ := bl3_ m5
  clear m1 m2 m4 m5
  have hc : q = 0 ∨ q = 1 ∨ q = 2 ∨ q = 3 ∨ q = 4 ∨ q = 5 ∨ q = 6 ∨ q = 7 ∨ q = 8 ∨ q = 9 ∨ q = 10 ∨ q = 11 ∨ q = 12 ∨ q = 13 ∨ q = 14 ∨ q = 15 := by omega
  rcases hc with rfl | rfl | rfl | rfl | rfl | rfl | rfl | rfl | rfl | rfl | rfl | rfl | rfl | rfl | rfl | rfl
  ·cases ho
   have e0 : a'.tmps.getD 3 undef = .pointer (some ⟨w.heap.size, 0, none⟩) := hslot 3 (by decide)
   clear rr0 rr1 rr2 rr3 u0 u1 u2 t0 t1 t2
   unfold Oper.wp
   go_simp
   exact hK _ _ rfl hR (fun _ _ h => h)
  ·cases ho
   have e0 : a'.tmps.getD 8 undef = .pointer (some ⟨w3.heap.size, 0, none⟩) := hslot 8 (by decide)
   clear mk0 mk1 mk2 mk3 mk4 mk5 rr0 rr1 rr2 rr3 u0 u1 u2 t0 t1 t2
   unfold Oper.wp
   go_simp
   exact hK _ _ rfl hR (fun _ _ h => h)
  ·cases ho
   have e0 : a'.tmps.getD 120 undef = .pointer (some ⟨w3.heap.size, 0, none⟩) := hdep 1 (by kernel_rfl)
   have e0' := gd_ e0
   clear mk0 mk1 mk2 mk3 mk4 mk5 rr0 rr1 rr2 rr3 u0 u1 u2 t1 t2
   unfold Oper.wp
   go_simp
   exact hK _ _ rfl hR (fun _ _ h => h)
  ·cases ho
   have e0 : a'.tmps.getD 8 undef = .pointer (some ⟨w3.heap.size, 0, none⟩) := hslot 8 (by decide)
   clear mk0 mk1 mk2 mk3 mk4 mk5 rr0 rr1 rr2 rr3 u0 u1 u2 t0 t1 t2
   unfold Oper.wp
   go_simp
   exact hK _ _ rfl hR (fun _ _ h => h)
  ·cases ho
   have e0 : a'.tmps.getD 122 undef = .pointer (some ⟨w3.heap.size, 2, none⟩) := hdep 3 (by kernel_rfl)
   have e0' := gd_ e0
   clear mk0 mk1 mk2 mk3 mk4 mk5 rr0 rr1 rr2 rr3 u0 u1 u2 t0 t1
   unfold Oper.wp
   go_simp
   exact hK _ _ rfl hR (fun _ _ h => h)
  ·cases ho
   have e0 : a'.tmps.getD 121 undef = .int .i64 tk := hdep 2 (by kernel_rfl)
   have e0' := gd_ e0
   have e1 : a'.tmps.getD 123 undef = .string tn := hdep 4 (by kernel_rfl)
   have e1' := gd_ e1
   clear mk0 mk1 mk2 mk3 mk4 mk5 rr0 rr1 rr2 rr3 u0 u1 u2 t0 t1 t2
   unfold Oper.wp
   go_simp
   exact hK _ _ rfl hR (fun _ _ h => h)
  ·cases ho
   have e0 : a'.tmps.getD 4 undef = .pointer (some ⟨w.heap.size + 1, 0, none⟩) := hslot 4 (by decide)
   clear mk0 mk1 mk2 mk3 mk4 mk5 u0 u1 u2 t0 t1 t2
   unfold Oper.wp
   go_simp
   exact hK _ _ rfl hR (fun _ _ h => h)
  ·cases ho
   have e0 : a'.tmps.getD 125 undef = .agg #[.int .i64 d.op, .int .i64 d.n, .slice d.so d.sl d.sc, .slice d.lo d.ll d.lc] := hdep 6 (by kernel_rfl)
   have e0' := gd_ e0
   clear mk0 mk1 mk2 mk3 mk4 mk5 rr0 rr1 rr2 rr3 u0 u1 u2 t0 t1 t2
   unfold Oper.wp
   go_simp
   refine (CK 0 (by decide) w' hR).mono ?_
   rintro e w9 ⟨⟨r9, y9, rfl, h9⟩, b9⟩
   exact hK _ _ ⟨r9, y9, rfl, h9⟩ (hR.trans (b9.mono hR.size)) (SpM.up b9)
  ·cases ho
   have e0 : a'.tmps.getD 119 undef = .agg #[.slice ko s.ks.length kc, .slice ao s.ac.length acp, .string p, .string ac, .string r, .int .i64 dp] := hdep 0 (by kernel_rfl)
   have e0' := gd_ e0
   have e1 : a'.tmps.getD 124 undef = .agg #[.int .i64 5, .int .i64 tk, .string tn] := hdep 5 (by kernel_rfl)
   have e1' := gd_ e1
   obtain ⟨r2, x2, e2, hx2⟩ : (rawP).p (a'.tmps.getD 126 undef) w' := hdep 7 (by kernel_rfl)
   have e2' := gd_ e2
   have Hhx2 := hide hx2
   clear hx2 mk0 mk1 mk2 mk3 mk4 mk5 rr0 rr1 rr2 rr3 u0 u1 u2 t0 t1 t2
   unfold Oper.wp
   go_simp
   refine (CO ⟨5, tk, tn⟩ hgst w' hR r2 x2 (unhide Hhx2)).mono ?_
   rintro e w9 ⟨q9, rfl, b9, y9, h9⟩
   exact hK _ _ ⟨q9, y9, rfl, h9.weak hR.size (Nat.le_refl _)⟩ (hR.trans (b9.mono hR.size)) (SpM.up b9)
  ·cases ho
   have e0 : a'.tmps.getD 3 undef = .pointer (some ⟨w.heap.size, 0, none⟩) := hslot 3 (by decide)
   clear rr0 rr1 rr2 rr3 u0 u1 u2 t0 t1 t2
   unfold Oper.wp
   go_simp
   exact hK _ _ rfl hR (fun _ _ h => h)
  ·cases ho
   have e0 : a'.tmps.getD 8 undef = .pointer (some ⟨w3.heap.size, 0, none⟩) := hslot 8 (by decide)
   clear mk0 mk1 mk2 mk3 mk4 mk5 rr0 rr1 rr2 rr3 u0 u1 u2
   unfold Oper.wp
   go_simp
   exact hK _ _ rfl hR (fun _ _ h => h)
  ·cases ho
   have e0 : a'.tmps.getD 4 undef = .pointer (some ⟨w.heap.size + 1, 0, none⟩) := hslot 4 (by decide)
   clear mk0 mk1 mk2 mk3 mk4 mk5 u0 u1 u2 t0 t1 t2
   unfold Oper.wp
   go_simp
   exact hK _ _ rfl hR (fun _ _ h => h)
  ·cases ho
   have e0 : a'.tmps.getD 130 undef = .agg #[.int .i64 d.op, .int .i64 d.n, .slice d.so d.sl d.sc, .slice d.lo d.ll d.lc] := hdep 11 (by kernel_rfl)
   have e0' := gd_ e0
   clear mk0 mk1 mk2 mk3 mk4 mk5 rr0 rr1 rr2 rr3 u0 u1 u2 t0 t1 t2
   unfold Oper.wp
   go_simp
   refine (CK 1 (by decide) w' hR).mono ?_
   rintro e w9 ⟨⟨r9, y9, rfl, h9⟩, b9⟩
   exact hK _ _ ⟨r9, y9, rfl, h9⟩ (hR.trans (b9.mono hR.size)) (SpM.up b9)
  ·cases ho
   have e0 : a'.tmps.getD 128 undef = .agg #[.slice ko s.ks.length kc, .slice ao s.ac.length acp, .string p, .string ac, .string r, .int .i64 dp] := hdep 9 (by kernel_rfl)
   have e0' := gd_ e0
   have e1 : a'.tmps.getD 129 undef = .agg #[.int .i64 tk, .int .i64 to_, .string tn] := hdep 10 (by kernel_rfl)
   have e1' := gd_ e1
   obtain ⟨r2, x2, e2, hx2⟩ : (rawP).p (a'.tmps.getD 131 undef) w' := hdep 12 (by kernel_rfl)
   have e2' := gd_ e2
   have Hhx2 := hide hx2
   clear hx2 mk0 mk1 mk2 mk3 mk4 mk5 rr0 rr1 rr2 rr3 u0 u1 u2 t0 t1 t2
   unfold Oper.wp
   go_simp
   refine (CO ⟨tk, to_, tn⟩ hgt w' hR r2 x2 (unhide Hhx2)).mono ?_
   rintro e w9 ⟨q9, rfl, b9, y9, h9⟩
   exact hK _ _ ⟨q9, y9, rfl, h9.weak hR.size (Nat.le_refl _)⟩ (hR.trans (b9.mono hR.size)) (SpM.up b9)
  ·cases ho
   obtain ⟨q0, y0, e0, hy0⟩ : (treeP w4.heap.size s p r ⟨5, tk, tn⟩ n).p (a'.tmps.getD 127 undef) w' := hdep 8 (by kernel_rfl)
   have e0' := gd_ e0
   have Hhy0 := hide hy0
   obtain ⟨q1, y1, e1, hy1⟩ : (treeP w4.heap.size s p r ⟨tk, to_, tn⟩ n).p (a'.tmps.getD 132 undef) w' := hdep 13 (by kernel_rfl)
   have e1' := gd_ e1
   have Hhy1 := hide hy1
   clear hy0 hy1 mk0 mk1 mk2 mk3 mk4 mk5 rr0 rr1 rr2 rr3 u0 u1 u2 t0 t1 t2
   unfold Oper.wp
   go_simp
   exact hK _ _ ⟨w'.heap.size, [q0, q1], [y0, y1], _, rfl, hR.size, alloc_heap _ _, rfl, .cons ((unhide Hhy0).up (blw1 _ _)) (.cons ((unhide Hhy1).up (blw1 _ _)) .nil)⟩ (hR.alloc hR.size _) (SpM.up (blw1 _ _))
  ·cases ho
   obtain ⟨b0, qs0, es0, cs0, e0, hB0, hb0, hc0, ha0⟩ : (rowP w4.heap.size s p r [⟨5, tk, tn⟩, ⟨tk, to_, tn⟩] n 2).p (a'.tmps.getD 133 undef) w' := hdep 14 (by kernel_rfl)
   have e0' := gd_ e0
   have HhB0 := hide hB0
   have Hhb0 := hide hb0
   have Hhc0 := hide hc0
   have Hha0 := hide ha0
   clear hB0 hb0 hc0 ha0 mk0 mk1 mk2 mk3 mk4 mk5 rr0 rr1 rr2 rr3 u0 u1 u2 t0 t1 t2
   unfold Oper.wp
   go_simp
   exact hK _ _ ⟨⟨9, false, 0, ⟨#[]⟩, ⟨#[]⟩, ⟨#[]⟩, some ⟨b0, 0, none⟩, 2, 2⟩, .mk 9 false 0 [] [] [] es0, rfl, made_node (sx := []) (unhide Hhb0) (unhide Hhc0) (unhide HhB0) (unhide Hha0) rfl (by decide) (fun _ => rfl) (by simp) (unhide HT)⟩ hR (fun _ _ h => h)
 ·intro v w' hR hall
  have f0 : v 0 = .agg #[.slice ko s.ks.length kc, .slice ao s.ac.length acp, .string p, .string ac, .string r, .int .i64 dp] := hall 0 (by decide)
  have f1 : v 1 = .pointer (some ⟨w3.heap.size, 0, none⟩) := hall 1 (by decide)
  have f2 : v 2 = .int .i64 tk := hall 2 (by decide)
  have f3 : v 3 = .pointer (some ⟨w3.heap.size, 2, none⟩) := hall 3 (by decide)
  have f4 : v 4 = .string tn := hall 4 (by decide)
  have f5 : v 5 = .agg #[.int .i64 5, .int .i64 tk, .string tn] := hall 5 (by decide)
  have f6 : v 6 = .agg #[.int .i64 d.op, .int .i64 d.n, .slice d.so d.sl d.sc, .slice d.lo d.ll d.lc] := hall 6 (by decide)
  have f9 : v 9 = .agg #[.slice ko s.ks.length kc, .slice ao s.ac.length acp, .string p, .string ac, .string r, .int .i64 dp] := hall 9 (by decide)
  have f10 : v 10 = .agg #[.int .i64 tk, .int .i64 to_, .string tn] := hall 10 (by decide)
  have f11 : v 11 = .agg #[.int .i64 d.op, .int .i64 d.n, .slice d.so d.sl d.sc, .slice d.lo d.ll d.lc] := hall 11 (by decide)
  obtain ⟨qZ, yZ, eZ, hyZ⟩ : (treeP w4.heap.size s p r ⟨1, 0, ⟨#[]⟩⟩ (n + 1)).p (v 15) w' := hall 15 (by decide)
  have f15 : v 15 = .agg #[.int .i64 qZ.k, .bool qZ.b, .int .i64 qZ.n, .string qZ.s, .string qZ.t, .string qZ.i, .slice qZ.lo qZ.ll qZ.lc] := eZ
  clear eZ
  have HhyZ := hide hyZ
  clear hyZ
  clear hall
  simp only [putAll, dstOf, List.getElem?_cons_zero, List.getElem?_cons_succ, Option.bind_some, List.drop_succ_cons, List.drop_zero, f0, f1, f2, f3, f4, f5, f6, f9, f10, f11, f15]
  clear f0 f1 f2 f3 f4 f5 f6 f9 f10 f11 f15
  simp only [Act.put, List.setIfInBounds_toArray, List.set_cons_succ, List.set_cons_zero]
  generalize v 7 = vv7
  generalize v 8 = vv8
  generalize v 12 = vv12
  generalize v 13 = vv13
  generalize v 14 = vv14
  have hV := kept_of_below hR k3
  have b0 := bX.trans (hR.mono bX.size)
  obtain ⟨y0, y1, y2, y3, y4, y5, y6, yf⟩ := blk7 hV
  have HB := hide (And.intro b0 hVlt)
  have hw4 : w.heap.size ≤ w4.heap.size := bX.size
  clear hV b0 CK CO hg1 hg2 hg3 hgp hgr hgs hgt ht5 hgst
  go_wp2
  exact bodyPost_ret (v := .agg #[.int .i64 qZ.k, .bool qZ.b, .int .i64 qZ.n, .string qZ.s, .string qZ.t, .string qZ.i, .slice qZ.lo qZ.ll qZ.lc]) (by simp [results, Try.results60, go_sem, y0, y1, y2, y3, y4, y5, y6]) rfl ⟨qZ, rfl, set7S_below (unhide HB).1 (Nat.le_add_right _ 2) _ _ _ _ _ _ _, yZ, ((unhide HhyZ).keep (w' := set7S _ _ _ _ _ _ _ _ _) (by rw [set7S_size]; exact Nat.le_refl _) (fun b hB _ => set7S_heap _ _ _ _ _ _ _ _ _ _ (by have := (unhide HB).2; omega))).weak hw4 (Nat.le_refl _)⟩
end Go.Proofs.Ytagnbpobcijakaa

namespace Go.Proofs.Ytagnbpobcijakaa
open Go.RowKit Go.Sort

set_option maxHeartbeats 8000000 in
set_option maxRecDepth 1000000 in
theorem truth11_like (s : SP) (ko ao : Option Addr) (kc acp : Nat) (p ac r : ByteArray) (dp : Int) (n : Nat) (d : R4) (x : Rw) (wv : Int) (g4 : (wv == 4) = false) (g5 : (wv == 5) = false) (g6 : (wv == 6) = false) (g7 : (wv == 7) = false) (g8 : (wv == 8) = false) (g9 : (wv == 9) = false) (g10 : (wv == 10) = false) (hz : (d.n.tmod 2 == 0) = true) (w : World) (hp : isKn s p) (hr : isKn s r) (hx : IsR w d x) (COF : ∀ (w' : World) (t : T3) (d : R4) (x : Rw), Below w.heap.size w w' → GTy s t → IsR w' d x → Calls Try.prog 14 #[.agg #[.slice ko s.ks.length kc, .slice ao s.ac.length acp, .string p, .string ac, .string r, .int .i64 dp], .agg #[.int .i64 t.k, .int .i64 t.o, .string t.n], .agg #[.int .i64 d.op, .int .i64 d.n, .slice d.so d.sl d.sc, .slice d.lo d.ll d.lc]] w' fun e w9 => MakesT s p r t n w' e w9) : Calls Try.prog 60 #[.agg #[.slice ko s.ks.length kc, .slice ao s.ac.length acp, .string p, .string ac, .string r, .int .i64 dp], .agg #[.int .i64 d.op, .int .i64 d.n, .slice d.so d.sl d.sc, .slice d.lo d.ll d.lc], .int .i64 wv] w fun e w' => MakesT s p r ⟨1, 0, ⟨#[]⟩⟩ (n + 1) w e w' := by
 obtain ⟨bX, zX, k1, k2, k3⟩ := alloc3 w (.cells #[.slice ko s.ks.length kc, .slice ao s.ac.length acp, .string p, .string ac, .string r, .int .i64 dp] 52) (.cells #[.int .i64 d.op, .int .i64 d.n, .slice d.so d.sl d.sc, .slice d.lo d.ll d.lc] 49) (.cells #[.int .i64 0, .bool false, .int .i64 0, .string ⟨#[]⟩, .string ⟨#[]⟩, .string ⟨#[]⟩, .slice none 0 0] 39)
 have HX := hide hx
 have CS := fun w' => some11_any s ko ao kc acp p ac r dp d.n w' hp hr
 have hg1 : GTy s ⟨1, 0, ⟨#[]⟩⟩ := .inl ⟨.inl rfl, rfl, rfl⟩
 have hg2 : GTy s ⟨2, 0, ⟨#[]⟩⟩ := .inl ⟨.inr (.inl rfl), rfl, rfl⟩
 have hg3 : GTy s ⟨3, 0, ⟨#[]⟩⟩ := .inl ⟨.inr (.inr rfl), rfl, rfl⟩
 have hgp : GTy s ⟨4, 0, p⟩ := .inr (.inl ⟨rfl, rfl, hp⟩)
 have hgr : GTy s ⟨4, 0, r⟩ := .inr (.inl ⟨rfl, rfl, hr⟩)
 have hgs : GTy s ⟨5, 4, r⟩ := .inr (.inr ⟨rfl, .inr ⟨rfl, hr⟩⟩)
 clear hx hp hr
 go_enter Try.func60, Try.ntmps60
 go_upto_region 1 with fail
 generalize ((w.alloc _).alloc _).alloc _ = w1 at *
 clear zX
 have mk2 : w1.cell? ⟨w.heap.size, 2, none⟩ = some (.string p) := lc_ k1 rfl
 have b2 := blw1 w1 (.cells #[.int .i64 4, .int .i64 0, .string p] 54)
 have k4 := alloc_heap w1 (.cells #[.int .i64 4, .int .i64 0, .string p] 54)
 go_upto_region 2 with fail
 clear mk2
 have bX := bX.trans (b2.mono bX.size)
 have k1 := kept_of_below b2 k1
 have k2 := kept_of_below b2 k2
 have k3 := kept_of_below b2 k3
 generalize w1.alloc _ = w2 at *
 obtain ⟨mk0, mk1, mk2, mk3, mk4, mk5⟩ := bl6_ k1
 obtain ⟨rr0, rr1, rr2, rr3⟩ := bl4_ k2
 have CS := CS w2
 go_wp2_with fail
 refine CS.mono ?_
 clear CS mk0 mk1 mk2 mk3 mk4 mk5 rr0 rr1 rr2 rr3
 rintro e9 w3 ⟨⟨tk, to_, tn⟩, rfl, b3, hgt, ht5⟩
 have b4 := blw1 w3 (.cells #[.int .i64 tk, .int .i64 to_, .string tn] 54)
 have k5 := alloc_heap w3 (.cells #[.int .i64 tk, .int .i64 to_, .string tn] 54)
 go_upto_region 3 with fail
 have B4 := b3.trans (b4.mono b3.size)
 have bX := bX.trans (B4.mono bX.size)
 have k1 := kept_of_below B4 k1
 have k2 := kept_of_below B4 k2
 have k3 := kept_of_below B4 k3
 have k4 := kept_of_below B4 k4
 generalize w3.alloc _ = w4 at *
 have hVlt : w.heap.size + 2 < w4.heap.size := (Array.getElem?_eq_some_iff.1 k3).1
 have CK := fun (i : Int) (h1 : 0 ≤ i ∧ i ≤ 10) w' (hb : Below w4.heap.size w4 w') => kid11_any d x i w' h1 (IsR.below (bX.trans (hb.mono bX.size)) d x (unhide HX))
 have CO := fun (t : T3) (ht : GTy s t) w' (hb : Below w4.heap.size w4 w') (d' : R4) (x' : Rw) (hx' : IsR w' d' x') => COF w' t d' x' (bX.trans (hb.mono bX.size)) ht hx'
 clear COF B4 b3 b4
 have HT := hide (show nodeT s p r 10 (ba [97, 42]) (ba []) (ba []) [⟨3, 0, ⟨#[]⟩⟩] = (⟨1, 0, ⟨#[]⟩⟩, 0) from rfl)
 obtain ⟨mk0, mk1, mk2, mk3, mk4, mk5⟩ := bl6_ k1
 obtain ⟨rr0, rr1, rr2, rr3⟩ := bl4_ k2
 go_upto_region 19 with fail
 clear mk0 mk1 mk2 mk3 mk4 mk5 rr0 rr1 rr2 rr3
 refine wp_specs_put 7 (SpM [.eq (.agg #[.slice ko s.ks.length kc, .slice ao s.ac.length acp, .string p, .string ac, .string r, .int .i64 dp]), .eq (.agg #[.int .i64 3, .int .i64 0, .string ⟨#[]⟩]), .eq (.agg #[.int .i64 d.op, .int .i64 d.n, .slice d.so d.sl d.sc, .slice d.lo d.ll d.lc]), .up (rawP), .up (treeP w4.heap.size s p r ⟨3, 0, ⟨#[]⟩⟩ n), .up (rowP w4.heap.size s p r [⟨3, 0, ⟨#[]⟩⟩] n 1), .up (treeP w4.heap.size s p r ⟨1, 0, ⟨#[]⟩⟩ (n + 1))]) (fun w' => Below w4.heap.size w4 w') (by kernel_rfl) (by kernel_rfl) (Below.refl _ w4).drew ?_ ?_
 ·intro q o hq' ho a' w' hR hdep hslot K hK
  have m1 := kept_of_below hR k1
  have m2 := kept_of_below hR k2
  have m4 := kept_of_below hR k4
  have m5 := kept_of_below hR k5
  obtain ⟨mk0, mk1, mk2, mk3, mk4, mk5⟩ := bl6_ m1
  obtain ⟨rr0, rr1, rr2, rr3⟩ := bl4_ m2
  obtain ⟨u0, u1, u2⟩ := bl3_ m4
  obtain ⟨t0, t1, t2⟩ := bl3_ m5
  clear m1 m2 m4 m5
  have hc : q = 0 ∨ q = 1 ∨ q = 2 ∨ q = 3 ∨ q = 4 ∨ q = 5 ∨ q = 6 := by omega
  rcases hc with rfl | rfl | rfl | rfl | rfl | rfl | rfl
  ·cases ho
   have e0 : a'.tmps.getD 3 undef = .pointer (some ⟨w.heap.size, 0, none⟩) := hslot 3 (by decide)
   clear rr0 rr1 rr2 rr3 u0 u1 u2 t0 t1 t2
   unfold Oper.wp
   go_simp
   exact hK _ _ rfl hR (fun _ _ h => h)
  ·cases ho
   clear mk0 mk1 mk2 mk3 mk4 mk5 rr0 rr1 rr2 rr3 u0 u1 u2 t0 t1 t2
   unfold Oper.wp
   go_simp
   exact hK _ _ rfl hR (fun _ _ h => h)
  ·cases ho
   have e0 : a'.tmps.getD 4 undef = .pointer (some ⟨w.heap.size + 1, 0, none⟩) := hslot 4 (by decide)
   clear mk0 mk1 mk2 mk3 mk4 mk5 u0 u1 u2 t0 t1 t2
   unfold Oper.wp
   go_simp
   exact hK _ _ rfl hR (fun _ _ h => h)
  ·cases ho
   have e0 : a'.tmps.getD 141 undef = .agg #[.int .i64 d.op, .int .i64 d.n, .slice d.so d.sl d.sc, .slice d.lo d.ll d.lc] := hdep 2 (by kernel_rfl)
   have e0' := gd_ e0
   clear mk0 mk1 mk2 mk3 mk4 mk5 rr0 rr1 rr2 rr3 u0 u1 u2 t0 t1 t2
   unfold Oper.wp
   go_simp
   refine (CK 0 (by decide) w' hR).mono ?_
   rintro e w9 ⟨⟨r9, y9, rfl, h9⟩, b9⟩
   exact hK _ _ ⟨r9, y9, rfl, h9⟩ (hR.trans (b9.mono hR.size)) (SpM.up b9)
  ·cases ho
   have e0 : a'.tmps.getD 139 undef = .agg #[.slice ko s.ks.length kc, .slice ao s.ac.length acp, .string p, .string ac, .string r, .int .i64 dp] := hdep 0 (by kernel_rfl)
   have e0' := gd_ e0
   have e1 : a'.tmps.getD 140 undef = .agg #[.int .i64 3, .int .i64 0, .string ⟨#[]⟩] := hdep 1 (by kernel_rfl)
   have e1' := gd_ e1
   obtain ⟨r2, x2, e2, hx2⟩ : (rawP).p (a'.tmps.getD 142 undef) w' := hdep 3 (by kernel_rfl)
   have e2' := gd_ e2
   have Hhx2 := hide hx2
   clear hx2 mk0 mk1 mk2 mk3 mk4 mk5 rr0 rr1 rr2 rr3 u0 u1 u2 t0 t1 t2
   unfold Oper.wp
   go_simp
   refine (CO ⟨3, 0, ⟨#[]⟩⟩ hg3 w' hR r2 x2 (unhide Hhx2)).mono ?_
   rintro e w9 ⟨q9, rfl, b9, y9, h9⟩
   exact hK _ _ ⟨q9, y9, rfl, h9.weak hR.size (Nat.le_refl _)⟩ (hR.trans (b9.mono hR.size)) (SpM.up b9)
  ·cases ho
   obtain ⟨q0, y0, e0, hy0⟩ : (treeP w4.heap.size s p r ⟨3, 0, ⟨#[]⟩⟩ n).p (a'.tmps.getD 143 undef) w' := hdep 4 (by kernel_rfl)
   have e0' := gd_ e0
   have Hhy0 := hide hy0
   clear hy0 mk0 mk1 mk2 mk3 mk4 mk5 rr0 rr1 rr2 rr3 u0 u1 u2 t0 t1 t2
   unfold Oper.wp
   go_simp
   exact hK _ _ ⟨w'.heap.size, [q0], [y0], _, rfl, hR.size, alloc_heap _ _, rfl, .cons ((unhide Hhy0).up (blw1 _ _)) .nil⟩ (hR.alloc hR.size _) (SpM.up (blw1 _ _))
  ·cases ho
   obtain ⟨b0, qs0, es0, cs0, e0, hB0, hb0, hc0, ha0⟩ : (rowP w4.heap.size s p r [⟨3, 0, ⟨#[]⟩⟩] n 1).p (a'.tmps.getD 144 undef) w' := hdep 5 (by kernel_rfl)
   have e0' := gd_ e0
   have HhB0 := hide hB0
   have Hhb0 := hide hb0
   have Hhc0 := hide hc0
   have Hha0 := hide ha0
   clear hB0 hb0 hc0 ha0 mk0 mk1 mk2 mk3 mk4 mk5 rr0 rr1 rr2 rr3 u0 u1 u2 t0 t1 t2
   unfold Oper.wp
   go_simp
   exact hK _ _ ⟨⟨10, false, 0, ⟨#[97, 42]⟩, ⟨#[]⟩, ⟨#[]⟩, some ⟨b0, 0, none⟩, 1, 1⟩, .mk 10 false 0 [97, 42] [] [] es0, rfl, made_node (sx := [97, 42]) (unhide Hhb0) (unhide Hhc0) (unhide HhB0) (unhide Hha0) rfl (by decide) (fun _ => rfl) (by simp) (unhide HT)⟩ hR (fun _ _ h => h)
 ·intro v w' hR hall
  have f0 : v 0 = .agg #[.slice ko s.ks.length kc, .slice ao s.ac.length acp, .string p, .string ac, .string r, .int .i64 dp] := hall 0 (by decide)
  have f1 : v 1 = .agg #[.int .i64 3, .int .i64 0, .string ⟨#[]⟩] := hall 1 (by decide)
  have f2 : v 2 = .agg #[.int .i64 d.op, .int .i64 d.n, .slice d.so d.sl d.sc, .slice d.lo d.ll d.lc] := hall 2 (by decide)
  obtain ⟨qZ, yZ, eZ, hyZ⟩ : (treeP w4.heap.size s p r ⟨1, 0, ⟨#[]⟩⟩ (n + 1)).p (v 6) w' := hall 6 (by decide)
  have f6 : v 6 = .agg #[.int .i64 qZ.k, .bool qZ.b, .int .i64 qZ.n, .string qZ.s, .string qZ.t, .string qZ.i, .slice qZ.lo qZ.ll qZ.lc] := eZ
  clear eZ
  have HhyZ := hide hyZ
  clear hyZ
  clear hall
  simp only [putAll, dstOf, List.getElem?_cons_zero, List.getElem?_cons_succ, Option.bind_some, List.drop_succ_cons, List.drop_zero, f0, f1, f2, f6]
  clear f0 f1 f2 f6
  simp only [Act.put, List.setIfInBounds_toArray, List.set_cons_succ, List.set_cons_zero]
  generalize v 3 = vv3
  generalize v 4 = vv4
  generalize v 5 = vv5
  have hV := kept_of_below hR k3
  have b0 := bX.trans (hR.mono bX.size)
  obtain ⟨y0, y1, y2, y3, y4, y5, y6, yf⟩ := blk7 hV
  have HB := hide (And.intro b0 hVlt)
  have hw4 : w.heap.size ≤ w4.heap.size := bX.size
  clear hV b0 CK CO hg1 hg2 hg3 hgp hgr hgs hgt ht5
  go_wp2
  exact bodyPost_ret (v := .agg #[.int .i64 qZ.k, .bool qZ.b, .int .i64 qZ.n, .string qZ.s, .string qZ.t, .string qZ.i, .slice qZ.lo qZ.ll qZ.lc]) (by simp [results, Try.results60, go_sem, y0, y1, y2, y3, y4, y5, y6]) rfl ⟨qZ, rfl, set7S_below (unhide HB).1 (Nat.le_add_right _ 2) _ _ _ _ _ _ _, yZ, ((unhide HhyZ).keep (w' := set7S _ _ _ _ _ _ _ _ _) (by rw [set7S_size]; exact Nat.le_refl _) (fun b hB _ => set7S_heap _ _ _ _ _ _ _ _ _ _ (by have := (unhide HB).2; omega))).weak hw4 (Nat.le_refl _)⟩
set_option maxHeartbeats 8000000 in
set_option maxRecDepth 1000000 in
theorem truth11_has (s : SP) (ko ao : Option Addr) (kc acp : Nat) (p ac r : ByteArray) (dp : Int) (n : Nat) (d : R4) (x : Rw) (wv : Int) (g4 : (wv == 4) = false) (g5 : (wv == 5) = false) (g6 : (wv == 6) = false) (g7 : (wv == 7) = false) (g8 : (wv == 8) = false) (g9 : (wv == 9) = false) (g10 : (wv == 10) = false) (hz : (d.n.tmod 2 == 0) = false) (w : World) (hp : isKn s p) (hr : isKn s r) (hx : IsR w d x) (COF : ∀ (w' : World) (t : T3) (d : R4) (x : Rw), Below w.heap.size w w' → GTy s t → IsR w' d x → Calls Try.prog 14 #[.agg #[.slice ko s.ks.length kc, .slice ao s.ac.length acp, .string p, .string ac, .string r, .int .i64 dp], .agg #[.int .i64 t.k, .int .i64 t.o, .string t.n], .agg #[.int .i64 d.op, .int .i64 d.n, .slice d.so d.sl d.sc, .slice d.lo d.ll d.lc]] w' fun e w9 => MakesT s p r t n w' e w9) : Calls Try.prog 60 #[.agg #[.slice ko s.ks.length kc, .slice ao s.ac.length acp, .string p, .string ac, .string r, .int .i64 dp], .agg #[.int .i64 d.op, .int .i64 d.n, .slice d.so d.sl d.sc, .slice d.lo d.ll d.lc], .int .i64 wv] w fun e w' => MakesT s p r ⟨1, 0, ⟨#[]⟩⟩ (n + 1) w e w' := by
 obtain ⟨bX, zX, k1, k2, k3⟩ := alloc3 w (.cells #[.slice ko s.ks.length kc, .slice ao s.ac.length acp, .string p, .string ac, .string r, .int .i64 dp] 52) (.cells #[.int .i64 d.op, .int .i64 d.n, .slice d.so d.sl d.sc, .slice d.lo d.ll d.lc] 49) (.cells #[.int .i64 0, .bool false, .int .i64 0, .string ⟨#[]⟩, .string ⟨#[]⟩, .string ⟨#[]⟩, .slice none 0 0] 39)
 have HX := hide hx
 have CS := fun w' => some11_any s ko ao kc acp p ac r dp d.n w' hp hr
 have hg1 : GTy s ⟨1, 0, ⟨#[]⟩⟩ := .inl ⟨.inl rfl, rfl, rfl⟩
 have hg2 : GTy s ⟨2, 0, ⟨#[]⟩⟩ := .inl ⟨.inr (.inl rfl), rfl, rfl⟩
 have hg3 : GTy s ⟨3, 0, ⟨#[]⟩⟩ := .inl ⟨.inr (.inr rfl), rfl, rfl⟩
 have hgp : GTy s ⟨4, 0, p⟩ := .inr (.inl ⟨rfl, rfl, hp⟩)
 have hgr : GTy s ⟨4, 0, r⟩ := .inr (.inl ⟨rfl, rfl, hr⟩)
 have hgs : GTy s ⟨5, 4, r⟩ := .inr (.inr ⟨rfl, .inr ⟨rfl, hr⟩⟩)
 clear hx hp hr
 go_enter Try.func60, Try.ntmps60
 go_upto_region 1 with fail
 generalize ((w.alloc _).alloc _).alloc _ = w1 at *
 clear zX
 have mk2 : w1.cell? ⟨w.heap.size, 2, none⟩ = some (.string p) := lc_ k1 rfl
 have b2 := blw1 w1 (.cells #[.int .i64 4, .int .i64 0, .string p] 54)
 have k4 := alloc_heap w1 (.cells #[.int .i64 4, .int .i64 0, .string p] 54)
 go_upto_region 2 with fail
 clear mk2
 have bX := bX.trans (b2.mono bX.size)
 have k1 := kept_of_below b2 k1
 have k2 := kept_of_below b2 k2
 have k3 := kept_of_below b2 k3
 generalize w1.alloc _ = w2 at *
 obtain ⟨mk0, mk1, mk2, mk3, mk4, mk5⟩ := bl6_ k1
 obtain ⟨rr0, rr1, rr2, rr3⟩ := bl4_ k2
 have CS := CS w2
 go_wp2_with fail
 refine CS.mono ?_
 clear CS mk0 mk1 mk2 mk3 mk4 mk5 rr0 rr1 rr2 rr3
 rintro e9 w3 ⟨⟨tk, to_, tn⟩, rfl, b3, hgt, ht5⟩
 have b4 := blw1 w3 (.cells #[.int .i64 tk, .int .i64 to_, .string tn] 54)
 have k5 := alloc_heap w3 (.cells #[.int .i64 tk, .int .i64 to_, .string tn] 54)
 go_upto_region 3 with fail
 have B4 := b3.trans (b4.mono b3.size)
 have bX := bX.trans (B4.mono bX.size)
 have k1 := kept_of_below B4 k1
 have k2 := kept_of_below B4 k2
 have k3 := kept_of_below B4 k3
 have k4 := kept_of_below B4 k4
 generalize w3.alloc _ = w4 at *
 have hVlt : w.heap.size + 2 < w4.heap.size := (Array.getElem?_eq_some_iff.1 k3).1
 have CK := fun (i : Int) (h1 : 0 ≤ i ∧ i ≤ 10) w' (hb : Below w4.heap.size w4 w') => kid11_any d x i w' h1 (IsR.below (bX.trans (hb.mono bX.size)) d x (unhide HX))
 have CO := fun (t : T3) (ht : GTy s t) w' (hb : Below w4.heap.size w4 w') (d' : R4) (x' : Rw) (hx' : IsR w' d' x') => COF w' t d' x' (bX.trans (hb.mono bX.size)) ht hx'
 clear COF B4 b3 b4
 have HT := hide (show nodeT s p r 8 (ba [97, 103, 101]) (ba []) (ba []) [⟨4, 0, p⟩] = (⟨1, 0, ⟨#[]⟩⟩, 0) from rfl)
 obtain ⟨mk0, mk1, mk2, mk3, mk4, mk5⟩ := bl6_ k1
 obtain ⟨rr0, rr1, rr2, rr3⟩ := bl4_ k2
 go_upto_region 20 with fail
 clear mk0 mk1 mk2 mk3 mk4 mk5 rr0 rr1 rr2 rr3
 refine wp_specs_put 7 (SpM [.eq (.agg #[.slice ko s.ks.length kc, .slice ao s.ac.length acp, .string p, .string ac, .string r, .int .i64 dp]), .eq (.agg #[.int .i64 4, .int .i64 0, .string p]), .eq (.agg #[.int .i64 d.op, .int .i64 d.n, .slice d.so d.sl d.sc, .slice d.lo d.ll d.lc]), .up (rawP), .up (treeP w4.heap.size s p r ⟨4, 0, p⟩ n), .up (rowP w4.heap.size s p r [⟨4, 0, p⟩] n 1), .up (treeP w4.heap.size s p r ⟨1, 0, ⟨#[]⟩⟩ (n + 1))]) (fun w' => Below w4.heap.size w4 w') (by kernel_rfl) (by kernel_rfl) (Below.refl _ w4).drew ?_ ?_
 ·intro q o hq' ho a' w' hR hdep hslot K hK
  have m1 := kept_of_below hR k1
  have m2 := kept_of_below hR k2
  have m4 := kept_of_below hR k4
  have m5 := kept_of_below hR k5
  obtain ⟨mk0, mk1, mk2, mk3, mk4, mk5⟩ := bl6_ m1
  obtain ⟨rr0, rr1, rr2, rr3⟩ := bl4_ m2
  obtain ⟨u0, u1, u2⟩ := bl3_ m4
  obtain ⟨t0, t1, t2⟩ := bl3_ m5
  clear m1 m2 m4 m5
  have hc : q = 0 ∨ q = 1 ∨ q = 2 ∨ q = 3 ∨ q = 4 ∨ q = 5 ∨ q = 6 := by omega
  rcases hc with rfl | rfl | rfl | rfl | rfl | rfl | rfl
  ·cases ho
   have e0 : a'.tmps.getD 3 undef = .pointer (some ⟨w.heap.size, 0, none⟩) := hslot 3 (by decide)
   clear rr0 rr1 rr2 rr3 u0 u1 u2 t0 t1 t2
   unfold Oper.wp
   go_simp
   exact hK _ _ rfl hR (fun _ _ h => h)
  ·cases ho
   have e0 : a'.tmps.getD 7 undef = .pointer (some ⟨w1.heap.size, 0, none⟩) := hslot 7 (by decide)
   clear mk0 mk1 mk2 mk3 mk4 mk5 rr0 rr1 rr2 rr3 t0 t1 t2
   unfold Oper.wp
   go_simp
   exact hK _ _ rfl hR (fun _ _ h => h)
  ·cases ho
   have e0 : a'.tmps.getD 4 undef = .pointer (some ⟨w.heap.size + 1, 0, none⟩) := hslot 4 (by decide)
   clear mk0 mk1 mk2 mk3 mk4 mk5 u0 u1 u2 t0 t1 t2
   unfold Oper.wp
   go_simp
   exact hK _ _ rfl hR (fun _ _ h => h)
  ·cases ho
   have e0 : a'.tmps.getD 148 undef = .agg #[.int .i64 d.op, .int .i64 d.n, .slice d.so d.sl d.sc, .slice d.lo d.ll d.lc] := hdep 2 (by kernel_rfl)
   have e0' := gd_ e0
   clear mk0 mk1 mk2 mk3 mk4 mk5 rr0 rr1 rr2 rr3 u0 u1 u2 t0 t1 t2
   unfold Oper.wp
   go_simp
   refine (CK 0 (by decide) w' hR).mono ?_
   rintro e w9 ⟨⟨r9, y9, rfl, h9⟩, b9⟩
   exact hK _ _ ⟨r9, y9, rfl, h9⟩ (hR.trans (b9.mono hR.size)) (SpM.up b9)
  ·cases ho
   have e0 : a'.tmps.getD 146 undef = .agg #[.slice ko s.ks.length kc, .slice ao s.ac.length acp, .string p, .string ac, .string r, .int .i64 dp] := hdep 0 (by kernel_rfl)
   have e0' := gd_ e0
   have e1 : a'.tmps.getD 147 undef = .agg #[.int .i64 4, .int .i64 0, .string p] := hdep 1 (by kernel_rfl)
   have e1' := gd_ e1
   obtain ⟨r2, x2, e2, hx2⟩ : (rawP).p (a'.tmps.getD 149 undef) w' := hdep 3 (by kernel_rfl)
   have e2' := gd_ e2
   have Hhx2 := hide hx2
   clear hx2 mk0 mk1 mk2 mk3 mk4 mk5 rr0 rr1 rr2 rr3 u0 u1 u2 t0 t1 t2
   unfold Oper.wp
   go_simp
   refine (CO ⟨4, 0, p⟩ hgp w' hR r2 x2 (unhide Hhx2)).mono ?_
   rintro e w9 ⟨q9, rfl, b9, y9, h9⟩
   exact hK _ _ ⟨q9, y9, rfl, h9.weak hR.size (Nat.le_refl _)⟩ (hR.trans (b9.mono hR.size)) (SpM.up b9)
  ·cases ho
   obtain ⟨q0, y0, e0, hy0⟩ : (treeP w4.heap.size s p r ⟨4, 0, p⟩ n).p (a'.tmps.getD 150 undef) w' := hdep 4 (by kernel_rfl)
   have e0' := gd_ e0
   have Hhy0 := hide hy0
   clear hy0 mk0 mk1 mk2 mk3 mk4 mk5 rr0 rr1 rr2 rr3 u0 u1 u2 t0 t1 t2
   unfold Oper.wp
   go_simp
   exact hK _ _ ⟨w'.heap.size, [q0], [y0], _, rfl, hR.size, alloc_heap _ _, rfl, .cons ((unhide Hhy0).up (blw1 _ _)) .nil⟩ (hR.alloc hR.size _) (SpM.up (blw1 _ _))
  ·cases ho
   obtain ⟨b0, qs0, es0, cs0, e0, hB0, hb0, hc0, ha0⟩ : (rowP w4.heap.size s p r [⟨4, 0, p⟩] n 1).p (a'.tmps.getD 151 undef) w' := hdep 5 (by kernel_rfl)
   have e0' := gd_ e0
   have HhB0 := hide hB0
   have Hhb0 := hide hb0
   have Hhc0 := hide hc0
   have Hha0 := hide ha0
   clear hB0 hb0 hc0 ha0 mk0 mk1 mk2 mk3 mk4 mk5 rr0 rr1 rr2 rr3 u0 u1 u2 t0 t1 t2
   unfold Oper.wp
   go_simp
   exact hK _ _ ⟨⟨8, false, 0, ⟨#[97, 103, 101]⟩, ⟨#[]⟩, ⟨#[]⟩, some ⟨b0, 0, none⟩, 1, 1⟩, .mk 8 false 0 [97, 103, 101] [] [] es0, rfl, made_node (sx := [97, 103, 101]) (unhide Hhb0) (unhide Hhc0) (unhide HhB0) (unhide Hha0) rfl (by decide) (fun _ => rfl) (by simp) (unhide HT)⟩ hR (fun _ _ h => h)
 ·intro v w' hR hall
  have f0 : v 0 = .agg #[.slice ko s.ks.length kc, .slice ao s.ac.length acp, .string p, .string ac, .string r, .int .i64 dp] := hall 0 (by decide)
  have f1 : v 1 = .agg #[.int .i64 4, .int .i64 0, .string p] := hall 1 (by decide)
  have f2 : v 2 = .agg #[.int .i64 d.op, .int .i64 d.n, .slice d.so d.sl d.sc, .slice d.lo d.ll d.lc] := hall 2 (by decide)
  obtain ⟨qZ, yZ, eZ, hyZ⟩ : (treeP w4.heap.size s p r ⟨1, 0, ⟨#[]⟩⟩ (n + 1)).p (v 6) w' := hall 6 (by decide)
  have f6 : v 6 = .agg #[.int .i64 qZ.k, .bool qZ.b, .int .i64 qZ.n, .string qZ.s, .string qZ.t, .string qZ.i, .slice qZ.lo qZ.ll qZ.lc] := eZ
  clear eZ
  have HhyZ := hide hyZ
  clear hyZ
  clear hall
  simp only [putAll, dstOf, List.getElem?_cons_zero, List.getElem?_cons_succ, Option.bind_some, List.drop_succ_cons, List.drop_zero, f0, f1, f2, f6]
  clear f0 f1 f2 f6
  simp only [Act.put, List.setIfInBounds_toArray, List.set_cons_succ, List.set_cons_zero]
  generalize v 3 = vv3
  generalize v 4 = vv4
  generalize v 5 = vv5
  have hV := kept_of_below hR k3
  have b0 := bX.trans (hR.mono bX.size)
  obtain ⟨y0, y1, y2, y3, y4, y5, y6, yf⟩ := blk7 hV
  have HB := hide (And.intro b0 hVlt)
  have hw4 : w.heap.size ≤ w4.heap.size := bX.size
  clear hV b0 CK CO hg1 hg2 hg3 hgp hgr hgs hgt ht5
  go_wp2
  exact bodyPost_ret (v := .agg #[.int .i64 qZ.k, .bool qZ.b, .int .i64 qZ.n, .string qZ.s, .string qZ.t, .string qZ.i, .slice qZ.lo qZ.ll qZ.lc]) (by simp [results, Try.results60, go_sem, y0, y1, y2, y3, y4, y5, y6]) rfl ⟨qZ, rfl, set7S_below (unhide HB).1 (Nat.le_add_right _ 2) _ _ _ _ _ _ _, yZ, ((unhide HhyZ).keep (w' := set7S _ _ _ _ _ _ _ _ _) (by rw [set7S_size]; exact Nat.le_refl _) (fun b hB _ => set7S_heap _ _ _ _ _ _ _ _ _ _ (by have := (unhide HB).2; omega))).weak hw4 (Nat.le_refl _)⟩
end Go.Proofs.Ytagnbpobcijakaa

namespace Go.Proofs.Ytagnbpobcijakaa
open Go.RowKit Go.Sort

theorem truth11_any (s : SP) (ko ao : Option Addr) (kc acp : Nat) (p ac r : ByteArray) (dp : Int) (n : Nat) (d : R4) (x : Rw) (wv : Int) (w : World) (hp : isKn s p) (hr : isKn s r) (hx : IsR w d x) (COF : ∀ (w' : World) (t : T3) (d : R4) (x : Rw), Below w.heap.size w w' → GTy s t → IsR w' d x → Calls Try.prog 14 #[.agg #[.slice ko s.ks.length kc, .slice ao s.ac.length acp, .string p, .string ac, .string r, .int .i64 dp], .agg #[.int .i64 t.k, .int .i64 t.o, .string t.n], .agg #[.int .i64 d.op, .int .i64 d.n, .slice d.so d.sl d.sc, .slice d.lo d.ll d.lc]] w' fun e w9 => MakesT s p r t n w' e w9) : Calls Try.prog 60 #[.agg #[.slice ko s.ks.length kc, .slice ao s.ac.length acp, .string p, .string ac, .string r, .int .i64 dp], .agg #[.int .i64 d.op, .int .i64 d.n, .slice d.so d.sl d.sc, .slice d.lo d.ll d.lc], .int .i64 wv] w fun e w' => MakesT s p r ⟨1, 0, ⟨#[]⟩⟩ (n + 1) w e w' := by
 by_cases h4 : wv = 4
 ·subst h4
  exact truth11_4 s ko ao kc acp p ac r dp n d x w hp hr hx COF
 by_cases h5 : wv = 5
 ·subst h5
  have hc : d.n % 2 = 0 ∨ d.n % 2 = 1 := by omega
  rcases hc with h | h
  ·exact truth11_5 s ko ao kc acp p ac r dp n d x 0 23 h (by decide) rfl ⟨by decide, by decide⟩ rfl w hp hr hx COF
  ·exact truth11_5 s ko ao kc acp p ac r dp n d x 1 24 h (by decide) rfl ⟨by decide, by decide⟩ rfl w hp hr hx COF
 by_cases h6 : wv = 6
 ·subst h6
  exact truth11_6 s ko ao kc acp p ac r dp n d x w hp hr hx COF
 by_cases h7 : wv = 7
 ·subst h7
  exact truth11_7 s ko ao kc acp p ac r dp n d x w hp hr hx COF
 by_cases h8 : wv = 8
 ·subst h8
  exact truth11_8 s ko ao kc acp p ac r dp n d x w hp hr hx COF
 by_cases h9 : wv = 9
 ·subst h9
  exact truth11_9 s ko ao kc acp p ac r dp n d x w hp hr hx COF
 by_cases h10 : wv = 10
 ·subst h10
  exact truth11_10 s ko ao kc acp p ac r dp n d x w hp hr hx COF
 have g4 : (wv == 4) = false := by simpa using h4
 have g5 : (wv == 5) = false := by simpa using h5
 have g6 : (wv == 6) = false := by simpa using h6
 have g7 : (wv == 7) = false := by simpa using h7
 have g8 : (wv == 8) = false := by simpa using h8
 have g9 : (wv == 9) = false := by simpa using h9
 have g10 : (wv == 10) = false := by simpa using h10
 cases hz : (d.n.tmod 2 == 0)
 ·exact truth11_has s ko ao kc acp p ac r dp n d x wv g4 g5 g6 g7 g8 g9 g10 hz w hp hr hx COF
 ·exact truth11_like s ko ao kc acp p ac r dp n d x wv g4 g5 g6 g7 g8 g9 g10 hz w hp hr hx COF
end Go.Proofs.Ytagnbpobcijakaa
