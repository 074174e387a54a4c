/-
 chancellaw11.build: way 0: what it returns.
 chancellaw11.build: numbers: what it returns.
 chancellaw11.build: a sign: what it returns.
 chancellaw11.build: a truth: what it returns.
-/
import Derived.Test.YtagnbpobcijakaaTmCB
namespace Go.Proofs.Ytagnbpobcijakaa
open Go.RowKit Go.Sort

set_option maxHeartbeats 8000000 in
set_option maxRecDepth 1000000 in
theorem build11_0 (s : SP) (ko ao : Option Addr) (kc acp : Nat) (p ac r : ByteArray) (dq dp : Int) (n : Nat) (d : R4) (x : Rw) (t : T3) (h0 : d.op % 12 = 0) (w : World) (hdp : IntKind.i64.wrap (dq - 1) = dp) (hx : IsR w d x) (ht : GTy s t) (COF : ∀ (w' : World) (t : T3) (d : R4) (x : Rw), Below w.heap.size w w' → GTy s t → IsR w' d x → Calls Try.prog 14 #[.agg #[.slice ko s.ks.length kc, .slice ao s.ac.length acp, .string p, .string ac, .string r, .int .i64 dp], .agg #[.int .i64 t.k, .int .i64 t.o, .string t.n], .agg #[.int .i64 d.op, .int .i64 d.n, .slice d.so d.sl d.sc, .slice d.lo d.ll d.lc]] w' fun e w9 => MakesT s p r t n w' e w9) : Calls Try.prog 45 #[.agg #[.slice ko s.ks.length kc, .slice ao s.ac.length acp], .agg #[.string p, .string ac, .string r], .agg #[.int .i64 t.k, .int .i64 t.o, .string t.n], .agg #[.int .i64 d.op, .int .i64 d.n, .slice d.so d.sl d.sc, .slice d.lo d.ll d.lc], .int .i64 dq] w fun e w' => MakesT s p r t (n + 1) w e w' := by
 obtain ⟨bX, zX, k1, k2, k3, k4, k5⟩ := alloc5 w (.cells #[.slice ko s.ks.length kc, .slice ao s.ac.length acp] 33) (.cells #[.string p, .string ac, .string r] 42) (.cells #[.int .i64 t.k, .int .i64 t.o, .string t.n] 54) (.cells #[.int .i64 d.op, .int .i64 d.n, .slice d.so d.sl d.sc, .slice d.lo d.ll d.lc] 49) (.cells #[.int .i64 0, .bool false, .int .i64 0, .string ⟨#[]⟩, .string ⟨#[]⟩, .string ⟨#[]⟩, .slice none 0 0] 39)
 obtain ⟨m, hm⟩ : ∃ m : Int, m = d.op % 12 := ⟨_, rfl⟩
 have hm12 : 0 ≤ m ∧ m < 12 := by omega
 have CW := fun w' => within11_any d.op 12 (by decide) (by decide) w'
 rw [← hm] at CW
 have Hm := hide hm
 clear hm
 have HX := hide hx
 have hg1 : GTy s ⟨1, 0, ⟨#[]⟩⟩ := .inl ⟨.inl rfl, rfl, rfl⟩
 have hg2 : GTy s ⟨2, 0, ⟨#[]⟩⟩ := .inl ⟨.inr (.inl rfl), rfl, rfl⟩
 clear hx
 go_enter Try.func45, Try.ntmps45
 go_upto_region 1 with fail
 generalize ((((w.alloc _).alloc _).alloc _).alloc _).alloc _ = w1 at *
 clear zX
 obtain ⟨cs0, cs1⟩ := bl2_ k1
 obtain ⟨cn0, cn1, cn2⟩ := bl3_ k2
 have b2 := blw1 w1 (.cells #[.slice ko s.ks.length kc, .slice ao s.ac.length acp, .string p, .string ac, .string r, .int .i64 dp] 52)
 have k6 := alloc_heap w1 (.cells #[.slice ko s.ks.length kc, .slice ao s.ac.length acp, .string p, .string ac, .string r, .int .i64 dp] 52)
 go_upto_region 2 with fail
 clear cs0 cs1 cn0 cn1 cn2
 have bX := bX.trans (b2.mono bX.size)
 have k1 := kept_of_below b2 k1
 have k2 := kept_of_below b2 k2
 have k3 := kept_of_below b2 k3
 have k4 := kept_of_below b2 k4
 have k5 := kept_of_below b2 k5
 generalize w1.alloc _ = w2 at *
 clear b2
 obtain ⟨bY, zY, k7, k8⟩ := alloc2 w2 (.cells #[.int .i64 2, .int .i64 0, .string ⟨#[]⟩] 54) (.cells #[.int .i64 1, .int .i64 0, .string ⟨#[]⟩] 54)
 go_upto_region 3 with fail
 have bX := bX.trans (bY.mono bX.size)
 have k1 := kept_of_below bY k1
 have k2 := kept_of_below bY k2
 have k3 := kept_of_below bY k3
 have k4 := kept_of_below bY k4
 have k5 := kept_of_below bY k5
 have k6 := kept_of_below bY k6
 generalize (w2.alloc _).alloc _ = w3 at *
 clear bY zY
 have rr0 : w3.cell? ⟨w.heap.size + 3, 0, none⟩ = some (.int .i64 d.op) := lc_ k4 rfl
 go_wp2_with fail
 refine (CW _).mono ?_
 clear CW rr0
 rintro e9 w9 ⟨rfl, hw9⟩
 have hw9 := hw9.symm
 subst hw9
 have hVlt : w.heap.size + 4 < w3.heap.size := (Array.getElem?_eq_some_iff.1 k5).1
 have hw3 : w.heap.size ≤ w3.heap.size := bX.size
 have CK := fun (i : Int) (h1 : 0 ≤ i ∧ i ≤ 10) w' (hb : Below w3.heap.size w3 w') => kid11_any d x i w' h1 (IsR.below (bX.trans (hb.mono bX.size)) d x (unhide HX))
 have CO := fun (t : T3) (ht : GTy s t) w' (hb : Below w3.heap.size w3 w') (d' : R4) (x' : Rw) (hx' : IsR w' d' x') => COF w' t d' x' (bX.trans (hb.mono bX.size)) ht hx'
 clear COF hdp
 obtain ⟨tt0, tt1, tt2⟩ := bl3_ k3
 obtain ⟨rr0, rr1, rr2, rr3⟩ := bl4_ k4
 obtain ⟨mk0, mk1, mk2, mk3, mk4, mk5⟩ := bl6_ k6
 have hm0 : m = 0 := (unhide Hm).trans h0
 subst hm0
 have HT := hide (show nodeT s p r 25 (ba []) (ba []) (ba []) [⟨1, 0, ⟨#[]⟩⟩, t, t] = (t, 0) from by show (if (25 : Int) = 25 then (if (1 : Int) = 1 ∧ t = t then (t, (0 : Int)) else (zT, 16)) else (zT, 13)) = (t, 0); rw [if_pos rfl, if_pos ⟨rfl, rfl⟩])
 go_upto_region 5 with fail
 clear tt0 tt1 tt2 rr0 rr1 rr2 rr3 mk0 mk1 mk2 mk3 mk4 mk5
 refine wp_specs_put 17 (SpM [.eq (.agg #[.slice ko s.ks.length kc, .slice ao s.ac.length acp, .string p, .string ac, .string r, .int .i64 dp]), .eq (.agg #[.int .i64 1, .int .i64 0, .string ⟨#[]⟩]), .eq (.agg #[.int .i64 d.op, .int .i64 d.n, .slice d.so d.sl d.sc, .slice d.lo d.ll d.lc]), .up (rawP), .up (treeP w3.heap.size s p r ⟨1, 0, ⟨#[]⟩⟩ n), .eq (.agg #[.slice ko s.ks.length kc, .slice ao s.ac.length acp, .string p, .string ac, .string r, .int .i64 dp]), .eq (.agg #[.int .i64 t.k, .int .i64 t.o, .string t.n]), .eq (.agg #[.int .i64 d.op, .int .i64 d.n, .slice d.so d.sl d.sc, .slice d.lo d.ll d.lc]), .up (rawP), .up (treeP w3.heap.size s p r t n), .eq (.agg #[.slice ko s.ks.length kc, .slice ao s.ac.length acp, .string p, .string ac, .string r, .int .i64 dp]), .eq (.agg #[.int .i64 t.k, .int .i64 t.o, .string t.n]), .eq (.agg #[.int .i64 d.op, .int .i64 d.n, .slice d.so d.sl d.sc, .slice d.lo d.ll d.lc]), .up (rawP), .up (treeP w3.heap.size s p r t n), .up (rowP w3.heap.size s p r [⟨1, 0, ⟨#[]⟩⟩, t, t] n 3), .up (treeP w3.heap.size s p r t (n + 1))]) (fun w' => Below w3.heap.size w3 w') (by kernel_rfl) (by kernel_rfl) (Below.refl _ w3).drew ?_ ?_
 ·intro q o hq' ho a' w' hR hdep hslot K hK
  have m3 := kept_of_below hR k3
  have m4 := kept_of_below hR k4
  have m6 := kept_of_below hR k6
  have m7 := kept_of_below hR k7
  have m8 := kept_of_below hR k8
  obtain ⟨tt0, tt1, tt2⟩ := bl3_ m3
  obtain ⟨rr0, rr1, rr2, rr3⟩ := bl4_ m4
  obtain ⟨mk0, mk1, mk2, mk3, mk4, mk5⟩ := bl6_ m6
  obtain ⟨u0, u1, u2⟩ := bl3_ m7
  obtain ⟨tr0, tr1, tr2⟩ := bl3_ m8
  clear m3 m4 m6 m7 m8
  have hc : q = 0 ∨ q = 1 ∨ q = 2 ∨ q = 3 ∨ q = 4 ∨ q = 5 ∨ q = 6 ∨ q = 7 ∨ q = 8 ∨ q = 9 ∨ q = 10 ∨ q = 11 ∨ q = 12 ∨ q = 13 ∨ q = 14 ∨ q = 15 ∨ q = 16 := by omega
  rcases hc with rfl | rfl | rfl | rfl | rfl | rfl | rfl | rfl | rfl | rfl | rfl | rfl | rfl | rfl | rfl | rfl | rfl
  ·cases ho
   have e0 : a'.tmps.getD 11 undef = .pointer (some ⟨w1.heap.size, 0, none⟩) := hslot 11 (by decide)
   clear rr0 rr1 rr2 rr3 u0 u1 u2 tr0 tr1 tr2 tt0 tt1 tt2
   unfold Oper.wp
   go_simp
   exact hK _ _ rfl hR (fun _ _ h => h)
  ·cases ho
   have e0 : a'.tmps.getD 13 undef = .pointer (some ⟨w2.heap.size + 1, 0, none⟩) := hslot 13 (by decide)
   clear mk0 mk1 mk2 mk3 mk4 mk5 rr0 rr1 rr2 rr3 u0 u1 u2 tt0 tt1 tt2
   unfold Oper.wp
   go_simp
   exact hK _ _ rfl hR (fun _ _ h => h)
  ·cases ho
   have e0 : a'.tmps.getD 8 undef = .pointer (some ⟨w.heap.size + 3, 0, none⟩) := hslot 8 (by decide)
   clear mk0 mk1 mk2 mk3 mk4 mk5 u0 u1 u2 tr0 tr1 tr2 tt0 tt1 tt2
   unfold Oper.wp
   go_simp
   exact hK _ _ rfl hR (fun _ _ h => h)
  ·cases ho
   have e0 : a'.tmps.getD 35 undef = .agg #[.int .i64 d.op, .int .i64 d.n, .slice d.so d.sl d.sc, .slice d.lo d.ll d.lc] := hdep 2 (by kernel_rfl)
   have e0' := gd_ e0
   clear mk0 mk1 mk2 mk3 mk4 mk5 rr0 rr1 rr2 rr3 u0 u1 u2 tr0 tr1 tr2 tt0 tt1 tt2
   unfold Oper.wp
   go_simp
   refine (CK 0 (by decide) w' hR).mono ?_
   rintro e w9 ⟨⟨r9, y9, rfl, h9⟩, b9⟩
   exact hK _ _ ⟨r9, y9, rfl, h9⟩ (hR.trans (b9.mono hR.size)) (SpM.up b9)
  ·cases ho
   have e0 : a'.tmps.getD 33 undef = .agg #[.slice ko s.ks.length kc, .slice ao s.ac.length acp, .string p, .string ac, .string r, .int .i64 dp] := hdep 0 (by kernel_rfl)
   have e0' := gd_ e0
   have e1 : a'.tmps.getD 34 undef = .agg #[.int .i64 1, .int .i64 0, .string ⟨#[]⟩] := hdep 1 (by kernel_rfl)
   have e1' := gd_ e1
   obtain ⟨r2, x2, e2, hx2⟩ : (rawP).p (a'.tmps.getD 36 undef) w' := hdep 3 (by kernel_rfl)
   have e2' := gd_ e2
   have Hhx2 := hide hx2
   clear hx2 mk0 mk1 mk2 mk3 mk4 mk5 rr0 rr1 rr2 rr3 u0 u1 u2 tr0 tr1 tr2 tt0 tt1 tt2
   unfold Oper.wp
   go_simp
   refine (CO ⟨1, 0, ⟨#[]⟩⟩ hg1 w' hR r2 x2 (unhide Hhx2)).mono ?_
   rintro e w9 ⟨q9, rfl, b9, y9, h9⟩
   exact hK _ _ ⟨q9, y9, rfl, h9.weak hR.size (Nat.le_refl _)⟩ (hR.trans (b9.mono hR.size)) (SpM.up b9)
  ·cases ho
   have e0 : a'.tmps.getD 11 undef = .pointer (some ⟨w1.heap.size, 0, none⟩) := hslot 11 (by decide)
   clear rr0 rr1 rr2 rr3 u0 u1 u2 tr0 tr1 tr2 tt0 tt1 tt2
   unfold Oper.wp
   go_simp
   exact hK _ _ rfl hR (fun _ _ h => h)
  ·cases ho
   have e0 : a'.tmps.getD 7 undef = .pointer (some ⟨w.heap.size + 2, 0, none⟩) := hslot 7 (by decide)
   clear mk0 mk1 mk2 mk3 mk4 mk5 rr0 rr1 rr2 rr3 u0 u1 u2 tr0 tr1 tr2
   unfold Oper.wp
   go_simp
   exact hK _ _ rfl hR (fun _ _ h => h)
  ·cases ho
   have e0 : a'.tmps.getD 8 undef = .pointer (some ⟨w.heap.size + 3, 0, none⟩) := hslot 8 (by decide)
   clear mk0 mk1 mk2 mk3 mk4 mk5 u0 u1 u2 tr0 tr1 tr2 tt0 tt1 tt2
   unfold Oper.wp
   go_simp
   exact hK _ _ rfl hR (fun _ _ h => h)
  ·cases ho
   have e0 : a'.tmps.getD 40 undef = .agg #[.int .i64 d.op, .int .i64 d.n, .slice d.so d.sl d.sc, .slice d.lo d.ll d.lc] := hdep 7 (by kernel_rfl)
   have e0' := gd_ e0
   clear mk0 mk1 mk2 mk3 mk4 mk5 rr0 rr1 rr2 rr3 u0 u1 u2 tr0 tr1 tr2 tt0 tt1 tt2
   unfold Oper.wp
   go_simp
   refine (CK 1 (by decide) w' hR).mono ?_
   rintro e w9 ⟨⟨r9, y9, rfl, h9⟩, b9⟩
   exact hK _ _ ⟨r9, y9, rfl, h9⟩ (hR.trans (b9.mono hR.size)) (SpM.up b9)
  ·cases ho
   have e0 : a'.tmps.getD 38 undef = .agg #[.slice ko s.ks.length kc, .slice ao s.ac.length acp, .string p, .string ac, .string r, .int .i64 dp] := hdep 5 (by kernel_rfl)
   have e0' := gd_ e0
   have e1 : a'.tmps.getD 39 undef = .agg #[.int .i64 t.k, .int .i64 t.o, .string t.n] := hdep 6 (by kernel_rfl)
   have e1' := gd_ e1
   obtain ⟨r2, x2, e2, hx2⟩ : (rawP).p (a'.tmps.getD 41 undef) w' := hdep 8 (by kernel_rfl)
   have e2' := gd_ e2
   have Hhx2 := hide hx2
   clear hx2 mk0 mk1 mk2 mk3 mk4 mk5 rr0 rr1 rr2 rr3 u0 u1 u2 tr0 tr1 tr2 tt0 tt1 tt2
   unfold Oper.wp
   go_simp
   refine (CO t ht w' hR r2 x2 (unhide Hhx2)).mono ?_
   rintro e w9 ⟨q9, rfl, b9, y9, h9⟩
   exact hK _ _ ⟨q9, y9, rfl, h9.weak hR.size (Nat.le_refl _)⟩ (hR.trans (b9.mono hR.size)) (SpM.up b9)
  ·cases ho
   have e0 : a'.tmps.getD 11 undef = .pointer (some ⟨w1.heap.size, 0, none⟩) := hslot 11 (by decide)
   clear rr0 rr1 rr2 rr3 u0 u1 u2 tr0 tr1 tr2 tt0 tt1 tt2
   unfold Oper.wp
   go_simp
   exact hK _ _ rfl hR (fun _ _ h => h)
  ·cases ho
   have e0 : a'.tmps.getD 7 undef = .pointer (some ⟨w.heap.size + 2, 0, none⟩) := hslot 7 (by decide)
   clear mk0 mk1 mk2 mk3 mk4 mk5 rr0 rr1 rr2 rr3 u0 u1 u2 tr0 tr1 tr2
   unfold Oper.wp
   go_simp
   exact hK _ _ rfl hR (fun _ _ h => h)
  ·cases ho
   have e0 : a'.tmps.getD 8 undef = .pointer (some ⟨w.heap.size + 3, 0, none⟩) := hslot 8 (by decide)
   clear mk0 mk1 mk2 mk3 mk4 mk5 u0 u1 u2 tr0 tr1 tr2 tt0 tt1 tt2
   unfold Oper.wp
   go_simp
   exact hK _ _ rfl hR (fun _ _ h => h)
  ·cases ho
   have e0 : a'.tmps.getD 45 undef = .agg #[.int .i64 d.op, .int .i64 d.n, .slice d.so d.sl d.sc, .slice d.lo d.ll d.lc] := hdep 12 (by kernel_rfl)
   have e0' := gd_ e0
   clear mk0 mk1 mk2 mk3 mk4 mk5 rr0 rr1 rr2 rr3 u0 u1 u2 tr0 tr1 tr2 tt0 tt1 tt2
   unfold Oper.wp
   go_simp
   refine (CK 2 (by decide) w' hR).mono ?_
   rintro e w9 ⟨⟨r9, y9, rfl, h9⟩, b9⟩
   exact hK _ _ ⟨r9, y9, rfl, h9⟩ (hR.trans (b9.mono hR.size)) (SpM.up b9)
  ·cases ho
   have e0 : a'.tmps.getD 43 undef = .agg #[.slice ko s.ks.length kc, .slice ao s.ac.length acp, .string p, .string ac, .string r, .int .i64 dp] := hdep 10 (by kernel_rfl)
   have e0' := gd_ e0
   have e1 : a'.tmps.getD 44 undef = .agg #[.int .i64 t.k, .int .i64 t.o, .string t.n] := hdep 11 (by kernel_rfl)
   have e1' := gd_ e1
   obtain ⟨r2, x2, e2, hx2⟩ : (rawP).p (a'.tmps.getD 46 undef) w' := hdep 13 (by kernel_rfl)
   have e2' := gd_ e2
   have Hhx2 := hide hx2
   clear hx2 mk0 mk1 mk2 mk3 mk4 mk5 rr0 rr1 rr2 rr3 u0 u1 u2 tr0 tr1 tr2 tt0 tt1 tt2
   unfold Oper.wp
   go_simp
   refine (CO t ht w' hR r2 x2 (unhide Hhx2)).mono ?_
   rintro e w9 ⟨q9, rfl, b9, y9, h9⟩
   exact hK _ _ ⟨q9, y9, rfl, h9.weak hR.size (Nat.le_refl _)⟩ (hR.trans (b9.mono hR.size)) (SpM.up b9)
  ·cases ho
   obtain ⟨q0, y0, e0, hy0⟩ : (treeP w3.heap.size s p r ⟨1, 0, ⟨#[]⟩⟩ n).p (a'.tmps.getD 37 undef) w' := hdep 4 (by kernel_rfl)
   have e0' := gd_ e0
   have Hhy0 := hide hy0
   obtain ⟨q1, y1, e1, hy1⟩ : (treeP w3.heap.size s p r t n).p (a'.tmps.getD 42 undef) w' := hdep 9 (by kernel_rfl)
   have e1' := gd_ e1
   have Hhy1 := hide hy1
   obtain ⟨q2, y2, e2, hy2⟩ : (treeP w3.heap.size s p r t n).p (a'.tmps.getD 47 undef) w' := hdep 14 (by kernel_rfl)
   have e2' := gd_ e2
   have Hhy2 := hide hy2
   clear hy0 hy1 hy2 mk0 mk1 mk2 mk3 mk4 mk5 rr0 rr1 rr2 rr3 u0 u1 u2 tr0 tr1 tr2 tt0 tt1 tt2
   unfold Oper.wp
   go_simp
   exact hK _ _ ⟨w'.heap.size, [q0, q1, q2], [y0, y1, y2], _, rfl, hR.size, alloc_heap _ _, rfl, .cons ((unhide Hhy0).up (blw1 _ _)) (.cons ((unhide Hhy1).up (blw1 _ _)) (.cons ((unhide Hhy2).up (blw1 _ _)) .nil))⟩ (hR.alloc hR.size _) (SpM.up (blw1 _ _))
  ·cases ho
   obtain ⟨b0, qs0, es0, cs0, e0, hB0, hb0, hc0, ha0⟩ : (rowP w3.heap.size s p r [⟨1, 0, ⟨#[]⟩⟩, t, t] n 3).p (a'.tmps.getD 48 undef) w' := hdep 15 (by kernel_rfl)
   have e0' := gd_ e0
   have HhB0 := hide hB0
   have Hhb0 := hide hb0
   have Hhc0 := hide hc0
   have Hha0 := hide ha0
   clear hB0 hb0 hc0 ha0 mk0 mk1 mk2 mk3 mk4 mk5 rr0 rr1 rr2 rr3 u0 u1 u2 tr0 tr1 tr2 tt0 tt1 tt2
   unfold Oper.wp
   go_simp
   exact hK _ _ ⟨⟨25, false, 0, ⟨#[]⟩, ⟨#[]⟩, ⟨#[]⟩, some ⟨b0, 0, none⟩, 3, 3⟩, .mk 25 false 0 [] [] [] es0, rfl, made_node (sx := []) (unhide Hhb0) (unhide Hhc0) (unhide HhB0) (unhide Hha0) rfl (by decide) (fun _ => rfl) (by simp) (unhide HT)⟩ hR (fun _ _ h => h)
 ·intro v w' hR hall
  have f0 : v 0 = .agg #[.slice ko s.ks.length kc, .slice ao s.ac.length acp, .string p, .string ac, .string r, .int .i64 dp] := hall 0 (by decide)
  have f1 : v 1 = .agg #[.int .i64 1, .int .i64 0, .string ⟨#[]⟩] := hall 1 (by decide)
  have f2 : v 2 = .agg #[.int .i64 d.op, .int .i64 d.n, .slice d.so d.sl d.sc, .slice d.lo d.ll d.lc] := hall 2 (by decide)
  have f5 : v 5 = .agg #[.slice ko s.ks.length kc, .slice ao s.ac.length acp, .string p, .string ac, .string r, .int .i64 dp] := hall 5 (by decide)
  have f6 : v 6 = .agg #[.int .i64 t.k, .int .i64 t.o, .string t.n] := hall 6 (by decide)
  have f7 : v 7 = .agg #[.int .i64 d.op, .int .i64 d.n, .slice d.so d.sl d.sc, .slice d.lo d.ll d.lc] := hall 7 (by decide)
  have f10 : v 10 = .agg #[.slice ko s.ks.length kc, .slice ao s.ac.length acp, .string p, .string ac, .string r, .int .i64 dp] := hall 10 (by decide)
  have f11 : v 11 = .agg #[.int .i64 t.k, .int .i64 t.o, .string t.n] := hall 11 (by decide)
  have f12 : v 12 = .agg #[.int .i64 d.op, .int .i64 d.n, .slice d.so d.sl d.sc, .slice d.lo d.ll d.lc] := hall 12 (by decide)
  obtain ⟨qZ, yZ, eZ, hyZ⟩ : (treeP w3.heap.size s p r t (n + 1)).p (v 16) w' := hall 16 (by decide)
  have f16 : v 16 = .agg #[.int .i64 qZ.k, .bool qZ.b, .int .i64 qZ.n, .string qZ.s, .string qZ.t, .string qZ.i, .slice qZ.lo qZ.ll qZ.lc] := eZ
  clear eZ
  have HhyZ := hide hyZ
  clear hyZ
  clear hall
  simp only [putAll, dstOf, List.getElem?_cons_zero, List.getElem?_cons_succ, Option.bind_some, List.drop_succ_cons, List.drop_zero, f0, f1, f2, f5, f6, f7, f10, f11, f12, f16]
  clear f0 f1 f2 f5 f6 f7 f10 f11 f12 f16
  simp only [Act.put, List.setIfInBounds_toArray, List.set_cons_succ, List.set_cons_zero]
  generalize v 3 = vv3
  generalize v 4 = vv4
  generalize v 8 = vv8
  generalize v 9 = vv9
  generalize v 13 = vv13
  generalize v 14 = vv14
  generalize v 15 = vv15
  have hV := kept_of_below hR k5
  have b0 := bX.trans (hR.mono bX.size)
  obtain ⟨y0, y1, y2, y3, y4, y5, y6, yf⟩ := blk7 hV
  have HB := hide (And.intro b0 hVlt)
  clear hV b0 CK CO hg1 hg2 ht 
  go_wp2
  exact bodyPost_ret (v := .agg #[.int .i64 qZ.k, .bool qZ.b, .int .i64 qZ.n, .string qZ.s, .string qZ.t, .string qZ.i, .slice qZ.lo qZ.ll qZ.lc]) (by simp [results, Try.results45, go_sem, y0, y1, y2, y3, y4, y5, y6]) rfl ⟨qZ, rfl, set7S_below (unhide HB).1 (Nat.le_add_right _ 4) _ _ _ _ _ _ _, yZ, ((unhide HhyZ).keep (w' := set7S _ _ _ _ _ _ _ _ _) (by rw [set7S_size]; exact Nat.le_refl _) (fun b hB _ => set7S_heap _ _ _ _ _ _ _ _ _ _ (by have := (unhide HB).2; omega))).weak hw3 (Nat.le_refl _)⟩
end Go.Proofs.Ytagnbpobcijakaa

namespace Go.Proofs.Ytagnbpobcijakaa
open Go.RowKit Go.Sort

set_option maxHeartbeats 8000000 in
set_option maxRecDepth 1000000 in
theorem build11_l (s : SP) (ko ao : Option Addr) (kc acp : Nat) (p ac r : ByteArray) (dq dp : Int) (n : Nat) (d : R4) (x : Rw) (h0 : 4 ≤ d.op % 12 ∧ d.op % 12 ≤ 8) (mm : Nat) (opv : Int) (h1 : d.n % 3 = (mm : Int)) (hm3 : mm < 3) (hO : (#[.int .i64 14, .int .i64 15, .int .i64 13] : Array Value)[mm]? = some (.int .i64 opv)) (hKo : (6 ≤ opv ∧ opv ≤ 25) ∧ 2 = wantN opv) (hT : nodeT s p r opv (ba []) (ba []) (ba []) [⟨2, 0, ⟨#[]⟩⟩, ⟨2, 0, ⟨#[]⟩⟩] = (⟨2, 0, ⟨#[]⟩⟩, 0)) (w : World) (hdp : IntKind.i64.wrap (dq - 1) = dp) (hx : IsR w d x) (COF : ∀ (w' : World) (t : T3) (d : R4) (x : Rw), Below w.heap.size w w' → GTy s t → IsR w' d x → Calls Try.prog 14 #[.agg #[.slice ko s.ks.length kc, .slice ao s.ac.length acp, .string p, .string ac, .string r, .int .i64 dp], .agg #[.int .i64 t.k, .int .i64 t.o, .string t.n], .agg #[.int .i64 d.op, .int .i64 d.n, .slice d.so d.sl d.sc, .slice d.lo d.ll d.lc]] w' fun e w9 => MakesT s p r t n w' e w9) : Calls Try.prog 45 #[.agg #[.slice ko s.ks.length kc, .slice ao s.ac.length acp], .agg #[.string p, .string ac, .string r], .agg #[.int .i64 2, .int .i64 0, .string ⟨#[]⟩], .agg #[.int .i64 d.op, .int .i64 d.n, .slice d.so d.sl d.sc, .slice d.lo d.ll d.lc], .int .i64 dq] w fun e w' => MakesT s p r ⟨2, 0, ⟨#[]⟩⟩ (n + 1) w e w' := by
 obtain ⟨bX, zX, k1, k2, k3, k4, k5⟩ := alloc5 w (.cells #[.slice ko s.ks.length kc, .slice ao s.ac.length acp] 33) (.cells #[.string p, .string ac, .string r] 42) (.cells #[.int .i64 2, .int .i64 0, .string ⟨#[]⟩] 54) (.cells #[.int .i64 d.op, .int .i64 d.n, .slice d.so d.sl d.sc, .slice d.lo d.ll d.lc] 49) (.cells #[.int .i64 0, .bool false, .int .i64 0, .string ⟨#[]⟩, .string ⟨#[]⟩, .string ⟨#[]⟩, .slice none 0 0] 39)
 obtain ⟨m, hm⟩ : ∃ m : Int, m = d.op % 12 := ⟨_, rfl⟩
 have hm12 : 0 ≤ m ∧ m < 12 := by omega
 have CW := fun w' => within11_any d.op 12 (by decide) (by decide) w'
 rw [← hm] at CW
 have Hm := hide hm
 clear hm
 have HX := hide hx
 have hg1 : GTy s ⟨1, 0, ⟨#[]⟩⟩ := .inl ⟨.inl rfl, rfl, rfl⟩
 have hg2 : GTy s ⟨2, 0, ⟨#[]⟩⟩ := .inl ⟨.inr (.inl rfl), rfl, rfl⟩
 have HO := hide hO
 have HKo := hide hKo
 have HT := hide hT
 have H1 := hide h1
 clear hx hO hKo hT h1
 go_enter Try.func45, Try.ntmps45
 go_upto_region 1 with fail
 generalize ((((w.alloc _).alloc _).alloc _).alloc _).alloc _ = w1 at *
 clear zX
 obtain ⟨cs0, cs1⟩ := bl2_ k1
 obtain ⟨cn0, cn1, cn2⟩ := bl3_ k2
 have b2 := blw1 w1 (.cells #[.slice ko s.ks.length kc, .slice ao s.ac.length acp, .string p, .string ac, .string r, .int .i64 dp] 52)
 have k6 := alloc_heap w1 (.cells #[.slice ko s.ks.length kc, .slice ao s.ac.length acp, .string p, .string ac, .string r, .int .i64 dp] 52)
 go_upto_region 2 with fail
 clear cs0 cs1 cn0 cn1 cn2
 have bX := bX.trans (b2.mono bX.size)
 have k1 := kept_of_below b2 k1
 have k2 := kept_of_below b2 k2
 have k3 := kept_of_below b2 k3
 have k4 := kept_of_below b2 k4
 have k5 := kept_of_below b2 k5
 generalize w1.alloc _ = w2 at *
 clear b2
 obtain ⟨bY, zY, k7, k8⟩ := alloc2 w2 (.cells #[.int .i64 2, .int .i64 0, .string ⟨#[]⟩] 54) (.cells #[.int .i64 1, .int .i64 0, .string ⟨#[]⟩] 54)
 go_upto_region 3 with fail
 have bX := bX.trans (bY.mono bX.size)
 have k1 := kept_of_below bY k1
 have k2 := kept_of_below bY k2
 have k3 := kept_of_below bY k3
 have k4 := kept_of_below bY k4
 have k5 := kept_of_below bY k5
 have k6 := kept_of_below bY k6
 generalize (w2.alloc _).alloc _ = w3 at *
 clear bY zY
 have rr0 : w3.cell? ⟨w.heap.size + 3, 0, none⟩ = some (.int .i64 d.op) := lc_ k4 rfl
 go_wp2_with fail
 refine (CW _).mono ?_
 clear CW rr0
 rintro e9 w9 ⟨rfl, hw9⟩
 have hw9 := hw9.symm
 subst hw9
 have hVlt : w.heap.size + 4 < w3.heap.size := (Array.getElem?_eq_some_iff.1 k5).1
 have hw3 : w.heap.size ≤ w3.heap.size := bX.size
 have CK := fun (i : Int) (h1 : 0 ≤ i ∧ i ≤ 10) w' (hb : Below w3.heap.size w3 w') => kid11_any d x i w' h1 (IsR.below (bX.trans (hb.mono bX.size)) d x (unhide HX))
 have CO := fun (t : T3) (ht : GTy s t) w' (hb : Below w3.heap.size w3 w') (d' : R4) (x' : Rw) (hx' : IsR w' d' x') => COF w' t d' x' (bX.trans (hb.mono bX.size)) ht hx'
 clear COF hdp
 obtain ⟨tt0, tt1, tt2⟩ := bl3_ k3
 obtain ⟨rr0, rr1, rr2, rr3⟩ := bl4_ k4
 obtain ⟨mk0, mk1, mk2, mk3, mk4, mk5⟩ := bl6_ k6
 have hm48 : 4 ≤ m ∧ m ≤ 8 := by rw [unhide Hm]; exact h0
 have CW2 := fun w' => within11_any d.n 3 (by decide) (by decide) w'
 rw [unhide H1] at CW2
 have gm0 : (m == 0) = false := by simpa using (show ¬ m = 0 by omega)
 have gm1 : ¬ m ≤ 3 := by omega
 have gm2 : m ≤ 8 := by omega
 clear hm48 h0 hm12
 go_upto_region 17 with fail
 clear tt0 tt1 tt2 rr0 rr1 rr2 rr3 mk0 mk1 mk2 mk3 mk4 mk5
 refine wp_specs_put 18 (SpM [.up (blkP (fun b => .slice (some ⟨b, 0, none⟩) 3 3) (.cells #[.int .i64 14, .int .i64 15, .int .i64 13] 3 (0, 0))), .eq (.pointer (some ⟨w.heap.size + 3, 1, none⟩)), .eq (.int .i64 d.n), .eq (.int .i64 (mm : Nat)), .up (blkP (fun b => .pointer (some ⟨b, mm, none⟩)) (.cells #[.int .i64 14, .int .i64 15, .int .i64 13] 3 (0, 0))), .eq (.int .i64 opv), .eq (.agg #[.slice ko s.ks.length kc, .slice ao s.ac.length acp, .string p, .string ac, .string r, .int .i64 dp]), .eq (.agg #[.int .i64 2, .int .i64 0, .string ⟨#[]⟩]), .eq (.agg #[.int .i64 d.op, .int .i64 d.n, .slice d.so d.sl d.sc, .slice d.lo d.ll d.lc]), .up (rawP), .up (treeP w3.heap.size s p r ⟨2, 0, ⟨#[]⟩⟩ n), .eq (.agg #[.slice ko s.ks.length kc, .slice ao s.ac.length acp, .string p, .string ac, .string r, .int .i64 dp]), .eq (.agg #[.int .i64 2, .int .i64 0, .string ⟨#[]⟩]), .eq (.agg #[.int .i64 d.op, .int .i64 d.n, .slice d.so d.sl d.sc, .slice d.lo d.ll d.lc]), .up (rawP), .up (treeP w3.heap.size s p r ⟨2, 0, ⟨#[]⟩⟩ n), .up (rowP w3.heap.size s p r [⟨2, 0, ⟨#[]⟩⟩, ⟨2, 0, ⟨#[]⟩⟩] n 2), .up (treeP w3.heap.size s p r ⟨2, 0, ⟨#[]⟩⟩ (n + 1))]) (fun w' => Below w3.heap.size w3 w') (by kernel_rfl) (by kernel_rfl) (Below.refl _ w3).drew ?_ ?_
 ·intro q o hq' ho a' w' hR hdep hslot K hK
  have m3 := kept_of_below hR k3
  have m4 := kept_of_below hR k4
  have m6 := kept_of_below hR k6
  have m7 := kept_of_below hR k7
  have m8 := kept_of_below hR k8
  obtain ⟨tt0, tt1, tt2⟩ := bl3_ m3
  obtain ⟨rr0, rr1, rr2, rr3⟩ := bl4_ m4
  obtain ⟨mk0, mk1, mk2, mk3, mk4, mk5⟩ := bl6_ m6
  obtain ⟨u0, u1, u2⟩ := bl3_ m7
  obtain ⟨tr0, tr1, tr2⟩ := bl3_ m8
  clear m3 m4 m6 m7 m8
  have l0 : (0 : Int) ≤ (mm : Int) := by omega
  have l1 : (mm : Int) < 3 := by omega
  have hc : q = 0 ∨ q = 1 ∨ q = 2 ∨ q = 3 ∨ q = 4 ∨ q = 5 ∨ q = 6 ∨ q = 7 ∨ q = 8 ∨ q = 9 ∨ q = 10 ∨ q = 11 ∨ q = 12 ∨ q = 13 ∨ q = 14 ∨ q = 15 ∨ q = 16 ∨ q = 17 := by omega
  rcases hc with rfl | rfl | rfl | rfl | rfl | rfl | rfl | rfl | rfl | rfl | rfl | rfl | rfl | rfl | rfl | rfl | rfl | rfl
  ·cases ho
   clear mk0 mk1 mk2 mk3 mk4 mk5 rr0 rr1 rr2 rr3 u0 u1 u2 tr0 tr1 tr2 tt0 tt1 tt2 l0 l1
   unfold Oper.wp
   go_simp
   exact hK _ _ ⟨w'.heap.size, rfl, alloc_heap _ _⟩ (hR.alloc hR.size _) (SpM.up (blw1 _ _))
  ·cases ho
   have e0 : a'.tmps.getD 8 undef = .pointer (some ⟨w.heap.size + 3, 0, none⟩) := hslot 8 (by decide)
   clear mk0 mk1 mk2 mk3 mk4 mk5 rr0 rr1 rr2 rr3 u0 u1 u2 tr0 tr1 tr2 tt0 tt1 tt2 l0 l1
   unfold Oper.wp
   go_simp
   exact hK _ _ rfl hR (fun _ _ h => h)
  ·cases ho
   have e0 : a'.tmps.getD 111 undef = .pointer (some ⟨w.heap.size + 3, 1, none⟩) := hdep 1 (by kernel_rfl)
   have e0' := gd_ e0
   clear mk0 mk1 mk2 mk3 mk4 mk5 rr0 rr2 rr3 u0 u1 u2 tr0 tr1 tr2 tt0 tt1 tt2 l0 l1
   unfold Oper.wp
   go_simp
   exact hK _ _ rfl hR (fun _ _ h => h)
  ·cases ho
   have e0 : a'.tmps.getD 112 undef = .int .i64 d.n := hdep 2 (by kernel_rfl)
   have e0' := gd_ e0
   clear mk0 mk1 mk2 mk3 mk4 mk5 rr0 rr1 rr2 rr3 u0 u1 u2 tr0 tr1 tr2 tt0 tt1 tt2 l0 l1
   unfold Oper.wp
   go_simp
   refine (CW2 w').mono ?_
   rintro e w9 ⟨rfl, hw9⟩
   subst hw9
   exact hK _ _ rfl hR (fun _ _ h => h)
  ·cases ho
   obtain ⟨b0, e0, ho0⟩ : (blkP (fun b => .slice (some ⟨b, 0, none⟩) 3 3) (.cells #[.int .i64 14, .int .i64 15, .int .i64 13] 3 (0, 0))).p (a'.tmps.getD 110 undef) w' := hdep 0 (by kernel_rfl)
   have e0' := gd_ e0
   have Hho0 := hide ho0
   have e1 : a'.tmps.getD 113 undef = .int .i64 (mm : Nat) := hdep 3 (by kernel_rfl)
   have e1' := gd_ e1
   clear ho0 mk0 mk1 mk2 mk3 mk4 mk5 rr0 rr1 rr2 rr3 u0 u1 u2 tr0 tr1 tr2 tt0 tt1 tt2
   unfold Oper.wp
   go_simp
   exact hK _ _ ⟨b0, rfl, unhide Hho0⟩ hR (fun _ _ h => h)
  ·cases ho
   obtain ⟨b0, e0, ho0⟩ : (blkP (fun b => .pointer (some ⟨b, mm, none⟩)) (.cells #[.int .i64 14, .int .i64 15, .int .i64 13] 3 (0, 0))).p (a'.tmps.getD 114 undef) w' := hdep 4 (by kernel_rfl)
   have e0' := gd_ e0
   have Hho0 := hide ho0
   have hcl : w'.cell? ⟨b0, mm, none⟩ = some (.int .i64 opv) := by rw [Lib.cell_of_heap ho0]; exact unhide HO
   clear ho0 mk0 mk1 mk2 mk3 mk4 mk5 rr0 rr1 rr2 rr3 u0 u1 u2 tr0 tr1 tr2 tt0 tt1 tt2 l0 l1
   unfold Oper.wp
   go_simp
   exact hK _ _ rfl hR (fun _ _ h => h)
  ·cases ho
   have e0 : a'.tmps.getD 11 undef = .pointer (some ⟨w1.heap.size, 0, none⟩) := hslot 11 (by decide)
   clear rr0 rr1 rr2 rr3 u0 u1 u2 tr0 tr1 tr2 tt0 tt1 tt2 l0 l1
   unfold Oper.wp
   go_simp
   exact hK _ _ rfl hR (fun _ _ h => h)
  ·cases ho
   have e0 : a'.tmps.getD 12 undef = .pointer (some ⟨w2.heap.size, 0, none⟩) := hslot 12 (by decide)
   clear mk0 mk1 mk2 mk3 mk4 mk5 rr0 rr1 rr2 rr3 tr0 tr1 tr2 tt0 tt1 tt2 l0 l1
   unfold Oper.wp
   go_simp
   exact hK _ _ rfl hR (fun _ _ h => h)
  ·cases ho
   have e0 : a'.tmps.getD 8 undef = .pointer (some ⟨w.heap.size + 3, 0, none⟩) := hslot 8 (by decide)
   clear mk0 mk1 mk2 mk3 mk4 mk5 u0 u1 u2 tr0 tr1 tr2 tt0 tt1 tt2 l0 l1
   unfold Oper.wp
   go_simp
   exact hK _ _ rfl hR (fun _ _ h => h)
  ·cases ho
   have e0 : a'.tmps.getD 118 undef = .agg #[.int .i64 d.op, .int .i64 d.n, .slice d.so d.sl d.sc, .slice d.lo d.ll d.lc] := hdep 8 (by kernel_rfl)
   have e0' := gd_ e0
   clear mk0 mk1 mk2 mk3 mk4 mk5 rr0 rr1 rr2 rr3 u0 u1 u2 tr0 tr1 tr2 tt0 tt1 tt2 l0 l1
   unfold Oper.wp
   go_simp
   refine (CK 0 (by decide) w' hR).mono ?_
   rintro e w9 ⟨⟨r9, y9, rfl, h9⟩, b9⟩
   exact hK _ _ ⟨r9, y9, rfl, h9⟩ (hR.trans (b9.mono hR.size)) (SpM.up b9)
  ·cases ho
   have e0 : a'.tmps.getD 116 undef = .agg #[.slice ko s.ks.length kc, .slice ao s.ac.length acp, .string p, .string ac, .string r, .int .i64 dp] := hdep 6 (by kernel_rfl)
   have e0' := gd_ e0
   have e1 : a'.tmps.getD 117 undef = .agg #[.int .i64 2, .int .i64 0, .string ⟨#[]⟩] := hdep 7 (by kernel_rfl)
   have e1' := gd_ e1
   obtain ⟨r2, x2, e2, hx2⟩ : (rawP).p (a'.tmps.getD 119 undef) w' := hdep 9 (by kernel_rfl)
   have e2' := gd_ e2
   have Hhx2 := hide hx2
   clear hx2 mk0 mk1 mk2 mk3 mk4 mk5 rr0 rr1 rr2 rr3 u0 u1 u2 tr0 tr1 tr2 tt0 tt1 tt2 l0 l1
   unfold Oper.wp
   go_simp
   refine (CO ⟨2, 0, ⟨#[]⟩⟩ hg2 w' hR r2 x2 (unhide Hhx2)).mono ?_
   rintro e w9 ⟨q9, rfl, b9, y9, h9⟩
   exact hK _ _ ⟨q9, y9, rfl, h9.weak hR.size (Nat.le_refl _)⟩ (hR.trans (b9.mono hR.size)) (SpM.up b9)
  ·cases ho
   have e0 : a'.tmps.getD 11 undef = .pointer (some ⟨w1.heap.size, 0, none⟩) := hslot 11 (by decide)
   clear rr0 rr1 rr2 rr3 u0 u1 u2 tr0 tr1 tr2 tt0 tt1 tt2 l0 l1
   unfold Oper.wp
   go_simp
   exact hK _ _ rfl hR (fun _ _ h => h)
  ·cases ho
   have e0 : a'.tmps.getD 12 undef = .pointer (some ⟨w2.heap.size, 0, none⟩) := hslot 12 (by decide)
   clear mk0 mk1 mk2 mk3 mk4 mk5 rr0 rr1 rr2 rr3 tr0 tr1 tr2 tt0 tt1 tt2 l0 l1
   unfold Oper.wp
   go_simp
   exact hK _ _ rfl hR (fun _ _ h => h)
  ·cases ho
   have e0 : a'.tmps.getD 8 undef = .pointer (some ⟨w.heap.size + 3, 0, none⟩) := hslot 8 (by decide)
   clear mk0 mk1 mk2 mk3 mk4 mk5 u0 u1 u2 tr0 tr1 tr2 tt0 tt1 tt2 l0 l1
   unfold Oper.wp
   go_simp
   exact hK _ _ rfl hR (fun _ _ h => h)
  ·cases ho
   have e0 : a'.tmps.getD 123 undef = .agg #[.int .i64 d.op, .int .i64 d.n, .slice d.so d.sl d.sc, .slice d.lo d.ll d.lc] := hdep 13 (by kernel_rfl)
   have e0' := gd_ e0
   clear mk0 mk1 mk2 mk3 mk4 mk5 rr0 rr1 rr2 rr3 u0 u1 u2 tr0 tr1 tr2 tt0 tt1 tt2 l0 l1
   unfold Oper.wp
   go_simp
   refine (CK 1 (by decide) w' hR).mono ?_
   rintro e w9 ⟨⟨r9, y9, rfl, h9⟩, b9⟩
   exact hK _ _ ⟨r9, y9, rfl, h9⟩ (hR.trans (b9.mono hR.size)) (SpM.up b9)
  ·cases ho
   have e0 : a'.tmps.getD 121 undef = .agg #[.slice ko s.ks.length kc, .slice ao s.ac.length acp, .string p, .string ac, .string r, .int .i64 dp] := hdep 11 (by kernel_rfl)
   have e0' := gd_ e0
   have e1 : a'.tmps.getD 122 undef = .agg #[.int .i64 2, .int .i64 0, .string ⟨#[]⟩] := hdep 12 (by kernel_rfl)
   have e1' := gd_ e1
   obtain ⟨r2, x2, e2, hx2⟩ : (rawP).p (a'.tmps.getD 124 undef) w' := hdep 14 (by kernel_rfl)
   have e2' := gd_ e2
   have Hhx2 := hide hx2
   clear hx2 mk0 mk1 mk2 mk3 mk4 mk5 rr0 rr1 rr2 rr3 u0 u1 u2 tr0 tr1 tr2 tt0 tt1 tt2 l0 l1
   unfold Oper.wp
   go_simp
   refine (CO ⟨2, 0, ⟨#[]⟩⟩ hg2 w' hR r2 x2 (unhide Hhx2)).mono ?_
   rintro e w9 ⟨q9, rfl, b9, y9, h9⟩
   exact hK _ _ ⟨q9, y9, rfl, h9.weak hR.size (Nat.le_refl _)⟩ (hR.trans (b9.mono hR.size)) (SpM.up b9)
  ·cases ho
   obtain ⟨q0, y0, e0, hy0⟩ : (treeP w3.heap.size s p r ⟨2, 0, ⟨#[]⟩⟩ n).p (a'.tmps.getD 120 undef) w' := hdep 10 (by kernel_rfl)
   have e0' := gd_ e0
   have Hhy0 := hide hy0
   obtain ⟨q1, y1, e1, hy1⟩ : (treeP w3.heap.size s p r ⟨2, 0, ⟨#[]⟩⟩ n).p (a'.tmps.getD 125 undef) w' := hdep 15 (by kernel_rfl)
   have e1' := gd_ e1
   have Hhy1 := hide hy1
   clear hy0 hy1 mk0 mk1 mk2 mk3 mk4 mk5 rr0 rr1 rr2 rr3 u0 u1 u2 tr0 tr1 tr2 tt0 tt1 tt2 l0 l1
   unfold Oper.wp
   go_simp
   exact hK _ _ ⟨w'.heap.size, [q0, q1], [y0, y1], _, rfl, hR.size, alloc_heap _ _, rfl, .cons ((unhide Hhy0).up (blw1 _ _)) (.cons ((unhide Hhy1).up (blw1 _ _)) .nil)⟩ (hR.alloc hR.size _) (SpM.up (blw1 _ _))
  ·cases ho
   have e0 : a'.tmps.getD 115 undef = .int .i64 opv := hdep 5 (by kernel_rfl)
   have e0' := gd_ e0
   obtain ⟨b1, qs1, es1, cs1, e1, hB1, hb1, hc1, ha1⟩ : (rowP w3.heap.size s p r [⟨2, 0, ⟨#[]⟩⟩, ⟨2, 0, ⟨#[]⟩⟩] n 2).p (a'.tmps.getD 126 undef) w' := hdep 16 (by kernel_rfl)
   have e1' := gd_ e1
   have HhB1 := hide hB1
   have Hhb1 := hide hb1
   have Hhc1 := hide hc1
   have Hha1 := hide ha1
   clear hB1 hb1 hc1 ha1 mk0 mk1 mk2 mk3 mk4 mk5 rr0 rr1 rr2 rr3 u0 u1 u2 tr0 tr1 tr2 tt0 tt1 tt2 l0 l1
   unfold Oper.wp
   go_simp
   exact hK _ _ ⟨⟨opv, false, 0, ⟨#[]⟩, ⟨#[]⟩, ⟨#[]⟩, some ⟨b1, 0, none⟩, 2, 2⟩, .mk opv false 0 [] [] [] es1, rfl, made_node (sx := []) (unhide Hhb1) (unhide Hhc1) (unhide HhB1) (unhide Hha1) rfl (unhide HKo).1 (fun _ => (unhide HKo).2) (by simp) (unhide HT)⟩ hR (fun _ _ h => h)
 ·intro v w' hR hall
  have f1 : v 1 = .pointer (some ⟨w.heap.size + 3, 1, none⟩) := hall 1 (by decide)
  have f2 : v 2 = .int .i64 d.n := hall 2 (by decide)
  have f3 : v 3 = .int .i64 (mm : Nat) := hall 3 (by decide)
  have f5 : v 5 = .int .i64 opv := hall 5 (by decide)
  have f6 : v 6 = .agg #[.slice ko s.ks.length kc, .slice ao s.ac.length acp, .string p, .string ac, .string r, .int .i64 dp] := hall 6 (by decide)
  have f7 : v 7 = .agg #[.int .i64 2, .int .i64 0, .string ⟨#[]⟩] := hall 7 (by decide)
  have f8 : v 8 = .agg #[.int .i64 d.op, .int .i64 d.n, .slice d.so d.sl d.sc, .slice d.lo d.ll d.lc] := hall 8 (by decide)
  have f11 : v 11 = .agg #[.slice ko s.ks.length kc, .slice ao s.ac.length acp, .string p, .string ac, .string r, .int .i64 dp] := hall 11 (by decide)
  have f12 : v 12 = .agg #[.int .i64 2, .int .i64 0, .string ⟨#[]⟩] := hall 12 (by decide)
  have f13 : v 13 = .agg #[.int .i64 d.op, .int .i64 d.n, .slice d.so d.sl d.sc, .slice d.lo d.ll d.lc] := hall 13 (by decide)
  obtain ⟨qZ, yZ, eZ, hyZ⟩ : (treeP w3.heap.size s p r ⟨2, 0, ⟨#[]⟩⟩ (n + 1)).p (v 17) w' := hall 17 (by decide)
  have f17 : v 17 = .agg #[.int .i64 qZ.k, .bool qZ.b, .int .i64 qZ.n, .string qZ.s, .string qZ.t, .string qZ.i, .slice qZ.lo qZ.ll qZ.lc] := eZ
  clear eZ
  have HhyZ := hide hyZ
  clear hyZ
  clear hall
  simp only [putAll, dstOf, List.getElem?_cons_zero, List.getElem?_cons_succ, Option.bind_some, List.drop_succ_cons, List.drop_zero, f1, f2, f3, f5, f6, f7, f8, f11, f12, f13, f17]
  clear f1 f2 f3 f5 f6 f7 f8 f11 f12 f13 f17
  simp only [Act.put, List.setIfInBounds_toArray, List.set_cons_succ, List.set_cons_zero]
  generalize v 0 = vv0
  generalize v 4 = vv4
  generalize v 9 = vv9
  generalize v 10 = vv10
  generalize v 14 = vv14
  generalize v 15 = vv15
  generalize v 16 = vv16
  have hV := kept_of_below hR k5
  have b0 := bX.trans (hR.mono bX.size)
  obtain ⟨y0, y1, y2, y3, y4, y5, y6, yf⟩ := blk7 hV
  have HB := hide (And.intro b0 hVlt)
  clear hV b0 CK CO hg1 hg2  CW2
  go_wp2
  exact bodyPost_ret (v := .agg #[.int .i64 qZ.k, .bool qZ.b, .int .i64 qZ.n, .string qZ.s, .string qZ.t, .string qZ.i, .slice qZ.lo qZ.ll qZ.lc]) (by simp [results, Try.results45, go_sem, y0, y1, y2, y3, y4, y5, y6]) rfl ⟨qZ, rfl, set7S_below (unhide HB).1 (Nat.le_add_right _ 4) _ _ _ _ _ _ _, yZ, ((unhide HhyZ).keep (w' := set7S _ _ _ _ _ _ _ _ _) (by rw [set7S_size]; exact Nat.le_refl _) (fun b hB _ => set7S_heap _ _ _ _ _ _ _ _ _ _ (by have := (unhide HB).2; omega))).weak hw3 (Nat.le_refl _)⟩
end Go.Proofs.Ytagnbpobcijakaa

namespace Go.Proofs.Ytagnbpobcijakaa
open Go.RowKit Go.Sort

set_option maxHeartbeats 8000000 in
set_option maxRecDepth 1000000 in
theorem build11_neg (s : SP) (ko ao : Option Addr) (kc acp : Nat) (p ac r : ByteArray) (dq dp : Int) (n : Nat) (d : R4) (x : Rw) (h0 : d.op % 12 = 9) (w : World) (hdp : IntKind.i64.wrap (dq - 1) = dp) (hx : IsR w d x) (COF : ∀ (w' : World) (t : T3) (d : R4) (x : Rw), Below w.heap.size w w' → GTy s t → IsR w' d x → Calls Try.prog 14 #[.agg #[.slice ko s.ks.length kc, .slice ao s.ac.length acp, .string p, .string ac, .string r, .int .i64 dp], .agg #[.int .i64 t.k, .int .i64 t.o, .string t.n], .agg #[.int .i64 d.op, .int .i64 d.n, .slice d.so d.sl d.sc, .slice d.lo d.ll d.lc]] w' fun e w9 => MakesT s p r t n w' e w9) : Calls Try.prog 45 #[.agg #[.slice ko s.ks.length kc, .slice ao s.ac.length acp], .agg #[.string p, .string ac, .string r], .agg #[.int .i64 2, .int .i64 0, .string ⟨#[]⟩], .agg #[.int .i64 d.op, .int .i64 d.n, .slice d.so d.sl d.sc, .slice d.lo d.ll d.lc], .int .i64 dq] w fun e w' => MakesT s p r ⟨2, 0, ⟨#[]⟩⟩ (n + 1) w e w' := by
 obtain ⟨bX, zX, k1, k2, k3, k4, k5⟩ := alloc5 w (.cells #[.slice ko s.ks.length kc, .slice ao s.ac.length acp] 33) (.cells #[.string p, .string ac, .string r] 42) (.cells #[.int .i64 2, .int .i64 0, .string ⟨#[]⟩] 54) (.cells #[.int .i64 d.op, .int .i64 d.n, .slice d.so d.sl d.sc, .slice d.lo d.ll d.lc] 49) (.cells #[.int .i64 0, .bool false, .int .i64 0, .string ⟨#[]⟩, .string ⟨#[]⟩, .string ⟨#[]⟩, .slice none 0 0] 39)
 obtain ⟨m, hm⟩ : ∃ m : Int, m = d.op % 12 := ⟨_, rfl⟩
 have hm12 : 0 ≤ m ∧ m < 12 := by omega
 have CW := fun w' => within11_any d.op 12 (by decide) (by decide) w'
 rw [← hm] at CW
 have Hm := hide hm
 clear hm
 have HX := hide hx
 have hg1 : GTy s ⟨1, 0, ⟨#[]⟩⟩ := .inl ⟨.inl rfl, rfl, rfl⟩
 have hg2 : GTy s ⟨2, 0, ⟨#[]⟩⟩ := .inl ⟨.inr (.inl rfl), rfl, rfl⟩
 clear hx
 go_enter Try.func45, Try.ntmps45
 go_upto_region 1 with fail
 generalize ((((w.alloc _).alloc _).alloc _).alloc _).alloc _ = w1 at *
 clear zX
 obtain ⟨cs0, cs1⟩ := bl2_ k1
 obtain ⟨cn0, cn1, cn2⟩ := bl3_ k2
 have b2 := blw1 w1 (.cells #[.slice ko s.ks.length kc, .slice ao s.ac.length acp, .string p, .string ac, .string r, .int .i64 dp] 52)
 have k6 := alloc_heap w1 (.cells #[.slice ko s.ks.length kc, .slice ao s.ac.length acp, .string p, .string ac, .string r, .int .i64 dp] 52)
 go_upto_region 2 with fail
 clear cs0 cs1 cn0 cn1 cn2
 have bX := bX.trans (b2.mono bX.size)
 have k1 := kept_of_below b2 k1
 have k2 := kept_of_below b2 k2
 have k3 := kept_of_below b2 k3
 have k4 := kept_of_below b2 k4
 have k5 := kept_of_below b2 k5
 generalize w1.alloc _ = w2 at *
 clear b2
 obtain ⟨bY, zY, k7, k8⟩ := alloc2 w2 (.cells #[.int .i64 2, .int .i64 0, .string ⟨#[]⟩] 54) (.cells #[.int .i64 1, .int .i64 0, .string ⟨#[]⟩] 54)
 go_upto_region 3 with fail
 have bX := bX.trans (bY.mono bX.size)
 have k1 := kept_of_below bY k1
 have k2 := kept_of_below bY k2
 have k3 := kept_of_below bY k3
 have k4 := kept_of_below bY k4
 have k5 := kept_of_below bY k5
 have k6 := kept_of_below bY k6
 generalize (w2.alloc _).alloc _ = w3 at *
 clear bY zY
 have rr0 : w3.cell? ⟨w.heap.size + 3, 0, none⟩ = some (.int .i64 d.op) := lc_ k4 rfl
 go_wp2_with fail
 refine (CW _).mono ?_
 clear CW rr0
 rintro e9 w9 ⟨rfl, hw9⟩
 have hw9 := hw9.symm
 subst hw9
 have hVlt : w.heap.size + 4 < w3.heap.size := (Array.getElem?_eq_some_iff.1 k5).1
 have hw3 : w.heap.size ≤ w3.heap.size := bX.size
 have CK := fun (i : Int) (h1 : 0 ≤ i ∧ i ≤ 10) w' (hb : Below w3.heap.size w3 w') => kid11_any d x i w' h1 (IsR.below (bX.trans (hb.mono bX.size)) d x (unhide HX))
 have CO := fun (t : T3) (ht : GTy s t) w' (hb : Below w3.heap.size w3 w') (d' : R4) (x' : Rw) (hx' : IsR w' d' x') => COF w' t d' x' (bX.trans (hb.mono bX.size)) ht hx'
 clear COF hdp
 obtain ⟨tt0, tt1, tt2⟩ := bl3_ k3
 obtain ⟨rr0, rr1, rr2, rr3⟩ := bl4_ k4
 obtain ⟨mk0, mk1, mk2, mk3, mk4, mk5⟩ := bl6_ k6
 have hm0 : m = 9 := (unhide Hm).trans h0
 subst hm0
 have HT := hide (show nodeT s p r 12 (ba []) (ba []) (ba []) [⟨2, 0, ⟨#[]⟩⟩] = (⟨2, 0, ⟨#[]⟩⟩, 0) from rfl)
 clear h0 hm12
 go_upto_region 19 with fail
 clear tt0 tt1 tt2 rr0 rr1 rr2 rr3 mk0 mk1 mk2 mk3 mk4 mk5
 refine wp_specs_put 7 (SpM [.eq (.agg #[.slice ko s.ks.length kc, .slice ao s.ac.length acp, .string p, .string ac, .string r, .int .i64 dp]), .eq (.agg #[.int .i64 2, .int .i64 0, .string ⟨#[]⟩]), .eq (.agg #[.int .i64 d.op, .int .i64 d.n, .slice d.so d.sl d.sc, .slice d.lo d.ll d.lc]), .up (rawP), .up (treeP w3.heap.size s p r ⟨2, 0, ⟨#[]⟩⟩ n), .up (rowP w3.heap.size s p r [⟨2, 0, ⟨#[]⟩⟩] n 1), .up (treeP w3.heap.size s p r ⟨2, 0, ⟨#[]⟩⟩ (n + 1))]) (fun w' => Below w3.heap.size w3 w') (by kernel_rfl) (by kernel_rfl) (Below.refl _ w3).drew ?_ ?_
 ·intro q o hq' ho a' w' hR hdep hslot K hK
  have m3 := kept_of_below hR k3
  have m4 := kept_of_below hR k4
  have m6 := kept_of_below hR k6
  have m7 := kept_of_below hR k7
  have m8 := kept_of_below hR k8
  obtain ⟨tt0, tt1, tt2⟩ := bl3_ m3
  obtain ⟨rr0, rr1, rr2, rr3⟩ := bl4_ m4
  obtain ⟨mk0, mk1, mk2, mk3, mk4, mk5⟩ := bl6_ m6
  obtain ⟨u0, u1, u2⟩ := bl3_ m7
  obtain ⟨tr0, tr1, tr2⟩ := bl3_ m8
  clear m3 m4 m6 m7 m8
  have hc : q = 0 ∨ q = 1 ∨ q = 2 ∨ q = 3 ∨ q = 4 ∨ q = 5 ∨ q = 6 := by omega
  rcases hc with rfl | rfl | rfl | rfl | rfl | rfl | rfl
  ·cases ho
   have e0 : a'.tmps.getD 11 undef = .pointer (some ⟨w1.heap.size, 0, none⟩) := hslot 11 (by decide)
   clear rr0 rr1 rr2 rr3 u0 u1 u2 tr0 tr1 tr2 tt0 tt1 tt2
   unfold Oper.wp
   go_simp
   exact hK _ _ rfl hR (fun _ _ h => h)
  ·cases ho
   have e0 : a'.tmps.getD 12 undef = .pointer (some ⟨w2.heap.size, 0, none⟩) := hslot 12 (by decide)
   clear mk0 mk1 mk2 mk3 mk4 mk5 rr0 rr1 rr2 rr3 tr0 tr1 tr2 tt0 tt1 tt2
   unfold Oper.wp
   go_simp
   exact hK _ _ rfl hR (fun _ _ h => h)
  ·cases ho
   have e0 : a'.tmps.getD 8 undef = .pointer (some ⟨w.heap.size + 3, 0, none⟩) := hslot 8 (by decide)
   clear mk0 mk1 mk2 mk3 mk4 mk5 u0 u1 u2 tr0 tr1 tr2 tt0 tt1 tt2
   unfold Oper.wp
   go_simp
   exact hK _ _ rfl hR (fun _ _ h => h)
  ·cases ho
   have e0 : a'.tmps.getD 138 undef = .agg #[.int .i64 d.op, .int .i64 d.n, .slice d.so d.sl d.sc, .slice d.lo d.ll d.lc] := hdep 2 (by kernel_rfl)
   have e0' := gd_ e0
   clear mk0 mk1 mk2 mk3 mk4 mk5 rr0 rr1 rr2 rr3 u0 u1 u2 tr0 tr1 tr2 tt0 tt1 tt2
   unfold Oper.wp
   go_simp
   refine (CK 0 (by decide) w' hR).mono ?_
   rintro e w9 ⟨⟨r9, y9, rfl, h9⟩, b9⟩
   exact hK _ _ ⟨r9, y9, rfl, h9⟩ (hR.trans (b9.mono hR.size)) (SpM.up b9)
  ·cases ho
   have e0 : a'.tmps.getD 136 undef = .agg #[.slice ko s.ks.length kc, .slice ao s.ac.length acp, .string p, .string ac, .string r, .int .i64 dp] := hdep 0 (by kernel_rfl)
   have e0' := gd_ e0
   have e1 : a'.tmps.getD 137 undef = .agg #[.int .i64 2, .int .i64 0, .string ⟨#[]⟩] := hdep 1 (by kernel_rfl)
   have e1' := gd_ e1
   obtain ⟨r2, x2, e2, hx2⟩ : (rawP).p (a'.tmps.getD 139 undef) w' := hdep 3 (by kernel_rfl)
   have e2' := gd_ e2
   have Hhx2 := hide hx2
   clear hx2 mk0 mk1 mk2 mk3 mk4 mk5 rr0 rr1 rr2 rr3 u0 u1 u2 tr0 tr1 tr2 tt0 tt1 tt2
   unfold Oper.wp
   go_simp
   refine (CO ⟨2, 0, ⟨#[]⟩⟩ hg2 w' hR r2 x2 (unhide Hhx2)).mono ?_
   rintro e w9 ⟨q9, rfl, b9, y9, h9⟩
   exact hK _ _ ⟨q9, y9, rfl, h9.weak hR.size (Nat.le_refl _)⟩ (hR.trans (b9.mono hR.size)) (SpM.up b9)
  ·cases ho
   obtain ⟨q0, y0, e0, hy0⟩ : (treeP w3.heap.size s p r ⟨2, 0, ⟨#[]⟩⟩ n).p (a'.tmps.getD 140 undef) w' := hdep 4 (by kernel_rfl)
   have e0' := gd_ e0
   have Hhy0 := hide hy0
   clear hy0 mk0 mk1 mk2 mk3 mk4 mk5 rr0 rr1 rr2 rr3 u0 u1 u2 tr0 tr1 tr2 tt0 tt1 tt2
   unfold Oper.wp
   go_simp
   exact hK _ _ ⟨w'.heap.size, [q0], [y0], _, rfl, hR.size, alloc_heap _ _, rfl, .cons ((unhide Hhy0).up (blw1 _ _)) .nil⟩ (hR.alloc hR.size _) (SpM.up (blw1 _ _))
  ·cases ho
   obtain ⟨b0, qs0, es0, cs0, e0, hB0, hb0, hc0, ha0⟩ : (rowP w3.heap.size s p r [⟨2, 0, ⟨#[]⟩⟩] n 1).p (a'.tmps.getD 141 undef) w' := hdep 5 (by kernel_rfl)
   have e0' := gd_ e0
   have HhB0 := hide hB0
   have Hhb0 := hide hb0
   have Hhc0 := hide hc0
   have Hha0 := hide ha0
   clear hB0 hb0 hc0 ha0 mk0 mk1 mk2 mk3 mk4 mk5 rr0 rr1 rr2 rr3 u0 u1 u2 tr0 tr1 tr2 tt0 tt1 tt2
   unfold Oper.wp
   go_simp
   exact hK _ _ ⟨⟨12, false, 0, ⟨#[]⟩, ⟨#[]⟩, ⟨#[]⟩, some ⟨b0, 0, none⟩, 1, 1⟩, .mk 12 false 0 [] [] [] es0, rfl, made_node (sx := []) (unhide Hhb0) (unhide Hhc0) (unhide HhB0) (unhide Hha0) rfl (by decide) (fun _ => rfl) (by simp) (unhide HT)⟩ hR (fun _ _ h => h)
 ·intro v w' hR hall
  have f0 : v 0 = .agg #[.slice ko s.ks.length kc, .slice ao s.ac.length acp, .string p, .string ac, .string r, .int .i64 dp] := hall 0 (by decide)
  have f1 : v 1 = .agg #[.int .i64 2, .int .i64 0, .string ⟨#[]⟩] := hall 1 (by decide)
  have f2 : v 2 = .agg #[.int .i64 d.op, .int .i64 d.n, .slice d.so d.sl d.sc, .slice d.lo d.ll d.lc] := hall 2 (by decide)
  obtain ⟨qZ, yZ, eZ, hyZ⟩ : (treeP w3.heap.size s p r ⟨2, 0, ⟨#[]⟩⟩ (n + 1)).p (v 6) w' := hall 6 (by decide)
  have f6 : v 6 = .agg #[.int .i64 qZ.k, .bool qZ.b, .int .i64 qZ.n, .string qZ.s, .string qZ.t, .string qZ.i, .slice qZ.lo qZ.ll qZ.lc] := eZ
  clear eZ
  have HhyZ := hide hyZ
  clear hyZ
  clear hall
  simp only [putAll, dstOf, List.getElem?_cons_zero, List.getElem?_cons_succ, Option.bind_some, List.drop_succ_cons, List.drop_zero, f0, f1, f2, f6]
  clear f0 f1 f2 f6
  simp only [Act.put, List.setIfInBounds_toArray, List.set_cons_succ, List.set_cons_zero]
  generalize v 3 = vv3
  generalize v 4 = vv4
  generalize v 5 = vv5
  have hV := kept_of_below hR k5
  have b0 := bX.trans (hR.mono bX.size)
  obtain ⟨y0, y1, y2, y3, y4, y5, y6, yf⟩ := blk7 hV
  have HB := hide (And.intro b0 hVlt)
  clear hV b0 CK CO hg1 hg2  
  go_wp2
  exact bodyPost_ret (v := .agg #[.int .i64 qZ.k, .bool qZ.b, .int .i64 qZ.n, .string qZ.s, .string qZ.t, .string qZ.i, .slice qZ.lo qZ.ll qZ.lc]) (by simp [results, Try.results45, go_sem, y0, y1, y2, y3, y4, y5, y6]) rfl ⟨qZ, rfl, set7S_below (unhide HB).1 (Nat.le_add_right _ 4) _ _ _ _ _ _ _, yZ, ((unhide HhyZ).keep (w' := set7S _ _ _ _ _ _ _ _ _) (by rw [set7S_size]; exact Nat.le_refl _) (fun b hB _ => set7S_heap _ _ _ _ _ _ _ _ _ _ (by have := (unhide HB).2; omega))).weak hw3 (Nat.le_refl _)⟩
end Go.Proofs.Ytagnbpobcijakaa

namespace Go.Proofs.Ytagnbpobcijakaa
open Go.RowKit Go.Sort

set_option maxHeartbeats 8000000 in
set_option maxRecDepth 1000000 in
theorem build11_truth (s : SP) (ko ao : Option Addr) (kc acp : Nat) (p ac r : ByteArray) (dq dp : Int) (n : Nat) (d : R4) (x : Rw) (hp : isKn s p) (hr : isKn s r) (h0 : 4 ≤ d.op % 12) (w : World) (hdp : IntKind.i64.wrap (dq - 1) = dp) (hx : IsR w d x) (COF : ∀ (w' : World) (t : T3) (d : R4) (x : Rw), Below w.heap.size w w' → GTy s t → IsR w' d x → Calls Try.prog 14 #[.agg #[.slice ko s.ks.length kc, .slice ao s.ac.length acp, .string p, .string ac, .string r, .int .i64 dp], .agg #[.int .i64 t.k, .int .i64 t.o, .string t.n], .agg #[.int .i64 d.op, .int .i64 d.n, .slice d.so d.sl d.sc, .slice d.lo d.ll d.lc]] w' fun e w9 => MakesT s p r t n w' e w9) : Calls Try.prog 45 #[.agg #[.slice ko s.ks.length kc, .slice ao s.ac.length acp], .agg #[.string p, .string ac, .string r], .agg #[.int .i64 1, .int .i64 0, .string ⟨#[]⟩], .agg #[.int .i64 d.op, .int .i64 d.n, .slice d.so d.sl d.sc, .slice d.lo d.ll d.lc], .int .i64 dq] w fun e w' => MakesT s p r ⟨1, 0, ⟨#[]⟩⟩ (n + 1) w e w' := by
 obtain ⟨bX, zX, k1, k2, k3, k4, k5⟩ := alloc5 w (.cells #[.slice ko s.ks.length kc, .slice ao s.ac.length acp] 33) (.cells #[.string p, .string ac, .string r] 42) (.cells #[.int .i64 1, .int .i64 0, .string ⟨#[]⟩] 54) (.cells #[.int .i64 d.op, .int .i64 d.n, .slice d.so d.sl d.sc, .slice d.lo d.ll d.lc] 49) (.cells #[.int .i64 0, .bool false, .int .i64 0, .string ⟨#[]⟩, .string ⟨#[]⟩, .string ⟨#[]⟩, .slice none 0 0] 39)
 obtain ⟨m, hm⟩ : ∃ m : Int, m = d.op % 12 := ⟨_, rfl⟩
 have hm12 : 0 ≤ m ∧ m < 12 := by omega
 have CW := fun w' => within11_any d.op 12 (by decide) (by decide) w'
 rw [← hm] at CW
 have Hm := hide hm
 clear hm
 have HX := hide hx
 have hg1 : GTy s ⟨1, 0, ⟨#[]⟩⟩ := .inl ⟨.inl rfl, rfl, rfl⟩
 have hg2 : GTy s ⟨2, 0, ⟨#[]⟩⟩ := .inl ⟨.inr (.inl rfl), rfl, rfl⟩
 clear hx
 go_enter Try.func45, Try.ntmps45
 go_upto_region 1 with fail
 generalize ((((w.alloc _).alloc _).alloc _).alloc _).alloc _ = w1 at *
 clear zX
 obtain ⟨cs0, cs1⟩ := bl2_ k1
 obtain ⟨cn0, cn1, cn2⟩ := bl3_ k2
 have b2 := blw1 w1 (.cells #[.slice ko s.ks.length kc, .slice ao s.ac.length acp, .string p, .string ac, .string r, .int .i64 dp] 52)
 have k6 := alloc_heap w1 (.cells #[.slice ko s.ks.length kc, .slice ao s.ac.length acp, .string p, .string ac, .string r, .int .i64 dp] 52)
 go_upto_region 2 with fail
 clear cs0 cs1 cn0 cn1 cn2
 have bX := bX.trans (b2.mono bX.size)
 have k1 := kept_of_below b2 k1
 have k2 := kept_of_below b2 k2
 have k3 := kept_of_below b2 k3
 have k4 := kept_of_below b2 k4
 have k5 := kept_of_below b2 k5
 generalize w1.alloc _ = w2 at *
 clear b2
 obtain ⟨bY, zY, k7, k8⟩ := alloc2 w2 (.cells #[.int .i64 2, .int .i64 0, .string ⟨#[]⟩] 54) (.cells #[.int .i64 1, .int .i64 0, .string ⟨#[]⟩] 54)
 go_upto_region 3 with fail
 have bX := bX.trans (bY.mono bX.size)
 have k1 := kept_of_below bY k1
 have k2 := kept_of_below bY k2
 have k3 := kept_of_below bY k3
 have k4 := kept_of_below bY k4
 have k5 := kept_of_below bY k5
 have k6 := kept_of_below bY k6
 generalize (w2.alloc _).alloc _ = w3 at *
 clear bY zY
 have rr0 : w3.cell? ⟨w.heap.size + 3, 0, none⟩ = some (.int .i64 d.op) := lc_ k4 rfl
 go_wp2_with fail
 refine (CW _).mono ?_
 clear CW rr0
 rintro e9 w9 ⟨rfl, hw9⟩
 have hw9 := hw9.symm
 subst hw9
 have hVlt : w.heap.size + 4 < w3.heap.size := (Array.getElem?_eq_some_iff.1 k5).1
 have hw3 : w.heap.size ≤ w3.heap.size := bX.size
 have CK := fun (i : Int) (h1 : 0 ≤ i ∧ i ≤ 10) w' (hb : Below w3.heap.size w3 w') => kid11_any d x i w' h1 (IsR.below (bX.trans (hb.mono bX.size)) d x (unhide HX))
 have CO := fun (t : T3) (ht : GTy s t) w' (hb : Below w3.heap.size w3 w') (d' : R4) (x' : Rw) (hx' : IsR w' d' x') => COF w' t d' x' (bX.trans (hb.mono bX.size)) ht hx'
 have CT := truth11_any s ko ao kc acp p ac r dp n d x m w3 hp hr (IsR.below bX d x (unhide HX)) (fun w' t d x hb ht hx => COF w' t d x (bX.trans (hb.mono bX.size)) ht hx)
 clear COF hdp hp hr
 obtain ⟨tt0, tt1, tt2⟩ := bl3_ k3
 obtain ⟨rr0, rr1, rr2, rr3⟩ := bl4_ k4
 obtain ⟨mk0, mk1, mk2, mk3, mk4, mk5⟩ := bl6_ k6
 have hm4 : 4 ≤ m := by rw [unhide Hm]; exact h0
 have gm0 : (m == 0) = false := by simpa using (show ¬ m = 0 by omega)
 have gm1 : ¬ m ≤ 3 := by omega
 clear h0 hm12 hm4 CK CO hg1 hg2
 go_upto_region 21 with fail
 go_wp2_with fail
 refine CT.mono ?_
 clear CT
 clear tt0 tt1 tt2 rr0 rr1 rr2 rr3 mk0 mk1 mk2 mk3 mk4 mk5
 rintro e9 w5 ⟨q, rfl, b5, y, hy⟩
 have hV := kept_of_below b5 k5
 have b0 := bX.trans (b5.mono bX.size)
 obtain ⟨y0, y1, y2, y3, y4, y5, y6, yf⟩ := blk7 hV
 have HB := hide (And.intro b0 hVlt)
 have Hy := hide hy
 clear hV b0 hy
 go_wp2
 exact bodyPost_ret (v := .agg #[.int .i64 q.k, .bool q.b, .int .i64 q.n, .string q.s, .string q.t, .string q.i, .slice q.lo q.ll q.lc]) (by simp [results, Try.results45, go_sem, y0, y1, y2, y3, y4, y5, y6]) rfl ⟨q, rfl, set7S_below (unhide HB).1 (Nat.le_add_right _ 4) _ _ _ _ _ _ _, y, ((unhide Hy).keep (w' := set7S _ _ _ _ _ _ _ _ _) (by rw [set7S_size]; exact Nat.le_refl _) (fun b hB _ => set7S_heap _ _ _ _ _ _ _ _ _ _ (by have := (unhide HB).2; omega))).weak hw3 (Nat.le_refl _)⟩
end Go.Proofs.Ytagnbpobcijakaa
