/-
 chancellaw11.TypesMade: the walk.
-/
import Derived.Test.YtagnbpobcijakaaTmEG
import Derived.Test.YtagnbpobcijakaaRwAL
import Derived.Deep.Cut
namespace Go.Proofs.Ytagnbpobcijakaa
open Go.RowKit Go.Sort

set_option maxHeartbeats 16000000 in
set_option maxRecDepth 1000000 in
theorem typesMade_walk (ks : List LK) (as_ : List LA) (lko lao : Option Addr) (lkc lac : Nat) (n tt : Int) (da : R4) (xa : Rw) (db : R4) (xb_ : Rw) (w : World) (hk : IsLKs w lko ks) (ha : IsLAs w lao as_) (hkp : ∀ j (h : j < ks.length), ks[j].ps.length ≤ 9223372036854775807 ∧ ks[j].fs.length ≤ 9223372036854775807) (hap : ∀ j (h : j < as_.length), as_[j].p.length ≤ 9223372036854775807 ∧ as_[j].r.length ≤ 9223372036854775807) (hxa : IsR w da xa) (hxb : IsR w db xb_) :
  Calls Try.prog 4 #[.slice lko ks.length lkc, .slice lao as_.length lac, .int .i64 n, .int .i64 tt, .agg #[.int .i64 da.op, .int .i64 da.n, .slice da.so da.sl da.sc, .slice da.lo da.ll da.lc], .agg #[.int .i64 db.op, .int .i64 db.n, .slice db.so db.sl db.sc, .slice db.lo db.ll db.lc]] w fun e w' => e = .returned (.bool true) ∧ Below w.heap.size w w' := by
 have C0 := fun w' => known11_any w'
 have CG := fun w' (hb : Below w.heap.size w w') => good_any ks as_ lko lao lkc lac w' (lks_below hk hb) (las_below ha hb) hkp hap
 have FA := fun w' (hb : Below w.heap.size w w') => few11_any (depR xa) xa da w' 60 (Nat.le_refl _) (IsR.below hb da xa hxa) (by decide) (by decide)
 have FB := fun w' (hb : Below w.heap.size w w') => few11_any (depR xb_) xb_ db w' 60 (Nat.le_refl _) (IsR.below hb db xb_ hxb) (by decide) (by decide)
 unfold R4.val at FA FB
 have hfew := few_good (tiny_schema ks as_)
 have hna : noneB (goodS (schemaS ks as_)).names ⟨#[65, 99, 116, 105, 111, 110]⟩ = true := good_noAction (schemaS ks as_)
 have hfs := good_fsch (tiny_schema ks as_)
 have HEK := hide (fun (E : V3) (h : E ∈ allA (goodS (schemaS ks as_)).ac) => env_kn h)
 have HXA := hide hxa
 have HXB := hide hxb
 clear hk ha hkp hap hxa hxb
 generalize goodS (schemaS ks as_) = s at *
 generalize fewRT xa 60 = fa at *
 generalize fewRT xb_ 60 = fb at *
 have hsm : SmS s := ⟨by have := hfew.ks; omega, by have := hfew.ac; omega, fun k hk => by have := hfew.k k hk; omega, fun k hk => by have := hfew.a k hk; omega⟩
 have HFA : ∀ a ∈ s.ac, a.pr.length ≤ 4 ∧ a.re.length ≤ 4 := fun a ha => by have := hfew.a a ha; omega
 have hac15 := hfew.ac
 have hsumA : (allA s.ac).length ≤ 240 := by rw [allA_len]; exact sumA_small hac15 HFA
 have HCE := hide (fun v w' (hs : IsS w' v s) => env11_any s v n w' (by omega) (fun a ha => by have := HFA a ha; omega) (by omega) hs)
 have HFS := hide hfs
 clear HFA hac15 hsumA hfew hfs
 obtain ⟨bX, zX, kA, kB⟩ := alloc2 w (.cells #[.int .i64 da.op, .int .i64 da.n, .slice da.so da.sl da.sc, .slice da.lo da.ll da.lc] 49) (.cells #[.int .i64 db.op, .int .i64 db.n, .slice db.so db.sl db.sc, .slice db.lo db.ll db.lc] 49)
 go_enter Try.func4, Try.ntmps4
 go_upto_region 1 with fail
 generalize (w.alloc _).alloc _ = w1 at *
 clear zX
 go_wp2_with fail
 refine (C0 w1).mono ?_
 clear C0
 rintro e9 w2 ⟨rfl, b2⟩
 have b02 := bX.trans (b2.mono bX.size)
 have kA := kept_of_below b2 kA
 have kB := kept_of_below b2 kB
 have CG2 := CG w2 b02
 clear CG
 go_wp2_with fail
 refine CG2.mono ?_
 clear CG2
 rintro e9 w3 ⟨b3, v, rfl, hST⟩
 obtain ⟨ko, kc, ao, acp, rfl, _, _⟩ := hST.ex2
 have b4 := blw1 w3 (.cells #[.slice ko s.ks.length kc, .slice ao s.ac.length acp] 33)
 have kS := alloc_heap w3 (.cells #[.slice ko s.ks.length kc, .slice ao s.ac.length acp] 33)
 have B4 := b3.trans (b4.mono b3.size)
 have b04 := b02.trans (B4.mono b02.size)
 have kA := kept_of_below B4 kA
 have kB := kept_of_below B4 kB
 have hST4 := hST.below b4
 clear hST
 go_upto_region 4 with fail
 generalize w3.alloc _ = w4 at *
 obtain ⟨gs0, gs1⟩ := bl2_ kS
 have E4 := unhide HCE _ w4 hST4.is
 clear HCE
 go_wp2_with fail
 refine E4.mono ?_
 clear E4 gs0 gs1
 rintro e9 w5 ⟨⟨⟨p, ac, r⟩, is, rfl, his⟩, b5⟩
 have b6 := blw1 w5 (.cells #[.string p, .string ac, .string r] 42)
 have kE := alloc_heap w5 (.cells #[.string p, .string ac, .string r] 42)
 have B6 := b5.trans (b6.mono b5.size)
 have b06 := b04.trans (B6.mono b04.size)
 have kA := kept_of_below B6 kA
 have kB := kept_of_below B6 kB
 have kS := kept_of_below B6 kS
 have hST6 := hST4.below B6
 clear hST4
 go_upto_region 5 with fail
 generalize w5.alloc _ = w6 at *
 cases is
 ·go_wp2
  go_ret
  exact ⟨rfl, b06⟩
 have hKN : isKn s p ∧ isKn s r := by
  rcases his with ⟨_, hm⟩ | ⟨h, _⟩
  ·exact unhide HEK _ hm
  ·cases h
 have HKN := hide hKN
 clear his HEK hKN
 have FA6 := FA w6 b06
 obtain ⟨ra0, ra1, ra2, ra3⟩ := bl4_ kA
 go_wp2_with fail
 refine FA6.mono ?_
 clear FA6 FA ra0 ra1 ra2 ra3
 rintro e9 w7 ⟨rfl, b7⟩
 have b07 := b06.trans (b7.mono b06.size)
 have kA := kept_of_below b7 kA
 have kB := kept_of_below b7 kB
 have kS := kept_of_below b7 kS
 have kE := kept_of_below b7 kE
 have hST7 := hST6.below b7
 clear hST6
 by_cases hfa : fa = 0
 ·subst hfa
  go_wp2
  go_ret
  exact ⟨rfl, b07⟩
 have gfa : (fa == 0) = false := by simpa using hfa
 clear hfa
 have FB7 := FB w7 b07
 obtain ⟨rb0, rb1, rb2, rb3⟩ := bl4_ kB
 go_wp2_with fail
 refine FB7.mono ?_
 clear FB7 FB rb0 rb1 rb2 rb3
 rintro e9 w8 ⟨rfl, b8⟩
 have b08 := b07.trans (b8.mono b07.size)
 have kA := kept_of_below b8 kA
 have kB := kept_of_below b8 kB
 have kS := kept_of_below b8 kS
 have kE := kept_of_below b8 kE
 have hST8 := hST7.below b8
 clear hST7
 by_cases hfb : fb = 0
 ·subst hfb
  go_wp2
  go_ret
  exact ⟨rfl, b08⟩
 have gfb : (fb == 0) = false := by simpa using hfb
 clear hfb
 obtain ⟨cs0, cs1⟩ := bl2_ kS
 obtain ⟨ce0, ce1, ce2⟩ := bl3_ kE
 have b9 := blw1 w8 (.cells #[.slice ko s.ks.length kc, .slice ao s.ac.length acp, .string p, .string ac, .string r, .int .i64 6] 52)
 have kM := alloc_heap w8 (.cells #[.slice ko s.ks.length kc, .slice ao s.ac.length acp, .string p, .string ac, .string r, .int .i64 6] 52)
 go_upto_region 8 with fail
 clear cs0 cs1 ce0 ce1 ce2 gfa gfb
 have b09 := b08.trans (b9.mono b08.size)
 have kA := kept_of_below b9 kA
 have kB := kept_of_below b9 kB
 have kS := kept_of_below b9 kS
 have kE := kept_of_below b9 kE
 have hST9 := hST8.below b9
 clear hST8
 generalize w8.alloc _ = w9 at *
 have CSO := fun (m : Int) w' => some11_any s ko ao kc acp p ac r 6 m w' (unhide HKN).1 (unhide HKN).2
 have CS9 := CSO tt w9
 obtain ⟨mk0, mk1, mk2, mk3, mk4, mk5⟩ := bl6_ kM
 go_wp2_with fail
 refine CS9.mono ?_
 clear CS9 mk0 mk1 mk2 mk3 mk4 mk5
 rintro e9 w10 ⟨W0, rfl, b10, hgW, hW5⟩
 have b010 := b09.trans (b10.mono b09.size)
 have kA := kept_of_below b10 kA
 have kB := kept_of_below b10 kB
 have kS := kept_of_below b10 kS
 have kE := kept_of_below b10 kE
 have kM := kept_of_below b10 kM
 have hST10 := hST9.below b10
 clear hST9
 have b11_ := blw1 w10 (.cells #[.int .i64 W0.k, .int .i64 W0.o, .string W0.n] 54)
 have kT := alloc_heap w10 (.cells #[.int .i64 W0.k, .int .i64 W0.o, .string W0.n] 54)
 go_upto_region 9 with fail
 generalize w10.alloc _ = w11 at *
 go_upto_if 54 with fail
 go_cut [] from 23 (fun wc => ∃ W : T3, GTy s W ∧ wc.heap[w10.heap.size]? = some (.cells #[.int .i64 W.k, .int .i64 W.o, .string W.n] 54 (0, 0)) ∧ Below w10.heap.size w10 wc)
 case first =>
  by_cases h5 : tt.tmod 6 = 5
  ·have g5 : (tt.tmod 6 == 5) = true := by simpa using h5
   have HGW := hide (show GTy s ⟨5, W0.k, W0.n⟩ from by
    rcases hgW with ⟨h1, _, h3⟩ | ⟨h1, _, h3⟩ | ⟨h1, _⟩
    ·exact .inr (.inr ⟨rfl, .inl ⟨h1, h3⟩⟩)
    ·exact .inr (.inr ⟨rfl, .inr ⟨h1, h3⟩⟩)
    ·exact absurd h1 hW5)
   obtain ⟨tw0, tw1, tw2⟩ := bl3_ kT
   have zf : ∀ o, w11.frozen? ⟨w10.heap.size, o, none⟩ = false := fun o => Lib.frozen_of_heap kT o
   have HQ := hide (And.intro (heap_setCell_same _ w10.heap.size 2 _ _ (.string W0.n) (heap_setCell_same _ w10.heap.size 1 _ _ (.int .i64 W0.k) (heap_setCell_same w11 w10.heap.size 0 _ _ (.int .i64 5) kT))) (set3_below (.int .i64 5) (.int .i64 W0.k) (.string W0.n) b11_ (Nat.le_refl _)))
   clear h5 hgW hW5
   go_wp2_with fail
   go_meet
   case rel => exact ⟨⟨5, W0.k, W0.n⟩, unhide HGW, (unhide HQ).1, (unhide HQ).2⟩
  ·have g5 : (tt.tmod 6 == 5) = false := by simpa using h5
   have HGW := hide hgW
   clear h5 hgW hW5
   go_wp2_with fail
   go_meet
   case rel => exact ⟨W0, unhide HGW, kT, b11_⟩
 case rest =>
  obtain ⟨W, hgW', kW, bc⟩ := hcut
  clear kT b11_ hgW hW5
  have b0c := b010.trans (bc.mono b010.size)
  have kA := kept_of_below bc kA
  have kB := kept_of_below bc kB
  have kS := kept_of_below bc kS
  have kE := kept_of_below bc kE
  have kM := kept_of_below bc kM
  have hSTc := hST10.below bc
  clear hST10
  have hKsc : IsKs wc ko s.ks := by
   obtain ⟨k2, c2, a2, d2, e, h, _⟩ := hSTc.is.ex
   injection e with e
   simp at e
   rw [e.1.1]
   exact h
  obtain ⟨tq, htq⟩ : ∃ tq, tq = IntKind.i64.wrap (tt.tdiv 5) := ⟨_, rfl⟩
  have hq2 := htq.symm
  have CM := fun (t : T3) (ht : GTy s t) (d : R4) (x : Rw) w' (hb : Below wc.heap.size wc w') (hx : IsR w' d x) => mof11_any s ko ao kc acp p ac r 6 8 d t w' (fun w9 hb9 => make11_any s ko ao kc acp p ac r (unhide HKN).1 (unhide HKN).2 (unhide HFS) 6 (by decide) t d x w9 (hKsc.below (hb.trans (hb9.mono hb.size))) (IsR.below hb9 d x hx) ht)
  have COA := fun w' (hb : Below wc.heap.size wc w') => CM W hgW' da xa w' hb (IsR.below (b0c.trans (hb.mono b0c.size)) da xa (unhide HXA))
  have COB := fun (t : T3) (ht : GTy s t) w' (hb : Below wc.heap.size wc w') => CM t ht db xb_ w' hb (IsR.below (b0c.trans (hb.mono b0c.size)) db xb_ (unhide HXB))
  have CSO := fun w' => CSO tq w'
  clear CM htq
  have kSc := kS
  have kEc := kE
  go_upto_region 11 with fail
  refine wp_specsA_put 13 (SpM [.eq (.agg #[.slice ko s.ks.length kc, .slice ao s.ac.length acp, .string p, .string ac, .string r, .int .i64 6]), .eq (.agg #[.int .i64 W.k, .int .i64 W.o, .string W.n]), .eq (.agg #[.int .i64 da.op, .int .i64 da.n, .slice da.so da.sl da.sc, .slice da.lo da.ll da.lc]), .up (treeP wc.heap.size s p r W 8), .eq (.agg #[.slice ko s.ks.length kc, .slice ao s.ac.length acp, .string p, .string ac, .string r, .int .i64 6]), .eq (.agg #[.slice ko s.ks.length kc, .slice ao s.ac.length acp, .string p, .string ac, .string r, .int .i64 6]), .eq (.int .i64 tt), .eq (.int .i64 tq), .up (typP s), .eq (.agg #[.int .i64 db.op, .int .i64 db.n, .slice db.so db.sl db.sc, .slice db.lo db.ll db.lc]), .up (treeA wc.heap.size s p r 8), .up (blkB wc.heap.size (fun b => .pointer (some ⟨b, 0, none⟩)) (.cells #[.int .i64 0, .bool false, .int .i64 0, .string ⟨#[]⟩, .string ⟨#[]⟩, .string ⟨#[]⟩, .slice none 0 0] 39 (0, 0))), .up (blkB wc.heap.size (fun b => .pointer (some ⟨b, 0, none⟩)) (.cells #[.int .i64 0, .bool false, .int .i64 0, .string ⟨#[]⟩, .string ⟨#[]⟩, .string ⟨#[]⟩, .slice none 0 0] 39 (0, 0)))]) (TwoN 18 19 wc) (by kernel_rfl) (by kernel_rfl) ?_ ?_ ?_
  ·exact ⟨(Below.refl _ wc).drew, fun b hb => (by cases hb), fun b hb => (by cases hb), fun b c hb => (by cases hb)⟩
  ·intro q o hq' ho a' w' hR hdep hslot K hK
   have hB := hR.below
   have kA' := kept_of_below hB kA
   have kB' := kept_of_below hB kB
   have kM' := kept_of_below hB kM
   have kW' := kept_of_below hB kW
   obtain ⟨ra0, ra1, ra2, ra3⟩ := bl4_ kA'
   obtain ⟨rb0, rb1, rb2, rb3⟩ := bl4_ kB'
   obtain ⟨mk0, mk1, mk2, mk3, mk4, mk5⟩ := bl6_ kM'
   obtain ⟨tw0, tw1, tw2⟩ := bl3_ kW'
   have hq := hq2
   clear kA' kB' kM' kW'
   have hc : q = 0 ∨ q = 1 ∨ q = 2 ∨ q = 3 ∨ q = 4 ∨ q = 5 ∨ q = 6 ∨ q = 7 ∨ q = 8 ∨ q = 9 ∨ q = 10 ∨ q = 11 ∨ q = 12 := by omega
   rcases hc with rfl | rfl | rfl | rfl | rfl | rfl | rfl | rfl | rfl | rfl | rfl | rfl | rfl
   ·cases ho
    have e0 : a'.tmps.getD 16 undef = .pointer (some ⟨w8.heap.size, 0, none⟩) := hslot 16 (by decide)
    clear ra0 ra1 ra2 ra3 rb0 rb1 rb2 rb3 tw0 tw1 tw2 hq
    unfold Oper.wp
    go_simp
    exact hK _ _ rfl (hR.other (Below.refl _ _) 60 _ (by decide) (by decide)) (fun _ _ h => h)
   ·cases ho
    have e0 : a'.tmps.getD 17 undef = .pointer (some ⟨w10.heap.size, 0, none⟩) := hslot 17 (by decide)
    clear mk0 mk1 mk2 mk3 mk4 mk5 ra0 ra1 ra2 ra3 rb0 rb1 rb2 rb3 hq
    unfold Oper.wp
    go_simp
    exact hK _ _ rfl (hR.other (Below.refl _ _) 61 _ (by decide) (by decide)) (fun _ _ h => h)
   ·cases ho
    have e0 : a'.tmps.getD 10 undef = .pointer (some ⟨w.heap.size, 0, none⟩) := hslot 10 (by decide)
    clear mk0 mk1 mk2 mk3 mk4 mk5 rb0 rb1 rb2 rb3 tw0 tw1 tw2 hq
    unfold Oper.wp
    go_simp
    exact hK _ _ rfl (hR.other (Below.refl _ _) 62 _ (by decide) (by decide)) (fun _ _ h => h)
   ·cases ho
    have e0 : a'.tmps.getD 60 undef = .agg #[.slice ko s.ks.length kc, .slice ao s.ac.length acp, .string p, .string ac, .string r, .int .i64 6] := hdep 0 (by kernel_rfl)
    have e0' := gd_ e0
    have e1 : a'.tmps.getD 61 undef = .agg #[.int .i64 W.k, .int .i64 W.o, .string W.n] := hdep 1 (by kernel_rfl)
    have e1' := gd_ e1
    have e2 : a'.tmps.getD 62 undef = .agg #[.int .i64 da.op, .int .i64 da.n, .slice da.so da.sl da.sc, .slice da.lo da.ll da.lc] := hdep 2 (by kernel_rfl)
    have e2' := gd_ e2
    clear mk0 mk1 mk2 mk3 mk4 mk5 ra0 ra1 ra2 ra3 rb0 rb1 rb2 rb3 tw0 tw1 tw2 hq
    unfold Oper.wp
    go_simp
    refine (COA w' hB).mono ?_
    rintro e w9 ⟨q9, rfl, b9, y9, h9⟩
    exact hK _ _ ⟨q9, y9, rfl, h9.weak hB.size (Nat.le_refl _)⟩ (hR.other b9 63 _ (by decide) (by decide)) (SpM.up b9)
   ·cases ho
    have e0 : a'.tmps.getD 16 undef = .pointer (some ⟨w8.heap.size, 0, none⟩) := hslot 16 (by decide)
    clear ra0 ra1 ra2 ra3 rb0 rb1 rb2 rb3 tw0 tw1 tw2 hq
    unfold Oper.wp
    go_simp
    exact hK _ _ rfl (hR.other (Below.refl _ _) 64 _ (by decide) (by decide)) (fun _ _ h => h)
   ·cases ho
    have e0 : a'.tmps.getD 16 undef = .pointer (some ⟨w8.heap.size, 0, none⟩) := hslot 16 (by decide)
    clear ra0 ra1 ra2 ra3 rb0 rb1 rb2 rb3 tw0 tw1 tw2 hq
    unfold Oper.wp
    go_simp
    exact hK _ _ rfl (hR.other (Below.refl _ _) 65 _ (by decide) (by decide)) (fun _ _ h => h)
   ·cases ho
    have e0 : a'.tmps.getD 3 undef = .int .i64 tt := hslot 3 (by decide)
    clear mk0 mk1 mk2 mk3 mk4 mk5 ra0 ra1 ra2 ra3 rb0 rb1 rb2 rb3 tw0 tw1 tw2 hq
    unfold Oper.wp
    go_simp
    exact hK _ _ rfl (hR.other (Below.refl _ _) 66 _ (by decide) (by decide)) (fun _ _ h => h)
   ·cases ho
    have e0 : a'.tmps.getD 66 undef = .int .i64 tt := hdep 6 (by kernel_rfl)
    have e0' := gd_ e0
    clear mk0 mk1 mk2 mk3 mk4 mk5 ra0 ra1 ra2 ra3 rb0 rb1 rb2 rb3 tw0 tw1 tw2
    unfold Oper.wp
    go_simp
    exact hK _ _ rfl (hR.other (Below.refl _ _) 67 _ (by decide) (by decide)) (fun _ _ h => h)
   ·cases ho
    have e0 : a'.tmps.getD 65 undef = .agg #[.slice ko s.ks.length kc, .slice ao s.ac.length acp, .string p, .string ac, .string r, .int .i64 6] := hdep 5 (by kernel_rfl)
    have e0' := gd_ e0
    have e1 : a'.tmps.getD 67 undef = .int .i64 tq := hdep 7 (by kernel_rfl)
    have e1' := gd_ e1
    clear mk0 mk1 mk2 mk3 mk4 mk5 ra0 ra1 ra2 ra3 rb0 rb1 rb2 rb3 tw0 tw1 tw2 hq
    unfold Oper.wp
    go_simp
    refine (CSO w').mono ?_
    rintro e w9 ⟨t9, rfl, b9, g9, _⟩
    exact hK _ _ ⟨t9, rfl, g9⟩ (hR.other b9 68 _ (by decide) (by decide)) (SpM.up b9)
   ·cases ho
    have e0 : a'.tmps.getD 11 undef = .pointer (some ⟨w.heap.size + 1, 0, none⟩) := hslot 11 (by decide)
    clear mk0 mk1 mk2 mk3 mk4 mk5 ra0 ra1 ra2 ra3 tw0 tw1 tw2 hq
    unfold Oper.wp
    go_simp
    exact hK _ _ rfl (hR.other (Below.refl _ _) 69 _ (by decide) (by decide)) (fun _ _ h => h)
   ·cases ho
    have e0 : a'.tmps.getD 64 undef = .agg #[.slice ko s.ks.length kc, .slice ao s.ac.length acp, .string p, .string ac, .string r, .int .i64 6] := hdep 4 (by kernel_rfl)
    have e0' := gd_ e0
    obtain ⟨t1, e1, ht1⟩ : (typP s).p (a'.tmps.getD 68 undef) w' := hdep 8 (by kernel_rfl)
    have e1' := gd_ e1
    have Hht1 := hide ht1
    have e2 : a'.tmps.getD 69 undef = .agg #[.int .i64 db.op, .int .i64 db.n, .slice db.so db.sl db.sc, .slice db.lo db.ll db.lc] := hdep 9 (by kernel_rfl)
    have e2' := gd_ e2
    clear ht1 mk0 mk1 mk2 mk3 mk4 mk5 ra0 ra1 ra2 ra3 rb0 rb1 rb2 rb3 tw0 tw1 tw2 hq
    unfold Oper.wp
    go_simp
    refine (COB t1 (unhide Hht1) w' hB).mono ?_
    rintro e w9 ⟨q9, rfl, b9, y9, h9⟩
    exact hK _ _ ⟨t1, q9, y9, rfl, h9.weak hB.size (Nat.le_refl _)⟩ (hR.other b9 70 _ (by decide) (by decide)) (SpM.up b9)
   ·cases ho
    clear mk0 mk1 mk2 mk3 mk4 mk5 ra0 ra1 ra2 ra3 rb0 rb1 rb2 rb3 tw0 tw1 tw2 hq
    unfold Oper.wp
    go_simp
    exact hK _ _ ⟨w'.heap.size, hB.size, rfl, alloc_heap _ _⟩ (hR.first (by decide) _) (SpM.up (blw1 _ _))
   ·cases ho
    clear mk0 mk1 mk2 mk3 mk4 mk5 ra0 ra1 ra2 ra3 rb0 rb1 rb2 rb3 tw0 tw1 tw2 hq
    unfold Oper.wp
    go_simp
    exact hK _ _ ⟨w'.heap.size, hB.size, rfl, alloc_heap _ _⟩ (hR.second (by decide) _) (SpM.up (blw1 _ _))
  ·intro v w' hR hall
   have f0 : v 0 = .agg #[.slice ko s.ks.length kc, .slice ao s.ac.length acp, .string p, .string ac, .string r, .int .i64 6] := hall 0 (by decide)
   have f1 : v 1 = .agg #[.int .i64 W.k, .int .i64 W.o, .string W.n] := hall 1 (by decide)
   have f2 : v 2 = .agg #[.int .i64 da.op, .int .i64 da.n, .slice da.so da.sl da.sc, .slice da.lo da.ll da.lc] := hall 2 (by decide)
   have f4 : v 4 = .agg #[.slice ko s.ks.length kc, .slice ao s.ac.length acp, .string p, .string ac, .string r, .int .i64 6] := hall 4 (by decide)
   have f5 : v 5 = .agg #[.slice ko s.ks.length kc, .slice ao s.ac.length acp, .string p, .string ac, .string r, .int .i64 6] := hall 5 (by decide)
   have f6 : v 6 = .int .i64 tt := hall 6 (by decide)
   have f7 : v 7 = .int .i64 tq := hall 7 (by decide)
   have f9 : v 9 = .agg #[.int .i64 db.op, .int .i64 db.n, .slice db.so db.sl db.sc, .slice db.lo db.ll db.lc] := hall 9 (by decide)
   obtain ⟨qX, eX, f3, hX⟩ : (treeP wc.heap.size s p r W 8).p (v 3) w' := hall 3 (by decide)
   obtain ⟨tY, qY, eY, f10, hY⟩ : (treeA wc.heap.size s p r 8).p (v 10) w' := hall 10 (by decide)
   obtain ⟨b11, hge11, f11, ho11⟩ : (blkB wc.heap.size (fun b => .pointer (some ⟨b, 0, none⟩)) (.cells #[.int .i64 0, .bool false, .int .i64 0, .string ⟨#[]⟩, .string ⟨#[]⟩, .string ⟨#[]⟩, .slice none 0 0] 39 (0, 0))).p (v 11) w' := hall 11 (by decide)
   obtain ⟨b12, hge12, f12, ho12⟩ : (blkB wc.heap.size (fun b => .pointer (some ⟨b, 0, none⟩)) (.cells #[.int .i64 0, .bool false, .int .i64 0, .string ⟨#[]⟩, .string ⟨#[]⟩, .string ⟨#[]⟩, .slice none 0 0] 39 (0, 0))).p (v 12) w' := hall 12 (by decide)
   have hne : b11 ≠ b12 := hR.ne b11 b12 ((show _ = v 11 from by kernel_rfl).trans f11) ((show _ = v 12 from by kernel_rfl).trans f12)
   have hB := hR.below
   clear hall hR
   simp only [putAll, dstOf, List.getElem?_cons_zero, List.getElem?_cons_succ, Option.bind_some, List.drop_succ_cons, List.drop_zero, f0, f1, f2, f3, f4, f5, f6, f7, f9, f10, f11, f12]
   clear f0 f1 f2 f3 f4 f5 f6 f7 f9 f10 f11 f12
   simp only [Act.put, List.setIfInBounds_toArray, List.set_cons_succ, List.set_cons_zero]
   generalize v 8 = vv8
   have z11 := blk7 ho11
   obtain ⟨y0, y1, y2, y3, y4, y5, y6, yf⟩ := z11
   have z12 := blk7 ho12
   obtain ⟨x0, x1, x2, x3, x4, x5, x6, xf⟩ := z12
   have HX := hide (And.intro (two_keep hX.ok hX.is ho11 ho12 (.int .i64 qX.k) (.bool qX.b) (.int .i64 qX.n) (.string qX.s) (.string qX.t) (.string qX.i) (.slice qX.lo qX.ll qX.lc) (.int .i64 qY.k) (.bool qY.b) (.int .i64 qY.n) (.string qY.s) (.string qY.t) (.string qY.i) (.slice qY.lo qY.ll qY.lc)) hX)
   have HY := hide (And.intro (two_keep hY.ok hY.is ho11 ho12 (.int .i64 qX.k) (.bool qX.b) (.int .i64 qX.n) (.string qX.s) (.string qX.t) (.string qX.i) (.slice qX.lo qX.ll qX.lc) (.int .i64 qY.k) (.bool qY.b) (.int .i64 qY.n) (.string qY.s) (.string qY.t) (.string qY.i) (.slice qY.lo qY.ll qY.lc)) hY)
   have H11 := hide ((set7S_heap (set7S w' b11 (.int .i64 qX.k) (.bool qX.b) (.int .i64 qX.n) (.string qX.s) (.string qX.t) (.string qX.i) (.slice qX.lo qX.ll qX.lc)) b12 b11 (.int .i64 qY.k) (.bool qY.b) (.int .i64 qY.n) (.string qY.s) (.string qY.t) (.string qY.i) (.slice qY.lo qY.ll qY.lc) hne).trans (set7S_at ho11 (.int .i64 qX.k) (.bool qX.b) (.int .i64 qX.n) (.string qX.s) (.string qX.t) (.string qX.i) (.slice qX.lo qX.ll qX.lc)))
   have H12 := hide (set7S_at ((set7S_heap w' b11 b12 (.int .i64 qX.k) (.bool qX.b) (.int .i64 qX.n) (.string qX.s) (.string qX.t) (.string qX.i) (.slice qX.lo qX.ll qX.lc) (Ne.symm hne)).trans ho12) (.int .i64 qY.k) (.bool qY.b) (.int .i64 qY.n) (.string qY.s) (.string qY.t) (.string qY.i) (.slice qY.lo qY.ll qY.lc))
   have HBB := hide (set7S_below (set7S_below hB hge11 (.int .i64 qX.k) (.bool qX.b) (.int .i64 qX.n) (.string qX.s) (.string qX.t) (.string qX.i) (.slice qX.lo qX.ll qX.lc)) hge12 (.int .i64 qY.k) (.bool qY.b) (.int .i64 qY.n) (.string qY.s) (.string qY.t) (.string qY.i) (.slice qY.lo qY.ll qY.lc))
   clear ho11 ho12 hX hY
   go_upto_region 12 with fail
   clear y0 y1 y2 y3 y4 y5 y6 yf x0 x1 x2 x3 x4 x5 x6 xf
   have k18 := unhide H11
   have k19 := unhide H12
   have hIX := unhide HX
   have hIY := unhide HY
   have bB := unhide HBB
   clear H11 H12 HX HY HBB hq2
   unfold set7S at k18 k19 hIX hIY bB
   generalize ((((((((((((((w'.setCell _ _).setCell _ _).setCell _ _).setCell _ _).setCell _ _).setCell _ _).setCell _ _).setCell _ _).setCell _ _).setCell _ _).setCell _ _).setCell _ _).setCell _ _).setCell _ _) = wB at *
   have hMX := hIX.2
   have hMY := hIY.2
   have IX := hIX.1
   have IY := hIY.1
   clear hIX hIY
   have kA := kept_of_below bB kA
   have kB := kept_of_below bB kB
   have kS := kept_of_below bB kS
   have kE := kept_of_below bB kE
   have kW := kept_of_below bB kW
   have hST := hSTc.below bB
   have b0B := b0c.trans (bB.mono b0c.size)
   have bcB := bB
   have PTX : IsE wB PT qX eX := IsE.turn (Nat.le_refl _) (fun _ _ _ => ⟨rfl, trivial⟩) qX eX IX
   have CY := yOf_any s p ac r hsm 20 eX (by have := hMX.dep; omega) hMX.sl _ qX wB hST.is PTX
   rw [hMX.typ] at CY
   unfold TR.ret at CY
   simp only at CY
   obtain ⟨cs0, cs1⟩ := bl2_ kS
   obtain ⟨ce0, ce1, ce2⟩ := bl3_ kE
   obtain ⟨cx0, cx1, cx2, cx3, cx4, cx5, cx6⟩ := bl7_ k18
   go_wp2_with fail
   refine CY.mono ?_
   clear CY cs0 cs1 ce0 ce1 ce2 cx0 cx1 cx2 cx3 cx4 cx5 cx6 PTX
   rintro e9 wC ⟨rfl, bC⟩
   have bD := blw1 wC (.cells #[.int .i64 W.k, .int .i64 W.o, .string W.n] 54)
   have kD := alloc_heap wC (.cells #[.int .i64 W.k, .int .i64 W.o, .string W.n] 54)
   have BD := bC.trans (bD.mono bC.size)
   have b0D := b0B.trans (BD.mono b0B.size)
   have bcD := bcB.trans (BD.mono bcB.size)
   have kA := kept_of_below BD kA
   have kB := kept_of_below BD kB
   have kS := kept_of_below BD kS
   have kE := kept_of_below BD kE
   have kW := kept_of_below BD kW
   have k18 := kept_of_below BD k18
   have k19 := kept_of_below BD k19
   have hST := hST.below BD
   have IX : IsE (wC.alloc (.cells #[.int .i64 W.k, .int .i64 W.o, .string W.n] 54)) (fun a => a ≠ b11) qX eX := IsE.turn BD.size (fun b hb hlt => ⟨BD.block b hlt, hb⟩) qX eX IX
   have IY : IsE (wC.alloc (.cells #[.int .i64 W.k, .int .i64 W.o, .string W.n] 54)) (fun a => a ≠ b11) qY eY := IsE.turn BD.size (fun b hb hlt => ⟨BD.block b hlt, hb⟩) qY eY IY
   have h11D : b11 < (wC.alloc (.cells #[.int .i64 W.k, .int .i64 W.o, .string W.n] 54)).heap.size := (Array.getElem?_eq_some_iff.1 k18).1
   go_upto_region 13 with fail
   generalize wC.alloc _ = wD at *
   obtain ⟨td0, td1, td2⟩ := bl3_ kD
   obtain ⟨tw0, tw1, tw2⟩ := bl3_ kW
   have BT := binNeqT3 W W
   simp only [decide_true, Bool.not_true] at BT
   have cx6 : wD.cell? ⟨b11, 6, none⟩ = some (.slice qX.lo qX.ll qX.lc) := lc_ k18 rfl
   by_cases hl : 0 < qX.ll
   ·have g1 : (0 : Int) < (qX.ll : Int) := by omega
    obtain ⟨xk, xb, xm, xs_, xt, xi, l⟩ := eX
    obtain ⟨qk, qb, qn, qs_, qt, qi, qlo, m, qlc⟩ := qX
    simp only at k18 cx6 hl g1 hMX IX
    have IX' := IX
    unfold IsE at IX
    obtain ⟨i1, i2, i3, i4, i5, i6, i7, i8⟩ := IX
    simp only at i1 i2 i3 i4 i5 i6 i7 i8
    subst i1 i2 i3 i4 i5 i6
    obtain ⟨qs, kb, koff, hlo, hkb, hqsl, hqsA, hqsI⟩ := kids_row l (by omega) i8
    subst hlo
    have hml : m ≤ 100000 := by
     have := hMX.sl
     rw [slE] at this
     simp only [Bool.and_eq_true, decide_eq_true_eq] at this
     omega
    have Hqm := hide (show qs.length = m by omega)
    have Hi7 := hide i7
    have Hqsl := hide hqsl
    have HqA := hide hqsA
    have HqI := hide hqsI
    have HIY := hide IY
    have HMX := hide hMX
    have HMY := hide hMY
    clear i7 i8 hqsl hqsA hqsI IX' IY hMX hMY
    go_upto_region 16 with fail
    clear td0 td1 td2 tw0 tw1 tw2 BT
    have b16 := blw1 wD (.cells #[] 39)
    have h16 := alloc_heap wD (.cells #[] 39)
    obtain ⟨iE, hiE, hzE0, hzE1, hzE2⟩ := info_parts infoExpr
    have own16 : (wD.alloc (.cells #[] 39)).ownsRow wD.heap.size 39 7 (.slice (some ⟨wD.heap.size, 0, none⟩) 0 0) 0 [] := ⟨rfl, .inr ⟨wD.heap.size, 0, _, rfl, Nat.le_refl _, h16, Nat.le_refl _, by unfold maxLen; omega, rfl, rfl⟩⟩
    have HO16 := hide own16
    clear own16
    go_wp2_with (at_builtin; refine wpList_append_own_at _ rfl _ _ 37 rfl wD.heap.size 39 iE _ 7 96 Try.underlying37 hiE hzE0 hzE1 hzE2 rfl (by decide) _ _ _ rfl (unhide HO16) ⟨kb, koff, none⟩ m qlc (cellsE qs) rfl ?h0 ?p1 ?p2 ?p3 ?p4 ?p5 ?_)
    case h0 => rw [cellsE_len, unhide Hqm]
    case p1 => exact fun j u hu => by have h := news_cells (unhide HqA) j u hu; rw [Addr.add_lit] at h; exact h
    case p2 => exact news_one
    case p3 => unfold maxLen; omega
    case p4 => omega
    intro v8 wF hown8 hgrow _ _
    have bDF : Below wD.heap.size wD wF := b16.grown hgrow b16.size (fun j hj => ((unhide HO16).lt j hj).1)
    have HkF := hide (fun b (hb : b < wD.heap.size) => bDF.block b hb)
    have HsF := hide bDF.size
    obtain ⟨g, cap, cur, rfl, hg1, hgF, hg3, _, hg5, hg6⟩ := (hown8.2).resolve_left (fun h => by have := h.2; omega)
    have hg3 : m ≤ cap := by simpa using hg3
    have hg6 : cur.toList.take (m * 7) = cellsE qs := by simpa using hg6
    have Hcur := hide (show m * 7 ≤ cur.size by rw [hg5]; exact Nat.mul_le_mul_right _ hg3)
    have Hcur2 := hide (show cur.toList.take (qs.length * 7) = cellsE qs by rw [unhide Hqm]; exact hg6)
    have hgD : wD.heap.size ≤ g := hg1
    have hgc : wc.heap.size ≤ g := by have := bcD.size; omega
    have k18F := kept_of_below bDF k18
    have k19F := kept_of_below bDF k19
    have bcF := bcD.trans (bDF.mono bcD.size)
    clear hown8 hgrow hg5 hg6 hg3 hg1 h16 b16 HO16 bDF cx6
    try simp only [Nat.zero_add]
    obtain ⟨nq, hnq⟩ : ∃ nq, nq = IntKind.i64.wrap (n.tdiv 7) := ⟨_, rfl⟩
    have hnq2 := hnq.symm
    clear hnq
    obtain ⟨jn, hjn, CWj⟩ : ∃ jn : Nat, jn < m ∧ ∀ w' : World, Calls Try.prog 16 #[.int .i64 nq, .int .i64 (m : Int)] w' fun e w'' => e = .returned (.int .i64 (jn : Int)) ∧ w'' = w' := by
     have z1 := Int.emod_nonneg nq (show (m : Int) ≠ 0 by omega)
     have z2 := Int.emod_lt_of_pos nq (show (0 : Int) < (m : Int) by omega)
     refine ⟨(nq % (m : Int)).toNat, by omega, fun w' => ?_⟩
     rw [show ((nq % (m : Int)).toNat : Int) = nq % (m : Int) by omega]
     exact within11_any nq (m : Int) (by omega) (by omega) w'
    go_upto_region 17 with fail
    refine wp_specs_put 8 (SpS [.eq (.slice (some ⟨g, 0, none⟩) m cap), .eq (.int .i64 n), .eq (.int .i64 nq), .eq (.slice (some ⟨g, 0, none⟩) m cap), .eq (.int .i64 (m : Nat)), .eq (.int .i64 (jn : Nat)), .eq (.agg #[.int .i64 qY.k, .bool qY.b, .int .i64 qY.n, .string qY.s, .string qY.t, .string qY.i, .slice qY.lo qY.ll qY.lc]), .eq (.pointer (some ⟨g, jn * 7, none⟩))]) (fun w' => Below wF.heap.size wF w') (by kernel_rfl) (by kernel_rfl) (Below.refl _ wF).drew ?_ ?_
    ·intro q o hq' ho a' w' hR hdep hslot K hK
     have k19' := kept_of_below hR k19F
     obtain ⟨ry0, ry1, ry2, ry3, ry4, ry5, ry6⟩ := bl7_ k19'
     have hnq := hnq2
     have l0 : (0 : Int) ≤ (jn : Int) := by omega
     have l1 : (jn : Int) < (m : Int) := by omega
     clear k19'
     have hc : q = 0 ∨ q = 1 ∨ q = 2 ∨ q = 3 ∨ q = 4 ∨ q = 5 ∨ q = 6 ∨ q = 7 := by omega
     rcases hc with rfl | rfl | rfl | rfl | rfl | rfl | rfl | rfl
     ·cases ho
      have e0 : a'.tmps.getD 22 undef = .slice (some ⟨g, 0, none⟩) m cap := hslot 22 (by decide)
      clear hnq l0 l1 ry0 ry1 ry2 ry3 ry4 ry5 ry6
      unfold Oper.wp
      go_simp
      exact hK _ _ rfl hR (fun _ _ h => h)
     ·cases ho
      have e0 : a'.tmps.getD 2 undef = .int .i64 n := hslot 2 (by decide)
      clear hnq l0 l1 ry0 ry1 ry2 ry3 ry4 ry5 ry6
      unfold Oper.wp
      go_simp
      exact hK _ _ rfl hR (fun _ _ h => h)
     ·cases ho
      have e0 : a'.tmps.getD 100 undef = .int .i64 n := hdep 1 (by kernel_rfl)
      have e0' := gd_ e0
      clear l0 l1 ry0 ry1 ry2 ry3 ry4 ry5 ry6
      unfold Oper.wp
      go_simp
      exact hK _ _ rfl hR (fun _ _ h => h)
     ·cases ho
      have e0 : a'.tmps.getD 22 undef = .slice (some ⟨g, 0, none⟩) m cap := hslot 22 (by decide)
      clear hnq l0 l1 ry0 ry1 ry2 ry3 ry4 ry5 ry6
      unfold Oper.wp
      go_simp
      exact hK _ _ rfl hR (fun _ _ h => h)
     ·cases ho
      have e0 : a'.tmps.getD 102 undef = .slice (some ⟨g, 0, none⟩) m cap := hdep 3 (by kernel_rfl)
      have e0' := gd_ e0
      clear hnq l0 l1 ry0 ry1 ry2 ry3 ry4 ry5 ry6
      unfold Oper.wp
      go_simp
      exact hK _ _ rfl hR (fun _ _ h => h)
     ·cases ho
      have e0 : a'.tmps.getD 101 undef = .int .i64 nq := hdep 2 (by kernel_rfl)
      have e0' := gd_ e0
      have e1 : a'.tmps.getD 103 undef = .int .i64 (m : Nat) := hdep 4 (by kernel_rfl)
      have e1' := gd_ e1
      clear hnq l0 l1 ry0 ry1 ry2 ry3 ry4 ry5 ry6
      unfold Oper.wp
      go_simp
      refine (CWj w').mono ?_
      rintro e w9 ⟨rfl, hw9⟩
      subst hw9
      exact hK _ _ rfl hR (fun _ _ h => h)
     ·cases ho
      have e0 : a'.tmps.getD 19 undef = .pointer (some ⟨b12, 0, none⟩) := hslot 19 (by decide)
      clear hnq l0 l1
      unfold Oper.wp
      go_simp
      exact hK _ _ rfl hR (fun _ _ h => h)
     ·cases ho
      have e0 : a'.tmps.getD 99 undef = .slice (some ⟨g, 0, none⟩) m cap := hdep 0 (by kernel_rfl)
      have e0' := gd_ e0
      have e1 : a'.tmps.getD 104 undef = .int .i64 (jn : Nat) := hdep 5 (by kernel_rfl)
      have e1' := gd_ e1
      clear hnq ry0 ry1 ry2 ry3 ry4 ry5 ry6
      unfold Oper.wp
      go_simp
      exact hK _ _ rfl hR (fun _ _ h => h)
    ·intro v w' hR hall
     have f0 : v 0 = .slice (some ⟨g, 0, none⟩) m cap := hall 0 (by decide)
     have f1 : v 1 = .int .i64 n := hall 1 (by decide)
     have f2 : v 2 = .int .i64 nq := hall 2 (by decide)
     have f3 : v 3 = .slice (some ⟨g, 0, none⟩) m cap := hall 3 (by decide)
     have f4 : v 4 = .int .i64 (m : Nat) := hall 4 (by decide)
     have f5 : v 5 = .int .i64 (jn : Nat) := hall 5 (by decide)
     have f6 : v 6 = .agg #[.int .i64 qY.k, .bool qY.b, .int .i64 qY.n, .string qY.s, .string qY.t, .string qY.i, .slice qY.lo qY.ll qY.lc] := hall 6 (by decide)
     have f7 : v 7 = .pointer (some ⟨g, jn * 7, none⟩) := hall 7 (by decide)
     clear hall
     simp only [putAll, dstOf, List.getElem?_cons_zero, List.getElem?_cons_succ, Option.bind_some, List.drop_succ_cons, List.drop_zero, f0, f1, f2, f3, f4, f5, f6, f7]
     clear f0 f1 f2 f3 f4 f5 f6 f7
     simp only [Act.put, List.setIfInBounds_toArray, List.set_cons_succ, List.set_cons_zero]
     have hg' := kept_of_below hR hgF
     have hcl : ∀ c, c < 7 → ∃ v0, w'.cell? ⟨g, jn * 7 + c, none⟩ = some v0 := fun c hc => by
      rw [Lib.cell_of_heap hg']
      exact ⟨_, Array.getElem?_eq_getElem (show jn * 7 + c < cur.size by have := unhide Hcur; omega)⟩
     obtain ⟨o0, p0⟩ := hcl 0 (by decide)
     rw [Nat.add_zero] at p0
     obtain ⟨o1, p1⟩ := hcl 1 (by decide)
     obtain ⟨o2, p2⟩ := hcl 2 (by decide)
     obtain ⟨o3, p3⟩ := hcl 3 (by decide)
     obtain ⟨o4, p4⟩ := hcl 4 (by decide)
     obtain ⟨o5, p5⟩ := hcl 5 (by decide)
     obtain ⟨o6, p6⟩ := hcl 6 (by decide)
     have pf : ∀ o, w'.frozen? ⟨g, o, none⟩ = false := fun o => Lib.frozen_of_heap hg' o
     have hk18 := kept_of_below hR k18F
     have hsz' := hR.size
     have KK : ∀ b, b < wD.heap.size → w'.heap[b]? = wD.heap[b]? := fun b hb => (hR.block b (by have := unhide HsF; omega)).trans (unhide HkF b hb)
     have HI := hide (set_is (P := fun a => a ≠ b11) (w := wD) (k := qk) (b := qb) (m := qn) (s := xs_) (t := xt) (i := xi) (j := jn) (cap := cap) (q := qY) (y := eY) (unhide Hqsl) (unhide HqI) (unhide HIY) (fun e => by omega) (by have := unhide HsF; omega) KK hgD hg' (unhide Hcur2) (by have := unhide Hqm; omega))
     have H18 := hide ((set7G_other w' g (jn * 7) b11 (.int .i64 qY.k) (.bool qY.b) (.int .i64 qY.n) (.string qY.s) (.string qY.t) (.string qY.i) (.slice qY.lo qY.ll qY.lc) (fun e => by omega)).trans hk18)
     have bcw := bcF.trans (hR.mono bcF.size)
     have HBG := hide (show Below wc.heap.size wc (set7G w' g (jn * 7) (.int .i64 qY.k) (.bool qY.b) (.int .i64 qY.n) (.string qY.s) (.string qY.t) (.string qY.i) (.slice qY.lo qY.ll qY.lc)) from ((((((bcw.setCell (p := ⟨g, jn * 7, none⟩) hgc _).setCell (p := ⟨g, jn * 7 + 1, none⟩) hgc _).setCell (p := ⟨g, jn * 7 + 2, none⟩) hgc _).setCell (p := ⟨g, jn * 7 + 3, none⟩) hgc _).setCell (p := ⟨g, jn * 7 + 4, none⟩) hgc _).setCell (p := ⟨g, jn * 7 + 5, none⟩) hgc _).setCell (p := ⟨g, jn * 7 + 6, none⟩) hgc _)
     clear hg' hcl hk18 KK hnq2
     go_upto_region 18 with fail
     clear p0 p1 p2 p3 p4 p5 p6 pf
     have hI := unhide HI
     have k18G := unhide H18
     have bcG := unhide HBG
     clear HI H18 HBG
     unfold set7G at hI k18G bcG
     generalize (((((((w'.setCell _ _).setCell _ _).setCell _ _).setCell _ _).setCell _ _).setCell _ _).setCell _ _) = wG at *
     have c18 : wG.cell? ⟨b11, 6, none⟩ = some (.slice (some ⟨kb, koff, none⟩) m qlc) := lc_ k18G rfl
     have f18 : ∀ o, wG.frozen? ⟨b11, o, none⟩ = false := fun o => Lib.frozen_of_heap k18G o
     have kX := heap_setCell_same wG b11 6 _ _ (.slice (some ⟨g, 0, none⟩) m cap) k18G
     have hIH : IsE (wG.setCell ⟨b11, 6, none⟩ (.slice (some ⟨g, 0, none⟩) m cap)) PT ⟨qk, qb, qn, ba xs_, ba xt, ba xi, some ⟨g, 0, none⟩, m, cap⟩ (.mk qk qb qn xs_ xt xi (l.set jn eY)) := by
      have h := IsE.turn (w' := wG.setCell ⟨b11, 6, none⟩ (.slice (some ⟨g, 0, none⟩) m cap)) (P' := PT) (by simp [World.setCell]) (fun b hb _ => ⟨Below.heap_setCell _ _ _ _ hb, trivial⟩) _ _ hI
      rw [unhide Hqm] at h
      exact h
     have bcH := bcG.setCell (p := ⟨b11, 6, none⟩) hge11 (.slice (some ⟨g, 0, none⟩) m cap)
     have HX9 := hide (And.intro (And.intro kX hIH) bcH)
     clear hI kX hIH bcH k18G
     go_upto_region 19 with fail
     clear c18 f18
     obtain ⟨⟨kX, hIH⟩, bcH⟩ := unhide HX9
     clear HX9
     generalize wG.setCell _ _ = wH at *
     have hSTH := hSTc.below bcH
     have kSH := kept_of_below bcH kSc
     have kEH := kept_of_below bcH kEc
     have b0H := b0c.trans (bcH.mono b0c.size)
     have hok := set_ok jn (unhide HMX).ok (unhide HMX).sl (unhide HMX).dep (unhide HMY).ok (unhide HMY).sl (unhide HMY).dep
     have CO := of11_any s p ac r _ 20 _ ⟨qk, qb, qn, ba xs_, ba xt, ba xi, some ⟨g, 0, none⟩, m, cap⟩ wH hsm hna (by have := hok.2.2; omega) hok.2.1 hok.1 hSTH hIH
     have kX : wH.heap[b11]? = some (.cells #[.int .i64 qk, .bool qb, .int .i64 qn, .string (ba xs_), .string (ba xt), .string (ba xi), .slice (some ⟨g, 0, none⟩) m cap] 39 (0, 0)) := kX
     clear hok hIH hSTH
     obtain ⟨cs0, cs1⟩ := bl2_ kSH
     obtain ⟨ce0, ce1, ce2⟩ := bl3_ kEH
     obtain ⟨cx0, cx1, cx2, cx3, cx4, cx5, cx6⟩ := bl7_ kX
     go_wp2_with fail
     refine CO.mono ?_
     clear CO cs0 cs1 ce0 ce1 ce2 cx0 cx1 cx2 cx3 cx4 cx5 cx6
     rintro e9 wz ⟨rfl, bz⟩
     have b0z := b0H.trans (bz.mono b0H.size)
     go_wp2
     go_ret
     exact ⟨rfl, b0z⟩
   ·have g1 : ¬ (0 : Int) < (qX.ll : Int) := by omega
    have PTX : IsE wD PT qX eX := IsE.turn (Nat.le_refl _) (fun _ _ _ => ⟨rfl, trivial⟩) qX eX IX
    have CO := of11_any s p ac r eX 20 _ qX wD hsm hna (by have := hMX.dep; omega) hMX.sl hMX.ok hST PTX
    go_upto_region 19 with fail
    clear td0 td1 td2 tw0 tw1 tw2 BT cx6
    obtain ⟨cs0, cs1⟩ := bl2_ kS
    obtain ⟨ce0, ce1, ce2⟩ := bl3_ kE
    obtain ⟨cx0, cx1, cx2, cx3, cx4, cx5, cx6⟩ := bl7_ k18
    go_wp2_with fail
    refine CO.mono ?_
    clear CO cs0 cs1 ce0 ce1 ce2 cx0 cx1 cx2 cx3 cx4 cx5 cx6
    rintro e9 wz ⟨rfl, bz⟩
    have b0z := b0D.trans (bz.mono b0D.size)
    go_wp2
    go_ret
    exact ⟨rfl, b0z⟩
end Go.Proofs.Ytagnbpobcijakaa
