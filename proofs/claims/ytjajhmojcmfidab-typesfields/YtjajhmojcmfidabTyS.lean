/-
  chancellaw11.TypesFields: the walk.
-/
import Derived.Test.YtjajhmojcmfidabTyQ
namespace Go.Proofs.Ytjajhmojcmfidab
open Go.RowKit Go.Sort

def n7s : List ByteArray := [⟨#[97]⟩, ⟨#[97, 103, 101]⟩, ⟨#[105, 102]⟩, ⟨#[99, 111, 110, 116, 97, 105, 110, 115]⟩, ⟨#[112, 114, 105, 110, 99, 105, 112, 97, 108]⟩, ⟨#[95, 120]⟩, ⟨#[110, 97, 109, 101]⟩]
def n7Cs : Array Value := #[.string ⟨#[97]⟩, .string ⟨#[97, 103, 101]⟩, .string ⟨#[105, 102]⟩, .string ⟨#[99, 111, 110, 116, 97, 105, 110, 115]⟩, .string ⟨#[112, 114, 105, 110, 99, 105, 112, 97, 108]⟩, .string ⟨#[95, 120]⟩, .string ⟨#[110, 97, 109, 101]⟩]
theorem n7_cells (m : Nat) (hm : m < 7) : n7Cs[m]? = some (.string (n7s.getD m ⟨#[]⟩)) := by
  match m, hm with
  | 0, _ | 1, _ | 2, _ | 3, _ | 4, _ | 5, _ | 6, _ => rfl
theorem isE_uidZ (w : World) (n : ByteArray) : IsE w PT ⟨4, false, 0, ⟨#[]⟩, n, ⟨#[122]⟩, none, 0, 0⟩ (uidZ n) := by
  have := isE_leaf w 4 false 0 [] n.data.toList [122] 0 none
  rw [ba_back] at this
  exact this
set_option maxHeartbeats 16000000 in
set_option maxRecDepth 1000000 in
theorem fields_walk (ks : List LK) (as_ : List LA) (ko ao : Option Addr) (kc ac : Nat) (n kk ff : Int) (w : World) (hk : IsLKs w ko ks) (ha : IsLAs w ao as_) (hkp : ∀ j (h : j < ks.length), ks[j].ps.length ≤ 9223372036854775807 ∧ ks[j].fs.length ≤ 9223372036854775807) (hap : ∀ j (h : j < as_.length), as_[j].p.length ≤ 9223372036854775807 ∧ as_[j].r.length ≤ 9223372036854775807) :
    Calls Try.prog 3 #[.slice ko ks.length kc, .slice ao as_.length ac, .int .i64 n, .int .i64 kk, .int .i64 ff] w fun e w' => e = .returned (.bool true) ∧ Below w.heap.size w w' := by
  have C0 := known11_any w
  have CG := fun w' (hb : Below w.heap.size w w') => good_any ks as_ ko ao kc ac w' (lks_below hk hb) (las_below ha hb) hkp hap
  have hfew := few_good (tiny_schema ks as_)
  have HG0 := hide (good_none (schemaS ks as_))
  have HGt := hide (fun (p r : ByteArray) (j : Nat) (h : j < (goodS (schemaS ks as_)).ks.length) (sx : List UInt8) => And.intro (typ_get (schemaS ks as_) p r j h sx) (And.intro (typ_has (schemaS ks as_) p r j h sx) (typ_act (schemaS ks as_) p r sx)))
  clear hk ha hkp hap
  generalize goodS (schemaS ks as_) = G at *
  obtain ⟨f, hf⟩ : ∃ f : Nat, (f : Int) = ff % 7 := ⟨(ff % 7).toNat, by omega⟩
  have CWf := fun w' => within11_any ff 7 (by decide) (by decide) w'
  rw [← hf] at CWf
  have hf7 : f < 7 := by omega
  have HSN := hide (n7_cells f hf7)
  obtain ⟨sn, hsn⟩ : ∃ sn, sn = n7s.getD f ⟨#[]⟩ := ⟨_, rfl⟩
  rw [← hsn] at HSN
  obtain ⟨sl, hsl⟩ : ∃ sl : List UInt8, ba sl = sn := ⟨sn.data.toList, ba_back sn⟩
  have Hsl := hide hsl
  clear hf hsn hsl
  go_enter Try.func3, Try.ntmps3
  go_wp2_with fail
  refine C0.mono ?_
  clear C0
  rintro e9 w1 ⟨rfl, b1⟩
  have CG := CG w1 b1
  go_wp2_with fail
  refine CG.mono ?_
  clear CG
  rintro e9 w2 ⟨b2, v, rfl, hST⟩
  have hS2 := hST.is
  clear hST
  obtain ⟨sko, skc, sao, sac, rfl, hKs, _⟩ := hS2.ex
  have HKs := hide hKs
  obtain ⟨nk, hnk⟩ : ∃ nk : Nat, nk = G.ks.length := ⟨_, rfl⟩
  have Hnk := hide hnk
  have nk20 : nk ≤ 20 := by rw [hnk]; exact hfew.ks
  rw [← hnk] at hS2
  rw [← hnk]
  clear hnk hKs
  have bs := blw1 w2 (.cells #[.slice sko nk skc, .slice sao G.ac.length sac] 28)
  have HBs := alloc_heap w2 (.cells #[.slice sko nk skc, .slice sao G.ac.length sac] 28)
  have b02 := b1.trans (b2.mono b1.size)
  have b03 := b02.trans (bs.mono b02.size)
  have HFA : ∀ a ∈ G.ac, a.pr.length ≤ 4 ∧ a.re.length ≤ 4 := fun a ha => by have := hfew.a a ha; omega
  have hac15 := hfew.ac
  have hsumA : (allA G.ac).length ≤ 240 := by rw [allA_len]; exact sumA_small hac15 HFA
  have hsmG : SmS G := ⟨by have := hfew.ks; omega, by have := hfew.ac; omega, fun k hk => by have := hfew.k k hk; omega, fun k hk => by have := hfew.a k hk; omega⟩
  have CEv := env11_any G _ n _ (by omega) (fun a ha => by have := HFA a ha; omega) (by omega) (hS2.below bs)
  have HFk := hide (show ∀ k ∈ G.ks, k.fs.length ≤ 4 from fun k hk => (hfew.k k hk).2)
  clear HFA hac15 hsumA hfew
  go_upto_region 4 with fail
  have hS3 := hS2.below bs
  generalize w2.alloc _ = w3 at *
  have ms0 : w3.cell? ⟨w2.heap.size, 0, none⟩ = some (.slice sko nk skc) := by rw [Lib.cell_of_heap HBs]; rfl
  have ms1 : w3.cell? ⟨w2.heap.size, 1, none⟩ = some (.slice sao G.ac.length sac) := by rw [Lib.cell_of_heap HBs]; rfl
  go_wp2_with fail
  refine CEv.mono ?_
  clear CEv ms0 ms1
  rintro e9 w4 ⟨⟨Ev, is, rfl, his⟩, b4⟩
  have b5 := blw1 w4 (.cells #[.string Ev.p, .string Ev.a, .string Ev.r] 31)
  have HE5 := alloc_heap w4 (.cells #[.string Ev.p, .string Ev.a, .string Ev.r] 31)
  have B35 := b4.trans (b5.mono b4.size)
  have b05 := b03.trans (B35.mono b03.size)
  have HB5 := kept_of_below B35 HBs
  have hS5 := hS3.below B35
  have b25 := bs.trans (B35.mono bs.size)
  go_upto_region 5 with fail
  generalize w4.alloc _ = w5 at *
  cases is
  · go_wp2
    go_ret
    exact ⟨rfl, b05⟩
  have hnk0 : 0 < nk := by
    rcases his with ⟨_, hm⟩ | ⟨h, _⟩
    · rcases Nat.eq_zero_or_pos nk with h0 | h0
      · have hk0 : G.ks = [] := List.eq_nil_of_length_eq_zero ((unhide Hnk).symm.trans h0)
        rw [unhide HG0 hk0] at hm
        cases hm
      · exact h0
    · cases h
  clear his HG0
  have CWk := fun w' => within11_any kk (nk : Int) (by omega) (by omega) w'
  obtain ⟨m, hm⟩ : ∃ m : Nat, (m : Int) = kk % (nk : Int) := ⟨(kk % (nk : Int)).toNat, by have := Int.emod_nonneg kk (show (nk : Int) ≠ 0 by omega); omega⟩
  have hml : m < nk := by have := Int.emod_lt_of_pos kk (show (0 : Int) < (nk : Int) by omega); omega
  rw [← hm] at CWk
  have m0 : (0 : Int) ≤ (m : Int) := by omega
  have m1 : (m : Int) < (nk : Int) := by omega
  have hml' : m < G.ks.length := by rw [← unhide Hnk]; exact hml
  obtain ⟨x, kb, ko_, rfl, hkb0, ⟨n0, n1, n2⟩, hIK⟩ := (unhide HKs).get b25 hml'
  have hkb : kb < w5.heap.size := by have := b25.size; omega
  have HGt2 := hide (fun (p r : ByteArray) (sx : List UInt8) => unhide HGt p r m hml' sx)
  have hfl := unhide HFk _ (List.getElem_mem hml')
  obtain ⟨K, hKe⟩ : ∃ K, K = G.ks[m] := ⟨_, rfl⟩
  rw [← hKe] at hIK hfl HGt2
  clear hKe hml' HGt HFk hm HKs
  obtain ⟨xn, xao, xal, xac, xbo, nf, xbc⟩ := x
  obtain ⟨e1, e2, e3, e4, hXf5⟩ := hIK
  simp only at e1 e2 e3 e4 hXf5 n0 n1 n2
  subst e1
  have Hnf := hide e4
  have hnf : nf ≤ 4 := by rw [e4]; exact hfl
  clear e2 e3 e4 hfl
  obtain ⟨⟨⟨tk, to_, tn⟩, te⟩, hTE⟩ : ∃ X : TR, X = (if (fldT K.fs sn).2 then ((fldT K.fs sn).1, 0) else (zT, 15)) := ⟨_, rfl⟩
  have HTE := hide hTE.symm
  have hte : te = 0 ∨ te = 15 := by
    cases hb : (fldT K.fs sn).2
    · rw [hb] at hTE
      injection hTE with h1 h2
      exact .inr h2
    · rw [hb] at hTE
      injection hTE with h1 h2
      exact .inl h2
  obtain ⟨xn, hxn⟩ : ∃ xn, xn = K.nm := ⟨_, rfl⟩
  rw [← hxn] at n0 HGt2
  have CO7u := fun (w' : World) (lo : Option Addr) (hs : IsS w' (.agg #[.slice (some ⟨kb, ko_, none⟩) nk skc, .slice sao G.ac.length sac]) G) (hks : IsEs w' PT lo 0 [uidZ xn]) => yOf_any G Ev.p Ev.a Ev.r hsmG 5 (.mk 7 false 0 sl [] [] [uidZ xn]) (Nat.le_of_ble_eq_true rfl) rfl _ ⟨7, false, 0, ba sl, ⟨#[]⟩, ⟨#[]⟩, lo, 1, 1⟩ w' hs (isE_node (s := sl) (t := []) (i := []) rfl hks)
  have CO8u := fun (w' : World) (lo : Option Addr) (hs : IsS w' (.agg #[.slice (some ⟨kb, ko_, none⟩) nk skc, .slice sao G.ac.length sac]) G) (hks : IsEs w' PT lo 0 [uidZ xn]) => yOf_any G Ev.p Ev.a Ev.r hsmG 5 (.mk 8 false 0 sl [] [] [uidZ xn]) (Nat.le_of_ble_eq_true rfl) rfl _ ⟨8, false, 0, ba sl, ⟨#[]⟩, ⟨#[]⟩, lo, 1, 1⟩ w' hs (isE_node (s := sl) (t := []) (i := []) rfl hks)
  have CO7v := fun (w' : World) (lo : Option Addr) (hs : IsS w' (.agg #[.slice (some ⟨kb, ko_, none⟩) nk skc, .slice sao G.ac.length sac]) G) (hks : IsEs w' PT lo 0 [eVar cAction]) => yOf_any G Ev.p Ev.a Ev.r hsmG 5 (.mk 7 false 0 sl [] [] [eVar cAction]) (Nat.le_of_ble_eq_true rfl) rfl _ ⟨7, false, 0, ba sl, ⟨#[]⟩, ⟨#[]⟩, lo, 1, 1⟩ w' hs (isE_node (s := sl) (t := []) (i := []) rfl hks)
  rw [(unhide HGt2 Ev.p Ev.r sl).1, unhide Hsl, ← hTE] at CO7u
  rw [(unhide HGt2 Ev.p Ev.r sl).2.1, unhide Hsl] at CO8u
  rw [(unhide HGt2 Ev.p Ev.r sl).2.2, unhide Hsl] at CO7v
  unfold TR.ret at CO7u CO8u CO7v
  unfold zT at CO7v
  simp only at CO7u CO8u CO7v
  have HCO := hide (And.intro CO7u (And.intro CO8u CO7v))
  clear CO7u CO8u CO7v hTE HGt2 Hsl hxn hsmG
  go_upto_region 7 with fail
  refine wp_specs_put 10 (SpS [.eq (.pointer (some ⟨w2.heap.size, 0, none⟩)), .eq (.slice (some ⟨kb, ko_, none⟩) nk skc), .eq (.int .i64 kk), .eq (.pointer (some ⟨w2.heap.size, 0, none⟩)), .eq (.slice (some ⟨kb, ko_, none⟩) nk skc), .eq (.int .i64 (nk : Nat)), .eq (.int .i64 (m : Nat)), .eq (.pointer (some ⟨kb, ko_ + m * 3, none⟩)), .eq (.agg #[.string xn, .slice xao xal xac, .slice xbo nf xbc]), .blk (w5.heap.size) (fun b => .pointer (some ⟨b, 0, none⟩)) (.cells #[.string ⟨#[]⟩, .slice none 0 0, .slice none 0 0] 37 (0, 0))]) (fun w' => Below w5.heap.size w5 w') (by kernel_rfl) (by kernel_rfl) (Below.refl _ w5).drew ?_ ?_
  · intro q o hq' ho a' w' hR hdep hslot K hK
    have hS' := kept_of_below hR HB5
    have s0 : w'.cell? ⟨w2.heap.size, 0, none⟩ = some (.slice (some ⟨kb, ko_, none⟩) nk skc) := by rw [Lib.cell_of_heap hS']; rfl
    have x0 := (hR.cell (p := ⟨kb, ko_ + m * 3, none⟩) hkb).trans n0
    have x1 := (hR.cell (p := ⟨kb, ko_ + m * 3 + 1, none⟩) hkb).trans n1
    have x2 := (hR.cell (p := ⟨kb, ko_ + m * 3 + 2, none⟩) hkb).trans n2
    clear hS'
    have hc : q = 0 ∨ q = 1 ∨ q = 2 ∨ q = 3 ∨ q = 4 ∨ q = 5 ∨ q = 6 ∨ q = 7 ∨ q = 8 ∨ q = 9 := by omega
    rcases hc with rfl | rfl | rfl | rfl | rfl | rfl | rfl | rfl | rfl | rfl
    · cases ho
      have e0 : a'.tmps.getD 11 undef = .pointer (some ⟨w2.heap.size, 0, none⟩) := hslot 11 (by decide)
      clear s0 x0 x1 x2
      unfold Oper.wp
      go_simp
      exact hK _ _ rfl hR (fun _ _ h => h)
    · cases ho
      have e0 : a'.tmps.getD 38 undef = .pointer (some ⟨w2.heap.size, 0, none⟩) := hdep 0 (by kernel_rfl)
      have e0' : a'.tmps[38]?.getD undef = .pointer (some ⟨w2.heap.size, 0, none⟩) := by simpa using e0
      clear x0 x1 x2
      unfold Oper.wp
      go_simp
      exact hK _ _ rfl hR (fun _ _ h => h)
    · cases ho
      have e0 : a'.tmps.getD 3 undef = .int .i64 kk := hslot 3 (by decide)
      clear s0 x0 x1 x2
      unfold Oper.wp
      go_simp
      exact hK _ _ rfl hR (fun _ _ h => h)
    · cases ho
      have e0 : a'.tmps.getD 11 undef = .pointer (some ⟨w2.heap.size, 0, none⟩) := hslot 11 (by decide)
      clear s0 x0 x1 x2
      unfold Oper.wp
      go_simp
      exact hK _ _ rfl hR (fun _ _ h => h)
    · cases ho
      have e0 : a'.tmps.getD 41 undef = .pointer (some ⟨w2.heap.size, 0, none⟩) := hdep 3 (by kernel_rfl)
      have e0' : a'.tmps[41]?.getD undef = .pointer (some ⟨w2.heap.size, 0, none⟩) := by simpa using e0
      clear x0 x1 x2
      unfold Oper.wp
      go_simp
      exact hK _ _ rfl hR (fun _ _ h => h)
    · cases ho
      have e0 : a'.tmps.getD 42 undef = .slice (some ⟨kb, ko_, none⟩) nk skc := hdep 4 (by kernel_rfl)
      have e0' : a'.tmps[42]?.getD undef = .slice (some ⟨kb, ko_, none⟩) nk skc := by simpa using e0
      clear s0 x0 x1 x2
      unfold Oper.wp
      go_simp
      exact hK _ _ rfl hR (fun _ _ h => h)
    · cases ho
      have e0 : a'.tmps.getD 40 undef = .int .i64 kk := hdep 2 (by kernel_rfl)
      have e0' : a'.tmps[40]?.getD undef = .int .i64 kk := by simpa using e0
      have e1 : a'.tmps.getD 43 undef = .int .i64 (nk : Nat) := hdep 5 (by kernel_rfl)
      have e1' : a'.tmps[43]?.getD undef = .int .i64 (nk : Nat) := by simpa using e1
      clear s0 x0 x1 x2
      unfold Oper.wp
      go_simp
      refine (CWk w').mono ?_
      rintro e w9 ⟨rfl, hw9⟩
      subst hw9
      exact hK _ _ rfl hR (fun _ _ h => h)
    · cases ho
      have e0 : a'.tmps.getD 39 undef = .slice (some ⟨kb, ko_, none⟩) nk skc := hdep 1 (by kernel_rfl)
      have e0' : a'.tmps[39]?.getD undef = .slice (some ⟨kb, ko_, none⟩) nk skc := by simpa using e0
      have e1 : a'.tmps.getD 44 undef = .int .i64 (m : Nat) := hdep 6 (by kernel_rfl)
      have e1' : a'.tmps[44]?.getD undef = .int .i64 (m : Nat) := by simpa using e1
      clear s0 x0 x1 x2
      unfold Oper.wp
      go_simp
      exact hK _ _ rfl hR (fun _ _ h => h)
    · cases ho
      have e0 : a'.tmps.getD 45 undef = .pointer (some ⟨kb, ko_ + m * 3, none⟩) := hdep 7 (by kernel_rfl)
      have e0' : a'.tmps[45]?.getD undef = .pointer (some ⟨kb, ko_ + m * 3, none⟩) := by simpa using e0
      clear s0
      unfold Oper.wp
      go_simp
      exact hK _ _ rfl hR (fun _ _ h => h)
    · cases ho
      clear s0 x0 x1 x2
      unfold Oper.wp
      go_simp
      exact hK _ _ ⟨w'.heap.size, hR.size, rfl, alloc_heap _ _⟩ (hR.alloc hR.size _) (SpS.up (blw1 _ _))
  · intro v w' hR hall
    have f0 : v 0 = .pointer (some ⟨w2.heap.size, 0, none⟩) := hall 0 (by decide)
    have f1 : v 1 = .slice (some ⟨kb, ko_, none⟩) nk skc := hall 1 (by decide)
    have f2 : v 2 = .int .i64 kk := hall 2 (by decide)
    have f3 : v 3 = .pointer (some ⟨w2.heap.size, 0, none⟩) := hall 3 (by decide)
    have f4 : v 4 = .slice (some ⟨kb, ko_, none⟩) nk skc := hall 4 (by decide)
    have f5 : v 5 = .int .i64 (nk : Nat) := hall 5 (by decide)
    have f6 : v 6 = .int .i64 (m : Nat) := hall 6 (by decide)
    have f7 : v 7 = .pointer (some ⟨kb, ko_ + m * 3, none⟩) := hall 7 (by decide)
    have f8 : v 8 = .agg #[.string xn, .slice xao xal xac, .slice xbo nf xbc] := hall 8 (by decide)
    obtain ⟨b9, hB9, f9, ho9⟩ : (.blk (w5.heap.size) (fun b => .pointer (some ⟨b, 0, none⟩)) (.cells #[.string ⟨#[]⟩, .slice none 0 0, .slice none 0 0] 37 (0, 0)) : Sv).sp (v 9) w' := hall 9 (by decide)
    clear hall
    simp only [putAll, dstOf, List.getElem?_cons_zero, List.getElem?_cons_succ, Option.bind_some, List.drop_succ_cons, List.drop_zero, f0, f1, f2, f3, f4, f5, f6, f7, f8, f9]
    clear f0 f1 f2 f3 f4 f5 f6 f7 f8 f9
    simp only [Act.put, List.setIfInBounds_toArray, List.set_cons_succ, List.set_cons_zero]
    obtain ⟨V, hVz, hV⟩ : ∃ V, w5.heap.size ≤ V ∧ (V = b9 ∧ w'.heap[V]? = some (.cells #[.string ⟨#[]⟩, .slice none 0 0, .slice none 0 0] 37 (0, 0))) := ⟨b9, hB9, rfl, ho9⟩
    obtain ⟨eV, hV⟩ := hV
    subst eV
    have z0 : w'.cell? ⟨V, 0, none⟩ = some (.string ⟨#[]⟩) := by rw [Lib.cell_of_heap hV]; rfl
    have z1 : w'.cell? ⟨V, 1, none⟩ = some (.slice none 0 0) := by rw [Lib.cell_of_heap hV]; rfl
    have z2 : w'.cell? ⟨V, 2, none⟩ = some (.slice none 0 0) := by rw [Lib.cell_of_heap hV]; rfl
    have zf : ∀ o, w'.frozen? ⟨V, o, none⟩ = false := fun o => Lib.frozen_of_heap hV o
    have HQ := hide (heap_setCell_same _ V 2 _ _ (.slice xbo nf xbc) (heap_setCell_same _ V 1 _ _ (.slice xao xal xac) (heap_setCell_same w' V 0 _ _ (.string xn) hV)))
    have HW := hide (set3_below (.string xn) (.slice xao xal xac) (.slice xbo nf xbc) hR hVz)
    clear hV ho9
    go_upto_region 8 with fail
    clear z0 z1 z2 zf
    have hK := unhide HQ
    have b56 := unhide HW
    clear HQ HW
    generalize ((w'.setCell _ _).setCell _ _).setCell _ _ = w6 at *
    have kS := kept_of_below b56 HB5
    have kR := kept_of_below b56 HE5
    have hS6 := hS5.below b56
    have HXf := hide (hXf5.below b56)
    have b7 := blw1 w6 (.cells #[.string ⟨#[97]⟩, .string ⟨#[97, 103, 101]⟩, .string ⟨#[105, 102]⟩, .string ⟨#[99, 111, 110, 116, 97, 105, 110, 115]⟩, .string ⟨#[112, 114, 105, 110, 99, 105, 112, 97, 108]⟩, .string ⟨#[95, 120]⟩, .string ⟨#[110, 97, 109, 101]⟩] 9)
    have h7 := alloc_heap w6 (.cells #[.string ⟨#[97]⟩, .string ⟨#[97, 103, 101]⟩, .string ⟨#[105, 102]⟩, .string ⟨#[99, 111, 110, 116, 97, 105, 110, 115]⟩, .string ⟨#[112, 114, 105, 110, 99, 105, 112, 97, 108]⟩, .string ⟨#[95, 120]⟩, .string ⟨#[110, 97, 109, 101]⟩] 9)
    have b06 := b05.trans (b56.mono b05.size)
    have cf : (w6.alloc (.cells #[.string ⟨#[97]⟩, .string ⟨#[97, 103, 101]⟩, .string ⟨#[105, 102]⟩, .string ⟨#[99, 111, 110, 116, 97, 105, 110, 115]⟩, .string ⟨#[112, 114, 105, 110, 99, 105, 112, 97, 108]⟩, .string ⟨#[95, 120]⟩, .string ⟨#[110, 97, 109, 101]⟩] 9)).cell? ⟨w6.heap.size, f, none⟩ = some (.string sn) := by rw [Lib.cell_of_heap h7]; exact unhide HSN
    go_wp2_with fail
    refine (CWf _).mono ?_
    rintro e9 w9 ⟨rfl, hw9⟩
    have hw9 := hw9.symm
    subst hw9
    have f0 : (0 : Int) ≤ (f : Int) := by omega
    have f1 : (f : Int) < 7 := by omega
    go_upto_region 9 with fail
    clear cf h7
    have b07 := b06.trans (b7.mono b06.size)
    have kS := kept_of_below b7 kS
    have kR := kept_of_below b7 kR
    have hK := kept_of_below b7 hK
    have hS7 := hS6.below b7
    have HXf7 := hide ((unhide HXf).below b7)
    generalize w6.alloc _ = w7 at *
    have r0 : w7.cell? ⟨w4.heap.size, 0, none⟩ = some (.string Ev.p) := by rw [Lib.cell_of_heap kR]; rfl
    have r1 : w7.cell? ⟨w4.heap.size, 1, none⟩ = some (.string Ev.a) := by rw [Lib.cell_of_heap kR]; rfl
    have r2 : w7.cell? ⟨w4.heap.size, 2, none⟩ = some (.string Ev.r) := by rw [Lib.cell_of_heap kR]; rfl
    have b8 := blw1 w7 (.cells #[.string Ev.p, .string Ev.a, .string Ev.r] 39)
    have kE := alloc_heap w7 (.cells #[.string Ev.p, .string Ev.a, .string Ev.r] 39)
    go_upto_region 10 with fail
    clear r0 r1 r2
    have b08 := b07.trans (b8.mono b07.size)
    have kS := kept_of_below b8 kS
    have hK := kept_of_below b8 hK
    have hS8 := hS7.below b8
    have HXf8 := hide ((unhide HXf7).below b8)
    obtain ⟨VE, hVE⟩ : ∃ VE, VE = w7.heap.size := ⟨_, rfl⟩
    rw [← hVE] at kE
    rw [← hVE]
    clear hVE
    generalize w7.alloc _ = w8 at *
    have q0 : w8.cell? ⟨V, 0, none⟩ = some (.string xn) := by rw [Lib.cell_of_heap hK]; rfl
    have b9_ := blw1 w8 (.cells #[.int .i64 4, .bool false, .int .i64 0, .string ⟨#[]⟩, .string xn, .string ⟨#[122]⟩, .slice none 0 0] 44)
    have kO := alloc_heap w8 (.cells #[.int .i64 4, .bool false, .int .i64 0, .string ⟨#[]⟩, .string xn, .string ⟨#[122]⟩, .slice none 0 0] 44)
    go_upto_region 11 with fail
    clear q0
    have b09 := b08.trans (b9_.mono b08.size)
    have kS := kept_of_below b9_ kS
    have hK := kept_of_below b9_ hK
    have kE := kept_of_below b9_ kE
    have hSa := hS8.below b9_
    have HXf9 := hide ((unhide HXf8).below b9_)
    obtain ⟨VO, hVO⟩ : ∃ VO, VO = w8.heap.size := ⟨_, rfl⟩
    rw [← hVO] at kO
    rw [← hVO]
    clear hVO
    generalize w8.alloc _ = wa at *
    have CO7u := (unhide HCO).1
    have s0a : wa.cell? ⟨w2.heap.size, 0, none⟩ = some (.slice (some ⟨kb, ko_, none⟩) nk skc) := by rw [Lib.cell_of_heap kS]; rfl
    have s1a : wa.cell? ⟨w2.heap.size, 1, none⟩ = some (.slice sao G.ac.length sac) := by rw [Lib.cell_of_heap kS]; rfl
    have v0a : wa.cell? ⟨VE, 0, none⟩ = some (.string Ev.p) := by rw [Lib.cell_of_heap kE]; rfl
    have v1a : wa.cell? ⟨VE, 1, none⟩ = some (.string Ev.a) := by rw [Lib.cell_of_heap kE]; rfl
    have v2a : wa.cell? ⟨VE, 2, none⟩ = some (.string Ev.r) := by rw [Lib.cell_of_heap kE]; rfl
    have u0a : wa.cell? ⟨VO, 0, none⟩ = some (.int .i64 4) := by rw [Lib.cell_of_heap kO]; rfl
    have u1a : wa.cell? ⟨VO, 1, none⟩ = some (.bool false) := by rw [Lib.cell_of_heap kO]; rfl
    have u2a : wa.cell? ⟨VO, 2, none⟩ = some (.int .i64 0) := by rw [Lib.cell_of_heap kO]; rfl
    have u3a : wa.cell? ⟨VO, 3, none⟩ = some (.string ⟨#[]⟩) := by rw [Lib.cell_of_heap kO]; rfl
    have u4a : wa.cell? ⟨VO, 4, none⟩ = some (.string xn) := by rw [Lib.cell_of_heap kO]; rfl
    have u5a : wa.cell? ⟨VO, 5, none⟩ = some (.string ⟨#[122]⟩) := by rw [Lib.cell_of_heap kO]; rfl
    have u6a : wa.cell? ⟨VO, 6, none⟩ = some (.slice none 0 0) := by rw [Lib.cell_of_heap kO]; rfl
    have ca := blw1 wa (.cells #[.int .i64 4, .bool false, .int .i64 0, .string ⟨#[]⟩, .string xn, .string ⟨#[122]⟩, .slice none 0 0] 44)
    have hha := alloc_heap wa (.cells #[.int .i64 4, .bool false, .int .i64 0, .string ⟨#[]⟩, .string xn, .string ⟨#[122]⟩, .slice none 0 0] 44)
    have C := CO7u _ (some ⟨wa.heap.size, 0, none⟩) (hSa.below ca) (isEs_block [⟨4, false, 0, ⟨#[]⟩, xn, ⟨#[122]⟩, none, 0, 0⟩] [uidZ xn] hha rfl (.cons (isE_uidZ _ _) .nil))
    clear hha
    go_wp2_with fail
    refine C.mono ?_
    clear C s0a s1a v0a v1a v2a u0a u1a u2a u3a u4a u5a u6a
    rintro e9 w_a ⟨rfl, da⟩
    have bba := ca.trans (da.mono ca.size)
    have ga := blw1 w_a (.cells #[.int .i64 tk, .int .i64 to_, .string tn] 46)
    have hTa := alloc_heap w_a (.cells #[.int .i64 tk, .int .i64 to_, .string tn] 46)
    have bna := bba.trans (ga.mono bba.size)
    have b0b := b09.trans (bna.mono b09.size)
    have kS := kept_of_below bna kS
    have hK := kept_of_below bna hK
    have kE := kept_of_below bna kE
    have kO := kept_of_below bna kO
    have hSb := hSa.below bna
    have HXfb := hide ((unhide HXf9).below bna)
    go_upto_region 12 with fail
    generalize w_a.alloc _ = wb at *
    have CO8u := (unhide HCO).2.1
    clear CO7u
    have s0b : wb.cell? ⟨w2.heap.size, 0, none⟩ = some (.slice (some ⟨kb, ko_, none⟩) nk skc) := by rw [Lib.cell_of_heap kS]; rfl
    have s1b : wb.cell? ⟨w2.heap.size, 1, none⟩ = some (.slice sao G.ac.length sac) := by rw [Lib.cell_of_heap kS]; rfl
    have v0b : wb.cell? ⟨VE, 0, none⟩ = some (.string Ev.p) := by rw [Lib.cell_of_heap kE]; rfl
    have v1b : wb.cell? ⟨VE, 1, none⟩ = some (.string Ev.a) := by rw [Lib.cell_of_heap kE]; rfl
    have v2b : wb.cell? ⟨VE, 2, none⟩ = some (.string Ev.r) := by rw [Lib.cell_of_heap kE]; rfl
    have u0b : wb.cell? ⟨VO, 0, none⟩ = some (.int .i64 4) := by rw [Lib.cell_of_heap kO]; rfl
    have u1b : wb.cell? ⟨VO, 1, none⟩ = some (.bool false) := by rw [Lib.cell_of_heap kO]; rfl
    have u2b : wb.cell? ⟨VO, 2, none⟩ = some (.int .i64 0) := by rw [Lib.cell_of_heap kO]; rfl
    have u3b : wb.cell? ⟨VO, 3, none⟩ = some (.string ⟨#[]⟩) := by rw [Lib.cell_of_heap kO]; rfl
    have u4b : wb.cell? ⟨VO, 4, none⟩ = some (.string xn) := by rw [Lib.cell_of_heap kO]; rfl
    have u5b : wb.cell? ⟨VO, 5, none⟩ = some (.string ⟨#[122]⟩) := by rw [Lib.cell_of_heap kO]; rfl
    have u6b : wb.cell? ⟨VO, 6, none⟩ = some (.slice none 0 0) := by rw [Lib.cell_of_heap kO]; rfl
    have cb := blw1 wb (.cells #[.int .i64 4, .bool false, .int .i64 0, .string ⟨#[]⟩, .string xn, .string ⟨#[122]⟩, .slice none 0 0] 44)
    have hhb := alloc_heap wb (.cells #[.int .i64 4, .bool false, .int .i64 0, .string ⟨#[]⟩, .string xn, .string ⟨#[122]⟩, .slice none 0 0] 44)
    have C := CO8u _ (some ⟨wb.heap.size, 0, none⟩) (hSb.below cb) (isEs_block [⟨4, false, 0, ⟨#[]⟩, xn, ⟨#[122]⟩, none, 0, 0⟩] [uidZ xn] hhb rfl (.cons (isE_uidZ _ _) .nil))
    clear hhb
    go_wp2_with fail
    refine C.mono ?_
    clear C s0b s1b v0b v1b v2b u0b u1b u2b u3b u4b u5b u6b
    rintro e9 w_b ⟨rfl, db⟩
    have bbb := cb.trans (db.mono cb.size)
    have gb := blw1 w_b (.cells #[.int .i64 1, .int .i64 0, .string ⟨#[]⟩] 46)
    have hTb := alloc_heap w_b (.cells #[.int .i64 1, .int .i64 0, .string ⟨#[]⟩] 46)
    have bnb := bbb.trans (gb.mono bbb.size)
    have b0c := b0b.trans (bnb.mono b0b.size)
    have kS := kept_of_below bnb kS
    have hK := kept_of_below bnb hK
    have kE := kept_of_below bnb kE
    have kO := kept_of_below bnb kO
    have hTa := kept_of_below bnb hTa
    have hSc := hSb.below bnb
    have HXfc := hide ((unhide HXfb).below bnb)
    go_upto_region 13 with fail
    generalize w_b.alloc _ = wc at *
    have CO7v := (unhide HCO).2.2
    clear CO8u
    have s0c : wc.cell? ⟨w2.heap.size, 0, none⟩ = some (.slice (some ⟨kb, ko_, none⟩) nk skc) := by rw [Lib.cell_of_heap kS]; rfl
    have s1c : wc.cell? ⟨w2.heap.size, 1, none⟩ = some (.slice sao G.ac.length sac) := by rw [Lib.cell_of_heap kS]; rfl
    have v0c : wc.cell? ⟨VE, 0, none⟩ = some (.string Ev.p) := by rw [Lib.cell_of_heap kE]; rfl
    have v1c : wc.cell? ⟨VE, 1, none⟩ = some (.string Ev.a) := by rw [Lib.cell_of_heap kE]; rfl
    have v2c : wc.cell? ⟨VE, 2, none⟩ = some (.string Ev.r) := by rw [Lib.cell_of_heap kE]; rfl
    have u0c : wc.cell? ⟨VO, 0, none⟩ = some (.int .i64 4) := by rw [Lib.cell_of_heap kO]; rfl
    have u1c : wc.cell? ⟨VO, 1, none⟩ = some (.bool false) := by rw [Lib.cell_of_heap kO]; rfl
    have u2c : wc.cell? ⟨VO, 2, none⟩ = some (.int .i64 0) := by rw [Lib.cell_of_heap kO]; rfl
    have u3c : wc.cell? ⟨VO, 3, none⟩ = some (.string ⟨#[]⟩) := by rw [Lib.cell_of_heap kO]; rfl
    have u4c : wc.cell? ⟨VO, 4, none⟩ = some (.string xn) := by rw [Lib.cell_of_heap kO]; rfl
    have u5c : wc.cell? ⟨VO, 5, none⟩ = some (.string ⟨#[122]⟩) := by rw [Lib.cell_of_heap kO]; rfl
    have u6c : wc.cell? ⟨VO, 6, none⟩ = some (.slice none 0 0) := by rw [Lib.cell_of_heap kO]; rfl
    have cc := blw1 wc (.cells #[.int .i64 5, .bool false, .int .i64 0, .string ⟨#[97, 99, 116, 105, 111, 110]⟩, .string ⟨#[]⟩, .string ⟨#[]⟩, .slice none 0 0] 44)
    have hhc := alloc_heap wc (.cells #[.int .i64 5, .bool false, .int .i64 0, .string ⟨#[97, 99, 116, 105, 111, 110]⟩, .string ⟨#[]⟩, .string ⟨#[]⟩, .slice none 0 0] 44)
    have C := CO7v _ (some ⟨wc.heap.size, 0, none⟩) (hSc.below cc) (isEs_block [⟨5, false, 0, ⟨#[97, 99, 116, 105, 111, 110]⟩, ⟨#[]⟩, ⟨#[]⟩, none, 0, 0⟩] [eVar cAction] hhc rfl (.cons (isE_leaf _ 5 false 0 cAction [] [] 0 none) .nil))
    clear hhc
    go_wp2_with fail
    refine C.mono ?_
    clear C s0c s1c v0c v1c v2c u0c u1c u2c u3c u4c u5c u6c
    rintro e9 w_c ⟨rfl, dc⟩
    have bbc := cc.trans (dc.mono cc.size)
    have gc := blw1 w_c (.cells #[.int .i64 0, .int .i64 0, .string ⟨#[]⟩] 46)
    have hTc := alloc_heap w_c (.cells #[.int .i64 0, .int .i64 0, .string ⟨#[]⟩] 46)
    have bnc := bbc.trans (gc.mono bbc.size)
    have b0d := b0c.trans (bnc.mono b0c.size)
    have kS := kept_of_below bnc kS
    have hK := kept_of_below bnc hK
    have kE := kept_of_below bnc kE
    have kO := kept_of_below bnc kO
    have hTa := kept_of_below bnc hTa
    have hTb := kept_of_below bnc hTb
    have hSd := hSc.below bnc
    have HXfd := hide ((unhide HXfc).below bnc)
    go_upto_region 14 with fail
    generalize w_c.alloc _ = wd at *
    have hb0 : wd.cell? ⟨w_b.heap.size, 0, none⟩ = some (.int .i64 1) := by rw [Lib.cell_of_heap hTb]; rfl
    go_wp2_with fail
    clear hb0
    go_loopw [24] (fun iv wr => ∃ i : Nat, iv = .int .i64 i ∧ i ≤ nf ∧ Below wd.heap.size wd wr ∧ fldT K.fs sn = fldT (K.fs.drop i) sn) (fun iv _ => nf - (intOf iv).toNat)
    case atStart => exact ⟨0, by go_num, Nat.zero_le _, Below.refl _ _, rfl⟩
    case round =>
      obtain ⟨i, rfl, hil, hbr, hty⟩ := hrel
      have Hty := hide hty
      clear hty
      have hKr := kept_of_below hbr hK
      have b0r := b0d.trans (hbr.mono b0d.size)
      have qf : wr.cell? ⟨V, 2, none⟩ = some (.slice xbo nf xbc) := by rw [Lib.cell_of_heap hKr]; rfl
      by_cases hlt : i < nf
      · have i0 : (0 : Int) ≤ (i : Int) := by omega
        have i1 : (i : Int) < (nf : Int) := by omega
        have hlt' : i < K.fs.length := by rw [← unhide Hnf]; exact hlt
        obtain ⟨g, off, rfl, hg, a0, a1, a2, a3⟩ := (unhide HXfd).get hbr hlt'
        have HD := hide (show fldT K.fs sn = if K.fs[i].nm = sn then (⟨K.fs[i].k, K.fs[i].o, K.fs[i].tn⟩, true) else fldT (K.fs.drop (i + 1)) sn from by
          rw [unhide Hty, List.drop_eq_getElem_cons hlt']
          rfl)
        obtain ⟨F, hF⟩ : ∃ F, F = K.fs[i] := ⟨_, rfl⟩
        rw [← hF] at a0 a1 a2 a3 HD
        clear hF hlt' Hty
        by_cases he : F.nm = sn
        · have hd : (F.nm.toList == sn.toList) = true := by rw [he]; exact beq_self_eq_true _
          have h1 := (unhide HD).trans (if_pos he)
          have HT := unhide HTE
          rw [h1] at HT
          have e1 : te = 0 ∧ tk = F.k ∧ to_ = F.o ∧ tn = F.tn := by
            injection HT with h2 h3
            injection h2 with h4 h5 h6
            exact ⟨h3.symm, h4.symm, h5.symm, h6.symm⟩
          obtain ⟨rfl, rfl, rfl, rfl⟩ := e1
          have hTr := kept_of_below hbr hTa
          have t0 : wr.cell? ⟨w_a.heap.size, 0, none⟩ = some (.int .i64 F.k) := by rw [Lib.cell_of_heap hTr]; rfl
          have t1 : wr.cell? ⟨w_a.heap.size, 1, none⟩ = some (.int .i64 F.o) := by rw [Lib.cell_of_heap hTr]; rfl
          have t2 : wr.cell? ⟨w_a.heap.size, 2, none⟩ = some (.string F.tn) := by rw [Lib.cell_of_heap hTr]; rfl
          have BT := binEqlT3 ⟨F.k, F.o, F.tn⟩ ⟨F.k, F.o, F.tn⟩
          rw [decide_eq_true rfl] at BT
          simp only at BT
          have g1 := cell_regrown t0
          have g2 := cell_regrown t1
          have g3 := cell_regrown t2
          have g4 := cell_regrown qf
          have g5 := cell_regrown a1
          have g6 := cell_regrown a2
          have g7 := cell_regrown a3
          clear he h1 HT HTE HD
          go_upto_region 20 with fail
          clear qf a0 a1 a2 a3 t0 t1 t2
          refine wp_region_quiet_below (by kernel_rfl) (by kernel_rfl) ?_
          repeat (first | go_big_quiet_step (fail) | quiet_step (fail))
          refine wpQuiet_nil ?_
          intro _ hw'
          obtain ⟨⟨dq2, osq2⟩, hw''⟩ := hw'
          subst hw''
          have b11 := below_regrown wr dq2 osq2
          generalize grow (redrawn wr dq2) osq2 = w6' at *
          have b0z := b0r.trans (b11.mono b0r.size)
          clear g1 g2 g3 g4 g5 g6 g7
          go_wp2
          go_ret
          exact ⟨rfl, b0z⟩
        · have hd : (F.nm.toList == sn.toList) = false := bytes_ne he
          have HD2 := hide ((unhide HD).trans (if_neg he))
          clear he HD
          go_wp2
          go_roundw
          case rel => exact ⟨i + 1, by go_num, by omega, hbr, unhide HD2⟩
          case measure =>
            simp only [intOf]
            omega
      · have i1 : ¬ (i : Int) < (nf : Int) := by omega
        have h1 : fldT K.fs sn = (zT, false) := by
          rw [unhide Hty, List.drop_eq_nil_of_le (by have := unhide Hnf; omega)]
          rfl
        have HT := unhide HTE
        rw [h1] at HT
        have e1 : te = 15 := by
          injection HT with h2 h3
          exact h3.symm
        subst e1
        clear h1 HT HTE
        go_wp2
        go_ret
        exact ⟨rfl, b0r⟩
end Go.Proofs.Ytjajhmojcmfidab
