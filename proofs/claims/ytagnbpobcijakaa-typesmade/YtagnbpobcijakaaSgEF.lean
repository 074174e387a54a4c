/-
 chancellaw10.Good: what it returns.
 How much there is of a good schema (no walk in it).
-/
import Derived.Test.YtagnbpobcijakaaSgF
import Derived.Test.YtagnbpobcijakaaSeB
import Derived.BigGuardPart
namespace Go.Proofs.Ytagnbpobcijakaa
open Go.RowKit Go.Sort

theorem lks_below {w w' : World} {ao : Option Addr} {ks : List LK} (h : IsLKs w ao ks) (hb : Below w.heap.size w w') : IsLKs w' ao ks := by
 obtain ⟨xs, h1, h2, h3⟩ := h
 exact ⟨xs, h1, h2.below hb, fun j a b => ⟨(h3 j a b).nm, (h3 j a b).al, (h3 j a b).a.below hb, (h3 j a b).bl, (h3 j a b).b.below hb⟩⟩
theorem las_below {w w' : World} {ao : Option Addr} {ks : List LA} (h : IsLAs w ao ks) (hb : Below w.heap.size w w') : IsLAs w' ao ks := by
 obtain ⟨xs, h1, h2, h3⟩ := h
 exact ⟨xs, h1, h2.below hb, fun j a b => ⟨(h3 j a b).nm, (h3 j a b).al, (h3 j a b).a.below hb, (h3 j a b).bl, (h3 j a b).b.below hb⟩⟩
/-- Few of each. -/
structure Tiny (x : SP) : Prop where
 ks : x.ks.length ≤ 5
 ac : x.ac.length ≤ 5
 k : ∀ k ∈ x.ks, k.ps.length ≤ 3 ∧ k.fs.length ≤ 4
 a : ∀ a ∈ x.ac, a.pr.length ≤ 4 ∧ a.re.length ≤ 4 ∧ a.nm.size ≤ 100
theorem acS_size (n : Int) : (acS n).size ≤ 5 := by
 unfold acS
 generalize (n % 3).toNat = m
 match m with
 | 0 | 1 | 2 => decide
 | m + 3 => exact Nat.zero_le _
theorem tiny_schema (ks : List LK) (as_ : List LA) : Tiny (schemaS ks as_) := by
 refine ⟨by unfold schemaS; simp; omega, by unfold schemaS; simp; omega, fun k hk => ?_, fun a ha => ?_⟩
 ·unfold schemaS at hk
  obtain ⟨x, _, rfl⟩ := List.mem_map.1 hk
  unfold kindS
  simp
  omega
 ·unfold schemaS at ha
  obtain ⟨x, _, rfl⟩ := List.mem_map.1 ha
  have := acS_size x.nm
  unfold actS
  simp
  omega
theorem keep_old {w W0 wr : World} {S : Nat} {av lv av0 lv0 : Value} {xs : List N3} {acc : List KP} (h : G1 w W0 wr S av lv xs acc) (hS : W0.heap[S]? = some (.cells #[lv0, av0] 33 (0, 0))) : KeepSF W0 wr :=
 ⟨h.size, fun b cur T fz hT hb => (h.old b (Array.getElem?_eq_some_iff.1 hb).1 (fun e => by rw [e] at hb; exact sf_ne hT (.inl rfl) (not_typed hb hS))).trans hb⟩
theorem beq_bytes (a b : ByteArray) : decide (a = b) = (a.toList == b.toList) := by
 by_cases h : a = b
 ·subst h
  rw [decide_eq_true rfl, beq_self_eq_true]
 ·rw [decide_eq_false h, bytes_ne h]
def s11Sp (S X : Nat) (lv xv : Value) (i g o : Nat) (kv : Value) : Nat → Value → World → Prop
 | 0, v, _ => v = .pointer (some ⟨S, 0, none⟩)
 | 1, v, _ => v = lv
 | 2, v, _ => v = .pointer (some ⟨X, 0, none⟩)
 | 3, v, _ => v = xv
 | 4, v, _ => v = .int .i64 i
 | 5, v, _ => v = .pointer (some ⟨g, o, none⟩)
 | 6, v, _ => v = kv
 | 9, v, _ => v = .pointer (some ⟨S, 0, none⟩)
 | _, _, _ => True
theorem s11Sp_up {S X : Nat} {lv xv : Value} {i g o : Nat} {kv : Value} {w w' : World} : ∀ q u, s11Sp S X lv xv i g o kv q u w → s11Sp S X lv xv i g o kv q u w' := fun q u h => by
 match q, h with
 | 0, h | 1, h | 2, h | 3, h | 4, h | 5, h | 6, h | 7, h | 8, h | 9, h => exact h
 | _ + 10, _ => exact trivial

set_option maxHeartbeats 16000000 in
set_option maxRecDepth 1000000 in
theorem good_any (ks : List LK) (as_ : List LA) (ko ao : Option Addr) (kc ac : Nat) (w : World) (hk : IsLKs w ko ks) (ha : IsLAs w ao as_) (hkp : ∀ j (h : j < ks.length), ks[j].ps.length ≤ 9223372036854775807 ∧ ks[j].fs.length ≤ 9223372036854775807) (hap : ∀ j (h : j < as_.length), as_[j].p.length ≤ 9223372036854775807 ∧ as_[j].r.length ≤ 9223372036854775807) :
  Calls Try.prog 8 #[.slice ko ks.length kc, .slice ao as_.length ac] w fun e w' => Below w.heap.size w w' ∧ ∃ v, e = .returned v ∧ IsST w' v (goodS (schemaS ks as_)) := by
 obtain ⟨iK, hiK, hzK0, hzK1, hzK2⟩ := info_parts infoKind
 obtain ⟨iA, hiA, hzA0, hzA1, hzA2⟩ := info_parts infoAction
 have b1 := blw1 w (.cells #[.slice none 0 0, .slice none 0 0] 33)
 have HR := alloc_heap w (.cells #[.slice none 0 0, .slice none 0 0] 33)
 have C := schema5_any ks as_ ko ao kc ac _ (lks_below hk b1) (las_below ha b1) hkp hap
 have hT := tiny_schema ks as_
 clear hk ha hkp hap
 generalize schemaS ks as_ = X at *
 go_enter Try.func8, Try.ntmps8
 go_wp2_with fail
 generalize w.alloc _ = w1 at *
 refine C.mono ?_
 clear C
 rintro e w2 ⟨b2, v, rfl, hx⟩
 obtain ⟨xko, xkc, xao, xac, xk, xa, rfl, n1, r1, a1, n2, r2, a2⟩ := hx.ex
 clear hx
 have HR2 := kept_of_below b2 HR
 have bw2 := b1.trans (b2.mono b1.size)
 have zw2 : w.heap.size < w2.heap.size := (Array.getElem?_eq_some_iff.1 HR2).1
 clear HR b1 b2
 obtain ⟨b23, z3, HX, HS, HN⟩ := alloc3 w2 (.cells #[.slice xko X.ks.length xkc, .slice xao X.ac.length xac] 33) (.cells #[.slice none 0 0, .slice none 0 0] 33) (.cells nm4Cs 9)
 have z3 := Nat.le_of_eq z3.symm
 have bW0 := bw2.trans (b23.mono bw2.size)
 have HKW := hide (KeepSF.of_below b23)
 have HR1 := hide r1
 have HR2' := hide r2
 have HA1 := hide a1
 have HA2 := hide a2
 have hn4 := fun (n : Nat) (h : n < names4.length) => nm4_cells n h
 have HN4 := hide hn4
 clear r1 r2 a1 a2 hn4
 unfold nm4Cs at *
 go_upto_block 0 with fail
 generalize ((w2.alloc _).alloc _).alloc _ = W0 at *
 have hX5 := hT.ks
 have hA5 := hT.ac
 go_cut [] from 7 (fun wc => ∃ lv xs, G1 w W0 wc (w2.heap.size + 1) (.slice none 0 0) lv xs (good1 X.ks names4))
 case first =>
  go_wp2_with fail
  go_loopw [8] (fun nv wr => ∃ (n : Nat) (lv : Value) (xs : List N3), nv = .int .i64 n ∧ n ≤ 4 ∧ G1 w W0 wr (w2.heap.size + 1) (.slice none 0 0) lv xs (good1 X.ks (names4.take n))) (fun nv _ => 4 - (intOf nv).toNat)
  case atStart => exact ⟨0, .slice none 0 0, [], by go_num, by omega, bW0, Nat.le_refl _, fun _ _ _ => rfl, HS, World.ownsRow_nil _ _ _ _, rfl, fun j hj => absurd hj (Nat.not_lt_zero _)⟩
  case round =>
   obtain ⟨n, lv, xs, rfl, hn4, hG⟩ := hrel
   by_cases hlt : n < 4
   ·have n0 : (0 : Int) ≤ (n : Int) := by omega
    have n1' : (n : Int) < 4 := by omega
    have hnn0 : W0.cell? ⟨w2.heap.size + 2, n, none⟩ = some (.string (names4[n]'(by show n < 4; omega))) := by rw [Lib.cell_of_heap HN]; exact unhide HN4 n (by show n < 4; omega)
    have HNN := hide (good1_next X.ks names4 n (by show n < 4; omega))
    have hacc0 := good1_len X.ks hX5 names4 n (by show n ≤ 4; omega)
    generalize names4[n]'(by show n < 4; omega) = nn at *
    generalize good1 X.ks (names4.take n) = acc0 at *
    have HG0 := hide hG
    clear hG
    go_wp2_with fail
    go_loopw [9] (fun iv wr => ∃ (i : Nat) (lv : Value) (xs : List N3), iv = .int .i64 i ∧ i ≤ X.ks.length ∧ G1 w W0 wr (w2.heap.size + 1) (.slice none 0 0) lv xs (pickKs nn (X.ks.take i) acc0)) (fun iv _ => X.ks.length - (intOf iv).toNat)
    case atStart => exact ⟨0, lv, xs, by go_num, Nat.zero_le _, unhide HG0⟩
    case round =>
     clear HG0
     obtain ⟨i, lv, xs, rfl, hil, hG⟩ := hrel
     obtain ⟨hil, hG⟩ := And.intro hil hG
     have HG := hide hG
     have HXr := hide ((hG.old w2.heap.size (by omega) (by omega)).trans HX)
     have xc0 : wr.cell? ⟨w2.heap.size, 0, none⟩ = some (.slice xko X.ks.length xkc) := by rw [Lib.cell_of_heap (unhide HXr)]; rfl
     by_cases hlt : i < X.ks.length
     ·have i0 : (0 : Int) ≤ (i : Int) := by omega
      have i1 : (i : Int) < (X.ks.length : Int) := by omega
      have hxi : i < xk.length := by omega
      obtain ⟨g, off, rfl, hgw, hcell⟩ := rowG_at (unhide HR1) (Below.refl _ w2) hxi
      have hg0 : wr.heap[g]? = w2.heap[g]? := (hG.old g (by omega) (by omega)).trans (b23.block g hgw)
      have KT := (unhide HA1) i hxi hlt
      have HKT := hide (KT.turn (w' := wr) ((unhide HKW).trans (keep_old hG HS)))
      obtain ⟨k, hk⟩ : ∃ k, k = X.ks[i] := ⟨_, rfl⟩
      rw [← hk] at HKT KT
      have HPN := hide (show pickKs nn (X.ks.take (i + 1)) acc0 = pickK nn (pickKs nn (X.ks.take i) acc0) k by rw [hk]; exact pickKs_next nn X.ks acc0 i hlt)
      have hknm := KT.is.nm
      generalize xk[i] = y at *
      obtain ⟨knm, kao, kal, kac, kbo, kbl, kbc⟩ := y
      have m0 := (World.cell?_of_block (a := ⟨g, off + i * 3, none⟩) hg0).trans (hcell 0 _ rfl)
      have m1 := (World.cell?_of_block (a := ⟨g, off + i * 3 + 1, none⟩) hg0).trans (hcell 1 _ rfl)
      have m2 := (World.cell?_of_block (a := ⟨g, off + i * 3 + 2, none⟩) hg0).trans (hcell 2 _ rfl)
      simp only at m0 m1 m2 hknm
      have Hknm := hide hknm
      clear hknm
      have HM := hide (And.intro m0 (And.intro m1 m2))
      obtain ⟨acc, hacc⟩ : ∃ acc, acc = pickKs nn (X.ks.take i) acc0 := ⟨_, rfl⟩
      have hal : acc.length ≤ 100 := by
       have h1 := pickKs_len nn (X.ks.take i) acc0
       rw [← hacc] at h1
       have h2 : (X.ks.take i).length ≤ 5 := by rw [List.length_take]; omega
       omega
      rw [← hacc] at HPN hG HG
      have Hacc := hide hacc
      clear hacc hcell KT hk m1 m2
      obtain ⟨lo, ln, lc, rfl⟩ : ∃ a n c, lv = .slice a n c := by
       rcases hG.own.2 with ⟨h, _⟩ | ⟨g, cap, cur, h, _⟩
       ·exact ⟨_, _, _, h⟩
       ·exact ⟨_, _, _, h⟩
      have hs0 := hG.s
      have sc0 : wr.cell? ⟨w2.heap.size + 1, 0, none⟩ = some (.slice lo ln lc) := lc_ hs0 rfl
      have nnc := (World.cell?_of_block (a := ⟨w2.heap.size + 2, n, none⟩) (hG.old (w2.heap.size + 2) (by omega) (by omega))).trans hnn0
      have hlx : xs.length = acc.length := hG.len
      obtain ⟨XX, hXX⟩ : ∃ XX, XX = (xs.map N3.cells).flatten := ⟨_, rfl⟩
      have HXX := hide hXX.symm
      have hown := hG.own
      rw [← hXX] at hown
      have g1 := cell_regrown m0
      have g2 := cell_regrown sc0
      have g3 := cell_regrown nnc
      have g4 := cell_regrown xc0
      obtain ⟨lo', lc', elv, hrow, _⟩ := own_row (l := xs) (f := N3.cells) (n := 3) lenN (by rw [hlx]; exact hG.own)
      injection elv with e1 e2 e3
      subst e1 e3
      rw [hlx] at e2
      subst e2
      clear hs0 hXX hown m0 sc0 nnc
      unfold pickK at HPN
      by_cases hkn : knm = nn
      ·have hb : (knm.toList == nn.toList) = true := by rw [hkn]; exact beq_self_eq_true _
       rcases List.eq_nil_or_concat acc with rfl | ⟨L, p, rfl⟩
       ·have HNX := hide (show (if pickB nn [] k = true then [] ++ [k] else []) = [] ++ [k] by unfold pickB; rw [← unhide Hknm, hkn]; simp [lastB])
        clear hrow hkn
        simp only [List.length_nil] at *
        go_upto_region 10 with fail
        refine wp_region_quiet_below (by kernel_rfl) (by kernel_rfl) ?_
        repeat (first | go_big_quiet_step (fail) | quiet_step (fail))
        refine wpQuiet_nil ?_
        intro _ hw'
        obtain ⟨⟨dq2, osq2⟩, hw''⟩ := hw'
        subst hw''
        have b11 := below_regrown wr dq2 osq2
        generalize grow (redrawn wr dq2) osq2 = w6 at *
        have HG6 := hide ((unhide HG).up b11)
        clear g1 g2 g3 g4
        go_upto_region 11 with fail
        as_aux_lemma =>
         have h6 := unhide HG6
         have hAR0 : ∀ a, AR (⟨w, w6, W0.heap.size, (w2.heap.size + 1), 80, 3, fun v => #[v, .slice none 0 0], 33, .slice lo 0 lc, 0, XX, [.string knm, .slice kao kal kac, .slice kbo kbl kbc], 1, 7, 8, 10, 70, 71⟩ : ARp) (fun _ => false) a w6.drew := fun a => AR.start a h6.below h6.s (by have := h6.own; rw [unhide HXX] at this; exact this)
         have own6 := h6.own.lt
         have z60 := h6.size
         have b60 := h6.below
         have HX6 := (h6.old w2.heap.size (by omega) (by omega)).trans HX
         have hgr : g < wr.heap.size := by have := (unhide HG).size; omega
         have HK6 := hide (And.intro ((b11.cell (p := ⟨g, off + i * 3, none⟩) hgr).trans (unhide HM).1) (And.intro ((b11.cell (p := ⟨g, off + i * 3 + 1, none⟩) hgr).trans (unhide HM).2.1) ((b11.cell (p := ⟨g, off + i * 3 + 2, none⟩) hgr).trans (unhide HM).2.2)))
         clear h6
         refine wp_specsB 10 (s11Sp (w2.heap.size + 1) w2.heap.size (.slice lo 0 lc) (.slice (some ⟨g, off, none⟩) X.ks.length xkc) i g (off + i * 3) (.agg #[.string knm, .slice kao kal kac, .slice kbo kbl kbc])) (AR (⟨w, w6, W0.heap.size, (w2.heap.size + 1), 80, 3, fun v => #[v, .slice none 0 0], 33, .slice lo 0 lc, 0, XX, [.string knm, .slice kao kal kac, .slice kbo kbl kbc], 1, 7, 8, 10, 70, 71⟩ : ARp)) (by kernel_rfl) (by kernel_rfl) (by kernel_rfl) (hAR0 _) ?_ ?_ ?_
         ·intro i' q hi' ho L a' w' hL hw hR hdep hslot hsz' K hK
          have kp := hR.keep
          have hX' := (kp w2.heap.size (by show w2.heap.size < w6.heap.size; omega) (by show w2.heap.size ≠ (w2.heap.size + 1); omega) (fun e => by have := (own6 _ e).1; omega)).trans HX6
          have hg' := kp g (by show g < w6.heap.size; omega) (by show g ≠ (w2.heap.size + 1); omega) (fun e => by have := (own6 _ e).1; omega)
          clear hAR0 kp
          match i', hi' with
          | 0, _ =>
           cases ho
           have e0 : a'.tmps.getD 6 undef = .pointer (some ⟨(w2.heap.size + 1), 0, none⟩) := hslot 6 (by decide)
           clear hsz'
           unfold Oper.wp
           go_simp
           exact hK _ _ rfl (hR.grow 0 63 _ (show (0 : Nat) ≠ 7 ∧ (0 : Nat) ≠ 8 ∧ (0 : Nat) ≠ 10 from by decide) (show (63 : Nat) ≠ 70 ∧ (63 : Nat) ≠ 71 from by decide) (Below.refl _ _)) (fun _ _ h => h)
          | 1, _ =>
           cases ho
           have e0 : a'.tmps.getD 63 undef = .pointer (some ⟨(w2.heap.size + 1), 0, none⟩) := hdep 0 (by decide) (by kernel_rfl)
           have e0' := gd_ e0
           have hK6 := hR.kb (hR.noS (hR.noA (.inl hL)))
           have cK : w'.cell? ⟨(w2.heap.size + 1), 0, none⟩ = some (.slice lo 0 lc) := lc_ hK6 rfl
           clear hK6 hX' hg'
           clear hsz'
           unfold Oper.wp
           go_simp
           exact hK _ _ rfl (hR.grow 1 64 _ (show (1 : Nat) ≠ 7 ∧ (1 : Nat) ≠ 8 ∧ (1 : Nat) ≠ 10 from by decide) (show (64 : Nat) ≠ 70 ∧ (64 : Nat) ≠ 71 from by decide) (Below.refl _ _)) (fun _ _ h => h)
          | 2, _ =>
           cases ho
           have e0 : a'.tmps.getD 5 undef = .pointer (some ⟨w2.heap.size, 0, none⟩) := hslot 5 (by decide)
           clear hsz'
           unfold Oper.wp
           go_simp
           exact hK _ _ rfl (hR.grow 2 65 _ (show (2 : Nat) ≠ 7 ∧ (2 : Nat) ≠ 8 ∧ (2 : Nat) ≠ 10 from by decide) (show (65 : Nat) ≠ 70 ∧ (65 : Nat) ≠ 71 from by decide) (Below.refl _ _)) (fun _ _ h => h)
          | 3, _ =>
           cases ho
           have e0 : a'.tmps.getD 65 undef = .pointer (some ⟨w2.heap.size, 0, none⟩) := hdep 2 (by decide) (by kernel_rfl)
           have e0' := gd_ e0
           have cX : w'.cell? ⟨w2.heap.size, 0, none⟩ = some (.slice (some ⟨g, off, none⟩) X.ks.length xkc) := lc_ hX' rfl
           clear hX' hg'
           clear hsz'
           unfold Oper.wp
           go_simp
           exact hK _ _ rfl (hR.grow 3 66 _ (show (3 : Nat) ≠ 7 ∧ (3 : Nat) ≠ 8 ∧ (3 : Nat) ≠ 10 from by decide) (show (66 : Nat) ≠ 70 ∧ (66 : Nat) ≠ 71 from by decide) (Below.refl _ _)) (fun _ _ h => h)
          | 4, _ =>
           cases ho
           have e0 : a'.tmps.getD 9 undef = .int .i64 i := hslot 9 (by decide)
           clear hsz'
           unfold Oper.wp
           go_simp
           exact hK _ _ rfl (hR.grow 4 67 _ (show (4 : Nat) ≠ 7 ∧ (4 : Nat) ≠ 8 ∧ (4 : Nat) ≠ 10 from by decide) (show (67 : Nat) ≠ 70 ∧ (67 : Nat) ≠ 71 from by decide) (Below.refl _ _)) (fun _ _ h => h)
          | 5, _ =>
           cases ho
           have e0 : a'.tmps.getD 66 undef = .slice (some ⟨g, off, none⟩) X.ks.length xkc := hdep 3 (by decide) (by kernel_rfl)
           have e0' := gd_ e0
           have e1 : a'.tmps.getD 67 undef = .int .i64 i := hdep 4 (by decide) (by kernel_rfl)
           have e1' := gd_ e1
           clear hsz'
           unfold Oper.wp
           go_simp
           exact hK _ _ rfl (hR.grow 5 68 _ (show (5 : Nat) ≠ 7 ∧ (5 : Nat) ≠ 8 ∧ (5 : Nat) ≠ 10 from by decide) (show (68 : Nat) ≠ 70 ∧ (68 : Nat) ≠ 71 from by decide) (Below.refl _ _)) (fun _ _ h => h)
          | 6, _ =>
           cases ho
           have e0 : a'.tmps.getD 68 undef = .pointer (some ⟨g, off + i * 3, none⟩) := hdep 5 (by decide) (by kernel_rfl)
           have e0' := gd_ e0
           obtain ⟨n0, n1, n2⟩ := unhide HK6
           have m0 := (World.cell?_of_block (a := ⟨g, off + i * 3, none⟩) hg').trans n0
           have m1 := (World.cell?_of_block (a := ⟨g, off + i * 3 + 1, none⟩) hg').trans n1
           have m2 := (World.cell?_of_block (a := ⟨g, off + i * 3 + 2, none⟩) hg').trans n2
           clear hX' hg' n0 n1 n2
           clear hsz'
           unfold Oper.wp
           go_simp
           exact hK _ _ rfl (hR.grow 6 69 _ (show (6 : Nat) ≠ 7 ∧ (6 : Nat) ≠ 8 ∧ (6 : Nat) ≠ 10 from by decide) (show (69 : Nat) ≠ 70 ∧ (69 : Nat) ≠ 71 from by decide) (Below.refl _ _)) (fun _ _ h => h)
          | 7, _ =>
           cases ho
           have e0 : a'.tmps.getD 69 undef = .agg #[.string knm, .slice kao kal kac, .slice kbo kbl kbc] := hdep 6 (by decide) (by kernel_rfl)
           have e0' := gd_ e0
           have hG := hide (hR.alloc hL (by rw [hsz']; exact Nat.le_of_ble_eq_true (by kernel_rfl)) (show (8 : Nat) ≠ 7 from by decide) (show (10 : Nat) ≠ 7 from by decide))
           clear hsz' hX' hg'
           unfold Oper.wp
           go_simp
           exact hK _ _ trivial (unhide hG) s11Sp_up
          | 8, _ =>
           cases ho
           have hLR : L 1 = true := hw 1 (by kernel_rfl)
           have hLN : L 7 = true := hw 7 (by kernel_rfl)
           have e0 : a'.tmps.getD 64 undef = .slice lo 0 lc := hdep 1 (by decide) (by kernel_rfl)
           obtain ⟨blk, e1, hblk⟩ := hR.new hLN hL
           have hcell : ∀ jj u, ([.string knm, .slice kao kal kac, .slice kbo kbl kbc] : List Value)[jj]? = some u → w'.cell? ((⟨blk, 0, none⟩ : Addr).add jj) = some u := by
            intro jj u hu
            rw [Addr.add_lit, Nat.zero_add, Lib.cell_of_heap hblk]
            simpa using hu
           obtain ⟨v', w'', hr, hown', hgr, _, _⟩ := run_append_own_at (P := Try.prog) w' W0.heap.size 30 30 80 iK _ 3 64 Try.underlying30 hiK hzK0 hzK1 hzK2 rfl (by decide) (.slice lo 0 lc) 0 XX (hR.row hL) ⟨blk, 0, none⟩ 1 1 [.string knm, .slice kao kal kac, .slice kbo kbl kbc] rfl hcell (by intro u hu; simp at hu; rcases hu with rfl | rfl | rfl <;> rfl) (by unfold maxLen; omega) (by omega) (by have := hR.size; simp only at this; omega)
           have hs : a'.eval (.tmp 64) = .slice lo 0 lc := e0
           have hx : a'.eval (.tmp 70) = .slice (some ⟨blk, 0, none⟩) 1 1 := e1
           unfold Oper.wp execOp
           simp only [resolve, invoke, builtin, Sem.run_bind, Sem.run_pure, Result.andThen_ok, List.map_toArray, List.map_cons, List.map_nil, hs, hx, hr]
           exact hK _ _ trivial (hR.appd hL hLR hLN (by rw [hsz']; exact Nat.le_of_ble_eq_true (by kernel_rfl)) (show (10 : Nat) ≠ 8 from by decide) (by show W0.heap.size ≤ w6.heap.size; omega) (by show (w2.heap.size + 1) < W0.heap.size; omega) (by show w.heap.size ≤ W0.heap.size; omega) hown' hgr) s11Sp_up
          | 9, _ =>
           cases ho
           have e0 : a'.tmps.getD 6 undef = .pointer (some ⟨(w2.heap.size + 1), 0, none⟩) := hslot 6 (by decide)
           clear hsz'
           unfold Oper.wp
           go_simp
           exact hK _ _ rfl (hR.grow 9 72 _ (show (9 : Nat) ≠ 7 ∧ (9 : Nat) ≠ 8 ∧ (9 : Nat) ≠ 10 from by decide) (show (72 : Nat) ≠ 70 ∧ (72 : Nat) ≠ 71 from by decide) (Below.refl _ _)) (fun _ _ h => h)
          | i + 10, h => exact absurd h (by omega)
         ·intro i' q hi' ho L a' w' hL hw hR hdep K hK
          have : i' = 10 := by
           have h := (List.getElem?_eq_some_iff.1 ho).1
           simp only [List.length_cons, List.length_nil] at h
           omega
          subst this
          cases ho
          have hA : L 8 = true := hw 8 (by kernel_rfl)
          obtain ⟨ao7, n7, c7, e1, hST⟩ := hR.stor hL hA (show (7 : Nat) ≠ 10 from by decide) (show (8 : Nat) ≠ 10 from by decide) (by show w.heap.size ≤ (w2.heap.size + 1); omega) (by show (w2.heap.size + 1) < W0.heap.size; omega) 0 (fun _ => rfl)
          have hST := hide hST
          have e2 : a'.tmps.getD 72 undef = .pointer (some ⟨(w2.heap.size + 1), 0, none⟩) := hdep 9 (by decide) (by kernel_rfl)
          have e1 : a'.tmps.getD 71 undef = .slice ao7 n7 c7 := e1
          have hkb := hR.kb hL
          have x6 : w'.cell? ⟨(w2.heap.size + 1), 0, none⟩ = some (.slice lo 0 lc) := lc_ hkb rfl
          have f6 : w'.frozen? ⟨(w2.heap.size + 1), 0, none⟩ = false := Lib.frozen_of_heap hkb 0
          clear hkb hAR0
          unfold Oper.wp
          go_simp
          exact hK _ (unhide hST) s11Sp_up undef
         ·intro v L w5 hall hR hsp
          obtain ⟨ao7, n7, c7, _, hown7, hk7⟩ := hR.app (hall 8 (by decide))
          have hk7 := hk7 (hall 10 (by decide))
          have b7 : Below w.heap.size w w5 := hR.below
          have HV := hide (And.intro b7 (And.intro hR.size (And.intro hR.keep (And.intro hk7 hown7))))
          clear hk7 hown7 hAR0
          have e0 : v 0 = _ := hsp 0 (by decide)
          have e1 : v 1 = _ := hsp 1 (by decide)
          have e2 : v 2 = _ := hsp 2 (by decide)
          have e3 : v 3 = _ := hsp 3 (by decide)
          have e4 : v 4 = _ := hsp 4 (by decide)
          have e5 : v 5 = _ := hsp 5 (by decide)
          have e6 : v 6 = _ := hsp 6 (by decide)
          have e9 : v 9 = _ := hsp 9 (by decide)
          clear hR hall hsp
          simp only [putAll, dstOf, List.getElem?_cons_zero, List.getElem?_cons_succ, Option.bind_some, e0, e1, e2, e3, e4, e5, e6, e9]
          clear e0 e1 e2 e3 e4 e5 e6 e9
          simp only [Act.put, List.setIfInBounds_toArray, List.set_cons_succ, List.set_cons_zero]
          generalize v 7 = v7
          generalize v 8 = v8
          go_wp2
          go_roundw
          case rel =>
           refine ⟨i + 1, .slice ao7 n7 c7, xs ++ [⟨knm, kao, kal, kac, kbo, kbl, kbc⟩], by go_num, by omega, ?_⟩
           obtain ⟨q1, q2, q3, q4, q5⟩ := unhide HV
           rw [unhide HPN, unhide HNX]
           exact G1.next (unhide HG6) (by omega) ((unhide HKT).turn (.of_below b11)) q1 q2 q3 q4 (by rw [unhide HXX]; exact q5)
          case measure =>
           simp only [intOf]
           omega
       ·rw [List.concat_eq_append] at *
        have eL : (L ++ [p]).length = L.length + 1 := by simp
        obtain ⟨h2, off2, rfl, hh2, hc2⟩ := rowG_at hrow (Below.refl _ wr) (show L.length < xs.length by omega)
        have hpp : L.length < (L ++ [p]).length := by omega
        have pnm := (hG.all L.length (by omega) hpp).is.nm
        have pn := hc2 0 _ rfl
        rw [Nat.add_zero] at pn
        rw [show (L ++ [p])[L.length] = p by simp] at pnm
        generalize xs[L.length].nm = pm at *
        have Hpnm := hide pnm
        clear pnm
        have pnG := cell_regrown pn
        have hTm : L.length + 1 ≤ 100 := by omega
        have HeL := hide eL
        rw [eL] at g2
        have HG := hide (show G1 w W0 wr (w2.heap.size + 1) (.slice none 0 0) (.slice (some ⟨h2, off2, none⟩) (L.length + 1) lc) xs (L ++ [p]) from by have := unhide HG; rw [eL] at this; exact this)
        clear eL hpp pn hc2 hrow hG hlx
        have hLast : pickB nn (L ++ [p]) k = !(pm.toList == nn.toList) := by
         unfold pickB
         rw [← unhide Hknm, hkn, List.getLast?_append]
         simp only [decide_true, Bool.true_and, List.getLast?_singleton, Option.some_or, Option.map_some, lastB, ← unhide Hpnm]
         rw [beq_bytes]
        generalize L.length = m at *
        have e1 : ((m : Int) + 1 == 0) = false := by rw [beq_eq_false_iff_ne]; omega
        have e2 : IntKind.i64.wrap (m : Int) = (m : Int) := by rw [IntKind.wrap_i64]; omega
        have e2' : IntKind.i64.wrap ((m : Int) + 1 - 1) = (m : Int) := by rw [IntKind.wrap_i64]; omega
        have e3 : (0 : Int) ≤ (m : Int) := by omega
        have e4 : (m : Int) < (m : Int) + 1 := by omega
        cases hpb : (pm.toList == nn.toList)
        ·have HNX := hide (show (if pickB nn (L ++ [p]) k = true then (L ++ [p]) ++ [k] else (L ++ [p])) = (L ++ [p]) ++ [k] by rw [hLast, hpb]; rfl)
         clear hkn
         go_upto_region 10 with fail
         refine wp_region_quiet_below (by kernel_rfl) (by kernel_rfl) ?_
         repeat (first | go_big_quiet_step (fail) | quiet_step (fail))
         refine wpQuiet_nil ?_
         intro _ hw'
         obtain ⟨⟨dq2, osq2⟩, hw''⟩ := hw'
         subst hw''
         have b11 := below_regrown wr dq2 osq2
         generalize grow (redrawn wr dq2) osq2 = w6 at *
         have HG6 := hide ((unhide HG).up b11)
         clear g1 g2 g3 g4 pnG
         go_upto_region 11 with fail
         as_aux_lemma =>
          have h6 := unhide HG6
          have hAR0 : ∀ a, AR (⟨w, w6, W0.heap.size, (w2.heap.size + 1), 80, 3, fun v => #[v, .slice none 0 0], 33, .slice (some ⟨h2, off2, none⟩) (m + 1) lc, (m + 1), XX, [.string knm, .slice kao kal kac, .slice kbo kbl kbc], 1, 7, 8, 10, 70, 71⟩ : ARp) (fun _ => false) a w6.drew := fun a => AR.start a h6.below h6.s (by have := h6.own; rw [unhide HeL, unhide HXX] at this; exact this)
          have own6 := h6.own.lt
          have z60 := h6.size
          have b60 := h6.below
          have HX6 := (h6.old w2.heap.size (by omega) (by omega)).trans HX
          have hgr : g < wr.heap.size := by have := (unhide HG).size; omega
          have HK6 := hide (And.intro ((b11.cell (p := ⟨g, off + i * 3, none⟩) hgr).trans (unhide HM).1) (And.intro ((b11.cell (p := ⟨g, off + i * 3 + 1, none⟩) hgr).trans (unhide HM).2.1) ((b11.cell (p := ⟨g, off + i * 3 + 2, none⟩) hgr).trans (unhide HM).2.2)))
          clear h6
          refine wp_specsB 10 (s11Sp (w2.heap.size + 1) w2.heap.size (.slice (some ⟨h2, off2, none⟩) (m + 1) lc) (.slice (some ⟨g, off, none⟩) X.ks.length xkc) i g (off + i * 3) (.agg #[.string knm, .slice kao kal kac, .slice kbo kbl kbc])) (AR (⟨w, w6, W0.heap.size, (w2.heap.size + 1), 80, 3, fun v => #[v, .slice none 0 0], 33, .slice (some ⟨h2, off2, none⟩) (m + 1) lc, (m + 1), XX, [.string knm, .slice kao kal kac, .slice kbo kbl kbc], 1, 7, 8, 10, 70, 71⟩ : ARp)) (by kernel_rfl) (by kernel_rfl) (by kernel_rfl) (hAR0 _) ?_ ?_ ?_
          ·intro i' q hi' ho L a' w' hL hw hR hdep hslot hsz' K hK
           have kp := hR.keep
           have hX' := (kp w2.heap.size (by show w2.heap.size < w6.heap.size; omega) (by show w2.heap.size ≠ (w2.heap.size + 1); omega) (fun e => by have := (own6 _ e).1; omega)).trans HX6
           have hg' := kp g (by show g < w6.heap.size; omega) (by show g ≠ (w2.heap.size + 1); omega) (fun e => by have := (own6 _ e).1; omega)
           clear hAR0 kp
           match i', hi' with
           | 0, _ =>
            cases ho
            have e0 : a'.tmps.getD 6 undef = .pointer (some ⟨(w2.heap.size + 1), 0, none⟩) := hslot 6 (by decide)
            clear hsz'
            unfold Oper.wp
            go_simp
            exact hK _ _ rfl (hR.grow 0 63 _ (show (0 : Nat) ≠ 7 ∧ (0 : Nat) ≠ 8 ∧ (0 : Nat) ≠ 10 from by decide) (show (63 : Nat) ≠ 70 ∧ (63 : Nat) ≠ 71 from by decide) (Below.refl _ _)) (fun _ _ h => h)
           | 1, _ =>
            cases ho
            have e0 : a'.tmps.getD 63 undef = .pointer (some ⟨(w2.heap.size + 1), 0, none⟩) := hdep 0 (by decide) (by kernel_rfl)
            have e0' := gd_ e0
            have hK6 := hR.kb (hR.noS (hR.noA (.inl hL)))
            have cK : w'.cell? ⟨(w2.heap.size + 1), 0, none⟩ = some (.slice (some ⟨h2, off2, none⟩) (m + 1) lc) := lc_ hK6 rfl
            clear hK6 hX' hg'
            clear hsz'
            unfold Oper.wp
            go_simp
            exact hK _ _ rfl (hR.grow 1 64 _ (show (1 : Nat) ≠ 7 ∧ (1 : Nat) ≠ 8 ∧ (1 : Nat) ≠ 10 from by decide) (show (64 : Nat) ≠ 70 ∧ (64 : Nat) ≠ 71 from by decide) (Below.refl _ _)) (fun _ _ h => h)
           | 2, _ =>
            cases ho
            have e0 : a'.tmps.getD 5 undef = .pointer (some ⟨w2.heap.size, 0, none⟩) := hslot 5 (by decide)
            clear hsz'
            unfold Oper.wp
            go_simp
            exact hK _ _ rfl (hR.grow 2 65 _ (show (2 : Nat) ≠ 7 ∧ (2 : Nat) ≠ 8 ∧ (2 : Nat) ≠ 10 from by decide) (show (65 : Nat) ≠ 70 ∧ (65 : Nat) ≠ 71 from by decide) (Below.refl _ _)) (fun _ _ h => h)
           | 3, _ =>
            cases ho
            have e0 : a'.tmps.getD 65 undef = .pointer (some ⟨w2.heap.size, 0, none⟩) := hdep 2 (by decide) (by kernel_rfl)
            have e0' := gd_ e0
            have cX : w'.cell? ⟨w2.heap.size, 0, none⟩ = some (.slice (some ⟨g, off, none⟩) X.ks.length xkc) := lc_ hX' rfl
            clear hX' hg'
            clear hsz'
            unfold Oper.wp
            go_simp
            exact hK _ _ rfl (hR.grow 3 66 _ (show (3 : Nat) ≠ 7 ∧ (3 : Nat) ≠ 8 ∧ (3 : Nat) ≠ 10 from by decide) (show (66 : Nat) ≠ 70 ∧ (66 : Nat) ≠ 71 from by decide) (Below.refl _ _)) (fun _ _ h => h)
           | 4, _ =>
            cases ho
            have e0 : a'.tmps.getD 9 undef = .int .i64 i := hslot 9 (by decide)
            clear hsz'
            unfold Oper.wp
            go_simp
            exact hK _ _ rfl (hR.grow 4 67 _ (show (4 : Nat) ≠ 7 ∧ (4 : Nat) ≠ 8 ∧ (4 : Nat) ≠ 10 from by decide) (show (67 : Nat) ≠ 70 ∧ (67 : Nat) ≠ 71 from by decide) (Below.refl _ _)) (fun _ _ h => h)
           | 5, _ =>
            cases ho
            have e0 : a'.tmps.getD 66 undef = .slice (some ⟨g, off, none⟩) X.ks.length xkc := hdep 3 (by decide) (by kernel_rfl)
            have e0' := gd_ e0
            have e1 : a'.tmps.getD 67 undef = .int .i64 i := hdep 4 (by decide) (by kernel_rfl)
            have e1' := gd_ e1
            clear hsz'
            unfold Oper.wp
            go_simp
            exact hK _ _ rfl (hR.grow 5 68 _ (show (5 : Nat) ≠ 7 ∧ (5 : Nat) ≠ 8 ∧ (5 : Nat) ≠ 10 from by decide) (show (68 : Nat) ≠ 70 ∧ (68 : Nat) ≠ 71 from by decide) (Below.refl _ _)) (fun _ _ h => h)
           | 6, _ =>
            cases ho
            have e0 : a'.tmps.getD 68 undef = .pointer (some ⟨g, off + i * 3, none⟩) := hdep 5 (by decide) (by kernel_rfl)
            have e0' := gd_ e0
            obtain ⟨n0, n1, n2⟩ := unhide HK6
            have m0 := (World.cell?_of_block (a := ⟨g, off + i * 3, none⟩) hg').trans n0
            have m1 := (World.cell?_of_block (a := ⟨g, off + i * 3 + 1, none⟩) hg').trans n1
            have m2 := (World.cell?_of_block (a := ⟨g, off + i * 3 + 2, none⟩) hg').trans n2
            clear hX' hg' n0 n1 n2
            clear hsz'
            unfold Oper.wp
            go_simp
            exact hK _ _ rfl (hR.grow 6 69 _ (show (6 : Nat) ≠ 7 ∧ (6 : Nat) ≠ 8 ∧ (6 : Nat) ≠ 10 from by decide) (show (69 : Nat) ≠ 70 ∧ (69 : Nat) ≠ 71 from by decide) (Below.refl _ _)) (fun _ _ h => h)
           | 7, _ =>
            cases ho
            have e0 : a'.tmps.getD 69 undef = .agg #[.string knm, .slice kao kal kac, .slice kbo kbl kbc] := hdep 6 (by decide) (by kernel_rfl)
            have e0' := gd_ e0
            have hG := hide (hR.alloc hL (by rw [hsz']; exact Nat.le_of_ble_eq_true (by kernel_rfl)) (show (8 : Nat) ≠ 7 from by decide) (show (10 : Nat) ≠ 7 from by decide))
            clear hsz' hX' hg'
            unfold Oper.wp
            go_simp
            exact hK _ _ trivial (unhide hG) s11Sp_up
           | 8, _ =>
            cases ho
            have hLR : L 1 = true := hw 1 (by kernel_rfl)
            have hLN : L 7 = true := hw 7 (by kernel_rfl)
            have e0 : a'.tmps.getD 64 undef = .slice (some ⟨h2, off2, none⟩) (m + 1) lc := hdep 1 (by decide) (by kernel_rfl)
            obtain ⟨blk, e1, hblk⟩ := hR.new hLN hL
            have hcell : ∀ jj u, ([.string knm, .slice kao kal kac, .slice kbo kbl kbc] : List Value)[jj]? = some u → w'.cell? ((⟨blk, 0, none⟩ : Addr).add jj) = some u := by
             intro jj u hu
             rw [Addr.add_lit, Nat.zero_add, Lib.cell_of_heap hblk]
             simpa using hu
            obtain ⟨v', w'', hr, hown', hgr, _, _⟩ := run_append_own_at (P := Try.prog) w' W0.heap.size 30 30 80 iK _ 3 64 Try.underlying30 hiK hzK0 hzK1 hzK2 rfl (by decide) (.slice (some ⟨h2, off2, none⟩) (m + 1) lc) (m + 1) XX (hR.row hL) ⟨blk, 0, none⟩ 1 1 [.string knm, .slice kao kal kac, .slice kbo kbl kbc] rfl hcell (by intro u hu; simp at hu; rcases hu with rfl | rfl | rfl <;> rfl) (by unfold maxLen; omega) (by omega) (by have := hR.size; simp only at this; omega)
            have hs : a'.eval (.tmp 64) = .slice (some ⟨h2, off2, none⟩) (m + 1) lc := e0
            have hx : a'.eval (.tmp 70) = .slice (some ⟨blk, 0, none⟩) 1 1 := e1
            unfold Oper.wp execOp
            simp only [resolve, invoke, builtin, Sem.run_bind, Sem.run_pure, Result.andThen_ok, List.map_toArray, List.map_cons, List.map_nil, hs, hx, hr]
            exact hK _ _ trivial (hR.appd hL hLR hLN (by rw [hsz']; exact Nat.le_of_ble_eq_true (by kernel_rfl)) (show (10 : Nat) ≠ 8 from by decide) (by show W0.heap.size ≤ w6.heap.size; omega) (by show (w2.heap.size + 1) < W0.heap.size; omega) (by show w.heap.size ≤ W0.heap.size; omega) hown' hgr) s11Sp_up
           | 9, _ =>
            cases ho
            have e0 : a'.tmps.getD 6 undef = .pointer (some ⟨(w2.heap.size + 1), 0, none⟩) := hslot 6 (by decide)
            clear hsz'
            unfold Oper.wp
            go_simp
            exact hK _ _ rfl (hR.grow 9 72 _ (show (9 : Nat) ≠ 7 ∧ (9 : Nat) ≠ 8 ∧ (9 : Nat) ≠ 10 from by decide) (show (72 : Nat) ≠ 70 ∧ (72 : Nat) ≠ 71 from by decide) (Below.refl _ _)) (fun _ _ h => h)
           | i + 10, h => exact absurd h (by omega)
          ·intro i' q hi' ho L a' w' hL hw hR hdep K hK
           have : i' = 10 := by
            have h := (List.getElem?_eq_some_iff.1 ho).1
            simp only [List.length_cons, List.length_nil] at h
            omega
           subst this
           cases ho
           have hA : L 8 = true := hw 8 (by kernel_rfl)
           obtain ⟨ao7, n7, c7, e1, hST⟩ := hR.stor hL hA (show (7 : Nat) ≠ 10 from by decide) (show (8 : Nat) ≠ 10 from by decide) (by show w.heap.size ≤ (w2.heap.size + 1); omega) (by show (w2.heap.size + 1) < W0.heap.size; omega) 0 (fun _ => rfl)
           have hST := hide hST
           have e2 : a'.tmps.getD 72 undef = .pointer (some ⟨(w2.heap.size + 1), 0, none⟩) := hdep 9 (by decide) (by kernel_rfl)
           have e1 : a'.tmps.getD 71 undef = .slice ao7 n7 c7 := e1
           have hkb := hR.kb hL
           have x6 : w'.cell? ⟨(w2.heap.size + 1), 0, none⟩ = some (.slice (some ⟨h2, off2, none⟩) (m + 1) lc) := lc_ hkb rfl
           have f6 : w'.frozen? ⟨(w2.heap.size + 1), 0, none⟩ = false := Lib.frozen_of_heap hkb 0
           clear hkb hAR0
           unfold Oper.wp
           go_simp
           exact hK _ (unhide hST) s11Sp_up undef
          ·intro v L w5 hall hR hsp
           obtain ⟨ao7, n7, c7, _, hown7, hk7⟩ := hR.app (hall 8 (by decide))
           have hk7 := hk7 (hall 10 (by decide))
           have b7 : Below w.heap.size w w5 := hR.below
           have HV := hide (And.intro b7 (And.intro hR.size (And.intro hR.keep (And.intro hk7 hown7))))
           clear hk7 hown7 hAR0
           have e0 : v 0 = _ := hsp 0 (by decide)
           have e1 : v 1 = _ := hsp 1 (by decide)
           have e2 : v 2 = _ := hsp 2 (by decide)
           have e3 : v 3 = _ := hsp 3 (by decide)
           have e4 : v 4 = _ := hsp 4 (by decide)
           have e5 : v 5 = _ := hsp 5 (by decide)
           have e6 : v 6 = _ := hsp 6 (by decide)
           have e9 : v 9 = _ := hsp 9 (by decide)
           clear hR hall hsp
           simp only [putAll, dstOf, List.getElem?_cons_zero, List.getElem?_cons_succ, Option.bind_some, e0, e1, e2, e3, e4, e5, e6, e9]
           clear e0 e1 e2 e3 e4 e5 e6 e9
           simp only [Act.put, List.setIfInBounds_toArray, List.set_cons_succ, List.set_cons_zero]
           generalize v 7 = v7
           generalize v 8 = v8
           go_wp2
           go_roundw
           case rel =>
            refine ⟨i + 1, .slice ao7 n7 c7, xs ++ [⟨knm, kao, kal, kac, kbo, kbl, kbc⟩], by go_num, by omega, ?_⟩
            obtain ⟨q1, q2, q3, q4, q5⟩ := unhide HV
            rw [unhide HPN, unhide HNX]
            exact G1.next (unhide HG6) (by omega) ((unhide HKT).turn (.of_below b11)) q1 q2 q3 q4 (by rw [unhide HeL, unhide HXX]; exact q5)
           case measure =>
            simp only [intOf]
            omega
        ·have HNX := hide (show (if pickB nn (L ++ [p]) k = true then (L ++ [p]) ++ [k] else (L ++ [p])) = (L ++ [p]) by rw [hLast, hpb]; rfl)
         clear hkn
         go_upto_region 10 with fail
         refine wp_region_quiet_below (by kernel_rfl) (by kernel_rfl) ?_
         repeat (first | go_big_quiet_step (fail) | quiet_step (fail))
         refine wpQuiet_nil ?_
         intro _ hw'
         obtain ⟨⟨dq2, osq2⟩, hw''⟩ := hw'
         subst hw''
         have b11 := below_regrown wr dq2 osq2
         generalize grow (redrawn wr dq2) osq2 = w6 at *
         have HG6 := hide ((unhide HG).up b11)
         go_wp2
         go_roundw
         case rel => exact ⟨i + 1, _, xs, by go_num, by omega, by rw [unhide HPN, unhide HNX]; exact unhide HG6⟩
         case measure =>
          simp only [intOf]
          omega
      ·have hb : (knm.toList == nn.toList) = false := bytes_ne hkn
       have HNX := hide (show (if pickB nn acc k = true then acc ++ [k] else acc) = acc by unfold pickB; rw [← unhide Hknm, decide_eq_false hkn]; rfl)
       clear hkn hrow
       go_upto_region 10 with fail
       refine wp_region_quiet_below (by kernel_rfl) (by kernel_rfl) ?_
       repeat (first | go_big_quiet_step (fail) | quiet_step (fail))
       refine wpQuiet_nil ?_
       intro _ hw'
       obtain ⟨⟨dq2, osq2⟩, hw''⟩ := hw'
       subst hw''
       have b11 := below_regrown wr dq2 osq2
       generalize grow (redrawn wr dq2) osq2 = w6 at *
       have HG6 := hide ((unhide HG).up b11)
       go_wp2
       go_roundw
       case rel => exact ⟨i + 1, _, xs, by go_num, by omega, by rw [unhide HPN, unhide HNX]; exact unhide HG6⟩
       case measure =>
        simp only [intOf]
        omega
     ·have i1 : ¬ (i : Int) < (X.ks.length : Int) := by omega
      have e : X.ks.take i = X.ks := List.take_of_length_le (by omega)
      rw [e] at HG
      clear e hG
      go_wp2
      go_roundw
      case rel => exact ⟨n + 1, lv, xs, by go_num, by omega, by rw [unhide HNN]; exact unhide HG⟩
      case measure =>
       simp only [intOf]
       omega
   ·have n1' : ¬ (n : Int) < 4 := by omega
    have HG := hide hG
    clear hG
    go_wp2_with fail
    go_meet
    case rel =>
     have e : n = 4 := by omega
     subst e
     exact ⟨lv, xs, unhide HG⟩
 case rest =>
  rename World => wA
  obtain ⟨lv, xs, hG⟩ := hcut
  have hgl := good1_len X.ks hX5 names4 4 (by decide)
  rw [show names4.take 4 = names4 from rfl] at hgl
  have hmem := good1_mem X.ks names4
  obtain ⟨lo, lc, elv, _, _⟩ := own_row (l := xs) (f := N3.cells) (n := 3) lenN (by rw [hG.len]; exact hG.own)
  rw [hG.len] at elv
  have hns : (good1 X.ks names4).map KP.nm = goodNs X.ks := rfl
  have HGS := hide (show goodS X = ⟨(good1 X.ks names4).map (kindG (goodNs X.ks)), goodA (goodNs X.ks) X.ac acts3⟩ from rfl)
  generalize good1 X.ks names4 = G at *
  obtain ⟨ln, hln⟩ : ∃ ln, ln = G.length := ⟨_, rfl⟩
  rw [← hln] at elv
  subst elv
  have HG0 := hide hG
  have Hns := hide hns
  have hln5 : ln ≤ 20 := by omega
  clear hG hns
  have Hln := hide hln
  go_upto_block 4 with fail
  go_cut [] from 7 (fun wc => ∃ xs, G1 w W0 wc (w2.heap.size + 1) (.slice none 0 0) (.slice lo ln lc) xs (G.map (kindG (goodNs X.ks))))
  case first =>
   go_wp2_with fail
   go_loopw [10] (fun iv wr => ∃ (i : Nat) (xs : List N3), iv = .int .i64 i ∧ i ≤ ln ∧ G1 w W0 wr (w2.heap.size + 1) (.slice none 0 0) (.slice lo ln lc) xs (mixK (goodNs X.ks) G i)) (fun iv _ => ln - (intOf iv).toNat)
   case atStart => exact ⟨0, xs, by go_num, Nat.zero_le _, by rw [mixK_zero]; exact unhide HG0⟩
   case round =>
    clear HG0
    obtain ⟨i, xs, rfl, hil, hG⟩ := hrel
    have HG := hide hG
    have sc0 : wr.cell? ⟨w2.heap.size + 1, 0, none⟩ = some (.slice lo ln lc) := lc_ hG.s rfl
    by_cases hlt : i < ln
    ·have i0 : (0 : Int) ≤ (i : Int) := by omega
     have i1 : (i : Int) < (ln : Int) := by omega
     have hxl : xs.length = ln := by rw [hG.len, mixK_len]; exact hln.symm
     obtain ⟨lo', lc', elv, hrow, _⟩ := own_row (l := xs) (f := N3.cells) (n := 3) lenN (by rw [hG.len]; exact hG.own)
     injection elv with e1 e2 e3
     subst e1 e3
     obtain ⟨g, rfl⟩ : ∃ g, lo = some ⟨g, 0, none⟩ := by
      rcases hG.own.2 with ⟨_, h⟩ | ⟨g, _, _, h, _⟩
      ·rw [mixK_len] at h
       omega
      ·injection h with h
       exact ⟨g, h⟩
     obtain ⟨g', off, eg, hgr, hcell⟩ := rowG_at hrow (Below.refl _ wr) (show i < xs.length by omega)
     injection eg with eg
     injection eg with e1 e4
     subst e1 e4
     have KT := hG.all i (by omega) (by rw [mixK_len]; omega)
     rw [mixK_get _ _ _ (by omega)] at KT
     have m0 := hcell 0 _ rfl
     have m1 := hcell 1 _ rfl
     have m2 := hcell 2 _ rfl
     simp only [Nat.zero_add, Nat.add_zero] at m0 m1 m2
     obtain ⟨k, hk⟩ : ∃ k, k = G[i]'(by omega) := ⟨_, rfl⟩
     have hkx : k ∈ X.ks := hmem k (by rw [hk]; exact List.getElem_mem _)
     rw [← hk] at KT
     have HMS := hide (show (mixK (goodNs X.ks) G i).set i (kindG (goodNs X.ks) k) = mixK (goodNs X.ks) G (i + 1) by rw [hk]; exact mixK_set _ _ _ (by omega))
     generalize xs[i] = y at *
     obtain ⟨knm, kao, kal, kac, kbo, kbl, kbc⟩ := y
     simp only at m0 m1 m2
     have hkt := hT.k k hkx
     have CK0 := fun w' (hb : Below wr.heap.size wr w') => kind10_any ⟨mixK (goodNs X.ks) G i, []⟩ (.agg #[.slice (some ⟨g, 0, none⟩) ln lc, .slice none 0 0]) k ⟨knm, kao, kal, kac, kbo, kbl, kbc⟩ w' (by show (mixK (goodNs X.ks) G i).length ≤ _; rw [mixK_len]; omega) (by omega) (by omega) ((hG.isS rfl (isAs_nil _ _)).below hb) ((KT.is).below hb)
     have CK : ∀ w', Below wr.heap.size wr w' → Calls Try.prog 24 #[.agg #[.slice (some ⟨g, 0, none⟩) ln lc, .slice none 0 0], .agg #[.string knm, .slice kao kal kac, .slice kbo kbl kbc]] w' fun e w9 => Below w'.heap.size w' w9 ∧ KindP (goodNs X.ks) k e w9 := fun w' hb => by
      have := CK0 w' hb
      rw [show (⟨mixK (goodNs X.ks) G i, []⟩ : SP).names = goodNs X.ks from (mixK_names _ _ _).trans (unhide Hns)] at this
      exact this
     have hiG : i < G.length := by omega
     clear CK0 KT hcell hrow hG hk hkt hmem hln hxl e2
     go_upto_region 15 with fail
     clear sc0
     as_aux_lemma =>
      refine wp_specs_put 11 (s15Sp (w2.heap.size + 1) (.slice (some ⟨g, 0, none⟩) ln lc) i g (.agg #[.string knm, .slice kao kal kac, .slice kbo kbl kbc]) (goodNs X.ks) k) (fun w' => Below wr.heap.size wr w') (by kernel_rfl) (by kernel_rfl) (Below.refl _ wr).drew ?_ ?_
      ·intro q o hq' ho a' w' hR hdep hslot K hK
       have h' := (unhide HG).up hR
       obtain ⟨cs0, cs1⟩ := bl2_ h'.s
       have k0 := (hR.cell (p := ⟨g, i * 3, none⟩) hgr).trans m0
       have k1 := (hR.cell (p := ⟨g, i * 3 + 1, none⟩) hgr).trans m1
       have k2 := (hR.cell (p := ⟨g, i * 3 + 2, none⟩) hgr).trans m2
       clear h'
       have hc : q = 0 ∨ q = 1 ∨ q = 2 ∨ q = 3 ∨ q = 4 ∨ q = 5 ∨ q = 6 ∨ q = 7 ∨ q = 8 ∨ q = 9 ∨ q = 10 := by omega
       rcases hc with rfl | rfl | rfl | rfl | rfl | rfl | rfl | rfl | rfl | rfl | rfl
       ·cases ho
        have e0 : a'.tmps.getD 6 undef = .pointer (some ⟨(w2.heap.size + 1), 0, none⟩) := hslot 6 (by decide)
        clear cs0 cs1 k0 k1 k2
        unfold Oper.wp
        go_simp
        exact hK _ _ rfl hR (fun _ _ h => h)
       ·cases ho
        have e0 : a'.tmps.getD 80 undef = .pointer (some ⟨(w2.heap.size + 1), 0, none⟩) := hdep 0 (by kernel_rfl)
        clear k0 k1 k2
        unfold Oper.wp
        go_simp
        exact hK _ _ rfl hR (fun _ _ h => h)
       ·cases ho
        have e0 : a'.tmps.getD 10 undef = .int .i64 i := hslot 10 (by decide)
        clear cs0 cs1 k0 k1 k2
        unfold Oper.wp
        go_simp
        exact hK _ _ rfl hR (fun _ _ h => h)
       ·cases ho
        have e0 : a'.tmps.getD 6 undef = .pointer (some ⟨(w2.heap.size + 1), 0, none⟩) := hslot 6 (by decide)
        clear k0 k1 k2
        unfold Oper.wp
        go_simp
        exact hK _ _ rfl hR (fun _ _ h => h)
       ·cases ho
        have e0 : a'.tmps.getD 6 undef = .pointer (some ⟨(w2.heap.size + 1), 0, none⟩) := hslot 6 (by decide)
        clear cs0 cs1 k0 k1 k2
        unfold Oper.wp
        go_simp
        exact hK _ _ rfl hR (fun _ _ h => h)
       ·cases ho
        have e0 : a'.tmps.getD 84 undef = .pointer (some ⟨(w2.heap.size + 1), 0, none⟩) := hdep 4 (by kernel_rfl)
        clear k0 k1 k2
        unfold Oper.wp
        go_simp
        exact hK _ _ rfl hR (fun _ _ h => h)
       ·cases ho
        have e0 : a'.tmps.getD 10 undef = .int .i64 i := hslot 10 (by decide)
        clear cs0 cs1 k0 k1 k2
        unfold Oper.wp
        go_simp
        exact hK _ _ rfl hR (fun _ _ h => h)
       ·cases ho
        have e0 : a'.tmps.getD 85 undef = .slice (some ⟨g, 0, none⟩) ln lc := hdep 5 (by kernel_rfl)
        have e1 : a'.tmps.getD 86 undef = .int .i64 i := hdep 6 (by kernel_rfl)
        clear cs0 cs1 k0 k1 k2
        unfold Oper.wp
        go_simp
        exact hK _ _ rfl hR (fun _ _ h => h)
       ·cases ho
        have e0 : a'.tmps.getD 87 undef = .pointer (some ⟨g, i * 3, none⟩) := hdep 7 (by kernel_rfl)
        clear cs0 cs1
        unfold Oper.wp
        go_simp
        exact hK _ _ rfl hR (fun _ _ h => h)
       ·cases ho
        have e0 : a'.tmps.getD 83 undef = .agg #[.slice (some ⟨g, 0, none⟩) ln lc, .slice none 0 0] := hdep 3 (by kernel_rfl)
        have e1 : a'.tmps.getD 88 undef = .agg #[.string knm, .slice kao kal kac, .slice kbo kbl kbc] := hdep 8 (by kernel_rfl)
        clear cs0 cs1 k0 k1 k2
        unfold Oper.wp
        go_simp
        refine (CK w' hR).mono ?_
        rintro e w9 ⟨b9, y, rfl, hy⟩
        exact hK _ _ ⟨y, rfl, hy⟩ (hR.trans (b9.mono hR.size)) (s15Sp_up b9)
       ·cases ho
        have e0 : a'.tmps.getD 81 undef = .slice (some ⟨g, 0, none⟩) ln lc := hdep 1 (by kernel_rfl)
        have e1 : a'.tmps.getD 82 undef = .int .i64 i := hdep 2 (by kernel_rfl)
        clear cs0 cs1 k0 k1 k2
        unfold Oper.wp
        go_simp
        exact hK _ _ rfl hR (fun _ _ h => h)
      ·intro v w' hR hall
       have f0 := hall 0 (by decide)
       have f1 := hall 1 (by decide)
       have f2 := hall 2 (by decide)
       have f3 := hall 3 (by decide)
       have f4 := hall 4 (by decide)
       have f5 := hall 5 (by decide)
       have f6 := hall 6 (by decide)
       have f7 := hall 7 (by decide)
       have f8 := hall 8 (by decide)
       obtain ⟨y, f9, hy⟩ := hall 9 (by decide)
       have f10 := hall 10 (by decide)
       unfold s15Sp at f0 f1 f2 f3 f4 f5 f6 f7 f8 f10
       have h' := (unhide HG).up hR
       obtain ⟨g', eg, HT⟩ := G1.turned (y := y) (k := kindG (goodNs X.ks) k) (i := i) h' hR (by omega) (by omega) (by rw [mixK_len]; exact hiG) hy
       injection eg with eg
       injection eg with eg
       subst eg
       simp only [Nat.zero_add] at HT
       rw [unhide HMS] at HT
       have HTT := hide HT
       have k0 := (hR.cell (p := ⟨g, i * 3, none⟩) hgr).trans m0
       have k1 := (hR.cell (p := ⟨g, i * 3 + 1, none⟩) hgr).trans m1
       have k2 := (hR.cell (p := ⟨g, i * 3 + 2, none⟩) hgr).trans m2
       obtain ⟨cur, hcur⟩ : ∃ cur, w'.heap[g]? = some (.cells cur 80 (0, 0)) := by
        rcases h'.own.2 with ⟨h, _⟩ | ⟨g2, cap, cur, h, _, h3, _⟩
        ·cases h
        ·injection h with h1
         injection h1 with h1
         injection h1 with h1
         subst h1
         exact ⟨_, h3⟩
       have fz := fun o => Lib.frozen_of_heap hcur o
       clear HT h' hcur hy hall
       simp only [putAll, dstOf, List.getElem?_cons_zero, List.getElem?_cons_succ, Option.bind_some, List.drop_succ_cons, List.drop_zero, f0, f1, f2, f3, f4, f5, f6, f7, f8, f9, f10]
       clear f0 f1 f2 f3 f4 f5 f6 f7 f8 f9 f10
       simp only [Act.put, List.setIfInBounds_toArray, List.set_cons_succ, List.set_cons_zero]
       go_wp2
       go_roundw
       case rel => exact ⟨i + 1, _, by go_num, by omega, unhide HTT⟩
       case measure =>
        simp only [intOf]
        omega
    ·have i1 : ¬ (i : Int) < (ln : Int) := by omega
     clear hG
     go_wp2_with fail
     go_meet
     case rel => exact ⟨xs, by have := unhide HG; rw [mixK_end _ _ _ (by omega)] at this; exact this⟩
  case rest =>
   rename World => wB
   obtain ⟨xk2, hG⟩ := hcut
   have b4 := blw1 wB (.cells ac3Cs 9)
   have HN3 := alloc_heap wB (.cells ac3Cs 9)
   have zB : wB.heap.size < (wB.alloc (.cells ac3Cs 9)).heap.size := by simp
   have hG1 := hG.up b4
   have HG1 := hide hG1
   have hs1 := hG1.s
   have hb1 := hG1.below
   have hz1 := hG1.size
   have hzB := hG.size
   have HX1 := (hG1.old w2.heap.size (by omega) (by omega)).trans HX
   have HRr := (hG1.old w.heap.size (by omega) (by omega)).trans ((b23.block w.heap.size zw2).trans HR2)
   have HKW1 := hide ((unhide HKW).trans (keep_old hG1 HS))
   have Hold := hide (show ∀ g, g < w2.heap.size → (wB.alloc (.cells ac3Cs 9)).heap[g]? = w2.heap[g]? from fun g hg => (hG1.old g (by omega) (by omega)).trans (b23.block g hg))
   have hac3 := fun (n : Nat) (h : n < acts3.length) => ac3_cells n h
   have HAC3 := hide hac3
   have Hnm2 := hide (show (G.map (kindG (goodNs X.ks))).map KP.nm = goodNs X.ks by rw [List.map_map]; exact unhide Hns)
   have hG20 : G.length ≤ 20 := by omega
   clear hG hG1 hac3 HG0 hmem hln
   unfold ac3Cs at *
   go_upto_block 6 with fail
   generalize wB.alloc _ = W1 at *
   go_cut [] from 7 (fun wc => ∃ lv xs, G4 w W1 wc (w2.heap.size + 1) (.slice lo ln lc) lv xs (goodA (goodNs X.ks) X.ac acts3))
   case first =>
    go_wp2_with fail
    go_loopw [12] (fun nv wr => ∃ (n : Nat) (lv : Value) (xs : List N3), nv = .int .i64 n ∧ n ≤ 3 ∧ G4 w W1 wr (w2.heap.size + 1) (.slice lo ln lc) lv xs (goodA (goodNs X.ks) X.ac (acts3.take n))) (fun nv _ => 3 - (intOf nv).toNat)
    case atStart => exact ⟨0, .slice none 0 0, [], by go_num, by omega, hb1, Nat.le_refl _, fun _ _ _ => rfl, hs1, World.ownsRow_nil _ _ _ _, rfl, fun j hj => absurd hj (Nat.not_lt_zero _)⟩
    case round =>
     obtain ⟨n, lv, xs, rfl, hn3, hG⟩ := hrel
     by_cases hlt : n < 3
     ·have n0 : (0 : Int) ≤ (n : Int) := by omega
      have n1' : (n : Int) < 3 := by omega
      have hnn0 : W1.cell? ⟨wB.heap.size, n, none⟩ = some (.string (acts3[n]'(by show n < 3; omega))) := by rw [Lib.cell_of_heap HN3]; exact unhide HAC3 n (by show n < 3; omega)
      have HNN := hide (goodA_next (goodNs X.ks) X.ac acts3 n (by show n < 3; omega))
      have hacc0 := goodA_len (goodNs X.ks) X.ac hA5 acts3 n (by show n ≤ 3; omega)
      generalize acts3[n]'(by show n < 3; omega) = nn at *
      generalize goodA (goodNs X.ks) X.ac (acts3.take n) = acc0 at *
      have HGx := hide hG
      clear hG
      go_wp2_with fail
      go_loopw [13] (fun iv wr => ∃ (i : Nat) (lv : Value) (xs : List N3), iv = .int .i64 i ∧ i ≤ X.ac.length ∧ G4 w W1 wr (w2.heap.size + 1) (.slice lo ln lc) lv xs (pickAs (goodNs X.ks) nn (X.ac.take i) acc0)) (fun iv _ => X.ac.length - (intOf iv).toNat)
      case atStart => exact ⟨0, lv, xs, by go_num, Nat.zero_le _, unhide HGx⟩
      case round =>
       clear HGx
       obtain ⟨i, lv, xs, rfl, hil, hG⟩ := hrel
       have xc1 : wr.cell? ⟨w2.heap.size, 1, none⟩ = some (.slice xao X.ac.length xac) := by rw [Lib.cell_of_heap ((hG.old w2.heap.size (by omega) (by omega)).trans HX1)]; rfl
       by_cases hlt : i < X.ac.length
       ·have i0 : (0 : Int) ≤ (i : Int) := by omega
        have i1 : (i : Int) < (X.ac.length : Int) := by omega
        have hxi : i < xa.length := by omega
        obtain ⟨g, off, rfl, hgw, hcell⟩ := rowG_at (unhide HR2') (Below.refl _ w2) hxi
        have hzr := hG.size
        have hg0 : wr.heap[g]? = w2.heap[g]? := (hG.old g (by omega) (by omega)).trans (unhide Hold g hgw)
        have AT := (unhide HA2) i hxi hlt
        have AT' := AT.turn (w' := wr) ((unhide HKW1).trans (hG.keep hs1))
        obtain ⟨a, hae⟩ : ∃ a, a = X.ac[i] := ⟨_, rfl⟩
        have hat := hT.a a (by rw [hae]; exact List.getElem_mem _)
        rw [← hae] at AT AT'
        have HPN := hide (show pickAs (goodNs X.ks) nn (X.ac.take (i + 1)) acc0 = pickA (goodNs X.ks) nn (pickAs (goodNs X.ks) nn (X.ac.take i) acc0) a by rw [hae]; exact pickAs_next (goodNs X.ks) nn X.ac acc0 i hlt)
        clear hae AT
        generalize xa[i] = y at *
        obtain ⟨anm, pao, pal, pac, rao, ral, rac⟩ := y
        have m0 := (World.cell?_of_block (a := ⟨g, off + i * 3, none⟩) hg0).trans (hcell 0 _ rfl)
        have m1 := (World.cell?_of_block (a := ⟨g, off + i * 3 + 1, none⟩) hg0).trans (hcell 1 _ rfl)
        have m2 := (World.cell?_of_block (a := ⟨g, off + i * 3 + 2, none⟩) hg0).trans (hcell 2 _ rfl)
        have hanm := AT'.is.nm
        have hal1 := AT'.is.al
        have hbl1 := AT'.is.bl
        simp only at m0 m1 m2 hanm hal1 hbl1
        subst hal1 hbl1
        have Hanm := hide hanm
        clear hanm hcell
        have bA := blw1 wr (.cells #[.string anm, .slice pao a.pr.length pac, .slice rao a.re.length rac] 83)
        have HAc := alloc_heap wr (.cells #[.string anm, .slice pao a.pr.length pac, .slice rao a.re.length rac] 83)
        have HAT0 := hide (AT'.turn (.of_below bA))
        have HG := hide (hG.up bA)
        have hownr := hG.own.lt
        obtain ⟨acc, hacc⟩ : ∃ acc, acc = pickAs (goodNs X.ks) nn (X.ac.take i) acc0 := ⟨_, rfl⟩
        have hal : acc.length ≤ 100 := by
         have h1 := pickAs_len (goodNs X.ks) nn (X.ac.take i) acc0
         rw [← hacc] at h1
         have h2 : (X.ac.take i).length ≤ 5 := by rw [List.length_take]; omega
         omega
        rw [← hacc] at HPN hG HG
        clear hacc AT'
        obtain ⟨qo, qc, elv, hrow, _⟩ := own_row (l := xs) (f := N3.cells) (n := 3) lenN (by rw [hG.len]; exact hG.own)
        rw [hG.len] at elv
        subst elv
        have hlx := hG.len
        have sc1 : (wr.alloc (.cells #[.string anm, .slice pao a.pr.length pac, .slice rao a.re.length rac] 83)).cell? ⟨w2.heap.size + 1, 1, none⟩ = some (.slice qo acc.length qc) := by rw [Lib.cell_of_heap (unhide HG).s]; rfl
        have nnc := (World.cell?_of_block (a := ⟨wB.heap.size, n, none⟩) (((unhide HG).old wB.heap.size (by omega) (by omega)))).trans hnn0
        obtain ⟨XX, hXX⟩ : ∃ XX, XX = (xs.map N3.cells).flatten := ⟨_, rfl⟩
        have HXX := hide hXX.symm
        have a0c : (wr.alloc (.cells #[.string anm, .slice pao a.pr.length pac, .slice rao a.re.length rac] 83)).cell? ⟨wr.heap.size, 0, none⟩ = some (.string anm) := lc_ HAc rfl
        have hSr : w2.heap.size + 1 < wr.heap.size := by omega
        clear hXX
        by_cases han : anm = nn
        ·have hb : (anm.toList == nn.toList) = true := by rw [han]; exact beq_self_eq_true _
         rcases List.eq_nil_or_concat acc with rfl | ⟨LL, p, rfl⟩
         ·have HNX := hide (show passA nn [] a = false by unfold passA; rw [← unhide Hanm, han]; simp [lastB])
          clear hrow han hG hlx
          simp only [List.length_nil] at *
          go_upto_region 24 with fail
          generalize wr.alloc _ = wA at *
          have g1 := cell_regrown a0c
          have g2 := cell_regrown sc1
          have g3 := cell_regrown nnc
          clear a0c sc1 nnc
          refine wp_region_quiet_below (by kernel_rfl) (by kernel_rfl) ?_
          repeat (first | go_big_quiet_step (fail) | quiet_step (fail))
          refine wpQuiet_nil ?_
          intro _ hw'
          obtain ⟨⟨dq2, osq2⟩, hw''⟩ := hw'
          subst hw''
          have b11 := below_regrown wA dq2 osq2
          generalize grow (redrawn wA dq2) osq2 = w6 at *
          have HG6 := hide ((unhide HG).up b11)
          clear g1 g2 g3
          go_upto_region 25 with fail
          as_aux_lemma =>
           have hS6 := (unhide HG6).s
           have hA6c := kept_of_below b11 HAc
           have hA6 : wr.heap.size < w6.heap.size := (Array.getElem?_eq_some_iff.1 hA6c).1
           have hz6 := (unhide HG6).size
           have hAo : ((.slice qo 0 qc) : Value).ownBlock ≠ some wr.heap.size := fun e => by
            have := (hownr wr.heap.size e).2
            omega
           have hATw := (unhide HAT0).turn (.of_below b11)
           have CT3 := fun w' (h4 : G4 w W1 w' (w2.heap.size + 1) (.slice lo ln lc) (.slice qo 0 qc) xs []) (hk : KeepSF w6 w') => those_any ⟨G.map (kindG (goodNs X.ks)), []⟩ (.agg #[.slice lo ln lc, .slice qo 0 qc]) a.pr pao pac w' (by show (G.map _).length ≤ _; rw [List.length_map]; omega) (by omega) (G4.isS h4 (unhide HG1) (by omega)).is (row_turn hATw.is.a hATw.ta (.inl rfl) hk)
           have CT7 := fun w' (h4 : G4 w W1 w' (w2.heap.size + 1) (.slice lo ln lc) (.slice qo 0 qc) xs []) (hk : KeepSF w6 w') => those_any ⟨G.map (kindG (goodNs X.ks)), []⟩ (.agg #[.slice lo ln lc, .slice qo 0 qc]) a.re rao rac w' (by show (G.map _).length ≤ _; rw [List.length_map]; omega) (by omega) (G4.isS h4 (unhide HG1) (by omega)).is (row_turn hATw.is.b hATw.tb (.inl rfl) hk)
           rw [show (⟨G.map (kindG (goodNs X.ks)), []⟩ : SP).names = goodNs X.ks from unhide Hnm2] at CT3 CT7
           clear hATw
           refine wp_specsD (s25Sp wr.heap.size (.agg #[.slice lo ln lc, .slice qo 0 qc]) (.slice pao a.pr.length pac) (.slice rao a.re.length rac) (thoseL (goodNs X.ks) a.pr) (thoseL (goodNs X.ks) a.re)) (AS w w6 wr.heap.size anm (.slice pao a.pr.length pac) (.slice rao a.re.length rac)) (by kernel_rfl) (by kernel_rfl) (by kernel_rfl) (AS.start _ (unhide HG6).below hA6c) ?_ ?_ ?_
           ·intro q o d ho hd L a' w' hL hw hRR hdep hslot hsz K hK
            have hqN : q < 12 := dstOf_lt hd
            have hS' := (hRR.keep (w2.heap.size + 1) (by omega) (by omega)).trans hS6
            obtain ⟨cs0, cs1⟩ := bl2_ hS'
            clear hS'
            have hs6 : a'.tmps.getD 6 undef = .pointer (some ⟨(w2.heap.size + 1), 0, none⟩) := hslot 6 (fun q h => by have hl := dstOf_lt h; match q, hl with | 0, _ => cases h | 1, _ => cases h | 2, _ => cases h | 3, _ => cases h | 4, _ => cases h | 5, _ => cases h | 6, _ => cases h | 7, _ => cases h | 8, _ => cases h | 9, _ => cases h | 10, _ => cases h | 11, _ => cases h)
            have hs14 : a'.tmps.getD 14 undef = .pointer (some ⟨wr.heap.size, 0, none⟩) := hslot 14 (fun q h => by have hl := dstOf_lt h; match q, hl with | 0, _ => cases h | 1, _ => cases h | 2, _ => cases h | 3, _ => cases h | 4, _ => cases h | 5, _ => cases h | 6, _ => cases h | 7, _ => cases h | 8, _ => cases h | 9, _ => cases h | 10, _ => cases h | 11, _ => cases h)
            have hc : q = 0 ∨ q = 1 ∨ q = 2 ∨ q = 3 ∨ q = 4 ∨ q = 5 ∨ q = 6 ∨ q = 7 ∨ q = 8 ∨ q = 9 ∨ q = 10 ∨ q = 11 := by omega
            rcases hc with rfl | rfl | rfl | rfl | rfl | rfl | rfl | rfl | rfl | rfl | rfl | rfl
            ·cases ho
             cases hd
             have e0 := hs6
             unfold Oper.wp
             go_simp
             exact hK _ _ rfl (hRR.step hA6 (Below.refl _ w') 0 137 _ hL (by decide) (by decide) (fun _ => by decide) (fun _ => by decide) (fun e => absurd e (by decide)) (fun e => absurd e (by decide))) (fun _ _ h => h)
            ·cases ho
             cases hd
             have e0 := hs14
             clear cs0 cs1
             unfold Oper.wp
             go_simp
             exact hK _ _ rfl (hRR.step hA6 (Below.refl _ w') 1 138 _ hL (by decide) (by decide) (fun _ => by decide) (fun _ => by decide) (fun e => absurd e (by decide)) (fun e => absurd e (by decide))) (fun _ _ h => h)
            ·cases ho
             cases hd
             have e0 : a'.tmps.getD 138 undef = .pointer (some ⟨wr.heap.size, 1, none⟩) := hdep 1 138 rfl (by kernel_rfl)
             have e0' := gd_ e0
             have hL9 : L 9 = false := by
              cases e : L 9 with
              | false => rfl
              | true =>
               have := hRR.c3 (hRR.c9 e)
               rw [hL] at this
               cases this
             obtain ⟨pv, rv, x1, x2, x3, x4, x5⟩ := hRR.at_
             have cA : w'.cell? ⟨wr.heap.size, 1, none⟩ = some (.slice pao a.pr.length pac) := by rw [Lib.cell_of_heap x1, ← x2 hL9]; rfl
             clear x1 x2 x3 x4 x5
             clear cs0 cs1
             unfold Oper.wp
             go_simp
             exact hK _ _ rfl (hRR.step hA6 (Below.refl _ w') 2 139 _ hL (by decide) (by decide) (fun _ => by decide) (fun _ => by decide) (fun e => absurd e (by decide)) (fun e => absurd e (by decide))) (fun _ _ h => h)
            ·cases ho
             cases hd
             have e0 : a'.tmps.getD 137 undef = .agg #[.slice lo ln lc, .slice qo 0 qc] := hdep 0 137 rfl (by kernel_rfl)
             have e0' := gd_ e0
             have e1 : a'.tmps.getD 139 undef = .slice pao a.pr.length pac := hdep 2 139 rfl (by kernel_rfl)
             have e1' := gd_ e1
             have h4 := G4.other (unhide HG6) (A := wr.heap.size) (by omega) (by omega) (by omega) ⟨_, hA6c⟩ hAo hRR.below hRR.size hRR.keep
             have kA := as_keep hRR hA6c
             clear cs0 cs1
             unfold Oper.wp
             go_simp
             refine (CT3 w' h4 kA).mono ?_
             rintro e w9 ⟨b9, o, c, rfl, h1, h2⟩
             exact hK _ _ ⟨o, c, rfl, h1, h2⟩ (hRR.step hA6 b9 3 140 _ hL (by decide) (by decide) (fun h => absurd rfl h) (fun _ => by decide) (fun _ => hw 2 (by kernel_rfl)) (fun e => absurd e (by decide))) (s25Sp_up (.of_below b9))
            ·cases ho
             cases hd
             have e0 := hs6
             unfold Oper.wp
             go_simp
             exact hK _ _ rfl (hRR.step hA6 (Below.refl _ w') 4 141 _ hL (by decide) (by decide) (fun _ => by decide) (fun _ => by decide) (fun e => absurd e (by decide)) (fun e => absurd e (by decide))) (fun _ _ h => h)
            ·cases ho
             cases hd
             have e0 := hs14
             clear cs0 cs1
             unfold Oper.wp
             go_simp
             exact hK _ _ rfl (hRR.step hA6 (Below.refl _ w') 5 142 _ hL (by decide) (by decide) (fun _ => by decide) (fun _ => by decide) (fun e => absurd e (by decide)) (fun e => absurd e (by decide))) (fun _ _ h => h)
            ·cases ho
             cases hd
             have e0 : a'.tmps.getD 142 undef = .pointer (some ⟨wr.heap.size, 2, none⟩) := hdep 5 142 rfl (by kernel_rfl)
             have e0' := gd_ e0
             have hL11 : L 11 = false := by
              cases e : L 11 with
              | false => rfl
              | true =>
               have := hRR.c7 (hRR.c11 e)
               rw [hL] at this
               cases this
             obtain ⟨pv, rv, x1, x2, x3, x4, x5⟩ := hRR.at_
             have cA : w'.cell? ⟨wr.heap.size, 2, none⟩ = some (.slice rao a.re.length rac) := by rw [Lib.cell_of_heap x1, ← x4 hL11]; rfl
             clear x1 x2 x3 x4 x5
             clear cs0 cs1
             unfold Oper.wp
             go_simp
             exact hK _ _ rfl (hRR.step hA6 (Below.refl _ w') 6 143 _ hL (by decide) (by decide) (fun _ => by decide) (fun _ => by decide) (fun e => absurd e (by decide)) (fun e => absurd e (by decide))) (fun _ _ h => h)
            ·cases ho
             cases hd
             have e0 : a'.tmps.getD 141 undef = .agg #[.slice lo ln lc, .slice qo 0 qc] := hdep 4 141 rfl (by kernel_rfl)
             have e0' := gd_ e0
             have e1 : a'.tmps.getD 143 undef = .slice rao a.re.length rac := hdep 6 143 rfl (by kernel_rfl)
             have e1' := gd_ e1
             have h4 := G4.other (unhide HG6) (A := wr.heap.size) (by omega) (by omega) (by omega) ⟨_, hA6c⟩ hAo hRR.below hRR.size hRR.keep
             have kA := as_keep hRR hA6c
             clear cs0 cs1
             unfold Oper.wp
             go_simp
             refine (CT7 w' h4 kA).mono ?_
             rintro e w9 ⟨b9, o, c, rfl, h1, h2⟩
             exact hK _ _ ⟨o, c, rfl, h1, h2⟩ (hRR.step hA6 b9 7 144 _ hL (by decide) (by decide) (fun _ => by decide) (fun h => absurd rfl h) (fun e => absurd e (by decide)) (fun _ => hw 6 (by kernel_rfl))) (s25Sp_up (.of_below b9))
            ·cases ho
             cases hd
             have e0 := hs14
             clear cs0 cs1
             unfold Oper.wp
             go_simp
             exact hK _ _ rfl (hRR.step hA6 (Below.refl _ w') 8 145 _ hL (by decide) (by decide) (fun _ => by decide) (fun _ => by decide) (fun e => absurd e (by decide)) (fun e => absurd e (by decide))) (fun _ _ h => h)
            ·cases hd
            ·cases ho
             cases hd
             have e0 := hs14
             clear cs0 cs1
             unfold Oper.wp
             go_simp
             exact hK _ _ rfl (hRR.step hA6 (Below.refl _ w') 10 146 _ hL (by decide) (by decide) (fun _ => by decide) (fun _ => by decide) (fun e => absurd e (by decide)) (fun e => absurd e (by decide))) (fun _ _ h => h)
            ·cases hd
           ·intro q o ho hd L a' w' hL hw hRR hdep K hK
            have hqN : q < 12 := (List.getElem?_eq_some_iff.1 ho).1
            have hS' := (hRR.keep (w2.heap.size + 1) (by omega) (by omega)).trans hS6
            obtain ⟨cs0, cs1⟩ := bl2_ hS'
            clear hS'
            have hc : q = 0 ∨ q = 1 ∨ q = 2 ∨ q = 3 ∨ q = 4 ∨ q = 5 ∨ q = 6 ∨ q = 7 ∨ q = 8 ∨ q = 9 ∨ q = 10 ∨ q = 11 := by omega
            rcases hc with rfl | rfl | rfl | rfl | rfl | rfl | rfl | rfl | rfl | rfl | rfl | rfl
            ·cases hd
            ·cases hd
            ·cases hd
            ·cases hd
            ·cases hd
            ·cases hd
            ·cases hd
            ·cases hd
            ·cases hd
            ·cases ho
             obtain ⟨o, c, e1, _, _⟩ : RowT w' (a'.tmps.getD 140 undef) _ := hdep 3 140 rfl (by kernel_rfl)
             have e0 : a'.tmps.getD 145 undef = .pointer (some ⟨wr.heap.size, 1, none⟩) := hdep 8 145 rfl (by kernel_rfl)
             have hP := hRR.put9 (by omega) hL (hw 3 (by kernel_rfl))
             rw [e1] at hP
             obtain ⟨pv, rv, x1, _, _, _, _⟩ := hRR.at_
             have ku : KeepSF w' (w'.setCell ⟨wr.heap.size, 1, none⟩ (.slice o (thoseL (goodNs X.ks) a.pr).length c)) := keepSF_set x1
             have cA : w'.cell? ⟨wr.heap.size, 1, none⟩ = some pv := lc_ x1 rfl
             have fA : w'.frozen? ⟨wr.heap.size, 1, none⟩ = false := Lib.frozen_of_heap x1 1
             have HP := hide hP
             clear hP x1 cs0 cs1
             unfold Oper.wp
             go_simp
             exact hK _ (unhide HP) (s25Sp_up ku) undef
            ·cases hd
            ·cases ho
             obtain ⟨o, c, e1, _, _⟩ : RowT w' (a'.tmps.getD 144 undef) _ := hdep 7 144 rfl (by kernel_rfl)
             have e0 : a'.tmps.getD 146 undef = .pointer (some ⟨wr.heap.size, 2, none⟩) := hdep 10 146 rfl (by kernel_rfl)
             have hP := hRR.put11 (by omega) hL (hw 7 (by kernel_rfl))
             rw [e1] at hP
             obtain ⟨pv, rv, x1, _, _, _, _⟩ := hRR.at_
             have ku : KeepSF w' (w'.setCell ⟨wr.heap.size, 2, none⟩ (.slice o (thoseL (goodNs X.ks) a.re).length c)) := keepSF_set x1
             have cA : w'.cell? ⟨wr.heap.size, 2, none⟩ = some rv := lc_ x1 rfl
             have fA : w'.frozen? ⟨wr.heap.size, 2, none⟩ = false := Lib.frozen_of_heap x1 2
             have HP := hide hP
             clear hP x1 cs0 cs1
             unfold Oper.wp
             go_simp
             exact hK _ (unhide HP) (s25Sp_up ku) undef
           ·intro v L w' hLa hRR hv
            have f0 : v 0 = _ := (hv 0 137 rfl).1
            have f1 : v 1 = _ := (hv 1 138 rfl).1
            have f2 : v 2 = _ := (hv 2 139 rfl).1
            obtain ⟨o3, c3, f3, r31, r32⟩ : RowT w' (v 3) _ := (hv 3 140 rfl).1
            have f4 : v 4 = _ := (hv 4 141 rfl).1
            have f5 : v 5 = _ := (hv 5 142 rfl).1
            have f6 : v 6 = _ := (hv 6 143 rfl).1
            obtain ⟨o7, c7, f7, r71, r72⟩ : RowT w' (v 7) _ := (hv 7 144 rfl).1
            have f8 : v 8 = _ := (hv 8 145 rfl).1
            have f10 : v 10 = _ := (hv 10 146 rfl).1
            obtain ⟨pv, rv, x1, _, x3, _, x5⟩ := hRR.at_
            have ep := (x3 (hLa 9 (by decide))).trans ((hv 3 140 rfl).2.trans f3)
            have er := (x5 (hLa 11 (by decide))).trans ((hv 7 144 rfl).2.trans f7)
            subst ep er
            have h4 := G4.other (unhide HG6) (A := wr.heap.size) (by omega) (by omega) (by omega) ⟨_, hA6c⟩ hAo hRR.below hRR.size hRR.keep
            have hRz := hRR.size
            clear hRR hv hLa x3 x5
            simp only [putAll, dstOf, List.getElem?_cons_zero, List.getElem?_cons_succ, Option.bind_some, List.length_cons, List.length_nil, f0, f1, f2, f3, f4, f5, f6, f7, f8, f10]
            clear f0 f1 f2 f3 f4 f5 f6 f7 f8 f10
            simp only [Act.put, List.setIfInBounds_toArray, List.set_cons_succ, List.set_cons_zero]
            obtain ⟨wq, hwq⟩ : ∃ y, y = w' := ⟨_, rfl⟩
            subst hwq
            have HAT := hide (show IsAT wq ⟨anm, o3, (thoseL (goodNs X.ks) a.pr).length, c3, o7, (thoseL (goodNs X.ks) a.re).length, c7⟩ (actG (goodNs X.ks) a) from ⟨⟨unhide Hanm, rfl, r31, rfl, r71⟩, r32, r72⟩)
            have H4 := hide h4
            have hsq := h4.s
            obtain ⟨ha0, ha1, ha2⟩ := bl3_ x1
            have HFL := hide (show fullA (actG (goodNs X.ks) a) = (decide (0 < (thoseL (goodNs X.ks) a.pr).length) && decide (0 < (thoseL (goodNs X.ks) a.re).length)) from full_len _)
            generalize (thoseL (goodNs X.ks) a.pr).length = tp at *
            generalize (thoseL (goodNs X.ks) a.re).length = tr at *
            clear r31 r32 r71 r72 h4 x1
            by_cases hp : 0 < tp
            ·have hp' : (0 : Int) < (tp : Int) := by omega
             have hpd : decide ((0 : Int) < (tp : Int)) = true := decide_eq_true hp'
             by_cases hq : 0 < tr
             ·have hq' : (0 : Int) < (tr : Int) := by omega
              have hqd : decide ((0 : Int) < (tr : Int)) = true := decide_eq_true hq'
              have HNX2 := hide (show pickA (goodNs X.ks) nn [] a = [] ++ [actG (goodNs X.ks) a] by unfold pickA; rw [unhide HNX, unhide HFL, decide_eq_true hp, decide_eq_true hq]; rfl)
              have sc1 : wq.cell? ⟨(w2.heap.size + 1), 1, none⟩ = some (.slice qo 0 qc) := lc_ hsq rfl
              have bl := blw1 wq (.cells #[.string anm, .slice o3 tp c3, .slice o7 tr c7] 83)
              have hown := own_belowS (unhide H4).own bl
              rw [unhide HXX] at hown
              have Hown := hide hown
              have hnb := hown.lt
              have HNw := hide (alloc_heap wq (.cells #[.string anm, .slice o3 tp c3, .slice o7 tr c7] 83))
              have zl : (wq.alloc (.cells #[.string anm, .slice o3 tp c3, .slice o7 tr c7] 83)).heap.size = wq.heap.size + 1 := by simp
              have hsl := kept_of_below bl hsq
              have bq := (unhide H4).below
              have bw1 := bq.trans (bl.mono bq.size)
              have hzq := (unhide H4).size
              have Hbl := hide bl
              clear hown hsq bl
              go_wp2_with (at_builtin; refine wpList_append_own _ rfl _ _ 31 rfl W1.heap.size 83 iA _ 3 64 Try.underlying31 hiA hzA0 hzA1 hzA2 rfl (by decide) _ _ _ rfl (unhide Hown) ⟨wq.heap.size, 0, none⟩ 1 1 [.string anm, .slice o3 tp c3, .slice o7 tr c7] rfl rfl ?ta1 ?ta2 ?ta3 ?ta4 ?ta5 ?_)
              case ta1 =>
               intro j u hj
               rw [Addr.add_lit, Nat.zero_add, Lib.cell_of_heap (unhide HNw)]
               simpa using hj
              case ta2 => intro u hu; simp at hu; rcases hu with rfl | rfl | rfl <;> rfl
              case ta3 =>
               unfold maxLen
               try simp only [List.length_nil]
               omega
              case ta4 =>
               try simp only [List.length_nil]
               omega
              case ta5 => omega
              intro v6 w6' hown6 hgrow _
              obtain ⟨ao6, n6, c6, rfl⟩ : ∃ a n c, v6 = .slice a n c := by
               rcases hown6.2 with ⟨h, _⟩ | ⟨g, cap, cur, h, _⟩
               ·exact ⟨_, _, _, h⟩
               ·exact ⟨_, _, _, h⟩
              have b6 : Below w.heap.size w w6' := bw1.grown hgrow bw1.size (fun j hj => by have := (hnb j hj).1; omega)
              have hS6' : w6'.heap[(w2.heap.size + 1)]? = _ := (hgrow.block (w2.heap.size + 1) (by omega) (fun h => by have := (hnb _ h.symm).1; omega)).trans hsl
              have s6 : w6'.cell? ⟨(w2.heap.size + 1), 1, none⟩ = some (.slice qo 0 qc) := lc_ hS6' rfl
              have f6 : w6'.frozen? ⟨(w2.heap.size + 1), 1, none⟩ = false := Lib.frozen_of_heap hS6' 1
              have HST7 := hide (G4.next (x := ⟨anm, o3, tp, c3, o7, tr, c7⟩) (unhide H4) (by omega) (by omega) (unhide HAT) (unhide Hbl) b6 (by rw [unhide HXX]; exact hown6) hgrow)
              clear hown6 hgrow hS6' hnb
              go_wp2
              go_roundw
              case rel => exact ⟨i + 1, _, _, by go_num, by omega, by rw [unhide HPN, unhide HNX2]; exact unhide HST7⟩
              case measure =>
               simp only [intOf]
               omega
             ·have hq' : ¬ (0 : Int) < (tr : Int) := by omega
              have hqd : decide ((0 : Int) < (tr : Int)) = false := decide_eq_false hq'
              have HNX2 := hide (show pickA (goodNs X.ks) nn [] a = [] by unfold pickA; rw [unhide HNX, unhide HFL, decide_eq_false hq, Bool.and_false]; rfl)
              go_wp2
              go_roundw
              case rel => exact ⟨i + 1, _, xs, by go_num, by omega, by rw [unhide HPN, unhide HNX2]; exact unhide H4⟩
              case measure =>
               simp only [intOf]
               omega
            ·have hp' : ¬ (0 : Int) < (tp : Int) := by omega
             have hpd : decide ((0 : Int) < (tp : Int)) = false := decide_eq_false hp'
             have HNX2 := hide (show pickA (goodNs X.ks) nn [] a = [] by unfold pickA; rw [unhide HNX, unhide HFL, decide_eq_false hp, Bool.false_and]; rfl)
             go_wp2
             go_roundw
             case rel => exact ⟨i + 1, _, xs, by go_num, by omega, by rw [unhide HPN, unhide HNX2]; exact unhide H4⟩
             case measure =>
              simp only [intOf]
              omega
         ·rw [List.concat_eq_append] at *
          have eL : (LL ++ [p]).length = LL.length + 1 := by simp
          obtain ⟨h2, off2, rfl, hh2, hc2⟩ := rowG_at hrow bA (show LL.length < xs.length by omega)
          have hpp : LL.length < (LL ++ [p]).length := by omega
          have pnm := (hG.all LL.length (by omega) hpp).is.nm
          have pn := hc2 0 _ rfl
          rw [Nat.add_zero] at pn
          rw [show (LL ++ [p])[LL.length] = p by simp] at pnm
          generalize xs[LL.length].nm = pm at *
          have Hpnm := hide pnm
          clear pnm
          have hTm : LL.length + 1 ≤ 100 := by omega
          have HeL := hide eL
          rw [eL] at sc1
          have HG := hide (show G4 w W1 _ (w2.heap.size + 1) (.slice lo ln lc) (.slice (some ⟨h2, off2, none⟩) (LL.length + 1) qc) xs (LL ++ [p]) from by have := unhide HG; rw [eL] at this; exact this)
          have hownr : ∀ k, (Value.slice (some ⟨h2, off2, none⟩) (LL.length + 1) qc).ownBlock = some k → W1.heap.size ≤ k ∧ k < wr.heap.size := hownr
          clear eL hpp hc2 hrow hG hlx
          have hLast : passA nn (LL ++ [p]) a = (pm.toList == nn.toList) := by
           unfold passA
           rw [← unhide Hanm, han, List.getLast?_append]
           simp only [decide_true, Bool.not_true, Bool.false_or, List.getLast?_singleton, Option.some_or, Option.map_some, lastB, ← unhide Hpnm]
           rw [beq_bytes]
          generalize LL.length = m at *
          have e1 : (0 : Int) < (m : Int) + 1 := by omega
          have e1' : decide ((0 : Int) < (m : Int) + 1) = true := decide_eq_true e1
          have e1'' : 0 < m + 1 := by omega
          have e2 : IntKind.i64.wrap (m : Int) = (m : Int) := by rw [IntKind.wrap_i64]; omega
          have e2' : IntKind.i64.wrap ((m : Int) + 1 - 1) = (m : Int) := by rw [IntKind.wrap_i64]; omega
          have e3 : (0 : Int) ≤ (m : Int) := by omega
          have e4 : (m : Int) < (m : Int) + 1 := by omega
          cases hpb : (pm.toList == nn.toList)
          ·have HNX := hide (show passA nn (LL ++ [p]) a = false by rw [hLast, hpb])
           clear han
           go_upto_region 24 with fail
           generalize wr.alloc _ = wA at *
           have g1 := cell_regrown a0c
           have g2 := cell_regrown sc1
           have g3 := cell_regrown nnc
           have g4 := cell_regrown pn
           clear a0c sc1 nnc pn
           refine wp_region_quiet_below (by kernel_rfl) (by kernel_rfl) ?_
           repeat (first | go_big_quiet_step (fail) | quiet_step (fail))
           refine wpQuiet_nil ?_
           intro _ hw'
           obtain ⟨⟨dq2, osq2⟩, hw''⟩ := hw'
           subst hw''
           have b11 := below_regrown wA dq2 osq2
           generalize grow (redrawn wA dq2) osq2 = w6 at *
           have HG6 := hide ((unhide HG).up b11)
           clear g1 g2 g3 g4 hLast hpb e1 e1' e1'' e2 e2' e3 e4
           go_upto_region 25 with fail
           as_aux_lemma =>
            have hS6 := (unhide HG6).s
            have hA6c := kept_of_below b11 HAc
            have hA6 : wr.heap.size < w6.heap.size := (Array.getElem?_eq_some_iff.1 hA6c).1
            have hz6 := (unhide HG6).size
            have hAo : ((.slice (some ⟨h2, off2, none⟩) (m + 1) qc) : Value).ownBlock ≠ some wr.heap.size := fun e => by
             have := (hownr wr.heap.size e).2
             omega
            have hATw := (unhide HAT0).turn (.of_below b11)
            have CT3 := fun w' (h4 : G4 w W1 w' (w2.heap.size + 1) (.slice lo ln lc) (.slice (some ⟨h2, off2, none⟩) (m + 1) qc) xs (LL ++ [p])) (hk : KeepSF w6 w') => those_any ⟨G.map (kindG (goodNs X.ks)), (LL ++ [p])⟩ (.agg #[.slice lo ln lc, .slice (some ⟨h2, off2, none⟩) (m + 1) qc]) a.pr pao pac w' (by show (G.map _).length ≤ _; rw [List.length_map]; omega) (by omega) (G4.isS h4 (unhide HG1) (by omega)).is (row_turn hATw.is.a hATw.ta (.inl rfl) hk)
            have CT7 := fun w' (h4 : G4 w W1 w' (w2.heap.size + 1) (.slice lo ln lc) (.slice (some ⟨h2, off2, none⟩) (m + 1) qc) xs (LL ++ [p])) (hk : KeepSF w6 w') => those_any ⟨G.map (kindG (goodNs X.ks)), (LL ++ [p])⟩ (.agg #[.slice lo ln lc, .slice (some ⟨h2, off2, none⟩) (m + 1) qc]) a.re rao rac w' (by show (G.map _).length ≤ _; rw [List.length_map]; omega) (by omega) (G4.isS h4 (unhide HG1) (by omega)).is (row_turn hATw.is.b hATw.tb (.inl rfl) hk)
            rw [show (⟨G.map (kindG (goodNs X.ks)), (LL ++ [p])⟩ : SP).names = goodNs X.ks from unhide Hnm2] at CT3 CT7
            clear hATw
            refine wp_specsD (s25Sp wr.heap.size (.agg #[.slice lo ln lc, .slice (some ⟨h2, off2, none⟩) (m + 1) qc]) (.slice pao a.pr.length pac) (.slice rao a.re.length rac) (thoseL (goodNs X.ks) a.pr) (thoseL (goodNs X.ks) a.re)) (AS w w6 wr.heap.size anm (.slice pao a.pr.length pac) (.slice rao a.re.length rac)) (by kernel_rfl) (by kernel_rfl) (by kernel_rfl) (AS.start _ (unhide HG6).below hA6c) ?_ ?_ ?_
            ·intro q o d ho hd L a' w' hL hw hRR hdep hslot hsz K hK
             have hqN : q < 12 := dstOf_lt hd
             have hS' := (hRR.keep (w2.heap.size + 1) (by omega) (by omega)).trans hS6
             obtain ⟨cs0, cs1⟩ := bl2_ hS'
             clear hS'
             have hs6 : a'.tmps.getD 6 undef = .pointer (some ⟨(w2.heap.size + 1), 0, none⟩) := hslot 6 (fun q h => by have hl := dstOf_lt h; match q, hl with | 0, _ => cases h | 1, _ => cases h | 2, _ => cases h | 3, _ => cases h | 4, _ => cases h | 5, _ => cases h | 6, _ => cases h | 7, _ => cases h | 8, _ => cases h | 9, _ => cases h | 10, _ => cases h | 11, _ => cases h)
             have hs14 : a'.tmps.getD 14 undef = .pointer (some ⟨wr.heap.size, 0, none⟩) := hslot 14 (fun q h => by have hl := dstOf_lt h; match q, hl with | 0, _ => cases h | 1, _ => cases h | 2, _ => cases h | 3, _ => cases h | 4, _ => cases h | 5, _ => cases h | 6, _ => cases h | 7, _ => cases h | 8, _ => cases h | 9, _ => cases h | 10, _ => cases h | 11, _ => cases h)
             have hc : q = 0 ∨ q = 1 ∨ q = 2 ∨ q = 3 ∨ q = 4 ∨ q = 5 ∨ q = 6 ∨ q = 7 ∨ q = 8 ∨ q = 9 ∨ q = 10 ∨ q = 11 := by omega
             rcases hc with rfl | rfl | rfl | rfl | rfl | rfl | rfl | rfl | rfl | rfl | rfl | rfl
             ·cases ho
              cases hd
              have e0 := hs6
              unfold Oper.wp
              go_simp
              exact hK _ _ rfl (hRR.step hA6 (Below.refl _ w') 0 137 _ hL (by decide) (by decide) (fun _ => by decide) (fun _ => by decide) (fun e => absurd e (by decide)) (fun e => absurd e (by decide))) (fun _ _ h => h)
             ·cases ho
              cases hd
              have e0 := hs14
              clear cs0 cs1
              unfold Oper.wp
              go_simp
              exact hK _ _ rfl (hRR.step hA6 (Below.refl _ w') 1 138 _ hL (by decide) (by decide) (fun _ => by decide) (fun _ => by decide) (fun e => absurd e (by decide)) (fun e => absurd e (by decide))) (fun _ _ h => h)
             ·cases ho
              cases hd
              have e0 : a'.tmps.getD 138 undef = .pointer (some ⟨wr.heap.size, 1, none⟩) := hdep 1 138 rfl (by kernel_rfl)
              have e0' := gd_ e0
              have hL9 : L 9 = false := by
               cases e : L 9 with
               | false => rfl
               | true =>
                have := hRR.c3 (hRR.c9 e)
                rw [hL] at this
                cases this
              obtain ⟨pv, rv, x1, x2, x3, x4, x5⟩ := hRR.at_
              have cA : w'.cell? ⟨wr.heap.size, 1, none⟩ = some (.slice pao a.pr.length pac) := by rw [Lib.cell_of_heap x1, ← x2 hL9]; rfl
              clear x1 x2 x3 x4 x5
              clear cs0 cs1
              unfold Oper.wp
              go_simp
              exact hK _ _ rfl (hRR.step hA6 (Below.refl _ w') 2 139 _ hL (by decide) (by decide) (fun _ => by decide) (fun _ => by decide) (fun e => absurd e (by decide)) (fun e => absurd e (by decide))) (fun _ _ h => h)
             ·cases ho
              cases hd
              have e0 : a'.tmps.getD 137 undef = .agg #[.slice lo ln lc, .slice (some ⟨h2, off2, none⟩) (m + 1) qc] := hdep 0 137 rfl (by kernel_rfl)
              have e0' := gd_ e0
              have e1 : a'.tmps.getD 139 undef = .slice pao a.pr.length pac := hdep 2 139 rfl (by kernel_rfl)
              have e1' := gd_ e1
              have h4 := G4.other (unhide HG6) (A := wr.heap.size) (by omega) (by omega) (by omega) ⟨_, hA6c⟩ hAo hRR.below hRR.size hRR.keep
              have kA := as_keep hRR hA6c
              clear cs0 cs1
              unfold Oper.wp
              go_simp
              refine (CT3 w' h4 kA).mono ?_
              rintro e w9 ⟨b9, o, c, rfl, h1, h2⟩
              exact hK _ _ ⟨o, c, rfl, h1, h2⟩ (hRR.step hA6 b9 3 140 _ hL (by decide) (by decide) (fun h => absurd rfl h) (fun _ => by decide) (fun _ => hw 2 (by kernel_rfl)) (fun e => absurd e (by decide))) (s25Sp_up (.of_below b9))
             ·cases ho
              cases hd
              have e0 := hs6
              unfold Oper.wp
              go_simp
              exact hK _ _ rfl (hRR.step hA6 (Below.refl _ w') 4 141 _ hL (by decide) (by decide) (fun _ => by decide) (fun _ => by decide) (fun e => absurd e (by decide)) (fun e => absurd e (by decide))) (fun _ _ h => h)
             ·cases ho
              cases hd
              have e0 := hs14
              clear cs0 cs1
              unfold Oper.wp
              go_simp
              exact hK _ _ rfl (hRR.step hA6 (Below.refl _ w') 5 142 _ hL (by decide) (by decide) (fun _ => by decide) (fun _ => by decide) (fun e => absurd e (by decide)) (fun e => absurd e (by decide))) (fun _ _ h => h)
             ·cases ho
              cases hd
              have e0 : a'.tmps.getD 142 undef = .pointer (some ⟨wr.heap.size, 2, none⟩) := hdep 5 142 rfl (by kernel_rfl)
              have e0' := gd_ e0
              have hL11 : L 11 = false := by
               cases e : L 11 with
               | false => rfl
               | true =>
                have := hRR.c7 (hRR.c11 e)
                rw [hL] at this
                cases this
              obtain ⟨pv, rv, x1, x2, x3, x4, x5⟩ := hRR.at_
              have cA : w'.cell? ⟨wr.heap.size, 2, none⟩ = some (.slice rao a.re.length rac) := by rw [Lib.cell_of_heap x1, ← x4 hL11]; rfl
              clear x1 x2 x3 x4 x5
              clear cs0 cs1
              unfold Oper.wp
              go_simp
              exact hK _ _ rfl (hRR.step hA6 (Below.refl _ w') 6 143 _ hL (by decide) (by decide) (fun _ => by decide) (fun _ => by decide) (fun e => absurd e (by decide)) (fun e => absurd e (by decide))) (fun _ _ h => h)
             ·cases ho
              cases hd
              have e0 : a'.tmps.getD 141 undef = .agg #[.slice lo ln lc, .slice (some ⟨h2, off2, none⟩) (m + 1) qc] := hdep 4 141 rfl (by kernel_rfl)
              have e0' := gd_ e0
              have e1 : a'.tmps.getD 143 undef = .slice rao a.re.length rac := hdep 6 143 rfl (by kernel_rfl)
              have e1' := gd_ e1
              have h4 := G4.other (unhide HG6) (A := wr.heap.size) (by omega) (by omega) (by omega) ⟨_, hA6c⟩ hAo hRR.below hRR.size hRR.keep
              have kA := as_keep hRR hA6c
              clear cs0 cs1
              unfold Oper.wp
              go_simp
              refine (CT7 w' h4 kA).mono ?_
              rintro e w9 ⟨b9, o, c, rfl, h1, h2⟩
              exact hK _ _ ⟨o, c, rfl, h1, h2⟩ (hRR.step hA6 b9 7 144 _ hL (by decide) (by decide) (fun _ => by decide) (fun h => absurd rfl h) (fun e => absurd e (by decide)) (fun _ => hw 6 (by kernel_rfl))) (s25Sp_up (.of_below b9))
             ·cases ho
              cases hd
              have e0 := hs14
              clear cs0 cs1
              unfold Oper.wp
              go_simp
              exact hK _ _ rfl (hRR.step hA6 (Below.refl _ w') 8 145 _ hL (by decide) (by decide) (fun _ => by decide) (fun _ => by decide) (fun e => absurd e (by decide)) (fun e => absurd e (by decide))) (fun _ _ h => h)
             ·cases hd
             ·cases ho
              cases hd
              have e0 := hs14
              clear cs0 cs1
              unfold Oper.wp
              go_simp
              exact hK _ _ rfl (hRR.step hA6 (Below.refl _ w') 10 146 _ hL (by decide) (by decide) (fun _ => by decide) (fun _ => by decide) (fun e => absurd e (by decide)) (fun e => absurd e (by decide))) (fun _ _ h => h)
             ·cases hd
            ·intro q o ho hd L a' w' hL hw hRR hdep K hK
             have hqN : q < 12 := (List.getElem?_eq_some_iff.1 ho).1
             have hS' := (hRR.keep (w2.heap.size + 1) (by omega) (by omega)).trans hS6
             obtain ⟨cs0, cs1⟩ := bl2_ hS'
             clear hS'
             have hc : q = 0 ∨ q = 1 ∨ q = 2 ∨ q = 3 ∨ q = 4 ∨ q = 5 ∨ q = 6 ∨ q = 7 ∨ q = 8 ∨ q = 9 ∨ q = 10 ∨ q = 11 := by omega
             rcases hc with rfl | rfl | rfl | rfl | rfl | rfl | rfl | rfl | rfl | rfl | rfl | rfl
             ·cases hd
             ·cases hd
             ·cases hd
             ·cases hd
             ·cases hd
             ·cases hd
             ·cases hd
             ·cases hd
             ·cases hd
             ·cases ho
              obtain ⟨o, c, e1, _, _⟩ : RowT w' (a'.tmps.getD 140 undef) _ := hdep 3 140 rfl (by kernel_rfl)
              have e0 : a'.tmps.getD 145 undef = .pointer (some ⟨wr.heap.size, 1, none⟩) := hdep 8 145 rfl (by kernel_rfl)
              have hP := hRR.put9 (by omega) hL (hw 3 (by kernel_rfl))
              rw [e1] at hP
              obtain ⟨pv, rv, x1, _, _, _, _⟩ := hRR.at_
              have ku : KeepSF w' (w'.setCell ⟨wr.heap.size, 1, none⟩ (.slice o (thoseL (goodNs X.ks) a.pr).length c)) := keepSF_set x1
              have cA : w'.cell? ⟨wr.heap.size, 1, none⟩ = some pv := lc_ x1 rfl
              have fA : w'.frozen? ⟨wr.heap.size, 1, none⟩ = false := Lib.frozen_of_heap x1 1
              have HP := hide hP
              clear hP x1 cs0 cs1
              unfold Oper.wp
              go_simp
              exact hK _ (unhide HP) (s25Sp_up ku) undef
             ·cases hd
             ·cases ho
              obtain ⟨o, c, e1, _, _⟩ : RowT w' (a'.tmps.getD 144 undef) _ := hdep 7 144 rfl (by kernel_rfl)
              have e0 : a'.tmps.getD 146 undef = .pointer (some ⟨wr.heap.size, 2, none⟩) := hdep 10 146 rfl (by kernel_rfl)
              have hP := hRR.put11 (by omega) hL (hw 7 (by kernel_rfl))
              rw [e1] at hP
              obtain ⟨pv, rv, x1, _, _, _, _⟩ := hRR.at_
              have ku : KeepSF w' (w'.setCell ⟨wr.heap.size, 2, none⟩ (.slice o (thoseL (goodNs X.ks) a.re).length c)) := keepSF_set x1
              have cA : w'.cell? ⟨wr.heap.size, 2, none⟩ = some rv := lc_ x1 rfl
              have fA : w'.frozen? ⟨wr.heap.size, 2, none⟩ = false := Lib.frozen_of_heap x1 2
              have HP := hide hP
              clear hP x1 cs0 cs1
              unfold Oper.wp
              go_simp
              exact hK _ (unhide HP) (s25Sp_up ku) undef
            ·intro v L w' hLa hRR hv
             have f0 : v 0 = _ := (hv 0 137 rfl).1
             have f1 : v 1 = _ := (hv 1 138 rfl).1
             have f2 : v 2 = _ := (hv 2 139 rfl).1
             obtain ⟨o3, c3, f3, r31, r32⟩ : RowT w' (v 3) _ := (hv 3 140 rfl).1
             have f4 : v 4 = _ := (hv 4 141 rfl).1
             have f5 : v 5 = _ := (hv 5 142 rfl).1
             have f6 : v 6 = _ := (hv 6 143 rfl).1
             obtain ⟨o7, c7, f7, r71, r72⟩ : RowT w' (v 7) _ := (hv 7 144 rfl).1
             have f8 : v 8 = _ := (hv 8 145 rfl).1
             have f10 : v 10 = _ := (hv 10 146 rfl).1
             obtain ⟨pv, rv, x1, _, x3, _, x5⟩ := hRR.at_
             have ep := (x3 (hLa 9 (by decide))).trans ((hv 3 140 rfl).2.trans f3)
             have er := (x5 (hLa 11 (by decide))).trans ((hv 7 144 rfl).2.trans f7)
             subst ep er
             have h4 := G4.other (unhide HG6) (A := wr.heap.size) (by omega) (by omega) (by omega) ⟨_, hA6c⟩ hAo hRR.below hRR.size hRR.keep
             have hRz := hRR.size
             clear hRR hv hLa x3 x5
             simp only [putAll, dstOf, List.getElem?_cons_zero, List.getElem?_cons_succ, Option.bind_some, List.length_cons, List.length_nil, f0, f1, f2, f3, f4, f5, f6, f7, f8, f10]
             clear f0 f1 f2 f3 f4 f5 f6 f7 f8 f10
             simp only [Act.put, List.setIfInBounds_toArray, List.set_cons_succ, List.set_cons_zero]
             obtain ⟨wq, hwq⟩ : ∃ y, y = w' := ⟨_, rfl⟩
             subst hwq
             have HAT := hide (show IsAT wq ⟨anm, o3, (thoseL (goodNs X.ks) a.pr).length, c3, o7, (thoseL (goodNs X.ks) a.re).length, c7⟩ (actG (goodNs X.ks) a) from ⟨⟨unhide Hanm, rfl, r31, rfl, r71⟩, r32, r72⟩)
             have H4 := hide h4
             have hsq := h4.s
             obtain ⟨ha0, ha1, ha2⟩ := bl3_ x1
             have HFL := hide (show fullA (actG (goodNs X.ks) a) = (decide (0 < (thoseL (goodNs X.ks) a.pr).length) && decide (0 < (thoseL (goodNs X.ks) a.re).length)) from full_len _)
             generalize (thoseL (goodNs X.ks) a.pr).length = tp at *
             generalize (thoseL (goodNs X.ks) a.re).length = tr at *
             clear r31 r32 r71 r72 h4 x1
             by_cases hp : 0 < tp
             ·have hp' : (0 : Int) < (tp : Int) := by omega
              have hpd : decide ((0 : Int) < (tp : Int)) = true := decide_eq_true hp'
              by_cases hq : 0 < tr
              ·have hq' : (0 : Int) < (tr : Int) := by omega
               have hqd : decide ((0 : Int) < (tr : Int)) = true := decide_eq_true hq'
               have HNX2 := hide (show pickA (goodNs X.ks) nn (LL ++ [p]) a = (LL ++ [p]) ++ [actG (goodNs X.ks) a] by unfold pickA; rw [unhide HNX, unhide HFL, decide_eq_true hp, decide_eq_true hq]; rfl)
               have sc1 : wq.cell? ⟨(w2.heap.size + 1), 1, none⟩ = some (.slice (some ⟨h2, off2, none⟩) (m + 1) qc) := lc_ hsq rfl
               have bl := blw1 wq (.cells #[.string anm, .slice o3 tp c3, .slice o7 tr c7] 83)
               have hown := own_belowS (unhide H4).own bl
               rw [unhide HeL, unhide HXX] at hown
               have Hown := hide hown
               have hnb := hown.lt
               have HNw := hide (alloc_heap wq (.cells #[.string anm, .slice o3 tp c3, .slice o7 tr c7] 83))
               have zl : (wq.alloc (.cells #[.string anm, .slice o3 tp c3, .slice o7 tr c7] 83)).heap.size = wq.heap.size + 1 := by simp
               have hsl := kept_of_below bl hsq
               have bq := (unhide H4).below
               have bw1 := bq.trans (bl.mono bq.size)
               have hzq := (unhide H4).size
               have Hbl := hide bl
               clear hown hsq bl
               go_wp2_with (at_builtin; refine wpList_append_own _ rfl _ _ 31 rfl W1.heap.size 83 iA _ 3 64 Try.underlying31 hiA hzA0 hzA1 hzA2 rfl (by decide) _ _ _ rfl (unhide Hown) ⟨wq.heap.size, 0, none⟩ 1 1 [.string anm, .slice o3 tp c3, .slice o7 tr c7] rfl rfl ?tb1 ?tb2 ?tb3 ?tb4 ?tb5 ?_)
               case tb1 =>
                intro j u hj
                rw [Addr.add_lit, Nat.zero_add, Lib.cell_of_heap (unhide HNw)]
                simpa using hj
               case tb2 => intro u hu; simp at hu; rcases hu with rfl | rfl | rfl <;> rfl
               case tb3 =>
                unfold maxLen
                try simp only [List.length_nil]
                omega
               case tb4 =>
                try simp only [List.length_nil]
                omega
               case tb5 => omega
               intro v6 w6' hown6 hgrow _
               obtain ⟨ao6, n6, c6, rfl⟩ : ∃ a n c, v6 = .slice a n c := by
                rcases hown6.2 with ⟨h, _⟩ | ⟨g, cap, cur, h, _⟩
                ·exact ⟨_, _, _, h⟩
                ·exact ⟨_, _, _, h⟩
               have b6 : Below w.heap.size w w6' := bw1.grown hgrow bw1.size (fun j hj => by have := (hnb j hj).1; omega)
               have hS6' : w6'.heap[(w2.heap.size + 1)]? = _ := (hgrow.block (w2.heap.size + 1) (by omega) (fun h => by have := (hnb _ h.symm).1; omega)).trans hsl
               have s6 : w6'.cell? ⟨(w2.heap.size + 1), 1, none⟩ = some (.slice (some ⟨h2, off2, none⟩) (m + 1) qc) := lc_ hS6' rfl
               have f6 : w6'.frozen? ⟨(w2.heap.size + 1), 1, none⟩ = false := Lib.frozen_of_heap hS6' 1
               have HST7 := hide (G4.next (x := ⟨anm, o3, tp, c3, o7, tr, c7⟩) (unhide H4) (by omega) (by omega) (unhide HAT) (unhide Hbl) b6 (by rw [unhide HeL, unhide HXX]; exact hown6) hgrow)
               clear hown6 hgrow hS6' hnb
               go_wp2
               go_roundw
               case rel => exact ⟨i + 1, _, _, by go_num, by omega, by rw [unhide HPN, unhide HNX2]; exact unhide HST7⟩
               case measure =>
                simp only [intOf]
                omega
              ·have hq' : ¬ (0 : Int) < (tr : Int) := by omega
               have hqd : decide ((0 : Int) < (tr : Int)) = false := decide_eq_false hq'
               have HNX2 := hide (show pickA (goodNs X.ks) nn (LL ++ [p]) a = (LL ++ [p]) by unfold pickA; rw [unhide HNX, unhide HFL, decide_eq_false hq, Bool.and_false]; rfl)
               go_wp2
               go_roundw
               case rel => exact ⟨i + 1, _, xs, by go_num, by omega, by rw [unhide HPN, unhide HNX2]; exact unhide H4⟩
               case measure =>
                simp only [intOf]
                omega
             ·have hp' : ¬ (0 : Int) < (tp : Int) := by omega
              have hpd : decide ((0 : Int) < (tp : Int)) = false := decide_eq_false hp'
              have HNX2 := hide (show pickA (goodNs X.ks) nn (LL ++ [p]) a = (LL ++ [p]) by unfold pickA; rw [unhide HNX, unhide HFL, decide_eq_false hp, Bool.false_and]; rfl)
              go_wp2
              go_roundw
              case rel => exact ⟨i + 1, _, xs, by go_num, by omega, by rw [unhide HPN, unhide HNX2]; exact unhide H4⟩
              case measure =>
               simp only [intOf]
               omega
          ·have HNX := hide (show pickA (goodNs X.ks) nn (LL ++ [p]) a = LL ++ [p] by unfold pickA; rw [hLast, hpb]; rfl)
           clear han
           go_upto_region 24 with fail
           generalize wr.alloc _ = wA at *
           have g1 := cell_regrown a0c
           have g2 := cell_regrown sc1
           have g3 := cell_regrown nnc
           have g4 := cell_regrown pn
           clear a0c sc1 nnc pn
           refine wp_region_quiet_below (by kernel_rfl) (by kernel_rfl) ?_
           repeat (first | go_big_quiet_step (fail) | quiet_step (fail))
           refine wpQuiet_nil ?_
           intro _ hw'
           obtain ⟨⟨dq2, osq2⟩, hw''⟩ := hw'
           subst hw''
           have b11 := below_regrown wA dq2 osq2
           generalize grow (redrawn wA dq2) osq2 = w6 at *
           have HG6 := hide ((unhide HG).up b11)
           go_wp2
           go_roundw
           case rel => exact ⟨i + 1, _, xs, by go_num, by omega, by rw [unhide HPN, unhide HNX]; exact unhide HG6⟩
           case measure =>
            simp only [intOf]
            omega
        ·have hb : (anm.toList == nn.toList) = false := bytes_ne han
         have HNX := hide (show pickA (goodNs X.ks) nn acc a = acc by unfold pickA passA; rw [← unhide Hanm, decide_eq_false han]; rfl)
         clear han hrow hG hlx
         go_upto_region 24 with fail
         generalize wr.alloc _ = wA at *
         have g1 := cell_regrown a0c
         have g2 := cell_regrown sc1
         have g3 := cell_regrown nnc
         clear a0c sc1 nnc
         refine wp_region_quiet_below (by kernel_rfl) (by kernel_rfl) ?_
         repeat (first | go_big_quiet_step (fail) | quiet_step (fail))
         refine wpQuiet_nil ?_
         intro _ hw'
         obtain ⟨⟨dq2, osq2⟩, hw''⟩ := hw'
         subst hw''
         have b11 := below_regrown wA dq2 osq2
         generalize grow (redrawn wA dq2) osq2 = w6 at *
         have HG6 := hide ((unhide HG).up b11)
         go_wp2
         go_roundw
         case rel => exact ⟨i + 1, _, xs, by go_num, by omega, by rw [unhide HPN, unhide HNX]; exact unhide HG6⟩
         case measure =>
          simp only [intOf]
          omega
       ·have i1 : ¬ (i : Int) < (X.ac.length : Int) := by omega
        have e : X.ac.take i = X.ac := List.take_of_length_le (by omega)
        rw [e] at hG
        have HG := hide hG
        clear e hG
        go_wp2
        go_roundw
        case rel => exact ⟨n + 1, lv, xs, by go_num, by omega, by rw [unhide HNN]; exact unhide HG⟩
        case measure =>
         simp only [intOf]
         omega
     ·have n1' : ¬ (n : Int) < 3 := by omega
      have HG := hide hG
      clear hG
      go_wp2_with fail
      go_meet
      case rel =>
       have e : n = 3 := by omega
       subst e
       exact ⟨lv, xs, unhide HG⟩
   case rest =>
    rename World => we
    obtain ⟨lv, xs, hG⟩ := hcut
    obtain ⟨qo, qc, elv, hrow, _⟩ := own_row (l := xs) (f := N3.cells) (n := 3) lenN (by rw [hG.len]; exact hG.own)
    obtain ⟨qn, hqn⟩ : ∃ qn, qn = xs.length := ⟨_, rfl⟩
    rw [← hqn] at elv
    subst elv
    have hIS := G4.isS hG (unhide HG1) (by omega)
    have hze := hG.size
    have hre := (hG.old w.heap.size (by omega) (by omega)).trans HRr
    have hse := hG.s
    have be := hG.below
    obtain ⟨cs0, cs1⟩ := bl2_ hse
    obtain ⟨cr0, cr1⟩ := bl2_ hre
    have fr0 := Lib.frozen_of_heap hre 0
    have fr1 := Lib.frozen_of_heap hre 1
    have q7 := heap_setCell_same _ w.heap.size 1 _ _ (.slice qo qn qc) (heap_setCell_same we w.heap.size 0 _ _ (.slice lo ln lc) hre)
    have b7 := (be.setCell (p := ⟨w.heap.size, 0, none⟩) (Nat.le_refl _) (.slice lo ln lc)).setCell (p := ⟨w.heap.size, 1, none⟩) (Nat.le_refl _) (.slice qo qn qc)
    have HIS := hide (show IsST ((we.setCell ⟨w.heap.size, 0, none⟩ (.slice lo ln lc)).setCell ⟨w.heap.size, 1, none⟩ (.slice qo qn qc)) (.agg #[.slice lo ln lc, .slice qo qn qc]) (goodS X) by rw [unhide HGS]; exact G4.isSet hG (unhide HG1) (by omega) (by omega) hre)
    have HQ := hide (And.intro q7 b7)
    clear q7 b7 hIS hqn hrow hG
    go_upto_region 28 with fail
    go_wp2
    obtain ⟨q7, b7⟩ := unhide HQ
    obtain ⟨d0, d1⟩ := bl2_ q7
    have HS7 := unhide HIS
    generalize (we.setCell _ _).setCell _ _ = w7 at *
    exact bodyPost_ret (v := .agg #[.slice lo ln lc, .slice qo qn qc]) (by simp [results, Try.results8, go_sem, d0, d1]) rfl ⟨b7, _, rfl, HS7⟩
end Go.Proofs.Ytagnbpobcijakaa

namespace Go.Proofs.Ytagnbpobcijakaa
open Go.RowKit Go.Sort

theorem goodA_mem (l : List ByteArray) (as_ : List AP) (ns : List ByteArray) : ∀ a ∈ goodA l as_ ns, ∃ b ∈ as_, a = actG l b := by
 have h1 : ∀ (n : ByteArray) (t acc : List AP), (∀ k ∈ acc, ∃ b ∈ as_, k = actG l b) → (∀ k ∈ t, k ∈ as_) → ∀ k ∈ pickAs l n t acc, ∃ b ∈ as_, k = actG l b := by
  intro n t
  unfold pickAs
  induction t with
  | nil => intro acc h _; simpa using h
  | cons a t ih =>
   intro acc h ht
   simp only [List.foldl_cons]
   refine ih _ (fun k hk => ?_) (fun k hk => ht k (List.mem_cons_of_mem _ hk))
   unfold pickA at hk
   cases e : passA n acc a
   ·rw [e] at hk
    cases e2 : fullA (actG l a)
    ·rw [e2] at hk
     exact h k hk
    ·rw [e2] at hk
     rcases List.mem_append.1 hk with hk | hk
     ·exact h k hk
     ·rw [List.mem_singleton.1 hk]
      exact ⟨a, ht a List.mem_cons_self, rfl⟩
   ·rw [e] at hk
    exact h k hk
 have h2 : ∀ (ns : List ByteArray) (acc : List AP), (∀ k ∈ acc, ∃ b ∈ as_, k = actG l b) → ∀ k ∈ ns.foldl (fun acc n => pickAs l n as_ acc) acc, ∃ b ∈ as_, k = actG l b := by
  intro ns
  induction ns with
  | nil => intro acc h; simpa using h
  | cons a t ih =>
   intro acc h
   simp only [List.foldl_cons]
   exact ih _ (h1 a as_ acc h (fun k hk => hk))
 exact h2 ns [] (fun k hk => absurd hk List.not_mem_nil)
/-- How much there is of a good schema at most. -/
structure Few10 (s : SP) : Prop where
 ks : s.ks.length ≤ 20
 ac : s.ac.length ≤ 15
 k : ∀ k ∈ s.ks, k.ps.length ≤ 3 ∧ k.fs.length ≤ 4
 a : ∀ a ∈ s.ac, a.pr.length ≤ 4 ∧ a.re.length ≤ 4 ∧ a.nm.size ≤ 100
theorem few_good {X : SP} (h : Tiny X) : Few10 (goodS X) := by
 refine ⟨?_, ?_, fun k hk => ?_, fun a ha => ?_⟩
 ·unfold goodS
  rw [List.length_map]
  exact good1_len X.ks h.ks names4 4 (by decide)
 ·exact goodA_len _ X.ac h.ac acts3 3 (by decide)
 ·obtain ⟨b, hb, rfl⟩ := List.mem_map.1 hk
  have h1 := h.k b (good1_mem X.ks names4 b hb)
  have h2 := thoseL_len (goodNs X.ks) b.ps
  have h3 := fieldsG_len (goodNs X.ks) b.nm b.fs
  show (thoseL (goodNs X.ks) b.ps).length ≤ 3 ∧ (fieldsG (goodNs X.ks) b.nm b.fs).length ≤ 4
  omega
 ·obtain ⟨b, hb, rfl⟩ := goodA_mem _ _ _ a ha
  have h1 := h.a b hb
  have h2 := thoseL_len (goodNs X.ks) b.pr
  have h3 := thoseL_len (goodNs X.ks) b.re
  show (thoseL (goodNs X.ks) b.pr).length ≤ 4 ∧ (thoseL (goodNs X.ks) b.re).length ≤ 4 ∧ b.nm.size ≤ 100
  omega
end Go.Proofs.Ytagnbpobcijakaa
