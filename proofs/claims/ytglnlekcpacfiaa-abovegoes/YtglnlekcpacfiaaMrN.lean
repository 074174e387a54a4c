/-
  chancellaw9.AboveGoes: the walk.
-/
import Derived.Test.YtglnlekcpacfiaaMrLM
namespace Go.Proofs.Ytglnlekcpacfiaa
open Go.RowKit Go.Sort

set_option maxHeartbeats 16000000 in
set_option maxRecDepth 1000000 in
theorem agoes_walk (lo : Option Addr) (rs : List EntR) (lc : Nat) (w : World) (hl : rs.length ≤ 9223372036854775807) (hr : RowEnt w lo rs) :
    Calls Try.prog 4 #[.slice lo rs.length lc] w fun e w' => e = .returned (.bool true) ∧ Below w.heap.size w w' := by
  have HR := hide hr
  clear hr
  go_enter Try.func4, Try.ntmps4
  go_wp2_with fail
  refine (known9_any w).mono ?_
  rintro _ w0 ⟨rfl, b0⟩
  have G := good8_any lo rs lc w0 hl ((unhide HR).below b0)
  have HGL := hide (gl_goods rs)
  generalize goodsL rs = ps at *
  go_wp2_with fail
  refine G.mono ?_
  clear G
  rintro _ w1 ⟨b01, go, gcap, gs, rfl, hgr, hgA, hgc, hgn⟩
  have b1 := b0.trans (b01.mono b0.size)
  have HG := hide (G9.mk hgr hgA (unhide HGL))
  have hgl := (unhide HG).len
  clear hgr hgA hgn b01 b0 hgc HGL
  go_wp2_with fail
  go_loopw [4] (fun iv wr => ∃ i : Nat, iv = .int .i64 i ∧ i ≤ gs.length ∧ Below w1.heap.size w1 wr) (fun iv _ => gs.length - (intOf iv).toNat)
  case atStart => exact ⟨0, by go_num, Nat.zero_le _, Below.refl _ _⟩
  case round =>
    obtain ⟨i, rfl, hi, hbw⟩ := hrel
    have k0 : (0 : Int) ≤ (i : Int) := by omega
    by_cases hlt : i < gs.length
    · have i1 : (i : Int) < (gs.length : Int) := by omega
      obtain ⟨b, off, rfl, hb, hcx⟩ := rowG_at (unhide HG).row hbw hlt
      have A : AtE4 wr b (off + i * 4) gs[i] := AtE4.of hcx
      obtain ⟨pl, hps, hpl, hpr, hp3⟩ := (unhide HG).pars hlt
      obtain ⟨x, hx⟩ : ∃ x, x = gs[i] := ⟨_, rfl⟩
      rw [← hx] at A hps hpl hpr
      obtain ⟨S, hS⟩ : ∃ S, S = upS ps := ⟨_, rfl⟩
      rw [← hS] at hps
      have HS := hide hS
      obtain ⟨wB, hWB⟩ := isW_ex S
      have HWB := hide hWB
      clear hWB
      have HPS := hide (show pl = S ⟨x.t, x.i⟩ from hps)
      have HPL := hide hpl
      have HPR := hide hpr
      have hxp : x.pl ≤ 3 := by rw [hpl]; exact hp3
      obtain ⟨a0, a1, a2, _⟩ := A
      clear hx hcx hps hpl hpr hp3 hS
      have ba := belowA wr (.cells #[.string x.t, .string x.i] 28)
      have hUa := heap_alloc_new wr (.cells #[.string x.t, .string x.i] 28)
      have b1a := hbw.trans (ba.mono hbw.size)
      have a2a := (ba.cell (p := ⟨b, off + i * 4 + 2, none⟩) (show b < _ by have := hbw.size; omega)).trans a2
      have IN0 := ((unhide HG).below b1a).in9S (unhide HS) (unhide HWB) gcap ⟨x.t, x.i⟩ ⟨x.t, x.i⟩
      rw [(unhide HWB _ _).2 (Way.here _)] at IN0
      unfold U2.val at IN0
      have hbU : w1.heap.size ≤ wr.heap.size := hbw.size
      go_upto_region 8 with fail
      clear a0 a1 a2 ba
      generalize wr.heap.size = U at *
      generalize wr.alloc _ = wa at *
      have d0 : wa.cell? ⟨U, 0, none⟩ = some (.string x.t) := by rw [Lib.cell_of_heap hUa]; rfl
      have d1 : wa.cell? ⟨U, 1, none⟩ = some (.string x.i) := by rw [Lib.cell_of_heap hUa]; rfl
      go_wp2_with fail
      refine IN0.mono ?_
      clear IN0 d0 d1
      rintro _ w4 ⟨rfl, b4⟩
      have b14 := b1a.trans (b4.mono b1a.size)
      have hU4 := (b4.block U (Array.getElem?_eq_some_iff.1 hUa).1).trans hUa
      have d0 : w4.cell? ⟨U, 0, none⟩ = some (.string x.t) := by rw [Lib.cell_of_heap hU4]; rfl
      have d1 : w4.cell? ⟨U, 1, none⟩ = some (.string x.i) := by rw [Lib.cell_of_heap hU4]; rfl
      have AB := ((unhide HG).below b14).above9 gcap ⟨x.t, x.i⟩
      unfold U2.val at AB
      go_wp2_with fail
      refine AB.mono ?_
      clear AB d0 d1
      rintro _ w5 ⟨b5, xo, xc, l, rfl, hrow, hAbv, hl36⟩
      have b15 := b14.trans (b5.mono b14.size)
      have b45 := b4.trans (b5.mono b4.size)
      have a25 := (b45.cell (p := ⟨b, off + i * 4 + 2, none⟩) (show b < _ by have := b1a.size; omega)).trans a2a
      have hU5 := (b5.block U (Array.getElem?_eq_some_iff.1 hU4).1).trans hU4
      rw [← unhide HS] at hAbv
      have HROW := hide hrow
      have HABV := hide hAbv
      obtain ⟨nx, hnx⟩ : ∃ nx, nx = l.length := ⟨_, rfl⟩
      rw [← hnx] at hl36 ⊢
      have HNX := hide hnx
      clear hrow hAbv hnx hUa hU4 b4 b5 b45 a2a b14 b1a
      go_wp2_with fail
      go_loopw [7] (fun kv wr2 => ∃ k : Nat, kv = .int .i64 k ∧ k ≤ nx ∧ Below w5.heap.size w5 wr2) (fun kv _ => nx - (intOf kv).toNat)
      case atStart => exact ⟨0, by go_num, Nat.zero_le _, Below.refl _ _⟩
      case round =>
        rename World => wr2
        obtain ⟨k, rfl, hk, hb2⟩ := hrel
        have b12 := b15.trans (hb2.mono b15.size)
        have b52 := hb2
        have hlow : b < wr2.heap.size := by have := b12.size; omega
        have a2 := (hb2.cell (p := ⟨b, off + i * 4 + 2, none⟩) (show b < _ by have := b15.size; omega)).trans a25
        have cU := (hb2.block U (Array.getElem?_eq_some_iff.1 hU5).1).trans hU5
        by_cases hkx : k < nx
        · have k1 : (k : Int) < (nx : Int) := by omega
          have k2 : (0 : Int) ≤ (k : Int) := by omega
          have HK := hide (show k < l.length by rw [← unhide HNX]; exact hkx)
          obtain ⟨xb, xoff, rfl, hxb5, hxc⟩ := rowG_at (unhide HROW) hb2 (unhide HK)
          have hxb : xb < wr2.heap.size := Nat.lt_of_lt_of_le hxb5 hb2.size
          have B : AtE2 wr2 xb (xoff + k * 2) (l[k]'(unhide HK)) := AtE2.of hxc
          obtain ⟨y, hy⟩ : ∃ y, y = l[k]'(unhide HK) := ⟨_, rfl⟩
          have hyl : ∃ f ∈ S ⟨x.t, x.i⟩, Way S f y := ((unhide HABV).2 y).1 (by rw [hy]; exact List.getElem_mem _)
          rw [← hy] at B
          have HY := hide hy
          have HWUY := hide (show Way S ⟨x.t, x.i⟩ y from by
            obtain ⟨f, hf, hw⟩ := hyl
            exact (Way.step (Way.here _) hf).trans hw)
          have HANY := hide (show (pl.any fun f => wB f y) = true from by
            obtain ⟨f, hf, hw⟩ := hyl
            exact List.any_eq_true.2 ⟨f, by rw [unhide HPS]; exact hf, (unhide HWB _ _).2 hw⟩)
          clear hy hyl hxc
          go_wp2_with fail
          go_loopw [8, 9] (fun bv jv wr3 => ∃ j : Nat, jv = .int .i64 j ∧ j ≤ x.pl ∧ bv = .bool ((pl.take j).any fun f => wB f y) ∧ Below wr2.heap.size wr2 wr3) (fun _ jv _ => x.pl - (intOf jv).toNat)
          case atStart => exact ⟨0, by go_num, Nat.zero_le _, rfl, Below.refl _ _⟩
          case round =>
            rename World => wr3
            obtain ⟨j, rfl, hj, rfl, hb3⟩ := hrel
            have b13 := b12.trans (hb3.mono b12.size)
            have f2 := (hb3.cell (p := ⟨b, off + i * 4 + 2, none⟩) hlow).trans a2
            by_cases hjp : j < x.pl
            · have q2 : (j : Int) < (x.pl : Int) := by omega
              have q0 : (0 : Int) ≤ (j : Int) := by omega
              have HJ := hide (show j < pl.length by rw [← unhide HPL]; exact hjp)
              obtain ⟨pb, poff, epo, hpb, hpc⟩ := rowG_at (unhide HPR) b13 (unhide HJ)
              have P : AtE2 wr3 pb (poff + j * 2) (pl[j]'(unhide HJ)) := AtE2.of hpc
              have HT := hide (show ((pl.take (j + 1)).any fun f => wB f y) = (((pl.take j).any fun f => wB f y) || wB (pl[j]'(unhide HJ)) y) by rw [List.take_succ_eq_append_getElem (unhide HJ), List.any_append]; simp)
              obtain ⟨f, hf⟩ : ∃ f, f = pl[j]'(unhide HJ) := ⟨_, rfl⟩
              rw [← hf] at P HT
              clear hf hpc
              rw [epo] at f2
              obtain ⟨h0, h1⟩ := P.up
              have g2 := cell_regrown f2
              have Y := (B.below hb3 hxb)
              obtain ⟨y0, y1⟩ := Y.up
              have i9 := fun d os => Calls.regrown_of (w := wr3) (d := d) (os := os) ((unhide HG).below (b13.trans ((below_regrown wr3 d os).mono b13.size)) |>.in9S (unhide HS) (unhide HWB) gcap f y)
              unfold U2.val at i9
              have HT2 := hide (show ((pl.take (j + 1)).any fun f => wB f y) = (((pl.take j).any fun f => wB f y) || wB f y) from unhide HT)
              generalize ((pl.take j).any fun f => wB f y) = z at *
              generalize wB f y = z2 at *
              clear HT P epo Y a2 B
              cases z
              · go_wp2_with fail
                refine wp_region_quiet_below (by kernel_rfl) (by kernel_rfl) ?_
                repeat (first | go_big_quiet_step (fail) | quiet_step (fail))
                quiet_step (exact i9 _ _)
                repeat (first | go_big_quiet_step (fail) | quiet_step (fail))
                refine wpQuiet_nil ?_
                intro _ hw'
                obtain ⟨⟨dq, osq⟩, hw''⟩ := hw'
                subst hw''
                have b7 := hb3.trans ((below_regrown wr3 dq osq).mono hb3.size)
                generalize grow (redrawn wr3 dq) osq = w7 at *
                clear g2 h0 h1 y0 y1 i9 f2
                go_wp2
                go_roundw
                case rel => exact ⟨j + 1, by go_num, by omega, by rw [unhide HT2]; rfl, b7⟩
                case measure =>
                  simp only [intOf]
                  omega
              · go_wp2_with fail
                refine wp_region_quiet_below (by kernel_rfl) (by kernel_rfl) ?_
                repeat (first | go_big_quiet_step (fail) | quiet_step (fail))
                refine wpQuiet_nil ?_
                intro _ hw'
                obtain ⟨⟨dq, osq⟩, hw''⟩ := hw'
                subst hw''
                have b7 := hb3.trans ((below_regrown wr3 dq osq).mono hb3.size)
                generalize grow (redrawn wr3 dq) osq = w7 at *
                clear g2 h0 h1 y0 y1 i9 f2
                go_wp2
                go_roundw
                case rel => exact ⟨j + 1, by go_num, by omega, by rw [unhide HT2]; rfl, b7⟩
                case measure =>
                  simp only [intOf]
                  omega
            · have q2 : ¬ (j : Int) < (x.pl : Int) := by omega
              have HAll := hide (show ((pl.take j).any fun f => wB f y) = true by
                rw [List.take_of_length_le (by rw [← unhide HPL]; omega)]
                exact unhide HANY)
              rw [unhide HAll]
              have Y := (B.below hb3 hxb)
              have hU9 := (hb3.block U (Array.getElem?_eq_some_iff.1 cU).1).trans cU
              clear a2 B cU
              by_cases hk0 : 0 < k
              · have p0 : (0 : Int) < (k : Int) := by omega
                have HK1 := hide (show k - 1 < l.length by have := unhide HK; omega)
                obtain ⟨xb1, xoff1, e1', hxb1, hxc1⟩ := rowG_at (unhide HROW) (b52.trans (hb3.mono b52.size)) (unhide HK1)
                cases e1'
                have Q : AtE2 wr3 xb (xoff + (k - 1) * 2) (l[k - 1]'(unhide HK1)) := AtE2.of hxc1
                have hne : decide (y = l[k - 1]'(unhide HK1)) = false := by
                  have hlt := List.pairwise_iff_getElem.1 (unhide HABV).1 (k - 1) k (unhide HK1) (unhide HK) (by omega)
                  refine decide_eq_false fun e => ?_
                  rw [← unhide HY, e, sto_lessU.irr] at hlt
                  cases hlt
                obtain ⟨v, hv⟩ : ∃ v, v = l[k - 1]'(unhide HK1) := ⟨_, rfl⟩
                rw [← hv] at Q hne
                clear hv hxc1
                have NQ := binEqlUid y v
                rw [hne] at NQ
                clear hne
                have ek : (k : Int) - 1 = ((k - 1 : Nat) : Int) := by omega
                have k10 : (0 : Int) ≤ ((k - 1 : Nat) : Int) := by omega
                have k11 : ((k - 1 : Nat) : Int) < (nx : Int) := by omega
                obtain ⟨v0, v1⟩ := Q.up
                clear Q
                obtain ⟨y0, y1⟩ := Y.up
                have u0 := cell_regrown (show wr3.cell? ⟨U, 0, none⟩ = some (.string x.t) by rw [Lib.cell_of_heap hU9]; rfl)
                have u1 := cell_regrown (show wr3.cell? ⟨U, 1, none⟩ = some (.string x.i) by rw [Lib.cell_of_heap hU9]; rfl)
                have i9 := fun d os => Calls.regrown_of (w := wr3) (d := d) (os := os) ((unhide HG).below (b13.trans ((below_regrown wr3 d os).mono b13.size)) |>.in9S (unhide HS) (unhide HWB) gcap ⟨x.t, x.i⟩ y)
                rw [(unhide HWB _ _).2 (unhide HWUY)] at i9
                unfold U2.val at i9
                go_wp2_with fail
                refine wp_region_quiet_below (by kernel_rfl) (by kernel_rfl) ?_
                repeat (first | go_big_quiet_step (fail) | quiet_step (fail))
                quiet_step (exact i9 _ _)
                repeat (first | go_big_quiet_step (fail) | quiet_step (fail))
                refine wpQuiet_nil ?_
                intro _ hw'
                obtain ⟨⟨dq, osq⟩, hw''⟩ := hw'
                subst hw''
                have b7 := hb3.trans ((below_regrown wr3 dq osq).mono hb3.size)
                have b37 := below_regrown wr3 dq osq
                generalize grow (redrawn wr3 dq) osq = w7 at *
                clear y0 y1 u0 u1 i9 v0 v1 NQ ek k10 k11
                have Y7 := Y.below b37 (Nat.lt_of_lt_of_le hxb hb3.size)
                have hU7 := (b37.block U (Array.getElem?_eq_some_iff.1 hU9).1).trans hU9
                have b17 := b12.trans (b7.mono b12.size)
                have AB := ((unhide HG).below b17).above9 gcap y
                unfold U2.val at AB
                obtain ⟨y0, y1⟩ := Y7
                go_wp2_with fail
                refine AB.mono ?_
                clear AB y0 y1 Y
                rintro _ w8 ⟨b8, zo, zc, l2, rfl, hrow2, hAbv2, hl2⟩
                have b78 := b7.trans (b8.mono b7.size)
                have b18 := b12.trans (b78.mono b12.size)
                have hU8 := (b8.block U (Array.getElem?_eq_some_iff.1 hU7).1).trans hU7
                have HR2 := hide hrow2
                rw [← unhide HS] at hAbv2
                have HA2 := hide hAbv2
                obtain ⟨nz, hnz⟩ : ∃ nz, nz = l2.length := ⟨_, rfl⟩
                rw [← hnz] at hl2 ⊢
                have HNZ := hide hnz
                clear hrow2 hAbv2 hnz hU7 hU9
                go_wp2_with fail
                go_loopw [11] (fun jv wr4 => ∃ j : Nat, jv = .int .i64 j ∧ j ≤ nz ∧ Below w8.heap.size w8 wr4) (fun jv _ => nz - (intOf jv).toNat)
                case atStart => exact ⟨0, by go_num, Nat.zero_le _, Below.refl _ _⟩
                case round =>
                  rename World => wr4
                  obtain ⟨j4, rfl, hj4, hb4⟩ := hrel
                  have b14 := b18.trans (hb4.mono b18.size)
                  by_cases hjz : j4 < nz
                  · have q3 : (j4 : Int) < (nz : Int) := by omega
                    have q4 : (0 : Int) ≤ (j4 : Int) := by omega
                    have HJ4 := hide (show j4 < l2.length by rw [← unhide HNZ]; exact hjz)
                    obtain ⟨zb, zoff, rfl, hzb, hzc⟩ := rowG_at (unhide HR2) hb4 (unhide HJ4)
                    have Z : AtE2 wr4 zb (zoff + j4 * 2) (l2[j4]'(unhide HJ4)) := AtE2.of hzc
                    have HWZ := hide (show Way S ⟨x.t, x.i⟩ (l2[j4]'(unhide HJ4)) from by
                      obtain ⟨f, hf, hw⟩ := ((unhide HA2).2 _).1 (List.getElem_mem (unhide HJ4))
                      exact (Way.step (unhide HWUY) hf).trans hw)
                    obtain ⟨v, hv⟩ : ∃ v, v = l2[j4]'(unhide HJ4) := ⟨_, rfl⟩
                    rw [← hv] at Z HWZ
                    clear hv hzc
                    obtain ⟨v0, v1⟩ := Z.up
                    have hUr := (hb4.block U (Array.getElem?_eq_some_iff.1 hU8).1).trans hU8
                    have u0 := cell_regrown (show wr4.cell? ⟨U, 0, none⟩ = some (.string x.t) by rw [Lib.cell_of_heap hUr]; rfl)
                    have u1 := cell_regrown (show wr4.cell? ⟨U, 1, none⟩ = some (.string x.i) by rw [Lib.cell_of_heap hUr]; rfl)
                    have i9 := fun d os => Calls.regrown_of (w := wr4) (d := d) (os := os) ((unhide HG).below (b14.trans ((below_regrown wr4 d os).mono b14.size)) |>.in9S (unhide HS) (unhide HWB) gcap ⟨x.t, x.i⟩ v)
                    rw [(unhide HWB _ _).2 (unhide HWZ)] at i9
                    unfold U2.val at i9
                    clear Z hUr
                    go_wp2_with fail
                    refine wp_region_quiet_below (by kernel_rfl) (by kernel_rfl) ?_
                    repeat (first | go_big_quiet_step (fail) | quiet_step (fail))
                    quiet_step (exact i9 _ _)
                    repeat (first | go_big_quiet_step (fail) | quiet_step (fail))
                    refine wpQuiet_nil ?_
                    intro _ hw'
                    obtain ⟨⟨dq, osq⟩, hw''⟩ := hw'
                    subst hw''
                    have b9 := hb4.trans ((below_regrown wr4 dq osq).mono hb4.size)
                    generalize grow (redrawn wr4 dq) osq = w9 at *
                    clear v0 v1 u0 u1 i9
                    go_wp2
                    go_roundw
                    case rel => exact ⟨j4 + 1, by go_num, by omega, b9⟩
                    case measure =>
                      simp only [intOf]
                      omega
                  · have q3 : ¬ (j4 : Int) < (nz : Int) := by omega
                    go_wp2
                    go_roundw
                    case rel => exact ⟨k + 1, by go_num, by omega, hb2.trans ((b78.trans (hb4.mono b78.size)).mono hb2.size)⟩
                    case measure =>
                      simp only [intOf]
                      omega
              · have p0 : ¬ (0 : Int) < (k : Int) := by omega
                obtain ⟨y0, y1⟩ := Y.up
                have u0 := cell_regrown (show wr3.cell? ⟨U, 0, none⟩ = some (.string x.t) by rw [Lib.cell_of_heap hU9]; rfl)
                have u1 := cell_regrown (show wr3.cell? ⟨U, 1, none⟩ = some (.string x.i) by rw [Lib.cell_of_heap hU9]; rfl)
                have i9 := fun d os => Calls.regrown_of (w := wr3) (d := d) (os := os) ((unhide HG).below (b13.trans ((below_regrown wr3 d os).mono b13.size)) |>.in9S (unhide HS) (unhide HWB) gcap ⟨x.t, x.i⟩ y)
                rw [(unhide HWB _ _).2 (unhide HWUY)] at i9
                unfold U2.val at i9
                go_wp2_with fail
                refine wp_region_quiet_below (by kernel_rfl) (by kernel_rfl) ?_
                repeat (first | go_big_quiet_step (fail) | quiet_step (fail))
                quiet_step (exact i9 _ _)
                repeat (first | go_big_quiet_step (fail) | quiet_step (fail))
                refine wpQuiet_nil ?_
                intro _ hw'
                obtain ⟨⟨dq, osq⟩, hw''⟩ := hw'
                subst hw''
                have b7 := hb3.trans ((below_regrown wr3 dq osq).mono hb3.size)
                have b37 := below_regrown wr3 dq osq
                generalize grow (redrawn wr3 dq) osq = w7 at *
                clear y0 y1 u0 u1 i9
                have Y7 := Y.below b37 (Nat.lt_of_lt_of_le hxb hb3.size)
                have hU7 := (b37.block U (Array.getElem?_eq_some_iff.1 hU9).1).trans hU9
                have b17 := b12.trans (b7.mono b12.size)
                have AB := ((unhide HG).below b17).above9 gcap y
                unfold U2.val at AB
                obtain ⟨y0, y1⟩ := Y7
                go_wp2_with fail
                refine AB.mono ?_
                clear AB y0 y1 Y
                rintro _ w8 ⟨b8, zo, zc, l2, rfl, hrow2, hAbv2, hl2⟩
                have b78 := b7.trans (b8.mono b7.size)
                have b18 := b12.trans (b78.mono b12.size)
                have hU8 := (b8.block U (Array.getElem?_eq_some_iff.1 hU7).1).trans hU7
                have HR2 := hide hrow2
                rw [← unhide HS] at hAbv2
                have HA2 := hide hAbv2
                obtain ⟨nz, hnz⟩ : ∃ nz, nz = l2.length := ⟨_, rfl⟩
                rw [← hnz] at hl2 ⊢
                have HNZ := hide hnz
                clear hrow2 hAbv2 hnz hU7 hU9
                go_wp2_with fail
                go_loopw [11] (fun jv wr4 => ∃ j : Nat, jv = .int .i64 j ∧ j ≤ nz ∧ Below w8.heap.size w8 wr4) (fun jv _ => nz - (intOf jv).toNat)
                case atStart => exact ⟨0, by go_num, Nat.zero_le _, Below.refl _ _⟩
                case round =>
                  rename World => wr4
                  obtain ⟨j4, rfl, hj4, hb4⟩ := hrel
                  have b14 := b18.trans (hb4.mono b18.size)
                  by_cases hjz : j4 < nz
                  · have q3 : (j4 : Int) < (nz : Int) := by omega
                    have q4 : (0 : Int) ≤ (j4 : Int) := by omega
                    have HJ4 := hide (show j4 < l2.length by rw [← unhide HNZ]; exact hjz)
                    obtain ⟨zb, zoff, rfl, hzb, hzc⟩ := rowG_at (unhide HR2) hb4 (unhide HJ4)
                    have Z : AtE2 wr4 zb (zoff + j4 * 2) (l2[j4]'(unhide HJ4)) := AtE2.of hzc
                    have HWZ := hide (show Way S ⟨x.t, x.i⟩ (l2[j4]'(unhide HJ4)) from by
                      obtain ⟨f, hf, hw⟩ := ((unhide HA2).2 _).1 (List.getElem_mem (unhide HJ4))
                      exact (Way.step (unhide HWUY) hf).trans hw)
                    obtain ⟨v, hv⟩ : ∃ v, v = l2[j4]'(unhide HJ4) := ⟨_, rfl⟩
                    rw [← hv] at Z HWZ
                    clear hv hzc
                    obtain ⟨v0, v1⟩ := Z.up
                    have hUr := (hb4.block U (Array.getElem?_eq_some_iff.1 hU8).1).trans hU8
                    have u0 := cell_regrown (show wr4.cell? ⟨U, 0, none⟩ = some (.string x.t) by rw [Lib.cell_of_heap hUr]; rfl)
                    have u1 := cell_regrown (show wr4.cell? ⟨U, 1, none⟩ = some (.string x.i) by rw [Lib.cell_of_heap hUr]; rfl)
                    have i9 := fun d os => Calls.regrown_of (w := wr4) (d := d) (os := os) ((unhide HG).below (b14.trans ((below_regrown wr4 d os).mono b14.size)) |>.in9S (unhide HS) (unhide HWB) gcap ⟨x.t, x.i⟩ v)
                    rw [(unhide HWB _ _).2 (unhide HWZ)] at i9
                    unfold U2.val at i9
                    clear Z hUr
                    go_wp2_with fail
                    refine wp_region_quiet_below (by kernel_rfl) (by kernel_rfl) ?_
                    repeat (first | go_big_quiet_step (fail) | quiet_step (fail))
                    quiet_step (exact i9 _ _)
                    repeat (first | go_big_quiet_step (fail) | quiet_step (fail))
                    refine wpQuiet_nil ?_
                    intro _ hw'
                    obtain ⟨⟨dq, osq⟩, hw''⟩ := hw'
                    subst hw''
                    have b9 := hb4.trans ((below_regrown wr4 dq osq).mono hb4.size)
                    generalize grow (redrawn wr4 dq) osq = w9 at *
                    clear v0 v1 u0 u1 i9
                    go_wp2
                    go_roundw
                    case rel => exact ⟨j4 + 1, by go_num, by omega, b9⟩
                    case measure =>
                      simp only [intOf]
                      omega
                  · have q3 : ¬ (j4 : Int) < (nz : Int) := by omega
                    go_wp2
                    go_roundw
                    case rel => exact ⟨k + 1, by go_num, by omega, hb2.trans ((b78.trans (hb4.mono b78.size)).mono hb2.size)⟩
                    case measure =>
                      simp only [intOf]
                      omega
        · have k1 : ¬ (k : Int) < (nx : Int) := by omega
          go_wp2_with fail
          go_loopw [12] (fun jv wr3 => ∃ j : Nat, jv = .int .i64 j ∧ j ≤ x.pl ∧ Below wr2.heap.size wr2 wr3) (fun jv _ => x.pl - (intOf jv).toNat)
          case atStart => exact ⟨0, by go_num, Nat.zero_le _, Below.refl _ _⟩
          case round =>
            rename World => wr3
            obtain ⟨j, rfl, hj, hb3⟩ := hrel
            have b13 := b12.trans (hb3.mono b12.size)
            have f2 := (hb3.cell (p := ⟨b, off + i * 4 + 2, none⟩) hlow).trans a2
            by_cases hjp : j < x.pl
            · have q2 : (j : Int) < (x.pl : Int) := by omega
              have q0 : (0 : Int) ≤ (j : Int) := by omega
              have HJ := hide (show j < pl.length by rw [← unhide HPL]; exact hjp)
              obtain ⟨pb, poff, epo, hpb, hpc⟩ := rowG_at (unhide HPR) b13 (unhide HJ)
              have P : AtE2 wr3 pb (poff + j * 2) (pl[j]'(unhide HJ)) := AtE2.of hpc
              have HWF := hide (show Way S ⟨x.t, x.i⟩ (pl[j]'(unhide HJ)) from Way.step (Way.here _) (by rw [← unhide HPS]; exact List.getElem_mem _))
              obtain ⟨f, hf⟩ : ∃ f, f = pl[j]'(unhide HJ) := ⟨_, rfl⟩
              rw [← hf] at P HWF
              clear hf hpc
              rw [epo] at f2
              obtain ⟨h0, h1⟩ := P.up
              have g2 := cell_regrown f2
              have hUr := (hb3.block U (Array.getElem?_eq_some_iff.1 cU).1).trans cU
              have u0 := cell_regrown (show wr3.cell? ⟨U, 0, none⟩ = some (.string x.t) by rw [Lib.cell_of_heap hUr]; rfl)
              have u1 := cell_regrown (show wr3.cell? ⟨U, 1, none⟩ = some (.string x.i) by rw [Lib.cell_of_heap hUr]; rfl)
              have i9 := fun d os => Calls.regrown_of (w := wr3) (d := d) (os := os) ((unhide HG).below (b13.trans ((below_regrown wr3 d os).mono b13.size)) |>.in9S (unhide HS) (unhide HWB) gcap ⟨x.t, x.i⟩ f)
              rw [(unhide HWB _ _).2 (unhide HWF)] at i9
              unfold U2.val at i9
              clear P epo hUr a2
              go_wp2_with fail
              refine wp_region_quiet_below (by kernel_rfl) (by kernel_rfl) ?_
              repeat (first | go_big_quiet_step (fail) | quiet_step (fail))
              quiet_step (exact i9 _ _)
              repeat (first | go_big_quiet_step (fail) | quiet_step (fail))
              refine wpQuiet_nil ?_
              intro _ hw'
              obtain ⟨⟨dq, osq⟩, hw''⟩ := hw'
              subst hw''
              have b7 := hb3.trans ((below_regrown wr3 dq osq).mono hb3.size)
              generalize grow (redrawn wr3 dq) osq = w7 at *
              clear g2 h0 h1 u0 u1 i9 f2
              go_wp2
              go_roundw
              case rel => exact ⟨j + 1, by go_num, by omega, b7⟩
              case measure =>
                simp only [intOf]
                omega
            · have q2 : ¬ (j : Int) < (x.pl : Int) := by omega
              clear a2 cU
              go_wp2
              go_roundw
              case rel => exact ⟨i + 1, by go_num, by omega, b13⟩
              case measure =>
                simp only [intOf]
                omega
    · have i1 : ¬ (i : Int) < (gs.length : Int) := by omega
      go_wp2
      go_ret
      exact ⟨rfl, b1.trans (hbw.mono b1.size)⟩
end Go.Proofs.Ytglnlekcpacfiaa
