/-
  chancellaw9.AboveBelow: the walk.
-/
import Derived.Test.YtglnlekcpacfiaaMqKW
import Derived.Test.YtglnlekcpacfiaaMpHL
import Derived.Test.YtglnlekcpacfiaaMpMN
import Derived.Test.YtglnlekcpacfiaaGdG
import Derived.Test.YtglnlekcpacfiaaElAO
namespace Go.Proofs.Ytglnlekcpacfiaa
open Go.RowKit Go.Sort

theorem within9_any (a n : Int) (hn : 0 < n) (hn1 : n ≤ 4294967296) (w : World) :
    Calls Try.prog 21 #[.int .i64 a, .int .i64 n] w fun e w' => e = .returned (.int .i64 (a % n)) ∧ w' = w := by
  go_enter Try.func21, Try.ntmps21
  go_wp2
  · go_ret
    exact ⟨ret_int5 (tmod_neg a n hn hn1 (by assumption)), rfl⟩
  · go_ret
    exact ⟨ret_int5 (tmod_pos a n hn (by assumption)), rfl⟩
theorem goods_ps (L : List EntR) : ∀ p ∈ goodsL L, p.ps.length ≤ 3 := fun p hp => by
  unfold goodsL aOf at hp
  rcases (mem_fold _ [] p).1 hp with ⟨l, r, e, _⟩ | ⟨h, _⟩
  · have : p ∈ (L.take 12).map goodE := by rw [e]; simp
    obtain ⟨x, _, rfl⟩ := List.mem_map.1 this
    have h1 := lenG_setOf_le (lt := lessU) (entP x).ps
    have h2 : (entP x).ps.length ≤ 3 := by
      show ((x.ps.take 3).map parE).length ≤ 3
      rw [List.length_map, List.length_take]
      omega
    show (setOf lessU (entP x).ps).length ≤ 3
    omega
  · cases h
/-- Good entities, as this law has them. -/
structure GL (ps : List EntP) : Prop where
  nd : (ps.map EntP.u).Nodup
  len : ps.length ≤ 12
  ps : ∀ p ∈ ps, p.ps.length ≤ 3
theorem gl_goods (L : List EntR) : GL (goodsL L) := ⟨rising_nodup (goodsL_rising L), goodsL_len L, goods_ps L⟩
theorem GL.ps1000 {ps : List EntP} (h : GL ps) : ∀ p ∈ ps, p.ps.length ≤ 1000 := fun p hp => by have := h.ps p hp; omega
theorem GL.down {ps : List EntP} (h : GL ps) (y : U2) : (downS (pairsP ps) y).length ≤ 1000 := by
  have h1 := downS_len 3 y (pairsP ps) (fun _ => []) fun q hq => by
    obtain ⟨p, hp, rfl⟩ := List.mem_map.1 hq
    exact h.ps p hp
  have h2 := h.len
  have h3 : (pairsP ps).length = ps.length := by unfold pairsP; rw [List.length_map]
  unfold downS
  simp only [List.length_nil] at h1
  omega
/-- All who are a parent. -/
def parsP (ps : List EntP) : List U2 := ps.flatMap EntP.ps
theorem GL.up {ps : List EntP} (h : GL ps) : ∀ x, ∀ v ∈ upS ps x, v ∈ parsP ps := fun x v hv => by
  obtain ⟨p, hp, _, hm⟩ := (mem_upS h.nd x v).1 hv
  exact List.mem_flatMap.2 ⟨p, hp, hm⟩
theorem flat_len3 : ∀ (ps : List EntP), (∀ p ∈ ps, p.ps.length ≤ 3) → (parsP ps).length ≤ ps.length * 3
  | [], _ => Nat.le_refl _
  | p :: ps, h => by
    have h1 := h p List.mem_cons_self
    have h2 := flat_len3 ps fun q hq => h q (List.mem_cons_of_mem _ hq)
    unfold parsP at h2 ⊢
    rw [List.flatMap_cons, List.length_append, List.length_cons]
    omega
theorem GL.pars {ps : List EntP} (h : GL ps) : (parsP ps).length ≤ 99999 := by
  have := flat_len3 ps h.ps
  have := h.len
  omega
/-- Who stands in what Below tells. -/
theorem GL.mem_bel {ps : List EntP} (h : GL ps) {es : List E4} {u : U2} {m : List U2} (hI : ReachI (downS (pairsP ps)) [u] (m, [])) (i : Nat) (hi : i < es.length) : e4uM es[i] ∈ belP u m es ↔ e4uM es[i] ≠ u ∧ Way (upS ps) (e4uM es[i]) u := by
  unfold belP
  rw [List.mem_filter, Bool.and_eq_true, decide_eq_true_eq, decide_eq_true_eq, reachI_end hI]
  have e1 : (∃ f ∈ [u], Way (downS (pairsP ps)) f (e4uM es[i])) ↔ Way (upS ps) (e4uM es[i]) u := by
    rw [← way_down h.nd]
    simp
  rw [e1]
  exact ⟨fun h => h.2, fun h => ⟨List.mem_map_of_mem (List.getElem_mem hi), h⟩⟩
theorem take_mem {l : List U2} {x : U2} (k : Nat) (h : k < l.length) : decide (x ∈ l.take (k + 1)) = (decide (x ∈ l.take k) || decide (l[k] = x)) := by
  rw [List.take_succ_eq_append_getElem h, Bool.eq_iff_iff, Bool.or_eq_true, decide_eq_true_eq, decide_eq_true_eq, decide_eq_true_eq, List.mem_append, List.mem_singleton]
  exact ⟨fun h => h.imp id Eq.symm, fun h => h.imp id Eq.symm⟩

set_option maxHeartbeats 16000000 in
set_option maxRecDepth 1000000 in
theorem abelow_walk (lo : Option Addr) (rs : List EntR) (lc : Nat) (n : Int) (w : World) (hl : rs.length ≤ 9223372036854775807) (hr : RowEnt w lo rs) :
    Calls Try.prog 5 #[.slice lo rs.length lc, .int .i64 n] w fun e w' => e = .returned (.bool true) ∧ Below w.heap.size w w' := by
  have HR := hide hr
  clear hr
  go_enter Try.func5, Try.ntmps5
  go_wp2_with fail
  refine (known9_any w).mono ?_
  rintro _ w0 ⟨rfl, b0⟩
  have G := good8_any lo rs lc w0 hl ((unhide HR).below b0)
  have HG := hide (gl_goods rs)
  generalize goodsL rs = ps at *
  go_wp2_with fail
  refine G.mono ?_
  clear G
  rintro _ w1 ⟨b01, go, gcap, gs, rfl, hgr, hgA, hgc, hgn⟩
  have b1 := b0.trans (b01.mono b0.size)
  have hgl : gs.length ≤ 12 := by have := (unhide HG).len; rw [hgA.1]; exact this
  have HGR := hide hgr
  have HGA := hide hgA
  clear hgr hgA hgn b01 b0 hgc
  by_cases h0 : gs.length = 0
  · have z0 : ((gs.length : Int) == 0) = true := by rw [h0]; rfl
    clear h0
    go_wp2
    go_ret
    exact ⟨rfl, b1⟩
  · have z0 : ((gs.length : Int) == 0) = false := by simpa using h0
    have W := within9_any n gs.length (by omega) (by omega) w1
    obtain ⟨i0, hi0, hlt⟩ : ∃ i0 : Nat, n % (gs.length : Int) = i0 ∧ i0 < gs.length := by
      have h1 := Int.emod_nonneg n (b := (gs.length : Int)) (by omega)
      have h2 := Int.emod_lt_of_pos n (b := (gs.length : Int)) (by omega)
      exact ⟨(n % (gs.length : Int)).toNat, by omega, by omega⟩
    rw [hi0] at W
    clear hi0 h0
    have k0 : (0 : Int) ≤ (i0 : Int) := by omega
    have k1 : (i0 : Int) < (gs.length : Int) := by omega
    obtain ⟨b, off, rfl, hb, hcx⟩ := rowG_at (unhide HGR) (Below.refl _ _) hlt
    have A : AtE4 w1 b (off + i0 * 4) gs[i0] := AtE4.of hcx
    obtain ⟨x, hx⟩ : ∃ x, x = gs[i0] := ⟨_, rfl⟩
    rw [← hx] at A
    obtain ⟨a0, a1, a2, a3⟩ := A
    clear hx hcx a2 a3
    go_wp2_with fail
    refine W.mono ?_
    clear W z0
    rintro _ w1' ⟨rfl, hw1⟩
    rw [hw1]
    clear hw1
    have b2 := belowA w1 (.cells #[.string x.t, .string x.i] 28)
    have hU2 := heap_alloc_new w1 (.cells #[.string x.t, .string x.i] 28)
    have b02 := b1.trans (b2.mono b1.size)
    have BL := below_any gs (pairsP ps) (some ⟨b, off, none⟩) gcap (e4uM x) _ (by omega) ((unhide HGR).below b2) ((down_all (unhide HGA) (unhide HG).ps1000).below b2) (unhide HG).down
    have HGR2 := hide ((unhide HGR).below b2)
    have HGA2 := hide ((unhide HGA).below b2)
    clear HGR HGA
    unfold U2.val e4uM at BL
    simp only at BL
    go_upto_region 7 with fail
    clear a0 a1 k0 k1 b2
    generalize w1.heap.size = U at *
    generalize w1.alloc _ = w2 at *
    have d0 : w2.cell? ⟨U, 0, none⟩ = some (.string x.t) := by rw [Lib.cell_of_heap hU2]; rfl
    have d1 : w2.cell? ⟨U, 1, none⟩ = some (.string x.i) := by rw [Lib.cell_of_heap hU2]; rfl
    go_wp2_with fail
    refine BL.mono ?_
    clear BL d0 d1
    rintro _ w3 ⟨b3, v, m, rfl, hI, hown⟩
    have b03 := b02.trans (b3.mono b02.size)
    have hU3 := (b3.block U (Array.getElem?_eq_some_iff.1 hU2).1).trans hU2
    have HGR3 := hide ((unhide HGR2).below b3)
    have HGA3 := hide ((unhide HGA2).below b3)
    clear HGR2 HGA2 hU2 b3
    obtain ⟨xo, xc, hv, hrow, _, _⟩ := rowG_ownM (n := 2) (l := (belP ⟨x.t, x.i⟩ m gs).map U2.cells) (fun c hc => by
      obtain ⟨x, _, rfl⟩ := List.mem_map.1 hc
      rfl) (by simpa using hown)
    rw [List.length_map] at hv
    subst hv
    have hmem : ∀ (i : Nat) (hi : i < gs.length), e4uM gs[i] ∈ belP ⟨x.t, x.i⟩ m gs ↔ e4uM gs[i] ≠ ⟨x.t, x.i⟩ ∧ Way (upS ps) (e4uM gs[i]) ⟨x.t, x.i⟩ := fun i hi => (unhide HG).mem_bel (es := gs) (u := ⟨x.t, x.i⟩) hI i hi
    have hxl : (belP ⟨x.t, x.i⟩ m gs).length ≤ 12 := Nat.le_trans (List.length_filter_le _ _) (by rw [List.length_map]; exact hgl)
    generalize belP ⟨x.t, x.i⟩ m gs = xl at *
    have HMEM' := hide hmem
    have HROW := hide hrow
    clear hmem hrow hown hI
    go_wp2_with fail
    go_loopw [8, 9, 10] (fun iv _ _ wr => ∃ i : Nat, iv = .int .i64 i ∧ i ≤ gs.length ∧ Below w3.heap.size w3 wr) (fun iv _ _ _ => gs.length - (intOf iv).toNat)
    case atStart => exact ⟨0, by go_num, Nat.zero_le _, Below.refl _ _⟩
    case round =>
      obtain ⟨i, rfl, hi, hbw⟩ := hrel
      have k0 : (0 : Int) ≤ (i : Int) := by omega
      by_cases hlt2 : i < gs.length
      · have i1 : (i : Int) < (gs.length : Int) := by omega
        obtain ⟨gb, goff, egs, hgb, hgc⟩ := rowG_at (unhide HGR3) hbw hlt2
        cases egs
        have A : AtE4 wr b (off + i * 4) gs[i] := AtE4.of hgc
        have HMi := hide (unhide HMEM' i hlt2)
        obtain ⟨y, hy⟩ : ∃ y, y = gs[i] := ⟨_, rfl⟩
        rw [← hy] at A HMi
        clear hy hgc
        obtain ⟨a0, a1, a2, a3⟩ := A
        clear a2 a3
        have cU : wr.heap[U]? = some (.cells #[.string x.t, .string x.i] 28 (0, 0)) := (hbw.block U (Array.getElem?_eq_some_iff.1 hU3).1).trans hU3
        have u0 : wr.cell? ⟨U, 0, none⟩ = some (.string x.t) := by rw [Lib.cell_of_heap cU]; rfl
        have u1 : wr.cell? ⟨U, 1, none⟩ = some (.string x.i) := by rw [Lib.cell_of_heap cU]; rfl
        obtain ⟨nx, hnx⟩ : ∃ nx, nx = xl.length := ⟨_, rfl⟩
        rw [← hnx] at hxl ⊢
        have HNX := hide hnx
        clear hnx cU
        go_wp2_with fail
        go_loopw [9, 10] (fun bv kv wr2 => ∃ k : Nat, kv = .int .i64 k ∧ k ≤ nx ∧ bv = .bool (decide ((⟨y.t, y.i⟩ : U2) ∈ xl.take k)) ∧ Below wr.heap.size wr wr2) (fun _ kv _ => nx - (intOf kv).toNat)
        case atStart => exact ⟨0, by go_num, Nat.zero_le _, by simp, Below.refl _ _⟩
        case round =>
          rename World => wr2
          obtain ⟨k, rfl, hk, rfl, hbk⟩ := hrel
          have q0 : (0 : Int) ≤ (k : Int) := by omega
          by_cases hlk : k < nx
          · have q1 : (k : Int) < (nx : Int) := by omega
            have HK := hide (show k < xl.length by rw [← unhide HNX]; exact hlk)
            obtain ⟨xb, xoff, rfl, hxb, hxc⟩ := rowG_at (unhide HROW) (hbw.trans (hbk.mono hbw.size)) (unhide HK)
            have B : AtE2 wr2 xb (xoff + k * 2) (xl[k]'(unhide HK)) := AtE2.of hxc
            have HT := hide (take_mem (l := xl) (x := ⟨y.t, y.i⟩) k (unhide HK))
            obtain ⟨e, he⟩ : ∃ e, e = xl[k]'(unhide HK) := ⟨_, rfl⟩
            rw [← he] at B HT
            clear he hxc
            obtain ⟨v0, v1⟩ := B.up
            have g0 := cell_regrown ((hbk.cell (p := ⟨b, off + i * 4, none⟩) (by show b < _; have := hbw.size; omega)).trans a0)
            have g1 := cell_regrown ((hbk.cell (p := ⟨b, off + i * 4 + 1, none⟩) (by show b < _; have := hbw.size; omega)).trans a1)
            have NQ := binEqlUid e ⟨y.t, y.i⟩
            obtain ⟨z1, hz1⟩ : ∃ z, z = decide (e = ⟨y.t, y.i⟩) := ⟨_, rfl⟩
            obtain ⟨z2, hz2⟩ : ∃ z, z = decide ((⟨y.t, y.i⟩ : U2) ∈ xl.take k) := ⟨_, rfl⟩
            have HT2 := hide (show decide ((⟨y.t, y.i⟩ : U2) ∈ xl.take (k + 1)) = (z2 || z1) by rw [unhide HT, hz1, hz2])
            rw [← hz2]
            rw [← hz1] at NQ
            simp only at NQ
            clear hz1 hz2 HT B a0 a1 u0 u1
            cases z2
            · go_wp2_with fail
              refine wp_region_quiet_below (by kernel_rfl) (by kernel_rfl) ?_
              repeat (first | go_big_quiet_step (fail) | quiet_step (fail))
              refine wpQuiet_nil ?_
              intro _ hw'
              obtain ⟨⟨dq, osq⟩, hw''⟩ := hw'
              subst hw''
              have b7 := hbk.trans ((below_regrown wr2 dq osq).mono hbk.size)
              generalize grow (redrawn wr2 dq) osq = w7 at *
              clear v0 v1 g0 g1 NQ
              go_wp2
              go_roundw
              case rel => exact ⟨k + 1, by go_num, by omega, by rw [unhide HT2]; rfl, b7⟩
              case measure =>
                simp only [intOf]
                omega
            · go_wp2_with fail
              refine wp_region_quiet_below (by kernel_rfl) (by kernel_rfl) ?_
              repeat (first | go_big_quiet_step (fail) | quiet_step (fail))
              refine wpQuiet_nil ?_
              intro _ hw'
              obtain ⟨⟨dq, osq⟩, hw''⟩ := hw'
              subst hw''
              have b7 := hbk.trans ((below_regrown wr2 dq osq).mono hbk.size)
              generalize grow (redrawn wr2 dq) osq = w7 at *
              clear v0 v1 g0 g1 NQ
              go_wp2
              go_roundw
              case rel => exact ⟨k + 1, by go_num, by omega, by rw [unhide HT2]; rfl, b7⟩
              case measure =>
                simp only [intOf]
                omega
          · have q1 : ¬ (k : Int) < (nx : Int) := by omega
            have HAll := hide (show decide ((⟨y.t, y.i⟩ : U2) ∈ xl.take k) = decide ((⟨y.t, y.i⟩ : U2) ∈ xl) by rw [List.take_of_length_le (by rw [← unhide HNX]; omega)])
            rw [unhide HAll]
            have g0 := cell_regrown ((hbk.cell (p := ⟨b, off + i * 4, none⟩) (by show b < _; have := hbw.size; omega)).trans a0)
            have g1 := cell_regrown ((hbk.cell (p := ⟨b, off + i * 4 + 1, none⟩) (by show b < _; have := hbw.size; omega)).trans a1)
            have hUw : U < wr.heap.size := Nat.lt_of_lt_of_le (Array.getElem?_eq_some_iff.1 hU3).1 hbw.size
            have g2 := cell_regrown ((hbk.cell (p := ⟨U, 0, none⟩) hUw).trans u0)
            have g3 := cell_regrown ((hbk.cell (p := ⟨U, 1, none⟩) hUw).trans u1)
            have NQ := binNeqUid ⟨y.t, y.i⟩ ⟨x.t, x.i⟩
            simp only at NQ
            have b3k := hbw.trans (hbk.mono hbw.size)
            clear a0 a1 u0 u1
            by_cases heq : (⟨y.t, y.i⟩ : U2) = ⟨x.t, x.i⟩
            · have hno : ¬ (⟨y.t, y.i⟩ : U2) ∈ xl := fun h => ((unhide HMi).1 h).1 heq
              rw [decide_eq_false hno]
              rw [decide_eq_true heq, Bool.not_true] at NQ
              clear heq hno
              go_wp2_with fail
              refine wp_region_quiet_below (by kernel_rfl) (by kernel_rfl) ?_
              repeat (first | go_big_quiet_step (fail) | quiet_step (fail))
              refine wpQuiet_nil ?_
              intro _ hw'
              obtain ⟨⟨dq, osq⟩, hw''⟩ := hw'
              subst hw''
              have b7 := b3k.trans ((below_regrown wr2 dq osq).mono b3k.size)
              generalize grow (redrawn wr2 dq) osq = w7 at *
              clear g0 g1 g2 g3 NQ
              go_wp2
              go_roundw
              case rel => exact ⟨i + 1, by go_num, by omega, b7⟩
              case measure =>
                simp only [intOf]
                omega
            · rw [decide_eq_false heq, Bool.not_false] at NQ
              obtain ⟨z, hz⟩ : ∃ z, z = decide ((⟨y.t, y.i⟩ : U2) ∈ xl) := ⟨_, rfl⟩
              rw [← hz]
              have IN : ∀ w', Below w3.heap.size w3 w' → Calls Try.prog 12 #[.slice (some ⟨b, off, none⟩) gs.length gcap, .agg #[.string y.t, .string y.i], .agg #[.string x.t, .string x.i]] w' fun e w'' => e = .returned (.bool z) ∧ Below w'.heap.size w' w'' := fun w' hb => by
                refine (in_any (upS ps) gs (some ⟨b, off, none⟩) gcap ⟨y.t, y.i⟩ ⟨x.t, x.i⟩ (parsP ps) w' (by omega) ((unhide HGR3).below hb) ((steps_up (unhide HGA3) (unhide HG).nd (unhide HG).ps1000).below hb) (unhide HG).up (unhide HG).pars).mono ?_
                rintro e w'' ⟨hb2, z', he, hz'⟩
                have : z' = z := by
                  rw [hz, Bool.eq_iff_iff, hz', decide_eq_true_eq]
                  exact ⟨fun h => (unhide HMi).2 ⟨heq, h⟩, fun h => ((unhide HMi).1 h).2⟩
                rw [← this]
                exact ⟨he, hb2⟩
              have i9 := fun d os => Calls.regrown_of (w := wr2) (d := d) (os := os) (IN (grow (redrawn wr2 d) os) (b3k.trans ((below_regrown wr2 d os).mono b3k.size)))
              clear IN hz heq
              cases z
              all_goals
                go_wp2_with fail
                refine wp_region_quiet_below (by kernel_rfl) (by kernel_rfl) ?_
                repeat (first | go_big_quiet_step (fail) | quiet_step (fail))
                quiet_step (exact i9 _ _)
                repeat (first | go_big_quiet_step (fail) | quiet_step (fail))
                refine wpQuiet_nil ?_
                intro _ hw'
                obtain ⟨⟨dq, osq⟩, hw''⟩ := hw'
                subst hw''
                have b7 := b3k.trans ((below_regrown wr2 dq osq).mono b3k.size)
                generalize grow (redrawn wr2 dq) osq = w7 at *
                clear g0 g1 g2 g3 NQ i9
                go_wp2
                go_roundw
                case rel => exact ⟨i + 1, by go_num, by omega, b7⟩
                case measure =>
                  simp only [intOf]
                  omega
      · have i1 : ¬ (i : Int) < (gs.length : Int) := by omega
        go_wp2
        go_ret
        exact ⟨rfl, b03.trans (hbw.mono b03.size)⟩
end Go.Proofs.Ytglnlekcpacfiaa
