/-
  chancellaw14.DecideScopes: the walk.
-/
import Derived.Test.YtldmfdkmkjiabaaGreatDcKQ
import Derived.Test.YtldmfdkmkjiabaaGreatGEU
import Derived.Test.YtldmfdkmkjiabaaGreatRpCD
namespace Go.Proofs.YtldmfdkmkjiabaaGreat
open Go.RowKit Go.Sort

def ixN (a : Int) (n : Nat) : Nat := (a % (n : Int)).toNat
theorem within14_ix (a : Int) (n : Nat) (hn : 0 < n) (hn1 : n ≤ 4294967296) (w : World) :
    Calls Tryz.prog 9 #[.int .i64 a, .int .i64 n] w fun e w' => (ixN a n < n ∧ e = .returned (.int .i64 (ixN a n))) ∧ w' = w := by
  refine (within14_any a n (by omega) (by omega) w).mono ?_
  rintro e w' ⟨rfl, rfl⟩
  have h1 := Int.emod_nonneg a (b := (n : Int)) (by omega)
  have h2 := Int.emod_lt_of_pos a (b := (n : Int)) (by omega)
  have h3 : ((ixN a n : Nat) : Int) = a % (n : Int) := by unfold ixN; omega
  exact ⟨⟨by omega, by rw [h3]⟩, rfl⟩
theorem upS_len (L : List EntR) (x : U2) : (upS (goodsL L) x).length ≤ 100000 := by
  unfold upS
  cases h : findP (goodsL L) x with
  | none => exact Nat.zero_le _
  | some p =>
    have h1 := goods_psE L p (find_is h).1
    show p.ps.length ≤ 100000
    omega
theorem r9in_goods {w : World} {L : List EntR} {go : Option Addr} {gs : List E4} (hr : RowG w go 4 (gs.map E4.cells)) (ha : AllEnt w (fun _ => True) gs (goodsL L)) {f : U2 → U2 → Bool} (hw : ∀ u x, f u x = true ↔ Way (upS (goodsL L)) u x) (c : Nat) (u x : U2) :
    Calls Tryz.prog 12 #[.slice go gs.length c, .agg #[.string u.t, .string u.i], .agg #[.string x.t, .string x.i]] w fun e w' => e = .returned (.bool (f u x)) ∧ Below w.heap.size w w' := by
  have hnd := rising_nodup (goodsL_rising L)
  have h3 := goods_psE L
  have hlen := goodsL_len L
  have hfl := flat_lenE _ h3
  refine (r9in_any gs (goodsL L) go c u x (parsE (goodsL L)) w (by have h1 := ha.1; omega) hr ha (fun y v hv => by
    obtain ⟨p, hp, _, hm⟩ := (mem_upS hnd y v).1 hv
    exact List.mem_flatMap.2 ⟨p, hp, hm⟩) (by omega) (upS_len L)).mono ?_
  rintro e w'' ⟨hb2, z, rfl, hz⟩
  refine ⟨?_, hb2⟩
  have : z = f u x := by
    have := hw u x
    cases z <;> cases hfx : f u x <;> simp_all
  rw [this]
/-- The last statement of a block, as one that something follows (for go_cut). -/
theorem wp_unblock {P : Program} {s : Code} {K : Act → World → Prop} {Q' : Exit → Act → World → Prop} {id : Nat} {a : Act} {w : World} (h : ∀ K2 : Act → World → Prop, K2 = K → s.wp P (Exit.then K2 (Exit.inBlock id (Exit.then K Q'))) a w) : s.wp P (Exit.inBlock id (Exit.then K Q')) a w :=
  wp_mono (h K rfl) fun e _ _ q => by cases e <;> exact q
def polS (s1 s2 s3 : ScD) : PolD := ⟨false, s1, s2, s3, []⟩
def kOf (b : Bool) : Int := if b then 2 else 1
theorem dcOne_nil (D : EvD) (p : PolD) (h : p.cs = []) : dcOne D p = .inl (scsC D p) := by
  unfold dcOne
  rw [h]
  cases scsC D p <;> rfl
theorem inSc_is (p a r is u : U2) (ps : List EntP) (f : U2 → U2 → Bool) (k : Int) : (k = 1 → inSc ⟨p, a, r, ps, f⟩ is ⟨k, u⟩ = decide (is = u)) ∧ (k = 2 → inSc ⟨p, a, r, ps, f⟩ is ⟨k, u⟩ = f is u) :=
  ⟨fun h => by subst h; rfl, fun h => by subst h; rfl⟩

set_option maxHeartbeats 16000000 in
set_option maxRecDepth 1000000 in
theorem dscopes_walk (lo : Option Addr) (rs : List EntR) (lc : Nat) (so : Option Addr) (xs : List Int) (sc : Nat) (which n : Int) (inn : Bool) (w : World) (hl : rs.length ≤ 9223372036854775807) (hr : RowEnt w lo rs) (hz : IntsAt w so xs) (hf : FitL w) :
    Calls Tryz.prog 3 #[.slice lo rs.length lc, .slice so xs.length sc, .int .i64 which, .int .i64 n, .bool inn] w fun e w' => e = .returned (.bool true) ∧ Below w.heap.size w w' := by
  have HR := hide hr
  have HZ := hide hz
  clear hr hz
  obtain ⟨m, hm⟩ : ∃ m : Nat, (m : Int) = which % 3 := ⟨(which % 3).toNat, by omega⟩
  have CM := fun w' => within14_any which 3 (by decide) (by decide) w'
  rw [← hm] at CM
  have hm3 : m < 3 := by omega
  clear hm
  have UC5 := hide (fun (k : Int) w' => uid5_any k [] none 0 w' (by decide) (by decide) (fun j hj => absurd hj (Nat.not_lt_zero _)))
  have HCM := hide CM
  clear CM
  go_enter Tryz.func3, Tryz.ntmps3
  go_wp2_with fail
  refine (known14_any w hf).mono ?_
  rintro _ w0 ⟨rfl, b0⟩
  have G := good8_any lo rs lc w0 hl ((unhide HR).below b0)
  have HOK := hide (unhide HR).2
  obtain ⟨f, hfw⟩ := way_dec (upS (goodsL rs))
  have HEWG := hide (fun (wx : World) (go : Option Addr) (gs : List E4) (h1 : RowG wx go 4 (gs.map E4.cells)) (h2 : AllEnt wx (fun _ => True) gs (goodsL rs)) (h3 : FitL wx) (p a r : U2) => ew_goods (p := p) (a := a) (r := r) (unhide HOK) h1 h2 h3 hfw)
  have H9G := hide (fun (wx : World) (go : Option Addr) (gs : List E4) (h1 : RowG wx go 4 (gs.map E4.cells)) (h2 : AllEnt wx (fun _ => True) gs (goodsL rs)) (c : Nat) (u x : U2) => r9in_goods h1 h2 hfw c u x)
  have hps12 := goodsL_len rs
  generalize goodsL rs = ps at *
  clear HOK hfw
  go_wp2_with fail
  refine G.mono ?_
  clear G
  rintro _ w1 ⟨b01, go, gcap, gs, rfl, hgr, hgA, hgc, hgn⟩
  have b1 := b0.trans (b01.mono b0.size)
  have hgl : gs.length ≤ 12 := by rw [hgA.1]; exact hps12
  have HGR := hide hgr
  have HGA := hide hgA
  have HEW := hide (fun (wx : World) (hb : Below w1.heap.size w1 wx) (p a r : U2) => unhide HEWG wx go gs (hgr.below hb) (hgA.below hb) (hf.below (b1.trans (hb.mono b1.size))) p a r)
  have H9 := hide (fun (wx : World) (hb : Below w1.heap.size w1 wx) (c : Nat) (u x : U2) => unhide H9G wx go gs (hgr.below hb) (hgA.below hb) c u x)
  have HZ1 := hide ((unhide HZ).below b1)
  clear hgr hgA hgn b01 b0 hgc HEWG H9G hf HR HZ
  have CIX := fun (h0 : 0 < gs.length) (a : Int) w' => within14_ix a gs.length h0 (by omega) w'
  have HIX := hide CIX
  clear CIX
  -- the request
  have RQ := req13_any (.slice go gs.length gcap) so xs sc w1 (unhide HZ1)
  go_wp2_with fail
  refine RQ.mono ?_
  clear RQ HZ1
  rintro _ w2 ⟨b2, p, a, r, rfl⟩
  obtain ⟨R, hRd⟩ : ∃ R, R = w2.heap.size := ⟨_, rfl⟩
  have b3 := ev1 w2 (.cells #[.string p.t, .string p.i, .string a.t, .string a.i, .string r.t, .string r.i] 30)
  have h3 := alloc_heap w2 (.cells #[.string p.t, .string p.i, .string a.t, .string a.i, .string r.t, .string r.i] 30)
  have B3 := b2.trans (b3.mono b2.size)
  have hR1 : w1.heap.size ≤ R := by rw [hRd]; exact b2.size
  go_upto_region 5 with fail
  generalize w2.alloc _ = w3 at *
  rw [← hRd] at h3 ⊢
  clear hRd b2 b3
  go_upto_if 30 with fail
  go_cut [] from 20 (fun wc => ∃ p r : U2, Below w1.heap.size w1 wc ∧ wc.heap[R]? = some (.cells #[.string p.t, .string p.i, .string a.t, .string a.i, .string r.t, .string r.i] 30 (0, 0)))
  case first =>
    by_cases h0 : 0 < gs.length
    · have g0 : (0 : Int) < (gs.length : Int) := by omega
      have CI := unhide HIX h0
      clear h0
      have q0 : w3.cell? ⟨R, 0, none⟩ = some (.string p.t) := by rw [Lib.cell_of_heap h3]; rfl
      have q1 : w3.cell? ⟨R, 1, none⟩ = some (.string p.i) := by rw [Lib.cell_of_heap h3]; rfl
      have q2 : w3.cell? ⟨R, 2, none⟩ = some (.string a.t) := by rw [Lib.cell_of_heap h3]; rfl
      have q3 : w3.cell? ⟨R, 3, none⟩ = some (.string a.i) := by rw [Lib.cell_of_heap h3]; rfl
      have q4 : w3.cell? ⟨R, 4, none⟩ = some (.string r.t) := by rw [Lib.cell_of_heap h3]; rfl
      have q5 : w3.cell? ⟨R, 5, none⟩ = some (.string r.i) := by rw [Lib.cell_of_heap h3]; rfl
      have qf : ∀ o, w3.frozen? ⟨R, o, none⟩ = false := fun o => Lib.frozen_of_heap h3 o
      go_wp2_with fail
      refine (CI _ _).mono ?_
      rintro _ wx ⟨⟨hi0, rfl⟩, rfl⟩
      generalize hix : ixN _ gs.length = i0 at *
      obtain ⟨b, off, hgo, hb, hcx⟩ := rowG_at (unhide HGR) B3 hi0
      have A : AtE4 wx b (off + i0 * 4) gs[i0] := AtE4.of hcx
      obtain ⟨y, hy⟩ : ∃ y, y = gs[i0] := ⟨_, rfl⟩
      have Hy := hide hy
      rw [← hy] at A
      clear hy
      obtain ⟨a0, a1, a2, a3⟩ := A
      have k0 : (0 : Int) ≤ (i0 : Int) := by omega
      have k1 : (i0 : Int) < (gs.length : Int) := by omega
      clear hcx
      subst hgo
      have h4 := heap_setCell_same _ R 1 _ _ (.string y.i) (heap_setCell_same wx R 0 _ _ (.string y.t) h3)
      have B4 := (B3.setCell (p := ⟨R, 0, none⟩) hR1 (.string y.t)).setCell (p := ⟨R, 1, none⟩) hR1 (.string y.i)
      clear h3
      go_upto_region 7 with fail
      clear Hy q0 q1 q2 q3 q4 q5 qf a0 a1 a2 a3 k0 k1 hi0 hix
      generalize (wx.setCell _ _).setCell _ _ = w4 at *
      have h4 : w4.heap[R]? = some (.cells #[.string y.t, .string y.i, .string a.t, .string a.i, .string r.t, .string r.i] 30 (0, 0)) := h4
      have q0 : w4.cell? ⟨R, 0, none⟩ = some (.string y.t) := by rw [Lib.cell_of_heap h4]; rfl
      have q1 : w4.cell? ⟨R, 1, none⟩ = some (.string y.i) := by rw [Lib.cell_of_heap h4]; rfl
      have q2 : w4.cell? ⟨R, 2, none⟩ = some (.string a.t) := by rw [Lib.cell_of_heap h4]; rfl
      have q3 : w4.cell? ⟨R, 3, none⟩ = some (.string a.i) := by rw [Lib.cell_of_heap h4]; rfl
      have q4 : w4.cell? ⟨R, 4, none⟩ = some (.string r.t) := by rw [Lib.cell_of_heap h4]; rfl
      have q5 : w4.cell? ⟨R, 5, none⟩ = some (.string r.i) := by rw [Lib.cell_of_heap h4]; rfl
      have qf : ∀ o, w4.frozen? ⟨R, o, none⟩ = false := fun o => Lib.frozen_of_heap h4 o
      go_wp2_with fail
      refine (CI _ _).mono ?_
      rintro _ wx ⟨⟨hi0, rfl⟩, rfl⟩
      generalize hix : ixN _ gs.length = i0 at *
      obtain ⟨b, off, hgo, hb, hcx⟩ := rowG_at (unhide HGR) B4 hi0
      have A : AtE4 wx b (off + i0 * 4) gs[i0] := AtE4.of hcx
      obtain ⟨x, hx⟩ : ∃ x, x = gs[i0] := ⟨_, rfl⟩
      have Hx := hide hx
      rw [← hx] at A
      clear hx
      obtain ⟨a0, a1, a2, a3⟩ := A
      have k0 : (0 : Int) ≤ (i0 : Int) := by omega
      have k1 : (i0 : Int) < (gs.length : Int) := by omega
      clear hcx
      cases hgo
      have h5 := heap_setCell_same _ R 5 _ _ (.string x.i) (heap_setCell_same wx R 4 _ _ (.string x.t) h4)
      have HB5 := hide ((B4.setCell (p := ⟨R, 4, none⟩) hR1 (.string x.t)).setCell (p := ⟨R, 5, none⟩) hR1 (.string x.i))
      have H5 := hide h5
      clear h4 h5 B4
      go_wp2_with fail
      go_meet
      case rel => exact ⟨⟨y.t, y.i⟩, ⟨x.t, x.i⟩, unhide HB5, unhide H5⟩
    · have g0 : ¬ (0 : Int) < (gs.length : Int) := by omega
      go_wp2_with fail
      go_meet
      case rel => exact ⟨p, r, B3, h3⟩
  case rest =>
    rename World => wc
    clear h3 B3
    obtain ⟨p, r, B4, h4⟩ := hcut
    have U := unhide UC5 n wc
    simp only [List.length_nil] at U
    generalize ba (tyI5 n) = ut at *
    generalize ba (idt5 []) = ui at *
    go_wp2_with fail
    refine U.mono ?_
    clear U
    rintro _ w5 ⟨rfl, b5⟩
    have B5 := B4.trans (b5.mono B4.size)
    have h5 := kept_of_below b5 h4
    obtain ⟨Ub, hUd⟩ : ∃ Ub, Ub = w5.heap.size := ⟨_, rfl⟩
    have b6 := ev1 w5 (.cells #[.string ut, .string ui] 28)
    have u6 := alloc_heap w5 (.cells #[.string ut, .string ui] 28)
    have h6 := kept_of_below b6 h5
    have B6 := B5.trans (b6.mono B5.size)
    have hU1 : w1.heap.size ≤ Ub := by rw [hUd]; exact B5.size
    have hne : R ≠ Ub := by
      have := (Array.getElem?_eq_some_iff.1 h5).1
      omega
    go_upto_region 9 with fail
    generalize w5.alloc _ = w6 at *
    rw [← hUd] at u6 ⊢
    clear hUd b5 b6 h4 h5 B4 B5
    go_upto_if 54 with fail
    go_cut [] from 20 (fun wc => ∃ u : U2, Below w1.heap.size w1 wc ∧ wc.heap[R]? = some (.cells #[.string p.t, .string p.i, .string a.t, .string a.i, .string r.t, .string r.i] 30 (0, 0)) ∧ wc.heap[Ub]? = some (.cells #[.string u.t, .string u.i] 28 (0, 0)))
    case first =>
      by_cases h0 : 0 < gs.length
      · have g0 : (0 : Int) < (gs.length : Int) := by omega
        have CI := unhide HIX h0
        clear h0
        have q0 : w6.cell? ⟨Ub, 0, none⟩ = some (.string ut) := by rw [Lib.cell_of_heap u6]; rfl
        have q1 : w6.cell? ⟨Ub, 1, none⟩ = some (.string ui) := by rw [Lib.cell_of_heap u6]; rfl
        have qf : ∀ o, w6.frozen? ⟨Ub, o, none⟩ = false := fun o => Lib.frozen_of_heap u6 o
        go_wp2_with fail
        refine (CI _ _).mono ?_
        rintro _ wx ⟨⟨hi0, rfl⟩, rfl⟩
        generalize hix : ixN _ gs.length = i0 at *
        obtain ⟨b, off, hgo, hb, hcx⟩ := rowG_at (unhide HGR) B6 hi0
        have A : AtE4 wx b (off + i0 * 4) gs[i0] := AtE4.of hcx
        have hps0 : i0 < ps.length := by rw [← (unhide HGA).1]; exact hi0
        have HIS := hide ((unhide HGA).2 i0 hi0 hps0)
        obtain ⟨y, hy⟩ : ∃ y, y = gs[i0] := ⟨_, rfl⟩
        have Hy := hide hy
        rw [← hy] at A HIS
        clear hy
        obtain ⟨a0, a1, a2, a3⟩ := A
        have k0 : (0 : Int) ≤ (i0 : Int) := by omega
        have k1 : (i0 : Int) < (gs.length : Int) := by omega
        clear hcx
        subst hgo
        have u7 := heap_setCell_same _ Ub 1 _ _ (.string y.i) (heap_setCell_same wx Ub 0 _ _ (.string y.t) u6)
        have h7 : ((wx.setCell ⟨Ub, 0, none⟩ (.string y.t)).setCell ⟨Ub, 1, none⟩ (.string y.i)).heap[R]? = _ := ((Below.heap_setCell _ ⟨Ub, 1, none⟩ _ R hne).trans (Below.heap_setCell wx ⟨Ub, 0, none⟩ _ R hne)).trans h6
        have B7 := (B6.setCell (p := ⟨Ub, 0, none⟩) hU1 (.string y.t)).setCell (p := ⟨Ub, 1, none⟩) hU1 (.string y.i)
        clear u6 h6
        go_upto_region 11 with fail
        clear q0 q1 qf a0 a1 a2 a3
        generalize (wx.setCell _ _).setCell _ _ = w7 at *
        have u7 : w7.heap[Ub]? = some (.cells #[.string y.t, .string y.i] 28 (0, 0)) := u7
        go_wp2_with fail
        refine (CI _ _).mono ?_
        rintro _ wx ⟨⟨_, rfl⟩, rfl⟩
        obtain ⟨b', off', hgo, hb', hcx⟩ := rowG_at (unhide HGR) B7 hi0
        cases hgo
        have A : AtE4 wx b (off + i0 * 4) gs[i0] := AtE4.of hcx
        rw [← unhide Hy] at A
        obtain ⟨a0, a1, a2, a3⟩ := A
        rw [hix]
        have hpl := (unhide HIS).pl
        have HRU := hide (unhide HIS).rowU
        by_cases hp0 : y.pl = 0
        · rw [hp0] at a2
          go_wp2_with fail
          go_meet
          case rel => exact ⟨⟨y.t, y.i⟩, B7, h7, u7⟩
        · have p0 : (0 : Int) < (y.pl : Int) := by omega
          have p1 : 0 < y.pl := by omega
          obtain ⟨b2, off2, hpo, hb2, hc2⟩ := unhide HRU 0 (by rw [List.length_map]; omega)
          obtain ⟨v, hv⟩ : ∃ v : U2, v = (ps[i0]).ps[0]'(by omega) := ⟨_, rfl⟩
          have e0 := hc2 0 (.string v.t) (by rw [List.getElem_map, ← hv]; rfl)
          have e1 := hc2 1 (.string v.i) (by rw [List.getElem_map, ← hv]; rfl)
          have e0 := (B7.cell (p := ⟨b2, off2 + 0 * 2 + 0, none⟩) hb2).trans e0
          have e1 := (B7.cell (p := ⟨b2, off2 + 0 * 2 + 1, none⟩) hb2).trans e1
          rw [show off2 + 0 * 2 + 0 = off2 by omega] at e0
          rw [show off2 + 0 * 2 + 1 = off2 + 1 by omega] at e1
          rw [hpo] at a2
          clear hc2 hpo hv hpl HIS HRU hp0 hb2 hcx
          go_wp2_with fail
          · refine (CI _ _).mono ?_
            rintro _ wx ⟨⟨_, rfl⟩, rfl⟩
            rw [hix]
            have q0 : wx.cell? ⟨Ub, 0, none⟩ = some (.string y.t) := by rw [Lib.cell_of_heap u7]; rfl
            have q1 : wx.cell? ⟨Ub, 1, none⟩ = some (.string y.i) := by rw [Lib.cell_of_heap u7]; rfl
            have qf : ∀ o, wx.frozen? ⟨Ub, o, none⟩ = false := fun o => Lib.frozen_of_heap u7 o
            have HU8 := hide (heap_setCell_same _ Ub 1 _ _ (.string v.i) (heap_setCell_same wx Ub 0 _ _ (.string v.t) u7))
            have H8 := hide (((Below.heap_setCell _ ⟨Ub, 1, none⟩ (.string v.i) R hne).trans (Below.heap_setCell wx ⟨Ub, 0, none⟩ (.string v.t) R hne)).trans h7)
            have HB8 := hide ((B7.setCell (p := ⟨Ub, 0, none⟩) hU1 (.string v.t)).setCell (p := ⟨Ub, 1, none⟩) hU1 (.string v.i))
            clear u7 h7 B7
            go_wp2_with fail
            go_meet
            case rel => exact ⟨v, unhide HB8, unhide H8, unhide HU8⟩
          · go_meet
            case rel => exact ⟨⟨y.t, y.i⟩, B7, h7, u7⟩
      · have g0 : ¬ (0 : Int) < (gs.length : Int) := by omega
        go_wp2_with fail
        go_meet
        case rel => exact ⟨⟨ut, ui⟩, B6, h6, u6⟩
    case rest =>
      rename World => wc
      clear u6 h6 B6
      obtain ⟨u, B7, h7, u7⟩ := hcut
      have q0 : wc.cell? ⟨Ub, 0, none⟩ = some (.string u.t) := by rw [Lib.cell_of_heap u7]; rfl
      have q1 : wc.cell? ⟨Ub, 1, none⟩ = some (.string u.i) := by rw [Lib.cell_of_heap u7]; rfl
      obtain ⟨Cb, hCd⟩ : ∃ Cb, Cb = wc.heap.size := ⟨_, rfl⟩
      have b8 := ev1 wc (.cells #[.int .i64 1, .string u.t, .string u.i] 43)
      have c8 := alloc_heap wc (.cells #[.int .i64 1, .string u.t, .string u.i] 43)
      have h8 := kept_of_below b8 h7
      have u8 := kept_of_below b8 u7
      have B8 := B7.trans (b8.mono B7.size)
      have hC1 : w1.heap.size ≤ Cb := by rw [hCd]; exact B7.size
      have hUR : R < Cb ∧ Ub < Cb := by
        have h1 := (Array.getElem?_eq_some_iff.1 h7).1
        have h2 := (Array.getElem?_eq_some_iff.1 u7).1
        omega
      go_upto_region 14 with fail
      clear q0 q1
      generalize wc.alloc _ = w8 at *
      rw [← hCd] at c8 ⊢
      clear hCd b8 h7 u7 B7
      go_upto_if 93 with fail
      go_cut [] from 20 (fun wc => Below w1.heap.size w1 wc ∧ wc.heap[R]? = some (.cells #[.string p.t, .string p.i, .string a.t, .string a.i, .string r.t, .string r.i] 30 (0, 0)) ∧ wc.heap[Ub]? = some (.cells #[.string u.t, .string u.i] 28 (0, 0)) ∧ wc.heap[Cb]? = some (.cells #[.int .i64 (kOf inn), .string u.t, .string u.i] 43 (0, 0)))
      case first =>
        cases inn with
        | false =>
          go_wp2_with fail
          go_meet
          case rel => exact ⟨B8, h8, u8, c8⟩
        | true =>
          have q0 : w8.cell? ⟨Cb, 0, none⟩ = some (.int .i64 1) := by rw [Lib.cell_of_heap c8]; rfl
          have q1 : w8.cell? ⟨Cb, 1, none⟩ = some (.string u.t) := by rw [Lib.cell_of_heap c8]; rfl
          have q2 : w8.cell? ⟨Cb, 2, none⟩ = some (.string u.i) := by rw [Lib.cell_of_heap c8]; rfl
          have qf : ∀ o, w8.frozen? ⟨Cb, o, none⟩ = false := fun o => Lib.frozen_of_heap c8 o
          have HC9 := hide (heap_setCell_same w8 Cb 0 _ _ (.int .i64 2) c8)
          have H9' := hide ((Below.heap_setCell w8 ⟨Cb, 0, none⟩ (.int .i64 2) R (Nat.ne_of_lt hUR.1)).trans h8)
          have HU9 := hide ((Below.heap_setCell w8 ⟨Cb, 0, none⟩ (.int .i64 2) Ub (Nat.ne_of_lt hUR.2)).trans u8)
          have HB9 := hide (B8.setCell (p := ⟨Cb, 0, none⟩) hC1 (.int .i64 2))
          clear c8 h8 u8 B8
          go_wp2_with fail
          go_meet
          case rel => exact ⟨unhide HB9, unhide H9', unhide HU9, unhide HC9⟩
      case rest =>
        rename World => wc
        clear c8 h8 u8 B8
        obtain ⟨B9, h9, u9, c9⟩ := hcut
        generalize hkk : kOf inn = kk at *
        have bA := ev1 wc (.cells #[.bool false, .int .i64 0, .string ⟨#[]⟩, .string ⟨#[]⟩, .int .i64 0, .string ⟨#[]⟩, .string ⟨#[]⟩, .int .i64 0, .string ⟨#[]⟩, .string ⟨#[]⟩, .slice none 0 0] 46)
        have p9 := alloc_heap wc (.cells #[.bool false, .int .i64 0, .string ⟨#[]⟩, .string ⟨#[]⟩, .int .i64 0, .string ⟨#[]⟩, .string ⟨#[]⟩, .int .i64 0, .string ⟨#[]⟩, .string ⟨#[]⟩, .slice none 0 0] 46)
        have h9' := kept_of_below bA h9
        have u9' := kept_of_below bA u9
        have c9' := kept_of_below bA c9
        have B9' := B9.trans (bA.mono B9.size)
        obtain ⟨Pb, hPd⟩ : ∃ Pb, Pb = wc.heap.size := ⟨_, rfl⟩
        have hP1 : w1.heap.size ≤ Pb := by rw [hPd]; exact B9.size
        have hCP : Cb < Pb := by
          have := (Array.getElem?_eq_some_iff.1 c9).1
          omega
        go_upto_region 17 with fail
        generalize wc.alloc _ = w9 at *
        rw [← hPd] at p9 ⊢
        clear hPd bA h9 u9 c9 B9
        have q0 : w9.cell? ⟨R, 0, none⟩ = some (.string p.t) := by rw [Lib.cell_of_heap h9']; rfl
        have q1 : w9.cell? ⟨R, 1, none⟩ = some (.string p.i) := by rw [Lib.cell_of_heap h9']; rfl
        have q2 : w9.cell? ⟨R, 2, none⟩ = some (.string a.t) := by rw [Lib.cell_of_heap h9']; rfl
        have q3 : w9.cell? ⟨R, 3, none⟩ = some (.string a.i) := by rw [Lib.cell_of_heap h9']; rfl
        have q4 : w9.cell? ⟨R, 4, none⟩ = some (.string r.t) := by rw [Lib.cell_of_heap h9']; rfl
        have q5 : w9.cell? ⟨R, 5, none⟩ = some (.string r.i) := by rw [Lib.cell_of_heap h9']; rfl
        have bA := ev1 w9 (.cells #[.string p.t, .string p.i] 28)
        have i10 := alloc_heap w9 (.cells #[.string p.t, .string p.i] 28)
        have h10 := kept_of_below bA h9'
        have u10 := kept_of_below bA u9'
        have c10 := kept_of_below bA c9'
        have p10 := kept_of_below bA p9
        have B10 := B9'.trans (bA.mono B9'.size)
        obtain ⟨Ib, hId⟩ : ∃ Ib, Ib = w9.heap.size := ⟨_, rfl⟩
        have hI1 : w1.heap.size ≤ Ib := by rw [hId]; exact B9'.size
        have hPI : Pb < Ib := by
          have := (Array.getElem?_eq_some_iff.1 p9).1
          omega
        go_upto_region 18 with fail
        clear q0 q1 q2 q3 q4 q5
        generalize w9.alloc _ = w10 at *
        rw [← hId] at i10 ⊢
        clear hId bA h9' u9' c9' B9' p9
        go_wp2_with fail
        refine (unhide HCM _).mono ?_
        rintro _ w10 ⟨rfl, rfl⟩
        go_upto_if 100 with fail
        refine wp_unblock fun K2 hK2 => ?_
        go_cut [] from 20 (fun wc => ∃ (is : U2) (s1 s2 s3 : ScD), Below w1.heap.size w1 wc ∧ wc.heap[R]? = some (.cells #[.string p.t, .string p.i, .string a.t, .string a.i, .string r.t, .string r.i] 30 (0, 0)) ∧ wc.heap[Ub]? = some (.cells #[.string u.t, .string u.i] 28 (0, 0)) ∧ wc.heap[Pb]? = some (.cells #[.bool false, .int .i64 s1.k, .string s1.u.t, .string s1.u.i, .int .i64 s2.k, .string s2.u.t, .string s2.u.i, .int .i64 s3.k, .string s3.u.t, .string s3.u.i, .slice none 0 0] 46 (0, 0)) ∧ wc.heap[Ib]? = some (.cells #[.string is.t, .string is.i] 28 (0, 0)) ∧ ∀ ps f, scsC ⟨p, a, r, ps, f⟩ (polS s1 s2 s3) = inSc ⟨p, a, r, ps, f⟩ is ⟨kk, u⟩)
        case first =>
          have n1 : ¬ Pb = R := by omega
          have n2 : ¬ R = Pb := by omega
          have n3 : ¬ Pb = Cb := by omega
          have n4 : ¬ Cb = Pb := by omega
          have n5 : ¬ Ib = Pb := by omega
          have n6 : ¬ Pb = Ib := by omega
          have n7 : ¬ Ib = R := by omega
          have n8 : ¬ R = Ib := by omega
          have n9 : ¬ Ib = Cb := by omega
          have n10 : ¬ Cb = Ib := by omega
          have nUP : Ub ≠ Pb := by omega
          have nUI : Ub ≠ Ib := by omega
          have HB := hide B10
          have HRQ := hide h10
          have HUB := hide u10
          have HPB := hide p10
          have HIB := hide i10
          have qr0 : w10.cell? ⟨R, 0, none⟩ = some (.string p.t) := by rw [Lib.cell_of_heap h10]; rfl
          have qr1 : w10.cell? ⟨R, 1, none⟩ = some (.string p.i) := by rw [Lib.cell_of_heap h10]; rfl
          have qr2 : w10.cell? ⟨R, 2, none⟩ = some (.string a.t) := by rw [Lib.cell_of_heap h10]; rfl
          have qr3 : w10.cell? ⟨R, 3, none⟩ = some (.string a.i) := by rw [Lib.cell_of_heap h10]; rfl
          have qr4 : w10.cell? ⟨R, 4, none⟩ = some (.string r.t) := by rw [Lib.cell_of_heap h10]; rfl
          have qr5 : w10.cell? ⟨R, 5, none⟩ = some (.string r.i) := by rw [Lib.cell_of_heap h10]; rfl
          have qc0 : w10.cell? ⟨Cb, 0, none⟩ = some (.int .i64 kk) := by rw [Lib.cell_of_heap c10]; rfl
          have qc1 : w10.cell? ⟨Cb, 1, none⟩ = some (.string u.t) := by rw [Lib.cell_of_heap c10]; rfl
          have qc2 : w10.cell? ⟨Cb, 2, none⟩ = some (.string u.i) := by rw [Lib.cell_of_heap c10]; rfl
          have qp0 : w10.cell? ⟨Pb, 0, none⟩ = some (.bool false) := by rw [Lib.cell_of_heap p10]; rfl
          have qp1 : w10.cell? ⟨Pb, 1, none⟩ = some (.int .i64 0) := by rw [Lib.cell_of_heap p10]; rfl
          have qp2 : w10.cell? ⟨Pb, 2, none⟩ = some (.string ⟨#[]⟩) := by rw [Lib.cell_of_heap p10]; rfl
          have qp3 : w10.cell? ⟨Pb, 3, none⟩ = some (.string ⟨#[]⟩) := by rw [Lib.cell_of_heap p10]; rfl
          have qp4 : w10.cell? ⟨Pb, 4, none⟩ = some (.int .i64 0) := by rw [Lib.cell_of_heap p10]; rfl
          have qp5 : w10.cell? ⟨Pb, 5, none⟩ = some (.string ⟨#[]⟩) := by rw [Lib.cell_of_heap p10]; rfl
          have qp6 : w10.cell? ⟨Pb, 6, none⟩ = some (.string ⟨#[]⟩) := by rw [Lib.cell_of_heap p10]; rfl
          have qp7 : w10.cell? ⟨Pb, 7, none⟩ = some (.int .i64 0) := by rw [Lib.cell_of_heap p10]; rfl
          have qp8 : w10.cell? ⟨Pb, 8, none⟩ = some (.string ⟨#[]⟩) := by rw [Lib.cell_of_heap p10]; rfl
          have qp9 : w10.cell? ⟨Pb, 9, none⟩ = some (.string ⟨#[]⟩) := by rw [Lib.cell_of_heap p10]; rfl
          have qp10 : w10.cell? ⟨Pb, 10, none⟩ = some (.slice none 0 0) := by rw [Lib.cell_of_heap p10]; rfl
          have qpf : ∀ o, w10.frozen? ⟨Pb, o, none⟩ = false := fun o => Lib.frozen_of_heap p10 o
          have qi0 : w10.cell? ⟨Ib, 0, none⟩ = some (.string p.t) := by rw [Lib.cell_of_heap i10]; rfl
          have qi1 : w10.cell? ⟨Ib, 1, none⟩ = some (.string p.i) := by rw [Lib.cell_of_heap i10]; rfl
          have qif : ∀ o, w10.frozen? ⟨Ib, o, none⟩ = false := fun o => Lib.frozen_of_heap i10 o
          clear h10 u10 p10 i10 c10 B10
          match m, hm3 with
          | 0, _ =>
            have HF := hide (And.intro (belowSetCells (b := Pb) [.int .i64 kk, .string u.t, .string u.i] 1 w10 (unhide HB) hP1) (And.intro ((heap_setCells n2 [.int .i64 kk, .string u.t, .string u.i] 1 w10).trans (unhide HRQ)) (And.intro ((heap_setCells nUP [.int .i64 kk, .string u.t, .string u.i] 1 w10).trans (unhide HUB)) (And.intro (heap_setCell_same _ Pb 3 _ _ (.string u.i) (heap_setCell_same _ Pb 2 _ _ (.string u.t) (heap_setCell_same w10 Pb 1 _ _ (.int .i64 kk) (unhide HPB)))) ((heap_setCells n5 [.int .i64 kk, .string u.t, .string u.i] 1 w10).trans (unhide HIB))))))
            go_wp2_with fail
            go_meet
            case rel => exact ⟨p, ⟨kk, u⟩, ⟨0, zU⟩, ⟨0, zU⟩, (unhide HF).1, (unhide HF).2.1, (unhide HF).2.2.1, (unhide HF).2.2.2.1, (unhide HF).2.2.2.2, fun ps f => by
              show ((inSc _ p ⟨kk, u⟩ && true) && true) = _
              rw [Bool.and_true, Bool.and_true]⟩
          | 1, _ =>
            go_upto_region 22 with fail
            go_region
            go_wp2_with fail
            have HB1 := hide (belowSetCells (b := Pb) [.int .i64 kk, .string u.t, .string u.i] 4 w10 (unhide HB) hP1)
            have HB2 := hide (belowSetCells (b := Ib) [.string a.t, .string a.i] 0 (w10.setCells Pb 4 [.int .i64 kk, .string u.t, .string u.i]) (unhide HB1) hI1)
            have HR2 := hide ((heap_setCells n8 [.string a.t, .string a.i] 0 (w10.setCells Pb 4 [.int .i64 kk, .string u.t, .string u.i])).trans ((heap_setCells n2 [.int .i64 kk, .string u.t, .string u.i] 4 w10).trans (unhide HRQ)))
            have HU2 := hide ((heap_setCells nUI [.string a.t, .string a.i] 0 (w10.setCells Pb 4 [.int .i64 kk, .string u.t, .string u.i])).trans ((heap_setCells nUP [.int .i64 kk, .string u.t, .string u.i] 4 w10).trans (unhide HUB)))
            have HP1 := hide (heap_setCell_same _ Pb 6 _ _ (.string u.i) (heap_setCell_same _ Pb 5 _ _ (.string u.t) (heap_setCell_same w10 Pb 4 _ _ (.int .i64 kk) (unhide HPB))))
            have HP2 := hide ((heap_setCells n6 [.string a.t, .string a.i] 0 (w10.setCells Pb 4 [.int .i64 kk, .string u.t, .string u.i])).trans (unhide HP1))
            have HI1 := hide ((heap_setCells n5 [.int .i64 kk, .string u.t, .string u.i] 4 w10).trans (unhide HIB))
            have HI2 := hide (heap_setCell_same _ Ib 1 _ _ (.string a.i) (heap_setCell_same (w10.setCells Pb 4 [.int .i64 kk, .string u.t, .string u.i]) Ib 0 _ _ (.string a.t) (unhide HI1)))
            clear HB1 HI1 HP1
            go_meet
            case rel => exact ⟨a, ⟨0, zU⟩, ⟨kk, u⟩, ⟨0, zU⟩, (unhide HB2).drew, unhide HR2, unhide HU2, unhide HP2, unhide HI2, fun ps f => by
              show ((true && inSc _ a ⟨kk, u⟩) && true) = _
              rw [Bool.and_true, Bool.true_and]⟩
          | 2, _ =>
            go_upto_region 24 with fail
            go_region
            go_wp2_with fail
            have HB1 := hide (belowSetCells (b := Pb) [.int .i64 kk, .string u.t, .string u.i] 7 w10 (unhide HB) hP1)
            have HB2 := hide (belowSetCells (b := Ib) [.string r.t, .string r.i] 0 (w10.setCells Pb 7 [.int .i64 kk, .string u.t, .string u.i]) (unhide HB1) hI1)
            have HR2 := hide ((heap_setCells n8 [.string r.t, .string r.i] 0 (w10.setCells Pb 7 [.int .i64 kk, .string u.t, .string u.i])).trans ((heap_setCells n2 [.int .i64 kk, .string u.t, .string u.i] 7 w10).trans (unhide HRQ)))
            have HU2 := hide ((heap_setCells nUI [.string r.t, .string r.i] 0 (w10.setCells Pb 7 [.int .i64 kk, .string u.t, .string u.i])).trans ((heap_setCells nUP [.int .i64 kk, .string u.t, .string u.i] 7 w10).trans (unhide HUB)))
            have HP1 := hide (heap_setCell_same _ Pb 9 _ _ (.string u.i) (heap_setCell_same _ Pb 8 _ _ (.string u.t) (heap_setCell_same w10 Pb 7 _ _ (.int .i64 kk) (unhide HPB))))
            have HP2 := hide ((heap_setCells n6 [.string r.t, .string r.i] 0 (w10.setCells Pb 7 [.int .i64 kk, .string u.t, .string u.i])).trans (unhide HP1))
            have HI1 := hide ((heap_setCells n5 [.int .i64 kk, .string u.t, .string u.i] 7 w10).trans (unhide HIB))
            have HI2 := hide (heap_setCell_same _ Ib 1 _ _ (.string r.i) (heap_setCell_same (w10.setCells Pb 7 [.int .i64 kk, .string u.t, .string u.i]) Ib 0 _ _ (.string r.t) (unhide HI1)))
            clear HB1 HI1 HP1
            go_meet
            case rel => exact ⟨r, ⟨0, zU⟩, ⟨0, zU⟩, ⟨kk, u⟩, (unhide HB2).drew, unhide HR2, unhide HU2, unhide HP2, unhide HI2, fun ps f => by
              show ((true && true) && inSc _ r ⟨kk, u⟩) = _
              rw [Bool.and_true, Bool.true_and]⟩
          | m + 3, h => exact absurd h (by omega)
        case rest =>
          rename World => wc
          subst hK2
          clear h10 u10 p10 i10 c10 B10
          obtain ⟨is, s1, s2, s3, B11, h11, u11, p11, i11, hsc⟩ := hcut
          have CO := dOne_any go gs gs.length gcap ⟨p, a, r, ps, f⟩ (polS s1 s2 s3) none 0 0 wc rfl (unhide HEW wc B11 p a r) rfl (by decide) (fun j hj => absurd hj (Nat.not_lt_zero _)) (fun x hx => by cases hx)
          rw [dcOne_nil _ _ rfl, hsc] at CO
          unfold polS at CO
          dsimp only at CO
          have HSC := hide (inSc_is p a r is u ps f kk)
          obtain ⟨z, hzd⟩ : ∃ z, z = inSc ⟨p, a, r, ps, f⟩ is ⟨kk, u⟩ := ⟨_, rfl⟩
          rw [← hzd] at CO
          have HZD := hide hzd
          clear hsc hzd
          have qr0 : wc.cell? ⟨R, 0, none⟩ = some (.string p.t) := by rw [Lib.cell_of_heap h11]; rfl
          have qr1 : wc.cell? ⟨R, 1, none⟩ = some (.string p.i) := by rw [Lib.cell_of_heap h11]; rfl
          have qr2 : wc.cell? ⟨R, 2, none⟩ = some (.string a.t) := by rw [Lib.cell_of_heap h11]; rfl
          have qr3 : wc.cell? ⟨R, 3, none⟩ = some (.string a.i) := by rw [Lib.cell_of_heap h11]; rfl
          have qr4 : wc.cell? ⟨R, 4, none⟩ = some (.string r.t) := by rw [Lib.cell_of_heap h11]; rfl
          have qr5 : wc.cell? ⟨R, 5, none⟩ = some (.string r.i) := by rw [Lib.cell_of_heap h11]; rfl
          have qp0 : wc.cell? ⟨Pb, 0, none⟩ = some (.bool false) := by rw [Lib.cell_of_heap p11]; rfl
          have qp1 : wc.cell? ⟨Pb, 1, none⟩ = some (.int .i64 s1.k) := by rw [Lib.cell_of_heap p11]; rfl
          have qp2 : wc.cell? ⟨Pb, 2, none⟩ = some (.string s1.u.t) := by rw [Lib.cell_of_heap p11]; rfl
          have qp3 : wc.cell? ⟨Pb, 3, none⟩ = some (.string s1.u.i) := by rw [Lib.cell_of_heap p11]; rfl
          have qp4 : wc.cell? ⟨Pb, 4, none⟩ = some (.int .i64 s2.k) := by rw [Lib.cell_of_heap p11]; rfl
          have qp5 : wc.cell? ⟨Pb, 5, none⟩ = some (.string s2.u.t) := by rw [Lib.cell_of_heap p11]; rfl
          have qp6 : wc.cell? ⟨Pb, 6, none⟩ = some (.string s2.u.i) := by rw [Lib.cell_of_heap p11]; rfl
          have qp7 : wc.cell? ⟨Pb, 7, none⟩ = some (.int .i64 s3.k) := by rw [Lib.cell_of_heap p11]; rfl
          have qp8 : wc.cell? ⟨Pb, 8, none⟩ = some (.string s3.u.t) := by rw [Lib.cell_of_heap p11]; rfl
          have qp9 : wc.cell? ⟨Pb, 9, none⟩ = some (.string s3.u.i) := by rw [Lib.cell_of_heap p11]; rfl
          have qp10 : wc.cell? ⟨Pb, 10, none⟩ = some (.slice none 0 0) := by rw [Lib.cell_of_heap p11]; rfl
          go_wp2_with fail
          refine CO.mono ?_
          clear CO
          rintro e w12 ⟨⟨bb, k2, rfl, hrb⟩, b12⟩
          obtain ⟨rfl, rfl⟩ : k2 = 0 ∧ bb = z := hrb
          have B12 := B11.trans (b12.mono B11.size)
          have u12 := kept_of_below b12 u11
          have i12 := kept_of_below b12 i11
          clear qr0 qr1 qr2 qr3 qr4 qr5 qp0 qp1 qp2 qp3 qp4 qp5 qp6 qp7 qp8 qp9 qp10
          have qu0 : w12.cell? ⟨Ub, 0, none⟩ = some (.string u.t) := by rw [Lib.cell_of_heap u12]; rfl
          have qu1 : w12.cell? ⟨Ub, 1, none⟩ = some (.string u.i) := by rw [Lib.cell_of_heap u12]; rfl
          have qi0 : w12.cell? ⟨Ib, 0, none⟩ = some (.string is.t) := by rw [Lib.cell_of_heap i12]; rfl
          have qi1 : w12.cell? ⟨Ib, 1, none⟩ = some (.string is.i) := by rw [Lib.cell_of_heap i12]; rfl
          have NQ := binEqlUid is u
          have BF := b1.trans (B12.mono b1.size)
          cases inn with
          | false =>
            have hbb : bb = decide (is = u) := by
              rw [unhide HZD]
              exact (unhide HSC).1 (by rw [← hkk]; rfl)
            generalize decide (is = u) = dd at *
            subst hbb
            go_wp2_with fail
            go_ret
            exact ⟨rfl, BF⟩
          | true =>
            have hbb : bb = f is u := by
              rw [unhide HZD]
              exact (unhide HSC).2 (by rw [← hkk]; rfl)
            have C9 := unhide H9 w12 B12 gcap is u
            generalize decide (is = u) = dd at *
            rw [← hbb] at C9
            clear hbb
            go_wp2_with fail
            refine C9.mono ?_
            clear C9
            rintro e w13 ⟨rfl, b13⟩
            have BF2 := BF.trans (b13.mono BF.size)
            cases bb with
            | false =>
              go_wp2
              go_ret
              exact ⟨rfl, BF2⟩
            | true =>
              go_wp2
              go_ret
              exact ⟨rfl, BF2⟩
end Go.Proofs.YtldmfdkmkjiabaaGreat
