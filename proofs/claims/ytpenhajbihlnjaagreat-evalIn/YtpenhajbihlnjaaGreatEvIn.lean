/-
  chancellaw13.EvalIn: the walk.
-/
import Derived.Test.YtpenhajbihlnjaaGreatEvInPA
import Derived.Test.YtpenhajbihlnjaaGreatEvS
import Derived.Test.YtpenhajbihlnjaaGreatRpCD
import Derived.Test.YtpenhajbihlnjaaGreatVeOP
import Derived.Maps.AppendAt
namespace Go.Proofs.YtpenhajbihlnjaaGreat
open Go.RowKit Go.Sort

theorem own_keptS {w w' : World} {B : Nat} {T : TypeId} {z : Nat} {v : Value} {m : Nat} {xs : List Value} (h : w.ownsRow B T z v m xs) (hk : ∀ g, v.ownBlock = some g → g < w.heap.size → w'.heap[g]? = w.heap[g]?) : w'.ownsRow B T z v m xs := by
  refine ⟨h.1, h.2.imp id ?_⟩
  rintro ⟨g, cap, cur, h1, h2, h3, h4⟩
  exact ⟨g, cap, cur, h1, h2, (hk g (by rw [h1]; rfl) (Array.getElem?_eq_some_iff.1 h3).1).trans h3, h4⟩
theorem any_push (f : U2 → Bool) (ws : List U2) (v : U2) (wt z : Bool) (h1 : wt = ws.any f) (h2 : z = f v) : (wt || z) = (ws ++ [v]).any f := by
  rw [h1, h2, List.any_append]
  simp
theorem own_notU {w : World} {B n k K : Nat} {T KT : TypeId} {v : Value} {xs : List Value} {cs : Array Value} {fz : Nat × Nat} (hT : T ≠ KT) (h : w.ownsRow B T n v k xs) (hk : w.heap[K]? = some (.cells cs KT fz)) : v.ownBlock ≠ some K := fun e => by
  rcases h.2 with ⟨hv, _⟩ | ⟨g, cap, cur, hv, _, hg, _⟩
  · rw [hv] at e
    cases e
  · rw [hv] at e
    have e : g = K := by simpa [Value.ownBlock] using e
    rw [e, hk] at hg
    injection hg with hg
    injection hg with _ h3
    exact hT h3.symm
def EvR.inlB (z : Bool) : EvR := .inl (.pl (.bool z))
theorem within13_ix (a : Int) (n : Nat) (hn : 0 < n) (hn1 : n ≤ 4294967296) (w : World) :
    Calls Tryz.prog 6 #[.int .i64 a, .int .i64 n] w fun e w' => (∃ i : Nat, i < n ∧ e = .returned (.int .i64 i)) ∧ w' = w := by
  refine (within13_any a n (by omega) (by omega) w).mono ?_
  rintro e w' ⟨rfl, rfl⟩
  have h1 := Int.emod_nonneg a (b := (n : Int)) (by omega)
  have h2 := Int.emod_lt_of_pos a (b := (n : Int)) (by omega)
  obtain ⟨i, hi⟩ : ∃ i : Nat, a % (n : Int) = i := ⟨(a % (n : Int)).toNat, by omega⟩
  exact ⟨⟨i, by omega, by rw [hi]⟩, rfl⟩
theorem upS_len3 (L : List EntR) (x : U2) : (upS (goodsL L) x).length ≤ 100000 := by
  unfold upS
  cases h : findP (goodsL L) x with
  | none => exact Nat.zero_le _
  | some p =>
    have h1 := goods_psE L p (find_is h).1
    show p.ps.length ≤ 100000
    omega
theorem r9in_gs {w : World} {L : List EntR} {go : Option Addr} {gs : List E4} (hr : RowG w go 4 (gs.map E4.cells)) (ha : AllEnt w (fun _ => True) gs (goodsL L)) {f : U2 → U2 → Bool} (hw : ∀ u x, f u x = true ↔ Way (upS (goodsL L)) u x) (c : Nat) (u x : U2) :
    Calls Tryz.prog 8 #[.slice go gs.length c, .agg #[.string u.t, .string u.i], .agg #[.string x.t, .string x.i]] w fun e w' => e = .returned (.bool (f u x)) ∧ Below w.heap.size w w' := by
  have hnd := rising_nodup (goodsL_rising L)
  have h3 := goods_psE L
  have hlen := goodsL_len L
  have hfl := flat_lenE _ h3
  refine (r9in_any gs (goodsL L) go c u x (parsE (goodsL L)) w (by have h1 := ha.1; omega) hr ha (fun y v hv => by
    obtain ⟨p, hp, _, hm⟩ := (mem_upS hnd y v).1 hv
    exact List.mem_flatMap.2 ⟨p, hp, hm⟩) (by omega) (upS_len3 L)).mono ?_
  rintro e w'' ⟨hb2, z, rfl, hz⟩
  refine ⟨?_, hb2⟩
  have : z = f u x := by
    have := hw u x
    cases z <;> cases hfx : f u x <;> simp_all
  rw [this]
def einSp (V : Nat) (z : Bool) (go : Option Addr) (n gc : Nat) (u v : U2) : Nat → Value → World → Prop
  | 0, w, _ => w = .int .i64 0
  | 1, w, _ => w = .bool false
  | 2, w, _ => w = .bool false
  | 3, w, _ => w = .pointer (some ⟨V, 1, none⟩)
  | 4, w, _ => w = .bool z
  | 5, w, _ => w = .slice go n gc
  | 6, w, _ => w = .agg #[.string u.t, .string u.i]
  | 7, w, _ => w = .agg #[.string v.t, .string v.i]
  | 8, w, _ => w = .bool z
  | 9, w, _ => w = .bool false
  | 10, w, _ => w = .bool false
  | _ + 11, _, _ => True
theorem einSp_up {V : Nat} {z : Bool} {go : Option Addr} {n gc : Nat} {u v : U2} {w' w'' : World} (j : Nat) (x : Value) (h : einSp V z go n gc u v j x w') : einSp V z go n gc u v j x w'' := by
  match j with
  | 0 | 1 | 2 | 3 | 4 | 5 | 6 | 7 | 8 | 9 | 10 => exact h
  | _ + 11 => trivial

set_option maxHeartbeats 16000000 in
set_option maxRecDepth 1000000 in
theorem ein_walk (lo : Option Addr) (rs : List EntR) (lc : Nat) (a : Int) (so : Option Addr) (xs : List Int) (sc : Nat) (w : World) (hl : rs.length ≤ 9223372036854775807) (hr : RowEnt w lo rs) (hz : IntsAt w so xs) (hf : FitL w) :
    Calls Tryz.prog 3 #[.slice lo rs.length lc, .int .i64 a, .slice so xs.length sc] w fun e w' => e = .returned (.bool true) ∧ Below w.heap.size w w' := by
  obtain ⟨iX, hiX, xz0, xz1, xz2⟩ := info_partsE infoExpr
  have HR := hide hr
  have HZ := hide hz
  obtain ⟨N, hN⟩ : ∃ N, N = xs.length := ⟨_, rfl⟩
  rw [← hN]
  have HN := hide hN
  clear hr hz hN
  go_enter Tryz.func3, Tryz.ntmps3
  go_wp2_with fail
  refine (known13_any w hf).mono ?_
  rintro _ w0 ⟨rfl, b0⟩
  have G := good8_any lo rs lc w0 hl ((unhide HR).below b0)
  have HOK := hide (unhide HR).2
  obtain ⟨f, hfw⟩ := way_dec (upS (goodsL rs))
  have HEWG := hide (fun (wx : World) (go : Option Addr) (gs : List E4) (h1 : RowG wx go 4 (gs.map E4.cells)) (h2 : AllEnt wx (fun _ => True) gs (goodsL rs)) (h3 : FitL wx) => ew_goods (p := zU) (a := zU) (r := zU) (unhide HOK) h1 h2 h3 hfw)
  have H9G := hide (fun (wx : World) (go : Option Addr) (gs : List E4) (h1 : RowG wx go 4 (gs.map E4.cells)) (h2 : AllEnt wx (fun _ => True) gs (goodsL rs)) (c : Nat) (u x : U2) => r9in_gs h1 h2 hfw c u x)
  have hps12 := goodsL_len rs
  generalize goodsL rs = ps at *
  clear HOK hfw
  go_wp2_with fail
  refine G.mono ?_
  clear G
  rintro _ w1 ⟨b01, go, gcap, gs, rfl, hgr, hgA, hgc, hgn⟩
  have b1 := b0.trans (b01.mono b0.size)
  have hgl : gs.length ≤ 12 := by rw [hgA.1]; exact hps12
  have HGR := hide hgr
  have HGA := hide hgA
  have HEW := hide (fun (wx : World) (hb : Below w1.heap.size w1 wx) => unhide HEWG wx go gs (hgr.below hb) (hgA.below hb) (hf.below (b1.trans (hb.mono b1.size))))
  have H9 := hide (fun (wx : World) (hb : Below w1.heap.size w1 wx) (c : Nat) (u x : U2) => unhide H9G wx go gs (hgr.below hb) (hgA.below hb) c u x)
  have HZ1 := hide ((unhide HZ).below b1)
  clear hgr hgA hgn b01 b0 hgc HEWG H9G hf HR HZ
  by_cases h0 : gs.length = 0
  · have g0 : (gs.length : Int) = 0 := by omega
    go_wp2
    go_ret
    exact ⟨rfl, b1⟩
  have g0 : ¬ (gs.length : Int) = 0 := by omega
  by_cases hN0 : N = 0
  · have n0 : (N : Int) = 0 := by omega
    go_wp2
    go_ret
    exact ⟨rfl, b1⟩
  have n0 : ¬ (N : Int) = 0 := by omega
  by_cases hN8 : 8 < N
  · have n8 : (8 : Int) < (N : Int) := by omega
    go_wp2
    go_ret
    exact ⟨rfl, b1⟩
  have n8 : ¬ (8 : Int) < (N : Int) := by omega
  have CIX := hide (fun (a : Int) w' => within13_ix a gs.length (by omega) (by omega) w')
  clear h0
  go_upto_region 6 with fail
  go_wp2_with fail
  refine (unhide CIX _ _).mono ?_
  rintro _ w1 ⟨hix, rfl⟩
  obtain ⟨i0, hi0, rfl⟩ := hix
  obtain ⟨b, off, hgo, hb, hcx⟩ := rowG_at (unhide HGR) (Below.refl _ _) hi0
  have A : AtE4 w1 b (off + i0 * 4) gs[i0] := AtE4.of hcx
  obtain ⟨y, hy⟩ : ∃ y, y = gs[i0] := ⟨_, rfl⟩
  rw [← hy] at A
  obtain ⟨a0, a1, a2, a3⟩ := A
  have k0 : (0 : Int) ≤ (i0 : Int) := by omega
  have k1 : (i0 : Int) < (gs.length : Int) := by omega
  clear hcx hy
  subst hgo
  have b2 := ev1 w1 (.cells #[.string y.t, .string y.i] 28)
  have u2 := alloc_heap w1 (.cells #[.string y.t, .string y.i] 28)
  obtain ⟨U, hUd⟩ : ∃ U, U = w1.heap.size := ⟨_, rfl⟩
  have hU1 : w1.heap.size ≤ U := by omega
  have HA0 := hide (And.intro b2 u2)
  clear b2 u2
  go_upto_region 7 with fail
  obtain ⟨b2, u2⟩ := unhide HA0
  generalize w1.alloc _ = w2 at *
  rw [← hUd] at u2 ⊢
  have b3 := ev1 w2 (.cells #[.int .i64 6, .bool false, .int .i64 0, .string ⟨#[]⟩, .string ⟨#[]⟩, .string ⟨#[]⟩, .slice none 0 0] 36)
  have e3 := alloc_heap w2 (.cells #[.int .i64 6, .bool false, .int .i64 0, .string ⟨#[]⟩, .string ⟨#[]⟩, .string ⟨#[]⟩, .slice none 0 0] 36)
  have u3 := kept_of_below b3 u2
  have B3 := b2.trans (b3.mono b2.size)
  obtain ⟨E, hEd⟩ : ∃ E, E = w2.heap.size := ⟨_, rfl⟩
  have hUE' : U < E := by
    have := (Array.getElem?_eq_some_iff.1 u2).1
    omega
  have hUE : U ≤ E := Nat.le_of_lt hUE'
  have hE1 : w1.heap.size ≤ E := by omega
  obtain ⟨u, hu⟩ : ∃ u : U2, u = ⟨y.t, y.i⟩ := ⟨_, rfl⟩
  have ut : y.t = u.t := by rw [hu]
  have ui : y.i = u.i := by rw [hu]
  rw [ut, ui] at u3
  have HA1 := hide (And.intro B3 (And.intro e3 u3))
  clear b2 u2 b3 e3 u3 B3 HA0 a0 a1 a2 a3 k0 k1 ut ui hu hi0
  go_upto_region 8 with fail
  obtain ⟨B3, e3, u3⟩ := unhide HA1
  generalize w2.alloc _ = w3 at *
  rw [← hEd] at e3 ⊢
  clear hEd hUd HA1
  go_wp2
  go_loopw [10, 11] (fun wv iv wr => ∃ (j : Nat) (ws : List U2) (kv : Value), iv = .int .i64 j ∧ j ≤ N ∧ wv = .bool (ws.any (f u)) ∧ ws.length = j ∧ Below w1.heap.size w1 wr ∧ wr.heap[U]? = some (.cells #[.string u.t, .string u.i] 28 (0, 0)) ∧ wr.heap[E]? = some (.cells #[.int .i64 6, .bool false, .int .i64 0, .string ⟨#[]⟩, .string ⟨#[]⟩, .string ⟨#[]⟩, kv] 36 (0, 0)) ∧ wr.ownsRow (E + 1) 36 7 kv ws.length (uRow ws).flatten) (fun _ iv _ => N - (intOf iv).toNat)
  case atStart => exact ⟨0, [], .slice none 0 0, by go_num, Nat.zero_le _, rfl, rfl, B3, u3, e3, World.ownsRow_nil _ _ _ _⟩
  case round =>
    obtain ⟨j, ws, kv, hiv, hjN, hwv, hlw, bw, hU, hE, hown⟩ := hrel
    subst hiv hwv
    obtain ⟨wt, hwt⟩ : ∃ wt, wt = ws.any (f u) := ⟨_, rfl⟩
    rw [← hwt]
    have HWT := hide hwt
    have HLWS := hide hlw
    have HOW0 := hide hown
    have HU0 := hide hU
    have HE0 := hide hE
    clear hown hwt hU hE e3 u3 B3
    by_cases hlt : j < N
    · have i1 : (j : Int) < (N : Int) := by omega
      have hjl : j < xs.length := by rw [← unhide HN]; exact hlt
      obtain ⟨bx, ox, rfl, hbx, hc⟩ := unhide HZ1 j hjl
      have hc := (bw.cell (p := ⟨bx, ox + j, none⟩) hbx).trans hc
      generalize xs[j] = xv at *
      have x0 : (0 : Int) ≤ (j : Int) := by omega
      have hUl0 : U < wr.heap.size := (Array.getElem?_eq_some_iff.1 (unhide HU0)).1
      have hEl0 : E < wr.heap.size := (Array.getElem?_eq_some_iff.1 (unhide HE0)).1
      have hbxl : bx < wr.heap.size := Nat.lt_of_lt_of_le hbx bw.size
      go_wp2_with fail
      refine (unhide CIX _ _).mono ?_
      rintro _ wr ⟨hix, rfl⟩
      obtain ⟨i0, hi0, rfl⟩ := hix
      obtain ⟨b', off', hgo', hb', hcx⟩ := rowG_at (unhide HGR) bw hi0
      have hgo2 : b = b' ∧ off = off' := by
        cases hgo'
        exact ⟨rfl, rfl⟩
      rw [← hgo2.1, ← hgo2.2] at hcx
      clear hgo' hgo2 hb'
      have A : AtE4 wr b (off + i0 * 4) gs[i0] := AtE4.of hcx
      have hps0 : i0 < ps.length := by rw [← (unhide HGA).1]; exact hi0
      have HIS := hide ((unhide HGA).2 i0 hi0 hps0)
      obtain ⟨x, hx⟩ : ∃ x, x = gs[i0] := ⟨_, rfl⟩
      rw [← hx] at A HIS
      obtain ⟨a0, a1, a2, a3⟩ := A
      have k0 : (0 : Int) ≤ (i0 : Int) := by omega
      have k1 : (i0 : Int) < (gs.length : Int) := by omega
      clear hcx hx
      obtain ⟨X, hXd⟩ : ∃ X, X = wr.heap.size := ⟨_, rfl⟩
      obtain ⟨b4, z4, x4, wb4⟩ := ev2 wr (.cells #[.string x.t, .string x.i, .slice x.po x.pl x.pc, .slice x.ao x.al x.ac] 32) (.cells #[.string x.t, .string x.i] 28)
      have HA2 := hide (And.intro b4 (And.intro x4 wb4))
      clear b4 x4 wb4 z4
      go_upto_region 14 with fail
      obtain ⟨b4, x4, wb4⟩ := unhide HA2
      clear HA2
      generalize (wr.alloc _).alloc _ = w4 at *
      have hUX : U < X := by omega
      have hEX : E < X := by omega
      rw [← hXd] at x4 wb4 ⊢
      have U4 := kept_of_below b4 (unhide HU0)
      have E4' := kept_of_below b4 (unhide HE0)
      have OW4 := hide (own_keptS (unhide HOW0) fun g _ hg => b4.block g hg)
      have B4 := bw.trans (b4.mono bw.size)
      have hc4 := (b4.cell (p := ⟨bx, ox + j, none⟩) hbxl).trans hc
      have hpl := (unhide HIS).pl
      have HRU := hide (unhide HIS).rowU
      clear hc a0 a1 a2 a3 b4 hXd HU0 HE0 HOW0
      by_cases hp0 : x.pl = 0
      · rw [hp0] at x4
        have qx0 : w4.cell? ⟨X, 0, none⟩ = some (.string x.t) := by rw [Lib.cell_of_heap x4]; rfl
        have qx1 : w4.cell? ⟨X, 1, none⟩ = some (.string x.i) := by rw [Lib.cell_of_heap x4]; rfl
        have qx2 : w4.cell? ⟨X, 2, none⟩ = some (.slice x.po 0 x.pc) := by rw [Lib.cell_of_heap x4]; rfl
        go_upto_region 16 with fail
        clear qx0 qx1 qx2 hc4
        obtain ⟨v, hv⟩ : ∃ v : U2, v = ⟨x.t, x.i⟩ := ⟨_, rfl⟩
        have HTW := hide (show w4.heap[X + 1]? = some (.cells #[.string v.t, .string v.i] 28 (0, 0)) by rw [hv]; exact wb4)
        have HTU := hide U4
        have HTE := hide E4'
        have HTO := OW4
        have HTB := hide B4
        clear wb4 hv U4 E4' B4 OW4 x4 HIS HRU hpl
        have UA := unhide HTU
        have EA := unhide HTE
        have OWA := hide (unhide HTO)
        have WA := unhide HTW
        have BA := unhide HTB
        have qw0 : w4.cell? ⟨(X + 1), 0, none⟩ = some (.string v.t) := by rw [Lib.cell_of_heap WA]; rfl
        have qw1 : w4.cell? ⟨(X + 1), 1, none⟩ = some (.string v.i) := by rw [Lib.cell_of_heap WA]; rfl
        have b5 := ev1 w4 (.cells #[.int .i64 4, .bool false, .int .i64 0, .string ⟨#[]⟩, .string v.t, .string v.i, .slice none 0 0] 36)
        have o5 := alloc_heap w4 (.cells #[.int .i64 4, .bool false, .int .i64 0, .string ⟨#[]⟩, .string v.t, .string v.i, .slice none 0 0] 36)
        have U5 := kept_of_below b5 UA
        have E5 := kept_of_below b5 EA
        have W5 := kept_of_below b5 WA
        have OW5 := hide (own_keptS (unhide OWA) fun g _ hg => b5.block g hg)
        have B5 := BA.trans (b5.mono BA.size)
        obtain ⟨O, hOd⟩ : ∃ O, O = w4.heap.size := ⟨_, rfl⟩
        have HS5 := hide (And.intro o5 (And.intro U5 (And.intro E5 (And.intro W5 (And.intro B5 OW5)))))
        clear o5 U5 E5 W5 B5 OW5 b5 UA EA WA OWA BA HTU HTE HTO HTW HTB
        go_upto_region 17 with fail
        clear qw0 qw1
        obtain ⟨o5, U5, E5, W5, B5, OW5⟩ := unhide HS5
        clear HS5
        generalize w4.alloc _ = w5 at *
        rw [← hOd] at o5 ⊢
        clear hOd
        have qu0 : w5.cell? ⟨U, 0, none⟩ = some (.string u.t) := by rw [Lib.cell_of_heap U5]; rfl
        have qu1 : w5.cell? ⟨U, 1, none⟩ = some (.string u.i) := by rw [Lib.cell_of_heap U5]; rfl
        have oo0 : w5.cell? ⟨O, 0, none⟩ = some (.int .i64 4) := by rw [Lib.cell_of_heap o5]; rfl
        have oo1 : w5.cell? ⟨O, 1, none⟩ = some (.bool false) := by rw [Lib.cell_of_heap o5]; rfl
        have oo2 : w5.cell? ⟨O, 2, none⟩ = some (.int .i64 0) := by rw [Lib.cell_of_heap o5]; rfl
        have oo3 : w5.cell? ⟨O, 3, none⟩ = some (.string ⟨#[]⟩) := by rw [Lib.cell_of_heap o5]; rfl
        have oo4 : w5.cell? ⟨O, 4, none⟩ = some (.string v.t) := by rw [Lib.cell_of_heap o5]; rfl
        have oo5 : w5.cell? ⟨O, 5, none⟩ = some (.string v.i) := by rw [Lib.cell_of_heap o5]; rfl
        have oo6 : w5.cell? ⟨O, 6, none⟩ = some (.slice none 0 0) := by rw [Lib.cell_of_heap o5]; rfl
        have b6 := ev1 w5 (.cells #[.int .i64 4, .bool false, .int .i64 0, .string ⟨#[]⟩, .string u.t, .string u.i, .slice none 0 0, .int .i64 4, .bool false, .int .i64 0, .string ⟨#[]⟩, .string v.t, .string v.i, .slice none 0 0] 36)
        have k6 := alloc_heap w5 (.cells #[.int .i64 4, .bool false, .int .i64 0, .string ⟨#[]⟩, .string u.t, .string u.i, .slice none 0 0, .int .i64 4, .bool false, .int .i64 0, .string ⟨#[]⟩, .string v.t, .string v.i, .slice none 0 0] 36)
        have B6 := B5.trans (b6.mono B5.size)
        obtain ⟨z, hzv⟩ : ∃ z, z = f u v := ⟨_, rfl⟩
        have CO := expr13_pl ⟨zU, zU, zU, ps, f⟩ (some ⟨b, off, none⟩) gs gs.length gcap (inT (uT u) (uT v)) ⟨22, false, 0, ⟨#[]⟩, ⟨#[]⟩, ⟨#[]⟩, some ⟨w5.heap.size, 0, none⟩, 2, 2⟩ _ rfl (unhide HEW _ B6) (isE_node (s := []) (t := []) (i := []) rfl (isEs_block [uR u, uR v] [uT u, uT v] k6 rfl (.cons (isE_u _ u) (.cons (isE_u _ v) .nil)))) (okEv_in (okEv_u u) (okEv_u v)) (show _ = EvR.inlB z by rw [hzv]; exact eval_in1 _ u v)
        rw [show (ofP (.bool z)).val = .agg #[.int .i64 1, .bool z, .int .i64 0, .string ⟨#[]⟩, .string ⟨#[]⟩, .string ⟨#[]⟩, .slice none 0 0] from rfl] at CO
        have HZv := hide hzv
        clear hzv
        go_wp2_with fail
        generalize w5.alloc _ = w6 at *
        refine CO.mono ?_
        clear CO qu0 qu1 oo0 oo1 oo2 oo3 oo4 oo5 oo6 k6
        rintro _ w7 ⟨rfl, b7⟩
        have b57 := b6.trans (b7.mono b6.size)
        have b8 := ev1 w7 (.cells #[.int .i64 1, .bool z, .int .i64 0, .string ⟨#[]⟩, .string ⟨#[]⟩, .string ⟨#[]⟩, .slice none 0 0] 39)
        have v8 := alloc_heap w7 (.cells #[.int .i64 1, .bool z, .int .i64 0, .string ⟨#[]⟩, .string ⟨#[]⟩, .string ⟨#[]⟩, .slice none 0 0] 39)
        have b58 := b57.trans (b8.mono b57.size)
        have BV := B5.trans (b58.mono B5.size)
        obtain ⟨V, hVd⟩ : ∃ V, V = w7.heap.size := ⟨_, rfl⟩
        have HS8 := hide (And.intro v8 (And.intro (kept_of_below b58 o5) (And.intro (kept_of_below b58 U5) (And.intro (kept_of_below b58 E5) (And.intro (kept_of_below b58 W5) (And.intro BV (own_keptS (unhide OW5) fun g _ hg => b58.block g hg)))))))
        clear v8 BV b8 b58 b57 b7 b6 B6 U5 E5 W5 o5 OW5 B5
        go_upto_region 18 with fail
        obtain ⟨v8, oV, uV, eV, wV5, BV, owV⟩ := unhide HS8
        clear HS8
        generalize w7.alloc _ = wV at *
        rw [← hVd] at v8 ⊢
        clear hVd
        have v1 : wV.cell? ⟨V, 1, none⟩ = some (.bool z) := by rw [Lib.cell_of_heap v8]; rfl
        have qu0 : wV.cell? ⟨U, 0, none⟩ = some (.string u.t) := by rw [Lib.cell_of_heap uV]; rfl
        have qu1 : wV.cell? ⟨U, 1, none⟩ = some (.string u.i) := by rw [Lib.cell_of_heap uV]; rfl
        have qw0 : wV.cell? ⟨(X + 1), 0, none⟩ = some (.string v.t) := by rw [Lib.cell_of_heap wV5]; rfl
        have qw1 : wV.cell? ⟨(X + 1), 1, none⟩ = some (.string v.i) := by rw [Lib.cell_of_heap wV5]; rfl
        have hVl : V < wV.heap.size := (Array.getElem?_eq_some_iff.1 v8).1
        have hUl : U < wV.heap.size := (Array.getElem?_eq_some_iff.1 uV).1
        have hWl : X + 1 < wV.heap.size := (Array.getElem?_eq_some_iff.1 wV5).1
        have HEV := hide eV
        have HUV := hide uV
        have HOV := hide oV
        have HVV := hide v8
        have HOWV := hide owV
        have C9 := fun w' (hb : Below wV.heap.size wV w') => unhide H9 w' (BV.trans (hb.mono BV.size)) gcap u v
        rw [← unhide HZv] at C9
        clear eV uV oV v8 owV wV5
        refine wp_specsH 11 (fun _ => true) (einSp V z (some ⟨b, off, none⟩) gs.length gcap u v) (fun _ _ w' => Below wV.heap.size wV w') (by kernel_rfl) (by kernel_rfl) (by kernel_rfl) (Below.refl _ wV).drew ?_ ?_ ?_ ?_ ?_ ?_
        · intro i o ho a' w' hdep
          match i, ho with
          | 0, ho =>
            cases ho
            exact want_none rfl
          | 1, ho =>
            cases ho
            exact want_none rfl
          | 2, ho =>
            cases ho
            exact want_none rfl
          | 3, ho =>
            cases ho
            exact want_some rfl (by kernel_rfl) (show a'.tmps.getD 96 undef = .bool false from hdep 2 (by decide) (by kernel_rfl))
          | 4, ho =>
            cases ho
            exact want_some rfl (by kernel_rfl) (show a'.tmps.getD 96 undef = .bool false from hdep 2 (by decide) (by kernel_rfl))
          | 5, ho =>
            cases ho
            exact want_some rfl (by kernel_rfl) (show a'.tmps.getD 96 undef = .bool false from hdep 2 (by decide) (by kernel_rfl))
          | 6, ho =>
            cases ho
            exact want_some rfl (by kernel_rfl) (show a'.tmps.getD 96 undef = .bool false from hdep 2 (by decide) (by kernel_rfl))
          | 7, ho =>
            cases ho
            exact want_some rfl (by kernel_rfl) (show a'.tmps.getD 96 undef = .bool false from hdep 2 (by decide) (by kernel_rfl))
          | 8, ho =>
            cases ho
            exact want_some rfl (by kernel_rfl) (show a'.tmps.getD 96 undef = .bool false from hdep 2 (by decide) (by kernel_rfl))
          | 9, ho =>
            cases ho
            exact want_some rfl (by kernel_rfl) (show a'.tmps.getD 96 undef = .bool false from hdep 2 (by decide) (by kernel_rfl))
          | 10, ho =>
            cases ho
            exact want_none rfl
          | i + 11, ho => exact absurd (List.getElem?_eq_some_iff.1 ho).1 (by simp)
        · intro i o hi' ho hwf
          cases hwf
        · intro i hi
          rfl
        · intro i o hi' hwi ho L a' w' hL hw hR hdep hslot hsz K hK
          have y1 : w'.cell? ⟨V, 1, none⟩ = some (.bool z) := (hR.cell (p := ⟨V, 1, none⟩) hVl).trans v1
          have y2 : w'.cell? ⟨U, 0, none⟩ = some (.string u.t) := (hR.cell (p := ⟨U, 0, none⟩) hUl).trans qu0
          have y3 : w'.cell? ⟨U, 1, none⟩ = some (.string u.i) := (hR.cell (p := ⟨U, 1, none⟩) hUl).trans qu1
          have y4 : w'.cell? ⟨X + 1, 0, none⟩ = some (.string v.t) := (hR.cell (p := ⟨X + 1, 0, none⟩) hWl).trans qw0
          have y5 : w'.cell? ⟨X + 1, 1, none⟩ = some (.string v.i) := (hR.cell (p := ⟨X + 1, 1, none⟩) hWl).trans qw1
          match i, hi' with
          | 0, _ =>
            cases ho
            have o0 : a'.tmps.getD 16 undef = .int .i64 0 := hslot 16 (by decide)
            clear C9 hsz
            unfold Oper.wp
            go_simp
            exact hK _ _ rfl hR (fun _ _ h => h)
          | 1, _ =>
            cases ho
            have e0 : a'.tmps.getD 94 undef = .int .i64 0 := hdep 0 (by decide) (by kernel_rfl)
            have e0' : a'.tmps[94]?.getD undef = .int .i64 0 := by simpa using e0
            clear C9 hsz
            unfold Oper.wp
            go_simp
            exact hK _ _ rfl hR (fun _ _ h => h)
          | 2, _ =>
            cases ho
            have e1 : a'.tmps.getD 95 undef = .bool false := hdep 1 (by decide) (by kernel_rfl)
            have e1' : a'.tmps[95]?.getD undef = .bool false := by simpa using e1
            clear C9 hsz
            unfold Oper.wp
            go_simp
            exact hK _ _ rfl hR (fun _ _ h => h)
          | 3, _ =>
            cases ho
            have o3 : a'.tmps.getD 15 undef = .pointer (some ⟨V, 0, none⟩) := hslot 15 (by decide)
            clear C9 hsz
            unfold Oper.wp
            go_simp
            exact hK _ _ rfl hR (fun _ _ h => h)
          | 4, _ =>
            cases ho
            have e3 : a'.tmps.getD 97 undef = .pointer (some ⟨V, 1, none⟩) := hdep 3 (by decide) (by kernel_rfl)
            have e3' : a'.tmps[97]?.getD undef = .pointer (some ⟨V, 1, none⟩) := by simpa using e3
            clear C9 hsz
            unfold Oper.wp
            go_simp
            exact hK _ _ rfl hR (fun _ _ h => h)
          | 5, _ =>
            cases ho
            have o5 : a'.tmps.getD 7 undef = .slice (some ⟨b, off, none⟩) gs.length gcap := hslot 7 (by decide)
            clear C9 hsz
            unfold Oper.wp
            go_simp
            exact hK _ _ rfl hR (fun _ _ h => h)
          | 6, _ =>
            cases ho
            have o6 : a'.tmps.getD 8 undef = .pointer (some ⟨U, 0, none⟩) := hslot 8 (by decide)
            clear C9 hsz
            unfold Oper.wp
            go_simp
            exact hK _ _ rfl hR (fun _ _ h => h)
          | 7, _ =>
            cases ho
            have o7 : a'.tmps.getD 13 undef = .pointer (some ⟨X + 1, 0, none⟩) := hslot 13 (by decide)
            clear C9 hsz
            unfold Oper.wp
            go_simp
            exact hK _ _ rfl hR (fun _ _ h => h)
          | 8, _ =>
            cases ho
            have e5 : a'.tmps.getD 99 undef = .slice (some ⟨b, off, none⟩) gs.length gcap := hdep 5 (by decide) (by kernel_rfl)
            have e5' : a'.tmps[99]?.getD undef = .slice (some ⟨b, off, none⟩) gs.length gcap := by simpa using e5
            have e6 : a'.tmps.getD 100 undef = .agg #[.string u.t, .string u.i] := hdep 6 (by decide) (by kernel_rfl)
            have e6' : a'.tmps[100]?.getD undef = .agg #[.string u.t, .string u.i] := by simpa using e6
            have e7 : a'.tmps.getD 101 undef = .agg #[.string v.t, .string v.i] := hdep 7 (by decide) (by kernel_rfl)
            have e7' : a'.tmps[101]?.getD undef = .agg #[.string v.t, .string v.i] := by simpa using e7
            have C := C9 w' hR
            clear C9 hsz
            unfold Oper.wp
            go_simp
            refine C.mono ?_
            rintro e w7 ⟨rfl, b7⟩
            exact hK _ _ rfl (hR.trans (b7.mono hR.size)) (fun j u h => einSp_up j u h)
          | 9, _ =>
            cases ho
            have e4 : a'.tmps.getD 98 undef = .bool z := hdep 4 (by decide) (by kernel_rfl)
            have e4' : a'.tmps[98]?.getD undef = .bool z := by simpa using e4
            have e8 : a'.tmps.getD 102 undef = .bool z := hdep 8 (by decide) (by kernel_rfl)
            have e8' : a'.tmps[102]?.getD undef = .bool z := by simpa using e8
            cases z
            · clear C9 hsz
              unfold Oper.wp
              go_simp
              exact hK _ _ rfl hR (fun _ _ h => h)
            · clear C9 hsz
              unfold Oper.wp
              go_simp
              exact hK _ _ rfl hR (fun _ _ h => h)
          | 10, _ =>
            cases ho
            have e2 : a'.tmps.getD 96 undef = .bool false := hdep 2 (by decide) (by kernel_rfl)
            have e2' : a'.tmps[96]?.getD undef = .bool false := by simpa using e2
            have e9 : a'.tmps.getD 103 undef = .bool false := hdep 9 (by decide) (by kernel_rfl)
            have e9' : a'.tmps[103]?.getD undef = .bool false := by simpa using e9
            clear C9 hsz
            unfold Oper.wp
            go_simp
            exact hK _ _ rfl hR (fun _ _ h => h)
          | i + 11, h => exact absurd h (by omega)
        · intro i o hi' ho
          have h := (List.getElem?_eq_some_iff.1 ho).1
          simp only [List.length_cons, List.length_nil] at h
          omega
        · intro vv L wE hall hR hsp
          have bE := hR
          have s0 : vv 0 = .int .i64 0 := hsp 0 (by decide)
          have s1 : vv 1 = .bool false := hsp 1 (by decide)
          have s2 : vv 2 = .bool false := hsp 2 (by decide)
          have s3 : vv 3 = .pointer (some ⟨V, 1, none⟩) := hsp 3 (by decide)
          have s4 : vv 4 = .bool z := hsp 4 (by decide)
          have s5 : vv 5 = .slice (some ⟨b, off, none⟩) gs.length gcap := hsp 5 (by decide)
          have s6 : vv 6 = .agg #[.string u.t, .string u.i] := hsp 6 (by decide)
          have s7 : vv 7 = .agg #[.string v.t, .string v.i] := hsp 7 (by decide)
          have s8 : vv 8 = .bool z := hsp 8 (by decide)
          have s9 : vv 9 = .bool false := hsp 9 (by decide)
          have s10 : vv 10 = .bool false := hsp 10 (by decide)
          clear hR hall hsp C9
          simp only [putAll, dstOf, List.getElem?_cons_zero, List.getElem?_cons_succ, Option.bind_some, s0, s1, s2, s3, s4, s5, s6, s7, s8, s9, s10]
          clear s0 s1 s2 s3 s4 s5 s6 s7 s8 s9 s10
          simp only [Act.put, List.setIfInBounds_toArray, List.set_cons_succ, List.set_cons_zero]
          have hE := hide (kept_of_below bE (unhide HEV))
          have hU := hide (kept_of_below bE (unhide HUV))
          have hO := kept_of_below bE (unhide HOV)
          have hV := kept_of_below bE (unhide HVV)
          have HOW := hide (own_keptS (unhide HOWV) fun g _ hg => bE.block g hg)
          have BE := BV.trans (bE.mono BV.size)
          have hElt : E < wE.heap.size := (Array.getElem?_eq_some_iff.1 (unhide hE)).1
          clear v1 qu0 qu1 qw0 qw1 HEV HUV HOV HVV HOWV
          have v1 : wE.cell? ⟨V, 1, none⟩ = some (.bool z) := by rw [Lib.cell_of_heap hV]; rfl
          have oo0 : wE.cell? ⟨O, 0, none⟩ = some (.int .i64 4) := by rw [Lib.cell_of_heap hO]; rfl
          have oo1 : wE.cell? ⟨O, 1, none⟩ = some (.bool false) := by rw [Lib.cell_of_heap hO]; rfl
          have oo2 : wE.cell? ⟨O, 2, none⟩ = some (.int .i64 0) := by rw [Lib.cell_of_heap hO]; rfl
          have oo3 : wE.cell? ⟨O, 3, none⟩ = some (.string ⟨#[]⟩) := by rw [Lib.cell_of_heap hO]; rfl
          have oo4 : wE.cell? ⟨O, 4, none⟩ = some (.string v.t) := by rw [Lib.cell_of_heap hO]; rfl
          have oo5 : wE.cell? ⟨O, 5, none⟩ = some (.string v.i) := by rw [Lib.cell_of_heap hO]; rfl
          have oo6 : wE.cell? ⟨O, 6, none⟩ = some (.slice none 0 0) := by rw [Lib.cell_of_heap hO]; rfl
          have ee0 : wE.cell? ⟨E, 0, none⟩ = some (.int .i64 6) := by rw [Lib.cell_of_heap (unhide hE)]; rfl
          have ee1 : wE.cell? ⟨E, 1, none⟩ = some (.bool false) := by rw [Lib.cell_of_heap (unhide hE)]; rfl
          have ee2 : wE.cell? ⟨E, 2, none⟩ = some (.int .i64 0) := by rw [Lib.cell_of_heap (unhide hE)]; rfl
          have ee3 : wE.cell? ⟨E, 3, none⟩ = some (.string ⟨#[]⟩) := by rw [Lib.cell_of_heap (unhide hE)]; rfl
          have ee4 : wE.cell? ⟨E, 4, none⟩ = some (.string ⟨#[]⟩) := by rw [Lib.cell_of_heap (unhide hE)]; rfl
          have ee5 : wE.cell? ⟨E, 5, none⟩ = some (.string ⟨#[]⟩) := by rw [Lib.cell_of_heap (unhide hE)]; rfl
          have ee6 : wE.cell? ⟨E, 6, none⟩ = some (kv) := by rw [Lib.cell_of_heap (unhide hE)]; rfl
          have b9 := ev1 wE (.cells #[.int .i64 4, .bool false, .int .i64 0, .string ⟨#[]⟩, .string v.t, .string v.i, .slice none 0 0] 36)
          have h9 := alloc_heap wE (.cells #[.int .i64 4, .bool false, .int .i64 0, .string ⟨#[]⟩, .string v.t, .string v.i, .slice none 0 0] 36)
          have HOW9 := hide (own_keptS (unhide HOW) fun g _ hg => b9.block g hg)
          have hE9 := hide (kept_of_below b9 (unhide hE))
          have hU9 := hide (kept_of_below b9 (unhide hU))
          have B9 := BE.trans (b9.mono BE.size)
          have HLW := hide hlw
          clear hO hV HOW hE hU bE
          cases wt with
          | false =>
            go_wp2_with (at_builtin; refine wpList_append_own_at _ rfl _ _ 34 rfl (E + 1) 36 iX _ 7 96 Tryz.underlying34 hiX xz0 xz1 xz2 rfl (by decide) _ _ _ rfl (unhide HOW9) ⟨wE.heap.size, 0, none⟩ 1 1 [.int .i64 4, .bool false, .int .i64 0, .string ⟨#[]⟩, .string v.t, .string v.i, .slice none 0 0] rfl rfl ?p1 ?p2 ?p3 ?p4 ?p5 ?_)
            case p1 =>
              intro c u hu
              rw [Addr.add_lit, Nat.zero_add, Lib.cell_of_heap h9]
              simpa using hu
            case p2 =>
              intro u hu
              simp only [List.mem_cons, List.not_mem_nil, or_false] at hu
              rcases hu with rfl | rfl | rfl | rfl | rfl | rfl | rfl <;> rfl
            case p3 => have := unhide HLW; unfold maxLen; omega
            case p4 => have := unhide HLW; omega
            case p5 => have := b9.size; omega
            intro v8 w8 hown8 hgrow _ _
            have B8 : Below w1.heap.size w1 w8 := B9.grown hgrow B9.size (fun g e => by have := ((unhide HOW9).lt g e).1; omega)
            have hlow : ∀ K cs T, K ≤ E → (wE.alloc (.cells #[.int .i64 4, .bool false, .int .i64 0, .string ⟨#[]⟩, .string v.t, .string v.i, .slice none 0 0] 36)).heap[K]? = some (Obj.cells cs T (0, 0)) → w8.heap[K]? = some (Obj.cells cs T (0, 0)) := fun K cs T hK h => (hgrow.block K (Array.getElem?_eq_some_iff.1 h).1 (fun e => by have := ((unhide HOW9).lt K e.symm).1; omega)).trans h
            have E8 := hlow E _ _ (Nat.le_refl _) (unhide hE9)
            have U8 := hlow U _ _ hUE (unhide hU9)
            obtain ⟨ko8, kn8, kc8, rfl⟩ : ∃ ao n c, v8 = .slice ao n c := by
              rcases hown8.2 with ⟨hv, _⟩ | ⟨g, cap, cur, hv, _⟩
              · exact ⟨_, _, _, hv⟩
              · exact ⟨_, _, _, hv⟩
            have e8 : w8.cell? ⟨E, 6, none⟩ = some kv := by rw [Lib.cell_of_heap E8]; rfl
            have f8 : w8.frozen? ⟨E, 6, none⟩ = false := Lib.frozen_of_heap E8 6
            have hown9 : (w8.setCell ⟨E, 6, none⟩ (.slice ko8 kn8 kc8)).ownsRow (E + 1) 36 7 (.slice ko8 kn8 kc8) (ws ++ [v]).length (uRow (ws ++ [v])).flatten := by
              have e : (uRow (ws ++ [v])).flatten = (uRow ws).flatten ++ [.int .i64 4, .bool false, .int .i64 0, .string ⟨#[]⟩, .string v.t, .string v.i, .slice none 0 0] := by
                unfold uRow
                rw [List.map_append, List.flatten_append]
                rfl
              rw [e, List.length_append, unhide HLWS]
              refine own_keptS hown8 fun g eg hg => Below.heap_setCell w8 ⟨E, 6, none⟩ _ g (fun e2 => ?_)
              have e2 : g = E := e2
              have := (hown8.lt g eg).1
              omega
            have HREL := hide (And.intro hown9 (And.intro (heap_setCell_same w8 E 6 _ _ (.slice ko8 kn8 kc8) E8) (And.intro ((Below.heap_setCell w8 ⟨E, 6, none⟩ (.slice ko8 kn8 kc8) U (Nat.ne_of_lt hUE')).trans U8) (B8.setCell (p := ⟨E, 6, none⟩) hE1 (.slice ko8 kn8 kc8)))))
            clear hown8 hgrow hown9 E8 U8 hlow HOW9 hE9 hU9 h9 b9
            go_wp2
            go_roundw
            case rel => exact ⟨j + 1, ws ++ [v], .slice ko8 kn8 kc8, by go_num, by omega, congrArg Value.bool (any_push (f u) ws v _ z (unhide HWT) (unhide HZv)), by rw [List.length_append, unhide HLWS]; rfl, (unhide HREL).2.2.2, (unhide HREL).2.2.1, (unhide HREL).2.1, (unhide HREL).1⟩
            case measure =>
              simp only [intOf]
              omega
          | true =>
            go_wp2_with (at_builtin; refine wpList_append_own_at _ rfl _ _ 34 rfl (E + 1) 36 iX _ 7 96 Tryz.underlying34 hiX xz0 xz1 xz2 rfl (by decide) _ _ _ rfl (unhide HOW9) ⟨wE.heap.size, 0, none⟩ 1 1 [.int .i64 4, .bool false, .int .i64 0, .string ⟨#[]⟩, .string v.t, .string v.i, .slice none 0 0] rfl rfl ?p1 ?p2 ?p3 ?p4 ?p5 ?_)
            case p1 =>
              intro c u hu
              rw [Addr.add_lit, Nat.zero_add, Lib.cell_of_heap h9]
              simpa using hu
            case p2 =>
              intro u hu
              simp only [List.mem_cons, List.not_mem_nil, or_false] at hu
              rcases hu with rfl | rfl | rfl | rfl | rfl | rfl | rfl <;> rfl
            case p3 => have := unhide HLW; unfold maxLen; omega
            case p4 => have := unhide HLW; omega
            case p5 => have := b9.size; omega
            intro v8 w8 hown8 hgrow _ _
            have B8 : Below w1.heap.size w1 w8 := B9.grown hgrow B9.size (fun g e => by have := ((unhide HOW9).lt g e).1; omega)
            have hlow : ∀ K cs T, K ≤ E → (wE.alloc (.cells #[.int .i64 4, .bool false, .int .i64 0, .string ⟨#[]⟩, .string v.t, .string v.i, .slice none 0 0] 36)).heap[K]? = some (Obj.cells cs T (0, 0)) → w8.heap[K]? = some (Obj.cells cs T (0, 0)) := fun K cs T hK h => (hgrow.block K (Array.getElem?_eq_some_iff.1 h).1 (fun e => by have := ((unhide HOW9).lt K e.symm).1; omega)).trans h
            have E8 := hlow E _ _ (Nat.le_refl _) (unhide hE9)
            have U8 := hlow U _ _ hUE (unhide hU9)
            obtain ⟨ko8, kn8, kc8, rfl⟩ : ∃ ao n c, v8 = .slice ao n c := by
              rcases hown8.2 with ⟨hv, _⟩ | ⟨g, cap, cur, hv, _⟩
              · exact ⟨_, _, _, hv⟩
              · exact ⟨_, _, _, hv⟩
            have e8 : w8.cell? ⟨E, 6, none⟩ = some kv := by rw [Lib.cell_of_heap E8]; rfl
            have f8 : w8.frozen? ⟨E, 6, none⟩ = false := Lib.frozen_of_heap E8 6
            have hown9 : (w8.setCell ⟨E, 6, none⟩ (.slice ko8 kn8 kc8)).ownsRow (E + 1) 36 7 (.slice ko8 kn8 kc8) (ws ++ [v]).length (uRow (ws ++ [v])).flatten := by
              have e : (uRow (ws ++ [v])).flatten = (uRow ws).flatten ++ [.int .i64 4, .bool false, .int .i64 0, .string ⟨#[]⟩, .string v.t, .string v.i, .slice none 0 0] := by
                unfold uRow
                rw [List.map_append, List.flatten_append]
                rfl
              rw [e, List.length_append, unhide HLWS]
              refine own_keptS hown8 fun g eg hg => Below.heap_setCell w8 ⟨E, 6, none⟩ _ g (fun e2 => ?_)
              have e2 : g = E := e2
              have := (hown8.lt g eg).1
              omega
            have HREL := hide (And.intro hown9 (And.intro (heap_setCell_same w8 E 6 _ _ (.slice ko8 kn8 kc8) E8) (And.intro ((Below.heap_setCell w8 ⟨E, 6, none⟩ (.slice ko8 kn8 kc8) U (Nat.ne_of_lt hUE')).trans U8) (B8.setCell (p := ⟨E, 6, none⟩) hE1 (.slice ko8 kn8 kc8)))))
            clear hown8 hgrow hown9 E8 U8 hlow HOW9 hE9 hU9 h9 b9
            go_wp2
            go_roundw
            case rel => exact ⟨j + 1, ws ++ [v], .slice ko8 kn8 kc8, by go_num, by omega, congrArg Value.bool (any_push (f u) ws v _ z (unhide HWT) (unhide HZv)), by rw [List.length_append, unhide HLWS]; rfl, (unhide HREL).2.2.2, (unhide HREL).2.2.1, (unhide HREL).2.1, (unhide HREL).1⟩
            case measure =>
              simp only [intOf]
              omega
      · have p0 : (0 : Int) < (x.pl : Int) := by omega
        have p1 : 0 < x.pl := by omega
        obtain ⟨b2, off2, hpo, hb2, hc2⟩ := unhide HRU 0 (by rw [List.length_map]; omega)
        obtain ⟨v, hv⟩ : ∃ v : U2, v = (ps[i0]).ps[0]'(by omega) := ⟨_, rfl⟩
        have q0 := hc2 0 (.string v.t) (by rw [List.getElem_map, ← hv]; rfl)
        have q1 := hc2 1 (.string v.i) (by rw [List.getElem_map, ← hv]; rfl)
        have q0 := (B4.cell (p := ⟨b2, off2 + 0 * 2 + 0, none⟩) hb2).trans q0
        have q1 := (B4.cell (p := ⟨b2, off2 + 0 * 2 + 1, none⟩) hb2).trans q1
        rw [show off2 + 0 * 2 + 0 = off2 by omega] at q0
        rw [show off2 + 0 * 2 + 1 = off2 + 1 by omega] at q1
        rw [hpo] at x4
        have qx0 : w4.cell? ⟨X, 0, none⟩ = some (.string x.t) := by rw [Lib.cell_of_heap x4]; rfl
        have qx1 : w4.cell? ⟨X, 1, none⟩ = some (.string x.i) := by rw [Lib.cell_of_heap x4]; rfl
        have qx2 : w4.cell? ⟨X, 2, none⟩ = some (.slice (some ⟨b2, off2, none⟩) x.pl x.pc) := by rw [Lib.cell_of_heap x4]; rfl
        have qs0 : w4.cell? ⟨(X + 1), 0, none⟩ = some (.string x.t) := by rw [Lib.cell_of_heap wb4]; rfl
        have qs1 : w4.cell? ⟨(X + 1), 1, none⟩ = some (.string x.i) := by rw [Lib.cell_of_heap wb4]; rfl
        have qsf : ∀ o, w4.frozen? ⟨(X + 1), o, none⟩ = false := fun o => Lib.frozen_of_heap wb4 o
        have HS9 := hide (And.intro wb4 (And.intro U4 (And.intro E4' B4)))
        have hXw : w1.heap.size ≤ X := Nat.le_trans hE1 (Nat.le_of_lt hEX)
        clear hc2 hpo hv hpl HIS HRU hp0 hb2 wb4 U4 E4' B4 x4
        go_upto_region 16 with fail
        · clear qx0 qx1 qx2 hc4 q0 q1 qs0 qs1 qsf
          obtain ⟨wb4, U4, E4', B4⟩ := unhide HS9
          have hset : ∀ K, K ≠ X + 1 → ((w4.setCell ⟨X + 1, 0, none⟩ (.string v.t)).setCell ⟨X + 1, 1, none⟩ (.string v.i)).heap[K]? = w4.heap[K]? := fun K hK => (Below.heap_setCell _ ⟨X + 1, 1, none⟩ (.string v.i) K hK).trans (Below.heap_setCell w4 ⟨X + 1, 0, none⟩ (.string v.t) K hK)
          have HTW := hide (heap_setCell_same _ (X + 1) 1 _ _ (.string v.i) (heap_setCell_same w4 (X + 1) 0 _ _ (.string v.t) wb4))
          have HTU := hide ((hset U (by omega)).trans U4)
          have HTE := hide ((hset E (by omega)).trans E4')
          have HTO := hide (own_keptS (unhide OW4) fun g eg _ => hset g fun e2 => own_notU (show 36 ≠ 28 by decide) (unhide OW4) wb4 (e2 ▸ eg))
          have HTB := hide ((B4.setCell (p := ⟨X + 1, 0, none⟩) (Nat.le_succ_of_le hXw) (.string v.t)).setCell (p := ⟨X + 1, 1, none⟩) (Nat.le_succ_of_le hXw) (.string v.i))
          clear hset wb4 U4 E4' B4 OW4 HS9
          generalize (w4.setCell _ _).setCell _ _ = w4' at *
          have HTW := hide (show w4'.heap[X + 1]? = some (.cells #[.string v.t, .string v.i] 28 (0, 0)) from unhide HTW)
          have UA := unhide HTU
          have EA := unhide HTE
          have OWA := hide (unhide HTO)
          have WA := unhide HTW
          have BA := unhide HTB
          have qw0 : w4'.cell? ⟨(X + 1), 0, none⟩ = some (.string v.t) := by rw [Lib.cell_of_heap WA]; rfl
          have qw1 : w4'.cell? ⟨(X + 1), 1, none⟩ = some (.string v.i) := by rw [Lib.cell_of_heap WA]; rfl
          have b5 := ev1 w4' (.cells #[.int .i64 4, .bool false, .int .i64 0, .string ⟨#[]⟩, .string v.t, .string v.i, .slice none 0 0] 36)
          have o5 := alloc_heap w4' (.cells #[.int .i64 4, .bool false, .int .i64 0, .string ⟨#[]⟩, .string v.t, .string v.i, .slice none 0 0] 36)
          have U5 := kept_of_below b5 UA
          have E5 := kept_of_below b5 EA
          have W5 := kept_of_below b5 WA
          have OW5 := hide (own_keptS (unhide OWA) fun g _ hg => b5.block g hg)
          have B5 := BA.trans (b5.mono BA.size)
          obtain ⟨O, hOd⟩ : ∃ O, O = w4'.heap.size := ⟨_, rfl⟩
          have HS5 := hide (And.intro o5 (And.intro U5 (And.intro E5 (And.intro W5 (And.intro B5 OW5)))))
          clear o5 U5 E5 W5 B5 OW5 b5 UA EA WA OWA BA HTU HTE HTO HTW HTB
          go_upto_region 17 with fail
          clear qw0 qw1
          obtain ⟨o5, U5, E5, W5, B5, OW5⟩ := unhide HS5
          clear HS5
          generalize w4'.alloc _ = w5 at *
          rw [← hOd] at o5 ⊢
          clear hOd
          have qu0 : w5.cell? ⟨U, 0, none⟩ = some (.string u.t) := by rw [Lib.cell_of_heap U5]; rfl
          have qu1 : w5.cell? ⟨U, 1, none⟩ = some (.string u.i) := by rw [Lib.cell_of_heap U5]; rfl
          have oo0 : w5.cell? ⟨O, 0, none⟩ = some (.int .i64 4) := by rw [Lib.cell_of_heap o5]; rfl
          have oo1 : w5.cell? ⟨O, 1, none⟩ = some (.bool false) := by rw [Lib.cell_of_heap o5]; rfl
          have oo2 : w5.cell? ⟨O, 2, none⟩ = some (.int .i64 0) := by rw [Lib.cell_of_heap o5]; rfl
          have oo3 : w5.cell? ⟨O, 3, none⟩ = some (.string ⟨#[]⟩) := by rw [Lib.cell_of_heap o5]; rfl
          have oo4 : w5.cell? ⟨O, 4, none⟩ = some (.string v.t) := by rw [Lib.cell_of_heap o5]; rfl
          have oo5 : w5.cell? ⟨O, 5, none⟩ = some (.string v.i) := by rw [Lib.cell_of_heap o5]; rfl
          have oo6 : w5.cell? ⟨O, 6, none⟩ = some (.slice none 0 0) := by rw [Lib.cell_of_heap o5]; rfl
          have b6 := ev1 w5 (.cells #[.int .i64 4, .bool false, .int .i64 0, .string ⟨#[]⟩, .string u.t, .string u.i, .slice none 0 0, .int .i64 4, .bool false, .int .i64 0, .string ⟨#[]⟩, .string v.t, .string v.i, .slice none 0 0] 36)
          have k6 := alloc_heap w5 (.cells #[.int .i64 4, .bool false, .int .i64 0, .string ⟨#[]⟩, .string u.t, .string u.i, .slice none 0 0, .int .i64 4, .bool false, .int .i64 0, .string ⟨#[]⟩, .string v.t, .string v.i, .slice none 0 0] 36)
          have B6 := B5.trans (b6.mono B5.size)
          obtain ⟨z, hzv⟩ : ∃ z, z = f u v := ⟨_, rfl⟩
          have CO := expr13_pl ⟨zU, zU, zU, ps, f⟩ (some ⟨b, off, none⟩) gs gs.length gcap (inT (uT u) (uT v)) ⟨22, false, 0, ⟨#[]⟩, ⟨#[]⟩, ⟨#[]⟩, some ⟨w5.heap.size, 0, none⟩, 2, 2⟩ _ rfl (unhide HEW _ B6) (isE_node (s := []) (t := []) (i := []) rfl (isEs_block [uR u, uR v] [uT u, uT v] k6 rfl (.cons (isE_u _ u) (.cons (isE_u _ v) .nil)))) (okEv_in (okEv_u u) (okEv_u v)) (show _ = EvR.inlB z by rw [hzv]; exact eval_in1 _ u v)
          rw [show (ofP (.bool z)).val = .agg #[.int .i64 1, .bool z, .int .i64 0, .string ⟨#[]⟩, .string ⟨#[]⟩, .string ⟨#[]⟩, .slice none 0 0] from rfl] at CO
          have HZv := hide hzv
          clear hzv
          go_wp2_with fail
          generalize w5.alloc _ = w6 at *
          refine CO.mono ?_
          clear CO qu0 qu1 oo0 oo1 oo2 oo3 oo4 oo5 oo6 k6
          rintro _ w7 ⟨rfl, b7⟩
          have b57 := b6.trans (b7.mono b6.size)
          have b8 := ev1 w7 (.cells #[.int .i64 1, .bool z, .int .i64 0, .string ⟨#[]⟩, .string ⟨#[]⟩, .string ⟨#[]⟩, .slice none 0 0] 39)
          have v8 := alloc_heap w7 (.cells #[.int .i64 1, .bool z, .int .i64 0, .string ⟨#[]⟩, .string ⟨#[]⟩, .string ⟨#[]⟩, .slice none 0 0] 39)
          have b58 := b57.trans (b8.mono b57.size)
          have BV := B5.trans (b58.mono B5.size)
          obtain ⟨V, hVd⟩ : ∃ V, V = w7.heap.size := ⟨_, rfl⟩
          have HS8 := hide (And.intro v8 (And.intro (kept_of_below b58 o5) (And.intro (kept_of_below b58 U5) (And.intro (kept_of_below b58 E5) (And.intro (kept_of_below b58 W5) (And.intro BV (own_keptS (unhide OW5) fun g _ hg => b58.block g hg)))))))
          clear v8 BV b8 b58 b57 b7 b6 B6 U5 E5 W5 o5 OW5 B5
          go_upto_region 18 with fail
          obtain ⟨v8, oV, uV, eV, wV5, BV, owV⟩ := unhide HS8
          clear HS8
          generalize w7.alloc _ = wV at *
          rw [← hVd] at v8 ⊢
          clear hVd
          have v1 : wV.cell? ⟨V, 1, none⟩ = some (.bool z) := by rw [Lib.cell_of_heap v8]; rfl
          have qu0 : wV.cell? ⟨U, 0, none⟩ = some (.string u.t) := by rw [Lib.cell_of_heap uV]; rfl
          have qu1 : wV.cell? ⟨U, 1, none⟩ = some (.string u.i) := by rw [Lib.cell_of_heap uV]; rfl
          have qw0 : wV.cell? ⟨(X + 1), 0, none⟩ = some (.string v.t) := by rw [Lib.cell_of_heap wV5]; rfl
          have qw1 : wV.cell? ⟨(X + 1), 1, none⟩ = some (.string v.i) := by rw [Lib.cell_of_heap wV5]; rfl
          have hVl : V < wV.heap.size := (Array.getElem?_eq_some_iff.1 v8).1
          have hUl : U < wV.heap.size := (Array.getElem?_eq_some_iff.1 uV).1
          have hWl : X + 1 < wV.heap.size := (Array.getElem?_eq_some_iff.1 wV5).1
          have HEV := hide eV
          have HUV := hide uV
          have HOV := hide oV
          have HVV := hide v8
          have HOWV := hide owV
          have C9 := fun w' (hb : Below wV.heap.size wV w') => unhide H9 w' (BV.trans (hb.mono BV.size)) gcap u v
          rw [← unhide HZv] at C9
          clear eV uV oV v8 owV wV5
          refine wp_specsH 11 (fun _ => true) (einSp V z (some ⟨b, off, none⟩) gs.length gcap u v) (fun _ _ w' => Below wV.heap.size wV w') (by kernel_rfl) (by kernel_rfl) (by kernel_rfl) (Below.refl _ wV).drew ?_ ?_ ?_ ?_ ?_ ?_
          · intro i o ho a' w' hdep
            match i, ho with
            | 0, ho =>
              cases ho
              exact want_none rfl
            | 1, ho =>
              cases ho
              exact want_none rfl
            | 2, ho =>
              cases ho
              exact want_none rfl
            | 3, ho =>
              cases ho
              exact want_some rfl (by kernel_rfl) (show a'.tmps.getD 96 undef = .bool false from hdep 2 (by decide) (by kernel_rfl))
            | 4, ho =>
              cases ho
              exact want_some rfl (by kernel_rfl) (show a'.tmps.getD 96 undef = .bool false from hdep 2 (by decide) (by kernel_rfl))
            | 5, ho =>
              cases ho
              exact want_some rfl (by kernel_rfl) (show a'.tmps.getD 96 undef = .bool false from hdep 2 (by decide) (by kernel_rfl))
            | 6, ho =>
              cases ho
              exact want_some rfl (by kernel_rfl) (show a'.tmps.getD 96 undef = .bool false from hdep 2 (by decide) (by kernel_rfl))
            | 7, ho =>
              cases ho
              exact want_some rfl (by kernel_rfl) (show a'.tmps.getD 96 undef = .bool false from hdep 2 (by decide) (by kernel_rfl))
            | 8, ho =>
              cases ho
              exact want_some rfl (by kernel_rfl) (show a'.tmps.getD 96 undef = .bool false from hdep 2 (by decide) (by kernel_rfl))
            | 9, ho =>
              cases ho
              exact want_some rfl (by kernel_rfl) (show a'.tmps.getD 96 undef = .bool false from hdep 2 (by decide) (by kernel_rfl))
            | 10, ho =>
              cases ho
              exact want_none rfl
            | i + 11, ho => exact absurd (List.getElem?_eq_some_iff.1 ho).1 (by simp)
          · intro i o hi' ho hwf
            cases hwf
          · intro i hi
            rfl
          · intro i o hi' hwi ho L a' w' hL hw hR hdep hslot hsz K hK
            have y1 : w'.cell? ⟨V, 1, none⟩ = some (.bool z) := (hR.cell (p := ⟨V, 1, none⟩) hVl).trans v1
            have y2 : w'.cell? ⟨U, 0, none⟩ = some (.string u.t) := (hR.cell (p := ⟨U, 0, none⟩) hUl).trans qu0
            have y3 : w'.cell? ⟨U, 1, none⟩ = some (.string u.i) := (hR.cell (p := ⟨U, 1, none⟩) hUl).trans qu1
            have y4 : w'.cell? ⟨X + 1, 0, none⟩ = some (.string v.t) := (hR.cell (p := ⟨X + 1, 0, none⟩) hWl).trans qw0
            have y5 : w'.cell? ⟨X + 1, 1, none⟩ = some (.string v.i) := (hR.cell (p := ⟨X + 1, 1, none⟩) hWl).trans qw1
            match i, hi' with
            | 0, _ =>
              cases ho
              have o0 : a'.tmps.getD 16 undef = .int .i64 0 := hslot 16 (by decide)
              clear C9 hsz
              unfold Oper.wp
              go_simp
              exact hK _ _ rfl hR (fun _ _ h => h)
            | 1, _ =>
              cases ho
              have e0 : a'.tmps.getD 94 undef = .int .i64 0 := hdep 0 (by decide) (by kernel_rfl)
              have e0' : a'.tmps[94]?.getD undef = .int .i64 0 := by simpa using e0
              clear C9 hsz
              unfold Oper.wp
              go_simp
              exact hK _ _ rfl hR (fun _ _ h => h)
            | 2, _ =>
              cases ho
              have e1 : a'.tmps.getD 95 undef = .bool false := hdep 1 (by decide) (by kernel_rfl)
              have e1' : a'.tmps[95]?.getD undef = .bool false := by simpa using e1
              clear C9 hsz
              unfold Oper.wp
              go_simp
              exact hK _ _ rfl hR (fun _ _ h => h)
            | 3, _ =>
              cases ho
              have o3 : a'.tmps.getD 15 undef = .pointer (some ⟨V, 0, none⟩) := hslot 15 (by decide)
              clear C9 hsz
              unfold Oper.wp
              go_simp
              exact hK _ _ rfl hR (fun _ _ h => h)
            | 4, _ =>
              cases ho
              have e3 : a'.tmps.getD 97 undef = .pointer (some ⟨V, 1, none⟩) := hdep 3 (by decide) (by kernel_rfl)
              have e3' : a'.tmps[97]?.getD undef = .pointer (some ⟨V, 1, none⟩) := by simpa using e3
              clear C9 hsz
              unfold Oper.wp
              go_simp
              exact hK _ _ rfl hR (fun _ _ h => h)
            | 5, _ =>
              cases ho
              have o5 : a'.tmps.getD 7 undef = .slice (some ⟨b, off, none⟩) gs.length gcap := hslot 7 (by decide)
              clear C9 hsz
              unfold Oper.wp
              go_simp
              exact hK _ _ rfl hR (fun _ _ h => h)
            | 6, _ =>
              cases ho
              have o6 : a'.tmps.getD 8 undef = .pointer (some ⟨U, 0, none⟩) := hslot 8 (by decide)
              clear C9 hsz
              unfold Oper.wp
              go_simp
              exact hK _ _ rfl hR (fun _ _ h => h)
            | 7, _ =>
              cases ho
              have o7 : a'.tmps.getD 13 undef = .pointer (some ⟨X + 1, 0, none⟩) := hslot 13 (by decide)
              clear C9 hsz
              unfold Oper.wp
              go_simp
              exact hK _ _ rfl hR (fun _ _ h => h)
            | 8, _ =>
              cases ho
              have e5 : a'.tmps.getD 99 undef = .slice (some ⟨b, off, none⟩) gs.length gcap := hdep 5 (by decide) (by kernel_rfl)
              have e5' : a'.tmps[99]?.getD undef = .slice (some ⟨b, off, none⟩) gs.length gcap := by simpa using e5
              have e6 : a'.tmps.getD 100 undef = .agg #[.string u.t, .string u.i] := hdep 6 (by decide) (by kernel_rfl)
              have e6' : a'.tmps[100]?.getD undef = .agg #[.string u.t, .string u.i] := by simpa using e6
              have e7 : a'.tmps.getD 101 undef = .agg #[.string v.t, .string v.i] := hdep 7 (by decide) (by kernel_rfl)
              have e7' : a'.tmps[101]?.getD undef = .agg #[.string v.t, .string v.i] := by simpa using e7
              have C := C9 w' hR
              clear C9 hsz
              unfold Oper.wp
              go_simp
              refine C.mono ?_
              rintro e w7 ⟨rfl, b7⟩
              exact hK _ _ rfl (hR.trans (b7.mono hR.size)) (fun j u h => einSp_up j u h)
            | 9, _ =>
              cases ho
              have e4 : a'.tmps.getD 98 undef = .bool z := hdep 4 (by decide) (by kernel_rfl)
              have e4' : a'.tmps[98]?.getD undef = .bool z := by simpa using e4
              have e8 : a'.tmps.getD 102 undef = .bool z := hdep 8 (by decide) (by kernel_rfl)
              have e8' : a'.tmps[102]?.getD undef = .bool z := by simpa using e8
              cases z
              · clear C9 hsz
                unfold Oper.wp
                go_simp
                exact hK _ _ rfl hR (fun _ _ h => h)
              · clear C9 hsz
                unfold Oper.wp
                go_simp
                exact hK _ _ rfl hR (fun _ _ h => h)
            | 10, _ =>
              cases ho
              have e2 : a'.tmps.getD 96 undef = .bool false := hdep 2 (by decide) (by kernel_rfl)
              have e2' : a'.tmps[96]?.getD undef = .bool false := by simpa using e2
              have e9 : a'.tmps.getD 103 undef = .bool false := hdep 9 (by decide) (by kernel_rfl)
              have e9' : a'.tmps[103]?.getD undef = .bool false := by simpa using e9
              clear C9 hsz
              unfold Oper.wp
              go_simp
              exact hK _ _ rfl hR (fun _ _ h => h)
            | i + 11, h => exact absurd h (by omega)
          · intro i o hi' ho
            have h := (List.getElem?_eq_some_iff.1 ho).1
            simp only [List.length_cons, List.length_nil] at h
            omega
          · intro vv L wE hall hR hsp
            have bE := hR
            have s0 : vv 0 = .int .i64 0 := hsp 0 (by decide)
            have s1 : vv 1 = .bool false := hsp 1 (by decide)
            have s2 : vv 2 = .bool false := hsp 2 (by decide)
            have s3 : vv 3 = .pointer (some ⟨V, 1, none⟩) := hsp 3 (by decide)
            have s4 : vv 4 = .bool z := hsp 4 (by decide)
            have s5 : vv 5 = .slice (some ⟨b, off, none⟩) gs.length gcap := hsp 5 (by decide)
            have s6 : vv 6 = .agg #[.string u.t, .string u.i] := hsp 6 (by decide)
            have s7 : vv 7 = .agg #[.string v.t, .string v.i] := hsp 7 (by decide)
            have s8 : vv 8 = .bool z := hsp 8 (by decide)
            have s9 : vv 9 = .bool false := hsp 9 (by decide)
            have s10 : vv 10 = .bool false := hsp 10 (by decide)
            clear hR hall hsp C9
            simp only [putAll, dstOf, List.getElem?_cons_zero, List.getElem?_cons_succ, Option.bind_some, s0, s1, s2, s3, s4, s5, s6, s7, s8, s9, s10]
            clear s0 s1 s2 s3 s4 s5 s6 s7 s8 s9 s10
            simp only [Act.put, List.setIfInBounds_toArray, List.set_cons_succ, List.set_cons_zero]
            have hE := hide (kept_of_below bE (unhide HEV))
            have hU := hide (kept_of_below bE (unhide HUV))
            have hO := kept_of_below bE (unhide HOV)
            have hV := kept_of_below bE (unhide HVV)
            have HOW := hide (own_keptS (unhide HOWV) fun g _ hg => bE.block g hg)
            have BE := BV.trans (bE.mono BV.size)
            have hElt : E < wE.heap.size := (Array.getElem?_eq_some_iff.1 (unhide hE)).1
            clear v1 qu0 qu1 qw0 qw1 HEV HUV HOV HVV HOWV
            have v1 : wE.cell? ⟨V, 1, none⟩ = some (.bool z) := by rw [Lib.cell_of_heap hV]; rfl
            have oo0 : wE.cell? ⟨O, 0, none⟩ = some (.int .i64 4) := by rw [Lib.cell_of_heap hO]; rfl
            have oo1 : wE.cell? ⟨O, 1, none⟩ = some (.bool false) := by rw [Lib.cell_of_heap hO]; rfl
            have oo2 : wE.cell? ⟨O, 2, none⟩ = some (.int .i64 0) := by rw [Lib.cell_of_heap hO]; rfl
            have oo3 : wE.cell? ⟨O, 3, none⟩ = some (.string ⟨#[]⟩) := by rw [Lib.cell_of_heap hO]; rfl
            have oo4 : wE.cell? ⟨O, 4, none⟩ = some (.string v.t) := by rw [Lib.cell_of_heap hO]; rfl
            have oo5 : wE.cell? ⟨O, 5, none⟩ = some (.string v.i) := by rw [Lib.cell_of_heap hO]; rfl
            have oo6 : wE.cell? ⟨O, 6, none⟩ = some (.slice none 0 0) := by rw [Lib.cell_of_heap hO]; rfl
            have ee0 : wE.cell? ⟨E, 0, none⟩ = some (.int .i64 6) := by rw [Lib.cell_of_heap (unhide hE)]; rfl
            have ee1 : wE.cell? ⟨E, 1, none⟩ = some (.bool false) := by rw [Lib.cell_of_heap (unhide hE)]; rfl
            have ee2 : wE.cell? ⟨E, 2, none⟩ = some (.int .i64 0) := by rw [Lib.cell_of_heap (unhide hE)]; rfl
            have ee3 : wE.cell? ⟨E, 3, none⟩ = some (.string ⟨#[]⟩) := by rw [Lib.cell_of_heap (unhide hE)]; rfl
            have ee4 : wE.cell? ⟨E, 4, none⟩ = some (.string ⟨#[]⟩) := by rw [Lib.cell_of_heap (unhide hE)]; rfl
            have ee5 : wE.cell? ⟨E, 5, none⟩ = some (.string ⟨#[]⟩) := by rw [Lib.cell_of_heap (unhide hE)]; rfl
            have ee6 : wE.cell? ⟨E, 6, none⟩ = some (kv) := by rw [Lib.cell_of_heap (unhide hE)]; rfl
            have b9 := ev1 wE (.cells #[.int .i64 4, .bool false, .int .i64 0, .string ⟨#[]⟩, .string v.t, .string v.i, .slice none 0 0] 36)
            have h9 := alloc_heap wE (.cells #[.int .i64 4, .bool false, .int .i64 0, .string ⟨#[]⟩, .string v.t, .string v.i, .slice none 0 0] 36)
            have HOW9 := hide (own_keptS (unhide HOW) fun g _ hg => b9.block g hg)
            have hE9 := hide (kept_of_below b9 (unhide hE))
            have hU9 := hide (kept_of_below b9 (unhide hU))
            have B9 := BE.trans (b9.mono BE.size)
            have HLW := hide hlw
            clear hO hV HOW hE hU bE
            cases wt with
            | false =>
              go_wp2_with (at_builtin; refine wpList_append_own_at _ rfl _ _ 34 rfl (E + 1) 36 iX _ 7 96 Tryz.underlying34 hiX xz0 xz1 xz2 rfl (by decide) _ _ _ rfl (unhide HOW9) ⟨wE.heap.size, 0, none⟩ 1 1 [.int .i64 4, .bool false, .int .i64 0, .string ⟨#[]⟩, .string v.t, .string v.i, .slice none 0 0] rfl rfl ?p1 ?p2 ?p3 ?p4 ?p5 ?_)
              case p1 =>
                intro c u hu
                rw [Addr.add_lit, Nat.zero_add, Lib.cell_of_heap h9]
                simpa using hu
              case p2 =>
                intro u hu
                simp only [List.mem_cons, List.not_mem_nil, or_false] at hu
                rcases hu with rfl | rfl | rfl | rfl | rfl | rfl | rfl <;> rfl
              case p3 => have := unhide HLW; unfold maxLen; omega
              case p4 => have := unhide HLW; omega
              case p5 => have := b9.size; omega
              intro v8 w8 hown8 hgrow _ _
              have B8 : Below w1.heap.size w1 w8 := B9.grown hgrow B9.size (fun g e => by have := ((unhide HOW9).lt g e).1; omega)
              have hlow : ∀ K cs T, K ≤ E → (wE.alloc (.cells #[.int .i64 4, .bool false, .int .i64 0, .string ⟨#[]⟩, .string v.t, .string v.i, .slice none 0 0] 36)).heap[K]? = some (Obj.cells cs T (0, 0)) → w8.heap[K]? = some (Obj.cells cs T (0, 0)) := fun K cs T hK h => (hgrow.block K (Array.getElem?_eq_some_iff.1 h).1 (fun e => by have := ((unhide HOW9).lt K e.symm).1; omega)).trans h
              have E8 := hlow E _ _ (Nat.le_refl _) (unhide hE9)
              have U8 := hlow U _ _ hUE (unhide hU9)
              obtain ⟨ko8, kn8, kc8, rfl⟩ : ∃ ao n c, v8 = .slice ao n c := by
                rcases hown8.2 with ⟨hv, _⟩ | ⟨g, cap, cur, hv, _⟩
                · exact ⟨_, _, _, hv⟩
                · exact ⟨_, _, _, hv⟩
              have e8 : w8.cell? ⟨E, 6, none⟩ = some kv := by rw [Lib.cell_of_heap E8]; rfl
              have f8 : w8.frozen? ⟨E, 6, none⟩ = false := Lib.frozen_of_heap E8 6
              have hown9 : (w8.setCell ⟨E, 6, none⟩ (.slice ko8 kn8 kc8)).ownsRow (E + 1) 36 7 (.slice ko8 kn8 kc8) (ws ++ [v]).length (uRow (ws ++ [v])).flatten := by
                have e : (uRow (ws ++ [v])).flatten = (uRow ws).flatten ++ [.int .i64 4, .bool false, .int .i64 0, .string ⟨#[]⟩, .string v.t, .string v.i, .slice none 0 0] := by
                  unfold uRow
                  rw [List.map_append, List.flatten_append]
                  rfl
                rw [e, List.length_append, unhide HLWS]
                refine own_keptS hown8 fun g eg hg => Below.heap_setCell w8 ⟨E, 6, none⟩ _ g (fun e2 => ?_)
                have e2 : g = E := e2
                have := (hown8.lt g eg).1
                omega
              have HREL := hide (And.intro hown9 (And.intro (heap_setCell_same w8 E 6 _ _ (.slice ko8 kn8 kc8) E8) (And.intro ((Below.heap_setCell w8 ⟨E, 6, none⟩ (.slice ko8 kn8 kc8) U (Nat.ne_of_lt hUE')).trans U8) (B8.setCell (p := ⟨E, 6, none⟩) hE1 (.slice ko8 kn8 kc8)))))
              clear hown8 hgrow hown9 E8 U8 hlow HOW9 hE9 hU9 h9 b9
              go_wp2
              go_roundw
              case rel => exact ⟨j + 1, ws ++ [v], .slice ko8 kn8 kc8, by go_num, by omega, congrArg Value.bool (any_push (f u) ws v _ z (unhide HWT) (unhide HZv)), by rw [List.length_append, unhide HLWS]; rfl, (unhide HREL).2.2.2, (unhide HREL).2.2.1, (unhide HREL).2.1, (unhide HREL).1⟩
              case measure =>
                simp only [intOf]
                omega
            | true =>
              go_wp2_with (at_builtin; refine wpList_append_own_at _ rfl _ _ 34 rfl (E + 1) 36 iX _ 7 96 Tryz.underlying34 hiX xz0 xz1 xz2 rfl (by decide) _ _ _ rfl (unhide HOW9) ⟨wE.heap.size, 0, none⟩ 1 1 [.int .i64 4, .bool false, .int .i64 0, .string ⟨#[]⟩, .string v.t, .string v.i, .slice none 0 0] rfl rfl ?p1 ?p2 ?p3 ?p4 ?p5 ?_)
              case p1 =>
                intro c u hu
                rw [Addr.add_lit, Nat.zero_add, Lib.cell_of_heap h9]
                simpa using hu
              case p2 =>
                intro u hu
                simp only [List.mem_cons, List.not_mem_nil, or_false] at hu
                rcases hu with rfl | rfl | rfl | rfl | rfl | rfl | rfl <;> rfl
              case p3 => have := unhide HLW; unfold maxLen; omega
              case p4 => have := unhide HLW; omega
              case p5 => have := b9.size; omega
              intro v8 w8 hown8 hgrow _ _
              have B8 : Below w1.heap.size w1 w8 := B9.grown hgrow B9.size (fun g e => by have := ((unhide HOW9).lt g e).1; omega)
              have hlow : ∀ K cs T, K ≤ E → (wE.alloc (.cells #[.int .i64 4, .bool false, .int .i64 0, .string ⟨#[]⟩, .string v.t, .string v.i, .slice none 0 0] 36)).heap[K]? = some (Obj.cells cs T (0, 0)) → w8.heap[K]? = some (Obj.cells cs T (0, 0)) := fun K cs T hK h => (hgrow.block K (Array.getElem?_eq_some_iff.1 h).1 (fun e => by have := ((unhide HOW9).lt K e.symm).1; omega)).trans h
              have E8 := hlow E _ _ (Nat.le_refl _) (unhide hE9)
              have U8 := hlow U _ _ hUE (unhide hU9)
              obtain ⟨ko8, kn8, kc8, rfl⟩ : ∃ ao n c, v8 = .slice ao n c := by
                rcases hown8.2 with ⟨hv, _⟩ | ⟨g, cap, cur, hv, _⟩
                · exact ⟨_, _, _, hv⟩
                · exact ⟨_, _, _, hv⟩
              have e8 : w8.cell? ⟨E, 6, none⟩ = some kv := by rw [Lib.cell_of_heap E8]; rfl
              have f8 : w8.frozen? ⟨E, 6, none⟩ = false := Lib.frozen_of_heap E8 6
              have hown9 : (w8.setCell ⟨E, 6, none⟩ (.slice ko8 kn8 kc8)).ownsRow (E + 1) 36 7 (.slice ko8 kn8 kc8) (ws ++ [v]).length (uRow (ws ++ [v])).flatten := by
                have e : (uRow (ws ++ [v])).flatten = (uRow ws).flatten ++ [.int .i64 4, .bool false, .int .i64 0, .string ⟨#[]⟩, .string v.t, .string v.i, .slice none 0 0] := by
                  unfold uRow
                  rw [List.map_append, List.flatten_append]
                  rfl
                rw [e, List.length_append, unhide HLWS]
                refine own_keptS hown8 fun g eg hg => Below.heap_setCell w8 ⟨E, 6, none⟩ _ g (fun e2 => ?_)
                have e2 : g = E := e2
                have := (hown8.lt g eg).1
                omega
              have HREL := hide (And.intro hown9 (And.intro (heap_setCell_same w8 E 6 _ _ (.slice ko8 kn8 kc8) E8) (And.intro ((Below.heap_setCell w8 ⟨E, 6, none⟩ (.slice ko8 kn8 kc8) U (Nat.ne_of_lt hUE')).trans U8) (B8.setCell (p := ⟨E, 6, none⟩) hE1 (.slice ko8 kn8 kc8)))))
              clear hown8 hgrow hown9 E8 U8 hlow HOW9 hE9 hU9 h9 b9
              go_wp2
              go_roundw
              case rel => exact ⟨j + 1, ws ++ [v], .slice ko8 kn8 kc8, by go_num, by omega, congrArg Value.bool (any_push (f u) ws v _ z (unhide HWT) (unhide HZv)), by rw [List.length_append, unhide HLWS]; rfl, (unhide HREL).2.2.2, (unhide HREL).2.2.1, (unhide HREL).2.1, (unhide HREL).1⟩
              case measure =>
                simp only [intOf]
                omega
        · clear qx0 qx1 qx2 hc4 q0 q1 qs0 qs1 qsf
          obtain ⟨wb4, U4, E4', B4⟩ := unhide HS9
          obtain ⟨v, hv⟩ : ∃ v : U2, v = ⟨x.t, x.i⟩ := ⟨_, rfl⟩
          have HTW := hide (show w4.heap[X + 1]? = some (.cells #[.string v.t, .string v.i] 28 (0, 0)) by rw [hv]; exact wb4)
          have HTU := hide U4
          have HTE := hide E4'
          have HTO := OW4
          have HTB := hide B4
          clear wb4 hv U4 E4' B4 OW4 HS9
          have UA := unhide HTU
          have EA := unhide HTE
          have OWA := hide (unhide HTO)
          have WA := unhide HTW
          have BA := unhide HTB
          have qw0 : w4.cell? ⟨(X + 1), 0, none⟩ = some (.string v.t) := by rw [Lib.cell_of_heap WA]; rfl
          have qw1 : w4.cell? ⟨(X + 1), 1, none⟩ = some (.string v.i) := by rw [Lib.cell_of_heap WA]; rfl
          have b5 := ev1 w4 (.cells #[.int .i64 4, .bool false, .int .i64 0, .string ⟨#[]⟩, .string v.t, .string v.i, .slice none 0 0] 36)
          have o5 := alloc_heap w4 (.cells #[.int .i64 4, .bool false, .int .i64 0, .string ⟨#[]⟩, .string v.t, .string v.i, .slice none 0 0] 36)
          have U5 := kept_of_below b5 UA
          have E5 := kept_of_below b5 EA
          have W5 := kept_of_below b5 WA
          have OW5 := hide (own_keptS (unhide OWA) fun g _ hg => b5.block g hg)
          have B5 := BA.trans (b5.mono BA.size)
          obtain ⟨O, hOd⟩ : ∃ O, O = w4.heap.size := ⟨_, rfl⟩
          have HS5 := hide (And.intro o5 (And.intro U5 (And.intro E5 (And.intro W5 (And.intro B5 OW5)))))
          clear o5 U5 E5 W5 B5 OW5 b5 UA EA WA OWA BA HTU HTE HTO HTW HTB
          go_upto_region 17 with fail
          clear qw0 qw1
          obtain ⟨o5, U5, E5, W5, B5, OW5⟩ := unhide HS5
          clear HS5
          generalize w4.alloc _ = w5 at *
          rw [← hOd] at o5 ⊢
          clear hOd
          have qu0 : w5.cell? ⟨U, 0, none⟩ = some (.string u.t) := by rw [Lib.cell_of_heap U5]; rfl
          have qu1 : w5.cell? ⟨U, 1, none⟩ = some (.string u.i) := by rw [Lib.cell_of_heap U5]; rfl
          have oo0 : w5.cell? ⟨O, 0, none⟩ = some (.int .i64 4) := by rw [Lib.cell_of_heap o5]; rfl
          have oo1 : w5.cell? ⟨O, 1, none⟩ = some (.bool false) := by rw [Lib.cell_of_heap o5]; rfl
          have oo2 : w5.cell? ⟨O, 2, none⟩ = some (.int .i64 0) := by rw [Lib.cell_of_heap o5]; rfl
          have oo3 : w5.cell? ⟨O, 3, none⟩ = some (.string ⟨#[]⟩) := by rw [Lib.cell_of_heap o5]; rfl
          have oo4 : w5.cell? ⟨O, 4, none⟩ = some (.string v.t) := by rw [Lib.cell_of_heap o5]; rfl
          have oo5 : w5.cell? ⟨O, 5, none⟩ = some (.string v.i) := by rw [Lib.cell_of_heap o5]; rfl
          have oo6 : w5.cell? ⟨O, 6, none⟩ = some (.slice none 0 0) := by rw [Lib.cell_of_heap o5]; rfl
          have b6 := ev1 w5 (.cells #[.int .i64 4, .bool false, .int .i64 0, .string ⟨#[]⟩, .string u.t, .string u.i, .slice none 0 0, .int .i64 4, .bool false, .int .i64 0, .string ⟨#[]⟩, .string v.t, .string v.i, .slice none 0 0] 36)
          have k6 := alloc_heap w5 (.cells #[.int .i64 4, .bool false, .int .i64 0, .string ⟨#[]⟩, .string u.t, .string u.i, .slice none 0 0, .int .i64 4, .bool false, .int .i64 0, .string ⟨#[]⟩, .string v.t, .string v.i, .slice none 0 0] 36)
          have B6 := B5.trans (b6.mono B5.size)
          obtain ⟨z, hzv⟩ : ∃ z, z = f u v := ⟨_, rfl⟩
          have CO := expr13_pl ⟨zU, zU, zU, ps, f⟩ (some ⟨b, off, none⟩) gs gs.length gcap (inT (uT u) (uT v)) ⟨22, false, 0, ⟨#[]⟩, ⟨#[]⟩, ⟨#[]⟩, some ⟨w5.heap.size, 0, none⟩, 2, 2⟩ _ rfl (unhide HEW _ B6) (isE_node (s := []) (t := []) (i := []) rfl (isEs_block [uR u, uR v] [uT u, uT v] k6 rfl (.cons (isE_u _ u) (.cons (isE_u _ v) .nil)))) (okEv_in (okEv_u u) (okEv_u v)) (show _ = EvR.inlB z by rw [hzv]; exact eval_in1 _ u v)
          rw [show (ofP (.bool z)).val = .agg #[.int .i64 1, .bool z, .int .i64 0, .string ⟨#[]⟩, .string ⟨#[]⟩, .string ⟨#[]⟩, .slice none 0 0] from rfl] at CO
          have HZv := hide hzv
          clear hzv
          go_wp2_with fail
          generalize w5.alloc _ = w6 at *
          refine CO.mono ?_
          clear CO qu0 qu1 oo0 oo1 oo2 oo3 oo4 oo5 oo6 k6
          rintro _ w7 ⟨rfl, b7⟩
          have b57 := b6.trans (b7.mono b6.size)
          have b8 := ev1 w7 (.cells #[.int .i64 1, .bool z, .int .i64 0, .string ⟨#[]⟩, .string ⟨#[]⟩, .string ⟨#[]⟩, .slice none 0 0] 39)
          have v8 := alloc_heap w7 (.cells #[.int .i64 1, .bool z, .int .i64 0, .string ⟨#[]⟩, .string ⟨#[]⟩, .string ⟨#[]⟩, .slice none 0 0] 39)
          have b58 := b57.trans (b8.mono b57.size)
          have BV := B5.trans (b58.mono B5.size)
          obtain ⟨V, hVd⟩ : ∃ V, V = w7.heap.size := ⟨_, rfl⟩
          have HS8 := hide (And.intro v8 (And.intro (kept_of_below b58 o5) (And.intro (kept_of_below b58 U5) (And.intro (kept_of_below b58 E5) (And.intro (kept_of_below b58 W5) (And.intro BV (own_keptS (unhide OW5) fun g _ hg => b58.block g hg)))))))
          clear v8 BV b8 b58 b57 b7 b6 B6 U5 E5 W5 o5 OW5 B5
          go_upto_region 18 with fail
          obtain ⟨v8, oV, uV, eV, wV5, BV, owV⟩ := unhide HS8
          clear HS8
          generalize w7.alloc _ = wV at *
          rw [← hVd] at v8 ⊢
          clear hVd
          have v1 : wV.cell? ⟨V, 1, none⟩ = some (.bool z) := by rw [Lib.cell_of_heap v8]; rfl
          have qu0 : wV.cell? ⟨U, 0, none⟩ = some (.string u.t) := by rw [Lib.cell_of_heap uV]; rfl
          have qu1 : wV.cell? ⟨U, 1, none⟩ = some (.string u.i) := by rw [Lib.cell_of_heap uV]; rfl
          have qw0 : wV.cell? ⟨(X + 1), 0, none⟩ = some (.string v.t) := by rw [Lib.cell_of_heap wV5]; rfl
          have qw1 : wV.cell? ⟨(X + 1), 1, none⟩ = some (.string v.i) := by rw [Lib.cell_of_heap wV5]; rfl
          have hVl : V < wV.heap.size := (Array.getElem?_eq_some_iff.1 v8).1
          have hUl : U < wV.heap.size := (Array.getElem?_eq_some_iff.1 uV).1
          have hWl : X + 1 < wV.heap.size := (Array.getElem?_eq_some_iff.1 wV5).1
          have HEV := hide eV
          have HUV := hide uV
          have HOV := hide oV
          have HVV := hide v8
          have HOWV := hide owV
          have C9 := fun w' (hb : Below wV.heap.size wV w') => unhide H9 w' (BV.trans (hb.mono BV.size)) gcap u v
          rw [← unhide HZv] at C9
          clear eV uV oV v8 owV wV5
          refine wp_specsH 11 (fun _ => true) (einSp V z (some ⟨b, off, none⟩) gs.length gcap u v) (fun _ _ w' => Below wV.heap.size wV w') (by kernel_rfl) (by kernel_rfl) (by kernel_rfl) (Below.refl _ wV).drew ?_ ?_ ?_ ?_ ?_ ?_
          · intro i o ho a' w' hdep
            match i, ho with
            | 0, ho =>
              cases ho
              exact want_none rfl
            | 1, ho =>
              cases ho
              exact want_none rfl
            | 2, ho =>
              cases ho
              exact want_none rfl
            | 3, ho =>
              cases ho
              exact want_some rfl (by kernel_rfl) (show a'.tmps.getD 96 undef = .bool false from hdep 2 (by decide) (by kernel_rfl))
            | 4, ho =>
              cases ho
              exact want_some rfl (by kernel_rfl) (show a'.tmps.getD 96 undef = .bool false from hdep 2 (by decide) (by kernel_rfl))
            | 5, ho =>
              cases ho
              exact want_some rfl (by kernel_rfl) (show a'.tmps.getD 96 undef = .bool false from hdep 2 (by decide) (by kernel_rfl))
            | 6, ho =>
              cases ho
              exact want_some rfl (by kernel_rfl) (show a'.tmps.getD 96 undef = .bool false from hdep 2 (by decide) (by kernel_rfl))
            | 7, ho =>
              cases ho
              exact want_some rfl (by kernel_rfl) (show a'.tmps.getD 96 undef = .bool false from hdep 2 (by decide) (by kernel_rfl))
            | 8, ho =>
              cases ho
              exact want_some rfl (by kernel_rfl) (show a'.tmps.getD 96 undef = .bool false from hdep 2 (by decide) (by kernel_rfl))
            | 9, ho =>
              cases ho
              exact want_some rfl (by kernel_rfl) (show a'.tmps.getD 96 undef = .bool false from hdep 2 (by decide) (by kernel_rfl))
            | 10, ho =>
              cases ho
              exact want_none rfl
            | i + 11, ho => exact absurd (List.getElem?_eq_some_iff.1 ho).1 (by simp)
          · intro i o hi' ho hwf
            cases hwf
          · intro i hi
            rfl
          · intro i o hi' hwi ho L a' w' hL hw hR hdep hslot hsz K hK
            have y1 : w'.cell? ⟨V, 1, none⟩ = some (.bool z) := (hR.cell (p := ⟨V, 1, none⟩) hVl).trans v1
            have y2 : w'.cell? ⟨U, 0, none⟩ = some (.string u.t) := (hR.cell (p := ⟨U, 0, none⟩) hUl).trans qu0
            have y3 : w'.cell? ⟨U, 1, none⟩ = some (.string u.i) := (hR.cell (p := ⟨U, 1, none⟩) hUl).trans qu1
            have y4 : w'.cell? ⟨X + 1, 0, none⟩ = some (.string v.t) := (hR.cell (p := ⟨X + 1, 0, none⟩) hWl).trans qw0
            have y5 : w'.cell? ⟨X + 1, 1, none⟩ = some (.string v.i) := (hR.cell (p := ⟨X + 1, 1, none⟩) hWl).trans qw1
            match i, hi' with
            | 0, _ =>
              cases ho
              have o0 : a'.tmps.getD 16 undef = .int .i64 0 := hslot 16 (by decide)
              clear C9 hsz
              unfold Oper.wp
              go_simp
              exact hK _ _ rfl hR (fun _ _ h => h)
            | 1, _ =>
              cases ho
              have e0 : a'.tmps.getD 94 undef = .int .i64 0 := hdep 0 (by decide) (by kernel_rfl)
              have e0' : a'.tmps[94]?.getD undef = .int .i64 0 := by simpa using e0
              clear C9 hsz
              unfold Oper.wp
              go_simp
              exact hK _ _ rfl hR (fun _ _ h => h)
            | 2, _ =>
              cases ho
              have e1 : a'.tmps.getD 95 undef = .bool false := hdep 1 (by decide) (by kernel_rfl)
              have e1' : a'.tmps[95]?.getD undef = .bool false := by simpa using e1
              clear C9 hsz
              unfold Oper.wp
              go_simp
              exact hK _ _ rfl hR (fun _ _ h => h)
            | 3, _ =>
              cases ho
              have o3 : a'.tmps.getD 15 undef = .pointer (some ⟨V, 0, none⟩) := hslot 15 (by decide)
              clear C9 hsz
              unfold Oper.wp
              go_simp
              exact hK _ _ rfl hR (fun _ _ h => h)
            | 4, _ =>
              cases ho
              have e3 : a'.tmps.getD 97 undef = .pointer (some ⟨V, 1, none⟩) := hdep 3 (by decide) (by kernel_rfl)
              have e3' : a'.tmps[97]?.getD undef = .pointer (some ⟨V, 1, none⟩) := by simpa using e3
              clear C9 hsz
              unfold Oper.wp
              go_simp
              exact hK _ _ rfl hR (fun _ _ h => h)
            | 5, _ =>
              cases ho
              have o5 : a'.tmps.getD 7 undef = .slice (some ⟨b, off, none⟩) gs.length gcap := hslot 7 (by decide)
              clear C9 hsz
              unfold Oper.wp
              go_simp
              exact hK _ _ rfl hR (fun _ _ h => h)
            | 6, _ =>
              cases ho
              have o6 : a'.tmps.getD 8 undef = .pointer (some ⟨U, 0, none⟩) := hslot 8 (by decide)
              clear C9 hsz
              unfold Oper.wp
              go_simp
              exact hK _ _ rfl hR (fun _ _ h => h)
            | 7, _ =>
              cases ho
              have o7 : a'.tmps.getD 13 undef = .pointer (some ⟨X + 1, 0, none⟩) := hslot 13 (by decide)
              clear C9 hsz
              unfold Oper.wp
              go_simp
              exact hK _ _ rfl hR (fun _ _ h => h)
            | 8, _ =>
              cases ho
              have e5 : a'.tmps.getD 99 undef = .slice (some ⟨b, off, none⟩) gs.length gcap := hdep 5 (by decide) (by kernel_rfl)
              have e5' : a'.tmps[99]?.getD undef = .slice (some ⟨b, off, none⟩) gs.length gcap := by simpa using e5
              have e6 : a'.tmps.getD 100 undef = .agg #[.string u.t, .string u.i] := hdep 6 (by decide) (by kernel_rfl)
              have e6' : a'.tmps[100]?.getD undef = .agg #[.string u.t, .string u.i] := by simpa using e6
              have e7 : a'.tmps.getD 101 undef = .agg #[.string v.t, .string v.i] := hdep 7 (by decide) (by kernel_rfl)
              have e7' : a'.tmps[101]?.getD undef = .agg #[.string v.t, .string v.i] := by simpa using e7
              have C := C9 w' hR
              clear C9 hsz
              unfold Oper.wp
              go_simp
              refine C.mono ?_
              rintro e w7 ⟨rfl, b7⟩
              exact hK _ _ rfl (hR.trans (b7.mono hR.size)) (fun j u h => einSp_up j u h)
            | 9, _ =>
              cases ho
              have e4 : a'.tmps.getD 98 undef = .bool z := hdep 4 (by decide) (by kernel_rfl)
              have e4' : a'.tmps[98]?.getD undef = .bool z := by simpa using e4
              have e8 : a'.tmps.getD 102 undef = .bool z := hdep 8 (by decide) (by kernel_rfl)
              have e8' : a'.tmps[102]?.getD undef = .bool z := by simpa using e8
              cases z
              · clear C9 hsz
                unfold Oper.wp
                go_simp
                exact hK _ _ rfl hR (fun _ _ h => h)
              · clear C9 hsz
                unfold Oper.wp
                go_simp
                exact hK _ _ rfl hR (fun _ _ h => h)
            | 10, _ =>
              cases ho
              have e2 : a'.tmps.getD 96 undef = .bool false := hdep 2 (by decide) (by kernel_rfl)
              have e2' : a'.tmps[96]?.getD undef = .bool false := by simpa using e2
              have e9 : a'.tmps.getD 103 undef = .bool false := hdep 9 (by decide) (by kernel_rfl)
              have e9' : a'.tmps[103]?.getD undef = .bool false := by simpa using e9
              clear C9 hsz
              unfold Oper.wp
              go_simp
              exact hK _ _ rfl hR (fun _ _ h => h)
            | i + 11, h => exact absurd h (by omega)
          · intro i o hi' ho
            have h := (List.getElem?_eq_some_iff.1 ho).1
            simp only [List.length_cons, List.length_nil] at h
            omega
          · intro vv L wE hall hR hsp
            have bE := hR
            have s0 : vv 0 = .int .i64 0 := hsp 0 (by decide)
            have s1 : vv 1 = .bool false := hsp 1 (by decide)
            have s2 : vv 2 = .bool false := hsp 2 (by decide)
            have s3 : vv 3 = .pointer (some ⟨V, 1, none⟩) := hsp 3 (by decide)
            have s4 : vv 4 = .bool z := hsp 4 (by decide)
            have s5 : vv 5 = .slice (some ⟨b, off, none⟩) gs.length gcap := hsp 5 (by decide)
            have s6 : vv 6 = .agg #[.string u.t, .string u.i] := hsp 6 (by decide)
            have s7 : vv 7 = .agg #[.string v.t, .string v.i] := hsp 7 (by decide)
            have s8 : vv 8 = .bool z := hsp 8 (by decide)
            have s9 : vv 9 = .bool false := hsp 9 (by decide)
            have s10 : vv 10 = .bool false := hsp 10 (by decide)
            clear hR hall hsp C9
            simp only [putAll, dstOf, List.getElem?_cons_zero, List.getElem?_cons_succ, Option.bind_some, s0, s1, s2, s3, s4, s5, s6, s7, s8, s9, s10]
            clear s0 s1 s2 s3 s4 s5 s6 s7 s8 s9 s10
            simp only [Act.put, List.setIfInBounds_toArray, List.set_cons_succ, List.set_cons_zero]
            have hE := hide (kept_of_below bE (unhide HEV))
            have hU := hide (kept_of_below bE (unhide HUV))
            have hO := kept_of_below bE (unhide HOV)
            have hV := kept_of_below bE (unhide HVV)
            have HOW := hide (own_keptS (unhide HOWV) fun g _ hg => bE.block g hg)
            have BE := BV.trans (bE.mono BV.size)
            have hElt : E < wE.heap.size := (Array.getElem?_eq_some_iff.1 (unhide hE)).1
            clear v1 qu0 qu1 qw0 qw1 HEV HUV HOV HVV HOWV
            have v1 : wE.cell? ⟨V, 1, none⟩ = some (.bool z) := by rw [Lib.cell_of_heap hV]; rfl
            have oo0 : wE.cell? ⟨O, 0, none⟩ = some (.int .i64 4) := by rw [Lib.cell_of_heap hO]; rfl
            have oo1 : wE.cell? ⟨O, 1, none⟩ = some (.bool false) := by rw [Lib.cell_of_heap hO]; rfl
            have oo2 : wE.cell? ⟨O, 2, none⟩ = some (.int .i64 0) := by rw [Lib.cell_of_heap hO]; rfl
            have oo3 : wE.cell? ⟨O, 3, none⟩ = some (.string ⟨#[]⟩) := by rw [Lib.cell_of_heap hO]; rfl
            have oo4 : wE.cell? ⟨O, 4, none⟩ = some (.string v.t) := by rw [Lib.cell_of_heap hO]; rfl
            have oo5 : wE.cell? ⟨O, 5, none⟩ = some (.string v.i) := by rw [Lib.cell_of_heap hO]; rfl
            have oo6 : wE.cell? ⟨O, 6, none⟩ = some (.slice none 0 0) := by rw [Lib.cell_of_heap hO]; rfl
            have ee0 : wE.cell? ⟨E, 0, none⟩ = some (.int .i64 6) := by rw [Lib.cell_of_heap (unhide hE)]; rfl
            have ee1 : wE.cell? ⟨E, 1, none⟩ = some (.bool false) := by rw [Lib.cell_of_heap (unhide hE)]; rfl
            have ee2 : wE.cell? ⟨E, 2, none⟩ = some (.int .i64 0) := by rw [Lib.cell_of_heap (unhide hE)]; rfl
            have ee3 : wE.cell? ⟨E, 3, none⟩ = some (.string ⟨#[]⟩) := by rw [Lib.cell_of_heap (unhide hE)]; rfl
            have ee4 : wE.cell? ⟨E, 4, none⟩ = some (.string ⟨#[]⟩) := by rw [Lib.cell_of_heap (unhide hE)]; rfl
            have ee5 : wE.cell? ⟨E, 5, none⟩ = some (.string ⟨#[]⟩) := by rw [Lib.cell_of_heap (unhide hE)]; rfl
            have ee6 : wE.cell? ⟨E, 6, none⟩ = some (kv) := by rw [Lib.cell_of_heap (unhide hE)]; rfl
            have b9 := ev1 wE (.cells #[.int .i64 4, .bool false, .int .i64 0, .string ⟨#[]⟩, .string v.t, .string v.i, .slice none 0 0] 36)
            have h9 := alloc_heap wE (.cells #[.int .i64 4, .bool false, .int .i64 0, .string ⟨#[]⟩, .string v.t, .string v.i, .slice none 0 0] 36)
            have HOW9 := hide (own_keptS (unhide HOW) fun g _ hg => b9.block g hg)
            have hE9 := hide (kept_of_below b9 (unhide hE))
            have hU9 := hide (kept_of_below b9 (unhide hU))
            have B9 := BE.trans (b9.mono BE.size)
            have HLW := hide hlw
            clear hO hV HOW hE hU bE
            cases wt with
            | false =>
              go_wp2_with (at_builtin; refine wpList_append_own_at _ rfl _ _ 34 rfl (E + 1) 36 iX _ 7 96 Tryz.underlying34 hiX xz0 xz1 xz2 rfl (by decide) _ _ _ rfl (unhide HOW9) ⟨wE.heap.size, 0, none⟩ 1 1 [.int .i64 4, .bool false, .int .i64 0, .string ⟨#[]⟩, .string v.t, .string v.i, .slice none 0 0] rfl rfl ?p1 ?p2 ?p3 ?p4 ?p5 ?_)
              case p1 =>
                intro c u hu
                rw [Addr.add_lit, Nat.zero_add, Lib.cell_of_heap h9]
                simpa using hu
              case p2 =>
                intro u hu
                simp only [List.mem_cons, List.not_mem_nil, or_false] at hu
                rcases hu with rfl | rfl | rfl | rfl | rfl | rfl | rfl <;> rfl
              case p3 => have := unhide HLW; unfold maxLen; omega
              case p4 => have := unhide HLW; omega
              case p5 => have := b9.size; omega
              intro v8 w8 hown8 hgrow _ _
              have B8 : Below w1.heap.size w1 w8 := B9.grown hgrow B9.size (fun g e => by have := ((unhide HOW9).lt g e).1; omega)
              have hlow : ∀ K cs T, K ≤ E → (wE.alloc (.cells #[.int .i64 4, .bool false, .int .i64 0, .string ⟨#[]⟩, .string v.t, .string v.i, .slice none 0 0] 36)).heap[K]? = some (Obj.cells cs T (0, 0)) → w8.heap[K]? = some (Obj.cells cs T (0, 0)) := fun K cs T hK h => (hgrow.block K (Array.getElem?_eq_some_iff.1 h).1 (fun e => by have := ((unhide HOW9).lt K e.symm).1; omega)).trans h
              have E8 := hlow E _ _ (Nat.le_refl _) (unhide hE9)
              have U8 := hlow U _ _ hUE (unhide hU9)
              obtain ⟨ko8, kn8, kc8, rfl⟩ : ∃ ao n c, v8 = .slice ao n c := by
                rcases hown8.2 with ⟨hv, _⟩ | ⟨g, cap, cur, hv, _⟩
                · exact ⟨_, _, _, hv⟩
                · exact ⟨_, _, _, hv⟩
              have e8 : w8.cell? ⟨E, 6, none⟩ = some kv := by rw [Lib.cell_of_heap E8]; rfl
              have f8 : w8.frozen? ⟨E, 6, none⟩ = false := Lib.frozen_of_heap E8 6
              have hown9 : (w8.setCell ⟨E, 6, none⟩ (.slice ko8 kn8 kc8)).ownsRow (E + 1) 36 7 (.slice ko8 kn8 kc8) (ws ++ [v]).length (uRow (ws ++ [v])).flatten := by
                have e : (uRow (ws ++ [v])).flatten = (uRow ws).flatten ++ [.int .i64 4, .bool false, .int .i64 0, .string ⟨#[]⟩, .string v.t, .string v.i, .slice none 0 0] := by
                  unfold uRow
                  rw [List.map_append, List.flatten_append]
                  rfl
                rw [e, List.length_append, unhide HLWS]
                refine own_keptS hown8 fun g eg hg => Below.heap_setCell w8 ⟨E, 6, none⟩ _ g (fun e2 => ?_)
                have e2 : g = E := e2
                have := (hown8.lt g eg).1
                omega
              have HREL := hide (And.intro hown9 (And.intro (heap_setCell_same w8 E 6 _ _ (.slice ko8 kn8 kc8) E8) (And.intro ((Below.heap_setCell w8 ⟨E, 6, none⟩ (.slice ko8 kn8 kc8) U (Nat.ne_of_lt hUE')).trans U8) (B8.setCell (p := ⟨E, 6, none⟩) hE1 (.slice ko8 kn8 kc8)))))
              clear hown8 hgrow hown9 E8 U8 hlow HOW9 hE9 hU9 h9 b9
              go_wp2
              go_roundw
              case rel => exact ⟨j + 1, ws ++ [v], .slice ko8 kn8 kc8, by go_num, by omega, congrArg Value.bool (any_push (f u) ws v _ z (unhide HWT) (unhide HZv)), by rw [List.length_append, unhide HLWS]; rfl, (unhide HREL).2.2.2, (unhide HREL).2.2.1, (unhide HREL).2.1, (unhide HREL).1⟩
              case measure =>
                simp only [intOf]
                omega
            | true =>
              go_wp2_with (at_builtin; refine wpList_append_own_at _ rfl _ _ 34 rfl (E + 1) 36 iX _ 7 96 Tryz.underlying34 hiX xz0 xz1 xz2 rfl (by decide) _ _ _ rfl (unhide HOW9) ⟨wE.heap.size, 0, none⟩ 1 1 [.int .i64 4, .bool false, .int .i64 0, .string ⟨#[]⟩, .string v.t, .string v.i, .slice none 0 0] rfl rfl ?p1 ?p2 ?p3 ?p4 ?p5 ?_)
              case p1 =>
                intro c u hu
                rw [Addr.add_lit, Nat.zero_add, Lib.cell_of_heap h9]
                simpa using hu
              case p2 =>
                intro u hu
                simp only [List.mem_cons, List.not_mem_nil, or_false] at hu
                rcases hu with rfl | rfl | rfl | rfl | rfl | rfl | rfl <;> rfl
              case p3 => have := unhide HLW; unfold maxLen; omega
              case p4 => have := unhide HLW; omega
              case p5 => have := b9.size; omega
              intro v8 w8 hown8 hgrow _ _
              have B8 : Below w1.heap.size w1 w8 := B9.grown hgrow B9.size (fun g e => by have := ((unhide HOW9).lt g e).1; omega)
              have hlow : ∀ K cs T, K ≤ E → (wE.alloc (.cells #[.int .i64 4, .bool false, .int .i64 0, .string ⟨#[]⟩, .string v.t, .string v.i, .slice none 0 0] 36)).heap[K]? = some (Obj.cells cs T (0, 0)) → w8.heap[K]? = some (Obj.cells cs T (0, 0)) := fun K cs T hK h => (hgrow.block K (Array.getElem?_eq_some_iff.1 h).1 (fun e => by have := ((unhide HOW9).lt K e.symm).1; omega)).trans h
              have E8 := hlow E _ _ (Nat.le_refl _) (unhide hE9)
              have U8 := hlow U _ _ hUE (unhide hU9)
              obtain ⟨ko8, kn8, kc8, rfl⟩ : ∃ ao n c, v8 = .slice ao n c := by
                rcases hown8.2 with ⟨hv, _⟩ | ⟨g, cap, cur, hv, _⟩
                · exact ⟨_, _, _, hv⟩
                · exact ⟨_, _, _, hv⟩
              have e8 : w8.cell? ⟨E, 6, none⟩ = some kv := by rw [Lib.cell_of_heap E8]; rfl
              have f8 : w8.frozen? ⟨E, 6, none⟩ = false := Lib.frozen_of_heap E8 6
              have hown9 : (w8.setCell ⟨E, 6, none⟩ (.slice ko8 kn8 kc8)).ownsRow (E + 1) 36 7 (.slice ko8 kn8 kc8) (ws ++ [v]).length (uRow (ws ++ [v])).flatten := by
                have e : (uRow (ws ++ [v])).flatten = (uRow ws).flatten ++ [.int .i64 4, .bool false, .int .i64 0, .string ⟨#[]⟩, .string v.t, .string v.i, .slice none 0 0] := by
                  unfold uRow
                  rw [List.map_append, List.flatten_append]
                  rfl
                rw [e, List.length_append, unhide HLWS]
                refine own_keptS hown8 fun g eg hg => Below.heap_setCell w8 ⟨E, 6, none⟩ _ g (fun e2 => ?_)
                have e2 : g = E := e2
                have := (hown8.lt g eg).1
                omega
              have HREL := hide (And.intro hown9 (And.intro (heap_setCell_same w8 E 6 _ _ (.slice ko8 kn8 kc8) E8) (And.intro ((Below.heap_setCell w8 ⟨E, 6, none⟩ (.slice ko8 kn8 kc8) U (Nat.ne_of_lt hUE')).trans U8) (B8.setCell (p := ⟨E, 6, none⟩) hE1 (.slice ko8 kn8 kc8)))))
              clear hown8 hgrow hown9 E8 U8 hlow HOW9 hE9 hU9 h9 b9
              go_wp2
              go_roundw
              case rel => exact ⟨j + 1, ws ++ [v], .slice ko8 kn8 kc8, by go_num, by omega, congrArg Value.bool (any_push (f u) ws v _ z (unhide HWT) (unhide HZv)), by rw [List.length_append, unhide HLWS]; rfl, (unhide HREL).2.2.2, (unhide HREL).2.2.1, (unhide HREL).2.1, (unhide HREL).1⟩
              case measure =>
                simp only [intOf]
                omega
    · obtain rfl : j = N := by omega
      have i1 : ¬ (j : Int) < (j : Int) := by omega
      have hE := unhide HE0
      have hU := unhide HU0
      obtain ⟨ko, kc, rfl, hks⟩ := isEs_ownU (unhide HOW0) (by rw [hlw]; omega)
      have hw8 : ws.length ≤ 8 := by rw [hlw]; omega
      rw [hlw] at hE
      have hIE : IsE wr PT ⟨6, false, 0, ⟨#[]⟩, ⟨#[]⟩, ⟨#[]⟩, ko, j, kc⟩ (usT ws) := isE_node (s := []) (t := []) (i := []) (by rw [List.length_map, hlw]) hks
      have HIE := hide hIE
      have HL8 := hide hw8
      clear hIE hks HOW0 hw8
      have qu0 : wr.cell? ⟨U, 0, none⟩ = some (.string u.t) := by rw [Lib.cell_of_heap hU]; rfl
      have qu1 : wr.cell? ⟨U, 1, none⟩ = some (.string u.i) := by rw [Lib.cell_of_heap hU]; rfl
      have qe0 : wr.cell? ⟨E, 0, none⟩ = some (.int .i64 6) := by rw [Lib.cell_of_heap hE]; rfl
      have qe1 : wr.cell? ⟨E, 1, none⟩ = some (.bool false) := by rw [Lib.cell_of_heap hE]; rfl
      have qe2 : wr.cell? ⟨E, 2, none⟩ = some (.int .i64 0) := by rw [Lib.cell_of_heap hE]; rfl
      have qe3 : wr.cell? ⟨E, 3, none⟩ = some (.string ⟨#[]⟩) := by rw [Lib.cell_of_heap hE]; rfl
      have qe4 : wr.cell? ⟨E, 4, none⟩ = some (.string ⟨#[]⟩) := by rw [Lib.cell_of_heap hE]; rfl
      have qe5 : wr.cell? ⟨E, 5, none⟩ = some (.string ⟨#[]⟩) := by rw [Lib.cell_of_heap hE]; rfl
      have qe6 : wr.cell? ⟨E, 6, none⟩ = some (.slice ko j kc) := by rw [Lib.cell_of_heap hE]; rfl
      have b5 := ev1 wr (.cells #[.int .i64 4, .bool false, .int .i64 0, .string ⟨#[]⟩, .string u.t, .string u.i, .slice none 0 0, .int .i64 6, .bool false, .int .i64 0, .string ⟨#[]⟩, .string ⟨#[]⟩, .string ⟨#[]⟩, .slice ko j kc] 36)
      have k5 := alloc_heap wr (.cells #[.int .i64 4, .bool false, .int .i64 0, .string ⟨#[]⟩, .string u.t, .string u.i, .slice none 0 0, .int .i64 6, .bool false, .int .i64 0, .string ⟨#[]⟩, .string ⟨#[]⟩, .string ⟨#[]⟩, .slice ko j kc] 36)
      have B5 := bw.trans (b5.mono bw.size)
      have CO := expr13_pl ⟨zU, zU, zU, ps, f⟩ (some ⟨b, off, none⟩) gs gs.length gcap (inT (uT u) (usT ws)) ⟨22, false, 0, ⟨#[]⟩, ⟨#[]⟩, ⟨#[]⟩, some ⟨wr.heap.size, 0, none⟩, 2, 2⟩ _ rfl (unhide HEW _ B5) (isE_node (s := []) (t := []) (i := []) rfl (isEs_block [uR u, ⟨6, false, 0, ⟨#[]⟩, ⟨#[]⟩, ⟨#[]⟩, ko, j, kc⟩] [uT u, usT ws] k5 rfl (.cons (isE_u _ u) (.cons (liftX (unhide HIE) b5) .nil)))) (okEv_in (okEv_u u) (okEv_us ws (unhide HL8))) (show _ = EvR.inlB wt by rw [unhide HWT]; exact eval_inS _ u ws (unhide HL8))
      rw [show (ofP (.bool wt)).val = .agg #[.int .i64 1, .bool wt, .int .i64 0, .string ⟨#[]⟩, .string ⟨#[]⟩, .string ⟨#[]⟩, .slice none 0 0] from rfl] at CO
      have HS5 := hide (And.intro hU hE)
      clear hU hE k5
      go_wp2_with fail
      generalize wr.alloc _ = w5 at *
      refine CO.mono ?_
      clear CO qu0 qu1 qe0 qe1 qe2 qe3 qe4 qe5 qe6
      rintro _ w6 ⟨rfl, b6⟩
      have b56 := b5.trans (b6.mono b5.size)
      have b7 := ev1 w6 (.cells #[.int .i64 1, .bool wt, .int .i64 0, .string ⟨#[]⟩, .string ⟨#[]⟩, .string ⟨#[]⟩, .slice none 0 0] 39)
      have v7 := alloc_heap w6 (.cells #[.int .i64 1, .bool wt, .int .i64 0, .string ⟨#[]⟩, .string ⟨#[]⟩, .string ⟨#[]⟩, .slice none 0 0] 39)
      have b57 := b56.trans (b7.mono b56.size)
      have B7 := bw.trans (b57.mono bw.size)
      have U7 := kept_of_below b57 (unhide HS5).1
      have E7 := kept_of_below b57 (unhide HS5).2
      have HIE7 := hide (liftX (unhide HIE) b57)
      have HS7 := hide (And.intro v7 (And.intro U7 (And.intro E7 B7)))
      clear v7 U7 E7 B7 b57 b56 b7 b6 b5 B5 HS5 HIE
      go_upto_region 23 with fail
      obtain ⟨v7, U7, E7, B7⟩ := unhide HS7
      clear HS7
      generalize w6.alloc _ = w7 at *
      have qu0 : w7.cell? ⟨U, 0, none⟩ = some (.string u.t) := by rw [Lib.cell_of_heap U7]; rfl
      have qu1 : w7.cell? ⟨U, 1, none⟩ = some (.string u.i) := by rw [Lib.cell_of_heap U7]; rfl
      have qe0 : w7.cell? ⟨E, 0, none⟩ = some (.int .i64 6) := by rw [Lib.cell_of_heap E7]; rfl
      have qe1 : w7.cell? ⟨E, 1, none⟩ = some (.bool false) := by rw [Lib.cell_of_heap E7]; rfl
      have qe2 : w7.cell? ⟨E, 2, none⟩ = some (.int .i64 0) := by rw [Lib.cell_of_heap E7]; rfl
      have qe3 : w7.cell? ⟨E, 3, none⟩ = some (.string ⟨#[]⟩) := by rw [Lib.cell_of_heap E7]; rfl
      have qe4 : w7.cell? ⟨E, 4, none⟩ = some (.string ⟨#[]⟩) := by rw [Lib.cell_of_heap E7]; rfl
      have qe5 : w7.cell? ⟨E, 5, none⟩ = some (.string ⟨#[]⟩) := by rw [Lib.cell_of_heap E7]; rfl
      have qe6 : w7.cell? ⟨E, 6, none⟩ = some (.slice ko j kc) := by rw [Lib.cell_of_heap E7]; rfl
      have b8 := ev1 w7 (.cells #[.int .i64 6, .bool false, .int .i64 0, .string ⟨#[]⟩, .string ⟨#[]⟩, .string ⟨#[]⟩, .slice ko j kc, .int .i64 4, .bool false, .int .i64 0, .string ⟨#[]⟩, .string u.t, .string u.i, .slice none 0 0] 36)
      have k8 := alloc_heap w7 (.cells #[.int .i64 6, .bool false, .int .i64 0, .string ⟨#[]⟩, .string ⟨#[]⟩, .string ⟨#[]⟩, .slice ko j kc, .int .i64 4, .bool false, .int .i64 0, .string ⟨#[]⟩, .string u.t, .string u.i, .slice none 0 0] 36)
      have B8 := B7.trans (b8.mono B7.size)
      have CO := expr13_err ⟨zU, zU, zU, ps, f⟩ (some ⟨b, off, none⟩) gs gs.length gcap (inT (usT ws) (uT u)) ⟨22, false, 0, ⟨#[]⟩, ⟨#[]⟩, ⟨#[]⟩, some ⟨w7.heap.size, 0, none⟩, 2, 2⟩ _ rfl (unhide HEW _ B8) (isE_node (s := []) (t := []) (i := []) rfl (isEs_block [⟨6, false, 0, ⟨#[]⟩, ⟨#[]⟩, ⟨#[]⟩, ko, j, kc⟩, uR u] [usT ws, uT u] k8 rfl (.cons (liftX (unhide HIE7) b8) (.cons (isE_u _ u) .nil)))) (okEv_in (okEv_us ws (unhide HL8)) (okEv_u u)) (eval_inL _ u ws (unhide HL8))
      have v8 := kept_of_below b8 v7
      clear v7 U7 E7 k8 b8
      go_wp2_with fail
      generalize w7.alloc _ = w8 at *
      refine CO.mono ?_
      clear CO qu0 qu1 qe0 qe1 qe2 qe3 qe4 qe5 qe6
      rintro _ w9 ⟨rfl, b9⟩
      have v9 := kept_of_below b9 v8
      have B9 := B8.trans (b9.mono B8.size)
      have bA := ev1 w9 (.cells #[.int .i64 0, .bool false, .int .i64 0, .string ⟨#[]⟩, .string ⟨#[]⟩, .string ⟨#[]⟩, .slice none 0 0] 39)
      have vA := kept_of_below bA v9
      have BA := b1.trans ((B9.trans (bA.mono B9.size)).mono b1.size)
      clear v8 v9 bA
      go_upto_region 24 with fail
      generalize w9.alloc _ = wA at *
      have y1 : wA.cell? ⟨w6.heap.size, 1, none⟩ = some (.bool wt) := by rw [Lib.cell_of_heap vA]; rfl
      clear vA
      cases wt with
      | false =>
        go_wp2
        go_ret
        exact ⟨rfl, BA⟩
      | true =>
        go_wp2
        go_ret
        exact ⟨rfl, BA⟩
end Go.Proofs.YtpenhajbihlnjaaGreat
