/-
  chancellaw13.EvalHas: the walk.
-/
import Derived.Test.YtonfanfggfjbdaaGreatEvU
import Derived.Test.YtonfanfggfjbdaaGreatGdAE
import Derived.Test.YtonfanfggfjbdaaGreatMpMN
import Derived.Deep.CutRange
namespace Go.Proofs.YtonfanfggfjbdaaGreat
open Go.RowKit Go.Sort

def nmH7 : List (List UInt8) := [[97], [97, 103, 101], [105, 102], [99, 111, 110, 116, 97, 105, 110, 115], [112, 114, 105, 110, 99, 105, 112, 97, 108], [95, 120], [110, 97, 109, 101]]
theorem nmH7_len : ∀ m (h : m < 7), (nmH7[m]'h).length < 4294967281 := fun m h => by
  have h2 : ∀ l ∈ nmH7, l.length < 4294967281 := by decide
  exact h2 _ (List.getElem_mem _)
theorem attrC_err (ps : List EntP) (u : U2) (n : ByteArray) : errC (attrC ps u n) ≠ 16 := by
  unfold attrC
  split
  · decide
  · split
    · decide
    · exact show (0 : Int) ≠ 16 by decide
theorem eval_has (D : EvD) (s t i : List UInt8) : evalE D (eTx 8 s [eUid t i]) = .inl (.pl (.bool (errC (attrC D.ps ⟨ba t, ba i⟩ (ba s)) == 0))) := by
  show hasC D.ps (.pl (.uid t i)) (ba s) = _
  unfold hasC
  rw [show getC D.ps (.pl (.uid t i)) (ba s) = attrC D.ps ⟨ba t, ba i⟩ (ba s) from rfl, if_neg (attrC_err _ _ _)]
  rfl
theorem eval_get (D : EvD) (s t i : List UInt8) : evalE D (eTx 7 s [eUid t i]) = attrC D.ps ⟨ba t, ba i⟩ (ba s) := rfl
theorem okEv_has (k : Int) (s t i : List UInt8) (h : s.length < 4294967281) : okEv (eTx k s [eUid t i]) = true := by
  have h0 : InR 0 := by decide
  unfold eTx eUid
  simp [okEv, okEvL, h, h0]
set_option maxHeartbeats 8000000 in
set_option maxRecDepth 1000000 in
theorem ehas_walk (lo : Option Addr) (rs : List EntR) (lc : Nat) (n name : Int) (there : Bool) (w : World) (hl : rs.length ≤ 9223372036854775807) (hr : RowEnt w lo rs) (hf : FitL w) :
    Calls Tryz.prog 6 #[.slice lo rs.length lc, .int .i64 n, .int .i64 name, .bool there] w fun e w' => e = .returned (.bool true) ∧ Below w.heap.size w w' := by
  have HR := hide hr
  clear hr
  obtain ⟨m, hm⟩ : ∃ m : Nat, (m : Int) = name % 7 := ⟨(name % 7).toNat, by omega⟩
  have CM := fun w' => within13_any name 7 (by decide) (by decide) w'
  rw [← hm] at CM
  have hm7 : m < 7 := by omega
  clear hm
  have m0 : (0 : Int) ≤ (m : Int) := by omega
  have m1 : (m : Int) < 7 := by omega
  go_enter Tryz.func6, Tryz.ntmps6
  go_wp2_with fail
  refine (known13_any w hf).mono ?_
  rintro _ w0 ⟨rfl, b0⟩
  have G := good8_any lo rs lc w0 hl ((unhide HR).below b0)
  have HOK := hide (unhide HR).2
  obtain ⟨f, hfw⟩ := way_dec (upS (goodsL rs))
  have HEWG := hide (fun (wx : World) (go : Option Addr) (gs : List E4) (h1 : RowG wx go 4 (gs.map E4.cells)) (h2 : AllEnt wx (fun _ => True) gs (goodsL rs)) (h3 : FitL wx) => ew_goods (p := zU) (a := zU) (r := zU) (unhide HOK) h1 h2 h3 hfw)
  have hps12 := goodsL_len rs
  have HPL := hide (goodsL_fits rs)
  generalize goodsL rs = ps at *
  clear HOK hfw
  go_wp2_with fail
  refine G.mono ?_
  clear G
  rintro _ w1 ⟨b01, go, gcap, gs, rfl, hgr, hgA, hgc, hgn⟩
  have b1 := b0.trans (b01.mono b0.size)
  have hgl : gs.length ≤ 12 := by rw [hgA.1]; exact hps12
  have HGR := hide hgr
  have HGA := hide hgA
  have HEW := hide (unhide HEWG w1 go gs hgr hgA (hf.below b1))
  clear hgr hgA hgn b01 b0 hgc HEWG hf HR
  obtain ⟨z, hz⟩ : ∃ z, z = (there && decide (0 < gs.length)) := ⟨_, rfl⟩
  have HZ := hide hz
  clear hz
  have b2 := ev1 w1 (.cells #[.string ⟨#[85, 115, 101, 114]⟩, .string ⟨#[110, 111, 116, 32, 104, 101, 114, 101]⟩] 32)
  have hU := alloc_heap w1 (.cells #[.string ⟨#[85, 115, 101, 114]⟩, .string ⟨#[110, 111, 116, 32, 104, 101, 114, 101]⟩] 32)
  go_upto_region 5 with fail
  generalize w1.alloc _ = w2 at *
  go_cut [29] from 24 to 29 (fun c wx => c = .bool z ∧ wx = w2)
  case first =>
    cases there
    · have HZ2 := hide (show false = z by rw [unhide HZ]; rfl)
      go_wp2_with fail
      go_meet
      case rel => exact ⟨by rw [← unhide HZ2], rfl⟩
    · by_cases h0 : 0 < gs.length
      · have g0 : (0 : Int) < (gs.length : Int) := by omega
        have HZ2 := hide (show true = z by rw [unhide HZ, decide_eq_true h0]; rfl)
        go_wp2_with fail
        go_meet
        case rel => exact ⟨by rw [← unhide HZ2], rfl⟩
      · have g0 : ¬ (0 : Int) < (gs.length : Int) := by omega
        have HZ2 := hide (show false = z by rw [unhide HZ, decide_eq_false h0]; rfl)
        go_wp2_with fail
        go_meet
        case rel => exact ⟨by rw [← unhide HZ2], rfl⟩
  case rest =>
    rename World => wx
    obtain ⟨rfl, rfl⟩ := hcut
    go_upto_if 29 with fail
    go_cut [] from 24 to 37 (fun wy => ∃ ut ui : List UInt8, Below w1.heap.size w1 wy ∧ wy.heap[w1.heap.size]? = some (.cells #[.string (ba ut), .string (ba ui)] 32 (0, 0)))
    case first =>
      cases z
      · go_wp2_with fail
        go_meet
        case rel => exact ⟨[85, 115, 101, 114], [110, 111, 116, 32, 104, 101, 114, 101], b2, hU⟩
      · have h0 : 0 < gs.length := of_decide_eq_true (Bool.and_eq_true_iff.1 (unhide HZ).symm).2
        have W := within13_any n gs.length (by omega) (by omega) wx
        obtain ⟨i0, hi0, hlt⟩ : ∃ i0 : Nat, n % (gs.length : Int) = i0 ∧ i0 < gs.length := by
          have h1 := Int.emod_nonneg n (b := (gs.length : Int)) (by omega)
          have h2 := Int.emod_lt_of_pos n (b := (gs.length : Int)) (by omega)
          exact ⟨(n % (gs.length : Int)).toNat, by omega, by omega⟩
        rw [hi0] at W
        clear hi0 h0
        have k0 : (0 : Int) ≤ (i0 : Int) := by omega
        have k1 : (i0 : Int) < (gs.length : Int) := by omega
        obtain ⟨b, off, rfl, hb, hcx⟩ := rowG_at (unhide HGR) b2 hlt
        have A : AtE4 wx b (off + i0 * 4) gs[i0] := AtE4.of hcx
        obtain ⟨x, hx⟩ : ∃ x, x = gs[i0] := ⟨_, rfl⟩
        rw [← hx] at A
        obtain ⟨a0, a1, a2, a3⟩ := A
        clear hx hcx a2 a3
        go_wp2_with fail
        refine W.mono ?_
        clear W
        rintro _ w1' ⟨rfl, hw1⟩
        rw [hw1]
        clear hw1
        have d0 : wx.cell? ⟨w1.heap.size, 0, none⟩ = some (.string ⟨#[85, 115, 101, 114]⟩) := by rw [Lib.cell_of_heap hU]; rfl
        have d1 : wx.cell? ⟨w1.heap.size, 1, none⟩ = some (.string ⟨#[110, 111, 116, 32, 104, 101, 114, 101]⟩) := by rw [Lib.cell_of_heap hU]; rfl
        have df : ∀ o, wx.frozen? ⟨w1.heap.size, o, none⟩ = false := fun o => Lib.frozen_of_heap hU o
        have HS := hide (heap_setCell_same _ w1.heap.size 1 _ _ (.string x.i) (heap_setCell_same wx w1.heap.size 0 _ _ (.string x.t) hU))
        have HB := hide ((b2.setCell (p := ⟨w1.heap.size, 0, none⟩) (Nat.le_refl _) (.string x.t)).setCell (p := ⟨w1.heap.size, 1, none⟩) (Nat.le_refl _) (.string x.i))
        clear hU
        go_wp2_with fail
        go_meet
        case rel => exact ⟨x.t.data.toList, x.i.data.toList, unhide HB, by rw [ba_of, ba_of]; exact unhide HS⟩
    case rest =>
      rename World => wy
      obtain ⟨ut, ui, b3, hU3⟩ := hcut
      clear hU b2
      have HEW3 := hide ((unhide HEW).below b3)
      have b13 := b1.trans (b3.mono b1.size)
      clear HEW
      -- the name
      have b4 := ev1 wy (.cells #[.string ⟨#[97]⟩, .string ⟨#[97, 103, 101]⟩, .string ⟨#[105, 102]⟩, .string ⟨#[99, 111, 110, 116, 97, 105, 110, 115]⟩, .string ⟨#[112, 114, 105, 110, 99, 105, 112, 97, 108]⟩, .string ⟨#[95, 120]⟩, .string ⟨#[110, 97, 109, 101]⟩] 9)
      have h4 := alloc_heap wy (.cells #[.string ⟨#[97]⟩, .string ⟨#[97, 103, 101]⟩, .string ⟨#[105, 102]⟩, .string ⟨#[99, 111, 110, 116, 97, 105, 110, 115]⟩, .string ⟨#[112, 114, 105, 110, 99, 105, 112, 97, 108]⟩, .string ⟨#[95, 120]⟩, .string ⟨#[110, 97, 109, 101]⟩] 9)
      have HKS := hide (show (#[Value.string ⟨#[97]⟩, Value.string ⟨#[97, 103, 101]⟩, Value.string ⟨#[105, 102]⟩, Value.string ⟨#[99, 111, 110, 116, 97, 105, 110, 115]⟩, Value.string ⟨#[112, 114, 105, 110, 99, 105, 112, 97, 108]⟩, Value.string ⟨#[95, 120]⟩, Value.string ⟨#[110, 97, 109, 101]⟩] : Array Value)[m]? = some (.string (ba (nmH7[m]'hm7))) from by
        match m, hm7 with
        | 0, _ | 1, _ | 2, _ | 3, _ | 4, _ | 5, _ | 6, _ => rfl)
      have HNL := hide (nmH7_len m hm7)
      obtain ⟨sl, hsl⟩ : ∃ sl, sl = nmH7[m]'hm7 := ⟨_, rfl⟩
      rw [← hsl] at HKS HNL
      clear hsl
      have hU4 := kept_of_below b4 hU3
      have cm : (wy.alloc (.cells #[.string ⟨#[97]⟩, .string ⟨#[97, 103, 101]⟩, .string ⟨#[105, 102]⟩, .string ⟨#[99, 111, 110, 116, 97, 105, 110, 115]⟩, .string ⟨#[112, 114, 105, 110, 99, 105, 112, 97, 108]⟩, .string ⟨#[95, 120]⟩, .string ⟨#[110, 97, 109, 101]⟩] 9)).cell? ⟨wy.heap.size, m, none⟩ = some (.string (ba sl)) := by rw [Lib.cell_of_heap h4]; exact unhide HKS
      clear h4 hU3
      go_wp2_with fail
      refine (CM _).mono ?_
      rintro _ w9 ⟨rfl, hw9⟩
      subst hw9
      clear CM
      go_upto_region 8 with fail
      generalize wy.alloc _ = wz at *
      clear cm m0 m1 HKS
      have u0 : wz.cell? ⟨w1.heap.size, 0, none⟩ = some (.string (ba ut)) := by rw [Lib.cell_of_heap hU4]; rfl
      have u1 : wz.cell? ⟨w1.heap.size, 1, none⟩ = some (.string (ba ui)) := by rw [Lib.cell_of_heap hU4]; rfl
      have b5 := ev1 wz (.cells #[.int .i64 4, .bool false, .int .i64 0, .string ⟨#[]⟩, .string (ba ut), .string (ba ui), .slice none 0 0] 42)
      have hO5 := alloc_heap wz (.cells #[.int .i64 4, .bool false, .int .i64 0, .string ⟨#[]⟩, .string (ba ut), .string (ba ui), .slice none 0 0] 42)
      have hU5 := kept_of_below b5 hU4
      have C5 := b4.trans (b5.mono b4.size)
      clear hU4 b4
      go_upto_region 9 with fail
      generalize wz.alloc _ = wa at *
      clear u0 u1
      have o0 : wa.cell? ⟨wz.heap.size, 0, none⟩ = some (.int .i64 4) := by rw [Lib.cell_of_heap hO5]; rfl
      have o1 : wa.cell? ⟨wz.heap.size, 1, none⟩ = some (.bool false) := by rw [Lib.cell_of_heap hO5]; rfl
      have o2 : wa.cell? ⟨wz.heap.size, 2, none⟩ = some (.int .i64 0) := by rw [Lib.cell_of_heap hO5]; rfl
      have o3 : wa.cell? ⟨wz.heap.size, 3, none⟩ = some (.string ⟨#[]⟩) := by rw [Lib.cell_of_heap hO5]; rfl
      have o4 : wa.cell? ⟨wz.heap.size, 4, none⟩ = some (.string (ba ut)) := by rw [Lib.cell_of_heap hO5]; rfl
      have o5 : wa.cell? ⟨wz.heap.size, 5, none⟩ = some (.string (ba ui)) := by rw [Lib.cell_of_heap hO5]; rfl
      have o6 : wa.cell? ⟨wz.heap.size, 6, none⟩ = some (.slice none 0 0) := by rw [Lib.cell_of_heap hO5]; rfl
      have b6 := ev1 wa (.cells #[.int .i64 4, .bool false, .int .i64 0, .string ⟨#[]⟩, .string (ba ut), .string (ba ui), .slice none 0 0] 42)
      have h6 := alloc_heap wa (.cells #[.int .i64 4, .bool false, .int .i64 0, .string ⟨#[]⟩, .string (ba ut), .string (ba ui), .slice none 0 0] 42)
      have C6 := C5.trans (b6.mono C5.size)
      obtain ⟨A, hA⟩ : ∃ A, A = attrC ps ⟨ba ut, ba ui⟩ (ba sl) := ⟨_, rfl⟩
      have HA := hide hA
      obtain ⟨y, hy⟩ : ∃ y, y = (errC A == 0) := ⟨_, rfl⟩
      have HY := hide hy
      have C := expr13_pl (p := .bool y) ⟨zU, zU, zU, ps, f⟩ go gs gs.length gcap (eTx 8 sl [eUid ut ui]) ⟨8, false, 0, ba sl, ⟨#[]⟩, ⟨#[]⟩, some ⟨wa.heap.size, 0, none⟩, 1, 1⟩ _ rfl ((unhide HEW3).below C6) (isE_node (s := sl) (t := []) (i := []) rfl (isEs_block [⟨4, false, 0, ⟨#[]⟩, ba ut, ba ui, none, 0, 0⟩] [eUid ut ui] h6 rfl (.cons (isE_leaf _ 4 false 0 [] ut ui 0 none) .nil))) (okEv_has 8 sl ut ui (unhide HNL)) (by rw [eval_has, hy, hA])
      rw [show (ofP (.bool y)).val = .agg #[.int .i64 1, .bool y, .int .i64 0, .string ⟨#[]⟩, .string ⟨#[]⟩, .string ⟨#[]⟩, .slice none 0 0] from rfl] at C
      clear h6 hy hA
      go_wp2_with fail
      refine C.mono ?_
      clear C
      rintro e9 wb ⟨rfl, b7⟩
      have C7 := C6.trans (b7.mono C6.size)
      have b8 := ev1 wb (.cells #[.int .i64 1, .bool y, .int .i64 0, .string ⟨#[]⟩, .string ⟨#[]⟩, .string ⟨#[]⟩, .slice none 0 0] 46)
      have hV8 := alloc_heap wb (.cells #[.int .i64 1, .bool y, .int .i64 0, .string ⟨#[]⟩, .string ⟨#[]⟩, .string ⟨#[]⟩, .slice none 0 0] 46)
      have C8 := C7.trans (b8.mono C7.size)
      have C58 := b6.trans ((b7.trans (b8.mono b7.size)).mono b6.size)
      have hO8 := kept_of_below C58 hO5
      have hU8 := kept_of_below C58 hU5
      clear o0 o1 o2 o3 o4 o5 o6 hO5 hU5
      go_upto_region 10 with fail
      generalize wb.alloc _ = wc at *
      have o0 : wc.cell? ⟨wz.heap.size, 0, none⟩ = some (.int .i64 4) := by rw [Lib.cell_of_heap hO8]; rfl
      have o1 : wc.cell? ⟨wz.heap.size, 1, none⟩ = some (.bool false) := by rw [Lib.cell_of_heap hO8]; rfl
      have o2 : wc.cell? ⟨wz.heap.size, 2, none⟩ = some (.int .i64 0) := by rw [Lib.cell_of_heap hO8]; rfl
      have o3 : wc.cell? ⟨wz.heap.size, 3, none⟩ = some (.string ⟨#[]⟩) := by rw [Lib.cell_of_heap hO8]; rfl
      have o4 : wc.cell? ⟨wz.heap.size, 4, none⟩ = some (.string (ba ut)) := by rw [Lib.cell_of_heap hO8]; rfl
      have o5 : wc.cell? ⟨wz.heap.size, 5, none⟩ = some (.string (ba ui)) := by rw [Lib.cell_of_heap hO8]; rfl
      have o6 : wc.cell? ⟨wz.heap.size, 6, none⟩ = some (.slice none 0 0) := by rw [Lib.cell_of_heap hO8]; rfl
      have b9 := ev1 wc (.cells #[.int .i64 4, .bool false, .int .i64 0, .string ⟨#[]⟩, .string (ba ut), .string (ba ui), .slice none 0 0] 42)
      have h9 := alloc_heap wc (.cells #[.int .i64 4, .bool false, .int .i64 0, .string ⟨#[]⟩, .string (ba ut), .string (ba ui), .slice none 0 0] 42)
      have C9 := C8.trans (b9.mono C8.size)
      have C := expr13_any go gs gs.length gcap ⟨zU, zU, zU, ps, f⟩ (eTx 7 sl [eUid ut ui]) ⟨7, false, 0, ba sl, ⟨#[]⟩, ⟨#[]⟩, some ⟨wc.heap.size, 0, none⟩, 1, 1⟩ _ rfl ((unhide HEW3).below C9) (isE_node (s := sl) (t := []) (i := []) rfl (isEs_block [⟨4, false, 0, ⟨#[]⟩, ba ut, ba ui, none, 0, 0⟩] [eUid ut ui] h9 rfl (.cons (isE_leaf _ 4 false 0 [] ut ui 0 none) .nil))) (okEv_has 7 sl ut ui (unhide HNL))
      rw [eval_get] at C
      simp only [zU] at C
      rw [← unhide HA] at C
      clear h9
      go_wp2_with fail
      refine C.mono ?_
      clear C
      rintro e9 wd ⟨⟨R, kk, rfl, hm⟩, b10⟩
      have HM := hide hm
      have C10 := C9.trans (b10.mono C9.size)
      have b11 := ev1 wd (.cells #[.int .i64 R.k, .bool R.b, .int .i64 R.n, .string R.s, .string R.t, .string R.i, .slice R.lo R.ll R.lc] 46)
      have hW := alloc_heap wd (.cells #[.int .i64 R.k, .bool R.b, .int .i64 R.n, .string R.s, .string R.t, .string R.i, .slice R.lo R.ll R.lc] 46)
      have C11 := C10.trans (b11.mono C10.size)
      have C8e := b9.trans ((b10.trans (b11.mono b10.size)).mono b9.size)
      have hV := kept_of_below C8e hV8
      have hU := kept_of_below C8e hU8
      clear o0 o1 o2 o3 o4 o5 o6 hO8 hU8 hV8 hm
      go_upto_region 11 with fail
      generalize wd.alloc _ = we at *
      have v0 : we.cell? ⟨wb.heap.size, 0, none⟩ = some (.int .i64 1) := by rw [Lib.cell_of_heap hV]; rfl
      have bE := b13.trans (C11.mono b13.size)
      have b1E := b3.trans (C11.mono b3.size)
      go_wp2_with fail
      clear v0
      go_loopw [17, 18] (fun iv _ wr => ∃ i : Nat, iv = .int .i64 i ∧ i ≤ gs.length ∧ Below we.heap.size we wr ∧ (∀ k (h : k < gs.length), k < i → (⟨gs[k].t, gs[k].i⟩ : U2) ≠ ⟨ba ut, ba ui⟩)) (fun iv _ _ => gs.length - (intOf iv).toNat)
      case atStart => exact ⟨0, by go_num, Nat.zero_le _, Below.refl _ _, fun k _ h => absurd h (Nat.not_lt_zero _)⟩
      case round =>
        obtain ⟨i, rfl, hi, hbw, hne⟩ := hrel
        have HNE := hide hne
        clear hne
        have k0 : (0 : Int) ≤ (i : Int) := by omega
        have b1r := b1E.trans (hbw.mono b1E.size)
        have hVr := kept_of_below hbw hV
        have hUr := kept_of_below hbw hU
        have hWr := kept_of_below hbw hW
        by_cases hlt : i < gs.length
        · have i1 : (i : Int) < (gs.length : Int) := by omega
          obtain ⟨gb, goff, rfl, hgb, hgc⟩ := rowG_at (unhide HGR) b1r hlt
          have A4 : AtE4 wr gb (goff + i * 4) gs[i] := AtE4.of hgc
          have hps : i < ps.length := by rw [← (unhide HGA).1]; exact hlt
          have HI := hide ((unhide HGA).2 i hlt hps)
          have HNX := hide (show (⟨gs[i].t, gs[i].i⟩ : U2) ≠ ⟨ba ut, ba ui⟩ → ∀ k (h : k < gs.length), k < i + 1 → (⟨gs[k].t, gs[k].i⟩ : U2) ≠ ⟨ba ut, ba ui⟩ from fun h0 k hk h2 => by
            by_cases e : k = i
            · subst e; exact h0
            · exact unhide HNE k hk (by omega))
          have HFD := hide (show (⟨gs[i].t, gs[i].i⟩ : U2) = ⟨ba ut, ba ui⟩ → findP ps ⟨ba ut, ba ui⟩ = some ps[i] from fun h0 => findP_some hps (by rw [← (unhide HI).u]; exact h0) (fun k hk e => unhide HNE k (by omega) hk (((unhide HGA).2 k (by omega) (by omega)).u.trans e)))
          have HPI := hide (unhide HPL ps[i] (List.getElem_mem _))
          obtain ⟨x, hx⟩ : ∃ x, x = gs[i] := ⟨_, rfl⟩
          rw [← hx] at A4 HI HNX HFD
          clear hx hgc
          have u0 : wr.cell? ⟨w1.heap.size, 0, none⟩ = some (.string (ba ut)) := by rw [Lib.cell_of_heap hUr]; rfl
          have u1 : wr.cell? ⟨w1.heap.size, 1, none⟩ = some (.string (ba ui)) := by rw [Lib.cell_of_heap hUr]; rfl
          obtain ⟨a0, a1, a2, a3⟩ := A4
          have r0 := cell_regrown a0
          have r1 := cell_regrown a1
          have r2 := cell_regrown u0
          have r3 := cell_regrown u1
          have NQ := binNeqUid ⟨x.t, x.i⟩ ⟨ba ut, ba ui⟩
          simp only at NQ
          by_cases heq : (⟨x.t, x.i⟩ : U2) = ⟨ba ut, ba ui⟩
          · rw [decide_eq_true heq, Bool.not_true] at NQ
            have HFD2 := hide (unhide HFD heq)
            clear heq HFD HNX
            go_wp2_with fail
            refine wp_region_quiet_below (by kernel_rfl) (by kernel_rfl) ?_
            repeat (first | go_big_quiet_step (fail) | quiet_step (fail))
            refine wpQuiet_nil ?_
            intro _ hw'
            obtain ⟨⟨dq, osq⟩, hw''⟩ := hw'
            subst hw''
            have b7r := below_regrown wr dq osq
            have b7 := hbw.trans (b7r.mono hbw.size)
            generalize grow (redrawn wr dq) osq = w7 at *
            have c3 := (b7r.cell (p := ⟨gb, goff + i * 4 + 3, none⟩) (by show gb < _; have := b1r.size; omega)).trans a3
            clear r0 r1 r2 r3 NQ a0 a1 a2 a3 u0 u1 hVr hUr hWr
            have b1q := b1E.trans (b7.mono b1E.size)
            have hV7 := kept_of_below b7 hV
            have hW7 := kept_of_below b7 hW
            have bE7 := bE.trans (b7.mono bE.size)
            obtain ⟨as', hal, hrow, _, hAs⟩ := ((unhide HI).below b1q).ats
            have hal12 : x.al ≤ 1048576 := by rw [hal, hAs.1]; exact (unhide HPI).2.1
            generalize x.al = xal at *
            generalize x.ao = xao at *
            generalize x.ac = xac at *
            have HROW := hide hrow
            have HAS := hide hAs
            have HAL := hide hal
            have HGB := hide (show gb < w7.heap.size by have := b1q.size; omega)
            have HWD := hide (show Below wd.heap.size wd w7 from b11.trans (b7.mono b11.size))
            clear hrow hAs hal b7r
            go_wp2_with fail
            go_loopw [18] (fun jv wr2 => ∃ j : Nat, jv = .int .i64 j ∧ j ≤ xal ∧ Below w7.heap.size w7 wr2 ∧ (∀ k (h : k < as'.length), k < j → as'[k].nm ≠ ba sl)) (fun jv _ => xal - (intOf jv).toNat)
            case atStart => exact ⟨0, by go_num, Nat.zero_le _, Below.refl _ _, fun k _ h => absurd h (Nat.not_lt_zero _)⟩
            case round =>
              rename World => wr2
              obtain ⟨j, rfl, hj, hbk, hnj⟩ := hrel
              have HNJ := hide hnj
              clear hnj
              have q0 : (0 : Int) ≤ (j : Int) := by omega
              have c3k := (hbk.cell (p := ⟨gb, goff + i * 4 + 3, none⟩) (unhide HGB)).trans c3
              have hVk := kept_of_below hbk hV7
              have hWk := kept_of_below hbk hW7
              have bEk := bE7.trans (hbk.mono bE7.size)
              by_cases hlj : j < xal
              · have q1 : (j : Int) < (xal : Int) := by omega
                have hja : j < as'.length := by rw [← unhide HAL]; exact hlj
                obtain ⟨ab, aoff, eao, hab, hac⟩ := rowG_at (unhide HROW) hbk hja
                rw [eao] at c3k
                clear eao
                have A8 := AtE8.of hac
                have hjp : j < ps[i].ats.length := by rw [← (unhide HAS).1]; exact hja
                obtain ⟨hnm, hGP⟩ := (unhide HAS).2 j hja hjp
                have hG := hGP.1.below hbk
                have HFOUND := hide (show as'[j].nm = ba sl → attrC ps ⟨ba ut, ba ui⟩ (ba sl) = .inl ps[i].ats[j].2 from fun h0 => attrC_is (unhide HFD2) (getP_some hjp (hnm.symm.trans h0) (fun k hk e => unhide HNJ k (by omega) hk (((unhide HAS).2 k (by omega) (by omega)).1.trans e))))
                have HNX := hide (show as'[j].nm ≠ ba sl → ∀ k (h : k < as'.length), k < j + 1 → as'[k].nm ≠ ba sl from fun h0 k hk h2 => by
                  by_cases e : k = j
                  · subst e; exact h0
                  · exact unhide HNJ k hk (by omega))
                have HGL := hide (show (ps[i].ats[j].2).len ≤ 1048576 from (unhide HPI).2.2 _ (List.getElem_mem _))
                generalize ps[i].ats[j].2 = gv at *
                obtain ⟨e, he⟩ : ∃ e, e = as'[j] := ⟨_, rfl⟩
                rw [← he] at A8 HFOUND HNX hG
                have HG := hide hG
                clear he hac hnm hGP hG
                obtain ⟨d0, d1, d2, d3, d4, d5, d6, d7⟩ := A8
                have BE := eq_beq e.nm (ba sl)
                by_cases hq : e.nm = ba sl
                · have hA := (unhide HA).trans (unhide HFOUND hq)
                  rw [decide_eq_true hq] at BE
                  obtain ⟨rfl, hy0, hGR⟩ : kk = 0 ∧ y = true ∧ IsG wd gv R := by
                    have hm := unhide HM
                    have hy := unhide HY
                    rw [hA] at hm hy
                    exact ⟨hm.1, hy, hm.2.1⟩
                  subst hy0
                  have SM := r3sameG_true gv R e.v
                  have i9 := fun d os => Calls.regrown_of (w := wr2) (d := d) (os := os) (SM (grow (redrawn wr2 d) os) ((hGR.below ((unhide HWD).trans (hbk.mono (unhide HWD).size))).below (below_regrown wr2 d os)) ((unhide HG).below (below_regrown wr2 d os)) (unhide HGL))
                  clear hA HM HY HA HNE SM hGR hq HFOUND HNX
                  unfold R7.val at i9
                  have v1 := cell_regrown (show wr2.cell? ⟨wb.heap.size, 1, none⟩ = some (.bool true) by rw [Lib.cell_of_heap hVk]; rfl)
                  have w0_ := cell_regrown (show wr2.cell? ⟨wd.heap.size, 0, none⟩ = some (.int .i64 R.k) by rw [Lib.cell_of_heap hWk]; rfl)
                  have w1_ := cell_regrown (show wr2.cell? ⟨wd.heap.size, 1, none⟩ = some (.bool R.b) by rw [Lib.cell_of_heap hWk]; rfl)
                  have w2_ := cell_regrown (show wr2.cell? ⟨wd.heap.size, 2, none⟩ = some (.int .i64 R.n) by rw [Lib.cell_of_heap hWk]; rfl)
                  have w3_ := cell_regrown (show wr2.cell? ⟨wd.heap.size, 3, none⟩ = some (.string R.s) by rw [Lib.cell_of_heap hWk]; rfl)
                  have w4_ := cell_regrown (show wr2.cell? ⟨wd.heap.size, 4, none⟩ = some (.string R.t) by rw [Lib.cell_of_heap hWk]; rfl)
                  have w5_ := cell_regrown (show wr2.cell? ⟨wd.heap.size, 5, none⟩ = some (.string R.i) by rw [Lib.cell_of_heap hWk]; rfl)
                  have w6_ := cell_regrown (show wr2.cell? ⟨wd.heap.size, 6, none⟩ = some (.slice R.lo R.ll R.lc) by rw [Lib.cell_of_heap hWk]; rfl)
                  have g3 := cell_regrown c3k
                  have e1_ := cell_regrown d1
                  have e2_ := cell_regrown d2
                  have e3_ := cell_regrown d3
                  have e4_ := cell_regrown d4
                  have e5_ := cell_regrown d5
                  have e6_ := cell_regrown d6
                  have e7_ := cell_regrown d7
                  go_wp2_with fail
                  clear c3k d0 d1 d2 d3 d4 d5 d6 d7
                  refine wp_region_quiet_below (by kernel_rfl) (by kernel_rfl) ?_
                  repeat (first | go_big_quiet_step (fail) | quiet_step (fail))
                  quiet_step (exact i9 _ _)
                  repeat (first | go_big_quiet_step (fail) | quiet_step (fail))
                  refine wpQuiet_nil ?_
                  intro _ hw'
                  obtain ⟨⟨dq, osq⟩, hw''⟩ := hw'
                  subst hw''
                  have b9_ := bEk.trans ((below_regrown wr2 dq osq).mono bEk.size)
                  generalize grow (redrawn wr2 dq) osq = w9 at *
                  clear i9
                  go_wp2
                  go_ret
                  exact ⟨rfl, b9_⟩
                · rw [decide_eq_false hq] at BE
                  have HNX2 := hide (unhide HNX hq)
                  clear hq HFOUND HNX
                  go_wp2
                  go_roundw
                  case rel => exact ⟨j + 1, by go_num, by omega, hbk, unhide HNX2⟩
                  case measure =>
                    simp only [intOf]
                    omega
              · have q1 : ¬ (j : Int) < (xal : Int) := by omega
                have hA : A = .inr 15 := (unhide HA).trans (attrC_name (unhide HFD2) (getP_none fun k hk e => unhide HNJ k (by rw [(unhide HAS).1]; exact hk) (by have := (unhide HAS).1; have := unhide HAL; omega) (((unhide HAS).2 k (by rw [(unhide HAS).1]; exact hk) hk).1.trans e)))
                obtain ⟨rfl, hy0⟩ : kk = 15 ∧ y = false := by
                  have hm := unhide HM
                  have hy := unhide HY
                  rw [hA] at hm hy
                  exact ⟨hm.1, hy⟩
                subst hy0
                clear hA HM HY HA HNE
                have v1 : wr2.cell? ⟨wb.heap.size, 1, none⟩ = some (.bool false) := by rw [Lib.cell_of_heap hVk]; rfl
                clear hVk hWk
                go_wp2
                go_ret
                exact ⟨rfl, bEk⟩
          · rw [decide_eq_false heq, Bool.not_false] at NQ
            have HNX2 := hide (unhide HNX heq)
            clear heq HFD HNX
            go_wp2_with fail
            refine wp_region_quiet_below (by kernel_rfl) (by kernel_rfl) ?_
            repeat (first | go_big_quiet_step (fail) | quiet_step (fail))
            refine wpQuiet_nil ?_
            intro _ hw'
            obtain ⟨⟨dq, osq⟩, hw''⟩ := hw'
            subst hw''
            have b7r := below_regrown wr dq osq
            have b7 := hbw.trans (b7r.mono hbw.size)
            generalize grow (redrawn wr dq) osq = w7 at *
            clear r0 r1 r2 r3 NQ a0 a1 a2 a3 u0 u1 hUr hVr hWr
            go_wp2
            go_roundw
            case rel => exact ⟨i + 1, by go_num, by omega, b7, unhide HNX2⟩
            case measure =>
              simp only [intOf]
              omega
        · have i1 : ¬ (i : Int) < (gs.length : Int) := by omega
          have hA : A = .inr 18 := (unhide HA).trans (attrC_gone _ (findP_none fun k hk e => unhide HNE k (by rw [(unhide HGA).1]; exact hk) (by rw [← (unhide HGA).1] at hk; omega) (((unhide HGA).2 k (by rw [(unhide HGA).1]; exact hk) hk).u.trans e)))
          obtain ⟨rfl, hy0⟩ : kk = 18 ∧ y = false := by
            have hm := unhide HM
            have hy := unhide HY
            rw [hA] at hm hy
            exact ⟨hm.1, hy⟩
          subst hy0
          clear hA HM HY HA HNE
          have v1 : wr.cell? ⟨wb.heap.size, 1, none⟩ = some (.bool false) := by rw [Lib.cell_of_heap hVr]; rfl
          clear hVr hUr hWr
          go_wp2
          go_ret
          exact ⟨rfl, bE.trans (hbw.mono bE.size)⟩
end Go.Proofs.YtonfanfggfjbdaaGreat
