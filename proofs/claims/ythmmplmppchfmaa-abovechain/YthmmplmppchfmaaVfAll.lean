/-
  chancellaw3.Good: what it returns.
  chancellaw3.Good: what it returns, whatever its kind.
  Slices of Raws, with what lies in their own lists; rows of any values.
-/
import Derived.Test.YthmmplmppchfmaaVfA
import Derived.Test.YthmmplmppchfmaaVeAL
import Derived.Test.YthmmplmppchfmaaEncAll
import Derived.Deep.Cut
import Derived.Test.YthmmplmppchfmaaVcEM
namespace Go.Proofs.Ythmmplmppchfmaa
open Go.RowKit Go.Sort

/-- The kind that Good takes, of the plain values within. -/
def goodK (k : Int) : Nat := (1 + wrap64 (k.tdiv 5) % 4).toNat
theorem goodK_eq (k : Int) : 1 ≤ goodK k ∧ goodK k ≤ 4 ∧ 1 + wrap64 (k.tdiv 5) % 4 = (goodK k : Int) := by
  unfold goodK
  have h0 := Int.emod_nonneg (wrap64 (k.tdiv 5)) (show (4 : Int) ≠ 0 by decide)
  have h1 := Int.emod_lt_of_pos (wrap64 (k.tdiv 5)) (show (0 : Int) < 4 by decide)
  omega

/-- The plain values that Good makes a set of. -/
def goodL (k : Int) (es : List RawE) : List PV := (es.take 8).map fun e => plainV (goodK k) e.n e.xs

theorem goodL_len (k : Int) (es : List RawE) : (goodL k es).length = min 8 es.length := by simp [goodL]
theorem goodL_snoc (k : Int) (es : List RawE) (i : Nat) (h : i < es.length) (h8 : i < 8) : (goodL k es).take (i + 1) = (goodL k es).take i ++ [plainV (goodK k) es[i].n es[i].xs] := by
  rw [List.take_succ_eq_append_getElem (by rw [goodL_len]; omega)]
  simp [goodL]
theorem plainV_kindB (p : Nat) (h1 : 1 ≤ p) (h4 : p ≤ 4) (n : Int) (xs : List Int) : (plainV p n xs).kind = p := by
  match p, h1, h4 with
  | 1, _, _ | 2, _, _ | 3, _, _ | 4, _, _ => rfl
theorem goodL_kind (k : Int) (es : List RawE) : ∀ p ∈ goodL k es, ∀ q ∈ goodL k es, p.kind = q.kind := by
  intro p hp q hq
  obtain ⟨a, _, rfl⟩ := List.mem_map.1 hp
  obtain ⟨b, _, rfl⟩ := List.mem_map.1 hq
  rw [plainV_kindB _ (goodK_eq k).1 (goodK_eq k).2.1, plainV_kindB _ (goodK_eq k).1 (goodK_eq k).2.1]

/-- What each slot of the region holds. -/
def goodSp (B : Nat) (lv lo : Value) (b off i : Nat) (raw : Value) (k : Int) (kd : Nat) (x : R7) : Nat → Value → World → Prop
  | 0, v, _ => v = lv
  | 1, v, _ => v = .pointer (some ⟨B, 3, none⟩)
  | 2, v, _ => v = lo
  | 3, v, _ => v = .int .i64 i
  | 4, v, _ => v = .pointer (some ⟨b, off + i * 4, none⟩)
  | 5, v, _ => v = raw
  | 6, v, _ => v = .pointer (some ⟨B, 0, none⟩)
  | 7, v, _ => v = .int .i64 k
  | 8, v, _ => v = .int .i64 (wrap64 (k.tdiv 5))
  | 9, v, _ => v = .int .i64 (wrap64 (k.tdiv 5) % 4)
  | 10, v, _ => v = .int .i64 kd
  | 11, v, _ => v = x.val
  | 12, v, w => ∃ blk, v = .slice (some ⟨blk, 0, none⟩) 1 1 ∧ blk < w.heap.size ∧ ∀ j u, x.cells[j]? = some u → w.cell? ((⟨blk, 0, none⟩ : Addr).add j) = some u
  | _, _, _ => True

theorem goodSp_up {B : Nat} {lv lo : Value} {b off i : Nat} {raw : Value} {k : Int} {kd : Nat} {x : R7} {w w' : World} (hb : Below w.heap.size w w') : ∀ j u, goodSp B lv lo b off i raw k kd x j u w → goodSp B lv lo b off i raw k kd x j u w'
  | 0, _, h | 1, _, h | 2, _, h | 3, _, h | 4, _, h | 5, _, h | 6, _, h | 7, _, h | 8, _, h | 9, _, h | 10, _, h | 11, _, h => h
  | 12, _, ⟨blk, e, hl, hc⟩ => ⟨blk, e, Nat.lt_of_lt_of_le hl hb.size, fun j u hu => (hb.cell (p := (⟨blk, 0, none⟩ : Addr).add j) (by rw [Addr.add_lit]; exact hl)).trans (hc j u hu)⟩
  | _ + 13, _, _ => trivial

set_option maxHeartbeats 4000000 in
set_option maxRecDepth 1000000 in
theorem good3_set (r : RawE) (lo : Option Addr) (es : List RawE) (lc : Nat) (w : World) (hl : es.length ≤ 9223372036854775807) (hs : RowRaw w lo es) (h5 : r.k % 5 = 4) :
    Calls Try.prog 35 #[.agg #[.int .i64 r.k, .int .i64 r.n, .slice r.so r.xs.length r.sc, .slice lo es.length lc]] w fun e w' => Below w.heap.size w w' ∧ ∃ ao c, e = .returned (setR ao (setOf lessP (goodL r.k es)).length c).val ∧ RowV w' ao ((setOf lessP (goodL r.k es)).map ofP) ∧ (∀ ad, ao = some ad → ad.off = 0) ∧ (setOf lessP (goodL r.k es)).length ≤ c := by
  obtain ⟨i0, hi, hz0, hz1, hz2⟩ := info_parts infoValue
  have W1 := within3_any r.k 5 (by decide) (by decide)
  have W2 := within3_any (wrap64 (r.k.tdiv 5)) 4 (by decide) (by decide)
  rw [h5] at W1
  obtain ⟨hp1, hp4, hp⟩ := goodK_eq r.k
  have HL := hide (goodL_len r.k es)
  have HK := hide (goodL_kind r.k es)
  have Hsn := hide (goodL_snoc r.k es)
  obtain ⟨G, hG⟩ : ∃ G, G = goodL r.k es := ⟨_, rfl⟩
  rw [← hG] at HL HK Hsn ⊢
  obtain ⟨kd, hkd⟩ : ∃ kd, kd = goodK r.k := ⟨_, rfl⟩
  rw [← hkd] at Hsn hp1 hp4 hp
  clear hG hkd
  go_enter Try.func35, Try.ntmps35
  go_wp2_with fail
  have b2 := below2 w (.cells #[.int .i64 r.k, .int .i64 r.n, .slice r.so r.xs.length r.sc, .slice lo es.length lc] 71) (.cells #[.int .i64 0, .bool false, .int .i64 0, .string ⟨#[]⟩, .string ⟨#[]⟩, .string ⟨#[]⟩, .slice none 0 0] 49)
  generalize hw2 : (w.alloc (.cells #[.int .i64 r.k, .int .i64 r.n, .slice r.so r.xs.length r.sc, .slice lo es.length lc] 71)).alloc (.cells #[.int .i64 0, .bool false, .int .i64 0, .string ⟨#[]⟩, .string ⟨#[]⟩, .string ⟨#[]⟩, .slice none 0 0] 49) = w2 at *
  have Z2 := hide (show w2.heap.size = w.heap.size + 2 by rw [← hw2]; simp)
  have x0 : w2.cell? ⟨w.heap.size, 0, none⟩ = some (.int .i64 r.k) := by rw [← hw2]; simp
  have x3 : w2.cell? ⟨w.heap.size, 3, none⟩ = some (.slice lo es.length lc) := by rw [← hw2]; simp
  have Hw2 := hide hw2
  clear hw2
  refine (W1 _).mono ?_
  rintro e w1 ⟨rfl, rfl⟩
  clear W1
  go_wp2_with fail
  have L1 : w.heap.size + 1 < w1.heap.size := by have := unhide Z2; omega
  go_loopw [4, 5] (fun lv iv wr => ∃ i : Nat, iv = .int .i64 i ∧ i ≤ es.length ∧ i ≤ 8 ∧ Below w1.heap.size w1 wr ∧ wr.ownsRow w1.heap.size 49 7 lv (G.take i).length (cellsOf (G.take i))) (fun _ iv _ => 8 - (intOf iv).toNat)
  case atStart => exact ⟨0, by go_num, Nat.zero_le _, Nat.zero_le _, Below.refl _ _, World.ownsRow_nil _ _ _ _⟩
  case round =>
    obtain ⟨i, rfl, hie, hi8, hbw, hown⟩ := hrel
    have e0 := (hbw.cell (p := ⟨w.heap.size, 0, none⟩) (by show w.heap.size < _; omega)).trans x0
    have e3 := (hbw.cell (p := ⟨w.heap.size, 3, none⟩) (by show w.heap.size < _; omega)).trans x3
    by_cases hlt : i < es.length ∧ i < 8
    · obtain ⟨h1, h8⟩ := hlt
      have i1 : (i : Int) < (es.length : Int) := by omega
      have i2 : (i : Int) < 8 := by omega
      have hlen : (G.take i).length = i := by rw [List.length_take, unhide HL]; omega
      obtain ⟨hok, b, off, lo', ll', lc', rfl, hb, y0, y1, y2, y3⟩ := hs i h1
      have HS := hide (unhide Hsn i h1 h8)
      have b1r := b2.trans (hbw.mono b2.size)
      have PL : ∀ w', Below wr.heap.size wr w' → Calls Try.prog 46 #[.agg #[.int .i64 es[i].k, .int .i64 es[i].n, .slice es[i].so es[i].xs.length es[i].sc, .slice lo' ll' lc'], .int .i64 kd] w' fun e w'' => e = .returned (ofP (plainV kd es[i].n es[i].xs)).val ∧ Below w'.heap.size w' w'' := fun w' hb => plain3_any kd hp1 hp4 _ _ _ _ _ _ _ _ w' hok.len hok.cap ((hok.ints.below b1r).below hb)
      obtain ⟨x, hx⟩ : ∃ x, x = plainV kd es[i].n es[i].xs := ⟨_, rfl⟩
      rw [← hx] at PL HS
      have hcw : ∀ o, wr.cell? ⟨b, o, none⟩ = w.cell? ⟨b, o, none⟩ := fun o => b1r.cell (p := ⟨b, o, none⟩) hb
      have y0 := (hcw _).trans y0
      have y1 := (hcw _).trans y1
      have y2 := (hcw _).trans y2
      have y3 := (hcw _).trans y3
      have hbr : b < wr.heap.size := by have := b1r.size; omega
      have lw : w.heap.size < wr.heap.size := by have := hbw.size; omega
      generalize es[i] = ei at *
      have HIq := hide (show cellsOf [x] = (ofP x).cells by simp [cellsOf])
      obtain ⟨rx, erx⟩ : ∃ rx, rx = ofP x := ⟨_, rfl⟩
      rw [← erx] at PL HIq
      clear hx erx hcw hok
      obtain ⟨ao', cap', rfl, _⟩ := rowP_own hown
      rw [hlen] at hown ⊢
      have Hlen := hide hlen
      have Hown := hide hown
      clear hlen hown
      go_upto_region 8 with fail
      refine wp_specs_put 13 (goodSp w.heap.size (.slice ao' i cap') (.slice (some ⟨b, off, none⟩) es.length lc) b off i (.agg #[.int .i64 ei.k, .int .i64 ei.n, .slice ei.so ei.xs.length ei.sc, .slice lo' ll' lc']) r.k kd rx) (fun w' => Below wr.heap.size wr w') (by kernel_rfl) (by kernel_rfl) (Below.refl _ wr).drew ?_ ?_
      · intro j o hj ho a' w' hR hdep hslot K hK
        match j, hj with
        | 0, _ =>
          cases ho
          have e : a'.tmps.getD 4 undef = .slice ao' i cap' := hslot 4 (by decide)
          unfold Oper.wp
          go_simp
          exact hK _ _ rfl hR (fun _ _ h => h)
        | 1, _ =>
          cases ho
          have e : a'.tmps.getD 1 undef = .pointer (some ⟨w.heap.size, 0, none⟩) := hslot 1 (by decide)
          unfold Oper.wp
          go_simp
          exact hK _ _ rfl hR (fun _ _ h => h)
        | 2, _ =>
          cases ho
          have e : a'.tmps.getD 29 undef = .pointer (some ⟨w.heap.size, 3, none⟩) := hdep 1 (by kernel_rfl)
          have c3 := (hR.cell (p := ⟨w.heap.size, 3, none⟩) lw).trans e3
          unfold Oper.wp
          go_simp
          exact hK _ _ rfl hR (fun _ _ h => h)
        | 3, _ =>
          cases ho
          have e : a'.tmps.getD 5 undef = .int .i64 i := hslot 5 (by decide)
          unfold Oper.wp
          go_simp
          exact hK _ _ rfl hR (fun _ _ h => h)
        | 4, _ =>
          cases ho
          have e : a'.tmps.getD 30 undef = .slice (some ⟨b, off, none⟩) es.length lc := hdep 2 (by kernel_rfl)
          have e' : a'.tmps.getD 31 undef = .int .i64 i := hdep 3 (by kernel_rfl)
          unfold Oper.wp
          go_simp
          exact hK _ _ rfl hR (fun _ _ h => h)
        | 5, _ =>
          cases ho
          have e : a'.tmps.getD 32 undef = .pointer (some ⟨b, off + i * 4, none⟩) := hdep 4 (by kernel_rfl)
          have c0 := (hR.cell (p := ⟨b, off + i * 4, none⟩) hbr).trans y0
          have c1 := (hR.cell (p := ⟨b, off + i * 4 + 1, none⟩) hbr).trans y1
          have c2 := (hR.cell (p := ⟨b, off + i * 4 + 2, none⟩) hbr).trans y2
          have c3 := (hR.cell (p := ⟨b, off + i * 4 + 3, none⟩) hbr).trans y3
          unfold Oper.wp
          go_simp
          exact hK _ _ rfl hR (fun _ _ h => h)
        | 6, _ =>
          cases ho
          have e : a'.tmps.getD 1 undef = .pointer (some ⟨w.heap.size, 0, none⟩) := hslot 1 (by decide)
          unfold Oper.wp
          go_simp
          exact hK _ _ rfl hR (fun _ _ h => h)
        | 7, _ =>
          cases ho
          have e : a'.tmps.getD 34 undef = .pointer (some ⟨w.heap.size, 0, none⟩) := hdep 6 (by kernel_rfl)
          have c3 := (hR.cell (p := ⟨w.heap.size, 0, none⟩) lw).trans e0
          unfold Oper.wp
          go_simp
          exact hK _ _ rfl hR (fun _ _ h => h)
        | 8, _ =>
          cases ho
          have e : a'.tmps.getD 35 undef = .int .i64 r.k := hdep 7 (by kernel_rfl)
          unfold Oper.wp
          go_simp
          exact hK _ _ (congrArg (Value.int .i64) (by rw [IntKind.wrap_i64]; unfold wrap64; omega)) hR (fun _ _ h => h)
        | 9, _ =>
          cases ho
          have e : a'.tmps.getD 36 undef = .int .i64 (wrap64 (r.k.tdiv 5)) := hdep 8 (by kernel_rfl)
          have W2' := W2 w'
          clear W2
          unfold Oper.wp
          go_simp
          refine W2'.mono ?_
          rintro e w3 ⟨rfl, rfl⟩
          exact hK _ _ rfl hR (fun _ _ h => h)
        | 10, _ =>
          cases ho
          have e : a'.tmps.getD 37 undef = .int .i64 (wrap64 (r.k.tdiv 5) % 4) := hdep 9 (by kernel_rfl)
          unfold Oper.wp
          go_simp
          exact hK _ _ (congrArg (Value.int .i64) (show IntKind.i64.wrap (kd : Int) = kd by rw [IntKind.wrap_i64]; omega)) hR (fun _ _ h => h)
        | 11, _ =>
          cases ho
          have e1 : a'.tmps.getD 33 undef = _ := hdep 5 (by kernel_rfl)
          have e2 : a'.tmps.getD 38 undef = .int .i64 kd := hdep 10 (by kernel_rfl)
          have PW := PL w' hR
          clear PL
          unfold Oper.wp
          go_simp
          refine PW.mono ?_
          rintro e w3 ⟨rfl, b3⟩
          exact hK _ _ rfl (hR.trans (b3.mono hR.size)) (goodSp_up b3)
        | 12, _ =>
          cases ho
          have e1 : a'.tmps.getD 39 undef = rx.val := hdep 11 (by kernel_rfl)
          unfold R7.val at e1
          have e1' : a'.tmps[39]?.getD undef = .agg #[.int .i64 rx.k, .bool rx.b, .int .i64 rx.n, .string rx.s, .string rx.t, .string rx.i, .slice rx.lo rx.ll rx.lc] := by simpa using e1
          unfold Oper.wp
          go_simp
          exact hK _ _ ⟨w'.heap.size, rfl, by simp, news_row w' rx _ rfl⟩ (hR.alloc hR.size _) (goodSp_up (below1 _ _))
      · intro v w4 hR hall
        have f0 : v 0 = _ := hall 0 (by decide)
        have f1 : v 1 = _ := hall 1 (by decide)
        have f2 : v 2 = _ := hall 2 (by decide)
        have f3 : v 3 = _ := hall 3 (by decide)
        have f4 : v 4 = _ := hall 4 (by decide)
        have f5 : v 5 = _ := hall 5 (by decide)
        have f6 : v 6 = _ := hall 6 (by decide)
        have f7 : v 7 = _ := hall 7 (by decide)
        have f8 : v 8 = _ := hall 8 (by decide)
        have f9 : v 9 = _ := hall 9 (by decide)
        have f10 : v 10 = _ := hall 10 (by decide)
        have f11 : v 11 = _ := hall 11 (by decide)
        obtain ⟨blk, f12, hbl, hnews⟩ : ∃ blk, v 12 = .slice (some ⟨blk, 0, none⟩) 1 1 ∧ blk < w4.heap.size ∧ ∀ j u, rx.cells[j]? = some u → w4.cell? ((⟨blk, 0, none⟩ : Addr).add j) = some u := hall 12 (by decide)
        have hown4 := own_below (unhide Hown) hR
        have Hnews := hide hnews
        have Hown4 := hide hown4
        clear hall PL W2 hnews hown4
        simp only [putAll, dstOf, List.getElem?_cons_zero, List.getElem?_cons_succ, Option.bind_some, List.drop_succ_cons, List.drop_zero, f0, f1, f2, f3, f4, f5, f6, f7, f8, f9, f10, f11, f12]
        clear f0 f1 f2 f3 f4 f5 f6 f7 f8 f9 f10 f11 f12
        unfold R7.val
        simp only [Act.put, List.setIfInBounds_toArray, List.set_cons_succ, List.set_cons_zero]
        go_wp2_with (at_builtin; refine wpList_append_own _ rfl _ _ 47 rfl w1.heap.size 49 i0 _ 7 96 Try.underlying47 hi hz0 hz1 hz2 rfl (by decide) _ _ _ rfl (unhide Hown4) ⟨blk, 0, none⟩ 1 1 rx.cells rfl rfl ?c1 ?c2 ?c3 ?c4 ?c5 ?_)
        case c1 => exact unhide Hnews
        case c2 => exact cells_one rx
        case c3 => unfold maxLen; omega
        case c4 => omega
        case c5 => have := hbw.size; have := hR.size; omega
        intro v5 w5 hown5 hg5 _
        have b14 := hbw.trans (hR.mono hbw.size)
        have b5 : Below w1.heap.size w1 w5 := b14.grown hg5 b14.size (fun k hk => ((unhide Hown4).lt k hk).1)
        have Hown5 := hide hown5
        clear hown5 hg5
        go_wp2
        go_roundw
        case rel =>
          refine ⟨i + 1, by go_num, by omega, by omega, b5, ?_⟩
          rw [unhide HS, cellsOf_append, List.length_append, unhide Hlen, unhide HIq]
          exact unhide Hown5
        case measure =>
          simp only [intOf]
          omega
    · have hlen : (G.take i).length = G.length := by rw [List.length_take, unhide HL]; omega
      have htake : G.take i = G := List.take_of_length_le (by rw [unhide HL]; omega)
      rw [htake] at hown
      obtain ⟨ao', cap', rfl, hrow⟩ := rowV_own hown
      have hG8 : G.length ≤ 8 := by rw [unhide HL]; omega
      have ST := r3set_plain G ao' cap' wr (by omega) hrow (unhide HK)
      have hS8 := len_setOf_le G
      have hcv : ∀ o, wr.cell? ⟨w.heap.size + 1, o, none⟩ = w1.cell? ⟨w.heap.size + 1, o, none⟩ := fun o => hbw.cell (p := ⟨w.heap.size + 1, o, none⟩) L1
      have hfv : ∀ o, wr.frozen? ⟨w.heap.size + 1, o, none⟩ = w1.frozen? ⟨w.heap.size + 1, o, none⟩ := fun o => hbw.frozen (p := ⟨w.heap.size + 1, o, none⟩) L1
      have Hcv := hide hcv
      have Hfv := hide hfv
      have HG8 := hide hG8
      have HS8 := hide hS8
      have b1r := b2.trans (hbw.mono b2.size)
      have lw : w.heap.size + 1 < wr.heap.size := by have := hbw.size; omega
      clear hown hrow hlen htake hcv hfv hG8 hS8 hs x0 x3
      by_cases hei : i < es.length
      · have i1 : (i : Int) < (es.length : Int) := by omega
        have i2 : ¬ (i : Int) < 8 := by omega
        clear hlt
        go_wp2_with fail
        refine ST.mono ?_
        clear ST
        rintro e w3 ⟨b3, h3⟩
        rcases h3 with ⟨_, ao2, c2, rfl, hown2⟩ | ⟨h, _⟩
        rotate_left
        · have := unhide HS8
          have := unhide HG8
          omega
        obtain ⟨n, hn⟩ : ∃ n, n = (setOf lessP G).length := ⟨_, rfl⟩
        rw [← hn] at hown2 ⊢
        have Hn := hide hn
        clear hn
        have hc : ∀ o, w3.cell? ⟨w.heap.size + 1, o, none⟩ = w1.cell? ⟨w.heap.size + 1, o, none⟩ := fun o => (b3.cell (p := ⟨w.heap.size + 1, o, none⟩) lw).trans (unhide Hcv o)
        have hf : ∀ o, w3.frozen? ⟨w.heap.size + 1, o, none⟩ = w1.frozen? ⟨w.heap.size + 1, o, none⟩ := fun o => (b3.frozen (p := ⟨w.heap.size + 1, o, none⟩) lw).trans (unhide Hfv o)
        rw [← unhide Hw2] at hc hf
        have hc4 : ∀ o, (w3.alloc (.cells #[.int .i64 5, .bool false, .int .i64 0, .string (ba []), .string (ba []), .string (ba []), .slice ao2 n c2] 49)).cell? ⟨w.heap.size + 1, o, none⟩ = w3.cell? ⟨w.heap.size + 1, o, none⟩ := fun o => (below1 w3 _).cell (p := ⟨w.heap.size + 1, o, none⟩) (Nat.lt_of_lt_of_le lw b3.size)
        have hf4 : ∀ o, (w3.alloc (.cells #[.int .i64 5, .bool false, .int .i64 0, .string (ba []), .string (ba []), .string (ba []), .slice ao2 n c2] 49)).frozen? ⟨w.heap.size + 1, o, none⟩ = w3.frozen? ⟨w.heap.size + 1, o, none⟩ := fun o => (below1 w3 _).frozen (p := ⟨w.heap.size + 1, o, none⟩) (Nat.lt_of_lt_of_le lw b3.size)
        have b4 := (b1r.trans (b3.mono b1r.size)).alloc (Nat.le_trans b1r.size b3.size) (.cells #[.int .i64 5, .bool false, .int .i64 0, .string (ba []), .string (ba []), .string (ba []), .slice ao2 n c2] 49)
        have Hown4 := hide (hown2.alloc (.cells #[.int .i64 5, .bool false, .int .i64 0, .string (ba []), .string (ba []), .string (ba []), .slice ao2 n c2] 49))
        clear hown2
        unfold setR R7.val
        simp only
        go_upto_region 10 with fail
        have A4 := at7_new w3 (setR ao2 n c2)
        have hc5 := fun o => (hc4 o).trans (hc o)
        have hf5 := fun o => (hf4 o).trans (hf o)
        unfold setR at A4
        obtain ⟨a0, a1, a2, a3, a4, a5, a6⟩ := A4
        simp only [Nat.zero_add] at a0 a1 a2 a3 a4 a5 a6
        clear hc4 hf4 hc hf
        generalize w3.alloc _ = w4 at *
        go_wp2
        refine bodyPost_ret (v := .agg #[.int .i64 5, .bool false, .int .i64 0, .string (ba []), .string (ba []), .string (ba []), .slice ao2 n c2]) (by simp [results, Try.results35, go_sem, hc5]) rfl ⟨set7_below b4 (Nat.le_succ _) _ _ _ _ _ _ _, ao2, c2, by rw [← unhide Hn]; rfl, ?_⟩
        have hfin := own_set7 (unhide Hown4) lw (.int .i64 5) (.bool false) (.int .i64 0) (.string (ba [])) (.string (ba [])) (.string (ba [])) (.slice ao2 n c2)
        rw [unhide Hn] at hfin
        have hoff := own_at hfin
        obtain ⟨ao3, c3, e3, hrow3⟩ := rowV_own hfin
        have hcap : (setOf lessP G).length ≤ c2 := by
          rcases hfin.2 with ⟨hv, h0⟩ | ⟨g, cap, cur, hv, _, _, hc, _⟩
          · rw [h0]
            exact Nat.zero_le _
          · cases hv
            exact hc
        cases e3
        rw [unhide Hn]
        exact ⟨hrow3, fun ad e => (hoff ad e).2.1, hcap⟩
      · have i1 : ¬ (i : Int) < (es.length : Int) := by omega
        clear hlt
        go_wp2_with fail
        refine ST.mono ?_
        clear ST
        rintro e w3 ⟨b3, h3⟩
        rcases h3 with ⟨_, ao2, c2, rfl, hown2⟩ | ⟨h, _⟩
        rotate_left
        · have := unhide HS8
          have := unhide HG8
          omega
        obtain ⟨n, hn⟩ : ∃ n, n = (setOf lessP G).length := ⟨_, rfl⟩
        rw [← hn] at hown2 ⊢
        have Hn := hide hn
        clear hn
        have hc : ∀ o, w3.cell? ⟨w.heap.size + 1, o, none⟩ = w1.cell? ⟨w.heap.size + 1, o, none⟩ := fun o => (b3.cell (p := ⟨w.heap.size + 1, o, none⟩) lw).trans (unhide Hcv o)
        have hf : ∀ o, w3.frozen? ⟨w.heap.size + 1, o, none⟩ = w1.frozen? ⟨w.heap.size + 1, o, none⟩ := fun o => (b3.frozen (p := ⟨w.heap.size + 1, o, none⟩) lw).trans (unhide Hfv o)
        rw [← unhide Hw2] at hc hf
        have hc4 : ∀ o, (w3.alloc (.cells #[.int .i64 5, .bool false, .int .i64 0, .string (ba []), .string (ba []), .string (ba []), .slice ao2 n c2] 49)).cell? ⟨w.heap.size + 1, o, none⟩ = w3.cell? ⟨w.heap.size + 1, o, none⟩ := fun o => (below1 w3 _).cell (p := ⟨w.heap.size + 1, o, none⟩) (Nat.lt_of_lt_of_le lw b3.size)
        have hf4 : ∀ o, (w3.alloc (.cells #[.int .i64 5, .bool false, .int .i64 0, .string (ba []), .string (ba []), .string (ba []), .slice ao2 n c2] 49)).frozen? ⟨w.heap.size + 1, o, none⟩ = w3.frozen? ⟨w.heap.size + 1, o, none⟩ := fun o => (below1 w3 _).frozen (p := ⟨w.heap.size + 1, o, none⟩) (Nat.lt_of_lt_of_le lw b3.size)
        have b4 := (b1r.trans (b3.mono b1r.size)).alloc (Nat.le_trans b1r.size b3.size) (.cells #[.int .i64 5, .bool false, .int .i64 0, .string (ba []), .string (ba []), .string (ba []), .slice ao2 n c2] 49)
        have Hown4 := hide (hown2.alloc (.cells #[.int .i64 5, .bool false, .int .i64 0, .string (ba []), .string (ba []), .string (ba []), .slice ao2 n c2] 49))
        clear hown2
        unfold setR R7.val
        simp only
        go_upto_region 10 with fail
        have A4 := at7_new w3 (setR ao2 n c2)
        have hc5 := fun o => (hc4 o).trans (hc o)
        have hf5 := fun o => (hf4 o).trans (hf o)
        unfold setR at A4
        obtain ⟨a0, a1, a2, a3, a4, a5, a6⟩ := A4
        simp only [Nat.zero_add] at a0 a1 a2 a3 a4 a5 a6
        clear hc4 hf4 hc hf
        generalize w3.alloc _ = w4 at *
        go_wp2
        refine bodyPost_ret (v := .agg #[.int .i64 5, .bool false, .int .i64 0, .string (ba []), .string (ba []), .string (ba []), .slice ao2 n c2]) (by simp [results, Try.results35, go_sem, hc5]) rfl ⟨set7_below b4 (Nat.le_succ _) _ _ _ _ _ _ _, ao2, c2, by rw [← unhide Hn]; rfl, ?_⟩
        have hfin := own_set7 (unhide Hown4) lw (.int .i64 5) (.bool false) (.int .i64 0) (.string (ba [])) (.string (ba [])) (.string (ba [])) (.slice ao2 n c2)
        rw [unhide Hn] at hfin
        have hoff := own_at hfin
        obtain ⟨ao3, c3, e3, hrow3⟩ := rowV_own hfin
        have hcap : (setOf lessP G).length ≤ c2 := by
          rcases hfin.2 with ⟨hv, h0⟩ | ⟨g, cap, cur, hv, _, _, hc, _⟩
          · rw [h0]
            exact Nat.zero_le _
          · cases hv
            exact hc
        cases e3
        rw [unhide Hn]
        exact ⟨hrow3, fun ad e => (hoff ad e).2.1, hcap⟩
end Go.Proofs.Ythmmplmppchfmaa

namespace Go.Proofs.Ythmmplmppchfmaa
open Go.RowKit Go.Sort

set_option maxHeartbeats 4000000 in
set_option maxRecDepth 1000000 in
theorem good3_plain (r : RawE) (lo : Option Addr) (ll lc : Nat) (w : World) (hr : r.Ok w) (p : Nat) (hp1 : 1 ≤ p) (hp4 : p ≤ 4) (hp : 1 + r.k % 5 = (p : Int)) :
    Calls Try.prog 35 #[.agg #[.int .i64 r.k, .int .i64 r.n, .slice r.so r.xs.length r.sc, .slice lo ll lc]] w fun e w' => Below w.heap.size w w' ∧ e = .returned (ofP (plainV p r.n r.xs)).val := by
  have W1 := within3_any r.k 5 (by decide) (by decide)
  have hp5 : (p : Int) < 5 := by omega
  have PL0 := fun w' hz => plain3_any p hp1 hp4 r.k r.n r.xs r.so r.sc lo ll lc w' hr.len hr.cap hz
  obtain ⟨x, hx⟩ : ∃ x, x = ofP (plainV p r.n r.xs) := ⟨_, rfl⟩
  rw [← hx] at PL0 ⊢
  clear hx
  go_enter Try.func35, Try.ntmps35
  go_wp2_with fail
  have b2 := below2 w (.cells #[.int .i64 r.k, .int .i64 r.n, .slice r.so r.xs.length r.sc, .slice lo ll lc] 71) (.cells #[.int .i64 0, .bool false, .int .i64 0, .string ⟨#[]⟩, .string ⟨#[]⟩, .string ⟨#[]⟩, .slice none 0 0] 49)
  have PL := PL0 _ (hr.ints.below b2)
  clear PL0
  generalize hw2 : (w.alloc (.cells #[.int .i64 r.k, .int .i64 r.n, .slice r.so r.xs.length r.sc, .slice lo ll lc] 71)).alloc (.cells #[.int .i64 0, .bool false, .int .i64 0, .string ⟨#[]⟩, .string ⟨#[]⟩, .string ⟨#[]⟩, .slice none 0 0] 49) = w2 at *
  have Z2 := hide (show w2.heap.size = w.heap.size + 2 by rw [← hw2]; simp)
  have x0 : w2.cell? ⟨w.heap.size, 0, none⟩ = some (.int .i64 r.k) := by rw [← hw2]; simp
  have x1 : w2.cell? ⟨w.heap.size, 1, none⟩ = some (.int .i64 r.n) := by rw [← hw2]; simp
  have x2 : w2.cell? ⟨w.heap.size, 2, none⟩ = some (.slice r.so r.xs.length r.sc) := by rw [← hw2]; simp
  have x3 : w2.cell? ⟨w.heap.size, 3, none⟩ = some (.slice lo ll lc) := by rw [← hw2]; simp
  have Hw2 := hide hw2
  clear hw2
  refine (W1 _).mono ?_
  rintro e w1 ⟨rfl, rfl⟩
  clear W1
  go_wp2_with fail
  refine PL.mono ?_
  clear PL
  rintro e w3 ⟨rfl, b3⟩
  have hc : ∀ o, w3.cell? ⟨w.heap.size + 1, o, none⟩ = w1.cell? ⟨w.heap.size + 1, o, none⟩ := fun o => b3.cell (p := ⟨w.heap.size + 1, o, none⟩) (by have := unhide Z2; show w.heap.size + 1 < _; omega)
  have hf : ∀ o, w3.frozen? ⟨w.heap.size + 1, o, none⟩ = w1.frozen? ⟨w.heap.size + 1, o, none⟩ := fun o => b3.frozen (p := ⟨w.heap.size + 1, o, none⟩) (by have := unhide Z2; show w.heap.size + 1 < _; omega)
  rw [← unhide Hw2] at hc hf
  have b03 := b2.trans (b3.mono b2.size)
  clear x0 x1 x2 x3 b3
  unfold R7.val
  go_wp2
  exact bodyPost_ret (v := .agg #[.int .i64 x.k, .bool x.b, .int .i64 x.n, .string x.s, .string x.t, .string x.i, .slice x.lo x.ll x.lc]) (by simp [results, Try.results35, go_sem, hc]) rfl ⟨set7_below b03 (Nat.le_succ _) _ _ _ _ _ _ _, rfl⟩

/-- What Good makes. -/
def goodG (r : RawE) (es : List RawE) : GV := if r.k % 5 = 4 then .set (setOf lessP (goodL r.k es)) else .pl (plainV (1 + r.k % 5).toNat r.n r.xs)

/-- .. and there is room for what it has. -/
theorem good3_cap (r : RawE) (lo : Option Addr) (es : List RawE) (lc : Nat) (w : World) (hr : r.Ok w) (hl : es.length ≤ 9223372036854775807) (hs : RowRaw w lo es) :
    Calls Try.prog 35 #[.agg #[.int .i64 r.k, .int .i64 r.n, .slice r.so r.xs.length r.sc, .slice lo es.length lc]] w fun e w' => Below w.heap.size w w' ∧ ∃ R, e = .returned R.val ∧ IsG w' (goodG r es) R ∧ R.ll ≤ R.lc := by
  have h0 := Int.emod_nonneg r.k (show (5 : Int) ≠ 0 by decide)
  have h1 := Int.emod_lt_of_pos r.k (show (0 : Int) < 5 by decide)
  unfold goodG
  by_cases h5 : r.k % 5 = 4
  · rw [if_pos h5]
    refine (good3_set r lo es lc w hl hs h5).mono ?_
    rintro e w' ⟨hb, ao, c, he, hrow, ho, hc⟩
    exact ⟨hb, _, he, ⟨ao, c, rfl, hrow, ho⟩, hc⟩
  · rw [if_neg h5]
    refine (good3_plain r lo es.length lc w hr (1 + r.k % 5).toNat (by omega) (by omega) (by omega)).mono ?_
    rintro e w' ⟨hb, he⟩
    exact ⟨hb, _, he, rfl, by generalize plainV _ _ _ = p; cases p <;> exact Nat.le_refl _⟩
theorem good3_any (r : RawE) (lo : Option Addr) (es : List RawE) (lc : Nat) (w : World) (hr : r.Ok w) (hl : es.length ≤ 9223372036854775807) (hs : RowRaw w lo es) :
    Calls Try.prog 35 #[.agg #[.int .i64 r.k, .int .i64 r.n, .slice r.so r.xs.length r.sc, .slice lo es.length lc]] w fun e w' => Below w.heap.size w w' ∧ ∃ R, e = .returned R.val ∧ IsG w' (goodG r es) R :=
  (good3_cap r lo es lc w hr hl hs).mono fun _ _ ⟨hb, R, he, hg, _⟩ => ⟨hb, R, he, hg⟩
end Go.Proofs.Ythmmplmppchfmaa

namespace Go.Proofs.Ythmmplmppchfmaa
open Go.ChangeShapes Go.WideShapes Go.ChangeAt Go.WideMaps Go.WideElems Go.RowKit

/-- The elements of a slice of Raws, with their own lists. -/
def RowRaw2 (W : World) (lo : Option Addr) (es : List RawE) : Prop :=
  ∀ j (hj : j < es.length), es[j].Ok W ∧ ∃ b off lo' es' lc', lo = some ⟨b, off, none⟩ ∧ b < W.heap.size ∧ W.cell? ⟨b, off + j * 4, none⟩ = some (.int .i64 es[j].k) ∧ W.cell? ⟨b, off + j * 4 + 1, none⟩ = some (.int .i64 es[j].n) ∧
    W.cell? ⟨b, off + j * 4 + 2, none⟩ = some (.slice es[j].so es[j].xs.length es[j].sc) ∧ W.cell? ⟨b, off + j * 4 + 3, none⟩ = some (.slice lo' es'.length lc') ∧ es'.length ≤ 9223372036854775807 ∧ RowRaw W lo' es'

theorem RowRaw2.below {W W' : World} {lo : Option Addr} {es : List RawE} (h : RowRaw2 W lo es) (hb : Below W.heap.size W W') : RowRaw2 W' lo es := by
  intro j hj
  obtain ⟨ho, b, off, lo', es', lc', e, hlt, h0, h1, h2, h3, h4, h5⟩ := h j hj
  have := hb.size
  exact ⟨ho.below hb, b, off, lo', es', lc', e, by omega, (hb.cell (p := ⟨b, off + j * 4, none⟩) hlt).trans h0, (hb.cell (p := ⟨b, off + j * 4 + 1, none⟩) hlt).trans h1, (hb.cell (p := ⟨b, off + j * 4 + 2, none⟩) hlt).trans h2, (hb.cell (p := ⟨b, off + j * 4 + 3, none⟩) hlt).trans h3, h4, h5.below hb⟩

set_option maxRecDepth 100000 in
theorem raws_cell2 {H : Type} {enc : TypeId × Value → H} {W : World} {m : Nat} {v : Value} {y : DataW H × List MemPlace} (h : DataW.trod enc Try.prog W 0 (fun _ => true) true m 43 [v] = some y) :
    ∃ lo es lc, v = .slice lo es.length lc ∧ es.length ≤ 9223372036854775807 ∧ RowRaw2 W lo es := by
  rcases Deep.open_slice Try.underlying43 h with ⟨hcs, _⟩ | ⟨a, len, cap, m', n, D, Pl, hcs, _, hl, hm, hmm, _, hx⟩
  · cases hcs
    exact ⟨none, [], 0, rfl, by simp, fun j hj => by simp at hj⟩
  · cases hcs
    have hmm' : m' = cap := by simpa using hmm
    subst hmm'
    have H : ∀ i : Fin len, ∃ r : RawE, r.Ok W ∧ ∃ v3 lo' es' lc', v3 = .slice lo' (List.length es') lc' ∧ es'.length ≤ 9223372036854775807 ∧ RowRaw W lo' es' ∧ ∀ c u, ([.int .i64 r.k, .int .i64 r.n, .slice r.so r.xs.length r.sc, v3] : List Value)[c]? = some u → W.cell? ((a.add (i.1 * 4)).add c) = some u := fun i => by
      obtain ⟨cs', hcells, ht⟩ := hx i.1 (by have := i.2; omega)
      rw [c_raw] at hcells
      obtain ⟨_, hl4, hc⟩ := World.cells?_some hcells
      obtain ⟨r, v3, m2, y2, rfl, hok, h3⟩ := raw_cells ht
      obtain ⟨lo', es', lc', e3, hl3, hr3⟩ := raws_cell h3
      exact ⟨r, hok, v3, lo', es', lc', e3, hl3, hr3, fun c u hu => (hc c (by have := (List.getElem?_eq_some_iff.1 hu).1; simpa using this)).trans hu⟩
    obtain ⟨f, hf⟩ := Classical.axiomOfChoice H
    refine ⟨some a, List.ofFn f, m', by rw [List.length_ofFn], by rw [List.length_ofFn]; unfold maxLen at hm; omega, fun j hj => ?_⟩
    rw [List.length_ofFn] at hj
    rw [List.getElem_ofFn]
    obtain ⟨hok, v3, lo', es', lc', e3, hl3, hr3, hc⟩ := hf ⟨j, hj⟩
    subst e3
    refine ⟨hok, ?_⟩
    obtain ⟨_, _, _, _, _, _, _, _, hc00⟩ := hf ⟨0, by omega⟩
    have h0 := hc00 0 _ rfl
    obtain ⟨b, off, sp⟩ := a
    have hsp' : sp = none := by simpa [Addr.add] using World.cell?_spot h0
    subst hsp'
    have k0 := hc 0 _ rfl
    have k1 := hc 1 _ rfl
    have k2 := hc 2 _ rfl
    have k3 := hc 3 _ rfl
    simp only [Addr.add_lit, Nat.add_zero] at k0 k1 k2 k3
    exact ⟨b, off, lo', es', lc', rfl, cell_lt k0, k0, k1, k2, k3, hl3, hr3⟩

set_option maxRecDepth 100000 in
theorem open_raws2 {H : Type} {enc : TypeId × Value → H} {W : World} {b0 : Nat} {v : Value} {d : DataW H} {ps : List MemPlace}
    (hv : Value.okWide Try.prog W .any b0 43 v) (hd : DataW.Trod enc Try.prog W 0 (fun _ => true) true 43 v d ps) :
    ∃ (lo : Option Addr) (es : List RawE) (lc : Nat), v = .slice lo es.length lc ∧ es.length ≤ 9223372036854775807 ∧ RowRaw2 W lo es := by
  obtain ⟨a0, len, cap, rfl⟩ := okWide_slice Try.underlying43 hv
  obtain ⟨fuel, hf⟩ := hd
  exact raws_cell2 hf

/-- The cells of a row of any values. -/
def cellsR (l : List R7) : List Value := l.flatMap R7.cells
theorem cellsR_snoc (l : List R7) (r : R7) : cellsR (l ++ [r]) = cellsR l ++ r.cells := by simp [cellsR]
theorem cellsR_map (l : List PV) : cellsR (l.map ofP) = cellsOf l := by
  rw [cellsR, cellsOf, List.flatMap_map]
theorem cellsR_at : ∀ (l : List R7) (j : Nat) (h : j < l.length) (c : Nat), c < 7 → (cellsR l)[j * 7 + c]? = (l[j].cells)[c]?
  | [], j, h, _, _ => by simp at h
  | t :: r, 0, _, c, hc => by
    show (t.cells ++ cellsR r)[0 * 7 + c]? = _
    rw [Nat.zero_mul, Nat.zero_add, List.getElem?_append_left (by rw [cells_len]; exact hc)]
    rfl
  | t :: r, j + 1, h, c, hc => by
    have := cellsR_at r j (by simpa using h) c hc
    show (t.cells ++ cellsR r)[(j + 1) * 7 + c]? = (r[j]'(by simpa using h)).cells[c]?
    rw [← this, List.getElem?_append_right (by rw [cells_len]; omega), cells_len]
    congr 1
    omega
theorem rowR_own {w : World} {B : Nat} {v : Value} {l : List R7} (h : w.ownsRow B 49 7 v l.length (cellsR l)) : ∃ ao cap, v = .slice ao l.length cap ∧ l.length ≤ cap ∧ RowV w ao l ∧ (0 < l.length → ∃ g, ao = some ⟨g, 0, none⟩ ∧ B ≤ g) := by
  rcases h.2 with ⟨h0, hz⟩ | ⟨g, cap, cur, hv, hbg, hg, hnc, _, _, htake⟩
  · exact ⟨none, 0, by rw [h0, hz], by omega, fun j hj => by omega, fun hp => by omega⟩
  · refine ⟨_, cap, hv, hnc, fun j hj => ⟨g, 0, rfl, (Array.getElem?_eq_some_iff.1 hg).1, fun c u hc => ?_⟩, fun _ => ⟨g, rfl, hbg⟩⟩
    have hc7 : c < 7 := by have := (List.getElem?_eq_some_iff.1 hc).1; rw [cells_len] at this; exact this
    have := cellsR_at l j hj c hc7
    rw [hc, ← htake, List.getElem?_take] at this
    rw [Lib.cell_of_heap hg, Nat.zero_add]
    split at this
    · simpa using this
    · cases this

/-- What a value of the law's may be. -/
def okG : GV → Prop
  | .pl p => chkP p = 0 ∧ smallP p
  | .set _ => True
theorem all_plain {Q : PV → Prop} : ∀ (l : List R7), (∀ R ∈ l, ∃ p, R = ofP p ∧ Q p) → ∃ ps : List PV, l = ps.map ofP ∧ ∀ p ∈ ps, Q p
  | [], _ => ⟨[], rfl, by simp⟩
  | R :: t, h => by
    obtain ⟨p, rfl, hp⟩ := h R (by simp)
    obtain ⟨ps, rfl, hq⟩ := all_plain t (fun X hX => h X (by simp [hX]))
    exact ⟨p :: ps, rfl, fun q hq' => by
      rcases List.mem_cons.1 hq' with rfl | hq'
      · exact hp
      · exact hq q hq'⟩
end Go.Proofs.Ythmmplmppchfmaa
