/-
  chancellaw3.Good: what it returns.
  chancellaw3.Good: what it returns, whatever its kind.
  Slices of Raws, with what lies in their own lists; rows of any values.
  Small facts for ValueSets: what Set made, an empty row, a cut of a row.
  What Plain makes is a value such as may be.
  value.checkElements; value.Check of sets.
  value.checkElements; value.Check of sets.
  A set that was made of plain values such as may be may be.
  chancellaw3.ValueSets: the walk.
-/
import Derived.Test.YtppincbcaijcbaaGreatVfA
import Derived.Test.YtppincbcaijcbaaGreatVeC
import Derived.Test.YtppincbcaijcbaaGreatVeL
import Derived.Test.YtppincbcaijcbaaGreatVArgs
import Derived.Deep.Cut
import Derived.Test.YtppincbcaijcbaaGreatVgA
import Derived.Test.YtppincbcaijcbaaGreatVdE
import Derived.Test.YtppincbcaijcbaaGreatVdD
import Derived.Test.YtppincbcaijcbaaGreatVcS
import Derived.Test.YtppincbcaijcbaaGreatVcE
import Derived.Deep.QuietTactic
import Derived.BigQuiet
import Derived.Test.YtppincbcaijcbaaGreatVcM
import Derived.Test.YtppincbcaijcbaaGreatVcT
namespace Go.Proofs.YtppincbcaijcbaaGreat
open Go.RowKit Go.Sort

/-- The kind that Good takes, of the plain values within. -/
def goodK (k : Int) : Nat := (1 + wrap64 (k.tdiv 5) % 4).toNat
theorem goodK_eq (k : Int) : 1 ≤ goodK k ∧ goodK k ≤ 4 ∧ 1 + wrap64 (k.tdiv 5) % 4 = (goodK k : Int) := by
  unfold goodK
  have h0 := Int.emod_nonneg (wrap64 (k.tdiv 5)) (show (4 : Int) ≠ 0 by decide)
  have h1 := Int.emod_lt_of_pos (wrap64 (k.tdiv 5)) (show (0 : Int) < 4 by decide)
  omega

/-- The plain values that Good makes a set of. -/
def goodL (k : Int) (es : List RawE) : List PV := (es.take 8).map fun e => plainV (goodK k) e.n e.xs

theorem goodL_len (k : Int) (es : List RawE) : (goodL k es).length = min 8 es.length := by simp [goodL]
theorem goodL_snoc (k : Int) (es : List RawE) (i : Nat) (h : i < es.length) (h8 : i < 8) : (goodL k es).take (i + 1) = (goodL k es).take i ++ [plainV (goodK k) es[i].n es[i].xs] := by
  rw [List.take_succ_eq_append_getElem (by rw [goodL_len]; omega)]
  simp [goodL]
theorem plainV_kindB (p : Nat) (h1 : 1 ≤ p) (h4 : p ≤ 4) (n : Int) (xs : List Int) : (plainV p n xs).kind = p := by
  match p, h1, h4 with
  | 1, _, _ | 2, _, _ | 3, _, _ | 4, _, _ => rfl
theorem goodL_kind (k : Int) (es : List RawE) : ∀ p ∈ goodL k es, ∀ q ∈ goodL k es, p.kind = q.kind := by
  intro p hp q hq
  obtain ⟨a, _, rfl⟩ := List.mem_map.1 hp
  obtain ⟨b, _, rfl⟩ := List.mem_map.1 hq
  rw [plainV_kindB _ (goodK_eq k).1 (goodK_eq k).2.1, plainV_kindB _ (goodK_eq k).1 (goodK_eq k).2.1]

/-- What each slot of the region holds. -/
def goodSp (B : Nat) (lv lo : Value) (b off i : Nat) (raw : Value) (k : Int) (kd : Nat) (x : R7) : Nat → Value → World → Prop
  | 0, v, _ => v = lv
  | 1, v, _ => v = .pointer (some ⟨B, 3, none⟩)
  | 2, v, _ => v = lo
  | 3, v, _ => v = .int .i64 i
  | 4, v, _ => v = .pointer (some ⟨b, off + i * 4, none⟩)
  | 5, v, _ => v = raw
  | 6, v, _ => v = .pointer (some ⟨B, 0, none⟩)
  | 7, v, _ => v = .int .i64 k
  | 8, v, _ => v = .int .i64 (wrap64 (k.tdiv 5))
  | 9, v, _ => v = .int .i64 (wrap64 (k.tdiv 5) % 4)
  | 10, v, _ => v = .int .i64 kd
  | 11, v, _ => v = x.val
  | 12, v, w => ∃ blk, v = .slice (some ⟨blk, 0, none⟩) 1 1 ∧ blk < w.heap.size ∧ ∀ j u, x.cells[j]? = some u → w.cell? ((⟨blk, 0, none⟩ : Addr).add j) = some u
  | _, _, _ => True

theorem goodSp_up {B : Nat} {lv lo : Value} {b off i : Nat} {raw : Value} {k : Int} {kd : Nat} {x : R7} {w w' : World} (hb : Below w.heap.size w w') : ∀ j u, goodSp B lv lo b off i raw k kd x j u w → goodSp B lv lo b off i raw k kd x j u w'
  | 0, _, h | 1, _, h | 2, _, h | 3, _, h | 4, _, h | 5, _, h | 6, _, h | 7, _, h | 8, _, h | 9, _, h | 10, _, h | 11, _, h => h
  | 12, _, ⟨blk, e, hl, hc⟩ => ⟨blk, e, Nat.lt_of_lt_of_le hl hb.size, fun j u hu => (hb.cell (p := (⟨blk, 0, none⟩ : Addr).add j) (by rw [Addr.add_lit]; exact hl)).trans (hc j u hu)⟩
  | _ + 13, _, _ => trivial

set_option maxHeartbeats 4000000 in
set_option maxRecDepth 1000000 in
theorem good3_set (r : RawE) (lo : Option Addr) (es : List RawE) (lc : Nat) (w : World) (hl : es.length ≤ 9223372036854775807) (hs : RowRaw w lo es) (h5 : r.k % 5 = 4) :
    Calls Tryz.prog 9 #[.agg #[.int .i64 r.k, .int .i64 r.n, .slice r.so r.xs.length r.sc, .slice lo es.length lc]] w fun e w' => Below w.heap.size w w' ∧ ∃ ao c, e = .returned (setR ao (setOf lessP (goodL r.k es)).length c).val ∧ RowV w' ao ((setOf lessP (goodL r.k es)).map ofP) ∧ ∀ ad, ao = some ad → ad.off = 0 := by
  obtain ⟨i0, hi, hz0, hz1, hz2⟩ := info_parts infoValue
  have W1 := within3_any r.k 5 (by decide) (by decide)
  have W2 := within3_any (wrap64 (r.k.tdiv 5)) 4 (by decide) (by decide)
  rw [h5] at W1
  obtain ⟨hp1, hp4, hp⟩ := goodK_eq r.k
  have HL := hide (goodL_len r.k es)
  have HK := hide (goodL_kind r.k es)
  have Hsn := hide (goodL_snoc r.k es)
  obtain ⟨G, hG⟩ : ∃ G, G = goodL r.k es := ⟨_, rfl⟩
  rw [← hG] at HL HK Hsn ⊢
  obtain ⟨kd, hkd⟩ : ∃ kd, kd = goodK r.k := ⟨_, rfl⟩
  rw [← hkd] at Hsn hp1 hp4 hp
  clear hG hkd
  go_enter Tryz.func9, Tryz.ntmps9
  go_wp2_with fail
  have b2 := below2 w (.cells #[.int .i64 r.k, .int .i64 r.n, .slice r.so r.xs.length r.sc, .slice lo es.length lc] 30) (.cells #[.int .i64 0, .bool false, .int .i64 0, .string ⟨#[]⟩, .string ⟨#[]⟩, .string ⟨#[]⟩, .slice none 0 0] 26)
  generalize hw2 : (w.alloc (.cells #[.int .i64 r.k, .int .i64 r.n, .slice r.so r.xs.length r.sc, .slice lo es.length lc] 30)).alloc (.cells #[.int .i64 0, .bool false, .int .i64 0, .string ⟨#[]⟩, .string ⟨#[]⟩, .string ⟨#[]⟩, .slice none 0 0] 26) = w2 at *
  have Z2 := hide (show w2.heap.size = w.heap.size + 2 by rw [← hw2]; simp)
  have x0 : w2.cell? ⟨w.heap.size, 0, none⟩ = some (.int .i64 r.k) := by rw [← hw2]; simp
  have x3 : w2.cell? ⟨w.heap.size, 3, none⟩ = some (.slice lo es.length lc) := by rw [← hw2]; simp
  have Hw2 := hide hw2
  clear hw2
  refine (W1 _).mono ?_
  rintro e w1 ⟨rfl, rfl⟩
  clear W1
  go_wp2_with fail
  have L1 : w.heap.size + 1 < w1.heap.size := by have := unhide Z2; omega
  go_loopw [4, 5] (fun lv iv wr => ∃ i : Nat, iv = .int .i64 i ∧ i ≤ es.length ∧ i ≤ 8 ∧ Below w1.heap.size w1 wr ∧ wr.ownsRow w1.heap.size 26 7 lv (G.take i).length (cellsOf (G.take i))) (fun _ iv _ => 8 - (intOf iv).toNat)
  case atStart => exact ⟨0, by go_num, Nat.zero_le _, Nat.zero_le _, Below.refl _ _, World.ownsRow_nil _ _ _ _⟩
  case round =>
    obtain ⟨i, rfl, hie, hi8, hbw, hown⟩ := hrel
    have e0 := (hbw.cell (p := ⟨w.heap.size, 0, none⟩) (by show w.heap.size < _; omega)).trans x0
    have e3 := (hbw.cell (p := ⟨w.heap.size, 3, none⟩) (by show w.heap.size < _; omega)).trans x3
    by_cases hlt : i < es.length ∧ i < 8
    · obtain ⟨h1, h8⟩ := hlt
      have i1 : (i : Int) < (es.length : Int) := by omega
      have i2 : (i : Int) < 8 := by omega
      have hlen : (G.take i).length = i := by rw [List.length_take, unhide HL]; omega
      obtain ⟨hok, b, off, lo', ll', lc', rfl, hb, y0, y1, y2, y3⟩ := hs i h1
      have HS := hide (unhide Hsn i h1 h8)
      have b1r := b2.trans (hbw.mono b2.size)
      have PL : ∀ w', Below wr.heap.size wr w' → Calls Tryz.prog 24 #[.agg #[.int .i64 es[i].k, .int .i64 es[i].n, .slice es[i].so es[i].xs.length es[i].sc, .slice lo' ll' lc'], .int .i64 kd] w' fun e w'' => e = .returned (ofP (plainV kd es[i].n es[i].xs)).val ∧ Below w'.heap.size w' w'' := fun w' hb => plain3_any kd hp1 hp4 _ _ _ _ _ _ _ _ w' hok.len hok.cap ((hok.ints.below b1r).below hb)
      obtain ⟨x, hx⟩ : ∃ x, x = plainV kd es[i].n es[i].xs := ⟨_, rfl⟩
      rw [← hx] at PL HS
      have hcw : ∀ o, wr.cell? ⟨b, o, none⟩ = w.cell? ⟨b, o, none⟩ := fun o => b1r.cell (p := ⟨b, o, none⟩) hb
      have y0 := (hcw _).trans y0
      have y1 := (hcw _).trans y1
      have y2 := (hcw _).trans y2
      have y3 := (hcw _).trans y3
      have hbr : b < wr.heap.size := by have := b1r.size; omega
      have lw : w.heap.size < wr.heap.size := by have := hbw.size; omega
      generalize es[i] = ei at *
      have HIq := hide (show cellsOf [x] = (ofP x).cells by simp [cellsOf])
      obtain ⟨rx, erx⟩ : ∃ rx, rx = ofP x := ⟨_, rfl⟩
      rw [← erx] at PL HIq
      clear hx erx hcw hok
      obtain ⟨ao', cap', rfl, _⟩ := rowP_own hown
      rw [hlen] at hown ⊢
      have Hlen := hide hlen
      have Hown := hide hown
      clear hlen hown
      go_upto_region 8 with fail
      refine wp_specs_put 13 (goodSp w.heap.size (.slice ao' i cap') (.slice (some ⟨b, off, none⟩) es.length lc) b off i (.agg #[.int .i64 ei.k, .int .i64 ei.n, .slice ei.so ei.xs.length ei.sc, .slice lo' ll' lc']) r.k kd rx) (fun w' => Below wr.heap.size wr w') (by kernel_rfl) (by kernel_rfl) (Below.refl _ wr).drew ?_ ?_
      · intro j o hj ho a' w' hR hdep hslot K hK
        match j, hj with
        | 0, _ =>
          cases ho
          have e : a'.tmps.getD 4 undef = .slice ao' i cap' := hslot 4 (by decide)
          unfold Oper.wp
          go_simp
          exact hK _ _ rfl hR (fun _ _ h => h)
        | 1, _ =>
          cases ho
          have e : a'.tmps.getD 1 undef = .pointer (some ⟨w.heap.size, 0, none⟩) := hslot 1 (by decide)
          unfold Oper.wp
          go_simp
          exact hK _ _ rfl hR (fun _ _ h => h)
        | 2, _ =>
          cases ho
          have e : a'.tmps.getD 29 undef = .pointer (some ⟨w.heap.size, 3, none⟩) := hdep 1 (by kernel_rfl)
          have c3 := (hR.cell (p := ⟨w.heap.size, 3, none⟩) lw).trans e3
          unfold Oper.wp
          go_simp
          exact hK _ _ rfl hR (fun _ _ h => h)
        | 3, _ =>
          cases ho
          have e : a'.tmps.getD 5 undef = .int .i64 i := hslot 5 (by decide)
          unfold Oper.wp
          go_simp
          exact hK _ _ rfl hR (fun _ _ h => h)
        | 4, _ =>
          cases ho
          have e : a'.tmps.getD 30 undef = .slice (some ⟨b, off, none⟩) es.length lc := hdep 2 (by kernel_rfl)
          have e' : a'.tmps.getD 31 undef = .int .i64 i := hdep 3 (by kernel_rfl)
          unfold Oper.wp
          go_simp
          exact hK _ _ rfl hR (fun _ _ h => h)
        | 5, _ =>
          cases ho
          have e : a'.tmps.getD 32 undef = .pointer (some ⟨b, off + i * 4, none⟩) := hdep 4 (by kernel_rfl)
          have c0 := (hR.cell (p := ⟨b, off + i * 4, none⟩) hbr).trans y0
          have c1 := (hR.cell (p := ⟨b, off + i * 4 + 1, none⟩) hbr).trans y1
          have c2 := (hR.cell (p := ⟨b, off + i * 4 + 2, none⟩) hbr).trans y2
          have c3 := (hR.cell (p := ⟨b, off + i * 4 + 3, none⟩) hbr).trans y3
          unfold Oper.wp
          go_simp
          exact hK _ _ rfl hR (fun _ _ h => h)
        | 6, _ =>
          cases ho
          have e : a'.tmps.getD 1 undef = .pointer (some ⟨w.heap.size, 0, none⟩) := hslot 1 (by decide)
          unfold Oper.wp
          go_simp
          exact hK _ _ rfl hR (fun _ _ h => h)
        | 7, _ =>
          cases ho
          have e : a'.tmps.getD 34 undef = .pointer (some ⟨w.heap.size, 0, none⟩) := hdep 6 (by kernel_rfl)
          have c3 := (hR.cell (p := ⟨w.heap.size, 0, none⟩) lw).trans e0
          unfold Oper.wp
          go_simp
          exact hK _ _ rfl hR (fun _ _ h => h)
        | 8, _ =>
          cases ho
          have e : a'.tmps.getD 35 undef = .int .i64 r.k := hdep 7 (by kernel_rfl)
          unfold Oper.wp
          go_simp
          exact hK _ _ (congrArg (Value.int .i64) (by rw [IntKind.wrap_i64]; unfold wrap64; omega)) hR (fun _ _ h => h)
        | 9, _ =>
          cases ho
          have e : a'.tmps.getD 36 undef = .int .i64 (wrap64 (r.k.tdiv 5)) := hdep 8 (by kernel_rfl)
          have W2' := W2 w'
          clear W2
          unfold Oper.wp
          go_simp
          refine W2'.mono ?_
          rintro e w3 ⟨rfl, rfl⟩
          exact hK _ _ rfl hR (fun _ _ h => h)
        | 10, _ =>
          cases ho
          have e : a'.tmps.getD 37 undef = .int .i64 (wrap64 (r.k.tdiv 5) % 4) := hdep 9 (by kernel_rfl)
          unfold Oper.wp
          go_simp
          exact hK _ _ (congrArg (Value.int .i64) (show IntKind.i64.wrap (kd : Int) = kd by rw [IntKind.wrap_i64]; omega)) hR (fun _ _ h => h)
        | 11, _ =>
          cases ho
          have e1 : a'.tmps.getD 33 undef = _ := hdep 5 (by kernel_rfl)
          have e2 : a'.tmps.getD 38 undef = .int .i64 kd := hdep 10 (by kernel_rfl)
          have PW := PL w' hR
          clear PL
          unfold Oper.wp
          go_simp
          refine PW.mono ?_
          rintro e w3 ⟨rfl, b3⟩
          exact hK _ _ rfl (hR.trans (b3.mono hR.size)) (goodSp_up b3)
        | 12, _ =>
          cases ho
          have e1 : a'.tmps.getD 39 undef = rx.val := hdep 11 (by kernel_rfl)
          unfold R7.val at e1
          have e1' : a'.tmps[39]?.getD undef = .agg #[.int .i64 rx.k, .bool rx.b, .int .i64 rx.n, .string rx.s, .string rx.t, .string rx.i, .slice rx.lo rx.ll rx.lc] := by simpa using e1
          unfold Oper.wp
          go_simp
          exact hK _ _ ⟨w'.heap.size, rfl, by simp, news_row w' rx _ rfl⟩ (hR.alloc hR.size _) (goodSp_up (below1 _ _))
      · intro v w4 hR hall
        have f0 : v 0 = _ := hall 0 (by decide)
        have f1 : v 1 = _ := hall 1 (by decide)
        have f2 : v 2 = _ := hall 2 (by decide)
        have f3 : v 3 = _ := hall 3 (by decide)
        have f4 : v 4 = _ := hall 4 (by decide)
        have f5 : v 5 = _ := hall 5 (by decide)
        have f6 : v 6 = _ := hall 6 (by decide)
        have f7 : v 7 = _ := hall 7 (by decide)
        have f8 : v 8 = _ := hall 8 (by decide)
        have f9 : v 9 = _ := hall 9 (by decide)
        have f10 : v 10 = _ := hall 10 (by decide)
        have f11 : v 11 = _ := hall 11 (by decide)
        obtain ⟨blk, f12, hbl, hnews⟩ : ∃ blk, v 12 = .slice (some ⟨blk, 0, none⟩) 1 1 ∧ blk < w4.heap.size ∧ ∀ j u, rx.cells[j]? = some u → w4.cell? ((⟨blk, 0, none⟩ : Addr).add j) = some u := hall 12 (by decide)
        have hown4 := own_below (unhide Hown) hR
        have Hnews := hide hnews
        have Hown4 := hide hown4
        clear hall PL W2 hnews hown4
        simp only [putAll, dstOf, List.getElem?_cons_zero, List.getElem?_cons_succ, Option.bind_some, List.drop_succ_cons, List.drop_zero, f0, f1, f2, f3, f4, f5, f6, f7, f8, f9, f10, f11, f12]
        clear f0 f1 f2 f3 f4 f5 f6 f7 f8 f9 f10 f11 f12
        unfold R7.val
        simp only [Act.put, List.setIfInBounds_toArray, List.set_cons_succ, List.set_cons_zero]
        go_wp2_with (at_builtin; refine wpList_append_own _ rfl _ _ 24 rfl w1.heap.size 26 i0 _ 7 96 Tryz.underlying24 hi hz0 hz1 hz2 rfl (by decide) _ _ _ rfl (unhide Hown4) ⟨blk, 0, none⟩ 1 1 rx.cells rfl rfl ?c1 ?c2 ?c3 ?c4 ?c5 ?_)
        case c1 => exact unhide Hnews
        case c2 => exact cells_one rx
        case c3 => unfold maxLen; omega
        case c4 => omega
        case c5 => have := hbw.size; have := hR.size; omega
        intro v5 w5 hown5 hg5 _
        have b14 := hbw.trans (hR.mono hbw.size)
        have b5 : Below w1.heap.size w1 w5 := b14.grown hg5 b14.size (fun k hk => ((unhide Hown4).lt k hk).1)
        have Hown5 := hide hown5
        clear hown5 hg5
        go_wp2
        go_roundw
        case rel =>
          refine ⟨i + 1, by go_num, by omega, by omega, b5, ?_⟩
          rw [unhide HS, cellsOf_append, List.length_append, unhide Hlen, unhide HIq]
          exact unhide Hown5
        case measure =>
          simp only [intOf]
          omega
    · have hlen : (G.take i).length = G.length := by rw [List.length_take, unhide HL]; omega
      have htake : G.take i = G := List.take_of_length_le (by rw [unhide HL]; omega)
      rw [htake] at hown
      obtain ⟨ao', cap', rfl, hrow⟩ := rowV_own hown
      have hG8 : G.length ≤ 8 := by rw [unhide HL]; omega
      have ST := r3set_plain G ao' cap' wr (by omega) hrow (unhide HK)
      have hS8 := len_setOf_le G
      have hcv : ∀ o, wr.cell? ⟨w.heap.size + 1, o, none⟩ = w1.cell? ⟨w.heap.size + 1, o, none⟩ := fun o => hbw.cell (p := ⟨w.heap.size + 1, o, none⟩) L1
      have hfv : ∀ o, wr.frozen? ⟨w.heap.size + 1, o, none⟩ = w1.frozen? ⟨w.heap.size + 1, o, none⟩ := fun o => hbw.frozen (p := ⟨w.heap.size + 1, o, none⟩) L1
      have Hcv := hide hcv
      have Hfv := hide hfv
      have HG8 := hide hG8
      have HS8 := hide hS8
      have b1r := b2.trans (hbw.mono b2.size)
      have lw : w.heap.size + 1 < wr.heap.size := by have := hbw.size; omega
      clear hown hrow hlen htake hcv hfv hG8 hS8 hs x0 x3
      by_cases hei : i < es.length
      · have i1 : (i : Int) < (es.length : Int) := by omega
        have i2 : ¬ (i : Int) < 8 := by omega
        clear hlt
        go_wp2_with fail
        refine ST.mono ?_
        clear ST
        rintro e w3 ⟨b3, h3⟩
        rcases h3 with ⟨_, ao2, c2, rfl, hown2⟩ | ⟨h, _⟩
        rotate_left
        · have := unhide HS8
          have := unhide HG8
          omega
        obtain ⟨n, hn⟩ : ∃ n, n = (setOf lessP G).length := ⟨_, rfl⟩
        rw [← hn] at hown2 ⊢
        have Hn := hide hn
        clear hn
        have hc : ∀ o, w3.cell? ⟨w.heap.size + 1, o, none⟩ = w1.cell? ⟨w.heap.size + 1, o, none⟩ := fun o => (b3.cell (p := ⟨w.heap.size + 1, o, none⟩) lw).trans (unhide Hcv o)
        have hf : ∀ o, w3.frozen? ⟨w.heap.size + 1, o, none⟩ = w1.frozen? ⟨w.heap.size + 1, o, none⟩ := fun o => (b3.frozen (p := ⟨w.heap.size + 1, o, none⟩) lw).trans (unhide Hfv o)
        rw [← unhide Hw2] at hc hf
        have hc4 : ∀ o, (w3.alloc (.cells #[.int .i64 5, .bool false, .int .i64 0, .string (ba []), .string (ba []), .string (ba []), .slice ao2 n c2] 26)).cell? ⟨w.heap.size + 1, o, none⟩ = w3.cell? ⟨w.heap.size + 1, o, none⟩ := fun o => (below1 w3 _).cell (p := ⟨w.heap.size + 1, o, none⟩) (Nat.lt_of_lt_of_le lw b3.size)
        have hf4 : ∀ o, (w3.alloc (.cells #[.int .i64 5, .bool false, .int .i64 0, .string (ba []), .string (ba []), .string (ba []), .slice ao2 n c2] 26)).frozen? ⟨w.heap.size + 1, o, none⟩ = w3.frozen? ⟨w.heap.size + 1, o, none⟩ := fun o => (below1 w3 _).frozen (p := ⟨w.heap.size + 1, o, none⟩) (Nat.lt_of_lt_of_le lw b3.size)
        have b4 := (b1r.trans (b3.mono b1r.size)).alloc (Nat.le_trans b1r.size b3.size) (.cells #[.int .i64 5, .bool false, .int .i64 0, .string (ba []), .string (ba []), .string (ba []), .slice ao2 n c2] 26)
        have Hown4 := hide (hown2.alloc (.cells #[.int .i64 5, .bool false, .int .i64 0, .string (ba []), .string (ba []), .string (ba []), .slice ao2 n c2] 26))
        clear hown2
        unfold setR R7.val
        simp only
        go_upto_region 10 with fail
        have A4 := at7_new w3 (setR ao2 n c2)
        have hc5 := fun o => (hc4 o).trans (hc o)
        have hf5 := fun o => (hf4 o).trans (hf o)
        unfold setR at A4
        obtain ⟨a0, a1, a2, a3, a4, a5, a6⟩ := A4
        simp only [Nat.zero_add] at a0 a1 a2 a3 a4 a5 a6
        clear hc4 hf4 hc hf
        generalize w3.alloc _ = w4 at *
        go_wp2
        refine bodyPost_ret (v := .agg #[.int .i64 5, .bool false, .int .i64 0, .string (ba []), .string (ba []), .string (ba []), .slice ao2 n c2]) (by simp [results, Tryz.results9, go_sem, hc5]) rfl ⟨set7_below b4 (Nat.le_succ _) _ _ _ _ _ _ _, ao2, c2, by rw [← unhide Hn]; rfl, ?_⟩
        have hfin := own_set7 (unhide Hown4) lw (.int .i64 5) (.bool false) (.int .i64 0) (.string (ba [])) (.string (ba [])) (.string (ba [])) (.slice ao2 n c2)
        rw [unhide Hn] at hfin
        have hoff := own_at hfin
        obtain ⟨ao3, c3, e3, hrow3⟩ := rowV_own hfin
        cases e3
        rw [unhide Hn]
        exact ⟨hrow3, fun ad e => (hoff ad e).2.1⟩
      · have i1 : ¬ (i : Int) < (es.length : Int) := by omega
        clear hlt
        go_wp2_with fail
        refine ST.mono ?_
        clear ST
        rintro e w3 ⟨b3, h3⟩
        rcases h3 with ⟨_, ao2, c2, rfl, hown2⟩ | ⟨h, _⟩
        rotate_left
        · have := unhide HS8
          have := unhide HG8
          omega
        obtain ⟨n, hn⟩ : ∃ n, n = (setOf lessP G).length := ⟨_, rfl⟩
        rw [← hn] at hown2 ⊢
        have Hn := hide hn
        clear hn
        have hc : ∀ o, w3.cell? ⟨w.heap.size + 1, o, none⟩ = w1.cell? ⟨w.heap.size + 1, o, none⟩ := fun o => (b3.cell (p := ⟨w.heap.size + 1, o, none⟩) lw).trans (unhide Hcv o)
        have hf : ∀ o, w3.frozen? ⟨w.heap.size + 1, o, none⟩ = w1.frozen? ⟨w.heap.size + 1, o, none⟩ := fun o => (b3.frozen (p := ⟨w.heap.size + 1, o, none⟩) lw).trans (unhide Hfv o)
        rw [← unhide Hw2] at hc hf
        have hc4 : ∀ o, (w3.alloc (.cells #[.int .i64 5, .bool false, .int .i64 0, .string (ba []), .string (ba []), .string (ba []), .slice ao2 n c2] 26)).cell? ⟨w.heap.size + 1, o, none⟩ = w3.cell? ⟨w.heap.size + 1, o, none⟩ := fun o => (below1 w3 _).cell (p := ⟨w.heap.size + 1, o, none⟩) (Nat.lt_of_lt_of_le lw b3.size)
        have hf4 : ∀ o, (w3.alloc (.cells #[.int .i64 5, .bool false, .int .i64 0, .string (ba []), .string (ba []), .string (ba []), .slice ao2 n c2] 26)).frozen? ⟨w.heap.size + 1, o, none⟩ = w3.frozen? ⟨w.heap.size + 1, o, none⟩ := fun o => (below1 w3 _).frozen (p := ⟨w.heap.size + 1, o, none⟩) (Nat.lt_of_lt_of_le lw b3.size)
        have b4 := (b1r.trans (b3.mono b1r.size)).alloc (Nat.le_trans b1r.size b3.size) (.cells #[.int .i64 5, .bool false, .int .i64 0, .string (ba []), .string (ba []), .string (ba []), .slice ao2 n c2] 26)
        have Hown4 := hide (hown2.alloc (.cells #[.int .i64 5, .bool false, .int .i64 0, .string (ba []), .string (ba []), .string (ba []), .slice ao2 n c2] 26))
        clear hown2
        unfold setR R7.val
        simp only
        go_upto_region 10 with fail
        have A4 := at7_new w3 (setR ao2 n c2)
        have hc5 := fun o => (hc4 o).trans (hc o)
        have hf5 := fun o => (hf4 o).trans (hf o)
        unfold setR at A4
        obtain ⟨a0, a1, a2, a3, a4, a5, a6⟩ := A4
        simp only [Nat.zero_add] at a0 a1 a2 a3 a4 a5 a6
        clear hc4 hf4 hc hf
        generalize w3.alloc _ = w4 at *
        go_wp2
        refine bodyPost_ret (v := .agg #[.int .i64 5, .bool false, .int .i64 0, .string (ba []), .string (ba []), .string (ba []), .slice ao2 n c2]) (by simp [results, Tryz.results9, go_sem, hc5]) rfl ⟨set7_below b4 (Nat.le_succ _) _ _ _ _ _ _ _, ao2, c2, by rw [← unhide Hn]; rfl, ?_⟩
        have hfin := own_set7 (unhide Hown4) lw (.int .i64 5) (.bool false) (.int .i64 0) (.string (ba [])) (.string (ba [])) (.string (ba [])) (.slice ao2 n c2)
        rw [unhide Hn] at hfin
        have hoff := own_at hfin
        obtain ⟨ao3, c3, e3, hrow3⟩ := rowV_own hfin
        cases e3
        rw [unhide Hn]
        exact ⟨hrow3, fun ad e => (hoff ad e).2.1⟩
end Go.Proofs.YtppincbcaijcbaaGreat

namespace Go.Proofs.YtppincbcaijcbaaGreat
open Go.RowKit Go.Sort

set_option maxHeartbeats 4000000 in
set_option maxRecDepth 1000000 in
theorem good3_plain (r : RawE) (lo : Option Addr) (ll lc : Nat) (w : World) (hr : r.Ok w) (p : Nat) (hp1 : 1 ≤ p) (hp4 : p ≤ 4) (hp : 1 + r.k % 5 = (p : Int)) :
    Calls Tryz.prog 9 #[.agg #[.int .i64 r.k, .int .i64 r.n, .slice r.so r.xs.length r.sc, .slice lo ll lc]] w fun e w' => Below w.heap.size w w' ∧ e = .returned (ofP (plainV p r.n r.xs)).val := by
  have W1 := within3_any r.k 5 (by decide) (by decide)
  have hp5 : (p : Int) < 5 := by omega
  have PL0 := fun w' hz => plain3_any p hp1 hp4 r.k r.n r.xs r.so r.sc lo ll lc w' hr.len hr.cap hz
  obtain ⟨x, hx⟩ : ∃ x, x = ofP (plainV p r.n r.xs) := ⟨_, rfl⟩
  rw [← hx] at PL0 ⊢
  clear hx
  go_enter Tryz.func9, Tryz.ntmps9
  go_wp2_with fail
  have b2 := below2 w (.cells #[.int .i64 r.k, .int .i64 r.n, .slice r.so r.xs.length r.sc, .slice lo ll lc] 30) (.cells #[.int .i64 0, .bool false, .int .i64 0, .string ⟨#[]⟩, .string ⟨#[]⟩, .string ⟨#[]⟩, .slice none 0 0] 26)
  have PL := PL0 _ (hr.ints.below b2)
  clear PL0
  generalize hw2 : (w.alloc (.cells #[.int .i64 r.k, .int .i64 r.n, .slice r.so r.xs.length r.sc, .slice lo ll lc] 30)).alloc (.cells #[.int .i64 0, .bool false, .int .i64 0, .string ⟨#[]⟩, .string ⟨#[]⟩, .string ⟨#[]⟩, .slice none 0 0] 26) = w2 at *
  have Z2 := hide (show w2.heap.size = w.heap.size + 2 by rw [← hw2]; simp)
  have x0 : w2.cell? ⟨w.heap.size, 0, none⟩ = some (.int .i64 r.k) := by rw [← hw2]; simp
  have x1 : w2.cell? ⟨w.heap.size, 1, none⟩ = some (.int .i64 r.n) := by rw [← hw2]; simp
  have x2 : w2.cell? ⟨w.heap.size, 2, none⟩ = some (.slice r.so r.xs.length r.sc) := by rw [← hw2]; simp
  have x3 : w2.cell? ⟨w.heap.size, 3, none⟩ = some (.slice lo ll lc) := by rw [← hw2]; simp
  have Hw2 := hide hw2
  clear hw2
  refine (W1 _).mono ?_
  rintro e w1 ⟨rfl, rfl⟩
  clear W1
  go_wp2_with fail
  refine PL.mono ?_
  clear PL
  rintro e w3 ⟨rfl, b3⟩
  have hc : ∀ o, w3.cell? ⟨w.heap.size + 1, o, none⟩ = w1.cell? ⟨w.heap.size + 1, o, none⟩ := fun o => b3.cell (p := ⟨w.heap.size + 1, o, none⟩) (by have := unhide Z2; show w.heap.size + 1 < _; omega)
  have hf : ∀ o, w3.frozen? ⟨w.heap.size + 1, o, none⟩ = w1.frozen? ⟨w.heap.size + 1, o, none⟩ := fun o => b3.frozen (p := ⟨w.heap.size + 1, o, none⟩) (by have := unhide Z2; show w.heap.size + 1 < _; omega)
  rw [← unhide Hw2] at hc hf
  have b03 := b2.trans (b3.mono b2.size)
  clear x0 x1 x2 x3 b3
  unfold R7.val
  go_wp2
  exact bodyPost_ret (v := .agg #[.int .i64 x.k, .bool x.b, .int .i64 x.n, .string x.s, .string x.t, .string x.i, .slice x.lo x.ll x.lc]) (by simp [results, Tryz.results9, go_sem, hc]) rfl ⟨set7_below b03 (Nat.le_succ _) _ _ _ _ _ _ _, rfl⟩

/-- A value as the program holds it. -/
def IsG (w : World) : GV → R7 → Prop
  | .pl p, R => R = ofP p
  | .set l, R => ∃ ao c, R = setR ao l.length c ∧ RowV w ao (l.map ofP) ∧ ∀ ad, ao = some ad → ad.off = 0

theorem IsG.below {w w' : World} {g : GV} {R : R7} (h : IsG w g R) (hb : Below w.heap.size w w') : IsG w' g R := by
  cases g with
  | pl p => exact h
  | set l =>
    obtain ⟨ao, c, e, hr, ho⟩ := h
    exact ⟨ao, c, e, hr.below hb, ho⟩

/-- What Good makes. -/
def goodG (r : RawE) (es : List RawE) : GV := if r.k % 5 = 4 then .set (setOf lessP (goodL r.k es)) else .pl (plainV (1 + r.k % 5).toNat r.n r.xs)

theorem good3_any (r : RawE) (lo : Option Addr) (es : List RawE) (lc : Nat) (w : World) (hr : r.Ok w) (hl : es.length ≤ 9223372036854775807) (hs : RowRaw w lo es) :
    Calls Tryz.prog 9 #[.agg #[.int .i64 r.k, .int .i64 r.n, .slice r.so r.xs.length r.sc, .slice lo es.length lc]] w fun e w' => Below w.heap.size w w' ∧ ∃ R, e = .returned R.val ∧ IsG w' (goodG r es) R := by
  have h0 := Int.emod_nonneg r.k (show (5 : Int) ≠ 0 by decide)
  have h1 := Int.emod_lt_of_pos r.k (show (0 : Int) < 5 by decide)
  unfold goodG
  by_cases h5 : r.k % 5 = 4
  · rw [if_pos h5]
    refine (good3_set r lo es lc w hl hs h5).mono ?_
    rintro e w' ⟨hb, ao, c, he, hrow, ho⟩
    exact ⟨hb, _, he, ao, c, rfl, hrow, ho⟩
  · rw [if_neg h5]
    refine (good3_plain r lo es.length lc w hr (1 + r.k % 5).toNat (by omega) (by omega) (by omega)).mono ?_
    rintro e w' ⟨hb, he⟩
    exact ⟨hb, _, he, rfl⟩
end Go.Proofs.YtppincbcaijcbaaGreat

namespace Go.Proofs.YtppincbcaijcbaaGreat
open Go.ChangeShapes Go.WideShapes Go.ChangeAt Go.WideMaps Go.WideElems Go.RowKit

/-- The elements of a slice of Raws, with their own lists. -/
def RowRaw2 (W : World) (lo : Option Addr) (es : List RawE) : Prop :=
  ∀ j (hj : j < es.length), es[j].Ok W ∧ ∃ b off lo' es' lc', lo = some ⟨b, off, none⟩ ∧ b < W.heap.size ∧ W.cell? ⟨b, off + j * 4, none⟩ = some (.int .i64 es[j].k) ∧ W.cell? ⟨b, off + j * 4 + 1, none⟩ = some (.int .i64 es[j].n) ∧
    W.cell? ⟨b, off + j * 4 + 2, none⟩ = some (.slice es[j].so es[j].xs.length es[j].sc) ∧ W.cell? ⟨b, off + j * 4 + 3, none⟩ = some (.slice lo' es'.length lc') ∧ es'.length ≤ 9223372036854775807 ∧ RowRaw W lo' es'

theorem RowRaw2.below {W W' : World} {lo : Option Addr} {es : List RawE} (h : RowRaw2 W lo es) (hb : Below W.heap.size W W') : RowRaw2 W' lo es := by
  intro j hj
  obtain ⟨ho, b, off, lo', es', lc', e, hlt, h0, h1, h2, h3, h4, h5⟩ := h j hj
  have := hb.size
  exact ⟨ho.below hb, b, off, lo', es', lc', e, by omega, (hb.cell (p := ⟨b, off + j * 4, none⟩) hlt).trans h0, (hb.cell (p := ⟨b, off + j * 4 + 1, none⟩) hlt).trans h1, (hb.cell (p := ⟨b, off + j * 4 + 2, none⟩) hlt).trans h2, (hb.cell (p := ⟨b, off + j * 4 + 3, none⟩) hlt).trans h3, h4, h5.below hb⟩

set_option maxRecDepth 100000 in
theorem raws_cell2 {H : Type} {enc : TypeId × Value → H} {W : World} {m : Nat} {v : Value} {y : DataW H × List MemPlace} (h : DataW.trod enc Tryz.prog W 0 (fun _ => true) true m 28 [v] = some y) :
    ∃ lo es lc, v = .slice lo es.length lc ∧ es.length ≤ 9223372036854775807 ∧ RowRaw2 W lo es := by
  rcases Deep.open_slice Tryz.underlying28 h with ⟨hcs, _⟩ | ⟨a, len, cap, m', n, D, Pl, hcs, _, hl, hm, hmm, _, hx⟩
  · cases hcs
    exact ⟨none, [], 0, rfl, by simp, fun j hj => by simp at hj⟩
  · cases hcs
    have hmm' : m' = cap := by simpa using hmm
    subst hmm'
    have H : ∀ i : Fin len, ∃ r : RawE, r.Ok W ∧ ∃ v3 lo' es' lc', v3 = .slice lo' (List.length es') lc' ∧ es'.length ≤ 9223372036854775807 ∧ RowRaw W lo' es' ∧ ∀ c u, ([.int .i64 r.k, .int .i64 r.n, .slice r.so r.xs.length r.sc, v3] : List Value)[c]? = some u → W.cell? ((a.add (i.1 * 4)).add c) = some u := fun i => by
      obtain ⟨cs', hcells, ht⟩ := hx i.1 (by have := i.2; omega)
      rw [c_raw] at hcells
      obtain ⟨_, hl4, hc⟩ := World.cells?_some hcells
      obtain ⟨r, v3, m2, y2, rfl, hok, h3⟩ := raw_cells ht
      obtain ⟨lo', es', lc', e3, hl3, hr3⟩ := raws_cell h3
      exact ⟨r, hok, v3, lo', es', lc', e3, hl3, hr3, fun c u hu => (hc c (by have := (List.getElem?_eq_some_iff.1 hu).1; simpa using this)).trans hu⟩
    obtain ⟨f, hf⟩ := Classical.axiomOfChoice H
    refine ⟨some a, List.ofFn f, m', by rw [List.length_ofFn], by rw [List.length_ofFn]; unfold maxLen at hm; omega, fun j hj => ?_⟩
    rw [List.length_ofFn] at hj
    rw [List.getElem_ofFn]
    obtain ⟨hok, v3, lo', es', lc', e3, hl3, hr3, hc⟩ := hf ⟨j, hj⟩
    subst e3
    refine ⟨hok, ?_⟩
    obtain ⟨_, _, _, _, _, _, _, _, hc00⟩ := hf ⟨0, by omega⟩
    have h0 := hc00 0 _ rfl
    obtain ⟨b, off, sp⟩ := a
    have hsp' : sp = none := by simpa [Addr.add] using World.cell?_spot h0
    subst hsp'
    have k0 := hc 0 _ rfl
    have k1 := hc 1 _ rfl
    have k2 := hc 2 _ rfl
    have k3 := hc 3 _ rfl
    simp only [Addr.add_lit, Nat.add_zero] at k0 k1 k2 k3
    exact ⟨b, off, lo', es', lc', rfl, cell_lt k0, k0, k1, k2, k3, hl3, hr3⟩

set_option maxRecDepth 100000 in
theorem open_raws2 {H : Type} {enc : TypeId × Value → H} {W : World} {b0 : Nat} {v : Value} {d : DataW H} {ps : List MemPlace}
    (hv : Value.okWide Tryz.prog W .any b0 28 v) (hd : DataW.Trod enc Tryz.prog W 0 (fun _ => true) true 28 v d ps) :
    ∃ (lo : Option Addr) (es : List RawE) (lc : Nat), v = .slice lo es.length lc ∧ es.length ≤ 9223372036854775807 ∧ RowRaw2 W lo es := by
  obtain ⟨a0, len, cap, rfl⟩ := okWide_slice Tryz.underlying28 hv
  obtain ⟨fuel, hf⟩ := hd
  exact raws_cell2 hf

/-- The cells of a row of any values. -/
def cellsR (l : List R7) : List Value := l.flatMap R7.cells
theorem cellsR_snoc (l : List R7) (r : R7) : cellsR (l ++ [r]) = cellsR l ++ r.cells := by simp [cellsR]
theorem cellsR_map (l : List PV) : cellsR (l.map ofP) = cellsOf l := by
  rw [cellsR, cellsOf, List.flatMap_map]
theorem cellsR_at : ∀ (l : List R7) (j : Nat) (h : j < l.length) (c : Nat), c < 7 → (cellsR l)[j * 7 + c]? = (l[j].cells)[c]?
  | [], j, h, _, _ => by simp at h
  | t :: r, 0, _, c, hc => by
    show (t.cells ++ cellsR r)[0 * 7 + c]? = _
    rw [Nat.zero_mul, Nat.zero_add, List.getElem?_append_left (by rw [cells_len]; exact hc)]
    rfl
  | t :: r, j + 1, h, c, hc => by
    have := cellsR_at r j (by simpa using h) c hc
    show (t.cells ++ cellsR r)[(j + 1) * 7 + c]? = (r[j]'(by simpa using h)).cells[c]?
    rw [← this, List.getElem?_append_right (by rw [cells_len]; omega), cells_len]
    congr 1
    omega
theorem rowR_own {w : World} {B : Nat} {v : Value} {l : List R7} (h : w.ownsRow B 26 7 v l.length (cellsR l)) : ∃ ao cap, v = .slice ao l.length cap ∧ l.length ≤ cap ∧ RowV w ao l ∧ (0 < l.length → ∃ g, ao = some ⟨g, 0, none⟩ ∧ B ≤ g) := by
  rcases h.2 with ⟨h0, hz⟩ | ⟨g, cap, cur, hv, hbg, hg, hnc, _, _, htake⟩
  · exact ⟨none, 0, by rw [h0, hz], by omega, fun j hj => by omega, fun hp => by omega⟩
  · refine ⟨_, cap, hv, hnc, fun j hj => ⟨g, 0, rfl, (Array.getElem?_eq_some_iff.1 hg).1, fun c u hc => ?_⟩, fun _ => ⟨g, rfl, hbg⟩⟩
    have hc7 : c < 7 := by have := (List.getElem?_eq_some_iff.1 hc).1; rw [cells_len] at this; exact this
    have := cellsR_at l j hj c hc7
    rw [hc, ← htake, List.getElem?_take] at this
    rw [Lib.cell_of_heap hg, Nat.zero_add]
    split at this
    · simpa using this
    · cases this

/-- What a value of the law's may be. -/
def okG : GV → Prop
  | .pl p => chkP p = 0 ∧ smallP p
  | .set _ => True
theorem all_plain {Q : PV → Prop} : ∀ (l : List R7), (∀ R ∈ l, ∃ p, R = ofP p ∧ Q p) → ∃ ps : List PV, l = ps.map ofP ∧ ∀ p ∈ ps, Q p
  | [], _ => ⟨[], rfl, by simp⟩
  | R :: t, h => by
    obtain ⟨p, rfl, hp⟩ := h R (by simp)
    obtain ⟨ps, rfl, hq⟩ := all_plain t (fun X hX => h X (by simp [hX]))
    exact ⟨p :: ps, rfl, fun q hq' => by
      rcases List.mem_cons.1 hq' with rfl | hq'
      · exact hp
      · exact hq q hq'⟩
end Go.Proofs.YtppincbcaijcbaaGreat

namespace Go.Proofs.YtppincbcaijcbaaGreat
open Go.RowKit Go.Sort

theorem ba_nil : ba [] = ⟨#[]⟩ := rfl

theorem setPost_few {l T : List PV} {w w' : World} {e : Ending} (hT : T = setOf lessP l) (h8 : T.length ≤ 8) (h : SetPost l w e w') :
    ∃ a c, e = .returned (.tuple #[(setR a T.length c).val, .int .i64 0]) ∧ RowP w' a T ∧ RowV w' a (T.map ofP) ∧ Below w.heap.size w w' := by
  subst hT
  obtain ⟨hb, ⟨_, a, c, he, hown⟩ | ⟨h9, _⟩⟩ := h
  · refine ⟨a, c, he, ?_, ?_, hb⟩
    · obtain ⟨a', c', e', hr⟩ := rowP_own hown
      cases e'
      exact hr
    · obtain ⟨a', c', e', hr⟩ := rowV_own hown
      cases e'
      exact hr
  · omega

theorem own7_cells {w : World} {B g n c : Nat} {xs : List Value} (h : w.ownsRow B 26 7 (.slice (some ⟨g, 0, none⟩) n c) n xs) : (∀ j u, xs[j]? = some u → w.cell? ⟨g, j, none⟩ = some u) ∧ g < w.heap.size := by
  rcases h.2 with ⟨h0, _⟩ | ⟨g', cap, cur, hv, _, hg, _, _, _, htake⟩
  · cases h0
  · cases hv
    refine ⟨fun j u hj => ?_, (Array.getElem?_eq_some_iff.1 hg).1⟩
    rw [Lib.cell_of_heap hg]
    rw [← htake, List.getElem?_take] at hj
    split at hj
    · simpa using hj
    · cases hj

theorem own_empty (w : World) : (w.alloc (.cells #[] 26)).ownsRow w.heap.size 26 7 (.slice (some ⟨w.heap.size, 0, none⟩) 0 0) 0 [] := by
  refine ⟨rfl, .inr ⟨w.heap.size, 0, #[], rfl, Nat.le_refl _, alloc_heap w _, Nat.le_refl _, by unfold maxLen; omega, rfl, rfl⟩⟩

theorem run_values_from (g n cap q : Nat) (hq : q < n) (hc : n ≤ cap) (W : World) :
    (Instr.slice 24 (.slice (some ⟨g, 0, none⟩) n cap) (some (.int .i64 (q : Int))) none none).run Tryz.prog W = .ok (.slice (some ⟨g, q * 7, none⟩) (n - q) (cap - q)) W := by
  have ht : Tryz.prog.underlying 24 = some (.slice (Tryz.prog.elem 24)) := by kernel_rfl
  have h7 : ∀ w : World, (sizeOf (Tryz.prog.elem 24)).run Tryz.prog w = .ok 7 w := fun _ => by kernel_rfl
  rw [run_slice_l W 24 (some ⟨g, 0, none⟩) n cap ht .i64 (q : Int) (by omega) (by omega), h7]
  have hne : ¬ cap = q := by omega
  simp [sliced, hne, Addr.add]
  exact fun h => h.symm

theorem mem_twice {p : PV} {ps : List PV} {q : Nat} (h : p ∈ ps.drop q ++ ps) : p ∈ ps :=
  (List.mem_append.1 h).elim (fun h => List.mem_of_mem_drop h) id
/-- The same set, whatever is taken twice. -/
theorem setOf_twice (ps : List PV) (q : Nat) : setOf lessP (ps.drop q ++ ps) = setOf lessP ps :=
  setOf_same sto_lessP _ _ (fun z => by
    rw [List.mem_append]
    exact ⟨fun h => h.elim (fun h => List.mem_of_mem_drop h) id, fun h => .inr h⟩)
end Go.Proofs.YtppincbcaijcbaaGreat

namespace Go.Proofs.YtppincbcaijcbaaGreat
open Go.RowKit Go.Sort

theorem chkT_idt (xs : List Int) : chkT (idt xs) = 0 := by
  have h1 : okL (idt xs) = true := okL_ofL _ (picks_ok _)
  have h2 : runes (idt xs) = picks (xs.take 30) := runes_ofL _ (picks_ok _)
  have h3 : (picks (xs.take 30)).length ≤ 30 := by simp [picks]; omega
  unfold chkT
  rw [if_pos h1, h2, if_neg (by omega)]

theorem name_ty (m : Nat) (h : m < 5) : nameB (tyL.getD m []) = true := by
  match m, h with
  | 0, _ | 1, _ | 2, _ | 3, _ | 4, _ => decide

theorem chkP_plainV (k : Nat) (n : Int) (xs : List Int) : chkP (plainV k n xs) = 0 := by
  unfold plainV
  split
  · rfl
  · split
    · rfl
    · split
      · exact chkT_idt xs
      · show chkU _ _ = 0
        unfold chkU
        rw [if_pos (name_ty (tyI n) (tmod5 n))]
        exact chkT_idt xs

theorem small_plainV (k : Nat) (n : Int) (xs : List Int) : smallP (plainV k n xs) := by
  have h := txt_len (xs.take 30)
  unfold plainV
  split
  · trivial
  · split
    · trivial
    · split
      · show (idt xs).length ≤ 1099511627776
        unfold idt
        omega
      · refine ⟨?_, ?_⟩
        · have h5 := tmod5 n
          show (tyL.getD (tyI n) []).length ≤ 1099511627776
          unfold tyI
          generalize (n.tmod 5).natAbs = m at *
          match m, h5 with
          | 0, _ | 1, _ | 2, _ | 3, _ | 4, _ => decide
        · show (idt xs).length ≤ 1099511627776
          unfold idt
          omega
end Go.Proofs.YtppincbcaijcbaaGreat

namespace Go.Proofs.YtppincbcaijcbaaGreat
open Go.RowKit Go.Sort

/-- The plain value that a value is, by its kind. -/
def toP (r : R7) : PV := if r.k = 1 then .bool r.b else if r.k = 2 then .long r.n else if r.k = 3 then .str r.s.data.toList else .uid r.t.data.toList r.i.data.toList

def lessR (a b : R7) : Bool := lessP (toP a) (toP b)

/-- Is it above the one ahead? -/
def prevOk : Option R7 → R7 → Bool
  | none, _ => true
  | some p, e => lessR p e

/-- What the elements of a set are told, one by one; k0: the first one's kind. -/
def chkFrom (k0 : Int) : Option R7 → List R7 → Int
  | _, [] => 0
  | prev, e :: t => if mayB e.k k0 = false then 16 else if chkFlat e ≠ 0 then chkFlat e else if prevOk prev e = false then 1 else chkFrom k0 (some e) t

theorem chkFrom_cons (k0 : Int) (prev : Option R7) (e : R7) (t : List R7) : chkFrom k0 prev (e :: t) = if mayB e.k k0 = false then 16 else if chkFlat e ≠ 0 then chkFlat e else if prevOk prev e = false then 1 else chkFrom k0 (some e) t := by
  cases prev <;> rfl

def chkEls (es : List R7) : Int := if 8 < es.length then 4 else match es with | [] => 0 | e :: _ => chkFrom e.k none es

theorem plain_of_chk (r : R7) (h5 : r.k ≠ 5) (h : chkFlat r = 0) : r.val = valP (toP r) (.slice r.lo 0 r.lc) := by
  unfold chkFlat at h
  split at h
  · cases h
  · split at h
    · cases h
    · rename_i hk hm
      have hs : SameF r (bareR r) := by
        have hm' : moreB r = false := by simpa using hm
        unfold moreB at hm'
        rw [decide_eq_false_iff_not] at hm'
        exact Classical.not_not.1 hm'
      obtain ⟨k, b, n, s, t, i, lo, ll, lc⟩ := r
      unfold SameF bareR at hs
      simp only at hs hk h5 ⊢
      obtain ⟨e1, e2, e3, e4, e5, e6⟩ := hs
      have hK : k = 1 ∨ k = 2 ∨ k = 3 ∨ k = 4 := by omega
      rcases hK with rfl | rfl | rfl | rfl
      · rw [if_neg (by decide)] at e2 e3 e4 e5 e6
        subst e2 e3 e4 e5 e6
        rfl
      · rw [if_neg (by decide)] at e1 e3 e4 e5 e6
        subst e1 e3 e4 e5 e6
        rfl
      · rw [if_neg (by decide)] at e1 e2 e4 e5 e6
        subst e1 e2 e4 e5 e6
        rfl
      · rw [if_neg (by decide)] at e1 e2 e3 e6
        subst e1 e2 e3 e6
        rfl

theorem compare_R (a b : R7) (ha : a.k ≠ 5) (hb : b.k ≠ 5) (h1 : chkFlat a = 0) (h2 : chkFlat b = 0) (w : World) :
    Calls Tryz.prog 35 #[a.val, b.val] w fun e w' => e = .returned (.int .i64 (cmpP (toP a) (toP b))) ∧ Below w.heap.size w w' := by
  rw [plain_of_chk a ha h1, plain_of_chk b hb h2]
  exact compare_plain _ _ _ _ _ _ _ _ w

theorem less_R (a b : R7) (ha : a.k ≠ 5) (hb : b.k ≠ 5) (h1 : chkFlat a = 0) (h2 : chkFlat b = 0) (w : World) :
    Calls Tryz.prog 15 #[a.val, b.val] w fun e w' => e = .returned (.bool (lessR a b)) ∧ Below w.heap.size w w' := by
  unfold lessR
  rw [← less_cmp]
  exact less_of _ _ _ w fun w' _ => compare_R a b ha hb h1 h2 w'

theorem mayB_five {k k0 : Int} (h : mayB k k0 = true) : k ≠ 5 := by
  unfold mayB at h
  simp at h
  exact h.1

/-- The loop's memory: what is left to be told is told of the rest. -/
structure ChkInv (es : List R7) (h0 : 0 < es.length) (j : Nat) : Prop where
  le : j ≤ es.length
  rest : chkFrom es[0].k none es = chkFrom es[0].k (if j = 0 then none else es[j - 1]?) (es.drop j)
  prev : ∀ (h : j - 1 < es.length), 0 < j → es[j - 1].k ≠ 5 ∧ chkFlat es[j - 1] = 0

theorem chk_start (es : List R7) (h0 : 0 < es.length) : ChkInv es h0 0 := ⟨Nat.zero_le _, rfl, fun _ h => absurd h (Nat.not_lt_zero _)⟩

/-- One round: what it tells, or how it goes on. -/
theorem chk_round {es : List R7} {h0 : 0 < es.length} {j : Nat} (inv : ChkInv es h0 j) (hj : j < es.length) :
    (mayB es[j].k es[0].k = false → chkFrom es[0].k none es = 16) ∧
    (mayB es[j].k es[0].k = true → chkFlat es[j] ≠ 0 → chkFrom es[0].k none es = chkFlat es[j]) ∧
    (mayB es[j].k es[0].k = true → chkFlat es[j] = 0 → (j = 0 ∨ ∃ h : j - 1 < es.length, lessR es[j - 1] es[j] = true) → ChkInv es h0 (j + 1)) ∧
    (mayB es[j].k es[0].k = true → chkFlat es[j] = 0 → 0 < j → (∀ h : j - 1 < es.length, lessR es[j - 1] es[j] = false) → chkFrom es[0].k none es = 1) := by
  have hd : es.drop j = es[j] :: es.drop (j + 1) := List.drop_eq_getElem_cons hj
  have hr := inv.rest
  rw [hd] at hr
  refine ⟨fun h => ?_, fun h hc => ?_, fun h hc ho => ⟨by omega, ?_, fun _ _ => ?_⟩, fun h hc hpos hl => ?_⟩
  · rw [hr, chkFrom_cons, if_pos h]
  · rw [hr, chkFrom_cons, if_neg (by rw [h]; decide), if_pos hc]
  · rw [hr, chkFrom_cons, if_neg (by rw [h]; decide), if_neg (fun hn => hn hc), if_neg]
    · rw [if_neg (by omega), Nat.add_sub_cancel, List.getElem?_eq_getElem hj]
    · rcases ho with rfl | ⟨h1, h2⟩
      · rw [if_pos rfl]
        exact fun h => by cases h
      · by_cases hz : j = 0
        · rw [if_pos hz]
          exact fun h => by cases h
        · rw [if_neg hz, List.getElem?_eq_getElem h1]
          simp [prevOk, h2]
  · simp only [Nat.add_sub_cancel]
    exact ⟨mayB_five h, hc⟩
  · rw [hr, chkFrom_cons, if_neg (by rw [h]; decide), if_neg (fun hn => hn hc), if_pos]
    rw [if_neg (by omega), List.getElem?_eq_getElem (show j - 1 < es.length by omega)]
    exact hl _

theorem chk_end {es : List R7} {h0 : 0 < es.length} {j : Nat} (inv : ChkInv es h0 j) (hj : ¬ j < es.length) : chkFrom es[0].k none es = 0 := by
  rw [inv.rest, List.drop_eq_nil_of_le (by omega)]
  split <;> rfl
end Go.Proofs.YtppincbcaijcbaaGreat

namespace Go.Proofs.YtppincbcaijcbaaGreat
open Go.RowKit Go.Sort

def smallR (r : R7) : Prop := r.s.size ≤ 1099511627776 ∧ r.t.size ≤ 1099511627776 ∧ r.i.size ≤ 1099511627776

set_option maxHeartbeats 4000000 in
set_option maxRecDepth 1000000 in
theorem checkElements_any (es : List R7) (ao : Option Addr) (c : Nat) (w : World) (hl : es.length ≤ 1048576) (hr : RowV w ao es) (hsm : ∀ e ∈ es, smallR e) :
    Calls Tryz.prog 51 #[.slice ao es.length c] w fun e w' => e = .returned (.int .i64 (chkEls es)) ∧ Below w.heap.size w w' := by
  by_cases h8 : 8 < es.length
  · have e : chkEls es = 4 := if_pos h8
    rw [e]
    have i8 : (8 : Int) < (es.length : Int) := by omega
    go_enter Tryz.func51, Tryz.ntmps51
    go_wp2
    go_ret
    exact ⟨rfl, Below.refl _ _⟩
  have i8 : ¬ (8 : Int) < (es.length : Int) := by omega
  by_cases h0 : 0 < es.length
  case neg =>
    obtain rfl : es = [] := List.eq_nil_of_length_eq_zero (by omega)
    go_enter Tryz.func51, Tryz.ntmps51
    go_wp2
    go_loopw [11] (fun iv wr => iv = .int .i64 0 ∧ wr = w) (fun _ _ => 0)
    case atStart => exact ⟨rfl, rfl⟩
    case round =>
      obtain ⟨rfl, rfl⟩ := hrel
      go_wp2
      go_ret
      exact ⟨rfl, Below.refl _ _⟩
  have e : chkEls es = chkFrom es[0].k none es := by
    unfold chkEls
    rw [if_neg h8]
    cases es with
    | nil => exact absurd h0 (Nat.lt_irrefl _)
    | cons a t => rfl
  have HE := hide e
  clear e
  have Hsm := hide hsm
  clear hsm
  go_enter Tryz.func51, Tryz.ntmps51
  go_wp2
  go_loopw [11] (fun iv wr => ∃ i : Nat, iv = .int .i64 i ∧ ChkInv es h0 i ∧ Below w.heap.size w wr) (fun iv _ => es.length - (intOf iv).toNat)
  case atStart => exact ⟨0, by go_num, chk_start es h0, Below.refl _ _⟩
  case round =>
    obtain ⟨j, rfl, inv, hbw⟩ := hrel
    by_cases hlt : j < es.length
    · have i1 : (j : Int) < (es.length : Int) := by omega
      have i0 : (0 : Int) < (es.length : Int) := by omega
      have HR := hide (chk_round inv hlt)
      have Hinv := hide inv
      obtain ⟨b, off, rfl, A, hb⟩ := rowV_at hr hbw hlt
      obtain ⟨b', off', e', A0, _⟩ := rowV_at hr hbw h0
      cases e'
      rw [Nat.zero_mul, Nat.add_zero] at A0
      obtain ⟨s1, s2, s3⟩ := unhide Hsm es[j] (List.getElem_mem _)
      have LS := fun (h : j - 1 < es.length) (hp : 0 < j) (h5 : es[j].k ≠ 5) (hc : chkFlat es[j] = 0) (w : World) => less_R es[j - 1] es[j] (inv.prev h hp).1 h5 (inv.prev h hp).2 hc w
      have AP := fun (h : j - 1 < es.length) => rowV_at hr hbw h
      obtain ⟨r, er⟩ : ∃ r, r = es[j] := ⟨_, rfl⟩
      obtain ⟨r0, er0⟩ : ∃ r0, r0 = es[0] := ⟨_, rfl⟩
      rw [← er] at A s1 s2 s3 HR LS
      rw [← er0] at A0 HR HE
      clear er er0 inv
      have M := mayStandBy_any r r0
      have CF := fun (h5 : r.k ≠ 5) w => vcheck_flat r w h5 s1 s2 s3
      unfold R7.val at M CF LS
      obtain ⟨a0, a1, a2, a3, a4, a5, a6⟩ := A
      go_wp2_with fail
      have A3 := at7_new wr r
      have b3 : Below w.heap.size w (wr.alloc (.cells #[.int .i64 r.k, .bool r.b, .int .i64 r.n, .string r.s, .string r.t, .string r.i, .slice r.lo r.ll r.lc] 26)) := hbw.alloc hbw.size _
      have bw3 := below1 wr (.cells #[.int .i64 r.k, .bool r.b, .int .i64 r.n, .string r.s, .string r.t, .string r.i, .slice r.lo r.ll r.lc] 26)
      have z3 := size1 wr (.cells #[.int .i64 r.k, .bool r.b, .int .i64 r.n, .string r.s, .string r.t, .string r.i, .slice r.lo r.ll r.lc] 26)
      have z0 := (A0.below bw3 (by have := hbw.size; omega)).up
      clear a0 a1 a2 a3 a4 a5 a6 A0
      generalize wr.alloc _ = w3 at *
      have A3u := A3.up
      obtain ⟨a0, a1, a2, a3, a4, a5, a6⟩ := A3u
      obtain ⟨e0, e1, e2, e3, e4, e5, e6⟩ := z0
      simp only [Nat.zero_add] at a1 a2 a3 a4 a5 a6
      have cS := fun d os => Calls.regrown_of (w := w3) (d := d) (os := os) (M (grow (redrawn w3 d) os))
      clear M
      refine wp_region_quiet_below (by kernel_rfl) (by kernel_rfl) ?_
      repeat (quiet_step (exact cS _ _))
      refine wpQuiet_nil ?_
      intro _ hw'
      obtain ⟨⟨dq, osq⟩, hw''⟩ := hw'
      subst hw''
      have b34 := below_regrown w3 dq osq
      have b4 := b3.trans (b34.mono b3.size)
      have A4 := A3.below b34 (by omega)
      have bw4 := bw3.trans (b34.mono bw3.size)
      generalize grow (redrawn w3 dq) osq = w4 at *
      clear a0 a1 a2 a3 a4 a5 a6 e0 e1 e2 e3 e4 e5 e6 cS A3
      cases hm : mayB r.k r0.k with
      | false =>
        go_wp2
        go_ret
        refine ⟨ret_int ?_, b4⟩
        rw [unhide HE, (unhide HR).1 hm]
      | true =>
        have h5 := mayB_five hm
        have Hm := hide hm
        obtain ⟨a0, a1, a2, a3, a4, a5, a6⟩ := A4
        simp only [Nat.zero_add] at a1 a2 a3 a4 a5 a6
        have CFw := CF h5 w4
        by_cases hc : chkFlat r = 0
        · rw [hc] at CFw
          have Hc := hide hc
          clear hc hm
          go_wp2_with fail
          refine CFw.mono ?_
          rintro e w5 ⟨rfl, b45⟩
          have b5 := b4.trans (b45.mono b4.size)
          have A5 : At7 w5 wr.heap.size 0 r := At7.below ⟨a0, a1, a2, a3, a4, a5, a6⟩ b45 (by have := b34.size; omega)
          have bw5 := bw4.trans (b45.mono bw4.size)
          clear a0 a1 a2 a3 a4 a5 a6 CFw CF
          by_cases hj0 : j = 0
          · subst hj0
            clear AP LS A5
            go_wp2_with fail
            go_quiet (fail)
            have b6 := b5.trans ((below_drewN w5 nq).mono b5.size)
            go_wp2
            go_roundw
            case rel => exact ⟨1, by go_num, (unhide HR).2.2.1 (unhide Hm) (unhide Hc) (.inl (by trivial)), b6⟩
            case measure =>
              simp only [intOf]
              omega
          · have hp : 0 < j := by omega
            have hpl : j - 1 < es.length := by omega
            obtain ⟨b', off', e', AQ, _⟩ := AP hpl
            cases e'
            have LQ := LS hpl hp h5 (unhide Hc)
            have HX := hide (show ∀ x, x = lessR es[j - 1] r → (x = true → ChkInv es h0 (j + 1)) ∧ (x = false → chkFrom r0.k none es = 1) from fun x hx => ⟨fun h => (unhide HR).2.2.1 (unhide Hm) (unhide Hc) (.inr ⟨hpl, by rw [← hx]; exact h⟩), fun h => (unhide HR).2.2.2 (unhide Hm) (unhide Hc) hp (fun _ => by rw [← hx]; exact h)⟩)
            obtain ⟨p, ep⟩ : ∃ p, p = es[j - 1] := ⟨_, rfl⟩
            rw [← ep] at AQ LQ HX
            clear ep AP LS
            generalize hx : lessR p r = x at *
            have HX' := hide (unhide HX x rfl)
            clear hx HX
            have AQ5 := (AQ.below bw5 (by have := hbw.size; omega)).up
            have AR5 := A5.up
            clear A5 AQ
            obtain ⟨a0, a1, a2, a3, a4, a5, a6⟩ := AR5
            obtain ⟨e0, e1, e2, e3, e4, e5, e6⟩ := AQ5
            simp only [Nat.zero_add] at a1 a2 a3 a4 a5 a6
            have ej : (j : Int) - 1 = ((j - 1 : Nat) : Int) := by omega
            have hg : decide ((0 : Int) < (j : Int)) = true := decide_eq_true (by omega)
            have ew : IntKind.i64.wrap ((j - 1 : Nat) : Int) = ((j - 1 : Nat) : Int) := by rw [IntKind.wrap_i64]; omega
            have k0 : (0 : Int) ≤ ((j - 1 : Nat) : Int) := by omega
            have k1 : ((j - 1 : Nat) : Int) < (es.length : Int) := by omega
            have cS := fun d os => Calls.regrown_of (w := w5) (d := d) (os := os) (LQ (grow (redrawn w5 d) os))
            clear LQ
            go_wp2_with fail
            refine wp_region_quiet_below (by kernel_rfl) (by kernel_rfl) ?_
            repeat (quiet_step (exact cS _ _))
            refine wpQuiet_nil ?_
            intro _ hw'
            obtain ⟨⟨dq2, osq2⟩, hw''⟩ := hw'
            subst hw''
            have b6 := b5.trans ((below_regrown w5 dq2 osq2).mono b5.size)
            generalize grow (redrawn w5 dq2) osq2 = w6 at *
            clear a0 a1 a2 a3 a4 a5 a6 e0 e1 e2 e3 e4 e5 e6 cS
            cases x
            · go_wp2
              go_ret
              refine ⟨ret_int ?_, b6⟩
              rw [unhide HE, (unhide HX').2 (by trivial)]
            · go_wp2
              go_roundw
              case rel => exact ⟨j + 1, by go_num, (unhide HX').1 (by trivial), b6⟩
              case measure =>
                simp only [intOf]
                omega
        · have Hc := hide hc
          have hcb : (chkFlat r == 0) = false := by simpa using hc
          have HV := hide (show chkEls es = chkFlat r by rw [unhide HE]; exact (unhide HR).2.1 hm hc)
          clear hc hm
          generalize chkFlat r = x at *
          go_wp2_with fail
          refine CFw.mono ?_
          rintro e w5 ⟨rfl, b45⟩
          go_wp2
          go_ret
          exact ⟨ret_int (unhide HV).symm, b4.trans (b45.mono b4.size)⟩
    · have i1 : ¬ (j : Int) < (es.length : Int) := by omega
      have HV := hide (show chkEls es = 0 by rw [unhide HE]; exact chk_end inv hlt)
      go_wp2
      go_ret
      exact ⟨ret_int (unhide HV).symm, hbw⟩

set_option maxHeartbeats 2000000 in
set_option maxRecDepth 1000000 in
theorem cc_elements (es : List R7) (ao : Option Addr) (c : Nat) (w : World) (hl : es.length ≤ 1048576) (hr : RowV w ao es) (hsm : ∀ e ∈ es, smallR e) :
    Calls Tryz.prog 31 #[.iface 65 (.slice ao es.length c)] w fun e w' => e = .returned (.int .i64 (chkEls es)) ∧ Below w.heap.size w w' := by
  have C := checkElements_any es ao c w hl hr hsm
  generalize es.length = n at *
  have h1 : ∀ w, (Instr.typeAssert (.iface 65 (.slice ao n c)) 55 83 true).run Tryz.prog w = .ok (.tuple #[.string ⟨#[]⟩, .bool false]) w := fun w => by kernel_rfl
  have h2 : ∀ w, (Instr.typeAssert (.iface 65 (.slice ao n c)) 55 84 true).run Tryz.prog w = .ok (.tuple #[.agg #[.string ⟨#[]⟩, .string ⟨#[]⟩], .bool false]) w := fun w => by kernel_rfl
  have h3 : ∀ w, (Instr.typeAssert (.iface 65 (.slice ao n c)) 55 65 true).run Tryz.prog w = .ok (.tuple #[.slice ao n c, .bool true]) w := fun w => by kernel_rfl
  go_enter Tryz.func31, Tryz.ntmps31
  go_wp2_with fail
  refine C.mono ?_
  rintro e w2 ⟨rfl, b2⟩
  go_wp2
  go_ret
  exact ⟨rfl, b2⟩

set_option maxHeartbeats 400000 in
set_option maxRecDepth 100000 in
theorem elementsVal_any (lo : Option Addr) (ll lc : Nat) (w : World) :
    Calls Tryz.prog 97 #[.slice lo ll lc] w fun e w' => e = .returned (R7.val ⟨5, false, 0, ba [], ba [], ba [], lo, ll, lc⟩) ∧ Below w.heap.size w w' := by
  go_enter Tryz.func97, Tryz.ntmps97
  go_wp2
  exact bodyPost_ret (v := .agg #[.int .i64 5, .bool false, .int .i64 0, .string ⟨#[]⟩, .string ⟨#[]⟩, .string ⟨#[]⟩, .slice lo ll lc]) (by simp [results, Tryz.results97, go_sem]) rfl ⟨rfl, below1 _ _⟩

theorem mv_elements (v : Value) (w : World) : (method 256 65 v "chancel/value.value").run Tryz.prog w = .ok (97, v) w := by kernel_rfl
theorem ev_elements (v : Array Value) (w : World) : (callFunc 97 v).run Tryz.prog w = .ok (.enter 97 v) w := by kernel_rfl

/-- What a set is told. -/
def chkSet (r : R7) (es : List R7) : Int := if moreB r then 1 else chkEls es

theorem vcheck_set (r : R7) (es : List R7) (w : World) (h5 : r.k = 5) (hn : r.ll = es.length) (hl : es.length ≤ 1048576) (hr : RowV w r.lo es) (hsm : ∀ e ∈ es, smallR e) :
    Calls Tryz.prog 10 #[r.val] w fun e w' => e = .returned (.int .i64 (chkSet r es)) ∧ Below w.heap.size w w' := by
  have eb : (bareR r).val = R7.val ⟨5, false, 0, ba [], ba [], ba [], r.lo, r.ll, r.lc⟩ := by simp [bareR, h5, R7.val]
  have hH := fun w => hasMore_any r w
  rw [eb] at hH
  refine vcheck_of r _ 65 97 (.slice r.lo r.ll r.lc) (chkEls es) _ (moreB r) w (fun w => contentOf_kind r _ _ w (.inr (.inr (.inr (.inr ⟨h5, rfl, rfl⟩))))) (fun w => ta_no _ _ w (by simp)) (mv_elements _) (ev_elements _) (fun w => elementsVal_any _ _ _ w) hH (fun _ w' hb => ?_) rfl
  rw [hn]
  exact cc_elements es r.lo r.lc w' hl (hr.below hb) hsm
end Go.Proofs.YtppincbcaijcbaaGreat

namespace Go.Proofs.YtppincbcaijcbaaGreat
open Go.RowKit Go.Sort

theorem toP_ofP (p : PV) : toP (ofP p) = p := by cases p <;> rfl

theorem mayB_same (p : PV) (k0 : Int) (h : (p.kind : Int) = k0) : mayB (ofP p).k k0 = true := by
  rw [ofP_k, ← h]
  cases p <;> simp [mayB, PV.kind]

theorem chkFrom_ok (k0 : Int) : ∀ (S : List PV) (prev : Option PV), (∀ p ∈ S, (p.kind : Int) = k0 ∧ chkP p = 0) → Rising lessP S → (∀ p q, prev = some p → S.head? = some q → lessP p q = true) → chkFrom k0 (prev.map ofP) (S.map ofP) = 0
  | [], prev, _, _, _ => by cases prev <;> rfl
  | q :: S, prev, h1, h2, h3 => by
    have hq := h1 q (by simp)
    have h2' := List.pairwise_cons.1 h2
    rw [List.map_cons, chkFrom_cons, if_neg (by rw [mayB_same q k0 hq.1]; decide), chkFlat_ofP, if_neg (fun hn => hn hq.2), if_neg]
    · refine chkFrom_ok k0 S (some q) (fun p hp => h1 p (List.mem_cons_of_mem _ hp)) h2'.2 (fun p r hp hr => ?_)
      cases hp
      exact h2'.1 r (List.mem_of_mem_head? hr)
    · cases prev with
      | none => exact fun h => by cases h
      | some p =>
        have := h3 p q rfl rfl
        simp [prevOk, lessR, toP_ofP, this]

theorem chkEls_ok (S : List PV) (h8 : S.length ≤ 8) (hk : ∀ p ∈ S, ∀ q ∈ S, p.kind = q.kind) (hc : ∀ p ∈ S, chkP p = 0) (hr : Rising lessP S) : chkEls (S.map ofP) = 0 := by
  unfold chkEls
  rw [List.length_map, if_neg (by omega)]
  cases S with
  | nil => rfl
  | cons q S =>
    show chkFrom (ofP q).k none ((q :: S).map ofP) = 0
    refine chkFrom_ok _ (q :: S) none (fun p hp => ⟨?_, hc p hp⟩) hr (fun p _ h => by cases h)
    rw [ofP_k, hk p hp q (by simp)]

theorem more_set (ao : Option Addr) (n c : Nat) : moreB (setR ao n c) = false := by
  unfold moreB
  rw [decide_eq_false_iff_not, Classical.not_not]
  exact ⟨rfl, rfl, rfl, rfl, rfl, rfl⟩

theorem small_ofP (p : PV) (h : smallP p) : smallR (ofP p) := by
  have h0 : (ba []).size ≤ 1099511627776 := by decide
  cases p with
  | bool b => exact ⟨h0, h0, h0⟩
  | long n => exact ⟨h0, h0, h0⟩
  | str s => exact ⟨by rw [Lib.size_eq]; exact h, h0, h0⟩
  | uid t i => exact ⟨h0, by rw [Lib.size_eq]; exact h.1, by rw [Lib.size_eq]; exact h.2⟩

/-- Check of a set that was made. -/
theorem vcheck_made (S : List PV) (ao : Option Addr) (c : Nat) (w : World) (h8 : S.length ≤ 8) (hk : ∀ p ∈ S, ∀ q ∈ S, p.kind = q.kind) (hc : ∀ p ∈ S, chkP p = 0) (hs : ∀ p ∈ S, smallP p) (hr : Rising lessP S) (hrow : RowV w ao (S.map ofP)) :
    Calls Tryz.prog 10 #[(setR ao S.length c).val] w fun e w' => e = .returned (.int .i64 0) ∧ Below w.heap.size w w' := by
  have h := vcheck_set (setR ao S.length c) (S.map ofP) w rfl (by rw [List.length_map]; rfl) (by rw [List.length_map]; omega) hrow (fun e he => by
    obtain ⟨p, hp, rfl⟩ := List.mem_map.1 he
    exact small_ofP p (hs p hp))
  rw [chkSet, more_set, chkEls_ok S h8 hk hc hr] at h
  exact h
end Go.Proofs.YtppincbcaijcbaaGreat

namespace Go.Proofs.YtppincbcaijcbaaGreat
open Go.RowKit Go.Sort

theorem okG_plain (k : Nat) (n : Int) (xs : List Int) : okG (.pl (plainV k n xs)) := ⟨chkP_plainV k n xs, small_plainV k n xs⟩
theorem okG_good (r : RawE) (es : List RawE) : okG (goodG r es) := by
  unfold goodG
  split
  · trivial
  · exact okG_plain _ _ _


/-- A plain value such as may be, or a set. -/
def PlOr (R : R7) : Prop := (∃ p, (chkP p = 0 ∧ smallP p) ∧ R = ofP p) ∨ R.k = 5
theorem plOr_G {w : World} {g : GV} {R : R7} (ho : okG g) (h : IsG w g R) : PlOr R := by
  cases g with
  | pl p => exact .inl ⟨p, ho, h⟩
  | set l =>
    obtain ⟨ao, c, rfl, _⟩ := h
    exact .inr rfl

set_option maxHeartbeats 8000000 in
set_option maxRecDepth 1000000 in
theorem sets_walk (es : List RawE) (lo : Option Addr) (lc : Nat) (zs : List Int) (zo : Option Addr) (zc : Nat) (turn : Int) (w : World) (_hl : es.length ≤ 9223372036854775807) (hs : RowRaw2 w lo es) (hz : IntsAt w zo zs) :
    Calls Tryz.prog 5 #[.slice lo es.length lc, .slice zo zs.length zc, .int .i64 turn] w fun e w' => e = .returned (.bool true) ∧ Below w.heap.size w w' := by
  obtain ⟨i0, hi, hz0, hz1, hz2⟩ := info_parts infoValue
  have K := known3_any
  go_enter Tryz.func5, Tryz.ntmps5
  go_wp2_with fail
  refine (K _).mono ?_
  rintro e w1 ⟨rfl, b1⟩
  have hs1 := hs.below b1
  have hzz1 := hz.below b1
  clear hs hz K
  go_wp2
  go_loopw [7, 8] (fun lv iv wr => ∃ (i : Nat) (Rs : List R7), iv = .int .i64 i ∧ i ≤ es.length ∧ i ≤ 14 ∧ Rs.length ≤ 2 * i ∧ Below w1.heap.size w1 wr ∧ wr.ownsRow w1.heap.size 26 7 lv Rs.length (cellsR Rs) ∧ ∀ R ∈ Rs, PlOr R) (fun _ iv _ => 14 - (intOf iv).toNat)
  case atStart => exact ⟨0, [], rfl, Nat.zero_le _, Nat.zero_le _, by simp, Below.refl _ _, World.ownsRow_nil _ _ _ _, by simp⟩
  case round =>
    obtain ⟨i, Rs, rfl, hie, hi14, hRl, hbw, hown, hall⟩ := hrel
    have Hall := hide hall
    clear hall
    by_cases hlt : i < es.length ∧ i < 14
    · obtain ⟨h1, h14⟩ := hlt
      have j1 : (i : Int) < (es.length : Int) := by omega
      have j2 : (i : Int) < 14 := by omega
      obtain ⟨hok, b, off, lo', es', lc', rfl, hb, y0, y1, y2, y3, hl', hr'⟩ := hs1 i h1
      have Y0 := hide ((hbw.cell (p := ⟨b, off + i * 4, none⟩) hb).trans y0)
      have Y1 := hide ((hbw.cell (p := ⟨b, off + i * 4 + 1, none⟩) hb).trans y1)
      have Y2 := hide ((hbw.cell (p := ⟨b, off + i * 4 + 2, none⟩) hb).trans y2)
      have Y3 := hide ((hbw.cell (p := ⟨b, off + i * 4 + 3, none⟩) hb).trans y3)
      have hcw : ∀ o, wr.cell? ⟨b, o, none⟩ = w1.cell? ⟨b, o, none⟩ := fun o => hbw.cell (p := ⟨b, o, none⟩) hb
      have y0 := (hcw _).trans y0
      have y1 := (hcw _).trans y1
      have y2 := (hcw _).trans y2
      have y3 := (hcw _).trans y3
      have hokr := hok.below hbw
      have GD : ∀ W, Below w1.heap.size w1 W → Calls Tryz.prog 9 #[.agg #[.int .i64 es[i].k, .int .i64 es[i].n, .slice es[i].so es[i].xs.length es[i].sc, .slice lo' es'.length lc']] W fun e w' => Below W.heap.size W w' ∧ ∃ R, PlOr R ∧ e = .returned R.val := fun W hW => by
        refine (good3_any es[i] lo' es' lc' W (hok.below hW) hl' (hr'.below hW)).mono ?_
        rintro e w' ⟨hb', R, he, hg⟩
        exact ⟨hb', R, plOr_G (okG_good _ _) hg, he⟩
      have PL : ∀ (kd : Nat) (W : World), 1 ≤ kd → kd ≤ 4 → Below wr.heap.size wr W → Calls Tryz.prog 24 #[.agg #[.int .i64 es[i].k, .int .i64 es[i].n, .slice es[i].so es[i].xs.length es[i].sc, .slice lo' es'.length lc'], .int .i64 kd] W fun e w' => ∃ R, PlOr R ∧ e = .returned R.val ∧ Below W.heap.size W w' := fun kd W h1 h4 hW => by
        refine (plain3_any kd h1 h4 es[i].k es[i].n es[i].xs es[i].so es[i].sc lo' es'.length lc' W hokr.len hokr.cap (hokr.ints.below hW)).mono ?_
        rintro e w' ⟨he, hb'⟩
        exact ⟨_, .inl ⟨_, okG_plain _ _ _, rfl⟩, he, hb'⟩
      generalize es[i] = ei at *
      clear hok hr' hcw hokr
      obtain ⟨ao, cap, rfl, _, _, _⟩ := rowR_own hown
      by_cases hk : i < zs.length
      · have j3 : (i : Int) < (zs.length : Int) := by omega
        obtain ⟨zb, zoff, rfl, hzb, hzc⟩ := hzz1 i hk
        have hzc2 := (hbw.cell (p := ⟨zb, zoff + i, none⟩) hzb).trans hzc
        generalize zs[i] = x at *
        have W4 := within3_any x 4 (by decide) (by decide)
        obtain ⟨q, hq⟩ : ∃ q : Nat, (q : Int) = x % 4 := ⟨(x % 4).toNat, by omega⟩
        have hq4 : q < 4 := by omega
        rw [← hq] at W4
        clear hq hzc
        have P1 := fun W hW => PL (1 + q) W (by omega) (by omega) hW
        rw [show ((1 + q : Nat) : Int) = 1 + (q : Int) by omega] at P1
        go_wp2_with fail
        refine (W4 _).mono ?_
        rintro e w2 ⟨rfl, rfl⟩
        go_wp2_with fail
        refine (P1 _ (Below.refl _ _)).mono ?_
        rintro e w3 ⟨rx, hrx, rfl, b3⟩
        have hown3 := owns_below b3 hown
        have b13 := hbw.trans (b3.mono hbw.size)
        have Hrx := hide hrx
        clear hown hrx y0 y1 y2 y3
        unfold R7.val
        go_wp2_with (at_builtin; refine wpList_append_own _ rfl _ _ 24 rfl w1.heap.size 26 i0 _ 7 96 Tryz.underlying24 hi hz0 hz1 hz2 rfl (by decide) _ _ _ rfl (hown3.alloc _) ⟨w3.heap.size, 0, none⟩ 1 1 rx.cells rfl rfl ?p1 ?p2 ?p3 ?p4 ?p5 ?_)
        case p1 => exact news_row w3 rx _ rfl
        case p2 => exact cells_one rx
        case p3 => unfold maxLen; omega
        case p4 => omega
        case p5 => have := b13.size; simp; omega
        intro v6 w6 hown6 hgrow _
        have b6 : Below w1.heap.size w1 w6 := (b13.alloc b13.size _).grown hgrow (by have := b13.size; simp; omega) (fun g hg => (hown3.lt g hg).1)
        have hown6' : w6.ownsRow w1.heap.size 26 7 v6 (Rs ++ [rx]).length (cellsR (Rs ++ [rx])) := by rw [cellsR_snoc, List.length_append]; exact hown6
        have hall6 : ∀ R ∈ Rs ++ [rx], PlOr R := fun R hR => by
          rcases List.mem_append.1 hR with hR | hR
          · exact unhide Hall R hR
          · rw [List.mem_singleton.1 hR]
            exact unhide Hrx
        have Hall6 := hide hall6
        have hRl6 : (Rs ++ [rx]).length ≤ 2 * i + 1 := by rw [List.length_append, List.length_singleton]; omega
        clear hall6 hown6 hgrow hown3
        generalize Rs ++ [rx] = Rs6 at *
        obtain ⟨ao6, cap6, rfl, _, _, _⟩ := rowR_own hown6'
        have Hown6 := hide hown6'
        clear hown6'
        by_cases hz1' : zs.length = 1
        · have e1 : ((zs.length : Int) == 1) = true := by simpa using (show (zs.length : Int) = 1 by omega)
          have e0 : (0 : Int) < (zs.length : Int) := by omega
          obtain ⟨zb0, zoff0, ez, hzb0, hzc0⟩ := hzz1 0 (by omega)
          cases ez
          have hz60 := (b6.cell (p := ⟨zb, zoff + 0, none⟩) hzb0).trans hzc0
          rw [Nat.add_zero] at hz60
          generalize zs[0] = x0 at *
          have Hz1 := hide hz1'
          clear hz1' hzc0
          by_cases h8 : x0.tmod 9 = 8
          · have e8 : (x0.tmod 9 == 8) = true := by simpa using h8
            clear h8
            have yy0 := (b6.cell (p := ⟨b, off + i * 4, none⟩) hb).trans ((hbw.cell (p := ⟨b, off + i * 4, none⟩) hb).symm.trans (unhide Y0))
            have yy1 := (b6.cell (p := ⟨b, off + i * 4 + 1, none⟩) hb).trans ((hbw.cell (p := ⟨b, off + i * 4 + 1, none⟩) hb).symm.trans (unhide Y1))
            have yy2 := (b6.cell (p := ⟨b, off + i * 4 + 2, none⟩) hb).trans ((hbw.cell (p := ⟨b, off + i * 4 + 2, none⟩) hb).symm.trans (unhide Y2))
            have yy3 := (b6.cell (p := ⟨b, off + i * 4 + 3, none⟩) hb).trans ((hbw.cell (p := ⟨b, off + i * 4 + 3, none⟩) hb).symm.trans (unhide Y3))
            have G6 := GD w6 b6
            go_wp2_with fail
            refine G6.mono ?_
            rintro e w7 ⟨b7, ry, hry, rfl⟩
            have hown7 := owns_below b7 (unhide Hown6)
            have b17 := b6.trans (b7.mono b6.size)
            have Hry := hide hry
            clear hry yy0 yy1 yy2 yy3 hz60 G6
            unfold R7.val
            go_wp2_with (at_builtin; refine wpList_append_own _ rfl _ _ 24 rfl w1.heap.size 26 i0 _ 7 96 Tryz.underlying24 hi hz0 hz1 hz2 rfl (by decide) _ _ _ rfl (hown7.alloc _) ⟨w7.heap.size, 0, none⟩ 1 1 ry.cells rfl rfl ?q1 ?q2 ?q3 ?q4 ?q5 ?_)
            case q1 => exact news_row w7 ry _ rfl
            case q2 => exact cells_one ry
            case q3 => unfold maxLen; omega
            case q4 => omega
            case q5 => have := b17.size; simp; omega
            intro v8 w8 hown8 hgrow8 _
            have b8 : Below w1.heap.size w1 w8 := (b17.alloc b17.size _).grown hgrow8 (by have := b17.size; simp; omega) (fun g hg => (hown7.lt g hg).1)
            have Hown8 := hide hown8
            clear hown8 hgrow8 hown7
            go_wp2
            go_roundw
            case rel =>
              refine ⟨i + 1, Rs6 ++ [ry], by go_num, by omega, by omega, by rw [List.length_append, List.length_singleton]; omega, b8, ?_, fun R hR => ?_⟩
              · rw [cellsR_snoc, List.length_append]
                exact unhide Hown8
              · rcases List.mem_append.1 hR with hR | hR
                · exact unhide Hall6 R hR
                · rw [List.mem_singleton.1 hR]
                  exact unhide Hry
            case measure =>
              simp only [intOf]
              omega
          · have e8 : (x0.tmod 9 == 8) = false := by simpa using h8
            clear h8
            go_wp2
            go_roundw
            case rel => exact ⟨i + 1, Rs6, by go_num, by omega, by omega, by omega, b6, unhide Hown6, unhide Hall6⟩
            case measure =>
              simp only [intOf]
              omega
        · have e1 : ((zs.length : Int) == 1) = false := by simpa using (show ¬ (zs.length : Int) = 1 by omega)
          clear hz1'
          go_wp2
          go_roundw
          case rel => exact ⟨i + 1, Rs6, by go_num, by omega, by omega, by omega, b6, unhide Hown6, unhide Hall6⟩
          case measure =>
            simp only [intOf]
            omega
      · have j3 : ¬ (i : Int) < (zs.length : Int) := by omega
        have P1 := fun W hW => PL 2 W (by omega) (by omega) hW
        go_wp2_with fail
        refine (P1 _ (Below.refl _ _)).mono ?_
        rintro e w3 ⟨rx, hrx, rfl, b3⟩
        have hown3 := owns_below b3 hown
        have b13 := hbw.trans (b3.mono hbw.size)
        have Hrx := hide hrx
        clear hown hrx y0 y1 y2 y3
        unfold R7.val
        go_wp2_with (at_builtin; refine wpList_append_own _ rfl _ _ 24 rfl w1.heap.size 26 i0 _ 7 96 Tryz.underlying24 hi hz0 hz1 hz2 rfl (by decide) _ _ _ rfl (hown3.alloc _) ⟨w3.heap.size, 0, none⟩ 1 1 rx.cells rfl rfl ?r1 ?r2 ?r3 ?r4 ?r5 ?_)
        case r1 => exact news_row w3 rx _ rfl
        case r2 => exact cells_one rx
        case r3 => unfold maxLen; omega
        case r4 => omega
        case r5 => have := b13.size; simp; omega
        intro v6 w6 hown6 hgrow _
        have b6 : Below w1.heap.size w1 w6 := (b13.alloc b13.size _).grown hgrow (by have := b13.size; simp; omega) (fun g hg => (hown3.lt g hg).1)
        have hown6' : w6.ownsRow w1.heap.size 26 7 v6 (Rs ++ [rx]).length (cellsR (Rs ++ [rx])) := by rw [cellsR_snoc, List.length_append]; exact hown6
        have hall6 : ∀ R ∈ Rs ++ [rx], PlOr R := fun R hR => by
          rcases List.mem_append.1 hR with hR | hR
          · exact unhide Hall R hR
          · rw [List.mem_singleton.1 hR]
            exact unhide Hrx
        have Hall6 := hide hall6
        have hRl6 : (Rs ++ [rx]).length ≤ 2 * i + 1 := by rw [List.length_append, List.length_singleton]; omega
        clear hall6 hown6 hgrow hown3
        generalize Rs ++ [rx] = Rs6 at *
        obtain ⟨ao6, cap6, rfl, _, _, _⟩ := rowR_own hown6'
        have Hown6 := hide hown6'
        clear hown6'
        by_cases hz1' : zs.length = 1
        · have e1 : ((zs.length : Int) == 1) = true := by simpa using (show (zs.length : Int) = 1 by omega)
          have e0 : (0 : Int) < (zs.length : Int) := by omega
          obtain ⟨zb0, zoff0, ez, hzb0, hzc0⟩ := hzz1 0 (by omega)
          cases ez
          have hz60 := (b6.cell (p := ⟨zb0, zoff0 + 0, none⟩) hzb0).trans hzc0
          rw [Nat.add_zero] at hz60
          generalize zs[0] = x0 at *
          have Hz1 := hide hz1'
          clear hz1' hzc0
          by_cases h8 : x0.tmod 9 = 8
          · have e8 : (x0.tmod 9 == 8) = true := by simpa using h8
            clear h8
            have yy0 := (b6.cell (p := ⟨b, off + i * 4, none⟩) hb).trans ((hbw.cell (p := ⟨b, off + i * 4, none⟩) hb).symm.trans (unhide Y0))
            have yy1 := (b6.cell (p := ⟨b, off + i * 4 + 1, none⟩) hb).trans ((hbw.cell (p := ⟨b, off + i * 4 + 1, none⟩) hb).symm.trans (unhide Y1))
            have yy2 := (b6.cell (p := ⟨b, off + i * 4 + 2, none⟩) hb).trans ((hbw.cell (p := ⟨b, off + i * 4 + 2, none⟩) hb).symm.trans (unhide Y2))
            have yy3 := (b6.cell (p := ⟨b, off + i * 4 + 3, none⟩) hb).trans ((hbw.cell (p := ⟨b, off + i * 4 + 3, none⟩) hb).symm.trans (unhide Y3))
            have G6 := GD w6 b6
            go_wp2_with fail
            refine G6.mono ?_
            rintro e w7 ⟨b7, ry, hry, rfl⟩
            have hown7 := owns_below b7 (unhide Hown6)
            have b17 := b6.trans (b7.mono b6.size)
            have Hry := hide hry
            clear hry yy0 yy1 yy2 yy3 hz60 G6
            unfold R7.val
            go_wp2_with (at_builtin; refine wpList_append_own _ rfl _ _ 24 rfl w1.heap.size 26 i0 _ 7 96 Tryz.underlying24 hi hz0 hz1 hz2 rfl (by decide) _ _ _ rfl (hown7.alloc _) ⟨w7.heap.size, 0, none⟩ 1 1 ry.cells rfl rfl ?s1 ?s2 ?s3 ?s4 ?s5 ?_)
            case s1 => exact news_row w7 ry _ rfl
            case s2 => exact cells_one ry
            case s3 => unfold maxLen; omega
            case s4 => omega
            case s5 => have := b17.size; simp; omega
            intro v8 w8 hown8 hgrow8 _
            have b8 : Below w1.heap.size w1 w8 := (b17.alloc b17.size _).grown hgrow8 (by have := b17.size; simp; omega) (fun g hg => (hown7.lt g hg).1)
            have Hown8 := hide hown8
            clear hown8 hgrow8 hown7
            go_wp2
            go_roundw
            case rel =>
              refine ⟨i + 1, Rs6 ++ [ry], by go_num, by omega, by omega, by rw [List.length_append, List.length_singleton]; omega, b8, ?_, fun R hR => ?_⟩
              · rw [cellsR_snoc, List.length_append]
                exact unhide Hown8
              · rcases List.mem_append.1 hR with hR | hR
                · exact unhide Hall6 R hR
                · rw [List.mem_singleton.1 hR]
                  exact unhide Hry
            case measure =>
              simp only [intOf]
              omega
          · have e8 : (x0.tmod 9 == 8) = false := by simpa using h8
            clear h8
            go_wp2
            go_roundw
            case rel => exact ⟨i + 1, Rs6, by go_num, by omega, by omega, by omega, b6, unhide Hown6, unhide Hall6⟩
            case measure =>
              simp only [intOf]
              omega
        · have e1 : ((zs.length : Int) == 1) = false := by simpa using (show ¬ (zs.length : Int) = 1 by omega)
          clear hz1'
          go_wp2
          go_roundw
          case rel => exact ⟨i + 1, Rs6, by go_num, by omega, by omega, by omega, b6, unhide Hown6, unhide Hall6⟩
          case measure =>
            simp only [intOf]
            omega
    · have hcc : ¬ ((i : Int) < (es.length : Int)) ∨ ((i : Int) < (es.length : Int) ∧ ¬ ((i : Int) < 14)) := by omega
      rcases hcc with j1 | ⟨j1, j2⟩
      · skip
        obtain ⟨ao, cap, rfl, hRc, hrow, h0g⟩ := rowR_own hown
        have hR28 : Rs.length ≤ 28 := by omega
        by_cases hbad : ∃ (j : Nat) (hj : j < Rs.length), mayB Rs[j].k Rs[0].k = false
        · have h0 : 0 < Rs.length := by obtain ⟨j, hj, _⟩ := hbad; omega
          have S := set_bad Rs ao cap wr (by omega) hrow h0 hbad
          have RS := fun W h => r3set_bad Rs ao cap W (by omega) h h0 hbad
          clear hbad
          go_wp2_with fail
          refine S.mono ?_
          rintro e w2 ⟨rfl, b2⟩
          rw [show zero7.val = .agg #[.int .i64 0, .bool false, .int .i64 0, .string ⟨#[]⟩, .string ⟨#[]⟩, .string ⟨#[]⟩, .slice none 0 0] from rfl]
          have A3 := at7_new w2 zero7
          have b3 := below1 w2 (.cells #[.int .i64 zero7.k, .bool zero7.b, .int .i64 zero7.n, .string zero7.s, .string zero7.t, .string zero7.i, .slice zero7.lo zero7.ll zero7.lc] 26)
          have z3 := size1 w2 (.cells #[.int .i64 zero7.k, .bool zero7.b, .int .i64 zero7.n, .string zero7.s, .string zero7.t, .string zero7.i, .slice zero7.lo zero7.ll zero7.lc] 26)
          have hrow3 := (hrow.below b2).below b3
          simp only [zero7, ba_nil] at A3 b3 z3 hrow3
          go_wp2_with fail
          generalize w2.alloc _ = w3 at *
          refine (RS w3 hrow3).mono ?_
          rintro e w4 ⟨rfl, b4⟩
          rw [show zero7.val = .agg #[.int .i64 0, .bool false, .int .i64 0, .string ⟨#[]⟩, .string ⟨#[]⟩, .string ⟨#[]⟩, .slice none 0 0] from rfl]
          have A5 := (A3.below b4 (by omega)).below (below1 w4 (.cells #[.int .i64 zero7.k, .bool zero7.b, .int .i64 zero7.n, .string zero7.s, .string zero7.t, .string zero7.i, .slice zero7.lo zero7.ll zero7.lc] 26)) (by have := b4.size; omega)
          have A5' := at7_new w4 zero7
          have b5 := below1 w4 (.cells #[.int .i64 zero7.k, .bool zero7.b, .int .i64 zero7.n, .string zero7.s, .string zero7.t, .string zero7.i, .slice zero7.lo zero7.ll zero7.lc] 26)
          simp only [zero7, ba_nil] at A5 A5' b5
          go_upto_region 15 with fail
          generalize w4.alloc _ = w5 at *
          obtain ⟨a0, a1, a2, a3, a4, a5, a6⟩ := A5
          obtain ⟨d0, d1, d2, d3, d4, d5, d6⟩ := A5'
          simp only [Nat.zero_add] at a1 a2 a3 a4 a5 a6 d1 d2 d3 d4 d5 d6
          have SM := r3same_flat 0 false 0 ⟨#[]⟩ ⟨#[]⟩ ⟨#[]⟩ none none 0 0 w5
          unfold val7 at SM
          go_wp2_with fail
          refine SM.mono ?_
          rintro e w6 ⟨rfl, b6⟩
          have b14 := hbw.trans ((b2.trans ((b3.trans ((b4.trans ((b5.trans (b6.mono b5.size)).mono b4.size)).mono b3.size)).mono b2.size)).mono hbw.size)
          go_wp2
          go_ret
          exact ⟨rfl, b1.trans (b14.mono b1.size)⟩
        · have hpl : ∀ R ∈ Rs, ∃ p, R = ofP p ∧ (chkP p = 0 ∧ smallP p) := fun R hR => by
            rcases unhide Hall R hR with ⟨p, hp, e⟩ | h5
            · exact ⟨p, e, hp⟩
            · exfalso
              obtain ⟨j, hj, rfl⟩ := List.getElem_of_mem hR
              exact hbad ⟨j, hj, by simp [mayB, h5]⟩
          obtain ⟨ps, rfl, hps⟩ := all_plain Rs hpl
          have hkind : ∀ p ∈ ps, ∀ q ∈ ps, p.kind = q.kind := by
            have h00 : ∀ p ∈ ps, ∃ h0 : 0 < ps.length, p.kind = ps[0].kind := fun p hp => by
              obtain ⟨j, hj, rfl⟩ := List.getElem_of_mem hp
              have hm : ¬ mayB ((ps.map ofP)[j]'(by rw [List.length_map]; exact hj)).k ((ps.map ofP)[0]'(by rw [List.length_map]; omega)).k = false := fun h => hbad ⟨j, by rw [List.length_map]; exact hj, h⟩
              refine ⟨by omega, ?_⟩
              rw [List.getElem_map, List.getElem_map, ofP_k, ofP_k] at hm
              have : mayB ps[j].kind (ps[0]'(by omega)).kind = true := by simpa using hm
              simp only [mayB, Bool.and_eq_true, decide_eq_true_eq] at this
              exact Int.ofNat_inj.1 this.2
            intro p hp q hq
            obtain ⟨_, e1⟩ := h00 p hp
            obtain ⟨_, e2⟩ := h00 q hq
            rw [e1, e2]
          rw [List.length_map] at hRc hR28 h0g hown ⊢
          rw [cellsR_map] at hown
          have S0 := set_plain ps ao cap wr (by omega) hrow hkind
          have RS0 := fun W h => r3set_plain ps ao cap W (by omega) h hkind
          have Hps := hide hps
          have Hkind := hide hkind
          clear hbad hpl hps hkind Hall
          by_cases h8 : 8 < (setOf lessP ps).length
          · have S : Calls Tryz.prog 25 #[.slice ao ps.length cap] wr fun e w' => e = .returned (.tuple #[zero7.val, .int .i64 4]) ∧ Below wr.heap.size wr w' := S0.mono fun e w' h => by
              obtain ⟨hb, ⟨h, _⟩ | ⟨_, he⟩⟩ := h
              · omega
              · exact ⟨he, hb⟩
            have RS : ∀ W, RowV W ao (ps.map ofP) → Calls Tryz.prog 26 #[.slice ao ps.length cap] W fun e w' => e = .returned (.tuple #[zero7.val, .int .i64 4]) ∧ Below W.heap.size W w' := fun W h => (RS0 W h).mono fun e w' h => by
              obtain ⟨hb, ⟨h, _⟩ | ⟨_, he⟩⟩ := h
              · omega
              · exact ⟨he, hb⟩
            clear S0 RS0 h8
            go_wp2_with fail
            refine S.mono ?_
            rintro e w2 ⟨rfl, b2⟩
            rw [show zero7.val = .agg #[.int .i64 0, .bool false, .int .i64 0, .string ⟨#[]⟩, .string ⟨#[]⟩, .string ⟨#[]⟩, .slice none 0 0] from rfl]
            have A3 := at7_new w2 zero7
            have b3 := below1 w2 (.cells #[.int .i64 zero7.k, .bool zero7.b, .int .i64 zero7.n, .string zero7.s, .string zero7.t, .string zero7.i, .slice zero7.lo zero7.ll zero7.lc] 26)
            have z3 := size1 w2 (.cells #[.int .i64 zero7.k, .bool zero7.b, .int .i64 zero7.n, .string zero7.s, .string zero7.t, .string zero7.i, .slice zero7.lo zero7.ll zero7.lc] 26)
            have hrow3 := (hrow.below b2).below b3
            simp only [zero7, ba_nil] at A3 b3 z3 hrow3
            go_wp2_with fail
            generalize w2.alloc _ = w3 at *
            refine (RS w3 hrow3).mono ?_
            rintro e w4 ⟨rfl, b4⟩
            rw [show zero7.val = .agg #[.int .i64 0, .bool false, .int .i64 0, .string ⟨#[]⟩, .string ⟨#[]⟩, .string ⟨#[]⟩, .slice none 0 0] from rfl]
            have A5 := (A3.below b4 (by omega)).below (below1 w4 (.cells #[.int .i64 zero7.k, .bool zero7.b, .int .i64 zero7.n, .string zero7.s, .string zero7.t, .string zero7.i, .slice zero7.lo zero7.ll zero7.lc] 26)) (by have := b4.size; omega)
            have A5' := at7_new w4 zero7
            have b5 := below1 w4 (.cells #[.int .i64 zero7.k, .bool zero7.b, .int .i64 zero7.n, .string zero7.s, .string zero7.t, .string zero7.i, .slice zero7.lo zero7.ll zero7.lc] 26)
            simp only [zero7, ba_nil] at A5 A5' b5
            go_upto_region 15 with fail
            generalize w4.alloc _ = w5 at *
            obtain ⟨a0, a1, a2, a3, a4, a5, a6⟩ := A5
            obtain ⟨d0, d1, d2, d3, d4, d5, d6⟩ := A5'
            simp only [Nat.zero_add] at a1 a2 a3 a4 a5 a6 d1 d2 d3 d4 d5 d6
            have SM := r3same_flat 0 false 0 ⟨#[]⟩ ⟨#[]⟩ ⟨#[]⟩ none none 0 0 w5
            unfold val7 at SM
            go_wp2_with fail
            refine SM.mono ?_
            rintro e w6 ⟨rfl, b6⟩
            have b14 := hbw.trans ((b2.trans ((b3.trans ((b4.trans ((b5.trans (b6.mono b5.size)).mono b4.size)).mono b3.size)).mono b2.size)).mono hbw.size)
            go_wp2
            go_ret
            exact ⟨rfl, b1.trans (b14.mono b1.size)⟩
          · skip
            have hm8 : (setOf lessP ps).length ≤ 8 := by omega
            obtain ⟨T, hT⟩ : ∃ T, T = setOf lessP ps := ⟨_, rfl⟩
            have hTm : ∀ z, z ∈ T ↔ z ∈ ps := fun z => by rw [hT]; exact mem_setOf sto_lessP ps z
            have hTr : Rising lessP T := by rw [hT]; exact rising_setOf sto_lessP ps
            have hTl : T.length ≤ ps.length := by rw [hT]; exact len_setOf_le ps
            rw [← hT] at hm8
            have S1 : Calls Tryz.prog 25 #[.slice ao ps.length cap] wr fun e w' => ∃ a c, e = .returned (.tuple #[(setR a T.length c).val, .int .i64 0]) ∧ RowP w' a T ∧ RowV w' a (T.map ofP) ∧ Below wr.heap.size wr w' := S0.mono fun e w' h => setPost_few hT hm8 h
            have RS1 : ∀ W, RowV W ao (ps.map ofP) → Calls Tryz.prog 26 #[.slice ao ps.length cap] W fun e w' => ∃ a c, e = .returned (.tuple #[(setR a T.length c).val, .int .i64 0]) ∧ RowP w' a T ∧ RowV w' a (T.map ofP) ∧ Below W.heap.size W w' := fun W h => (RS0 W h).mono fun e w' h => setPost_few hT hm8 h
            have S2 : ∀ (q : Nat) (W : World) (a : Option Addr) (c : Nat), RowV W a ((ps.drop q ++ ps).map ofP) → Calls Tryz.prog 25 #[.slice a (ps.drop q ++ ps).length c] W fun e w' => ∃ a c, e = .returned (.tuple #[(setR a T.length c).val, .int .i64 0]) ∧ RowP w' a T ∧ RowV w' a (T.map ofP) ∧ Below W.heap.size W w' := fun q W a c h =>
              (set_plain (ps.drop q ++ ps) a c W (by rw [List.length_append, List.length_drop]; omega) h (fun p hp p' hp' => unhide Hkind p (mem_twice hp) p' (mem_twice hp'))).mono fun e w' h => setPost_few (hT.trans (setOf_twice ps q).symm) hm8 h
            have CK : ∀ (W : World) (a : Option Addr) (c : Nat), RowV W a (T.map ofP) → Calls Tryz.prog 10 #[(setR a T.length c).val] W fun e w' => e = .returned (.int .i64 0) ∧ Below W.heap.size W w' := fun W a c h =>
              vcheck_made T a c W hm8 (fun p hp q hq => unhide Hkind p ((hTm p).1 hp) q ((hTm q).1 hq)) (fun p hp => (unhide Hps p ((hTm p).1 hp)).1) (fun p hp => (unhide Hps p ((hTm p).1 hp)).2) hTr h
            have HD : ∀ (W : World) (a : Option Addr) (c : Nat) (p : PV), p ∈ ps → RowV W a (T.map ofP) → Calls Tryz.prog 17 #[(setR a T.length c).val, (ofP p).val] W fun e w' => e = .returned (.bool true) ∧ Below W.heap.size W w' := fun W a c p hp h => by
              have := holds_plain T p a c W (by omega) h
              rwa [decide_eq_true ((hTm p).2 hp)] at this
            have hT0 : ps.length = 0 → T.length = 0 := fun h => by omega
            clear S0 RS0 h8 hT hTm hTr Hps Hkind
            go_wp2_with fail
            refine S1.mono ?_
            rintro e w2 ⟨a1, c1, rfl, hP1, hV1, b2⟩
            rw [show (setR a1 T.length c1).val = .agg #[.int .i64 5, .bool false, .int .i64 0, .string ⟨#[]⟩, .string ⟨#[]⟩, .string ⟨#[]⟩, .slice a1 T.length c1] from rfl]
            have A3 := at7_new w2 (setR a1 T.length c1)
            have b3 := below1 w2 (.cells #[.int .i64 (setR a1 T.length c1).k, .bool (setR a1 T.length c1).b, .int .i64 (setR a1 T.length c1).n, .string (setR a1 T.length c1).s, .string (setR a1 T.length c1).t, .string (setR a1 T.length c1).i, .slice (setR a1 T.length c1).lo (setR a1 T.length c1).ll (setR a1 T.length c1).lc] 26)
            have z3 := size1 w2 (.cells #[.int .i64 (setR a1 T.length c1).k, .bool (setR a1 T.length c1).b, .int .i64 (setR a1 T.length c1).n, .string (setR a1 T.length c1).s, .string (setR a1 T.length c1).t, .string (setR a1 T.length c1).i, .slice (setR a1 T.length c1).lo (setR a1 T.length c1).ll (setR a1 T.length c1).lc] 26)
            have hrow3 := (hrow.below b2).below b3
            have hP3 := hP1.below b3
            have hV3 := hV1.below b3
            have A3' := A3
            simp only [setR, ba_nil] at A3 b3 z3 hrow3 hP3 hV3
            go_wp2_with fail
            generalize w2.alloc _ = w3 at *
            refine (RS1 w3 hrow3).mono ?_
            rintro e w4 ⟨a2, c2, rfl, hP2, _, b4⟩
            rw [show (setR a2 T.length c2).val = .agg #[.int .i64 5, .bool false, .int .i64 0, .string ⟨#[]⟩, .string ⟨#[]⟩, .string ⟨#[]⟩, .slice a2 T.length c2] from rfl]
            have A5 := (A3.below b4 (by omega)).below (below1 w4 (.cells #[.int .i64 (setR a2 T.length c2).k, .bool (setR a2 T.length c2).b, .int .i64 (setR a2 T.length c2).n, .string (setR a2 T.length c2).s, .string (setR a2 T.length c2).t, .string (setR a2 T.length c2).i, .slice (setR a2 T.length c2).lo (setR a2 T.length c2).ll (setR a2 T.length c2).lc] 26)) (by have := b4.size; omega)
            have A5' := at7_new w4 (setR a2 T.length c2)
            have b5 := below1 w4 (.cells #[.int .i64 (setR a2 T.length c2).k, .bool (setR a2 T.length c2).b, .int .i64 (setR a2 T.length c2).n, .string (setR a2 T.length c2).s, .string (setR a2 T.length c2).t, .string (setR a2 T.length c2).i, .slice (setR a2 T.length c2).lo (setR a2 T.length c2).ll (setR a2 T.length c2).lc] 26)
            simp only [setR, ba_nil] at A5 A5' b5
            go_upto_region 15 with fail
            generalize w4.alloc _ = w5 at *
            have hP5 := (hP3.below b4).below b5
            have hV5 := (hV3.below b4).below b5
            have hrow5 := (hrow3.below b4).below b5
            have b15 := hbw.trans ((b2.trans ((b3.trans ((b4.trans (b5.mono b4.size)).mono b3.size)).mono b2.size)).mono hbw.size)
            have hb10 : w2.heap.size < w5.heap.size := by have := b4.size; have := b5.size; omega
            have br5 := b2.trans ((b3.trans ((b4.trans (b5.mono b4.size)).mono b3.size)).mono b2.size)
            have A5k := hide A5
            obtain ⟨x0, x1, x2, x3, x4, x5, x6⟩ := A5
            obtain ⟨d0, d1, d2, d3, d4, d5, d6⟩ := A5'
            simp only [Nat.zero_add] at x1 x2 x3 x4 x5 x6 d1 d2 d3 d4 d5 d6
            have SM := r3same_set T T a1 a2 c1 c2 w5 (by omega) hP5 (hP2.below b5)
            rw [decide_eq_true rfl] at SM
            unfold valS val7 at SM
            simp only [ba_nil] at SM
            go_wp2_with fail
            refine SM.mono ?_
            rintro e w6 ⟨rfl, b6⟩
            have A6 := (unhide A5k).below b6 hb10
            have hP6 := hP5.below b6
            have hV6 := hV5.below b6
            have hrow6 := hrow5.below b6
            have b16 := b15.trans (b6.mono b15.size)
            have br6 := br5.trans (b6.mono br5.size)
            have hb10' : w2.heap.size < w6.heap.size := by have := b6.size; omega
            clear x0 x1 x2 x3 x4 x5 x6 d0 d1 d2 d3 d4 d5 d6 A3 A3' A5k hP1 hV1 hP3 hV3 hrow3 hP5 hV5 hrow5 hP2 hrow b15 br5 hb10 SM
            by_cases hn0 : ps.length = 0
            · have e0 : ((ps.length : Int) == 0) = true := by simpa using (show (ps.length : Int) = 0 by omega)
              have et : ((T.length : Int) == 0) = true := by simpa using (show (T.length : Int) = 0 by have := hT0 hn0; omega)
              clear hn0 hT0
              obtain ⟨x0, x1, x2, x3, x4, x5, x6⟩ := A6
              simp only [Nat.zero_add] at x1 x2 x3 x4 x5 x6
              go_wp2
              go_ret
              exact ⟨rfl, b1.trans (b16.mono b1.size)⟩
            · have e0 : ((ps.length : Int) == 0) = false := by simpa using (show ¬ (ps.length : Int) = 0 by omega)
              have h0 : 0 < ps.length := by omega
              obtain ⟨g, rfl, hg1⟩ := h0g h0
              obtain ⟨hcv, hgw⟩ := own7_cells hown
              have hcv6 : ∀ j u, (cellsOf ps)[j]? = some u → w6.cell? ⟨g, j, none⟩ = some u := fun j u h => (br6.cell (p := ⟨g, j, none⟩) hgw).trans (hcv j u h)
              have hg6 : g < w6.heap.size := by have := br6.size; omega
              have Hcv := hide hcv6
              clear hcv hcv6 hown hn0 hT0
              have WN := within3_any turn ps.length (by omega) (by omega)
              obtain ⟨q, hq⟩ : ∃ q : Nat, (q : Int) = turn % (ps.length : Int) := ⟨(turn % (ps.length : Int)).toNat, by have := Int.emod_nonneg turn (show (ps.length : Int) ≠ 0 by omega); omega⟩
              have hqn : q < ps.length := by have := Int.emod_lt_of_pos turn (show (0 : Int) < (ps.length : Int) by omega); omega
              rw [← hq] at WN
              clear hq
              have hsl := run_values_from g ps.length cap q hqn hRc
              go_wp2_with fail
              refine (WN _).mono ?_
              rintro e w7 ⟨rfl, rfl⟩
              obtain ⟨PP, hPP⟩ : ∃ PP, PP = ps.drop q ++ ps := ⟨_, rfl⟩
              have S2q := S2 q
              rw [← hPP] at S2q
              have own0 := own_empty w7
              have hdl : (cellsOf (ps.drop q)).length = (ps.length - q) * 7 := by rw [cellsOf_len, List.length_drop]
              have hdc : ∀ j u, (cellsOf (ps.drop q))[j]? = some u → w7.cell? ⟨g, q * 7 + j, none⟩ = some u := fun j u h => by
                rw [← cellsOf_drop ps q (by omega), List.getElem?_drop] at h
                exact unhide Hcv _ _ h
              have Hdl := hide hdl
              have Hdc := hide hdc
              clear hdl hdc WN S2
              go_wp2_with (at_builtin; refine wpList_append_own _ rfl _ _ 24 rfl w7.heap.size 26 i0 _ 7 96 Tryz.underlying24 hi hz0 hz1 hz2 rfl (by decide) _ _ _ rfl own0 ⟨g, q * 7, none⟩ (ps.length - q) (cap - q) (cellsOf (ps.drop q)) rfl ?m1 ?m2 ?m3 ?m4 ?m5 ?m6 ?_)
              case m1 => exact unhide Hdl
              case m2 =>
                intro j u hj
                rw [Addr.add_lit]
                exact ((below1 w7 (.cells #[] 26)).cell (p := ⟨g, q * 7 + j, none⟩) hg6).trans (unhide Hdc j u hj)
              case m3 => exact cellsOf_one _
              case m4 => unfold maxLen; omega
              case m5 => omega
              case m6 => simp
              intro v8 w8 hown8 hgrow8 _
              have b78 : Below w7.heap.size w7 w8 := (below1 w7 _).grown hgrow8 (by simp) (fun k hk => (own0.lt k hk).1)
              clear own0 hgrow8
              have hown8' : w8.ownsRow w7.heap.size 26 7 v8 (ps.length - q) (cellsOf (ps.drop q)) := by simpa using hown8
              clear hown8
              obtain ⟨a8, c8, rfl⟩ : ∃ a c, v8 = .slice a (ps.length - q) c := by
                rcases hown8'.2 with ⟨h0, hz⟩ | ⟨g', cap', cur', hv, _⟩
                · exact ⟨none, 0, by rw [h0, hz]⟩
                · exact ⟨_, _, hv⟩
              go_wp2_with (at_builtin; refine wpList_append_own _ rfl _ _ 24 rfl w7.heap.size 26 i0 _ 7 96 Tryz.underlying24 hi hz0 hz1 hz2 rfl (by decide) _ _ _ rfl hown8' ⟨g, 0, none⟩ ps.length cap (cellsOf ps) rfl ?n1 ?n2 ?n3 ?n4 ?n5 ?n6 ?_)
              case n1 => exact cellsOf_len ps
              case n2 =>
                intro j u hj
                rw [Addr.add_lit, Nat.zero_add]
                exact (b78.cell (p := ⟨g, j, none⟩) hg6).trans (unhide Hcv j u hj)
              case n3 => exact cellsOf_one _
              case n4 => unfold maxLen; omega
              case n5 => omega
              case n6 => exact b78.size
              intro v9 w9 hown9 hgrow9 _
              have b79 : Below w7.heap.size w7 w9 := b78.grown hgrow9 b78.size (fun k hk => (hown8'.lt k hk).1)
              have hown9' : w9.ownsRow w7.heap.size 26 7 v9 PP.length (cellsOf PP) := by
                rw [hPP, cellsOf_append, List.length_append, List.length_drop]
                exact hown9
              have hPl : PP.length ≤ 60 := by rw [hPP, List.length_append, List.length_drop]; omega
              clear hown9 hgrow9 hown8' hPP b78
              obtain ⟨a9, c9, rfl, hV9⟩ := rowV_own hown9'
              clear hown9'
              go_wp2_with fail
              refine (S2q _ a9 c9 hV9).mono ?_
              rintro e w10 ⟨a3, c3, rfl, hP10, _, b10⟩
              rw [show (setR a3 T.length c3).val = .agg #[.int .i64 5, .bool false, .int .i64 0, .string ⟨#[]⟩, .string ⟨#[]⟩, .string ⟨#[]⟩, .slice a3 T.length c3] from rfl]
              have b710 := b79.trans (b10.mono b79.size)
              have b11 := below1 w10 (.cells #[.int .i64 (setR a3 T.length c3).k, .bool (setR a3 T.length c3).b, .int .i64 (setR a3 T.length c3).n, .string (setR a3 T.length c3).s, .string (setR a3 T.length c3).t, .string (setR a3 T.length c3).i, .slice (setR a3 T.length c3).lo (setR a3 T.length c3).ll (setR a3 T.length c3).lc] 26)
              have A11' := at7_new w10 (setR a3 T.length c3)
              simp only [setR, ba_nil] at b11 A11'
              go_upto_region 25 with fail
              generalize w10.alloc _ = w11 at *
              have b711 := b710.trans (b11.mono b710.size)
              have A11 := A6.below b711 hb10'
              have hP11 := hP6.below b711
              have hV11 := hV6.below b711
              have hrow11 := hrow6.below b711
              have A11k := hide A11
              obtain ⟨x0, x1, x2, x3, x4, x5, x6⟩ := A11
              obtain ⟨d0, d1, d2, d3, d4, d5, d6⟩ := A11'
              simp only [Nat.zero_add] at x1 x2 x3 x4 x5 x6 d1 d2 d3 d4 d5 d6
              have SM := r3same_set T T a3 a1 c3 c1 w11 (by omega) (hP10.below b11) hP11
              rw [decide_eq_true rfl] at SM
              unfold valS val7 at SM
              simp only [ba_nil] at SM
              go_wp2_with fail
              refine SM.mono ?_
              rintro e w12 ⟨rfl, b12⟩
              have b712 := b711.trans (b12.mono b711.size)
              have A12 := (unhide A11k).below b12 (by have := b711.size; omega)
              have hV12 := hV11.below b12
              have hrow12 := hrow11.below b12
              clear x0 x1 x2 x3 x4 x5 x6 d0 d1 d2 d3 d4 d5 d6 SM A11k
              have A12k := hide A12
              obtain ⟨x0, x1, x2, x3, x4, x5, x6⟩ := A12
              simp only [Nat.zero_add] at x1 x2 x3 x4 x5 x6
              have C12 := CK w12 a1 c1 hV12
              rw [show (setR a1 T.length c1).val = .agg #[.int .i64 5, .bool false, .int .i64 0, .string ⟨#[]⟩, .string ⟨#[]⟩, .string ⟨#[]⟩, .slice a1 T.length c1] from rfl] at C12
              go_wp2_with fail
              refine C12.mono ?_
              rintro e w13 ⟨rfl, b13⟩
              have b713 := b712.trans (b13.mono b712.size)
              have A13 := (unhide A12k).below b13 (by have := b712.size; omega)
              have hV13 := hV12.below b13
              have hrow13 := hrow12.below b13
              have b113 := b16.trans (b713.mono b16.size)
              have hb13 : w2.heap.size < w13.heap.size := by have := b713.size; omega
              clear x0 x1 x2 x3 x4 x5 x6 C12 A12k hV12 hrow12 hV11 hrow11 hP11 hP10 hV9 CK S2q hP6 hV6 hrow6 A6
              go_wp2
              go_loopw [19] (fun iv wr => ∃ k : Nat, k ≤ ps.length ∧ iv = .int .i64 k ∧ Below w13.heap.size w13 wr) (fun iv _ => ps.length - (intOf iv).toNat)
              case atStart => exact ⟨0, Nat.zero_le _, rfl, Below.refl _ _⟩
              case round =>
                obtain ⟨k, hk, rfl, hb14⟩ := hrel
                by_cases hkn : k < ps.length
                · have jk : (k : Int) < (ps.length : Int) := by omega
                  obtain ⟨b', off', eo, E, _⟩ := rowV_at hrow13 hb14 (j := k) (by rw [List.length_map]; exact hkn)
                  cases eo
                  rw [List.getElem_map, Nat.zero_add] at E
                  have hV14 := hV13.below hb14
                  have A14 := (A13.below hb14 hb13).up
                  have M := fun d os => HD (grow (redrawn wr d) os) a1 c1 ps[k] (List.getElem_mem _) (hV14.below (below_regrown wr d os))
                  obtain ⟨r, er⟩ : ∃ r, r = ofP ps[k] := ⟨_, rfl⟩
                  rw [← er] at E M
                  have E14 := E.up
                  clear er E
                  rw [show (setR a1 T.length c1).val = .agg #[.int .i64 5, .bool false, .int .i64 0, .string ⟨#[]⟩, .string ⟨#[]⟩, .string ⟨#[]⟩, .slice a1 T.length c1] from rfl] at M
                  unfold R7.val at M
                  obtain ⟨x0, x1, x2, x3, x4, x5, x6⟩ := A14
                  obtain ⟨y0, y1, y2, y3, y4, y5, y6⟩ := E14
                  simp only [Nat.zero_add] at x1 x2 x3 x4 x5 x6
                  have cS := fun d os => Calls.regrown_of (w := wr) (d := d) (os := os) (M d os)
                  clear M
                  go_wp2_with fail
                  refine wp_region_quiet_below (by kernel_rfl) (by kernel_rfl) ?_
                  repeat (quiet_step (exact cS _ _))
                  refine wpQuiet_nil ?_
                  intro _ hw'
                  obtain ⟨⟨dq, osq⟩, hw''⟩ := hw'
                  subst hw''
                  have b4' : Below w13.heap.size w13 (grow (redrawn wr dq) osq) := hb14.trans ((below_regrown wr dq osq).mono hb14.size)
                  generalize grow (redrawn wr dq) osq = w15 at *
                  clear x0 x1 x2 x3 x4 x5 x6 y0 y1 y2 y3 y4 y5 y6 cS
                  go_wp2
                  go_roundw
                  case rel => exact ⟨k + 1, by omega, by go_num, b4'⟩
                  case measure =>
                    simp only [intOf]
                    omega
                · have jk : ¬ (k : Int) < (ps.length : Int) := by omega
                  go_wp2
                  go_ret
                  exact ⟨rfl, b1.trans ((b113.trans (hb14.mono b113.size)).mono b1.size)⟩
      · skip
        obtain ⟨ao, cap, rfl, hRc, hrow, h0g⟩ := rowR_own hown
        have hR28 : Rs.length ≤ 28 := by omega
        by_cases hbad : ∃ (j : Nat) (hj : j < Rs.length), mayB Rs[j].k Rs[0].k = false
        · have h0 : 0 < Rs.length := by obtain ⟨j, hj, _⟩ := hbad; omega
          have S := set_bad Rs ao cap wr (by omega) hrow h0 hbad
          have RS := fun W h => r3set_bad Rs ao cap W (by omega) h h0 hbad
          clear hbad
          go_wp2_with fail
          refine S.mono ?_
          rintro e w2 ⟨rfl, b2⟩
          rw [show zero7.val = .agg #[.int .i64 0, .bool false, .int .i64 0, .string ⟨#[]⟩, .string ⟨#[]⟩, .string ⟨#[]⟩, .slice none 0 0] from rfl]
          have A3 := at7_new w2 zero7
          have b3 := below1 w2 (.cells #[.int .i64 zero7.k, .bool zero7.b, .int .i64 zero7.n, .string zero7.s, .string zero7.t, .string zero7.i, .slice zero7.lo zero7.ll zero7.lc] 26)
          have z3 := size1 w2 (.cells #[.int .i64 zero7.k, .bool zero7.b, .int .i64 zero7.n, .string zero7.s, .string zero7.t, .string zero7.i, .slice zero7.lo zero7.ll zero7.lc] 26)
          have hrow3 := (hrow.below b2).below b3
          simp only [zero7, ba_nil] at A3 b3 z3 hrow3
          go_wp2_with fail
          generalize w2.alloc _ = w3 at *
          refine (RS w3 hrow3).mono ?_
          rintro e w4 ⟨rfl, b4⟩
          rw [show zero7.val = .agg #[.int .i64 0, .bool false, .int .i64 0, .string ⟨#[]⟩, .string ⟨#[]⟩, .string ⟨#[]⟩, .slice none 0 0] from rfl]
          have A5 := (A3.below b4 (by omega)).below (below1 w4 (.cells #[.int .i64 zero7.k, .bool zero7.b, .int .i64 zero7.n, .string zero7.s, .string zero7.t, .string zero7.i, .slice zero7.lo zero7.ll zero7.lc] 26)) (by have := b4.size; omega)
          have A5' := at7_new w4 zero7
          have b5 := below1 w4 (.cells #[.int .i64 zero7.k, .bool zero7.b, .int .i64 zero7.n, .string zero7.s, .string zero7.t, .string zero7.i, .slice zero7.lo zero7.ll zero7.lc] 26)
          simp only [zero7, ba_nil] at A5 A5' b5
          go_upto_region 15 with fail
          generalize w4.alloc _ = w5 at *
          obtain ⟨a0, a1, a2, a3, a4, a5, a6⟩ := A5
          obtain ⟨d0, d1, d2, d3, d4, d5, d6⟩ := A5'
          simp only [Nat.zero_add] at a1 a2 a3 a4 a5 a6 d1 d2 d3 d4 d5 d6
          have SM := r3same_flat 0 false 0 ⟨#[]⟩ ⟨#[]⟩ ⟨#[]⟩ none none 0 0 w5
          unfold val7 at SM
          go_wp2_with fail
          refine SM.mono ?_
          rintro e w6 ⟨rfl, b6⟩
          have b14 := hbw.trans ((b2.trans ((b3.trans ((b4.trans ((b5.trans (b6.mono b5.size)).mono b4.size)).mono b3.size)).mono b2.size)).mono hbw.size)
          go_wp2
          go_ret
          exact ⟨rfl, b1.trans (b14.mono b1.size)⟩
        · have hpl : ∀ R ∈ Rs, ∃ p, R = ofP p ∧ (chkP p = 0 ∧ smallP p) := fun R hR => by
            rcases unhide Hall R hR with ⟨p, hp, e⟩ | h5
            · exact ⟨p, e, hp⟩
            · exfalso
              obtain ⟨j, hj, rfl⟩ := List.getElem_of_mem hR
              exact hbad ⟨j, hj, by simp [mayB, h5]⟩
          obtain ⟨ps, rfl, hps⟩ := all_plain Rs hpl
          have hkind : ∀ p ∈ ps, ∀ q ∈ ps, p.kind = q.kind := by
            have h00 : ∀ p ∈ ps, ∃ h0 : 0 < ps.length, p.kind = ps[0].kind := fun p hp => by
              obtain ⟨j, hj, rfl⟩ := List.getElem_of_mem hp
              have hm : ¬ mayB ((ps.map ofP)[j]'(by rw [List.length_map]; exact hj)).k ((ps.map ofP)[0]'(by rw [List.length_map]; omega)).k = false := fun h => hbad ⟨j, by rw [List.length_map]; exact hj, h⟩
              refine ⟨by omega, ?_⟩
              rw [List.getElem_map, List.getElem_map, ofP_k, ofP_k] at hm
              have : mayB ps[j].kind (ps[0]'(by omega)).kind = true := by simpa using hm
              simp only [mayB, Bool.and_eq_true, decide_eq_true_eq] at this
              exact Int.ofNat_inj.1 this.2
            intro p hp q hq
            obtain ⟨_, e1⟩ := h00 p hp
            obtain ⟨_, e2⟩ := h00 q hq
            rw [e1, e2]
          rw [List.length_map] at hRc hR28 h0g hown ⊢
          rw [cellsR_map] at hown
          have S0 := set_plain ps ao cap wr (by omega) hrow hkind
          have RS0 := fun W h => r3set_plain ps ao cap W (by omega) h hkind
          have Hps := hide hps
          have Hkind := hide hkind
          clear hbad hpl hps hkind Hall
          by_cases h8 : 8 < (setOf lessP ps).length
          · have S : Calls Tryz.prog 25 #[.slice ao ps.length cap] wr fun e w' => e = .returned (.tuple #[zero7.val, .int .i64 4]) ∧ Below wr.heap.size wr w' := S0.mono fun e w' h => by
              obtain ⟨hb, ⟨h, _⟩ | ⟨_, he⟩⟩ := h
              · omega
              · exact ⟨he, hb⟩
            have RS : ∀ W, RowV W ao (ps.map ofP) → Calls Tryz.prog 26 #[.slice ao ps.length cap] W fun e w' => e = .returned (.tuple #[zero7.val, .int .i64 4]) ∧ Below W.heap.size W w' := fun W h => (RS0 W h).mono fun e w' h => by
              obtain ⟨hb, ⟨h, _⟩ | ⟨_, he⟩⟩ := h
              · omega
              · exact ⟨he, hb⟩
            clear S0 RS0 h8
            go_wp2_with fail
            refine S.mono ?_
            rintro e w2 ⟨rfl, b2⟩
            rw [show zero7.val = .agg #[.int .i64 0, .bool false, .int .i64 0, .string ⟨#[]⟩, .string ⟨#[]⟩, .string ⟨#[]⟩, .slice none 0 0] from rfl]
            have A3 := at7_new w2 zero7
            have b3 := below1 w2 (.cells #[.int .i64 zero7.k, .bool zero7.b, .int .i64 zero7.n, .string zero7.s, .string zero7.t, .string zero7.i, .slice zero7.lo zero7.ll zero7.lc] 26)
            have z3 := size1 w2 (.cells #[.int .i64 zero7.k, .bool zero7.b, .int .i64 zero7.n, .string zero7.s, .string zero7.t, .string zero7.i, .slice zero7.lo zero7.ll zero7.lc] 26)
            have hrow3 := (hrow.below b2).below b3
            simp only [zero7, ba_nil] at A3 b3 z3 hrow3
            go_wp2_with fail
            generalize w2.alloc _ = w3 at *
            refine (RS w3 hrow3).mono ?_
            rintro e w4 ⟨rfl, b4⟩
            rw [show zero7.val = .agg #[.int .i64 0, .bool false, .int .i64 0, .string ⟨#[]⟩, .string ⟨#[]⟩, .string ⟨#[]⟩, .slice none 0 0] from rfl]
            have A5 := (A3.below b4 (by omega)).below (below1 w4 (.cells #[.int .i64 zero7.k, .bool zero7.b, .int .i64 zero7.n, .string zero7.s, .string zero7.t, .string zero7.i, .slice zero7.lo zero7.ll zero7.lc] 26)) (by have := b4.size; omega)
            have A5' := at7_new w4 zero7
            have b5 := below1 w4 (.cells #[.int .i64 zero7.k, .bool zero7.b, .int .i64 zero7.n, .string zero7.s, .string zero7.t, .string zero7.i, .slice zero7.lo zero7.ll zero7.lc] 26)
            simp only [zero7, ba_nil] at A5 A5' b5
            go_upto_region 15 with fail
            generalize w4.alloc _ = w5 at *
            obtain ⟨a0, a1, a2, a3, a4, a5, a6⟩ := A5
            obtain ⟨d0, d1, d2, d3, d4, d5, d6⟩ := A5'
            simp only [Nat.zero_add] at a1 a2 a3 a4 a5 a6 d1 d2 d3 d4 d5 d6
            have SM := r3same_flat 0 false 0 ⟨#[]⟩ ⟨#[]⟩ ⟨#[]⟩ none none 0 0 w5
            unfold val7 at SM
            go_wp2_with fail
            refine SM.mono ?_
            rintro e w6 ⟨rfl, b6⟩
            have b14 := hbw.trans ((b2.trans ((b3.trans ((b4.trans ((b5.trans (b6.mono b5.size)).mono b4.size)).mono b3.size)).mono b2.size)).mono hbw.size)
            go_wp2
            go_ret
            exact ⟨rfl, b1.trans (b14.mono b1.size)⟩
          · skip
            have hm8 : (setOf lessP ps).length ≤ 8 := by omega
            obtain ⟨T, hT⟩ : ∃ T, T = setOf lessP ps := ⟨_, rfl⟩
            have hTm : ∀ z, z ∈ T ↔ z ∈ ps := fun z => by rw [hT]; exact mem_setOf sto_lessP ps z
            have hTr : Rising lessP T := by rw [hT]; exact rising_setOf sto_lessP ps
            have hTl : T.length ≤ ps.length := by rw [hT]; exact len_setOf_le ps
            rw [← hT] at hm8
            have S1 : Calls Tryz.prog 25 #[.slice ao ps.length cap] wr fun e w' => ∃ a c, e = .returned (.tuple #[(setR a T.length c).val, .int .i64 0]) ∧ RowP w' a T ∧ RowV w' a (T.map ofP) ∧ Below wr.heap.size wr w' := S0.mono fun e w' h => setPost_few hT hm8 h
            have RS1 : ∀ W, RowV W ao (ps.map ofP) → Calls Tryz.prog 26 #[.slice ao ps.length cap] W fun e w' => ∃ a c, e = .returned (.tuple #[(setR a T.length c).val, .int .i64 0]) ∧ RowP w' a T ∧ RowV w' a (T.map ofP) ∧ Below W.heap.size W w' := fun W h => (RS0 W h).mono fun e w' h => setPost_few hT hm8 h
            have S2 : ∀ (q : Nat) (W : World) (a : Option Addr) (c : Nat), RowV W a ((ps.drop q ++ ps).map ofP) → Calls Tryz.prog 25 #[.slice a (ps.drop q ++ ps).length c] W fun e w' => ∃ a c, e = .returned (.tuple #[(setR a T.length c).val, .int .i64 0]) ∧ RowP w' a T ∧ RowV w' a (T.map ofP) ∧ Below W.heap.size W w' := fun q W a c h =>
              (set_plain (ps.drop q ++ ps) a c W (by rw [List.length_append, List.length_drop]; omega) h (fun p hp p' hp' => unhide Hkind p (mem_twice hp) p' (mem_twice hp'))).mono fun e w' h => setPost_few (hT.trans (setOf_twice ps q).symm) hm8 h
            have CK : ∀ (W : World) (a : Option Addr) (c : Nat), RowV W a (T.map ofP) → Calls Tryz.prog 10 #[(setR a T.length c).val] W fun e w' => e = .returned (.int .i64 0) ∧ Below W.heap.size W w' := fun W a c h =>
              vcheck_made T a c W hm8 (fun p hp q hq => unhide Hkind p ((hTm p).1 hp) q ((hTm q).1 hq)) (fun p hp => (unhide Hps p ((hTm p).1 hp)).1) (fun p hp => (unhide Hps p ((hTm p).1 hp)).2) hTr h
            have HD : ∀ (W : World) (a : Option Addr) (c : Nat) (p : PV), p ∈ ps → RowV W a (T.map ofP) → Calls Tryz.prog 17 #[(setR a T.length c).val, (ofP p).val] W fun e w' => e = .returned (.bool true) ∧ Below W.heap.size W w' := fun W a c p hp h => by
              have := holds_plain T p a c W (by omega) h
              rwa [decide_eq_true ((hTm p).2 hp)] at this
            have hT0 : ps.length = 0 → T.length = 0 := fun h => by omega
            clear S0 RS0 h8 hT hTm hTr Hps Hkind
            go_wp2_with fail
            refine S1.mono ?_
            rintro e w2 ⟨a1, c1, rfl, hP1, hV1, b2⟩
            rw [show (setR a1 T.length c1).val = .agg #[.int .i64 5, .bool false, .int .i64 0, .string ⟨#[]⟩, .string ⟨#[]⟩, .string ⟨#[]⟩, .slice a1 T.length c1] from rfl]
            have A3 := at7_new w2 (setR a1 T.length c1)
            have b3 := below1 w2 (.cells #[.int .i64 (setR a1 T.length c1).k, .bool (setR a1 T.length c1).b, .int .i64 (setR a1 T.length c1).n, .string (setR a1 T.length c1).s, .string (setR a1 T.length c1).t, .string (setR a1 T.length c1).i, .slice (setR a1 T.length c1).lo (setR a1 T.length c1).ll (setR a1 T.length c1).lc] 26)
            have z3 := size1 w2 (.cells #[.int .i64 (setR a1 T.length c1).k, .bool (setR a1 T.length c1).b, .int .i64 (setR a1 T.length c1).n, .string (setR a1 T.length c1).s, .string (setR a1 T.length c1).t, .string (setR a1 T.length c1).i, .slice (setR a1 T.length c1).lo (setR a1 T.length c1).ll (setR a1 T.length c1).lc] 26)
            have hrow3 := (hrow.below b2).below b3
            have hP3 := hP1.below b3
            have hV3 := hV1.below b3
            have A3' := A3
            simp only [setR, ba_nil] at A3 b3 z3 hrow3 hP3 hV3
            go_wp2_with fail
            generalize w2.alloc _ = w3 at *
            refine (RS1 w3 hrow3).mono ?_
            rintro e w4 ⟨a2, c2, rfl, hP2, _, b4⟩
            rw [show (setR a2 T.length c2).val = .agg #[.int .i64 5, .bool false, .int .i64 0, .string ⟨#[]⟩, .string ⟨#[]⟩, .string ⟨#[]⟩, .slice a2 T.length c2] from rfl]
            have A5 := (A3.below b4 (by omega)).below (below1 w4 (.cells #[.int .i64 (setR a2 T.length c2).k, .bool (setR a2 T.length c2).b, .int .i64 (setR a2 T.length c2).n, .string (setR a2 T.length c2).s, .string (setR a2 T.length c2).t, .string (setR a2 T.length c2).i, .slice (setR a2 T.length c2).lo (setR a2 T.length c2).ll (setR a2 T.length c2).lc] 26)) (by have := b4.size; omega)
            have A5' := at7_new w4 (setR a2 T.length c2)
            have b5 := below1 w4 (.cells #[.int .i64 (setR a2 T.length c2).k, .bool (setR a2 T.length c2).b, .int .i64 (setR a2 T.length c2).n, .string (setR a2 T.length c2).s, .string (setR a2 T.length c2).t, .string (setR a2 T.length c2).i, .slice (setR a2 T.length c2).lo (setR a2 T.length c2).ll (setR a2 T.length c2).lc] 26)
            simp only [setR, ba_nil] at A5 A5' b5
            go_upto_region 15 with fail
            generalize w4.alloc _ = w5 at *
            have hP5 := (hP3.below b4).below b5
            have hV5 := (hV3.below b4).below b5
            have hrow5 := (hrow3.below b4).below b5
            have b15 := hbw.trans ((b2.trans ((b3.trans ((b4.trans (b5.mono b4.size)).mono b3.size)).mono b2.size)).mono hbw.size)
            have hb10 : w2.heap.size < w5.heap.size := by have := b4.size; have := b5.size; omega
            have br5 := b2.trans ((b3.trans ((b4.trans (b5.mono b4.size)).mono b3.size)).mono b2.size)
            have A5k := hide A5
            obtain ⟨x0, x1, x2, x3, x4, x5, x6⟩ := A5
            obtain ⟨d0, d1, d2, d3, d4, d5, d6⟩ := A5'
            simp only [Nat.zero_add] at x1 x2 x3 x4 x5 x6 d1 d2 d3 d4 d5 d6
            have SM := r3same_set T T a1 a2 c1 c2 w5 (by omega) hP5 (hP2.below b5)
            rw [decide_eq_true rfl] at SM
            unfold valS val7 at SM
            simp only [ba_nil] at SM
            go_wp2_with fail
            refine SM.mono ?_
            rintro e w6 ⟨rfl, b6⟩
            have A6 := (unhide A5k).below b6 hb10
            have hP6 := hP5.below b6
            have hV6 := hV5.below b6
            have hrow6 := hrow5.below b6
            have b16 := b15.trans (b6.mono b15.size)
            have br6 := br5.trans (b6.mono br5.size)
            have hb10' : w2.heap.size < w6.heap.size := by have := b6.size; omega
            clear x0 x1 x2 x3 x4 x5 x6 d0 d1 d2 d3 d4 d5 d6 A3 A3' A5k hP1 hV1 hP3 hV3 hrow3 hP5 hV5 hrow5 hP2 hrow b15 br5 hb10 SM
            by_cases hn0 : ps.length = 0
            · have e0 : ((ps.length : Int) == 0) = true := by simpa using (show (ps.length : Int) = 0 by omega)
              have et : ((T.length : Int) == 0) = true := by simpa using (show (T.length : Int) = 0 by have := hT0 hn0; omega)
              clear hn0 hT0
              obtain ⟨x0, x1, x2, x3, x4, x5, x6⟩ := A6
              simp only [Nat.zero_add] at x1 x2 x3 x4 x5 x6
              go_wp2
              go_ret
              exact ⟨rfl, b1.trans (b16.mono b1.size)⟩
            · have e0 : ((ps.length : Int) == 0) = false := by simpa using (show ¬ (ps.length : Int) = 0 by omega)
              have h0 : 0 < ps.length := by omega
              obtain ⟨g, rfl, hg1⟩ := h0g h0
              obtain ⟨hcv, hgw⟩ := own7_cells hown
              have hcv6 : ∀ j u, (cellsOf ps)[j]? = some u → w6.cell? ⟨g, j, none⟩ = some u := fun j u h => (br6.cell (p := ⟨g, j, none⟩) hgw).trans (hcv j u h)
              have hg6 : g < w6.heap.size := by have := br6.size; omega
              have Hcv := hide hcv6
              clear hcv hcv6 hown hn0 hT0
              have WN := within3_any turn ps.length (by omega) (by omega)
              obtain ⟨q, hq⟩ : ∃ q : Nat, (q : Int) = turn % (ps.length : Int) := ⟨(turn % (ps.length : Int)).toNat, by have := Int.emod_nonneg turn (show (ps.length : Int) ≠ 0 by omega); omega⟩
              have hqn : q < ps.length := by have := Int.emod_lt_of_pos turn (show (0 : Int) < (ps.length : Int) by omega); omega
              rw [← hq] at WN
              clear hq
              have hsl := run_values_from g ps.length cap q hqn hRc
              go_wp2_with fail
              refine (WN _).mono ?_
              rintro e w7 ⟨rfl, rfl⟩
              obtain ⟨PP, hPP⟩ : ∃ PP, PP = ps.drop q ++ ps := ⟨_, rfl⟩
              have S2q := S2 q
              rw [← hPP] at S2q
              have own0 := own_empty w7
              have hdl : (cellsOf (ps.drop q)).length = (ps.length - q) * 7 := by rw [cellsOf_len, List.length_drop]
              have hdc : ∀ j u, (cellsOf (ps.drop q))[j]? = some u → w7.cell? ⟨g, q * 7 + j, none⟩ = some u := fun j u h => by
                rw [← cellsOf_drop ps q (by omega), List.getElem?_drop] at h
                exact unhide Hcv _ _ h
              have Hdl := hide hdl
              have Hdc := hide hdc
              clear hdl hdc WN S2
              go_wp2_with (at_builtin; refine wpList_append_own _ rfl _ _ 24 rfl w7.heap.size 26 i0 _ 7 96 Tryz.underlying24 hi hz0 hz1 hz2 rfl (by decide) _ _ _ rfl own0 ⟨g, q * 7, none⟩ (ps.length - q) (cap - q) (cellsOf (ps.drop q)) rfl ?ka1 ?ka2 ?ka3 ?ka4 ?ka5 ?ka6 ?_)
              case ka1 => exact unhide Hdl
              case ka2 =>
                intro j u hj
                rw [Addr.add_lit]
                exact ((below1 w7 (.cells #[] 26)).cell (p := ⟨g, q * 7 + j, none⟩) hg6).trans (unhide Hdc j u hj)
              case ka3 => exact cellsOf_one _
              case ka4 => unfold maxLen; omega
              case ka5 => omega
              case ka6 => simp
              intro v8 w8 hown8 hgrow8 _
              have b78 : Below w7.heap.size w7 w8 := (below1 w7 _).grown hgrow8 (by simp) (fun k hk => (own0.lt k hk).1)
              clear own0 hgrow8
              have hown8' : w8.ownsRow w7.heap.size 26 7 v8 (ps.length - q) (cellsOf (ps.drop q)) := by simpa using hown8
              clear hown8
              obtain ⟨a8, c8, rfl⟩ : ∃ a c, v8 = .slice a (ps.length - q) c := by
                rcases hown8'.2 with ⟨h0, hz⟩ | ⟨g', cap', cur', hv, _⟩
                · exact ⟨none, 0, by rw [h0, hz]⟩
                · exact ⟨_, _, hv⟩
              go_wp2_with (at_builtin; refine wpList_append_own _ rfl _ _ 24 rfl w7.heap.size 26 i0 _ 7 96 Tryz.underlying24 hi hz0 hz1 hz2 rfl (by decide) _ _ _ rfl hown8' ⟨g, 0, none⟩ ps.length cap (cellsOf ps) rfl ?kb1 ?kb2 ?kb3 ?kb4 ?kb5 ?kb6 ?_)
              case kb1 => exact cellsOf_len ps
              case kb2 =>
                intro j u hj
                rw [Addr.add_lit, Nat.zero_add]
                exact (b78.cell (p := ⟨g, j, none⟩) hg6).trans (unhide Hcv j u hj)
              case kb3 => exact cellsOf_one _
              case kb4 => unfold maxLen; omega
              case kb5 => omega
              case kb6 => exact b78.size
              intro v9 w9 hown9 hgrow9 _
              have b79 : Below w7.heap.size w7 w9 := b78.grown hgrow9 b78.size (fun k hk => (hown8'.lt k hk).1)
              have hown9' : w9.ownsRow w7.heap.size 26 7 v9 PP.length (cellsOf PP) := by
                rw [hPP, cellsOf_append, List.length_append, List.length_drop]
                exact hown9
              have hPl : PP.length ≤ 60 := by rw [hPP, List.length_append, List.length_drop]; omega
              clear hown9 hgrow9 hown8' hPP b78
              obtain ⟨a9, c9, rfl, hV9⟩ := rowV_own hown9'
              clear hown9'
              go_wp2_with fail
              refine (S2q _ a9 c9 hV9).mono ?_
              rintro e w10 ⟨a3, c3, rfl, hP10, _, b10⟩
              rw [show (setR a3 T.length c3).val = .agg #[.int .i64 5, .bool false, .int .i64 0, .string ⟨#[]⟩, .string ⟨#[]⟩, .string ⟨#[]⟩, .slice a3 T.length c3] from rfl]
              have b710 := b79.trans (b10.mono b79.size)
              have b11 := below1 w10 (.cells #[.int .i64 (setR a3 T.length c3).k, .bool (setR a3 T.length c3).b, .int .i64 (setR a3 T.length c3).n, .string (setR a3 T.length c3).s, .string (setR a3 T.length c3).t, .string (setR a3 T.length c3).i, .slice (setR a3 T.length c3).lo (setR a3 T.length c3).ll (setR a3 T.length c3).lc] 26)
              have A11' := at7_new w10 (setR a3 T.length c3)
              simp only [setR, ba_nil] at b11 A11'
              go_upto_region 25 with fail
              generalize w10.alloc _ = w11 at *
              have b711 := b710.trans (b11.mono b710.size)
              have A11 := A6.below b711 hb10'
              have hP11 := hP6.below b711
              have hV11 := hV6.below b711
              have hrow11 := hrow6.below b711
              have A11k := hide A11
              obtain ⟨x0, x1, x2, x3, x4, x5, x6⟩ := A11
              obtain ⟨d0, d1, d2, d3, d4, d5, d6⟩ := A11'
              simp only [Nat.zero_add] at x1 x2 x3 x4 x5 x6 d1 d2 d3 d4 d5 d6
              have SM := r3same_set T T a3 a1 c3 c1 w11 (by omega) (hP10.below b11) hP11
              rw [decide_eq_true rfl] at SM
              unfold valS val7 at SM
              simp only [ba_nil] at SM
              go_wp2_with fail
              refine SM.mono ?_
              rintro e w12 ⟨rfl, b12⟩
              have b712 := b711.trans (b12.mono b711.size)
              have A12 := (unhide A11k).below b12 (by have := b711.size; omega)
              have hV12 := hV11.below b12
              have hrow12 := hrow11.below b12
              clear x0 x1 x2 x3 x4 x5 x6 d0 d1 d2 d3 d4 d5 d6 SM A11k
              have A12k := hide A12
              obtain ⟨x0, x1, x2, x3, x4, x5, x6⟩ := A12
              simp only [Nat.zero_add] at x1 x2 x3 x4 x5 x6
              have C12 := CK w12 a1 c1 hV12
              rw [show (setR a1 T.length c1).val = .agg #[.int .i64 5, .bool false, .int .i64 0, .string ⟨#[]⟩, .string ⟨#[]⟩, .string ⟨#[]⟩, .slice a1 T.length c1] from rfl] at C12
              go_wp2_with fail
              refine C12.mono ?_
              rintro e w13 ⟨rfl, b13⟩
              have b713 := b712.trans (b13.mono b712.size)
              have A13 := (unhide A12k).below b13 (by have := b712.size; omega)
              have hV13 := hV12.below b13
              have hrow13 := hrow12.below b13
              have b113 := b16.trans (b713.mono b16.size)
              have hb13 : w2.heap.size < w13.heap.size := by have := b713.size; omega
              clear x0 x1 x2 x3 x4 x5 x6 C12 A12k hV12 hrow12 hV11 hrow11 hP11 hP10 hV9 CK S2q hP6 hV6 hrow6 A6
              go_wp2
              go_loopw [19] (fun iv wr => ∃ k : Nat, k ≤ ps.length ∧ iv = .int .i64 k ∧ Below w13.heap.size w13 wr) (fun iv _ => ps.length - (intOf iv).toNat)
              case atStart => exact ⟨0, Nat.zero_le _, rfl, Below.refl _ _⟩
              case round =>
                obtain ⟨k, hk, rfl, hb14⟩ := hrel
                by_cases hkn : k < ps.length
                · have jk : (k : Int) < (ps.length : Int) := by omega
                  obtain ⟨b', off', eo, E, _⟩ := rowV_at hrow13 hb14 (j := k) (by rw [List.length_map]; exact hkn)
                  cases eo
                  rw [List.getElem_map, Nat.zero_add] at E
                  have hV14 := hV13.below hb14
                  have A14 := (A13.below hb14 hb13).up
                  have M := fun d os => HD (grow (redrawn wr d) os) a1 c1 ps[k] (List.getElem_mem _) (hV14.below (below_regrown wr d os))
                  obtain ⟨r, er⟩ : ∃ r, r = ofP ps[k] := ⟨_, rfl⟩
                  rw [← er] at E M
                  have E14 := E.up
                  clear er E
                  rw [show (setR a1 T.length c1).val = .agg #[.int .i64 5, .bool false, .int .i64 0, .string ⟨#[]⟩, .string ⟨#[]⟩, .string ⟨#[]⟩, .slice a1 T.length c1] from rfl] at M
                  unfold R7.val at M
                  obtain ⟨x0, x1, x2, x3, x4, x5, x6⟩ := A14
                  obtain ⟨y0, y1, y2, y3, y4, y5, y6⟩ := E14
                  simp only [Nat.zero_add] at x1 x2 x3 x4 x5 x6
                  have cS := fun d os => Calls.regrown_of (w := wr) (d := d) (os := os) (M d os)
                  clear M
                  go_wp2_with fail
                  refine wp_region_quiet_below (by kernel_rfl) (by kernel_rfl) ?_
                  repeat (quiet_step (exact cS _ _))
                  refine wpQuiet_nil ?_
                  intro _ hw'
                  obtain ⟨⟨dq, osq⟩, hw''⟩ := hw'
                  subst hw''
                  have b4' : Below w13.heap.size w13 (grow (redrawn wr dq) osq) := hb14.trans ((below_regrown wr dq osq).mono hb14.size)
                  generalize grow (redrawn wr dq) osq = w15 at *
                  clear x0 x1 x2 x3 x4 x5 x6 y0 y1 y2 y3 y4 y5 y6 cS
                  go_wp2
                  go_roundw
                  case rel => exact ⟨k + 1, by omega, by go_num, b4'⟩
                  case measure =>
                    simp only [intOf]
                    omega
                · have jk : ¬ (k : Int) < (ps.length : Int) := by omega
                  go_wp2
                  go_ret
                  exact ⟨rfl, b1.trans ((b113.trans (hb14.mono b113.size)).mono b1.size)⟩
end Go.Proofs.YtppincbcaijcbaaGreat
