/-
  chancellaw8.Good: what it returns.
-/
import Derived.Test.YthmmplmppchfmaaGdAE
import Derived.Test.YthmmplmppchfmaaElAO
import Derived.Test.YthmmplmppchfmaaElC
namespace Go.Proofs.Ythmmplmppchfmaa
open Go.RowKit Go.Sort

/-- A row of entities in memory. -/
structure OrdG (wr : World) (ao : Option Addr) (cap : Nat) (es : List E4) (ps : List EntP) : Prop where
  row : RowG wr ao 4 (es.map E4.cells)
  nil : ao = none → es.length = 0 ∧ cap = 0
  cap : es.length ≤ cap
  all : AllEnt wr (fun _ => True) es ps
theorem OrdG.below {w w' : World} {ao : Option Addr} {cap : Nat} {es : List E4} {ps : List EntP} (h : OrdG w ao cap es ps) (hb : Below w.heap.size w w') : OrdG w' ao cap es ps := ⟨h.row.below hb, h.nil, h.cap, h.all.below hb⟩
theorem ordG_nil (w : World) : OrdG w none 0 [] [] := ⟨rowG_nil _ _ _, fun _ => ⟨rfl, rfl⟩, Nat.le_refl _, rfl, fun _ h => absurd h (Nat.not_lt_zero _)⟩

/-! ## Cuts. -/

theorem sizeUids (W : World) : (sizeOf (Try.prog.elem 30)).run Try.prog W = .ok 2 W := by kernel_rfl
theorem run_cutU_l (ao : Option Addr) (n cap k : Nat) (hk : k ≤ n) : ∃ ao', ao' = (if cap = k then ao else ao.map (·.add (k * 2))) ∧ ∀ W, (Instr.slice 30 (.slice ao n cap) (some (.int .i64 k)) none none).run Try.prog W = .ok (.slice ao' (n - k) (cap - k)) W := by
  refine ⟨_, rfl, fun W => ?_⟩
  rw [run_slice_l (P := Try.prog) (w := W) 30 ao n cap (by kernel_rfl) .i64 k (by omega) (by omega)]
  rw [sizeUids]
  simp [sliced, Result.andThen]
theorem run_cutU_h (ao : Option Addr) (n cap k : Nat) (hk : k ≤ cap) (W : World) : (Instr.slice 30 (.slice ao n cap) none (some (.int .i64 k)) none).run Try.prog W = .ok (.slice ao k cap) W := by
  rw [run_slice_h (P := Try.prog) (w := W) 30 ao n cap (by kernel_rfl) .i64 k (by omega) (by omega)]
  rw [sizeUids]
  have e0 : ∀ a : Addr, a.add 0 = a := fun a => by unfold Addr.add; simp
  cases ao <;> simp [sliced, Result.andThen, e0]
theorem cellsU_one (e : U2) : ∀ v ∈ e.cells, v.oneCell' = true := fun v hv => by
  simp only [U2.cells, List.mem_cons, List.not_mem_nil, or_false] at hv
  rcases hv with rfl | rfl <;> rfl
theorem newsU_row (w : World) (r : U2) (n : Nat) (hn : n = w.heap.size) : ∀ j u, r.cells[j]? = some u → (w.alloc (.cells #[.string r.t, .string r.i] 28)).cell? ((⟨n, 0, none⟩ : Addr).add j) = some u := by
  intro j u hj
  rw [Addr.add_lit, Nat.zero_add, World.cell?_alloc_at _ _ _ _ hn]
  simpa [U2.cells] using hj
theorem cellsA_one (e : A8) : ∀ v ∈ e.cells, v.oneCell' = true := fun v hv => by
  simp only [A8.cells, List.mem_cons, List.not_mem_nil, or_false] at hv
  rcases hv with rfl | rfl | rfl | rfl | rfl | rfl | rfl | rfl <;> rfl
theorem newsA_row (w : World) (r : A8) (n : Nat) (hn : n = w.heap.size) : ∀ j u, r.cells[j]? = some u → (w.alloc (.cells #[.string r.nm, .int .i64 r.v.k, .bool r.v.b, .int .i64 r.v.n, .string r.v.s, .string r.v.t, .string r.v.i, .slice r.v.lo r.v.ll r.v.lc] 51)).cell? ((⟨n, 0, none⟩ : Addr).add j) = some u := by
  intro j u hj
  rw [Addr.add_lit, Nat.zero_add, World.cell?_alloc_at _ _ _ _ hn]
  simpa [A8.cells] using hj

/-- Attributes in memory, and what they say. -/
def AsG (w : World) (rs : List A8) (l : List (ByteArray × GV)) : Prop := IsAs w (fun _ _ => True) rs l
theorem AsG.below2 {w w' : World} {rs : List A8} {l : List (ByteArray × GV)} (h : AsG w rs l) (hb : Below w.heap.size w w') : AsG w' rs l := IsAs.turn hb.size (fun _ b _ hl => ⟨hb.block b hl, trivial⟩) h
theorem asG_rise {w : World} {rs : List A8} {l : List (ByteArray × GV)} (h : AsG w rs l) : AsG w (riseBy A8.nm rs) (riseBy Prod.fst l) :=
  riseBy_rel (R := fun (a : A8) (b : ByteArray × GV) => a.nm = b.1 ∧ IsGP w (fun _ => True) b.2 a.v) (fun _ _ h => h.1) h
theorem own_setG {w : World} {base b c : Nat} {T : TypeId} {z : Nat} {v : Value} {n : Nat} {xs : List Value} (h : w.ownsRow base T z v n xs) (hb : b < base) (u : Value) : (w.setCell ⟨b, c, none⟩ u).ownsRow base T z v n xs :=
  ⟨h.1, h.2.imp id fun ⟨g, cap, cur, h1, h2, h3, h4⟩ => ⟨g, cap, cur, h1, h2, by rw [Below.heap_setCell _ ⟨b, c, none⟩ _ g (by show g ≠ b; omega)]; exact h3, h4⟩⟩
/-- The entity that Good has made is put. -/
theorem ent_made {w0 w : World} {es : List E4} {ps : List EntP} {ao uo vo : Option Addr} {cap uc vc m n B1 B2 : Nat} {et ei : ByteArray} {p : EntP} {PS T : List U2} {As B : List A8} {l : List (ByteArray × GV)} (hb : Below w0.heap.size w0 w) (hO : OrdG w0 ao cap es ps) (hu : (⟨et, ei⟩ : U2) = p.u)
    (hU : w.ownsRow B1 28 2 (.slice uo m uc) T.length (T.map U2.cells).flatten) (hT : T = setOf lessU PS) (hA : w.ownsRow B2 51 8 (.slice vo n vc) B.length (B.map A8.cells).flatten) (hB : B = riseBy A8.nm As) (hAs : AsG w As l) (hl : ps.length ≤ 1000000) (hri : RisingP ps) (hp : p = ⟨p.u, setOf lessU PS, riseBy Prod.fst l⟩) :
    Calls Try.prog 20 #[.slice ao es.length cap, (⟨et, ei, uo, m, uc, vo, n, vc⟩ : E4).val] w fun x w' => RowPost2 w (putP ps p) x w' := by
  have hO' := hO.below hb
  obtain ⟨uo', uc', e1, hru, _, _⟩ := rowG_own (lenU T) (by simpa using hU)
  obtain ⟨vo', vc', e2, hrv, _, _⟩ := rowG_own (lenA B) (by simpa using hA)
  simp only [List.length_map] at e1 e2
  cases e1
  cases e2
  have hps : p.ps = T := by rw [hp, hT]
  have has : p.ats = riseBy Prod.fst l := by rw [hp]
  refine r8put_any es ps ao cap _ p w hO'.row hO'.all ⟨hu, ?_, ?_, fun _ _ _ => trivial, B, rfl, hrv, fun _ _ _ => trivial, ?_⟩ hri hl
  · rw [hps]
  · rw [hps]
    exact hru
  · rw [has, hB]
    exact asG_rise hAs

set_option maxHeartbeats 40000000 in
set_option maxRecDepth 1000000 in
theorem good8_any (lo : Option Addr) (rs : List EntR) (lc : Nat) (w : World) (_hl : rs.length ≤ 9223372036854775807) (hr : RowEnt w lo rs) :
    Calls Try.prog 6 #[.slice lo rs.length lc] w fun x w' => RowPost2 w (goodsL rs) x w' := by
  obtain ⟨i0Uid, hiUid, hz0Uid, hz1Uid, hz2Uid⟩ := info_parts infoUidE
  obtain ⟨i0Attr, hiAttr, hz0Attr, hz1Attr, hz2Attr⟩ := info_parts infoAttrE
  have HR := hide hr
  clear hr
  go_enter Try.func6, Try.ntmps6
  go_wp2
  go_loopw [3, 4] (fun av iv wr => ∃ (i : Nat) (es : List E4) (ao : Option Addr) (cap : Nat), i ≤ rs.length ∧ i ≤ 12 ∧ iv = .int .i64 i ∧ av = .slice ao es.length cap ∧ Below w.heap.size w wr ∧ OrdG wr ao cap es (aOf ((rs.take i).map goodE))) (fun _ iv _ => 12 - (intOf iv).toNat)
  case atStart => exact ⟨0, [], none, 0, Nat.zero_le _, Nat.zero_le _, rfl, rfl, Below.refl _ _, ordG_nil _⟩
  case round =>
    obtain ⟨i, es, ao, cap, hi, hi12, rfl, rfl, hbw, hO⟩ := hrel
    by_cases hlt : i < rs.length
    · have i1 : (i : Int) < (rs.length : Int) := by omega
      by_cases h12 : i < 12
      · have i3 : (i : Int) < 12 := by omega
        have k0 : (0 : Int) ≤ (i : Int) := by omega
        obtain ⟨b, off, rfl, hb, hcell⟩ := rowG_at (unhide HR).1 hbw hlt
        have EN := entity5_any rs[i] wr (((unhide HR).2 _ (List.getElem_mem _)).below hbw)
        have htk : aOf ((rs.take (i + 1)).map goodE) = putP (aOf ((rs.take i).map goodE)) (goodE rs[i]) := by rw [List.take_succ_eq_append_getElem hlt, List.map_append, List.map_cons, List.map_nil, aOf_snoc]
        obtain ⟨r, hrr⟩ : ∃ r, r = rs[i] := ⟨_, rfl⟩
        rw [← hrr] at hcell EN htk
        have c0 := hcell 0 _ rfl
        have c1 := hcell 1 _ rfl
        have c2 := hcell 2 _ rfl
        have c3 := hcell 3 _ rfl
        have c4 := hcell 4 _ rfl
        rw [Nat.add_zero] at c0
        have Htk := hide htk
        have HO := hide hO
        clear hcell hrr htk hO
        unfold EntR.val at EN
        go_wp2_with fail
        clear c0 c1 c2 c3 c4
        refine EN.mono ?_
        clear EN
        rintro x w3 ⟨b3, e, rfl, he⟩
        have b03 := hbw.trans (b3.mono hbw.size)
        obtain ⟨et, ei, po, m, pc, eo, n, ec⟩ := e
        obtain ⟨As, hal, hrA, _, hAs⟩ := he.ats
        have hpl : m = (entP r).ps.length := he.pl
        have hrU : RowG w3 po 2 ((entP r).ps.map U2.cells) := he.rowU
        have hps3 : (entP r).ps.length ≤ 3 := by
          show ((r.ps.take 3).map parE).length ≤ 3
          rw [List.length_map, List.length_take]
          omega
        have hal' : n = As.length := hal
        have hal3 : As.length ≤ 1048576 := by rw [hAs.1]; exact (entP_fits r).2.1
        have HUE := hide (show (⟨et, ei⟩ : U2) = (goodE r).u from he.u)
        have HAs := hide (show AsG w3 As (entP r).ats from hAs)
        have HRA : Hid (RowG w3 eo 8 (As.map A8.cells)) := hide hrA
        obtain ⟨PS, hPS⟩ : ∃ PS, PS = (entP r).ps := ⟨_, rfl⟩
        have HPS := hide hPS
        rw [← hPS] at hpl hrU hps3
        have HRU := hide hrU
        subst hpl hal'
        clear he hrA hAs hal hPS hrU
        unfold E4.val
        simp only
        have b34 := below1 w3 (.cells #[.string et, .string ei, .slice po PS.length pc, .slice eo As.length ec] 40)
        have H4 := hide (alloc_heap w3 (.cells #[.string et, .string ei, .slice po PS.length pc, .slice eo As.length ec] 40))
        have hV4 : w3.heap.size < (w3.alloc (.cells #[.string et, .string ei, .slice po PS.length pc, .slice eo As.length ec] 40)).heap.size := by rw [size1]; omega
        go_wp2
        generalize w3.alloc _ = w4 at *
        go_loopw [6, 7] (fun uv kv wk => ∃ k : Nat, kv = .int .i64 k ∧ k ≤ PS.length ∧ Below w4.heap.size w4 wk ∧ wk.ownsRow w4.heap.size 28 2 uv (setOf lessU (PS.take k)).length ((setOf lessU (PS.take k)).map U2.cells).flatten) (fun _ kv _ => PS.length - (intOf kv).toNat)
        case atStart => exact ⟨0, by go_num, Nat.zero_le _, Below.refl _ _, World.ownsRow_nil _ _ _ _⟩
        case round =>
          obtain ⟨k, rfl, hk, hb46, hown⟩ := hrel
          have hV6 : w3.heap.size < wr.heap.size := Nat.lt_of_lt_of_le hV4 hb46.size
          have H6 := kept_of_below hb46 (unhide H4)
          have cV : wr.cell? ⟨w3.heap.size, 2, none⟩ = some (.slice po PS.length pc) := by rw [Lib.cell_of_heap H6]; rfl
          have ck0 : (0 : Int) ≤ (k : Int) := by omega
          by_cases hkP : k < PS.length
          · have ik : (k : Int) < (PS.length : Int) := by omega
            have b36 := b34.trans (hb46.mono b34.size)
            obtain ⟨pb, poff, rfl, hpb, hcq⟩ := rowG_at (unhide HRU) b36 hkP
            have Aq : AtE2 wr pb (poff + k * 2) PS[k] := AtE2.of hcq
            have HS1 := hide (setOfG_snoc (lt := lessU) PS k hkP)
            have hSl := lenG_setOf_le (lt := lessU) (PS.take k)
            rw [List.length_take] at hSl
            obtain ⟨S, hS⟩ : ∃ S, S = setOf lessU (PS.take k) := ⟨_, rfl⟩
            have HSr : Hid (Rising lessU S) := hide (by rw [hS]; exact rising_setOf sto_lessU _)
            rw [← hS] at hown hSl
            obtain ⟨q, hq⟩ : ∃ q, q = PS[k] := ⟨_, rfl⟩
            have HS := hide (show setOf lessU (PS.take (k + 1)) = ins lessU q S by rw [unhide HS1, hS, hq])
            rw [← hq] at Aq
            have hS3 : S.length ≤ 3 := by omega
            clear hSl HS1 hS hq hcq H6
            obtain ⟨uo, uc, rfl, huc⟩ := ownE_slice hown
            have hbq6 : pb < wr.heap.size := Nat.lt_of_lt_of_le hpb b36.size
            have Hown := hide hown
            clear hown b36
            go_wp2
            generalize wr = w6 at *
            go_loopw [8] (fun jv wj => ∃ j : Nat, jv = .int .i64 j ∧ j ≤ S.length ∧ Below w6.heap.size w6 wj ∧ ∀ i (h : i < S.length), i < j → lessU S[i] q = true) (fun jv _ => S.length - (intOf jv).toNat)
            case atStart => exact ⟨0, by go_num, Nat.zero_le _, Below.refl _ _, fun i _ h => absurd h (Nat.not_lt_zero _)⟩
            case round =>
              obtain ⟨j, rfl, hj, hbj, hlow⟩ := hrel
              have Hlow := hide hlow
              clear hlow
              have cj0 : (0 : Int) ≤ (j : Int) := by omega
              have cVj : wr.cell? ⟨w3.heap.size, 2, none⟩ = some (.slice (some ⟨pb, poff, none⟩) PS.length pc) := (hbj.cell (p := ⟨w3.heap.size, 2, none⟩) hV6).trans cV
              have Aqj := Aq.below hbj hbq6
              by_cases hjS : j < S.length
              · have i2 : (j : Int) < (S.length : Int) := by omega
                obtain ⟨ao3, cap3, e2, hrow, _, _⟩ := rowG_own (lenU S) (by simpa using own_below (unhide Hown) hbj)
                simp only [List.length_map] at e2
                cases e2
                obtain ⟨g, og, rfl, hg, hcx⟩ := rowG_at hrow (Below.refl _ _) hjS
                have Ak : AtE2 wr g (og + j * 2) S[j] := AtE2.of hcx
                have LE := fun w => r3lessUid_any S[j].t.data.toList S[j].i.data.toList q.t.data.toList q.i.data.toList w
                have EQ := binEqlUid S[j] q
                obtain ⟨x, hx⟩ : ∃ x, x = S[j] := ⟨_, rfl⟩
                rw [← hx] at LE Ak EQ
                rw [ba_of, ba_of, ba_of, ba_of] at LE
                have HX := hide hx
                clear hx hcx hrow
                have HLL : Hid (lessP (.uid x.t.data.toList x.i.data.toList) (.uid q.t.data.toList q.i.data.toList) = lessU x q) := hide rfl
                generalize lessP (.uid x.t.data.toList x.i.data.toList) (.uid q.t.data.toList q.i.data.toList) = y at *
                have cS := fun d os => Calls.regrown_of (w := wr) (d := d) (os := os) (LE (grow (redrawn wr d) os))
                obtain ⟨a0, a1⟩ := Ak.up
                obtain ⟨d0, d1⟩ := Aqj.up
                have v0 := cell_regrown cVj
                have HEQ := hide EQ
                clear LE EQ cVj
                go_wp2_with fail
                refine wp_region_quiet_below (by kernel_rfl) (by kernel_rfl) ?_
                repeat (quiet_step (exact cS _ _))
                refine wpQuiet_nil ?_
                intro _ hw'
                obtain ⟨⟨dq7, osq7⟩, hw''⟩ := hw'
                subst hw''
                have b7 : Below wr.heap.size wr (grow (redrawn wr dq7) osq7) := below_regrown wr dq7 osq7
                generalize grow (redrawn wr dq7) osq7 = w7 at *
                have b67 : Below w6.heap.size w6 w7 := hbj.trans (b7.mono hbj.size)
                clear a0 a1 d0 d1 v0 cS
                cases y
                · have Ak7 := Ak.below b7 hg
                  have Aq7 := Aq.below b67 hbq6
                  have cV7 : w7.cell? ⟨w3.heap.size, 2, none⟩ = some (.slice (some ⟨pb, poff, none⟩) PS.length pc) := (b67.cell (p := ⟨w3.heap.size, 2, none⟩) hV6).trans cV
                  obtain ⟨a0, a1⟩ := Ak7.up
                  obtain ⟨d0, d1⟩ := Aq7.up
                  have v0 := cell_regrown cV7
                  have EQ := unhide HEQ
                  generalize hz : decide (x = q) = z at EQ
                  have HZ := hide hz
                  clear hz Ak7 Aq7 cV7 HEQ Ak Aqj
                  go_wp2_with fail
                  refine wp_region_quiet_below (by kernel_rfl) (by kernel_rfl) ?_
                  repeat (quiet_step (fail))
                  refine wpQuiet_nil ?_
                  intro _ hw'
                  obtain ⟨⟨dq8, osq8⟩, hw''⟩ := hw'
                  subst hw''
                  have b8 : Below w7.heap.size w7 (grow (redrawn w7 dq8) osq8) := below_regrown w7 dq8 osq8
                  generalize grow (redrawn w7 dq8) osq8 = w8 at *
                  have b68 : Below w6.heap.size w6 w8 := b67.trans (b8.mono b67.size)
                  clear a0 a1 d0 d1 v0 EQ
                  cases z
                  · have hxq : ¬ x = q := by
                      have := unhide HZ
                      simpa using this
                    clear HZ
                    have hown8 := own_below (unhide Hown) b68
                    have hclen : ((S.map U2.cells).flatten).length = S.length * 2 := hown8.1
                    have Hnone := hide (ownE_none hown8)
                    have Hat := hide (ownE_at hown8)
                    have Hcut : Hid (CutG lessU S q j) := hide ?HI1
                    rotate_left
                    case HI1 =>
                      exact CutG.at sto_lessU (unhide HSr) hjS (unhide Hlow) (by rw [← unhide HX]; exact (unhide HLL).symm)
                    have Hmem : Hid (q ∉ S) := hide (fun h => by
                      obtain ⟨hj', e⟩ := ((unhide Hcut).mem sto_lessU (unhide HSr)).1 h
                      exact hxq (by rw [unhide HX, e]))
                    have hs1 := run_cutU_h (some ⟨g, og, none⟩) S.length uc j (by omega)
                    obtain ⟨ao', hao', hs2⟩ := run_cutU_l (some ⟨g, og, none⟩) S.length uc j (by omega)
                    have Hao := hide hao'
                    clear hao' hown8
                    have hbq8 : pb < w8.heap.size := Nat.lt_of_lt_of_le hbq6 b68.size
                    have htl : ((S.take j).map U2.cells).flatten.length = j * 2 := by rw [flatG_len (n := 2) _ (lenU _), List.length_map, List.length_take, Nat.min_eq_left (by omega)]
                    have hdl2 : ((S.drop j).map U2.cells).flatten.length = (S.length - j) * 2 := by rw [flatG_len (n := 2) _ (lenU _), List.length_map, List.length_drop]
                    go_wp2_with (at_builtin; refine wpList_append_row _ rfl _ _ 30 rfl w8.heap.size 28 i0Uid _ 2 32 Try.underlying30 hiUid hz0Uid hz1Uid hz2Uid rfl (by decide) _ _ _ rfl (World.ownsRow_nil _ _ _ _) _ _ _ (((S.take j).map U2.cells).flatten) rfl ?nA1 ?lA1 ?wA1 ?oA1 ?mA1 ?yA1 ?bA1 ?_)
                    case nA1 => intro h; have := unhide Hnone h; omega
                    case lA1 => exact htl
                    case wA1 =>
                      intro ad e jj u hu
                      refine (unhide Hat ad e).2.2.2 jj u (take_flat (k := j) jj u ?_)
                      rw [← List.map_take]
                      exact hu
                    case oA1 => exact oneU _
                    case mA1 => unfold maxLen; omega
                    case yA1 => omega
                    case bA1 => exact Nat.le_refl _
                    intro v1 w9 hown9 hg9
                    have b89 : Below w8.heap.size w8 w9 := (Below.refl _ w8).grown hg9 (Nat.le_refl _) (fun k hk => by cases hk)
                    have Hown9 := hide hown9
                    clear hown9 hg9
                    have b69 : Below w6.heap.size w6 w9 := b68.trans (b89.mono b68.size)
                    have cV9 : w9.cell? ⟨w3.heap.size, 2, none⟩ = some (.slice (some ⟨pb, poff, none⟩) PS.length pc) := (b69.cell (p := ⟨w3.heap.size, 2, none⟩) hV6).trans cV
                    obtain ⟨a0, a1⟩ := Aq.below b69 hbq6
                    go_wp2_with (at_builtin; refine wpList_append_own _ rfl _ _ 30 rfl w8.heap.size 28 i0Uid _ 2 32 Try.underlying30 hiUid hz0Uid hz1Uid hz2Uid rfl (by decide) _ _ _ rfl ((unhide Hown9).alloc _) ⟨w9.heap.size, 0, none⟩ 1 1 q.cells rfl rfl ?dA1 ?eA1 ?fA1 ?gA1 ?hA1 ?_)
                    case dA1 => exact newsU_row w9 q _ rfl
                    case eA1 => exact cellsU_one q
                    case fA1 => unfold maxLen; omega
                    case gA1 => omega
                    case hA1 => have := b89.size; simp; omega
                    intro v2 w11 hown11 hg11 _
                    have b8a := b89.trans ((below1 w9 (.cells #[.string q.t, .string q.i] 28)).mono b89.size)
                    have b8b : Below w8.heap.size w8 w11 := b8a.grown hg11 b8a.size (fun k hk => ((unhide Hown9).lt k hk).1)
                    have Hat11 := hide (fun ad (e : some ⟨g, og, none⟩ = some ad) => show ad.spot = none ∧ ad.off = 0 ∧ (∀ j, (ad.add j).block < w11.heap.size) ∧ ∀ j u, ((S.map U2.cells).flatten)[j]? = some u → w11.cell? (ad.add j) = some u from ⟨(unhide Hat ad e).1, (unhide Hat ad e).2.1, fun j => Nat.lt_of_lt_of_le ((unhide Hat ad e).2.2.1 j) b8b.size, fun jj u hu => (b8b.cell (p := ad.add jj) ((unhide Hat ad e).2.2.1 jj)).trans ((unhide Hat ad e).2.2.2 jj u hu)⟩)
                    have Hown11 := hide hown11
                    clear a0 a1 cV9 hown11 hg11 b8a
                    obtain ⟨ao2, cp2, rfl, _⟩ := ownE_slice (unhide Hown11)
                    go_wp2_with (at_builtin; refine wpList_append_row _ rfl _ _ 30 rfl w8.heap.size 28 i0Uid _ 2 32 Try.underlying30 hiUid hz0Uid hz1Uid hz2Uid rfl (by decide) _ _ _ rfl (unhide Hown11) _ _ _ (((S.drop j).map U2.cells).flatten) rfl ?pA1 ?qA1 ?rA1 ?sA1 ?tA1 ?uA1 ?vA1 ?_)
                    case pA1 =>
                      intro h
                      have h2 := unhide Hao
                      rw [h] at h2
                      by_cases hck : uc = j
                      · omega
                      · rw [if_neg hck] at h2
                        have h3 := unhide Hnone (by
                          cases hdo : ((some ⟨g, og, none⟩) : Option Addr) with
                          | none => rfl
                          | some a => rw [hdo] at h2; cases h2)
                        omega
                    case qA1 => exact hdl2
                    case rA1 =>
                      intro ad e jj u hu
                      rw [List.map_drop] at hu
                      exact cut_at (lenU S) (unhide Hat11) (List.length_map _) huc (by omega) ad ((unhide Hao).symm.trans e) jj u hu
                    case sA1 => exact oneU _
                    case tA1 => unfold maxLen; omega
                    case uA1 => omega
                    case vA1 => exact b8b.size
                    intro v3 w12 hown12 hg12
                    have b8c : Below w8.heap.size w8 w12 := b8b.grown hg12 b8b.size (fun k hk => ((unhide Hown11).lt k hk).1)
                    have Hown12 := hide hown12
                    clear hown12 hg12
                    go_wp2
                    go_roundw
                    case rel =>
                      have e : setOf lessU (PS.take (k + 1)) = S.take j ++ q :: S.drop j := by rw [unhide HS, insG_cut sto_lessU S j (unhide Hcut) (unhide Hmem)]
                      have el : (setOf lessU (PS.take (k + 1))).length = j + 1 + (S.length - j) := by
                        rw [e, List.length_append, List.length_cons, List.length_take, List.length_drop]
                        omega
                      have ec : ((setOf lessU (PS.take (k + 1))).map U2.cells).flatten = ((S.take j).map U2.cells).flatten ++ q.cells ++ ((S.drop j).map U2.cells).flatten := by
                        rw [e]
                        simp
                      refine ⟨k + 1, by go_num, by omega, hb46.trans ((b68.trans (b8c.mono b68.size)).mono hb46.size), ?_⟩
                      rw [el, ec]
                      have := own_mono (unhide Hown12) (Nat.le_trans hb46.size b68.size)
                      simpa using this
                    case measure =>
                      simp only [intOf]
                      omega
                  · have hxq : x = q := by
                      have := unhide HZ
                      simpa using this
                    clear HZ
                    go_wp2
                    go_roundw
                    case rel =>
                      have e : setOf lessU (PS.take (k + 1)) = S := by
                        rw [unhide HS]
                        exact insG_mem sto_lessU S (unhide HSr) (by rw [← hxq, unhide HX]; exact List.getElem_mem _)
                      refine ⟨k + 1, by go_num, by omega, hb46.trans (b68.mono hb46.size), ?_⟩
                      rw [e]
                      exact own_below (unhide Hown) b68
                    case measure =>
                      simp only [intOf]
                      omega
                · clear Ak Aqj HEQ
                  go_wp2
                  go_roundw
                  case rel =>
                    refine ⟨j + 1, by go_num, by omega, b67, fun i h hik => ?_⟩
                    by_cases hik' : i < j
                    · exact unhide Hlow i h hik'
                    · obtain rfl : i = j := by omega
                      rw [← unhide HX]
                      exact (unhide HLL).symm
                  case measure =>
                    simp only [intOf]
                    omega
              · have hd : decide ((j : Int) < (S.length : Int)) = false := decide_eq_false (by omega)
                clear cVj Aqj
                go_wp2_with fail
                refine wp_region_quiet_below (by kernel_rfl) (by kernel_rfl) ?_
                repeat (go_big_quiet_step (fail))
                refine wpQuiet_nil ?_
                intro _ hw'
                obtain ⟨⟨dq7, osq7⟩, hw''⟩ := hw'
                subst hw''
                have b7 : Below wr.heap.size wr (grow (redrawn wr dq7) osq7) := below_regrown wr dq7 osq7
                generalize grow (redrawn wr dq7) osq7 = w7 at *
                have b67 : Below w6.heap.size w6 w7 := hbj.trans (b7.mono hbj.size)
                go_wp2_with fail
                refine wp_region_quiet_below (by kernel_rfl) (by kernel_rfl) ?_
                repeat (go_big_quiet_step (fail))
                refine wpQuiet_nil ?_
                intro _ hw'
                obtain ⟨⟨dq8, osq8⟩, hw''⟩ := hw'
                subst hw''
                have b8 : Below w7.heap.size w7 (grow (redrawn w7 dq8) osq8) := below_regrown w7 dq8 osq8
                generalize grow (redrawn w7 dq8) osq8 = w8 at *
                have b68 : Below w6.heap.size w6 w8 := b67.trans (b8.mono b67.size)
                clear hd
                have hown8 := own_below (unhide Hown) b68
                have hclen : ((S.map U2.cells).flatten).length = S.length * 2 := hown8.1
                have Hnone := hide (ownE_none hown8)
                have Hat := hide (ownE_at hown8)
                have Hcut : Hid (CutG lessU S q j) := hide ?HI2
                rotate_left
                case HI2 =>
                  exact ⟨by omega, unhide Hlow, fun i h hji => absurd h (by omega)⟩
                have Hmem : Hid (q ∉ S) := hide (fun h => by
                  obtain ⟨hj', e⟩ := ((unhide Hcut).mem sto_lessU (unhide HSr)).1 h
                  omega)
                have hs1 := run_cutU_h uo S.length uc j (by omega)
                obtain ⟨ao', hao', hs2⟩ := run_cutU_l uo S.length uc j (by omega)
                have Hao := hide hao'
                clear hao' hown8
                have hbq8 : pb < w8.heap.size := Nat.lt_of_lt_of_le hbq6 b68.size
                have htl : ((S.take j).map U2.cells).flatten.length = j * 2 := by rw [flatG_len (n := 2) _ (lenU _), List.length_map, List.length_take, Nat.min_eq_left (by omega)]
                have hdl2 : ((S.drop j).map U2.cells).flatten.length = (S.length - j) * 2 := by rw [flatG_len (n := 2) _ (lenU _), List.length_map, List.length_drop]
                go_wp2_with (at_builtin; refine wpList_append_row _ rfl _ _ 30 rfl w8.heap.size 28 i0Uid _ 2 32 Try.underlying30 hiUid hz0Uid hz1Uid hz2Uid rfl (by decide) _ _ _ rfl (World.ownsRow_nil _ _ _ _) _ _ _ (((S.take j).map U2.cells).flatten) rfl ?nA2 ?lA2 ?wA2 ?oA2 ?mA2 ?yA2 ?bA2 ?_)
                case nA2 => intro h; have := unhide Hnone h; omega
                case lA2 => exact htl
                case wA2 =>
                  intro ad e jj u hu
                  refine (unhide Hat ad e).2.2.2 jj u (take_flat (k := j) jj u ?_)
                  rw [← List.map_take]
                  exact hu
                case oA2 => exact oneU _
                case mA2 => unfold maxLen; omega
                case yA2 => omega
                case bA2 => exact Nat.le_refl _
                intro v1 w9 hown9 hg9
                have b89 : Below w8.heap.size w8 w9 := (Below.refl _ w8).grown hg9 (Nat.le_refl _) (fun k hk => by cases hk)
                have Hown9 := hide hown9
                clear hown9 hg9
                have b69 : Below w6.heap.size w6 w9 := b68.trans (b89.mono b68.size)
                have cV9 : w9.cell? ⟨w3.heap.size, 2, none⟩ = some (.slice (some ⟨pb, poff, none⟩) PS.length pc) := (b69.cell (p := ⟨w3.heap.size, 2, none⟩) hV6).trans cV
                obtain ⟨a0, a1⟩ := Aq.below b69 hbq6
                go_wp2_with (at_builtin; refine wpList_append_own _ rfl _ _ 30 rfl w8.heap.size 28 i0Uid _ 2 32 Try.underlying30 hiUid hz0Uid hz1Uid hz2Uid rfl (by decide) _ _ _ rfl ((unhide Hown9).alloc _) ⟨w9.heap.size, 0, none⟩ 1 1 q.cells rfl rfl ?dA2 ?eA2 ?fA2 ?gA2 ?hA2 ?_)
                case dA2 => exact newsU_row w9 q _ rfl
                case eA2 => exact cellsU_one q
                case fA2 => unfold maxLen; omega
                case gA2 => omega
                case hA2 => have := b89.size; simp; omega
                intro v2 w11 hown11 hg11 _
                have b8a := b89.trans ((below1 w9 (.cells #[.string q.t, .string q.i] 28)).mono b89.size)
                have b8b : Below w8.heap.size w8 w11 := b8a.grown hg11 b8a.size (fun k hk => ((unhide Hown9).lt k hk).1)
                have Hat11 := hide (fun ad (e : uo = some ad) => show ad.spot = none ∧ ad.off = 0 ∧ (∀ j, (ad.add j).block < w11.heap.size) ∧ ∀ j u, ((S.map U2.cells).flatten)[j]? = some u → w11.cell? (ad.add j) = some u from ⟨(unhide Hat ad e).1, (unhide Hat ad e).2.1, fun j => Nat.lt_of_lt_of_le ((unhide Hat ad e).2.2.1 j) b8b.size, fun jj u hu => (b8b.cell (p := ad.add jj) ((unhide Hat ad e).2.2.1 jj)).trans ((unhide Hat ad e).2.2.2 jj u hu)⟩)
                have Hown11 := hide hown11
                clear a0 a1 cV9 hown11 hg11 b8a
                obtain ⟨ao2, cp2, rfl, _⟩ := ownE_slice (unhide Hown11)
                go_wp2_with (at_builtin; refine wpList_append_row _ rfl _ _ 30 rfl w8.heap.size 28 i0Uid _ 2 32 Try.underlying30 hiUid hz0Uid hz1Uid hz2Uid rfl (by decide) _ _ _ rfl (unhide Hown11) _ _ _ (((S.drop j).map U2.cells).flatten) rfl ?pA2 ?qA2 ?rA2 ?sA2 ?tA2 ?uA2 ?vA2 ?_)
                case pA2 =>
                  intro h
                  have h2 := unhide Hao
                  rw [h] at h2
                  by_cases hck : uc = j
                  · omega
                  · rw [if_neg hck] at h2
                    have h3 := unhide Hnone (by
                      cases hdo : (uo : Option Addr) with
                      | none => rfl
                      | some a => rw [hdo] at h2; cases h2)
                    omega
                case qA2 => exact hdl2
                case rA2 =>
                  intro ad e jj u hu
                  rw [List.map_drop] at hu
                  exact cut_at (lenU S) (unhide Hat11) (List.length_map _) huc (by omega) ad ((unhide Hao).symm.trans e) jj u hu
                case sA2 => exact oneU _
                case tA2 => unfold maxLen; omega
                case uA2 => omega
                case vA2 => exact b8b.size
                intro v3 w12 hown12 hg12
                have b8c : Below w8.heap.size w8 w12 := b8b.grown hg12 b8b.size (fun k hk => ((unhide Hown11).lt k hk).1)
                have Hown12 := hide hown12
                clear hown12 hg12
                go_wp2
                go_roundw
                case rel =>
                  have e : setOf lessU (PS.take (k + 1)) = S.take j ++ q :: S.drop j := by rw [unhide HS, insG_cut sto_lessU S j (unhide Hcut) (unhide Hmem)]
                  have el : (setOf lessU (PS.take (k + 1))).length = j + 1 + (S.length - j) := by
                    rw [e, List.length_append, List.length_cons, List.length_take, List.length_drop]
                    omega
                  have ec : ((setOf lessU (PS.take (k + 1))).map U2.cells).flatten = ((S.take j).map U2.cells).flatten ++ q.cells ++ ((S.drop j).map U2.cells).flatten := by
                    rw [e]
                    simp
                  refine ⟨k + 1, by go_num, by omega, hb46.trans ((b68.trans (b8c.mono b68.size)).mono hb46.size), ?_⟩
                  rw [el, ec]
                  have := own_mono (unhide Hown12) (Nat.le_trans hb46.size b68.size)
                  simpa using this
                case measure =>
                  simp only [intOf]
                  omega
          · have ik : ¬ (k : Int) < (PS.length : Int) := by omega
            obtain rfl : k = PS.length := by omega
            rw [List.take_length] at hown
            obtain ⟨uo, uc, rfl, huc⟩ := ownE_slice hown
            obtain ⟨T, hT⟩ : ∃ T, T = setOf lessU PS := ⟨_, rfl⟩
            rw [← hT] at hown ⊢
            have HT := hide hT
            have Hown := hide hown
            clear hT hown
            have dF : wr.frozen? ⟨w3.heap.size, 2, none⟩ = false := Lib.frozen_of_heap H6 2
            have H7 := hide (heap_setCell_same wr w3.heap.size 2 _ _ (.slice uo T.length uc) H6)
            clear H6
            go_wp2
            clear dF cV
            have b37 : Below w3.heap.size w3 (wr.setCell ⟨w3.heap.size, 2, none⟩ (.slice uo T.length uc)) := (b34.trans (hb46.mono b34.size)).setCell (p := ⟨w3.heap.size, 2, none⟩) (Nat.le_refl _) _
            have hs7 : (wr.setCell ⟨w3.heap.size, 2, none⟩ (.slice uo T.length uc)).heap.size = wr.heap.size := by simp
            have HownU : Hid ((wr.setCell ⟨w3.heap.size, 2, none⟩ (.slice uo T.length uc)).ownsRow w4.heap.size 28 2 (.slice uo T.length uc) T.length (T.map U2.cells).flatten) := hide (own_setG (unhide Hown) hV4 _)
            have hV7 : w3.heap.size < (wr.setCell ⟨w3.heap.size, 2, none⟩ (.slice uo T.length uc)).heap.size := by rw [hs7]; exact hV6
            clear hs7 Hown
            simp only [List.setIfInBounds_toArray, List.set_cons_succ, List.set_cons_zero] at H7
            generalize wr.setCell ⟨w3.heap.size, 2, none⟩ (.slice uo T.length uc) = w7 at *
            go_loopw [10, 11] (fun av kv wa => ∃ k : Nat, kv = .int .i64 k ∧ k ≤ As.length ∧ Below w7.heap.size w7 wa ∧ wa.ownsRow w7.heap.size 51 8 av (riseBy A8.nm (As.take k)).length ((riseBy A8.nm (As.take k)).map A8.cells).flatten) (fun _ kv _ => As.length - (intOf kv).toNat)
            case atStart => exact ⟨0, by go_num, Nat.zero_le _, Below.refl _ _, World.ownsRow_nil _ _ _ _⟩
            case round =>
              clear hV6 hb46
              obtain ⟨k, rfl, hk, hb79, hown⟩ := hrel
              have hV9 : w3.heap.size < wr.heap.size := Nat.lt_of_lt_of_le hV7 hb79.size
              have H9 := kept_of_below hb79 (unhide H7)
              have cV : wr.cell? ⟨w3.heap.size, 3, none⟩ = some (.slice eo As.length ec) := by rw [Lib.cell_of_heap H9]; rfl
              have ck0 : (0 : Int) ≤ (k : Int) := by omega
              by_cases hkA : k < As.length
              · have ik : (k : Int) < (As.length : Int) := by omega
                have b39 := b37.trans (hb79.mono b37.size)
                obtain ⟨ab, aoff, rfl, hab, hcq⟩ := rowG_at (unhide HRA) b39 hkA
                have Aq : AtE8 wr ab (aoff + k * 8) As[k] := AtE8.of hcq
                have HS1 := hide (riseBy_snoc A8.nm As k hkA)
                have hSl := riseBy_len A8.nm (As.take k)
                rw [List.length_take] at hSl
                obtain ⟨S, hS⟩ : ∃ S, S = riseBy A8.nm (As.take k) := ⟨_, rfl⟩
                rw [← hS] at hown hSl
                obtain ⟨q, hq⟩ : ∃ q, q = As[k] := ⟨_, rfl⟩
                have HS := hide (show riseBy A8.nm (As.take (k + 1)) = riseStep A8.nm S q by rw [unhide HS1, hS, hq])
                rw [← hq] at Aq
                have hS3 : S.length ≤ 1048576 := by omega
                clear hSl HS1 hS hq hcq H9
                obtain ⟨uo2, uc2, rfl, huc2⟩ := ownE_slice hown
                have hbq9 : ab < wr.heap.size := Nat.lt_of_lt_of_le hab b39.size
                have Hown := hide hown
                clear hown b39
                rcases Nat.eq_zero_or_pos S.length with hS0 | hS0
                · have HE1 := hide (riseStep_none (f := A8.nm) (a := q) (List.eq_nil_of_length_eq_zero hS0))
                  have hSn := hide hS0
                  have e0 : (S.length : Int) = 0 := by omega
                  have hd : ((S.length : Int) == 0) = true := by rw [e0]; rfl
                  have hSe : S = [] := List.eq_nil_of_length_eq_zero hS0
                  subst hSe
                  clear hS0 e0 hd
                  simp only [List.length_nil] at *
                  go_wp2_with fail
                  refine wp_region_quiet_below (by kernel_rfl) (by kernel_rfl) ?_
                  repeat (go_big_quiet_step (fail))
                  refine wpQuiet_nil ?_
                  intro _ hw'
                  obtain ⟨⟨dq8, osq8⟩, hw''⟩ := hw'
                  subst hw''
                  have b8 : Below wr.heap.size wr (grow (redrawn wr dq8) osq8) := below_regrown wr dq8 osq8
                  generalize grow (redrawn wr dq8) osq8 = w8 at *
                  have HE2 := hide (show riseStep A8.nm [] q = [q] from rfl)
                  have cVk := cV
                  clear HE1 cV
                  have cV8 : w8.cell? ⟨w3.heap.size, 3, none⟩ = some (.slice (some ⟨ab, aoff, none⟩) As.length ec) := (b8.cell (p := ⟨w3.heap.size, 3, none⟩) hV9).trans cVk
                  obtain ⟨a0, a1, a2, a3, a4, a5, a6, a7⟩ := Aq.below b8 hbq9
                  have Hown8 := hide (own_below (unhide Hown) b8)
                  go_wp2_with (at_builtin; refine wpList_append_own _ rfl _ _ 38 rfl w7.heap.size 51 i0Attr _ 8 112 Try.underlying38 hiAttr hz0Attr hz1Attr hz2Attr rfl (by decide) _ _ _ rfl ((unhide Hown8).alloc _) ⟨w8.heap.size, 0, none⟩ 1 1 q.cells rfl rfl ?dA5 ?eA5 ?fA5 ?gA5 ?hA5 ?_)
                  case dA5 => exact newsA_row w8 q _ rfl
                  case eA5 => exact cellsA_one q
                  case fA5 => unfold maxLen; first | omega | simp
                  case gA5 => first | omega | simp
                  case hA5 => have := hb79.size; have := b8.size; simp; omega
                  intro v2 w11 hown11 hg11 _
                  have b8a := b8.trans ((below1 w8 (.cells #[.string q.nm, .int .i64 q.v.k, .bool q.v.b, .int .i64 q.v.n, .string q.v.s, .string q.v.t, .string q.v.i, .slice q.v.lo q.v.ll q.v.lc] 51)).mono b8.size)
                  have b7a := hb79.trans (b8a.mono hb79.size)
                  have b7b : Below w7.heap.size w7 w11 := b7a.grown hg11 b7a.size (fun k hk => ((unhide Hown8).lt k hk).1)
                  have Hown11 := hide hown11
                  clear a0 a1 a2 a3 a4 a5 a6 a7 cV8 hown11 hg11 b8a b7a
                  go_wp2
                  go_roundw
                  case rel =>
                    refine ⟨k + 1, by go_num, by omega, b7b, ?_⟩
                    rw [unhide HS, unhide HE2]
                    have := unhide Hown11
                    simpa using this
                  case measure =>
                    simp only [intOf]
                    omega
                · have hp1 : S.length - 1 < S.length := by omega
                  have HE1 := hide (riseStep_some (f := A8.nm) (a := q) hp1)
                  obtain ⟨ao3, cap3, e2, hrow, _, _⟩ := rowG_own (lenA S) (by simpa using unhide Hown)
                  simp only [List.length_map] at e2
                  cases e2
                  obtain ⟨g, og, rfl, hg, hcx⟩ := rowG_at hrow (Below.refl _ _) hp1
                  have Ak : AtE8 wr g (og + (S.length - 1) * 8) S[S.length - 1] := AtE8.of hcx
                  obtain ⟨x, hx⟩ : ∃ x, x = S[S.length - 1] := ⟨_, rfl⟩
                  rw [← hx] at Ak HE1
                  clear hx hcx hrow
                  have ej : (S.length : Int) - 1 = ((S.length - 1 : Nat) : Int) := by omega
                  have ew : IntKind.i64.wrap ((S.length - 1 : Nat) : Int) = ((S.length - 1 : Nat) : Int) := by rw [IntKind.wrap_i64]; omega
                  have k0 : (0 : Int) ≤ ((S.length - 1 : Nat) : Int) := by omega
                  have k1 : ((S.length - 1 : Nat) : Int) < (S.length : Int) := by omega
                  have hd : ((S.length : Int) == 0) = false := by
                    rw [beq_eq_false_iff_ne]
                    omega
                  have a0 := Ak.up.c0
                  have d0 := Aq.up.c0
                  have v0 := cell_regrown cV
                  have cVk := cV
                  clear Ak cV
                  go_wp2_with fail
                  refine wp_region_quiet_below (by kernel_rfl) (by kernel_rfl) ?_
                  repeat (quiet_step (fail))
                  refine wpQuiet_nil ?_
                  intro _ hw'
                  obtain ⟨⟨dq8, osq8⟩, hw''⟩ := hw'
                  subst hw''
                  have b8 : Below wr.heap.size wr (grow (redrawn wr dq8) osq8) := below_regrown wr dq8 osq8
                  generalize grow (redrawn wr dq8) osq8 = w8 at *
                  clear a0 d0 v0 ej ew k0 k1 hd
                  generalize hy : Op.bytesLess x.nm.toList q.nm.toList = y at *
                  clear hy
                  cases y
                  · have HE2 := hide (show riseStep A8.nm S q = S by rw [unhide HE1]; simp)
                    clear HE1
                    go_wp2
                    go_roundw
                    case rel =>
                      refine ⟨k + 1, by go_num, by omega, hb79.trans (b8.mono hb79.size), ?_⟩
                      rw [unhide HS, unhide HE2]
                      exact own_below (unhide Hown) b8
                    case measure =>
                      simp only [intOf]
                      omega
                  · have HE2 := hide (show riseStep A8.nm S q = S ++ [q] by rw [unhide HE1]; simp)
                    clear HE1
                    have cV8 : w8.cell? ⟨w3.heap.size, 3, none⟩ = some (.slice (some ⟨ab, aoff, none⟩) As.length ec) := (b8.cell (p := ⟨w3.heap.size, 3, none⟩) hV9).trans cVk
                    obtain ⟨a0, a1, a2, a3, a4, a5, a6, a7⟩ := Aq.below b8 hbq9
                    have Hown8 := hide (own_below (unhide Hown) b8)
                    go_wp2_with (at_builtin; refine wpList_append_own _ rfl _ _ 38 rfl w7.heap.size 51 i0Attr _ 8 112 Try.underlying38 hiAttr hz0Attr hz1Attr hz2Attr rfl (by decide) _ _ _ rfl ((unhide Hown8).alloc _) ⟨w8.heap.size, 0, none⟩ 1 1 q.cells rfl rfl ?dA6 ?eA6 ?fA6 ?gA6 ?hA6 ?_)
                    case dA6 => exact newsA_row w8 q _ rfl
                    case eA6 => exact cellsA_one q
                    case fA6 => unfold maxLen; first | omega | simp
                    case gA6 => first | omega | simp
                    case hA6 => have := hb79.size; have := b8.size; simp; omega
                    intro v2 w11 hown11 hg11 _
                    have b8a := b8.trans ((below1 w8 (.cells #[.string q.nm, .int .i64 q.v.k, .bool q.v.b, .int .i64 q.v.n, .string q.v.s, .string q.v.t, .string q.v.i, .slice q.v.lo q.v.ll q.v.lc] 51)).mono b8.size)
                    have b7a := hb79.trans (b8a.mono hb79.size)
                    have b7b : Below w7.heap.size w7 w11 := b7a.grown hg11 b7a.size (fun k hk => ((unhide Hown8).lt k hk).1)
                    have Hown11 := hide hown11
                    clear a0 a1 a2 a3 a4 a5 a6 a7 cV8 hown11 hg11 b8a b7a
                    go_wp2
                    go_roundw
                    case rel =>
                      refine ⟨k + 1, by go_num, by omega, b7b, ?_⟩
                      rw [unhide HS, unhide HE2]
                      have := unhide Hown11
                      simpa using this
                    case measure =>
                      simp only [intOf]
                      omega
              · have ik : ¬ (k : Int) < (As.length : Int) := by omega
                obtain rfl : k = As.length := by omega
                rw [List.take_length] at hown
                obtain ⟨vo, vc, rfl, hvc⟩ := ownE_slice hown
                obtain ⟨B, hB⟩ : ∃ B, B = riseBy A8.nm As := ⟨_, rfl⟩
                rw [← hB] at hown ⊢
                have HB := hide hB
                have Hown := hide hown
                clear hB hown
                have dF : wr.frozen? ⟨w3.heap.size, 3, none⟩ = false := Lib.frozen_of_heap H9 3
                have H10 := heap_setCell_same wr w3.heap.size 3 _ _ (.slice vo B.length vc) H9
                have b310 : Below w3.heap.size w3 (wr.setCell ⟨w3.heap.size, 3, none⟩ (.slice vo B.length vc)) := (b37.trans (hb79.mono b37.size)).setCell (p := ⟨w3.heap.size, 3, none⟩) (Nat.le_refl _) _
                have HownA : Hid ((wr.setCell ⟨w3.heap.size, 3, none⟩ (.slice vo B.length vc)).ownsRow w7.heap.size 51 8 (.slice vo B.length vc) B.length (B.map A8.cells).flatten) := hide (own_setG (unhide Hown) hV7 _)
                have HownU2 : Hid ((wr.setCell ⟨w3.heap.size, 3, none⟩ (.slice vo B.length vc)).ownsRow w4.heap.size 28 2 (.slice uo T.length uc) T.length (T.map U2.cells).flatten) := hide (own_setG (own_below (unhide HownU) hb79) hV4 _)
                simp only [List.setIfInBounds_toArray, List.set_cons_succ, List.set_cons_zero] at H10
                have q0 : (wr.setCell ⟨w3.heap.size, 3, none⟩ (.slice vo B.length vc)).cell? ⟨w3.heap.size, 0, none⟩ = some (.string et) := by rw [Lib.cell_of_heap H10]; rfl
                have q1 : (wr.setCell ⟨w3.heap.size, 3, none⟩ (.slice vo B.length vc)).cell? ⟨w3.heap.size, 1, none⟩ = some (.string ei) := by rw [Lib.cell_of_heap H10]; rfl
                have q2 : (wr.setCell ⟨w3.heap.size, 3, none⟩ (.slice vo B.length vc)).cell? ⟨w3.heap.size, 2, none⟩ = some (.slice uo T.length uc) := by rw [Lib.cell_of_heap H10]; rfl
                have q3 : (wr.setCell ⟨w3.heap.size, 3, none⟩ (.slice vo B.length vc)).cell? ⟨w3.heap.size, 3, none⟩ = some (.slice vo B.length vc) := by rw [Lib.cell_of_heap H10]; rfl
                have PU := ent_made (et := et) (ei := ei) (b3.trans (b310.mono b3.size)) (unhide HO) (unhide HUE) (unhide HownU2) ((unhide HT).trans (by rw [unhide HPS])) (unhide HownA) (unhide HB) ((unhide HAs).below2 b310) (by have := aOf_len ((rs.take i).map goodE); rw [List.length_map, List.length_take] at this; omega) (rising_a _) rfl
                rw [← unhide Htk] at PU
                unfold E4.val at PU
                simp only at PU
                clear H9 H10
                go_wp2_with fail
                clear q0 q1 q2 q3 dF cV
                generalize wr.setCell ⟨w3.heap.size, 3, none⟩ (.slice vo B.length vc) = w10 at *
                refine PU.mono ?_
                clear PU
                rintro x w11 ⟨b11, ao', cap', es', rfl, hr1, hr2, hr3, hr4⟩
                have b011 := b03.trans ((b310.trans (b11.mono b310.size)).mono b03.size)
                have HO' := hide (OrdG.mk hr1 hr4 hr3 hr2)
                clear hr1 hr2 hr3 hr4
                go_wp2
                go_roundw
                case rel => exact ⟨i + 1, es', ao', cap', by omega, by omega, by go_num, rfl, b011, unhide HO'⟩
                case measure =>
                  simp only [intOf]
                  omega
      · obtain rfl : i = 12 := by omega
        have i3 : ¬ (12 : Int) < 12 := by omega
        have HO := hide hO
        clear hO
        go_wp2
        go_ret
        refine ⟨hbw, ao, cap, es, rfl, (unhide HO).row, (unhide HO).all, (unhide HO).cap, (unhide HO).nil⟩
    · have i1 : ¬ (i : Int) < (rs.length : Int) := by omega
      obtain rfl : i = rs.length := by omega
      have HO := hide hO
      clear hO
      go_wp2
      go_ret
      refine ⟨hbw, ao, cap, es, rfl, (unhide HO).row, ?_, (unhide HO).cap, (unhide HO).nil⟩
      have h := (unhide HO).all
      rw [List.take_length] at h
      unfold goodsL
      rw [List.take_of_length_le hi12]
      exact h
end Go.Proofs.Ythmmplmppchfmaa
