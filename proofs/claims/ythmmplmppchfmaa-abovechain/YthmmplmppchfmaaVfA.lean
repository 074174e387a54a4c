/-
  chancelref3.Set of plain values of one kind.
-/
import Derived.Test.YthmmplmppchfmaaVfP
import Derived.Deep.Cut
namespace Go.Proofs.Ythmmplmppchfmaa
open Go.RowKit Go.Sort

theorem len_ins_le (q : PV) : ∀ S : List PV, (ins lessP q S).length ≤ S.length + 1
  | [] => by simp [ins]
  | y :: S => by
    have := len_ins_le q S
    unfold ins
    split
    · simpa using this
    · split
      · simp
      · simp
theorem len_fold_le : ∀ (l S : List PV), (l.foldl (fun acc x => ins lessP x acc) S).length ≤ S.length + l.length
  | [], S => by simp
  | x :: l, S => by
    have h1 := len_fold_le l (ins lessP x S)
    have h2 := len_ins_le x S
    simp only [List.foldl_cons, List.length_cons]
    omega
theorem len_setOf_le (l : List PV) : (setOf lessP l).length ≤ l.length := by
  have := len_fold_le l []
  simpa [setOf] using this

theorem cell_lt7 {w : World} {b o : Nat} {v : Value} (h : w.cell? ⟨b, o, none⟩ = some v) : b < w.heap.size := by
  rcases Nat.lt_or_ge b w.heap.size with hl | hl
  · exact hl
  · unfold World.cell? at h
    rw [Array.getElem?_eq_none hl] at h
    cases h

theorem own_cap {w : World} {B : Nat} {ao : Option Addr} {n c m : Nat} {xs : List Value} (h : w.ownsRow B 49 7 (.slice ao n c) m xs) : m ≤ c := by
  rcases h.2 with ⟨hv, h0⟩ | ⟨g, cap, cur, hv, _, _, hc, _⟩
  · omega
  · cases hv
    exact hc
theorem own_none {w : World} {B : Nat} {ao : Option Addr} {n c m : Nat} {xs : List Value} (h : w.ownsRow B 49 7 (.slice ao n c) m xs) : ao = none → m = 0 ∧ c = 0 := by
  rcases h.2 with ⟨hv, h0⟩ | ⟨g, cap, cur, hv, _, _, hc, _⟩
  · cases hv
    exact fun _ => ⟨h0, rfl⟩
  · cases hv
    intro h
    cases h
theorem own_at {w : World} {B : Nat} {ao : Option Addr} {n c m : Nat} {xs : List Value} (h : w.ownsRow B 49 7 (.slice ao n c) m xs) : ∀ ad, ao = some ad → ad.spot = none ∧ ad.off = 0 ∧ (∀ j, (ad.add j).block < w.heap.size) ∧ ∀ j u, xs[j]? = some u → w.cell? (ad.add j) = some u := by
  intro ad e
  subst e
  rcases h.2 with ⟨hv, _⟩ | ⟨g, cap, cur, hv, hB, hg, _⟩
  · cases hv
  · cases hv
    exact ⟨rfl, rfl, fun j => (by rw [Addr.add_lit]; exact (Array.getElem?_eq_some_iff.1 hg).1), h.cells (g := g) rfl⟩

theorem news_row (w : World) (r : R7) (n : Nat) (hn : n = w.heap.size) : ∀ j u, r.cells[j]? = some u → (w.alloc (.cells #[.int .i64 r.k, .bool r.b, .int .i64 r.n, .string r.s, .string r.t, .string r.i, .slice r.lo r.ll r.lc] 49)).cell? ((⟨n, 0, none⟩ : Addr).add j) = some u := by
  intro j u hj
  rw [Addr.add_lit, Nat.zero_add, World.cell?_alloc_at _ _ _ _ hn]
  simpa [R7.cells] using hj

set_option maxHeartbeats 4000000 in
set_option maxRecDepth 100000 in
theorem r3set_plain (l : List PV) (ao : Option Addr) (ca : Nat) (w : World) (hl : l.length ≤ 1048576) (hr : RowV w ao (l.map ofP)) (hkind : ∀ p ∈ l, ∀ q ∈ l, p.kind = q.kind) :
    Calls Try.prog 47 #[.slice ao l.length ca] w (SetPost l w) := by
  obtain ⟨i0, hi, hz0, hz1, hz2⟩ := info_parts infoValue
  have HK := hide hkind
  clear hkind
  go_enter Try.func47, Try.ntmps47
  go_wp2
  generalize hw2 : w.alloc _ = w2
  have b02 : Below w.heap.size w w2 := by rw [← hw2]; exact below1 _ _
  have z2 : w2.heap.size = w.heap.size + 1 := by rw [← hw2]; simp
  have Hw2 := hide hw2
  clear hw2
  have hr2 := hr.below b02
  clear hr
  go_loopw [4] (fun iv wr => ∃ i : Nat, iv = .int .i64 i ∧ i ≤ l.length ∧ Below w2.heap.size w2 wr) (fun iv _ => l.length - (intOf iv).toNat)
  case atStart => exact ⟨0, by go_num, Nat.zero_le _, Below.refl _ _⟩
  case round =>
    obtain ⟨j, rfl, hj, hbw⟩ := hrel
    by_cases hlt : j < l.length
    · have i1 : (j : Int) < (l.length : Int) := by omega
      have i0 : (0 : Int) < (l.length : Int) := by omega
      have h0 : 0 < l.length := by omega
      obtain ⟨b, off, rfl, A, hb⟩ := rowV_at hr2 hbw (j := j) (by rw [List.length_map]; exact hlt)
      obtain ⟨b', off', e', A0, _⟩ := rowV_at hr2 hbw (j := 0) (by rw [List.length_map]; exact h0)
      cases e'
      rw [Nat.zero_mul, Nat.add_zero] at A0
      rw [List.getElem_map] at A A0
      have hk : (ofP l[0]).k = (ofP l[j]).k := by
        rw [ofP_k, ofP_k, unhide HK l[j] (List.getElem_mem _) l[0] (List.getElem_mem _)]
      have h5 : ((ofP l[j]).k == 5) = false := by cases l[j] <;> rfl
      obtain ⟨r, er⟩ : ∃ r, r = ofP l[j] := ⟨_, rfl⟩
      rw [← er] at A hk h5
      have e0 := A0.up.c0
      rw [hk] at e0
      have a0 := A.up.c0
      clear hk er A A0
      go_wp2_with fail
      refine wp_region_quiet_below (by kernel_rfl) (by kernel_rfl) ?_
      repeat (quiet_step (fail))
      refine wpQuiet_nil ?_
      intro _ hw'
      obtain ⟨⟨dq, osq⟩, hw''⟩ := hw'
      subst hw''
      have b4 : Below w2.heap.size w2 (grow (redrawn wr dq) osq) := hbw.trans ((below_regrown wr dq osq).mono hbw.size)
      generalize grow (redrawn wr dq) osq = w4 at *
      clear a0 e0
      go_wp2
      go_roundw
      case rel => exact ⟨j + 1, by go_num, by omega, b4⟩
      case measure =>
        simp only [intOf]
        omega
    · have i1 : ¬ (j : Int) < (l.length : Int) := by omega
      go_wp2
      obtain rfl : j = l.length := by omega
      have hr3 := hr2.below hbw
      have hc : ∀ o, (wr.cell? ⟨w.heap.size, o, none⟩) = w2.cell? ⟨w.heap.size, o, none⟩ := fun o => hbw.cell (p := ⟨w.heap.size, o, none⟩) (by show w.heap.size < _; omega)
      have hf : ∀ o, (wr.frozen? ⟨w.heap.size, o, none⟩) = w2.frozen? ⟨w.heap.size, o, none⟩ := fun o => hbw.frozen (p := ⟨w.heap.size, o, none⟩) (by show w.heap.size < _; omega)
      have Hc := hide hc
      have Hf := hide hf
      have b05 : Below w.heap.size w wr := b02.trans (hbw.mono b02.size)
      have z5 : w.heap.size < wr.heap.size := by have := hbw.size; omega
      clear hc hf hr2 i1 hlt hj hbw
      generalize wr = w5 at *
      go_loopw [5, 6] (fun uv iv wr => ∃ i : Nat, iv = .int .i64 i ∧ i ≤ l.length ∧ Below w5.heap.size w5 wr ∧ wr.ownsRow w5.heap.size 49 7 uv (setOf lessP (l.take i)).length (cellsOf (setOf lessP (l.take i)))) (fun _ iv _ => l.length - (intOf iv).toNat)
      case atStart => exact ⟨0, by go_num, Nat.zero_le _, Below.refl _ _, World.ownsRow_nil _ _ _ _⟩
      case round =>
        obtain ⟨j, rfl, hj, hbw, hown⟩ := hrel
        by_cases hlt : j < l.length
        · have i1 : (j : Int) < (l.length : Int) := by omega
          have HS1 := hide (setOf_snoc l j hlt)
          have hSl := len_setOf_le (l.take j)
          rw [List.length_take] at hSl
          obtain ⟨S, hS⟩ : ∃ S, S = setOf lessP (l.take j) := ⟨_, rfl⟩
          have hSr : Rising lessP S := by rw [hS]; exact rising_setOf sto_lessP _
          rw [← hS] at hown hSl
          have HS := hide (show setOf lessP (l.take (j + 1)) = ins lessP l[j] S by rw [unhide HS1, hS])
          have hS20 : S.length ≤ 1048576 := by omega
          have HSr := hide hSr
          clear hSl HS1 hS hSr
          obtain ⟨b, off, rfl, Aq, hb⟩ := rowV_at hr3 hbw (j := j) (by rw [List.length_map]; exact hlt)
          rw [List.getElem_map] at Aq
          obtain ⟨q, hq⟩ : ∃ q, q = l[j] := ⟨_, rfl⟩
          rw [← hq] at Aq HS
          clear hq
          obtain ⟨ao', cap', rfl, _⟩ := rowP_own hown
          have hbr : b < wr.heap.size := by have := hbw.size; omega
          have Hown := hide hown
          clear hown
          go_wp2_with fail
          generalize wr = w6 at *
          go_loopw [7] (fun kv wk => ∃ k : Nat, kv = .int .i64 k ∧ k ≤ S.length ∧ Below w6.heap.size w6 wk ∧ ∀ i (h : i < S.length), i < k → lessP S[i] q = true) (fun kv _ => S.length - (intOf kv).toNat)
          case atStart => exact ⟨0, by go_num, Nat.zero_le _, Below.refl _ _, fun i _ h => absurd h (Nat.not_lt_zero _)⟩
          case round =>
            obtain ⟨k, rfl, hk, hbk, hlow⟩ := hrel
            have Hlow := hide hlow
            clear hlow
            have hownk := own_below (unhide Hown) hbk
            by_cases hkS : k < S.length
            · have i2 : (k : Int) < (S.length : Int) := by omega
              obtain ⟨ao2, cap2, e2, hrow⟩ := rowV_own hownk
              cases e2
              obtain ⟨g, og, rfl, Ak, _⟩ := rowV_at hrow (Below.refl _ _) (j := k) (by rw [List.length_map]; exact hkS)
              rw [List.getElem_map] at Ak
              have LE := fun w => r3less_plain S[k] q (.slice none 0 0) (.slice none 0 0) w
              have SA := fun w => r3same_plain S[k] q none none 0 0 w
              rw [← ofP_val, ← ofP_val] at LE SA
              have Hk := hide (show ∀ h : k < S.length, S[k] = S[k] from fun _ => rfl)
              clear Hk
              obtain ⟨x, hx⟩ : ∃ x, x = S[k] := ⟨_, rfl⟩
              rw [← hx] at LE SA Ak
              have HX := hide hx
              clear hx
              have Aqk := Aq.below hbk hbr
              obtain ⟨rx, erx⟩ : ∃ r, r = ofP x := ⟨_, rfl⟩
              obtain ⟨rq, erq⟩ : ∃ r, r = ofP q := ⟨_, rfl⟩
              rw [← erx] at LE SA Ak
              rw [← erq] at LE SA Aqk
              have HRQ := hide (show (ofP q).cells = rq.cells by rw [erq])
              clear erx erq
              unfold R7.val at LE SA
              have cS := fun d os => Calls.regrown_of (w := wr) (d := d) (os := os) (LE (grow (redrawn wr d) os))
              have Hownk := hide hownk
              have Hrow := hide hrow
              clear hownk hrow
              obtain ⟨a0, a1, a2, a3, a4, a5, a6⟩ := Ak.up
              obtain ⟨d0, d1, d2, d3, d4, d5, d6⟩ := Aqk.up
              have HLE := hide LE
              clear LE
              go_wp2_with fail
              refine wp_region_quiet_below (by kernel_rfl) (by kernel_rfl) ?_
              repeat (quiet_step (exact cS _ _))
              refine wpQuiet_nil ?_
              intro _ hw'
              obtain ⟨⟨dq, osq⟩, hw''⟩ := hw'
              subst hw''
              have b7 : Below wr.heap.size wr (grow (redrawn wr dq) osq) := below_regrown wr dq osq
              generalize grow (redrawn wr dq) osq = w7 at *
              have b67 : Below w6.heap.size w6 w7 := hbk.trans (b7.mono hbk.size)
              have hbw7 : b < wr.heap.size := by have := hbk.size; omega
              have gw7 := cell_lt7 Ak.c0
              have Ak7 := Ak.below b7 gw7
              have Aq7 := Aqk.below b7 hbw7
              clear a0 a1 a2 a3 a4 a5 a6 d0 d1 d2 d3 d4 d5 d6 cS Ak Aqk
              have g7 := cell_lt7 Ak7.c0
              have bb7 := cell_lt7 Aq7.c0
              by_cases hle : lessP x q = true
              · rw [hle]
                clear SA
                go_wp2
                go_roundw
                case rel =>
                  refine ⟨k + 1, by go_num, by omega, b67, fun i h hik => ?_⟩
                  by_cases hik' : i < k
                  · exact unhide Hlow i h hik'
                  · obtain rfl : i = k := by omega
                    rw [← unhide HX]
                    exact hle
                case measure =>
                  simp only [intOf]
                  omega
              · have hlf : lessP x q = false := by simpa using hle
                rw [hlf]
                have cS := fun d os => Calls.regrown_of (w := w7) (d := d) (os := os) (SA (grow (redrawn w7 d) os))
                obtain ⟨a0, a1, a2, a3, a4, a5, a6⟩ := Ak7.up
                obtain ⟨d0, d1, d2, d3, d4, d5, d6⟩ := Aq7.up
                clear hle SA
                have HLF := hide hlf
                clear hlf
                go_wp2_with fail
                refine wp_region_quiet_below (by kernel_rfl) (by kernel_rfl) ?_
                repeat (quiet_step (exact cS _ _))
                refine wpQuiet_nil ?_
                intro _ hw'
                obtain ⟨⟨dq2, osq2⟩, hw''⟩ := hw'
                subst hw''
                have b78 : Below w7.heap.size w7 (grow (redrawn w7 dq2) osq2) := below_regrown w7 dq2 osq2
                generalize grow (redrawn w7 dq2) osq2 = w8 at *
                have b68 : Below w6.heap.size w6 w8 := b67.trans (b78.mono b67.size)
                have Aq8 := Aq7.below b78 bb7
                clear a0 a1 a2 a3 a4 a5 a6 d0 d1 d2 d3 d4 d5 d6 cS Ak7 Aq7
                have hown8 := own_below (unhide Hown) b68
                have hcut : Cutp S q k := ⟨by omega, fun i h hik => unhide Hlow i h hik, fun i h hik => ?_⟩
                rotate_left
                · by_cases hik' : i = k
                  · subst hik'
                    rw [← unhide HX]
                    exact unhide HLF
                  · have h1 := List.pairwise_iff_getElem.1 (unhide HSr) k i hkS h (by omega)
                    cases h2 : lessP S[i] q
                    · rfl
                    · have h3 := sto_lessP.trans _ _ _ h1 h2
                      have h4 := unhide HLF
                      rw [unhide HX] at h4
                      rw [h4] at h3
                      cases h3
                by_cases hxq : x = q
                · have hd : decide (x = q) = true := decide_eq_true hxq
                  rw [hd]
                  have Hown8 := hide hown8
                  clear hown8
                  go_wp2
                  go_roundw
                  case rel =>
                    have e : setOf lessP (l.take (j + 1)) = S := by
                      rw [unhide HS]
                      exact ins_mem S (unhide HSr) (by rw [← hxq, unhide HX]; exact List.getElem_mem _)
                    refine ⟨j + 1, by go_num, by omega, hbw.trans (b68.mono hbw.size), ?_⟩
                    rw [e]
                    exact unhide Hown8
                  case measure =>
                    simp only [intOf]
                    omega
                · have hd : decide (x = q) = false := decide_eq_false hxq
                  rw [hd]
                  have hmem : q ∉ S := fun h => by
                    obtain ⟨_, e⟩ := (hcut.mem (unhide HSr)).1 h
                    exact hxq (by rw [unhide HX, e])
                  have hcap := own_cap hown8
                  have hnone := own_none hown8
                  have hat := own_at hown8
                  have c1 : (k : Int) ≤ (cap' : Int) := by omega
                  have c2 : (k : Int) ≤ (S.length : Int) := by omega
                  have c0 : (0 : Int) ≤ (k : Int) := by omega
                  have Hnone := hide hnone
                  have Hat := hide hat
                  have Hcut := hide hcut
                  have Hmem := hide hmem
                  have bb8 := cell_lt7 Aq8.c0
                  have hclen : (cellsOf S).length = S.length * 7 := hown8.1
                  clear hnone hat hown8 hcut hmem
                  have Acopy := Aq8
                  obtain ⟨a0, a1, a2, a3, a4, a5, a6⟩ := Acopy
                  go_wp2_with (at_builtin; refine wpList_append_row _ rfl _ _ 47 rfl w8.heap.size 49 i0 _ 7 96 Try.underlying47 hi hz0 hz1 hz2 rfl (by decide) _ _ _ rfl (World.ownsRow_nil _ _ _ _) _ _ _ ((cellsOf S).take (k * 7)) rfl ?nA ?lA ?wA ?oA ?mA ?yA ?bA ?_)
                  case nA => intro h; have := unhide Hnone h; omega
                  case lA => rw [List.length_take, hclen]; omega
                  case wA =>
                    intro ad e jj u hu
                    refine (unhide Hat ad e).2.2.2 jj u ?_
                    rw [List.getElem?_take] at hu
                    split at hu
                    · exact hu
                    · cases hu
                  case oA => exact fun u hu => cellsOf_one S u (List.mem_of_mem_take hu)
                  case mA => unfold maxLen; omega
                  case yA => omega
                  case bA => exact Nat.le_refl _
                  intro v1 w9 hown9 hg9
                  have b89 : Below w8.heap.size w8 w9 := (Below.refl _ w8).grown hg9 (Nat.le_refl _) (fun k hk => by cases hk)
                  have Aq9 := Aq8.below b89 bb8
                  have Hown9 := hide hown9
                  clear a0 a1 a2 a3 a4 a5 a6 hown9 hg9 Aq8
                  obtain ⟨a0, a1, a2, a3, a4, a5, a6⟩ := Aq9
                  go_wp2_with (at_builtin; refine wpList_append_own _ rfl _ _ 47 rfl w8.heap.size 49 i0 _ 7 96 Try.underlying47 hi hz0 hz1 hz2 rfl (by decide) _ _ _ rfl ((unhide Hown9).alloc _) ⟨w9.heap.size, 0, none⟩ 1 1 rq.cells rfl rfl ?dA ?eA ?fA ?gA ?hA ?_)
                  case dA => exact news_row w9 rq _ rfl
                  case eA => exact cells_one rq
                  case fA => unfold maxLen; omega
                  case gA => omega
                  case hA => have := b89.size; simp; omega
                  intro v2 w11 hown11 hg11 _
                  have b8a := b89.trans ((below1 w9 (.cells #[.int .i64 rq.k, .bool rq.b, .int .i64 rq.n, .string rq.s, .string rq.t, .string rq.i, .slice rq.lo rq.ll rq.lc] 49)).mono b89.size)
                  have b8b : Below w8.heap.size w8 w11 := b8a.grown hg11 b8a.size (fun k hk => ((unhide Hown9).lt k hk).1)
                  have Hat11 := hide (fun ad (e : (some ⟨g, og, none⟩) = some ad) jj u hu => (b8b.cell (p := ad.add jj) ((unhide Hat ad e).2.2.1 jj)).trans ((unhide Hat ad e).2.2.2 jj u hu))
                  have Hown11 := hide hown11
                  clear a0 a1 a2 a3 a4 a5 a6 hown11 hg11 b8a
                  have hv2 : ∃ ao c, v2 = .slice ao (k + 1) c := by
                    rcases (unhide Hown11).2 with ⟨_, h0⟩ | ⟨g, cap, cur, hv, _⟩
                    · omega
                    · exact ⟨_, _, hv⟩
                  obtain ⟨ao2, cp2, rfl⟩ := hv2
                  go_wp2_with (at_builtin; refine wpList_append_row _ rfl _ _ 47 rfl w8.heap.size 49 i0 _ 7 96 Try.underlying47 hi hz0 hz1 hz2 rfl (by decide) _ _ _ rfl (unhide Hown11) _ _ _ ((cellsOf S).drop (k * 7)) rfl ?pA ?qA ?rA ?sA ?tA ?uA ?vA ?_)
                  case pA => first | (intro h; cases h; done) | (intro _; have := unhide Hnone rfl; omega)
                  case qA => rw [List.length_drop, hclen]; omega
                  case rA =>
                    intro ad e jj u hu
                    cases e
                    rw [List.getElem?_drop] at hu
                    have hx := unhide Hat11 _ rfl _ u hu
                    rw [Addr.add_lit] at hx ⊢
                    rw [Nat.add_assoc]
                    exact hx
                  case sA => exact fun u hu => cellsOf_one S u (List.mem_of_mem_drop hu)
                  case tA => unfold maxLen; omega
                  case uA => omega
                  case vA => exact b8b.size
                  intro v3 w12 hown12 hg12
                  have b8c : Below w8.heap.size w8 w12 := b8b.grown hg12 b8b.size (fun k hk => ((unhide Hown11).lt k hk).1)
                  have Hown12 := hide hown12
                  clear hown12 hg12
                  go_wp2
                  go_roundw
                  case rel =>
                    have e : setOf lessP (l.take (j + 1)) = S.take k ++ q :: S.drop k := by rw [unhide HS, ins_cut S k (unhide Hcut) (unhide Hmem)]
                    have el : (setOf lessP (l.take (j + 1))).length = k + 1 + (S.length - k) := by
                      rw [e, List.length_append, List.length_cons, List.length_take, List.length_drop]
                      omega
                    have ec : cellsOf (setOf lessP (l.take (j + 1))) = (cellsOf S).take (k * 7) ++ (rq.cells ++ (cellsOf S).drop (k * 7)) := by
                      rw [e, cellsOf_append, cellsOf_cons, cellsOf_take S k (by omega), cellsOf_drop S k (by omega), unhide HRQ]
                    refine ⟨j + 1, by go_num, by omega, hbw.trans ((b68.trans (b8c.mono b68.size)).mono hbw.size), ?_⟩
                    rw [el, ec]
                    exact own_mono (unhide Hown12) (Nat.le_trans hbw.size b68.size)
                  case measure =>
                    simp only [intOf]
                    omega
            · have hd : decide ((k : Int) < (S.length : Int)) = false := decide_eq_false (by omega)
              have Aqk := Aq.below hbk hbr
              obtain ⟨rq, erq⟩ : ∃ r, r = ofP q := ⟨_, rfl⟩
              rw [← erq] at Aqk
              have HRQ := hide (show (ofP q).cells = rq.cells by rw [erq])
              clear erq hownk
              have hbw7 : b < wr.heap.size := by have := hbk.size; omega
              go_wp2_with fail
              refine wp_region_quiet_below (by kernel_rfl) (by kernel_rfl) ?_
              repeat (go_big_quiet_step (fail))
              refine wpQuiet_nil ?_
              intro _ hw'
              obtain ⟨⟨dq, osq⟩, hw''⟩ := hw'
              subst hw''
              have b7 : Below wr.heap.size wr (grow (redrawn wr dq) osq) := below_regrown wr dq osq
              generalize grow (redrawn wr dq) osq = w7 at *
              have b67 : Below w6.heap.size w6 w7 := hbk.trans (b7.mono hbk.size)
              have Aq7 := Aqk.below b7 hbw7
              have bb7 := cell_lt7 Aq7.c0
              go_wp2_with fail
              refine wp_region_quiet_below (by kernel_rfl) (by kernel_rfl) ?_
              repeat (go_big_quiet_step (fail))
              refine wpQuiet_nil ?_
              intro _ hw'
              obtain ⟨⟨dq2, osq2⟩, hw''⟩ := hw'
              subst hw''
              have b78 : Below w7.heap.size w7 (grow (redrawn w7 dq2) osq2) := below_regrown w7 dq2 osq2
              generalize grow (redrawn w7 dq2) osq2 = w8 at *
              have b68 : Below w6.heap.size w6 w8 := b67.trans (b78.mono b67.size)
              have Aq8 := Aq7.below b78 bb7
              clear Aq7 Aqk hd
              have hown8 := own_below (unhide Hown) b68
              have hcut : Cutp S q k := ⟨by omega, fun i h hik => unhide Hlow i h hik, fun i h hik => by omega⟩
              have hmem : q ∉ S := fun h => by
                obtain ⟨h1, _⟩ := (hcut.mem (unhide HSr)).1 h
                omega
              cases ao' with
              | none =>
                have HZ := hide (own_none hown8 rfl)
                have hcap := own_cap hown8
                have hnone := own_none hown8
                have hat := own_at hown8
                have c1 : (k : Int) ≤ (cap' : Int) := by omega
                have c2 : (k : Int) ≤ (S.length : Int) := by omega
                have c0 : (0 : Int) ≤ (k : Int) := by omega
                have Hnone := hide hnone
                have Hat := hide hat
                have Hcut := hide hcut
                have Hmem := hide hmem
                have bb8 := cell_lt7 Aq8.c0
                have hclen : (cellsOf S).length = S.length * 7 := hown8.1
                clear hnone hat hown8 hcut hmem
                have Acopy := Aq8
                obtain ⟨a0, a1, a2, a3, a4, a5, a6⟩ := Acopy
                go_wp2_with (at_builtin; refine wpList_append_row _ rfl _ _ 47 rfl w8.heap.size 49 i0 _ 7 96 Try.underlying47 hi hz0 hz1 hz2 rfl (by decide) _ _ _ rfl (World.ownsRow_nil _ _ _ _) _ _ _ ((cellsOf S).take (k * 7)) rfl ?nN ?lN ?wN ?oN ?mN ?yN ?bN ?_)
                all_goals try (first
                  | (have := unhide HZ; omega; done)
                  | (rw [List.length_take, hclen]; omega; done)
                  | (intro ad e; cases e; done)
                  | exact fun u hu => cellsOf_one S u (List.mem_of_mem_take hu)
                  | (unfold maxLen; omega; done)
                  | (omega; done)
                  | exact Nat.le_refl _)
                intro v1 w9 hown9 hg9
                have b89 : Below w8.heap.size w8 w9 := (Below.refl _ w8).grown hg9 (Nat.le_refl _) (fun k hk => by cases hk)
                have Aq9 := Aq8.below b89 bb8
                have Hown9 := hide hown9
                clear a0 a1 a2 a3 a4 a5 a6 hown9 hg9 Aq8
                obtain ⟨a0, a1, a2, a3, a4, a5, a6⟩ := Aq9
                go_wp2_with (at_builtin; refine wpList_append_own _ rfl _ _ 47 rfl w8.heap.size 49 i0 _ 7 96 Try.underlying47 hi hz0 hz1 hz2 rfl (by decide) _ _ _ rfl ((unhide Hown9).alloc _) ⟨w9.heap.size, 0, none⟩ 1 1 rq.cells rfl rfl ?dN ?eN ?fN ?gN ?hN ?_)
                case dN => exact news_row w9 rq _ rfl
                case eN => exact cells_one rq
                case fN => unfold maxLen; omega
                case gN => omega
                case hN => have := b89.size; simp; omega
                intro v2 w11 hown11 hg11 _
                have b8a := b89.trans ((below1 w9 (.cells #[.int .i64 rq.k, .bool rq.b, .int .i64 rq.n, .string rq.s, .string rq.t, .string rq.i, .slice rq.lo rq.ll rq.lc] 49)).mono b89.size)
                have b8b : Below w8.heap.size w8 w11 := b8a.grown hg11 b8a.size (fun k hk => ((unhide Hown9).lt k hk).1)
                have Hat11 := hide (fun ad (e : none = some ad) jj u hu => (b8b.cell (p := ad.add jj) ((unhide Hat ad e).2.2.1 jj)).trans ((unhide Hat ad e).2.2.2 jj u hu))
                have Hown11 := hide hown11
                clear a0 a1 a2 a3 a4 a5 a6 hown11 hg11 b8a
                have hv2 : ∃ ao c, v2 = .slice ao (k + 1) c := by
                  rcases (unhide Hown11).2 with ⟨_, h0⟩ | ⟨g, cap, cur, hv, _⟩
                  · omega
                  · exact ⟨_, _, hv⟩
                obtain ⟨ao2, cp2, rfl⟩ := hv2
                go_wp2_with (at_builtin; refine wpList_append_row _ rfl _ _ 47 rfl w8.heap.size 49 i0 _ 7 96 Try.underlying47 hi hz0 hz1 hz2 rfl (by decide) _ _ _ rfl (unhide Hown11) _ _ _ ((cellsOf S).drop (k * 7)) rfl ?pN ?qN ?rN ?sN ?tN ?uN ?vN ?_)
                all_goals try (first
                  | (have := unhide HZ; omega; done)
                  | (rw [List.length_drop, hclen]; omega; done)
                  | (intro ad e; cases e; done)
                  | exact fun u hu => cellsOf_one S u (List.mem_of_mem_drop hu)
                  | (unfold maxLen; omega; done)
                  | (omega; done)
                  | exact b8b.size)
                intro v3 w12 hown12 hg12
                have b8c : Below w8.heap.size w8 w12 := b8b.grown hg12 b8b.size (fun k hk => ((unhide Hown11).lt k hk).1)
                have Hown12 := hide hown12
                clear hown12 hg12
                go_wp2
                go_roundw
                case rel =>
                  have e : setOf lessP (l.take (j + 1)) = S.take k ++ q :: S.drop k := by rw [unhide HS, ins_cut S k (unhide Hcut) (unhide Hmem)]
                  have el : (setOf lessP (l.take (j + 1))).length = k + 1 + (S.length - k) := by
                    rw [e, List.length_append, List.length_cons, List.length_take, List.length_drop]
                    omega
                  have ec : cellsOf (setOf lessP (l.take (j + 1))) = (cellsOf S).take (k * 7) ++ (rq.cells ++ (cellsOf S).drop (k * 7)) := by
                    rw [e, cellsOf_append, cellsOf_cons, cellsOf_take S k (by omega), cellsOf_drop S k (by omega), unhide HRQ]
                  refine ⟨j + 1, by go_num, by omega, hbw.trans ((b68.trans (b8c.mono b68.size)).mono hbw.size), ?_⟩
                  rw [el, ec]
                  exact own_mono (unhide Hown12) (Nat.le_trans hbw.size b68.size)
                case measure =>
                  simp only [intOf]
                  omega
              | some ad =>
                have e1 := (own_at hown8 ad rfl).1
                obtain ⟨g, og, sp⟩ := ad
                simp only at e1
                subst e1
                have hcap := own_cap hown8
                have hnone := own_none hown8
                have hat := own_at hown8
                have c1 : (k : Int) ≤ (cap' : Int) := by omega
                have c2 : (k : Int) ≤ (S.length : Int) := by omega
                have c0 : (0 : Int) ≤ (k : Int) := by omega
                have Hnone := hide hnone
                have Hat := hide hat
                have Hcut := hide hcut
                have Hmem := hide hmem
                have bb8 := cell_lt7 Aq8.c0
                have hclen : (cellsOf S).length = S.length * 7 := hown8.1
                clear hnone hat hown8 hcut hmem
                have Acopy := Aq8
                obtain ⟨a0, a1, a2, a3, a4, a5, a6⟩ := Acopy
                go_wp2_with (at_builtin; refine wpList_append_row _ rfl _ _ 47 rfl w8.heap.size 49 i0 _ 7 96 Try.underlying47 hi hz0 hz1 hz2 rfl (by decide) _ _ _ rfl (World.ownsRow_nil _ _ _ _) _ _ _ ((cellsOf S).take (k * 7)) rfl ?nB ?lB ?wB ?oB ?mB ?yB ?bB ?_)
                all_goals try (first
                  | (intro h; cases h; done)
                  | (rw [List.length_take, hclen]; omega; done)
                  | (intro ad e jj u hu
                     refine (unhide Hat ad e).2.2.2 jj u ?_
                     rw [List.getElem?_take] at hu
                     split at hu
                     · exact hu
                     · cases hu)
                  | exact fun u hu => cellsOf_one S u (List.mem_of_mem_take hu)
                  | (unfold maxLen; omega; done)
                  | (omega; done)
                  | exact Nat.le_refl _)
                intro v1 w9 hown9 hg9
                have b89 : Below w8.heap.size w8 w9 := (Below.refl _ w8).grown hg9 (Nat.le_refl _) (fun k hk => by cases hk)
                have Aq9 := Aq8.below b89 bb8
                have Hown9 := hide hown9
                clear a0 a1 a2 a3 a4 a5 a6 hown9 hg9 Aq8
                obtain ⟨a0, a1, a2, a3, a4, a5, a6⟩ := Aq9
                go_wp2_with (at_builtin; refine wpList_append_own _ rfl _ _ 47 rfl w8.heap.size 49 i0 _ 7 96 Try.underlying47 hi hz0 hz1 hz2 rfl (by decide) _ _ _ rfl ((unhide Hown9).alloc _) ⟨w9.heap.size, 0, none⟩ 1 1 rq.cells rfl rfl ?dB ?eB ?fB ?gB ?hB ?_)
                case dB => exact news_row w9 rq _ rfl
                case eB => exact cells_one rq
                case fB => unfold maxLen; omega
                case gB => omega
                case hB => have := b89.size; simp; omega
                intro v2 w11 hown11 hg11 _
                have b8a := b89.trans ((below1 w9 (.cells #[.int .i64 rq.k, .bool rq.b, .int .i64 rq.n, .string rq.s, .string rq.t, .string rq.i, .slice rq.lo rq.ll rq.lc] 49)).mono b89.size)
                have b8b : Below w8.heap.size w8 w11 := b8a.grown hg11 b8a.size (fun k hk => ((unhide Hown9).lt k hk).1)
                have Hat11 := hide (fun ad (e : (some ⟨g, og, none⟩) = some ad) jj u hu => (b8b.cell (p := ad.add jj) ((unhide Hat ad e).2.2.1 jj)).trans ((unhide Hat ad e).2.2.2 jj u hu))
                have Hown11 := hide hown11
                clear a0 a1 a2 a3 a4 a5 a6 hown11 hg11 b8a
                have hv2 : ∃ ao c, v2 = .slice ao (k + 1) c := by
                  rcases (unhide Hown11).2 with ⟨_, h0⟩ | ⟨g, cap, cur, hv, _⟩
                  · omega
                  · exact ⟨_, _, hv⟩
                obtain ⟨ao2, cp2, rfl⟩ := hv2
                go_wp2_with (at_builtin; refine wpList_append_row _ rfl _ _ 47 rfl w8.heap.size 49 i0 _ 7 96 Try.underlying47 hi hz0 hz1 hz2 rfl (by decide) _ _ _ rfl (unhide Hown11) _ _ _ ((cellsOf S).drop (k * 7)) rfl ?pB ?qB ?rB ?sB ?tB ?uB ?vB ?_)
                all_goals try (first
                  | (intro h; cases h; done)
                  | (intros; rename_i hu; have hlt := (List.getElem?_eq_some_iff.1 hu).1; rw [List.length_drop, hclen] at hlt; omega; done)
                  | (intros; rename_i hu; have hlt := (List.getElem?_eq_some_iff.1 hu).1; rw [hclen] at hlt; omega; done)
                  | (rw [List.length_drop, hclen]; omega; done)
                  | (intro ad e jj u hu
                     cases e
                     rw [List.getElem?_drop] at hu
                     have hx := unhide Hat11 _ rfl _ u hu
                     rw [Addr.add_lit] at hx ⊢
                     rw [Nat.add_assoc]
                     exact hx)
                  | exact fun u hu => cellsOf_one S u (List.mem_of_mem_drop hu)
                  | (unfold maxLen; omega; done)
                  | (omega; done)
                  | exact b8b.size)
                intro v3 w12 hown12 hg12
                have b8c : Below w8.heap.size w8 w12 := b8b.grown hg12 b8b.size (fun k hk => ((unhide Hown11).lt k hk).1)
                have Hown12 := hide hown12
                clear hown12 hg12
                go_wp2
                go_roundw
                case rel =>
                  have e : setOf lessP (l.take (j + 1)) = S.take k ++ q :: S.drop k := by rw [unhide HS, ins_cut S k (unhide Hcut) (unhide Hmem)]
                  have el : (setOf lessP (l.take (j + 1))).length = k + 1 + (S.length - k) := by
                    rw [e, List.length_append, List.length_cons, List.length_take, List.length_drop]
                    omega
                  have ec : cellsOf (setOf lessP (l.take (j + 1))) = (cellsOf S).take (k * 7) ++ (rq.cells ++ (cellsOf S).drop (k * 7)) := by
                    rw [e, cellsOf_append, cellsOf_cons, cellsOf_take S k (by omega), cellsOf_drop S k (by omega), unhide HRQ]
                  refine ⟨j + 1, by go_num, by omega, hbw.trans ((b68.trans (b8c.mono b68.size)).mono hbw.size), ?_⟩
                  rw [el, ec]
                  exact own_mono (unhide Hown12) (Nat.le_trans hbw.size b68.size)
                case measure =>
                  simp only [intOf]
                  omega
                intro v3 w12 hown12 hg12
                have b8c : Below w8.heap.size w8 w12 := b8b.grown hg12 b8b.size (fun k hk => ((unhide Hown11).lt k hk).1)
                have Hown12 := hide hown12
                clear hown12 hg12
                go_wp2
                go_roundw
                case rel =>
                  have e : setOf lessP (l.take (j + 1)) = S.take k ++ q :: S.drop k := by rw [unhide HS, ins_cut S k (unhide Hcut) (unhide Hmem)]
                  have el : (setOf lessP (l.take (j + 1))).length = k + 1 + (S.length - k) := by
                    rw [e, List.length_append, List.length_cons, List.length_take, List.length_drop]
                    omega
                  have ec : cellsOf (setOf lessP (l.take (j + 1))) = (cellsOf S).take (k * 7) ++ (rq.cells ++ (cellsOf S).drop (k * 7)) := by
                    rw [e, cellsOf_append, cellsOf_cons, cellsOf_take S k (by omega), cellsOf_drop S k (by omega), unhide HRQ]
                  refine ⟨j + 1, by go_num, by omega, hbw.trans ((b68.trans (b8c.mono b68.size)).mono hbw.size), ?_⟩
                  rw [el, ec]
                  exact own_mono (unhide Hown12) (Nat.le_trans hbw.size b68.size)
                case measure =>
                  simp only [intOf]
                  omega
        · have i1 : ¬ (j : Int) < (l.length : Int) := by omega
          obtain rfl : j = l.length := by omega
          rw [List.take_length] at hown
          have hc : ∀ o, (wr.cell? ⟨w.heap.size, o, none⟩) = w2.cell? ⟨w.heap.size, o, none⟩ := fun o => (hbw.cell (p := ⟨w.heap.size, o, none⟩) z5).trans (unhide Hc o)
          have hf : ∀ o, (wr.frozen? ⟨w.heap.size, o, none⟩) = w2.frozen? ⟨w.heap.size, o, none⟩ := fun o => (hbw.frozen (p := ⟨w.heap.size, o, none⟩) z5).trans (unhide Hf o)
          rw [← unhide Hw2] at hc hf
          obtain ⟨ao', cap', rfl, _⟩ := rowP_own hown
          obtain ⟨n, hn⟩ : ∃ n, n = (setOf lessP l).length := ⟨_, rfl⟩
          have Hn := hide hn
          rw [← hn] at hown
          have Hown := hide hown
          rw [← hn]
          clear hown hn
          by_cases h8 : 8 < n
          · have h8i : (8 : Int) < (n : Int) := by omega
            go_wp2
            refine bodyPost_ret (v := .tuple #[.agg #[.int .i64 0, .bool false, .int .i64 0, .string ⟨#[]⟩, .string ⟨#[]⟩, .string ⟨#[]⟩, .slice none 0 0], .int .i64 4]) (by simp [results, Try.results47, go_sem, hc]) rfl ⟨set7_below (b05.trans (hbw.mono b05.size)) (Nat.le_refl _) _ _ _ _ _ _ _, .inr ⟨?_, rfl⟩⟩
            rw [← unhide Hn]
            exact h8
          · have h8i : ¬ (8 : Int) < (n : Int) := by omega
            go_wp2
            refine bodyPost_ret (v := .tuple #[.agg #[.int .i64 5, .bool false, .int .i64 0, .string ⟨#[]⟩, .string ⟨#[]⟩, .string ⟨#[]⟩, .slice ao' n cap'], .int .i64 0]) (by simp [results, Try.results47, go_sem, hc]) rfl ⟨set7_below (b05.trans (hbw.mono b05.size)) (Nat.le_refl _) _ _ _ _ _ _ _, .inl ?_⟩
            rw [← unhide Hn]
            exact ⟨by omega, ao', cap', rfl, own_mono (own_set7 (unhide Hown) z5 _ _ _ _ _ _ _) b05.size⟩
end Go.Proofs.Ythmmplmppchfmaa
