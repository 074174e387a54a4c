/-
  value.Set of plain values of one kind.
-/
import Derived.Test.YtgeibceijlaoaaaGreatVcL
namespace Go.Proofs.YtgeibceijlaoaaaGreat
open Go.RowKit Go.Sort

/-- A set as the program holds it. -/
def setR (ao : Option Addr) (n c : Nat) : R7 := ⟨5, false, 0, ba [], ba [], ba [], ao, n, c⟩

def SetPost (l : List PV) (w : World) (e : Ending) (w' : World) : Prop :=
  Below w.heap.size w w' ∧ (((setOf lessP l).length ≤ 8 ∧ ∃ ao c, e = .returned (.tuple #[(setR ao (setOf lessP l).length c).val, .int .i64 0]) ∧ w'.ownsRow w.heap.size 26 7 (.slice ao (setOf lessP l).length c) (setOf lessP l).length (cellsOf (setOf lessP l))) ∨ (8 < (setOf lessP l).length ∧ e = .returned (.tuple #[zero7.val, .int .i64 4])))

theorem own_below {w w' : World} {base : Nat} {e : TypeId} {k : Nat} {v : Value} {n : Nat} {xs : List Value} (h : w.ownsRow base e k v n xs) (hb : Below w.heap.size w w') : w'.ownsRow base e k v n xs :=
  h.kept (row := none) ⟨hb.os, hb.tape, hb.output, hb.size, fun j hj _ => hb.block j hj⟩ (by cases v.ownBlock <;> simp)

theorem own_mono {w : World} {base base' : Nat} {e : TypeId} {k : Nat} {v : Value} {n : Nat} {xs : List Value} (h : w.ownsRow base e k v n xs) (hb : base' ≤ base) : w.ownsRow base' e k v n xs :=
  ⟨h.1, h.2.imp id fun ⟨g, cap, cur, h1, h2, h3⟩ => ⟨g, cap, cur, h1, Nat.le_trans hb h2, h3⟩⟩

theorem own_set7 {w : World} {base b : Nat} {e : TypeId} {v : Value} {n : Nat} {xs : List Value} (h : w.ownsRow base e 7 v n xs) (hb : b < base) (v0 v1 v2 v3 v4 v5 v6 : Value) :
    (((((((w.setCell ⟨b, 0, none⟩ v0).setCell ⟨b, 1, none⟩ v1).setCell ⟨b, 2, none⟩ v2).setCell ⟨b, 3, none⟩ v3).setCell ⟨b, 4, none⟩ v4).setCell ⟨b, 5, none⟩ v5).setCell ⟨b, 6, none⟩ v6).ownsRow base e 7 v n xs :=
  ownsRow_setCell_below (ownsRow_setCell_below (ownsRow_setCell_below (ownsRow_setCell_below (ownsRow_setCell_below (ownsRow_setCell_below (ownsRow_setCell_below h (a := ⟨b, 0, none⟩) hb _) (a := ⟨b, 1, none⟩) hb _) (a := ⟨b, 2, none⟩) hb _) (a := ⟨b, 3, none⟩) hb _) (a := ⟨b, 4, none⟩) hb _) (a := ⟨b, 5, none⟩) hb _) (a := ⟨b, 6, none⟩) hb _

set_option maxHeartbeats 4000000 in
set_option maxRecDepth 100000 in
theorem set_plain (l : List PV) (ao : Option Addr) (ca : Nat) (w : World) (hl : l.length ≤ 1048576) (hr : RowV w ao (l.map ofP)) (hkind : ∀ p ∈ l, ∀ q ∈ l, p.kind = q.kind) :
    Calls Tryz.prog 25 #[.slice ao l.length ca] w (SetPost l w) := by
  have HK := hide hkind
  clear hkind
  go_enter Tryz.func25, Tryz.ntmps25
  go_wp2
  generalize hw2 : w.alloc _ = w2
  have b02 : Below w.heap.size w w2 := by rw [← hw2]; exact below1 _ _
  have z2 : w2.heap.size = w.heap.size + 1 := by rw [← hw2]; simp
  have Hw2 := hide hw2
  clear hw2
  have hr2 := hr.below b02
  clear hr
  go_loopw [13] (fun iv wr => ∃ i : Nat, iv = .int .i64 i ∧ i ≤ l.length ∧ Below w2.heap.size w2 wr) (fun iv _ => l.length - (intOf iv).toNat)
  case atStart => exact ⟨0, by go_num, Nat.zero_le _, Below.refl _ _⟩
  case round =>
    obtain ⟨j, rfl, hj, hbw⟩ := hrel
    by_cases hlt : j < l.length
    · have i1 : (j : Int) < (l.length : Int) := by omega
      have i0 : (0 : Int) < (l.length : Int) := by omega
      have h0 : 0 < l.length := by omega
      obtain ⟨b, off, rfl, A, hb⟩ := rowV_at hr2 hbw (j := j) (by rw [List.length_map]; exact hlt)
      obtain ⟨b', off', e', A0, _⟩ := rowV_at hr2 hbw (j := 0) (by rw [List.length_map]; exact h0)
      cases e'
      rw [Nat.zero_mul, Nat.add_zero] at A0
      rw [List.getElem_map] at A A0
      obtain ⟨r, er⟩ : ∃ r, r = ofP l[j] := ⟨_, rfl⟩
      obtain ⟨r0, er0⟩ : ∃ r0, r0 = ofP l[0] := ⟨_, rfl⟩
      rw [← er] at A
      rw [← er0] at A0
      have M := mayStandBy_any r r0
      unfold R7.val at M
      have hx : mayB r.k r0.k = true := by
        rw [er, er0, ofP_k, ofP_k, unhide HK l[j] (List.getElem_mem _) l[0] (List.getElem_mem _)]
        cases l[0] <;> rfl
      rw [hx] at M
      clear hx er er0
      obtain ⟨a0, a1, a2, a3, a4, a5, a6⟩ := A
      go_wp2_with fail
      have A3 := (at7_new wr r).up
      have b3 : Below w2.heap.size w2 (wr.alloc (.cells #[.int .i64 r.k, .bool r.b, .int .i64 r.n, .string r.s, .string r.t, .string r.i, .slice r.lo r.ll r.lc] 26)) := hbw.alloc hbw.size _
      have z0 := (A0.below (below1 wr (.cells #[.int .i64 r.k, .bool r.b, .int .i64 r.n, .string r.s, .string r.t, .string r.i, .slice r.lo r.ll r.lc] 26)) (by have := hbw.size; omega)).up
      clear a0 a1 a2 a3 a4 a5 a6 A0
      generalize wr.alloc _ = w3 at *
      obtain ⟨a0, a1, a2, a3, a4, a5, a6⟩ := A3
      obtain ⟨e0, e1, e2, e3, e4, e5, e6⟩ := z0
      have cS := fun d os => Calls.regrown_of (w := w3) (d := d) (os := os) (M (grow (redrawn w3 d) os))
      clear M
      refine wp_region_quiet_below (by kernel_rfl) (by kernel_rfl) ?_
      repeat (quiet_step (exact cS _ _))
      refine wpQuiet_nil ?_
      intro _ hw'
      obtain ⟨⟨dq, osq⟩, hw''⟩ := hw'
      subst hw''
      have b4 : Below w2.heap.size w2 (grow (redrawn w3 dq) osq) := b3.trans ((below_regrown w3 dq osq).mono b3.size)
      generalize grow (redrawn w3 dq) osq = w4 at *
      clear a0 a1 a2 a3 a4 a5 a6 e0 e1 e2 e3 e4 e5 e6 cS b3
      go_wp2
      go_roundw
      case rel => exact ⟨j + 1, by go_num, by omega, b4⟩
      case measure =>
        simp only [intOf]
        omega
    · have i1 : ¬ (j : Int) < (l.length : Int) := by omega
      go_wp2
      obtain rfl : j = l.length := by omega
      have hr3 := hr2.below hbw
      have hc : ∀ o, (wr.cell? ⟨w.heap.size, o, none⟩) = w2.cell? ⟨w.heap.size, o, none⟩ := fun o => hbw.cell (p := ⟨w.heap.size, o, none⟩) (by show w.heap.size < _; omega)
      have hf : ∀ o, (wr.frozen? ⟨w.heap.size, o, none⟩) = w2.frozen? ⟨w.heap.size, o, none⟩ := fun o => hbw.frozen (p := ⟨w.heap.size, o, none⟩) (by show w.heap.size < _; omega)
      have Hc := hide hc
      have Hf := hide hf
      have b05 : Below w.heap.size w wr := b02.trans (hbw.mono b02.size)
      have z5 : w.heap.size < wr.heap.size := by have := hbw.size; omega
      clear hc hf hr2 i1 hlt hj hbw
      generalize wr = w5 at *
      go_loopw [6, 27] (fun uv iv wr => ∃ i : Nat, iv = .int .i64 i ∧ i ≤ l.length ∧ Below w5.heap.size w5 wr ∧ wr.ownsRow w5.heap.size 26 7 uv (setOf lessP (l.take i)).length (cellsOf (setOf lessP (l.take i))) ∧ (setOf lessP (l.take i)).length ≤ 8) (fun _ iv _ => l.length - (intOf iv).toNat)
      case atStart => exact ⟨0, by go_num, Nat.zero_le _, Below.refl _ _, World.ownsRow_nil _ _ _ _, Nat.zero_le _⟩
      case round =>
        obtain ⟨j, rfl, hj, hbw, hown, hS8⟩ := hrel
        by_cases hlt : j < l.length
        · have i1 : (j : Int) < (l.length : Int) := by omega
          obtain ⟨b, off, rfl, A, hb⟩ := rowV_at hr3 hbw (j := j) (by rw [List.length_map]; exact hlt)
          rw [List.getElem_map] at A
          have HS1 := hide (setOf_snoc l j hlt)
          obtain ⟨S, hS⟩ : ∃ S, S = setOf lessP (l.take j) := ⟨_, rfl⟩
          have hSr : Rising lessP S := by rw [hS]; exact rising_setOf sto_lessP _
          have hSl := len_setOf l (j + 1)
          rw [← hS] at hown hS8
          rw [unhide HS1, ← hS] at hSl
          have HS := hide (show setOf lessP (l.take (j + 1)) = ins lessP l[j] S by rw [unhide HS1, hS])
          have HSl := hide hSl
          clear hSl HS1 hS
          obtain ⟨q, hq⟩ : ∃ q, q = l[j] := ⟨_, rfl⟩
          rw [← hq] at A HS HSl
          clear hq
          obtain ⟨T, f, x, C1, C2, C3, C4⟩ := content_value q
          have BS := fun (ao : Option Addr) (ca : Nat) (w : World) (h : S.length ≤ 1048576) (hr : RowP w ao S) => binSearch S q ao none ca 0 w h hr hSr
          rw [← ofP_val] at BS
          have HI : (ofP q).cells.length = 7 := rfl
          have HI1 := cells_one (ofP q)
          have HIc : (ofP q).cells.toArray = #[.int .i64 (ofP q).k, .bool (ofP q).b, .int .i64 (ofP q).n, .string (ofP q).s, .string (ofP q).t, .string (ofP q).i, .slice (ofP q).lo (ofP q).ll (ofP q).lc] := rfl
          obtain ⟨r, er⟩ : ∃ r, r = ofP q := ⟨_, rfl⟩
          have HIq := hide (show cellsOf [q] = r.cells by rw [er]; rfl)
          rw [← er] at A BS C1 C4 HI HI1 HIc
          clear er
          unfold R7.val at BS C1 C4
          obtain ⟨ao', cap', rfl, hrp⟩ := rowP_own hown
          obtain ⟨a0, a1, a2, a3, a4, a5, a6⟩ := A
          go_wp2_with fail
          have b3 : Below w5.heap.size w5 (wr.alloc (.cells #[.int .i64 r.k, .bool r.b, .int .i64 r.n, .string r.s, .string r.t, .string r.i, .slice r.lo r.ll r.lc] 26)) := hbw.alloc hbw.size _
          have A3 := at7_new wr r
          have hrp3 := hrp.below (below1 wr (.cells #[.int .i64 r.k, .bool r.b, .int .i64 r.n, .string r.s, .string r.t, .string r.i, .slice r.lo r.ll r.lc] 26))
          have hown3 := hown.alloc (.cells #[.int .i64 r.k, .bool r.b, .int .i64 r.n, .string r.s, .string r.t, .string r.i, .slice r.lo r.ll r.lc] 26)
          have z3 : (wr.alloc (.cells #[.int .i64 r.k, .bool r.b, .int .i64 r.n, .string r.s, .string r.t, .string r.i, .slice r.lo r.ll r.lc] 26)).heap.size = wr.heap.size + 1 := by simp
          clear a0 a1 a2 a3 a4 a5 a6 hrp hown
          generalize wr.alloc _ = w3 at *
          refine (BS ao' cap' w3 (by omega) hrp3).mono ?_
          rintro e w4 ⟨i, hcut, rfl, b34⟩
          have b4 : Below w5.heap.size w5 w4 := b3.trans (b34.mono b3.size)
          have A4 := A3.below b34 (by omega)
          have hown4 := own_below hown3 b34
          have z4 : wr.heap.size < w4.heap.size := by have := b34.size; omega
          have Hcut := hide hcut
          clear hrp3 hown3 A3 b3 BS b34 hcut
          obtain ⟨a0, a1, a2, a3, a4, a5, a6⟩ := A4
          by_cases hmem : q ∈ S
          · have hd : decide (q ∈ S) = true := decide_eq_true hmem
            rw [hd]
            have Hown := hide hown4
            clear hown4
            go_wp2
            go_roundw
            case rel =>
              have e : setOf lessP (l.take (j + 1)) = S := by rw [unhide HS, ins_mem S hSr hmem]
              refine ⟨j + 1, by go_num, by omega, b4, ?_, ?_⟩
              · rw [e]
                exact unhide Hown
              · rw [e]
                exact hS8
            case measure =>
              simp only [intOf]
              omega
          · have hd : decide (q ∈ S) = false := decide_eq_false hmem
            rw [hd]
            have hc : ∀ o, (w4.cell? ⟨w.heap.size, o, none⟩) = w2.cell? ⟨w.heap.size, o, none⟩ := fun o => (b4.cell (p := ⟨w.heap.size, o, none⟩) z5).trans (unhide Hc o)
            have hf : ∀ o, (w4.frozen? ⟨w.heap.size, o, none⟩) = w2.frozen? ⟨w.heap.size, o, none⟩ := fun o => (b4.frozen (p := ⟨w.heap.size, o, none⟩) z5).trans (unhide Hf o)
            rw [← unhide Hw2] at hc hf
            by_cases h8 : S.length = 8
            · have h8b : ((S.length : Int) == 8) = true := by simpa using (show (S.length : Int) = 8 by omega)
              have Hown := hide hown4
              clear hown4
              go_wp2
              refine bodyPost_ret (v := .tuple #[.agg #[.int .i64 0, .bool false, .int .i64 0, .string ⟨#[]⟩, .string ⟨#[]⟩, .string ⟨#[]⟩, .slice none 0 0], .int .i64 4]) (by simp [results, Tryz.results25, go_sem, hc]) rfl ⟨set7_below (b05.trans (b4.mono b05.size)) (Nat.le_refl _) _ _ _ _ _ _ _, .inr ⟨?_, rfl⟩⟩
              have := unhide HSl
              rw [len_ins_new (unhide Hcut) hmem] at this
              omega
            · have h8b : ((S.length : Int) == 8) = false := by simpa using (show ¬ (S.length : Int) = 8 by omega)
              clear hc hf
              have Hown := hide hown4
              clear hown4
              go_wp2_with fail
              refine (C1 _).mono ?_
              rintro e w6 ⟨rfl, b46⟩
              go_wp2_with fail
              refine (C4 _).mono ?_
              rintro e w7 ⟨rfl, b67⟩
              go_wp2_with fail
              have hown7 := own_below (own_below (unhide Hown) b46) b67
              have b7 : Below w5.heap.size w5 w7 := (b4.trans (b46.mono b4.size)).trans (b67.mono (Nat.le_trans b4.size b46.size))
              have hown8 := hown7.alloc (.cells #[.int .i64 r.k, .bool r.b, .int .i64 r.n, .string r.s, .string r.t, .string r.i, .slice r.lo r.ll r.lc] 26)
              have hnew : (w7.alloc (.cells #[.int .i64 r.k, .bool r.b, .int .i64 r.n, .string r.s, .string r.t, .string r.i, .slice r.lo r.ll r.lc] 26)).heap[w7.heap.size]? = some (.cells r.cells.toArray 26 (0, 0)) := heap_alloc_new w7 _
              have b8 : Below w5.heap.size w5 (w7.alloc (.cells #[.int .i64 r.k, .bool r.b, .int .i64 r.n, .string r.s, .string r.t, .string r.i, .slice r.lo r.ll r.lc] 26)) := b7.alloc b7.size _
              have hne : (Value.slice ao' S.length cap').ownBlock ≠ some w7.heap.size := fun h => by
                have := (hown7.lt _ h).2
                omega
              generalize w7.alloc _ = w8 at *
              refine (insert_one w5.heap.size _ S.length i (cellsOf S) w7.heap.size 1 r.cells w8 hown8 (by omega) (unhide Hcut).le b8.size rfl hne hnew HI1 (cellsOf_one S)).mono ?_
              rintro e w9 ⟨v', rfl, hown9, hg9⟩
              have b9 : Below w5.heap.size w5 w9 := b8.grown hg9 b8.size (fun k hk => (hown8.lt k hk).1)
              have Hown9 := hide hown9
              have HG := hide hg9
              clear hown9 hg9 hown8 hown7 hnew hne b8 b7 a0 a1 a2 a3 a4 a5 a6
              go_wp2
              go_roundw
              case rel =>
                have e : setOf lessP (l.take (j + 1)) = S.take i ++ q :: S.drop i := by rw [unhide HS, ins_cut S i (unhide Hcut) hmem]
                have hle := (unhide Hcut).le
                have el : (setOf lessP (l.take (j + 1))).length = S.length + 1 := by
                  rw [unhide HS]
                  exact len_ins_new (unhide Hcut) hmem
                refine ⟨j + 1, by go_num, by omega, b9, ?_, by omega⟩
                have e2 : cellsOf (setOf lessP (l.take (j + 1))) = (cellsOf S).take (i * 7) ++ r.cells ++ (cellsOf S).drop (i * 7) := by
                  rw [e, cellsOf_append, ← unhide HIq, cellsOf_take S i hle, cellsOf_drop S i hle, show q :: S.drop i = [q] ++ S.drop i from rfl, cellsOf_append, List.append_assoc]
                rw [el, e2]
                exact unhide Hown9
              case measure =>
                simp only [intOf]
                omega
        · have i1 : ¬ (j : Int) < (l.length : Int) := by omega
          obtain rfl : j = l.length := by omega
          rw [List.take_length] at hown hS8
          have hc : ∀ o, (wr.cell? ⟨w.heap.size, o, none⟩) = w2.cell? ⟨w.heap.size, o, none⟩ := fun o => (hbw.cell (p := ⟨w.heap.size, o, none⟩) z5).trans (unhide Hc o)
          have hf : ∀ o, (wr.frozen? ⟨w.heap.size, o, none⟩) = w2.frozen? ⟨w.heap.size, o, none⟩ := fun o => (hbw.frozen (p := ⟨w.heap.size, o, none⟩) z5).trans (unhide Hf o)
          rw [← unhide Hw2] at hc hf
          obtain ⟨ao', cap', rfl, _⟩ := rowP_own hown
          obtain ⟨n, hn⟩ : ∃ n, n = (setOf lessP l).length := ⟨_, rfl⟩
          have Hn := hide hn
          rw [← hn] at hown hS8
          have Hown := hide hown
          rw [← hn]
          clear hown hn
          go_wp2
          refine bodyPost_ret (v := .tuple #[.agg #[.int .i64 5, .bool false, .int .i64 0, .string ⟨#[]⟩, .string ⟨#[]⟩, .string ⟨#[]⟩, .slice ao' n cap'], .int .i64 0]) (by simp [results, Tryz.results25, go_sem, hc]) rfl ⟨set7_below (b05.trans (hbw.mono b05.size)) (Nat.le_refl _) _ _ _ _ _ _ _, .inl ?_⟩
          rw [← unhide Hn]
          exact ⟨hS8, ao', cap', rfl, own_mono (own_set7 (unhide Hown) z5 _ _ _ _ _ _ _) b05.size⟩
end Go.Proofs.YtgeibceijlaoaaaGreat
