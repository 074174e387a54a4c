/-
  chancellaw5.Tree of nodes with a name, a text, a row.
  chancellaw5.Tree of a set; of any raw.
-/
import Derived.Test.YtacljmckohbjaaaGreatRwMU
namespace Go.Proofs.YtacljmckohbjaaaGreat
open Go.RowKit Go.Sort

theorem RowInv.move {w w' w'' : World} {raw ans : Obj} {k : Int} {S : ByteArray} (h : RowInv w w' raw ans k S (.slice none 0 0) (.slice none 0 0) [] []) (hb : Below w'.heap.size w' w'') : RowInv w w'' raw ans k S (.slice none 0 0) (.slice none 0 0) [] [] :=
  ⟨h.below.trans (hb.mono h.below.size), kept_of_below hb h.pr, kept_of_below hb h.pq, kept_of_below hb h.pe, World.ownsRow_nil _ _ _ _, .nil⟩
theorem RowInv.setS {w w' : World} {raw ans : Obj} {k : Int} {S : ByteArray} (h : RowInv w w' raw ans k S (.slice none 0 0) (.slice none 0 0) [] []) (S' : ByteArray) : RowInv w (w'.setCell ⟨w.heap.size + 2, 3, none⟩ (.string S')) raw ans k S' (.slice none 0 0) (.slice none 0 0) [] [] := by
  have hold : ∀ b, b ≠ w.heap.size + 2 → (w'.setCell ⟨w.heap.size + 2, 3, none⟩ (.string S')).heap[b]? = w'.heap[b]? := fun b hb => Below.heap_setCell _ _ _ _ hb
  refine ⟨h.below.setCell (p := ⟨w.heap.size + 2, 3, none⟩) (by show w.heap.size ≤ w.heap.size + 2; omega) _, (hold _ (by omega)).trans h.pr, (hold _ (by omega)).trans h.pq, ?_, World.ownsRow_nil _ _ _ _, .nil⟩
  have := h.pe
  unfold exObj at this ⊢
  simp [World.setCell, Array.getElem?_modify, this]

set_option maxHeartbeats 4000000 in
set_option maxRecDepth 1000000 in
theorem tree_k7 (d : Nat) (op n : Int) (s : List Int) (l : List Rw) (r : R4) (w : World) (hx : IsR w r (.mk op n s l)) (hd : d ≤ 1000) (hd1 : 1 ≤ d) (hl0 : 0 < l.length)
    (ih : ∀ (x : Rw) (r : R4) (w : World), IsR w r x → Calls Tryz.prog 8 #[r.val, .int .i64 d] w fun e w' => ∃ q : R7, e = .returned q.val ∧ Below w.heap.size w w' ∧ IsE w' (fun b => w.heap.size ≤ b) q (treeX d x)) (hk2 : 6 + op % 20 = 7) :
    Calls Tryz.prog 8 #[r.val, .int .i64 (d + 1 : Nat)] w fun e w' => ∃ q : R7, e = .returned q.val ∧ Below w.heap.size w w' ∧ IsE w' (fun b => w.heap.size ≤ b) q (.mk 7 false 0 (nmI n) [] [] (kidsX d l 1)) := by
  unfold IsR at hx
  obtain ⟨rfl, rfl, hsl, hs1, hs2, hz, hll, hl1, hks⟩ := hx
  have b2 := below2 w (.cells #[.int .i64 r.op, .int .i64 r.n, .slice r.so r.sl r.sc, .slice r.lo r.ll r.lc] 26) (.cells #[.int .i64 0, .bool false, .int .i64 0, .string ⟨#[]⟩, .string ⟨#[]⟩, .string ⟨#[]⟩, .slice none 0 0] 42)
  have Z1 : ((w.alloc (.cells #[.int .i64 r.op, .int .i64 r.n, .slice r.so r.sl r.sc, .slice r.lo r.ll r.lc] 26)).alloc (.cells #[.int .i64 0, .bool false, .int .i64 0, .string ⟨#[]⟩, .string ⟨#[]⟩, .string ⟨#[]⟩, .slice none 0 0] 42)).heap[w.heap.size]? = some (.cells #[.int .i64 r.op, .int .i64 r.n, .slice r.so r.sl r.sc, .slice r.lo r.ll r.lc] 26 (0, 0)) := kept_of_below (newS _ _) (alloc_heap _ _)
  have z2 : ((w.alloc (.cells #[.int .i64 r.op, .int .i64 r.n, .slice r.so r.sl r.sc, .slice r.lo r.ll r.lc] 26)).alloc (.cells #[.int .i64 0, .bool false, .int .i64 0, .string ⟨#[]⟩, .string ⟨#[]⟩, .string ⟨#[]⟩, .slice none 0 0] 42)).heap.size = w.heap.size + 2 := by simp
  have Z2 : ((w.alloc (.cells #[.int .i64 r.op, .int .i64 r.n, .slice r.so r.sl r.sc, .slice r.lo r.ll r.lc] 26)).alloc (.cells #[.int .i64 0, .bool false, .int .i64 0, .string ⟨#[]⟩, .string ⟨#[]⟩, .string ⟨#[]⟩, .slice none 0 0] 42)).heap[w.heap.size + 1]? = some (.cells #[.int .i64 0, .bool false, .int .i64 0, .string ⟨#[]⟩, .string ⟨#[]⟩, .string ⟨#[]⟩, .slice none 0 0] 42 (0, 0)) := by
    have h := alloc_heap (w.alloc (.cells #[.int .i64 r.op, .int .i64 r.n, .slice r.so r.sl r.sc, .slice r.lo r.ll r.lc] 26)) (.cells #[.int .i64 0, .bool false, .int .i64 0, .string ⟨#[]⟩, .string ⟨#[]⟩, .string ⟨#[]⟩, .slice none 0 0] 42)
    rw [show (w.alloc (.cells #[.int .i64 r.op, .int .i64 r.n, .slice r.so r.sl r.sc, .slice r.lo r.ll r.lc] 26)).heap.size = w.heap.size + 1 by simp] at h
    exact h
  have W20 := fun w' => within5_any r.op 20 (by decide) (by decide) w'
  have hk0 : r.op % 20 = 1 := by omega
  rw [hk0] at W20
  rw [hll] at b2 Z1 Z2 z2
  unfold R4.val at ih ⊢
  rw [hll]
  have HIH := hide ih
  have HKS := hide hks
  have HZ2 := hide z2
  clear hz hks hll hs1 hs2 hk0 hk2 ih z2 hsl
  have i1 : ¬ ((d + 1 : Nat) : Int) ≤ 1 := by omega
  have i2 : ((l.length : Int) == 0) = false := beq_false_of_ne (by omega)
  generalize hln : l.length = ln at *
  have HLN := hide hln
  clear hln
  go_enter Tryz.func8, Tryz.ntmps8
  go_upto_region 1 with fail
  generalize (w.alloc _).alloc _ = w2 at *
  obtain ⟨x0, x1, x2, x3, _⟩ := blk4 Z1
  go_wp2_with fail
  refine (W20 _).mono ?_
  rintro e w3 ⟨rfl, rfl⟩
  clear W20
  go_upto_region 4 with fail
  rw [unhide HZ2]
  have n4 := newS w3 (.cells #[.int .i64 7, .bool false, .int .i64 0, .string ⟨#[]⟩, .string ⟨#[]⟩, .string ⟨#[]⟩, .slice none 0 0] 42)
  have Z4 : (w3.alloc (.cells #[.int .i64 7, .bool false, .int .i64 0, .string ⟨#[]⟩, .string ⟨#[]⟩, .string ⟨#[]⟩, .slice none 0 0] 42)).heap[w.heap.size + 2]? = some (.cells #[.int .i64 7, .bool false, .int .i64 0, .string ⟨#[]⟩, .string ⟨#[]⟩, .string ⟨#[]⟩, .slice none 0 0] 42 (0, 0)) := by
    have h := alloc_heap w3 (.cells #[.int .i64 7, .bool false, .int .i64 0, .string ⟨#[]⟩, .string ⟨#[]⟩, .string ⟨#[]⟩, .slice none 0 0] 42)
    rw [unhide HZ2] at h
    exact h
  have INV : RowInv w (w3.alloc (.cells #[.int .i64 7, .bool false, .int .i64 0, .string ⟨#[]⟩, .string ⟨#[]⟩, .string ⟨#[]⟩, .slice none 0 0] 42)) (.cells #[.int .i64 r.op, .int .i64 r.n, .slice r.so r.sl r.sc, .slice r.lo ln r.lc] 26 (0, 0)) (.cells #[.int .i64 0, .bool false, .int .i64 0, .string ⟨#[]⟩, .string ⟨#[]⟩, .string ⟨#[]⟩, .slice none 0 0] 42 (0, 0)) 7 ⟨#[]⟩ (.slice none 0 0) (.slice none 0 0) [] [] :=
    ⟨b2.trans (n4.mono b2.size), kept_of_below n4 Z1, kept_of_below n4 Z2, Z4, World.ownsRow_nil _ _ _ _, .nil⟩
  generalize w3.alloc _ = w4 at *
  clear x0 x1 x2 x3 Z1 Z2 n4 b2
  obtain ⟨y0, y1, y2, y3, y4, y5, y6, _⟩ := blk7 Z4
  obtain ⟨x0, x1, x2, x3, _⟩ := blk4 INV.pr
  go_wp2_with fail
  refine (name5_any r.n _).mono ?_
  rintro e w5 ⟨rfl, b5⟩
  clear y0 y1 y2 y3 y4 y5 y6 Z4 x0 x1 x2 x3
  have INV5 := INV.move b5
  have INV6 := INV5.setS (ba (nmI r.n))
  have hpe := INV5.pe
  unfold exObj at hpe
  obtain ⟨y0, y1, y2, y3, y4, y5, y6, yf⟩ := blk7 hpe
  clear INV INV5 hpe
  have INV := INV6
  clear INV6
  go_wp2_with fail
  clear y0 y1 y2 y3 y4 y5 y6 yf
  go_loopw [7] (fun iv wr => ∃ (j : Nat) (lv : Value) (rs : List R7), j ≤ 1 ∧ iv = .int .i64 j ∧ rs.length = j ∧ RowInv w wr (.cells #[.int .i64 r.op, .int .i64 r.n, .slice r.so r.sl r.sc, .slice r.lo ln r.lc] 26 (0, 0)) (.cells #[.int .i64 0, .bool false, .int .i64 0, .string ⟨#[]⟩, .string ⟨#[]⟩, .string ⟨#[]⟩, .slice none 0 0] 42 (0, 0)) 7 (ba (nmI r.n)) lv lv rs (kidsX d l j)) (fun iv _ => 1 - (intOf iv).toNat)
  case atStart => exact ⟨0, .slice none 0 0, [], Nat.zero_le _, rfl, rfl, INV⟩
  case round =>
    obtain ⟨j, lv, rs, hj, rfl, hrs, H⟩ := hrel
    by_cases hlt : j < 1
    · have i4 : (j : Int) < 1 := by omega
      have hml : j % l.length < l.length := Nat.mod_lt _ (by rw [unhide HLN]; exact hl0)
      obtain ⟨rk, g, off, hlo, hg, h7, hxk⟩ := IsRs.get l 0 (j % l.length) hml (unhide HKS)
      rw [Nat.zero_add] at h7
      have HKX := hide (kidsX_succ d l j hml)
      have CK := fun w' (hb : Below w.heap.size w w') => unhide HIH l[j % l.length] rk w' (IsR.below hb rk _ hxk)
      generalize treeX d l[j % l.length] = X at *
      obtain ⟨m, hm⟩ : ∃ m : Nat, m = j % l.length := ⟨_, rfl⟩
      have hmln : m < ln := by rw [hm, ← unhide HLN]; exact hml
      have hmod : (j : Int).tmod (ln : Int) = (m : Int) := by rw [hm, unhide HLN]; rfl
      rw [← hm] at h7
      generalize kidsX d l j = xs at *
      obtain ⟨lao, lcap, hlv⟩ := ownX_slice H.own
      have hi0 := info_parts infoExpr
      obtain ⟨i0, hi, hz0, hz1, hz2⟩ := hi0
      have HH := hide H
      have HLO := hide hlo
      have HLV := hide hlv
      clear hlo hlv
      have hbase := H.base
      have hrl : rs.length ≤ 8 := by omega
      have HRS := hide hrs
      clear hxk hml hm hrs H
      go_upto_region 21 with fail
      refine wp_specsB 17 (trSp w.heap.size (w.heap.size + 2) j d m g off lv (.slice r.lo ln r.lc) rk ln) (TRw w wr (.cells #[.int .i64 r.op, .int .i64 r.n, .slice r.so r.sl r.sc, .slice r.lo ln r.lc] 26 (0, 0)) (.cells #[.int .i64 0, .bool false, .int .i64 0, .string ⟨#[]⟩, .string ⟨#[]⟩, .string ⟨#[]⟩, .slice none 0 0] 42 (0, 0)) 7 (ba (nmI r.n)) lv rs xs X) (by kernel_rfl) (by kernel_rfl) (by kernel_rfl) (TRw.start _) ?_ ?_ ?_
      · intro i o hi' ho L a' w' hL hw hR hdep hslot hsz K hK
        obtain ⟨hbw, hpr⟩ := hR.below (unhide HH)
        match i, hi' with
        | 0, _ =>
          cases ho
          have e : a'.tmps.getD 5 undef = .pointer (some ⟨w.heap.size + 2, 0, none⟩) := hslot 5 (by decide)
          unfold Oper.wp
          go_simp
          exact hK _ _ rfl (hR.other 0 54 _ (by decide) (by decide)) (fun _ _ h => h)
        | 1, _ =>
          cases ho
          have e : a'.tmps.getD 54 undef = .pointer (some ⟨w.heap.size + 2, 6, none⟩) := hdep 0 (by decide) (by kernel_rfl)
          have hp := hR.pre (hR.n15 (.inr (.inr hL)))
          have hpe := kept_of_below hp (unhide HH).pe
          unfold exObj at hpe
          obtain ⟨_, _, _, _, _, _, c6', _⟩ := blk7 hpe
          unfold Oper.wp
          go_simp
          exact hK _ _ rfl (hR.other 1 55 _ (by decide) (by decide)) (fun _ _ h => h)
        | 2, _ =>
          cases ho
          have e : a'.tmps.getD 2 undef = .pointer (some ⟨w.heap.size, 0, none⟩) := hslot 2 (by decide)
          unfold Oper.wp
          go_simp
          exact hK _ _ rfl (hR.other 2 56 _ (by decide) (by decide)) (fun _ _ h => h)
        | 3, _ =>
          cases ho
          have e : a'.tmps.getD 56 undef = .pointer (some ⟨w.heap.size, 3, none⟩) := hdep 2 (by decide) (by kernel_rfl)
          obtain ⟨_, _, _, c3', _⟩ := blk4 hpr
          unfold Oper.wp
          go_simp
          exact hK _ _ rfl (hR.other 3 57 _ (by decide) (by decide)) (fun _ _ h => h)
        | 4, _ =>
          cases ho
          have e : a'.tmps.getD 7 undef = .int .i64 j := hslot 7 (by decide)
          unfold Oper.wp
          go_simp
          exact hK _ _ rfl (hR.other 4 58 _ (by decide) (by decide)) (fun _ _ h => h)
        | 5, _ =>
          cases ho
          have e : a'.tmps.getD 2 undef = .pointer (some ⟨w.heap.size, 0, none⟩) := hslot 2 (by decide)
          unfold Oper.wp
          go_simp
          exact hK _ _ rfl (hR.other 5 59 _ (by decide) (by decide)) (fun _ _ h => h)
        | 6, _ =>
          cases ho
          have e : a'.tmps.getD 59 undef = .pointer (some ⟨w.heap.size, 3, none⟩) := hdep 5 (by decide) (by kernel_rfl)
          obtain ⟨_, _, _, c3', _⟩ := blk4 hpr
          unfold Oper.wp
          go_simp
          exact hK _ _ rfl (hR.other 6 60 _ (by decide) (by decide)) (fun _ _ h => h)
        | 7, _ =>
          cases ho
          have e : a'.tmps.getD 60 undef = .slice r.lo ln r.lc := hdep 6 (by decide) (by kernel_rfl)
          unfold Oper.wp
          go_simp
          exact hK _ _ rfl (hR.other 7 61 _ (by decide) (by decide)) (fun _ _ h => h)
        | 8, _ =>
          cases ho
          have e1 : a'.tmps.getD 58 undef = .int .i64 j := hdep 4 (by decide) (by kernel_rfl)
          have e2 : a'.tmps.getD 61 undef = .int .i64 ln := hdep 7 (by decide) (by kernel_rfl)
          have n0 : ¬ ln = 0 := by omega
          unfold Oper.wp
          go_simp
          exact hK _ _ rfl (hR.other 8 62 _ (by decide) (by decide)) (fun _ _ h => h)
        | 9, _ =>
          cases ho
          have e1 : a'.tmps.getD 57 undef = .slice r.lo ln r.lc := hdep 3 (by decide) (by kernel_rfl)
          have e2 : a'.tmps.getD 62 undef = .int .i64 m := hdep 8 (by decide) (by kernel_rfl)
          rw [unhide HLO] at e1
          have i5 : (m : Int) < (ln : Int) := by omega
          unfold Oper.wp
          go_simp
          exact hK _ _ rfl (hR.other 9 63 _ (by decide) (by decide)) (fun _ _ h => h)
        | 10, _ =>
          cases ho
          have e : a'.tmps.getD 63 undef = .pointer (some ⟨g, off + m * 4, none⟩) := hdep 9 (by decide) (by kernel_rfl)
          obtain ⟨y0, y1, y2, y3⟩ := h7.below hbw hg
          unfold Oper.wp
          go_simp
          exact hK _ _ rfl (hR.other 10 64 _ (by decide) (by decide)) (fun _ _ h => h)
        | 11, _ =>
          cases ho
          have e : a'.tmps.getD 1 undef = .int .i64 ((d : Int) + 1) := hslot 1 (by decide)
          unfold Oper.wp
          go_simp
          exact hK _ _ rfl (hR.other 11 65 _ (by decide) (by decide)) (fun _ _ h => h)
        | 12, _ =>
          cases ho
          have e : a'.tmps.getD 65 undef = .int .i64 ((d : Int) + 1) := hdep 11 (by decide) (by kernel_rfl)
          unfold Oper.wp
          go_simp
          exact hK _ _ (by unfold trSp; simp only [Value.int.injEq, true_and, IntKind.wrap_i64]; omega) (hR.other 12 66 _ (by decide) (by decide)) (fun _ _ h => h)
        | 13, _ =>
          cases ho
          have e1 : a'.tmps.getD 64 undef = rk.val := hdep 10 (by decide) (by kernel_rfl)
          have e2 : a'.tmps.getD 66 undef = .int .i64 d := hdep 12 (by decide) (by kernel_rfl)
          have C := CK w' hbw
          unfold R4.val at e1
          clear CK
          unfold Oper.wp
          go_simp
          refine C.mono ?_
          rintro e w3 ⟨q, rfl, b3, hq⟩
          exact hK _ _ trivial (hR.call hL (by rw [hsz]; exact Nat.le_of_ble_eq_true (by kernel_rfl)) b3 hq) trSp_up
        | 14, _ =>
          cases ho
          have h13 : L 13 = true := hw 13 (by kernel_rfl)
          obtain ⟨q, e1, hq⟩ := hR.k13 h13 (hR.n15 (.inr (.inl hL)))
          have B14 := hR.build hL h13 (by rw [hsz]; exact Nat.le_of_ble_eq_true (by kernel_rfl)) e1 hq
          unfold R7.val at e1
          have e1' : a'.tmps[67]?.getD undef = .agg #[.int .i64 q.k, .bool q.b, .int .i64 q.n, .string q.s, .string q.t, .string q.i, .slice q.lo q.ll q.lc] := by simpa using e1
          have HB := hide B14
          clear B14 hq hsz
          unfold Oper.wp
          go_simp
          exact hK _ _ trivial (unhide HB) trSp_up
        | 15, _ =>
          cases ho
          have h13 : L 13 = true := hw 13 (by kernel_rfl)
          have h14 : L 14 = true := hw 14 (by kernel_rfl)
          have h1 : L 1 = true := hw 1 (by kernel_rfl)
          obtain ⟨q, blk, e1, hblk, hc, hq⟩ := hR.k14 h14 hL
          have e2 : a'.tmps.getD 55 undef = lv := hdep 1 (by decide) (by kernel_rfl)
          have hp := hR.pre hL
          have hcell : ∀ jj u, q.cells[jj]? = some u → w'.cell? ((⟨blk, 0, none⟩ : Addr).add jj) = some u := by
            intro jj u hu
            rw [Addr.add_lit, Nat.zero_add, Lib.cell_of_heap hc]
            simpa [R7.cells] using hu
          obtain ⟨v', w'', hr, hown', hgr, _, hat⟩ := run_append_own_at (P := Tryz.prog) w' (w.heap.size + 3) 40 40 42 i0 _ 7 96 Tryz.underlying40 hi hz0 hz1 hz2 rfl (by decide) lv rs.length (cellsE rs) (owns_below hp (unhide HH).own) ⟨blk, 0, none⟩ 1 1 q.cells rfl hcell (cellE_one q) (by unfold maxLen; omega) (by omega) (by have := hp.size; omega)
          have hs : a'.eval (.tmp 55) = lv := e2
          have hx : a'.eval (.tmp 68) = .slice (some ⟨blk, 0, none⟩) 1 1 := e1
          unfold Oper.wp execOp
          simp only [resolve, invoke, builtin, Sem.run_bind, Sem.run_pure, Result.andThen_ok, List.map_toArray, List.map_cons, List.map_nil, hs, hx, hr]
          exact hK _ _ trivial (hR.app (unhide HH) hL h13 h14 h1 (by rw [hsz]; exact Nat.le_of_ble_eq_true (by kernel_rfl)) hq hown' hgr hat) trSp_up
        | 16, _ =>
          cases ho
          have e : a'.tmps.getD 5 undef = .pointer (some ⟨w.heap.size + 2, 0, none⟩) := hslot 5 (by decide)
          unfold Oper.wp
          go_simp
          exact hK _ _ rfl (hR.other 16 70 _ (by decide) (by decide)) (fun _ _ h => h)
        | i + 17, h => exact absurd h (by omega)
      · intro i o hi' ho L a' w' hL hw hR hdep K hK
        have : i = 17 := by
          have h := (List.getElem?_eq_some_iff.1 ho).1
          simp only [List.length_cons, List.length_nil] at h
          omega
        subst this
        cases ho
        have h15 : L 15 = true := hw 15 (by kernel_rfl)
        obtain ⟨v', q, e1, hi2⟩ := hR.k15 h15 hL
        have e2 : a'.tmps.getD 70 undef = .pointer (some ⟨w.heap.size + 2, 6, none⟩) := hdep 16 (by decide) (by kernel_rfl)
        have hST := hide (hR.store h15 hL e1)
        have hpe := hi2.pe
        unfold exObj at hpe
        obtain ⟨_, _, _, _, _, _, c6', cf⟩ := blk7 hpe
        obtain ⟨ao', cap', hv0⟩ := ownX_slice hi2.own
        have hv' : v' = .slice ao' (rs.length + 1) cap' := by rw [hv0, List.length_append]; rfl
        clear hv0
        subst hv'
        unfold Oper.wp
        go_simp
        exact hK _ (unhide hST) trSp_up undef
      · intro v L w5 hall hR hsp
        obtain ⟨v', q, hinv⟩ := hR.k17 (hall 17 (by decide))
        have HV := hide hinv
        have e0 : v 0 = _ := hsp 0 (by decide)
        have e1 : v 1 = _ := hsp 1 (by decide)
        have e2 : v 2 = _ := hsp 2 (by decide)
        have e3 : v 3 = _ := hsp 3 (by decide)
        have e4 : v 4 = _ := hsp 4 (by decide)
        have e5 : v 5 = _ := hsp 5 (by decide)
        have e6 : v 6 = _ := hsp 6 (by decide)
        have e7 : v 7 = _ := hsp 7 (by decide)
        have e8 : v 8 = _ := hsp 8 (by decide)
        have e9 : v 9 = _ := hsp 9 (by decide)
        have e10 : v 10 = _ := hsp 10 (by decide)
        have e11 : v 11 = _ := hsp 11 (by decide)
        have e12 : v 12 = _ := hsp 12 (by decide)
        have e16 : v 16 = _ := hsp 16 (by decide)
        clear hR hall hsp hinv CK
        simp only [putAll, dstOf, List.getElem?_cons_zero, List.getElem?_cons_succ, Option.bind_some, e0, e1, e2, e3, e4, e5, e6, e7, e8, e9, e10, e11, e12, e16]
        clear e0 e1 e2 e3 e4 e5 e6 e7 e8 e9 e10 e11 e12 e16
        simp only [Act.put, List.setIfInBounds_toArray, List.set_cons_succ, List.set_cons_zero]
        generalize v 13 = v13
        generalize v 14 = v14
        generalize v 15 = v15
        go_wp2
        go_roundw
        case rel => exact ⟨j + 1, v', rs ++ [q], hlt, by go_num, by rw [List.length_append, unhide HRS]; rfl, by rw [unhide HKX]; exact unhide HV⟩
        case measure =>
          simp only [intOf]
          omega
    · obtain rfl : j = 1 := by omega
      have hpe := H.pe
      have hpq := H.pq
      unfold exObj at hpe
      obtain ⟨y0, y1, y2, y3, y4, y5, y6, _⟩ := blk7 hpe
      obtain ⟨z0, z1, z2, z3, z4, z5, z6, zf⟩ := blk7 hpq
      obtain ⟨g, cap, hlv, _⟩ := nodeEnd (S := (nmI r.n)) H (by omega) undef undef undef undef undef undef undef
      have HE := hide (fun v0 v1 v2 v3 v4 v5 v6 => nodeEnd (S := (nmI r.n)) H (by omega) v0 v1 v2 v3 v4 v5 v6)
      subst hlv
      rw [hrs] at y6
      have hbl := H.below
      clear hpe hpq H
      go_wp2
      exact bodyPost_ret (v := R7.val ⟨7, false, 0, (ba (nmI r.n)), ⟨#[]⟩, ⟨#[]⟩, some ⟨g, 0, none⟩, 1, cap⟩) (by simp [results, Tryz.results8, go_sem, z0, z1, z2, z3, z4, z5, z6, R7.val]) rfl ⟨_, rfl, set7S_below hbl (Nat.le_succ _) _ _ _ _ _ _ _, by
        obtain ⟨g', cap', e, hI⟩ := unhide HE _ _ _ _ _ _ _
        rw [hrs] at e hI
        cases e
        exact hI⟩

set_option maxHeartbeats 4000000 in
set_option maxRecDepth 1000000 in
theorem tree_k8 (d : Nat) (op n : Int) (s : List Int) (l : List Rw) (r : R4) (w : World) (hx : IsR w r (.mk op n s l)) (hd : d ≤ 1000) (hd1 : 1 ≤ d) (hl0 : 0 < l.length)
    (ih : ∀ (x : Rw) (r : R4) (w : World), IsR w r x → Calls Tryz.prog 8 #[r.val, .int .i64 d] w fun e w' => ∃ q : R7, e = .returned q.val ∧ Below w.heap.size w w' ∧ IsE w' (fun b => w.heap.size ≤ b) q (treeX d x)) (hk2 : 6 + op % 20 = 8) :
    Calls Tryz.prog 8 #[r.val, .int .i64 (d + 1 : Nat)] w fun e w' => ∃ q : R7, e = .returned q.val ∧ Below w.heap.size w w' ∧ IsE w' (fun b => w.heap.size ≤ b) q (.mk 8 false 0 (nmI n) [] [] (kidsX d l 1)) := by
  unfold IsR at hx
  obtain ⟨rfl, rfl, hsl, hs1, hs2, hz, hll, hl1, hks⟩ := hx
  have b2 := below2 w (.cells #[.int .i64 r.op, .int .i64 r.n, .slice r.so r.sl r.sc, .slice r.lo r.ll r.lc] 26) (.cells #[.int .i64 0, .bool false, .int .i64 0, .string ⟨#[]⟩, .string ⟨#[]⟩, .string ⟨#[]⟩, .slice none 0 0] 42)
  have Z1 : ((w.alloc (.cells #[.int .i64 r.op, .int .i64 r.n, .slice r.so r.sl r.sc, .slice r.lo r.ll r.lc] 26)).alloc (.cells #[.int .i64 0, .bool false, .int .i64 0, .string ⟨#[]⟩, .string ⟨#[]⟩, .string ⟨#[]⟩, .slice none 0 0] 42)).heap[w.heap.size]? = some (.cells #[.int .i64 r.op, .int .i64 r.n, .slice r.so r.sl r.sc, .slice r.lo r.ll r.lc] 26 (0, 0)) := kept_of_below (newS _ _) (alloc_heap _ _)
  have z2 : ((w.alloc (.cells #[.int .i64 r.op, .int .i64 r.n, .slice r.so r.sl r.sc, .slice r.lo r.ll r.lc] 26)).alloc (.cells #[.int .i64 0, .bool false, .int .i64 0, .string ⟨#[]⟩, .string ⟨#[]⟩, .string ⟨#[]⟩, .slice none 0 0] 42)).heap.size = w.heap.size + 2 := by simp
  have Z2 : ((w.alloc (.cells #[.int .i64 r.op, .int .i64 r.n, .slice r.so r.sl r.sc, .slice r.lo r.ll r.lc] 26)).alloc (.cells #[.int .i64 0, .bool false, .int .i64 0, .string ⟨#[]⟩, .string ⟨#[]⟩, .string ⟨#[]⟩, .slice none 0 0] 42)).heap[w.heap.size + 1]? = some (.cells #[.int .i64 0, .bool false, .int .i64 0, .string ⟨#[]⟩, .string ⟨#[]⟩, .string ⟨#[]⟩, .slice none 0 0] 42 (0, 0)) := by
    have h := alloc_heap (w.alloc (.cells #[.int .i64 r.op, .int .i64 r.n, .slice r.so r.sl r.sc, .slice r.lo r.ll r.lc] 26)) (.cells #[.int .i64 0, .bool false, .int .i64 0, .string ⟨#[]⟩, .string ⟨#[]⟩, .string ⟨#[]⟩, .slice none 0 0] 42)
    rw [show (w.alloc (.cells #[.int .i64 r.op, .int .i64 r.n, .slice r.so r.sl r.sc, .slice r.lo r.ll r.lc] 26)).heap.size = w.heap.size + 1 by simp] at h
    exact h
  have W20 := fun w' => within5_any r.op 20 (by decide) (by decide) w'
  have hk0 : r.op % 20 = 2 := by omega
  rw [hk0] at W20
  rw [hll] at b2 Z1 Z2 z2
  unfold R4.val at ih ⊢
  rw [hll]
  have HIH := hide ih
  have HKS := hide hks
  have HZ2 := hide z2
  clear hz hks hll hs1 hs2 hk0 hk2 ih z2 hsl
  have i1 : ¬ ((d + 1 : Nat) : Int) ≤ 1 := by omega
  have i2 : ((l.length : Int) == 0) = false := beq_false_of_ne (by omega)
  generalize hln : l.length = ln at *
  have HLN := hide hln
  clear hln
  go_enter Tryz.func8, Tryz.ntmps8
  go_upto_region 1 with fail
  generalize (w.alloc _).alloc _ = w2 at *
  obtain ⟨x0, x1, x2, x3, _⟩ := blk4 Z1
  go_wp2_with fail
  refine (W20 _).mono ?_
  rintro e w3 ⟨rfl, rfl⟩
  clear W20
  go_upto_region 4 with fail
  rw [unhide HZ2]
  have n4 := newS w3 (.cells #[.int .i64 8, .bool false, .int .i64 0, .string ⟨#[]⟩, .string ⟨#[]⟩, .string ⟨#[]⟩, .slice none 0 0] 42)
  have Z4 : (w3.alloc (.cells #[.int .i64 8, .bool false, .int .i64 0, .string ⟨#[]⟩, .string ⟨#[]⟩, .string ⟨#[]⟩, .slice none 0 0] 42)).heap[w.heap.size + 2]? = some (.cells #[.int .i64 8, .bool false, .int .i64 0, .string ⟨#[]⟩, .string ⟨#[]⟩, .string ⟨#[]⟩, .slice none 0 0] 42 (0, 0)) := by
    have h := alloc_heap w3 (.cells #[.int .i64 8, .bool false, .int .i64 0, .string ⟨#[]⟩, .string ⟨#[]⟩, .string ⟨#[]⟩, .slice none 0 0] 42)
    rw [unhide HZ2] at h
    exact h
  have INV : RowInv w (w3.alloc (.cells #[.int .i64 8, .bool false, .int .i64 0, .string ⟨#[]⟩, .string ⟨#[]⟩, .string ⟨#[]⟩, .slice none 0 0] 42)) (.cells #[.int .i64 r.op, .int .i64 r.n, .slice r.so r.sl r.sc, .slice r.lo ln r.lc] 26 (0, 0)) (.cells #[.int .i64 0, .bool false, .int .i64 0, .string ⟨#[]⟩, .string ⟨#[]⟩, .string ⟨#[]⟩, .slice none 0 0] 42 (0, 0)) 8 ⟨#[]⟩ (.slice none 0 0) (.slice none 0 0) [] [] :=
    ⟨b2.trans (n4.mono b2.size), kept_of_below n4 Z1, kept_of_below n4 Z2, Z4, World.ownsRow_nil _ _ _ _, .nil⟩
  generalize w3.alloc _ = w4 at *
  clear x0 x1 x2 x3 Z1 Z2 n4 b2
  obtain ⟨y0, y1, y2, y3, y4, y5, y6, _⟩ := blk7 Z4
  obtain ⟨x0, x1, x2, x3, _⟩ := blk4 INV.pr
  go_wp2_with fail
  refine (name5_any r.n _).mono ?_
  rintro e w5 ⟨rfl, b5⟩
  clear y0 y1 y2 y3 y4 y5 y6 Z4 x0 x1 x2 x3
  have INV5 := INV.move b5
  have INV6 := INV5.setS (ba (nmI r.n))
  have hpe := INV5.pe
  unfold exObj at hpe
  obtain ⟨y0, y1, y2, y3, y4, y5, y6, yf⟩ := blk7 hpe
  clear INV INV5 hpe
  have INV := INV6
  clear INV6
  go_wp2_with fail
  clear y0 y1 y2 y3 y4 y5 y6 yf
  go_loopw [7] (fun iv wr => ∃ (j : Nat) (lv : Value) (rs : List R7), j ≤ 1 ∧ iv = .int .i64 j ∧ rs.length = j ∧ RowInv w wr (.cells #[.int .i64 r.op, .int .i64 r.n, .slice r.so r.sl r.sc, .slice r.lo ln r.lc] 26 (0, 0)) (.cells #[.int .i64 0, .bool false, .int .i64 0, .string ⟨#[]⟩, .string ⟨#[]⟩, .string ⟨#[]⟩, .slice none 0 0] 42 (0, 0)) 8 (ba (nmI r.n)) lv lv rs (kidsX d l j)) (fun iv _ => 1 - (intOf iv).toNat)
  case atStart => exact ⟨0, .slice none 0 0, [], Nat.zero_le _, rfl, rfl, INV⟩
  case round =>
    obtain ⟨j, lv, rs, hj, rfl, hrs, H⟩ := hrel
    by_cases hlt : j < 1
    · have i4 : (j : Int) < 1 := by omega
      have hml : j % l.length < l.length := Nat.mod_lt _ (by rw [unhide HLN]; exact hl0)
      obtain ⟨rk, g, off, hlo, hg, h7, hxk⟩ := IsRs.get l 0 (j % l.length) hml (unhide HKS)
      rw [Nat.zero_add] at h7
      have HKX := hide (kidsX_succ d l j hml)
      have CK := fun w' (hb : Below w.heap.size w w') => unhide HIH l[j % l.length] rk w' (IsR.below hb rk _ hxk)
      generalize treeX d l[j % l.length] = X at *
      obtain ⟨m, hm⟩ : ∃ m : Nat, m = j % l.length := ⟨_, rfl⟩
      have hmln : m < ln := by rw [hm, ← unhide HLN]; exact hml
      have hmod : (j : Int).tmod (ln : Int) = (m : Int) := by rw [hm, unhide HLN]; rfl
      rw [← hm] at h7
      generalize kidsX d l j = xs at *
      obtain ⟨lao, lcap, hlv⟩ := ownX_slice H.own
      have hi0 := info_parts infoExpr
      obtain ⟨i0, hi, hz0, hz1, hz2⟩ := hi0
      have HH := hide H
      have HLO := hide hlo
      have HLV := hide hlv
      clear hlo hlv
      have hbase := H.base
      have hrl : rs.length ≤ 8 := by omega
      have HRS := hide hrs
      clear hxk hml hm hrs H
      go_upto_region 21 with fail
      refine wp_specsB 17 (trSp w.heap.size (w.heap.size + 2) j d m g off lv (.slice r.lo ln r.lc) rk ln) (TRw w wr (.cells #[.int .i64 r.op, .int .i64 r.n, .slice r.so r.sl r.sc, .slice r.lo ln r.lc] 26 (0, 0)) (.cells #[.int .i64 0, .bool false, .int .i64 0, .string ⟨#[]⟩, .string ⟨#[]⟩, .string ⟨#[]⟩, .slice none 0 0] 42 (0, 0)) 8 (ba (nmI r.n)) lv rs xs X) (by kernel_rfl) (by kernel_rfl) (by kernel_rfl) (TRw.start _) ?_ ?_ ?_
      · intro i o hi' ho L a' w' hL hw hR hdep hslot hsz K hK
        obtain ⟨hbw, hpr⟩ := hR.below (unhide HH)
        match i, hi' with
        | 0, _ =>
          cases ho
          have e : a'.tmps.getD 5 undef = .pointer (some ⟨w.heap.size + 2, 0, none⟩) := hslot 5 (by decide)
          unfold Oper.wp
          go_simp
          exact hK _ _ rfl (hR.other 0 54 _ (by decide) (by decide)) (fun _ _ h => h)
        | 1, _ =>
          cases ho
          have e : a'.tmps.getD 54 undef = .pointer (some ⟨w.heap.size + 2, 6, none⟩) := hdep 0 (by decide) (by kernel_rfl)
          have hp := hR.pre (hR.n15 (.inr (.inr hL)))
          have hpe := kept_of_below hp (unhide HH).pe
          unfold exObj at hpe
          obtain ⟨_, _, _, _, _, _, c6', _⟩ := blk7 hpe
          unfold Oper.wp
          go_simp
          exact hK _ _ rfl (hR.other 1 55 _ (by decide) (by decide)) (fun _ _ h => h)
        | 2, _ =>
          cases ho
          have e : a'.tmps.getD 2 undef = .pointer (some ⟨w.heap.size, 0, none⟩) := hslot 2 (by decide)
          unfold Oper.wp
          go_simp
          exact hK _ _ rfl (hR.other 2 56 _ (by decide) (by decide)) (fun _ _ h => h)
        | 3, _ =>
          cases ho
          have e : a'.tmps.getD 56 undef = .pointer (some ⟨w.heap.size, 3, none⟩) := hdep 2 (by decide) (by kernel_rfl)
          obtain ⟨_, _, _, c3', _⟩ := blk4 hpr
          unfold Oper.wp
          go_simp
          exact hK _ _ rfl (hR.other 3 57 _ (by decide) (by decide)) (fun _ _ h => h)
        | 4, _ =>
          cases ho
          have e : a'.tmps.getD 7 undef = .int .i64 j := hslot 7 (by decide)
          unfold Oper.wp
          go_simp
          exact hK _ _ rfl (hR.other 4 58 _ (by decide) (by decide)) (fun _ _ h => h)
        | 5, _ =>
          cases ho
          have e : a'.tmps.getD 2 undef = .pointer (some ⟨w.heap.size, 0, none⟩) := hslot 2 (by decide)
          unfold Oper.wp
          go_simp
          exact hK _ _ rfl (hR.other 5 59 _ (by decide) (by decide)) (fun _ _ h => h)
        | 6, _ =>
          cases ho
          have e : a'.tmps.getD 59 undef = .pointer (some ⟨w.heap.size, 3, none⟩) := hdep 5 (by decide) (by kernel_rfl)
          obtain ⟨_, _, _, c3', _⟩ := blk4 hpr
          unfold Oper.wp
          go_simp
          exact hK _ _ rfl (hR.other 6 60 _ (by decide) (by decide)) (fun _ _ h => h)
        | 7, _ =>
          cases ho
          have e : a'.tmps.getD 60 undef = .slice r.lo ln r.lc := hdep 6 (by decide) (by kernel_rfl)
          unfold Oper.wp
          go_simp
          exact hK _ _ rfl (hR.other 7 61 _ (by decide) (by decide)) (fun _ _ h => h)
        | 8, _ =>
          cases ho
          have e1 : a'.tmps.getD 58 undef = .int .i64 j := hdep 4 (by decide) (by kernel_rfl)
          have e2 : a'.tmps.getD 61 undef = .int .i64 ln := hdep 7 (by decide) (by kernel_rfl)
          have n0 : ¬ ln = 0 := by omega
          unfold Oper.wp
          go_simp
          exact hK _ _ rfl (hR.other 8 62 _ (by decide) (by decide)) (fun _ _ h => h)
        | 9, _ =>
          cases ho
          have e1 : a'.tmps.getD 57 undef = .slice r.lo ln r.lc := hdep 3 (by decide) (by kernel_rfl)
          have e2 : a'.tmps.getD 62 undef = .int .i64 m := hdep 8 (by decide) (by kernel_rfl)
          rw [unhide HLO] at e1
          have i5 : (m : Int) < (ln : Int) := by omega
          unfold Oper.wp
          go_simp
          exact hK _ _ rfl (hR.other 9 63 _ (by decide) (by decide)) (fun _ _ h => h)
        | 10, _ =>
          cases ho
          have e : a'.tmps.getD 63 undef = .pointer (some ⟨g, off + m * 4, none⟩) := hdep 9 (by decide) (by kernel_rfl)
          obtain ⟨y0, y1, y2, y3⟩ := h7.below hbw hg
          unfold Oper.wp
          go_simp
          exact hK _ _ rfl (hR.other 10 64 _ (by decide) (by decide)) (fun _ _ h => h)
        | 11, _ =>
          cases ho
          have e : a'.tmps.getD 1 undef = .int .i64 ((d : Int) + 1) := hslot 1 (by decide)
          unfold Oper.wp
          go_simp
          exact hK _ _ rfl (hR.other 11 65 _ (by decide) (by decide)) (fun _ _ h => h)
        | 12, _ =>
          cases ho
          have e : a'.tmps.getD 65 undef = .int .i64 ((d : Int) + 1) := hdep 11 (by decide) (by kernel_rfl)
          unfold Oper.wp
          go_simp
          exact hK _ _ (by unfold trSp; simp only [Value.int.injEq, true_and, IntKind.wrap_i64]; omega) (hR.other 12 66 _ (by decide) (by decide)) (fun _ _ h => h)
        | 13, _ =>
          cases ho
          have e1 : a'.tmps.getD 64 undef = rk.val := hdep 10 (by decide) (by kernel_rfl)
          have e2 : a'.tmps.getD 66 undef = .int .i64 d := hdep 12 (by decide) (by kernel_rfl)
          have C := CK w' hbw
          unfold R4.val at e1
          clear CK
          unfold Oper.wp
          go_simp
          refine C.mono ?_
          rintro e w3 ⟨q, rfl, b3, hq⟩
          exact hK _ _ trivial (hR.call hL (by rw [hsz]; exact Nat.le_of_ble_eq_true (by kernel_rfl)) b3 hq) trSp_up
        | 14, _ =>
          cases ho
          have h13 : L 13 = true := hw 13 (by kernel_rfl)
          obtain ⟨q, e1, hq⟩ := hR.k13 h13 (hR.n15 (.inr (.inl hL)))
          have B14 := hR.build hL h13 (by rw [hsz]; exact Nat.le_of_ble_eq_true (by kernel_rfl)) e1 hq
          unfold R7.val at e1
          have e1' : a'.tmps[67]?.getD undef = .agg #[.int .i64 q.k, .bool q.b, .int .i64 q.n, .string q.s, .string q.t, .string q.i, .slice q.lo q.ll q.lc] := by simpa using e1
          have HB := hide B14
          clear B14 hq hsz
          unfold Oper.wp
          go_simp
          exact hK _ _ trivial (unhide HB) trSp_up
        | 15, _ =>
          cases ho
          have h13 : L 13 = true := hw 13 (by kernel_rfl)
          have h14 : L 14 = true := hw 14 (by kernel_rfl)
          have h1 : L 1 = true := hw 1 (by kernel_rfl)
          obtain ⟨q, blk, e1, hblk, hc, hq⟩ := hR.k14 h14 hL
          have e2 : a'.tmps.getD 55 undef = lv := hdep 1 (by decide) (by kernel_rfl)
          have hp := hR.pre hL
          have hcell : ∀ jj u, q.cells[jj]? = some u → w'.cell? ((⟨blk, 0, none⟩ : Addr).add jj) = some u := by
            intro jj u hu
            rw [Addr.add_lit, Nat.zero_add, Lib.cell_of_heap hc]
            simpa [R7.cells] using hu
          obtain ⟨v', w'', hr, hown', hgr, _, hat⟩ := run_append_own_at (P := Tryz.prog) w' (w.heap.size + 3) 40 40 42 i0 _ 7 96 Tryz.underlying40 hi hz0 hz1 hz2 rfl (by decide) lv rs.length (cellsE rs) (owns_below hp (unhide HH).own) ⟨blk, 0, none⟩ 1 1 q.cells rfl hcell (cellE_one q) (by unfold maxLen; omega) (by omega) (by have := hp.size; omega)
          have hs : a'.eval (.tmp 55) = lv := e2
          have hx : a'.eval (.tmp 68) = .slice (some ⟨blk, 0, none⟩) 1 1 := e1
          unfold Oper.wp execOp
          simp only [resolve, invoke, builtin, Sem.run_bind, Sem.run_pure, Result.andThen_ok, List.map_toArray, List.map_cons, List.map_nil, hs, hx, hr]
          exact hK _ _ trivial (hR.app (unhide HH) hL h13 h14 h1 (by rw [hsz]; exact Nat.le_of_ble_eq_true (by kernel_rfl)) hq hown' hgr hat) trSp_up
        | 16, _ =>
          cases ho
          have e : a'.tmps.getD 5 undef = .pointer (some ⟨w.heap.size + 2, 0, none⟩) := hslot 5 (by decide)
          unfold Oper.wp
          go_simp
          exact hK _ _ rfl (hR.other 16 70 _ (by decide) (by decide)) (fun _ _ h => h)
        | i + 17, h => exact absurd h (by omega)
      · intro i o hi' ho L a' w' hL hw hR hdep K hK
        have : i = 17 := by
          have h := (List.getElem?_eq_some_iff.1 ho).1
          simp only [List.length_cons, List.length_nil] at h
          omega
        subst this
        cases ho
        have h15 : L 15 = true := hw 15 (by kernel_rfl)
        obtain ⟨v', q, e1, hi2⟩ := hR.k15 h15 hL
        have e2 : a'.tmps.getD 70 undef = .pointer (some ⟨w.heap.size + 2, 6, none⟩) := hdep 16 (by decide) (by kernel_rfl)
        have hST := hide (hR.store h15 hL e1)
        have hpe := hi2.pe
        unfold exObj at hpe
        obtain ⟨_, _, _, _, _, _, c6', cf⟩ := blk7 hpe
        obtain ⟨ao', cap', hv0⟩ := ownX_slice hi2.own
        have hv' : v' = .slice ao' (rs.length + 1) cap' := by rw [hv0, List.length_append]; rfl
        clear hv0
        subst hv'
        unfold Oper.wp
        go_simp
        exact hK _ (unhide hST) trSp_up undef
      · intro v L w5 hall hR hsp
        obtain ⟨v', q, hinv⟩ := hR.k17 (hall 17 (by decide))
        have HV := hide hinv
        have e0 : v 0 = _ := hsp 0 (by decide)
        have e1 : v 1 = _ := hsp 1 (by decide)
        have e2 : v 2 = _ := hsp 2 (by decide)
        have e3 : v 3 = _ := hsp 3 (by decide)
        have e4 : v 4 = _ := hsp 4 (by decide)
        have e5 : v 5 = _ := hsp 5 (by decide)
        have e6 : v 6 = _ := hsp 6 (by decide)
        have e7 : v 7 = _ := hsp 7 (by decide)
        have e8 : v 8 = _ := hsp 8 (by decide)
        have e9 : v 9 = _ := hsp 9 (by decide)
        have e10 : v 10 = _ := hsp 10 (by decide)
        have e11 : v 11 = _ := hsp 11 (by decide)
        have e12 : v 12 = _ := hsp 12 (by decide)
        have e16 : v 16 = _ := hsp 16 (by decide)
        clear hR hall hsp hinv CK
        simp only [putAll, dstOf, List.getElem?_cons_zero, List.getElem?_cons_succ, Option.bind_some, e0, e1, e2, e3, e4, e5, e6, e7, e8, e9, e10, e11, e12, e16]
        clear e0 e1 e2 e3 e4 e5 e6 e7 e8 e9 e10 e11 e12 e16
        simp only [Act.put, List.setIfInBounds_toArray, List.set_cons_succ, List.set_cons_zero]
        generalize v 13 = v13
        generalize v 14 = v14
        generalize v 15 = v15
        go_wp2
        go_roundw
        case rel => exact ⟨j + 1, v', rs ++ [q], hlt, by go_num, by rw [List.length_append, unhide HRS]; rfl, by rw [unhide HKX]; exact unhide HV⟩
        case measure =>
          simp only [intOf]
          omega
    · obtain rfl : j = 1 := by omega
      have hpe := H.pe
      have hpq := H.pq
      unfold exObj at hpe
      obtain ⟨y0, y1, y2, y3, y4, y5, y6, _⟩ := blk7 hpe
      obtain ⟨z0, z1, z2, z3, z4, z5, z6, zf⟩ := blk7 hpq
      obtain ⟨g, cap, hlv, _⟩ := nodeEnd (S := (nmI r.n)) H (by omega) undef undef undef undef undef undef undef
      have HE := hide (fun v0 v1 v2 v3 v4 v5 v6 => nodeEnd (S := (nmI r.n)) H (by omega) v0 v1 v2 v3 v4 v5 v6)
      subst hlv
      rw [hrs] at y6
      have hbl := H.below
      clear hpe hpq H
      go_wp2
      exact bodyPost_ret (v := R7.val ⟨8, false, 0, (ba (nmI r.n)), ⟨#[]⟩, ⟨#[]⟩, some ⟨g, 0, none⟩, 1, cap⟩) (by simp [results, Tryz.results8, go_sem, z0, z1, z2, z3, z4, z5, z6, R7.val]) rfl ⟨_, rfl, set7S_below hbl (Nat.le_succ _) _ _ _ _ _ _ _, by
        obtain ⟨g', cap', e, hI⟩ := unhide HE _ _ _ _ _ _ _
        rw [hrs] at e hI
        cases e
        exact hI⟩

set_option maxHeartbeats 4000000 in
set_option maxRecDepth 1000000 in
theorem tree_k10 (d : Nat) (op n : Int) (s : List Int) (l : List Rw) (r : R4) (w : World) (hx : IsR w r (.mk op n s l)) (hd : d ≤ 1000) (hd1 : 1 ≤ d) (hl0 : 0 < l.length)
    (ih : ∀ (x : Rw) (r : R4) (w : World), IsR w r x → Calls Tryz.prog 8 #[r.val, .int .i64 d] w fun e w' => ∃ q : R7, e = .returned q.val ∧ Below w.heap.size w w' ∧ IsE w' (fun b => w.heap.size ≤ b) q (treeX d x)) (hk2 : 6 + op % 20 = 10) :
    Calls Tryz.prog 8 #[r.val, .int .i64 (d + 1 : Nat)] w fun e w' => ∃ q : R7, e = .returned q.val ∧ Below w.heap.size w w' ∧ IsE w' (fun b => w.heap.size ≤ b) q (.mk 10 false 0 (idt5 s) [] [] (kidsX d l 1)) := by
  unfold IsR at hx
  obtain ⟨rfl, rfl, hsl, hs1, hs2, hz, hll, hl1, hks⟩ := hx
  have b2 := below2 w (.cells #[.int .i64 r.op, .int .i64 r.n, .slice r.so r.sl r.sc, .slice r.lo r.ll r.lc] 26) (.cells #[.int .i64 0, .bool false, .int .i64 0, .string ⟨#[]⟩, .string ⟨#[]⟩, .string ⟨#[]⟩, .slice none 0 0] 42)
  have Z1 : ((w.alloc (.cells #[.int .i64 r.op, .int .i64 r.n, .slice r.so r.sl r.sc, .slice r.lo r.ll r.lc] 26)).alloc (.cells #[.int .i64 0, .bool false, .int .i64 0, .string ⟨#[]⟩, .string ⟨#[]⟩, .string ⟨#[]⟩, .slice none 0 0] 42)).heap[w.heap.size]? = some (.cells #[.int .i64 r.op, .int .i64 r.n, .slice r.so r.sl r.sc, .slice r.lo r.ll r.lc] 26 (0, 0)) := kept_of_below (newS _ _) (alloc_heap _ _)
  have z2 : ((w.alloc (.cells #[.int .i64 r.op, .int .i64 r.n, .slice r.so r.sl r.sc, .slice r.lo r.ll r.lc] 26)).alloc (.cells #[.int .i64 0, .bool false, .int .i64 0, .string ⟨#[]⟩, .string ⟨#[]⟩, .string ⟨#[]⟩, .slice none 0 0] 42)).heap.size = w.heap.size + 2 := by simp
  have Z2 : ((w.alloc (.cells #[.int .i64 r.op, .int .i64 r.n, .slice r.so r.sl r.sc, .slice r.lo r.ll r.lc] 26)).alloc (.cells #[.int .i64 0, .bool false, .int .i64 0, .string ⟨#[]⟩, .string ⟨#[]⟩, .string ⟨#[]⟩, .slice none 0 0] 42)).heap[w.heap.size + 1]? = some (.cells #[.int .i64 0, .bool false, .int .i64 0, .string ⟨#[]⟩, .string ⟨#[]⟩, .string ⟨#[]⟩, .slice none 0 0] 42 (0, 0)) := by
    have h := alloc_heap (w.alloc (.cells #[.int .i64 r.op, .int .i64 r.n, .slice r.so r.sl r.sc, .slice r.lo r.ll r.lc] 26)) (.cells #[.int .i64 0, .bool false, .int .i64 0, .string ⟨#[]⟩, .string ⟨#[]⟩, .string ⟨#[]⟩, .slice none 0 0] 42)
    rw [show (w.alloc (.cells #[.int .i64 r.op, .int .i64 r.n, .slice r.so r.sl r.sc, .slice r.lo r.ll r.lc] 26)).heap.size = w.heap.size + 1 by simp] at h
    exact h
  have W20 := fun w' => within5_any r.op 20 (by decide) (by decide) w'
  have hk0 : r.op % 20 = 4 := by omega
  rw [hk0] at W20
  have ID5 := fun w' (hb : Below w.heap.size w w') => id5_any s r.so r.sc w' hs1 hs2 (hz.below hb)
  rw [hll, hsl] at b2 Z1 Z2 z2
  unfold R4.val at ih ⊢
  rw [hll, hsl]
  have HIH := hide ih
  have HKS := hide hks
  have HZ2 := hide z2
  clear hz hks hll hs1 hs2 hk0 hk2 ih z2 hsl
  have i1 : ¬ ((d + 1 : Nat) : Int) ≤ 1 := by omega
  have i2 : ((l.length : Int) == 0) = false := beq_false_of_ne (by omega)
  generalize hln : l.length = ln at *
  have HLN := hide hln
  clear hln
  go_enter Tryz.func8, Tryz.ntmps8
  go_upto_region 1 with fail
  generalize (w.alloc _).alloc _ = w2 at *
  obtain ⟨x0, x1, x2, x3, _⟩ := blk4 Z1
  go_wp2_with fail
  refine (W20 _).mono ?_
  rintro e w3 ⟨rfl, rfl⟩
  clear W20
  go_upto_region 4 with fail
  rw [unhide HZ2]
  have n4 := newS w3 (.cells #[.int .i64 10, .bool false, .int .i64 0, .string ⟨#[]⟩, .string ⟨#[]⟩, .string ⟨#[]⟩, .slice none 0 0] 42)
  have Z4 : (w3.alloc (.cells #[.int .i64 10, .bool false, .int .i64 0, .string ⟨#[]⟩, .string ⟨#[]⟩, .string ⟨#[]⟩, .slice none 0 0] 42)).heap[w.heap.size + 2]? = some (.cells #[.int .i64 10, .bool false, .int .i64 0, .string ⟨#[]⟩, .string ⟨#[]⟩, .string ⟨#[]⟩, .slice none 0 0] 42 (0, 0)) := by
    have h := alloc_heap w3 (.cells #[.int .i64 10, .bool false, .int .i64 0, .string ⟨#[]⟩, .string ⟨#[]⟩, .string ⟨#[]⟩, .slice none 0 0] 42)
    rw [unhide HZ2] at h
    exact h
  have INV : RowInv w (w3.alloc (.cells #[.int .i64 10, .bool false, .int .i64 0, .string ⟨#[]⟩, .string ⟨#[]⟩, .string ⟨#[]⟩, .slice none 0 0] 42)) (.cells #[.int .i64 r.op, .int .i64 r.n, .slice r.so s.length r.sc, .slice r.lo ln r.lc] 26 (0, 0)) (.cells #[.int .i64 0, .bool false, .int .i64 0, .string ⟨#[]⟩, .string ⟨#[]⟩, .string ⟨#[]⟩, .slice none 0 0] 42 (0, 0)) 10 ⟨#[]⟩ (.slice none 0 0) (.slice none 0 0) [] [] :=
    ⟨b2.trans (n4.mono b2.size), kept_of_below n4 Z1, kept_of_below n4 Z2, Z4, World.ownsRow_nil _ _ _ _, .nil⟩
  generalize w3.alloc _ = w4 at *
  clear x0 x1 x2 x3 Z1 Z2 n4 b2
  obtain ⟨y0, y1, y2, y3, y4, y5, y6, _⟩ := blk7 Z4
  obtain ⟨x0, x1, x2, x3, _⟩ := blk4 INV.pr
  go_wp2_with fail
  refine (ID5 _ INV.below).mono ?_
  rintro e w5 ⟨rfl, b5⟩
  clear y0 y1 y2 y3 y4 y5 y6 Z4 x0 x1 x2 x3
  have INV5 := INV.move b5
  have INV6 := INV5.setS (ba (idt5 s))
  have hpe := INV5.pe
  unfold exObj at hpe
  obtain ⟨y0, y1, y2, y3, y4, y5, y6, yf⟩ := blk7 hpe
  clear INV INV5 hpe
  have INV := INV6
  clear INV6
  go_wp2_with fail
  clear y0 y1 y2 y3 y4 y5 y6 yf
  go_loopw [7] (fun iv wr => ∃ (j : Nat) (lv : Value) (rs : List R7), j ≤ 1 ∧ iv = .int .i64 j ∧ rs.length = j ∧ RowInv w wr (.cells #[.int .i64 r.op, .int .i64 r.n, .slice r.so s.length r.sc, .slice r.lo ln r.lc] 26 (0, 0)) (.cells #[.int .i64 0, .bool false, .int .i64 0, .string ⟨#[]⟩, .string ⟨#[]⟩, .string ⟨#[]⟩, .slice none 0 0] 42 (0, 0)) 10 (ba (idt5 s)) lv lv rs (kidsX d l j)) (fun iv _ => 1 - (intOf iv).toNat)
  case atStart => exact ⟨0, .slice none 0 0, [], Nat.zero_le _, rfl, rfl, INV⟩
  case round =>
    obtain ⟨j, lv, rs, hj, rfl, hrs, H⟩ := hrel
    by_cases hlt : j < 1
    · have i4 : (j : Int) < 1 := by omega
      have hml : j % l.length < l.length := Nat.mod_lt _ (by rw [unhide HLN]; exact hl0)
      obtain ⟨rk, g, off, hlo, hg, h7, hxk⟩ := IsRs.get l 0 (j % l.length) hml (unhide HKS)
      rw [Nat.zero_add] at h7
      have HKX := hide (kidsX_succ d l j hml)
      have CK := fun w' (hb : Below w.heap.size w w') => unhide HIH l[j % l.length] rk w' (IsR.below hb rk _ hxk)
      generalize treeX d l[j % l.length] = X at *
      obtain ⟨m, hm⟩ : ∃ m : Nat, m = j % l.length := ⟨_, rfl⟩
      have hmln : m < ln := by rw [hm, ← unhide HLN]; exact hml
      have hmod : (j : Int).tmod (ln : Int) = (m : Int) := by rw [hm, unhide HLN]; rfl
      rw [← hm] at h7
      generalize kidsX d l j = xs at *
      obtain ⟨lao, lcap, hlv⟩ := ownX_slice H.own
      have hi0 := info_parts infoExpr
      obtain ⟨i0, hi, hz0, hz1, hz2⟩ := hi0
      have HH := hide H
      have HLO := hide hlo
      have HLV := hide hlv
      clear hlo hlv
      have hbase := H.base
      have hrl : rs.length ≤ 8 := by omega
      have HRS := hide hrs
      clear hxk hml hm hrs H
      go_upto_region 21 with fail
      refine wp_specsB 17 (trSp w.heap.size (w.heap.size + 2) j d m g off lv (.slice r.lo ln r.lc) rk ln) (TRw w wr (.cells #[.int .i64 r.op, .int .i64 r.n, .slice r.so s.length r.sc, .slice r.lo ln r.lc] 26 (0, 0)) (.cells #[.int .i64 0, .bool false, .int .i64 0, .string ⟨#[]⟩, .string ⟨#[]⟩, .string ⟨#[]⟩, .slice none 0 0] 42 (0, 0)) 10 (ba (idt5 s)) lv rs xs X) (by kernel_rfl) (by kernel_rfl) (by kernel_rfl) (TRw.start _) ?_ ?_ ?_
      · intro i o hi' ho L a' w' hL hw hR hdep hslot hsz K hK
        obtain ⟨hbw, hpr⟩ := hR.below (unhide HH)
        match i, hi' with
        | 0, _ =>
          cases ho
          have e : a'.tmps.getD 5 undef = .pointer (some ⟨w.heap.size + 2, 0, none⟩) := hslot 5 (by decide)
          unfold Oper.wp
          go_simp
          exact hK _ _ rfl (hR.other 0 54 _ (by decide) (by decide)) (fun _ _ h => h)
        | 1, _ =>
          cases ho
          have e : a'.tmps.getD 54 undef = .pointer (some ⟨w.heap.size + 2, 6, none⟩) := hdep 0 (by decide) (by kernel_rfl)
          have hp := hR.pre (hR.n15 (.inr (.inr hL)))
          have hpe := kept_of_below hp (unhide HH).pe
          unfold exObj at hpe
          obtain ⟨_, _, _, _, _, _, c6', _⟩ := blk7 hpe
          unfold Oper.wp
          go_simp
          exact hK _ _ rfl (hR.other 1 55 _ (by decide) (by decide)) (fun _ _ h => h)
        | 2, _ =>
          cases ho
          have e : a'.tmps.getD 2 undef = .pointer (some ⟨w.heap.size, 0, none⟩) := hslot 2 (by decide)
          unfold Oper.wp
          go_simp
          exact hK _ _ rfl (hR.other 2 56 _ (by decide) (by decide)) (fun _ _ h => h)
        | 3, _ =>
          cases ho
          have e : a'.tmps.getD 56 undef = .pointer (some ⟨w.heap.size, 3, none⟩) := hdep 2 (by decide) (by kernel_rfl)
          obtain ⟨_, _, _, c3', _⟩ := blk4 hpr
          unfold Oper.wp
          go_simp
          exact hK _ _ rfl (hR.other 3 57 _ (by decide) (by decide)) (fun _ _ h => h)
        | 4, _ =>
          cases ho
          have e : a'.tmps.getD 7 undef = .int .i64 j := hslot 7 (by decide)
          unfold Oper.wp
          go_simp
          exact hK _ _ rfl (hR.other 4 58 _ (by decide) (by decide)) (fun _ _ h => h)
        | 5, _ =>
          cases ho
          have e : a'.tmps.getD 2 undef = .pointer (some ⟨w.heap.size, 0, none⟩) := hslot 2 (by decide)
          unfold Oper.wp
          go_simp
          exact hK _ _ rfl (hR.other 5 59 _ (by decide) (by decide)) (fun _ _ h => h)
        | 6, _ =>
          cases ho
          have e : a'.tmps.getD 59 undef = .pointer (some ⟨w.heap.size, 3, none⟩) := hdep 5 (by decide) (by kernel_rfl)
          obtain ⟨_, _, _, c3', _⟩ := blk4 hpr
          unfold Oper.wp
          go_simp
          exact hK _ _ rfl (hR.other 6 60 _ (by decide) (by decide)) (fun _ _ h => h)
        | 7, _ =>
          cases ho
          have e : a'.tmps.getD 60 undef = .slice r.lo ln r.lc := hdep 6 (by decide) (by kernel_rfl)
          unfold Oper.wp
          go_simp
          exact hK _ _ rfl (hR.other 7 61 _ (by decide) (by decide)) (fun _ _ h => h)
        | 8, _ =>
          cases ho
          have e1 : a'.tmps.getD 58 undef = .int .i64 j := hdep 4 (by decide) (by kernel_rfl)
          have e2 : a'.tmps.getD 61 undef = .int .i64 ln := hdep 7 (by decide) (by kernel_rfl)
          have n0 : ¬ ln = 0 := by omega
          unfold Oper.wp
          go_simp
          exact hK _ _ rfl (hR.other 8 62 _ (by decide) (by decide)) (fun _ _ h => h)
        | 9, _ =>
          cases ho
          have e1 : a'.tmps.getD 57 undef = .slice r.lo ln r.lc := hdep 3 (by decide) (by kernel_rfl)
          have e2 : a'.tmps.getD 62 undef = .int .i64 m := hdep 8 (by decide) (by kernel_rfl)
          rw [unhide HLO] at e1
          have i5 : (m : Int) < (ln : Int) := by omega
          unfold Oper.wp
          go_simp
          exact hK _ _ rfl (hR.other 9 63 _ (by decide) (by decide)) (fun _ _ h => h)
        | 10, _ =>
          cases ho
          have e : a'.tmps.getD 63 undef = .pointer (some ⟨g, off + m * 4, none⟩) := hdep 9 (by decide) (by kernel_rfl)
          obtain ⟨y0, y1, y2, y3⟩ := h7.below hbw hg
          unfold Oper.wp
          go_simp
          exact hK _ _ rfl (hR.other 10 64 _ (by decide) (by decide)) (fun _ _ h => h)
        | 11, _ =>
          cases ho
          have e : a'.tmps.getD 1 undef = .int .i64 ((d : Int) + 1) := hslot 1 (by decide)
          unfold Oper.wp
          go_simp
          exact hK _ _ rfl (hR.other 11 65 _ (by decide) (by decide)) (fun _ _ h => h)
        | 12, _ =>
          cases ho
          have e : a'.tmps.getD 65 undef = .int .i64 ((d : Int) + 1) := hdep 11 (by decide) (by kernel_rfl)
          unfold Oper.wp
          go_simp
          exact hK _ _ (by unfold trSp; simp only [Value.int.injEq, true_and, IntKind.wrap_i64]; omega) (hR.other 12 66 _ (by decide) (by decide)) (fun _ _ h => h)
        | 13, _ =>
          cases ho
          have e1 : a'.tmps.getD 64 undef = rk.val := hdep 10 (by decide) (by kernel_rfl)
          have e2 : a'.tmps.getD 66 undef = .int .i64 d := hdep 12 (by decide) (by kernel_rfl)
          have C := CK w' hbw
          unfold R4.val at e1
          clear CK
          unfold Oper.wp
          go_simp
          refine C.mono ?_
          rintro e w3 ⟨q, rfl, b3, hq⟩
          exact hK _ _ trivial (hR.call hL (by rw [hsz]; exact Nat.le_of_ble_eq_true (by kernel_rfl)) b3 hq) trSp_up
        | 14, _ =>
          cases ho
          have h13 : L 13 = true := hw 13 (by kernel_rfl)
          obtain ⟨q, e1, hq⟩ := hR.k13 h13 (hR.n15 (.inr (.inl hL)))
          have B14 := hR.build hL h13 (by rw [hsz]; exact Nat.le_of_ble_eq_true (by kernel_rfl)) e1 hq
          unfold R7.val at e1
          have e1' : a'.tmps[67]?.getD undef = .agg #[.int .i64 q.k, .bool q.b, .int .i64 q.n, .string q.s, .string q.t, .string q.i, .slice q.lo q.ll q.lc] := by simpa using e1
          have HB := hide B14
          clear B14 hq hsz
          unfold Oper.wp
          go_simp
          exact hK _ _ trivial (unhide HB) trSp_up
        | 15, _ =>
          cases ho
          have h13 : L 13 = true := hw 13 (by kernel_rfl)
          have h14 : L 14 = true := hw 14 (by kernel_rfl)
          have h1 : L 1 = true := hw 1 (by kernel_rfl)
          obtain ⟨q, blk, e1, hblk, hc, hq⟩ := hR.k14 h14 hL
          have e2 : a'.tmps.getD 55 undef = lv := hdep 1 (by decide) (by kernel_rfl)
          have hp := hR.pre hL
          have hcell : ∀ jj u, q.cells[jj]? = some u → w'.cell? ((⟨blk, 0, none⟩ : Addr).add jj) = some u := by
            intro jj u hu
            rw [Addr.add_lit, Nat.zero_add, Lib.cell_of_heap hc]
            simpa [R7.cells] using hu
          obtain ⟨v', w'', hr, hown', hgr, _, hat⟩ := run_append_own_at (P := Tryz.prog) w' (w.heap.size + 3) 40 40 42 i0 _ 7 96 Tryz.underlying40 hi hz0 hz1 hz2 rfl (by decide) lv rs.length (cellsE rs) (owns_below hp (unhide HH).own) ⟨blk, 0, none⟩ 1 1 q.cells rfl hcell (cellE_one q) (by unfold maxLen; omega) (by omega) (by have := hp.size; omega)
          have hs : a'.eval (.tmp 55) = lv := e2
          have hx : a'.eval (.tmp 68) = .slice (some ⟨blk, 0, none⟩) 1 1 := e1
          unfold Oper.wp execOp
          simp only [resolve, invoke, builtin, Sem.run_bind, Sem.run_pure, Result.andThen_ok, List.map_toArray, List.map_cons, List.map_nil, hs, hx, hr]
          exact hK _ _ trivial (hR.app (unhide HH) hL h13 h14 h1 (by rw [hsz]; exact Nat.le_of_ble_eq_true (by kernel_rfl)) hq hown' hgr hat) trSp_up
        | 16, _ =>
          cases ho
          have e : a'.tmps.getD 5 undef = .pointer (some ⟨w.heap.size + 2, 0, none⟩) := hslot 5 (by decide)
          unfold Oper.wp
          go_simp
          exact hK _ _ rfl (hR.other 16 70 _ (by decide) (by decide)) (fun _ _ h => h)
        | i + 17, h => exact absurd h (by omega)
      · intro i o hi' ho L a' w' hL hw hR hdep K hK
        have : i = 17 := by
          have h := (List.getElem?_eq_some_iff.1 ho).1
          simp only [List.length_cons, List.length_nil] at h
          omega
        subst this
        cases ho
        have h15 : L 15 = true := hw 15 (by kernel_rfl)
        obtain ⟨v', q, e1, hi2⟩ := hR.k15 h15 hL
        have e2 : a'.tmps.getD 70 undef = .pointer (some ⟨w.heap.size + 2, 6, none⟩) := hdep 16 (by decide) (by kernel_rfl)
        have hST := hide (hR.store h15 hL e1)
        have hpe := hi2.pe
        unfold exObj at hpe
        obtain ⟨_, _, _, _, _, _, c6', cf⟩ := blk7 hpe
        obtain ⟨ao', cap', hv0⟩ := ownX_slice hi2.own
        have hv' : v' = .slice ao' (rs.length + 1) cap' := by rw [hv0, List.length_append]; rfl
        clear hv0
        subst hv'
        unfold Oper.wp
        go_simp
        exact hK _ (unhide hST) trSp_up undef
      · intro v L w5 hall hR hsp
        obtain ⟨v', q, hinv⟩ := hR.k17 (hall 17 (by decide))
        have HV := hide hinv
        have e0 : v 0 = _ := hsp 0 (by decide)
        have e1 : v 1 = _ := hsp 1 (by decide)
        have e2 : v 2 = _ := hsp 2 (by decide)
        have e3 : v 3 = _ := hsp 3 (by decide)
        have e4 : v 4 = _ := hsp 4 (by decide)
        have e5 : v 5 = _ := hsp 5 (by decide)
        have e6 : v 6 = _ := hsp 6 (by decide)
        have e7 : v 7 = _ := hsp 7 (by decide)
        have e8 : v 8 = _ := hsp 8 (by decide)
        have e9 : v 9 = _ := hsp 9 (by decide)
        have e10 : v 10 = _ := hsp 10 (by decide)
        have e11 : v 11 = _ := hsp 11 (by decide)
        have e12 : v 12 = _ := hsp 12 (by decide)
        have e16 : v 16 = _ := hsp 16 (by decide)
        clear hR hall hsp hinv CK
        simp only [putAll, dstOf, List.getElem?_cons_zero, List.getElem?_cons_succ, Option.bind_some, e0, e1, e2, e3, e4, e5, e6, e7, e8, e9, e10, e11, e12, e16]
        clear e0 e1 e2 e3 e4 e5 e6 e7 e8 e9 e10 e11 e12 e16
        simp only [Act.put, List.setIfInBounds_toArray, List.set_cons_succ, List.set_cons_zero]
        generalize v 13 = v13
        generalize v 14 = v14
        generalize v 15 = v15
        go_wp2
        go_roundw
        case rel => exact ⟨j + 1, v', rs ++ [q], hlt, by go_num, by rw [List.length_append, unhide HRS]; rfl, by rw [unhide HKX]; exact unhide HV⟩
        case measure =>
          simp only [intOf]
          omega
    · obtain rfl : j = 1 := by omega
      have hpe := H.pe
      have hpq := H.pq
      unfold exObj at hpe
      obtain ⟨y0, y1, y2, y3, y4, y5, y6, _⟩ := blk7 hpe
      obtain ⟨z0, z1, z2, z3, z4, z5, z6, zf⟩ := blk7 hpq
      obtain ⟨g, cap, hlv, _⟩ := nodeEnd (S := (idt5 s)) H (by omega) undef undef undef undef undef undef undef
      have HE := hide (fun v0 v1 v2 v3 v4 v5 v6 => nodeEnd (S := (idt5 s)) H (by omega) v0 v1 v2 v3 v4 v5 v6)
      subst hlv
      rw [hrs] at y6
      have hbl := H.below
      clear hpe hpq H
      go_wp2
      exact bodyPost_ret (v := R7.val ⟨10, false, 0, (ba (idt5 s)), ⟨#[]⟩, ⟨#[]⟩, some ⟨g, 0, none⟩, 1, cap⟩) (by simp [results, Tryz.results8, go_sem, z0, z1, z2, z3, z4, z5, z6, R7.val]) rfl ⟨_, rfl, set7S_below hbl (Nat.le_succ _) _ _ _ _ _ _ _, by
        obtain ⟨g', cap', e, hI⟩ := unhide HE _ _ _ _ _ _ _
        rw [hrs] at e hI
        cases e
        exact hI⟩
end Go.Proofs.YtacljmckohbjaaaGreat

namespace Go.Proofs.YtacljmckohbjaaaGreat
open Go.RowKit Go.Sort

set_option maxHeartbeats 4000000 in
set_option maxRecDepth 1000000 in
theorem tree_k6 (d : Nat) (op n : Int) (s : List Int) (l : List Rw) (r : R4) (w : World) (hx : IsR w r (.mk op n s l)) (hd : d ≤ 1000) (hd1 : 1 ≤ d) (hl0 : 0 < l.length)
    (ih : ∀ (x : Rw) (r : R4) (w : World), IsR w r x → Calls Tryz.prog 8 #[r.val, .int .i64 d] w fun e w' => ∃ q : R7, e = .returned q.val ∧ Below w.heap.size w w' ∧ IsE w' (fun b => w.heap.size ≤ b) q (treeX d x)) (hk2 : 6 + op % 20 = 6) :
    Calls Tryz.prog 8 #[r.val, .int .i64 (d + 1 : Nat)] w fun e w' => ∃ q : R7, e = .returned q.val ∧ Below w.heap.size w w' ∧ IsE w' (fun b => w.heap.size ≤ b) q (.mk 6 false 0 [] [] [] (kidsX d l (min l.length 8))) := by
  unfold IsR at hx
  obtain ⟨rfl, rfl, hsl, hs1, hs2, hz, hll, hl1, hks⟩ := hx
  have b2 := below2 w (.cells #[.int .i64 r.op, .int .i64 r.n, .slice r.so r.sl r.sc, .slice r.lo r.ll r.lc] 26) (.cells #[.int .i64 0, .bool false, .int .i64 0, .string ⟨#[]⟩, .string ⟨#[]⟩, .string ⟨#[]⟩, .slice none 0 0] 42)
  have Z1 : ((w.alloc (.cells #[.int .i64 r.op, .int .i64 r.n, .slice r.so r.sl r.sc, .slice r.lo r.ll r.lc] 26)).alloc (.cells #[.int .i64 0, .bool false, .int .i64 0, .string ⟨#[]⟩, .string ⟨#[]⟩, .string ⟨#[]⟩, .slice none 0 0] 42)).heap[w.heap.size]? = some (.cells #[.int .i64 r.op, .int .i64 r.n, .slice r.so r.sl r.sc, .slice r.lo r.ll r.lc] 26 (0, 0)) := kept_of_below (newS _ _) (alloc_heap _ _)
  have z2 : ((w.alloc (.cells #[.int .i64 r.op, .int .i64 r.n, .slice r.so r.sl r.sc, .slice r.lo r.ll r.lc] 26)).alloc (.cells #[.int .i64 0, .bool false, .int .i64 0, .string ⟨#[]⟩, .string ⟨#[]⟩, .string ⟨#[]⟩, .slice none 0 0] 42)).heap.size = w.heap.size + 2 := by simp
  have Z2 : ((w.alloc (.cells #[.int .i64 r.op, .int .i64 r.n, .slice r.so r.sl r.sc, .slice r.lo r.ll r.lc] 26)).alloc (.cells #[.int .i64 0, .bool false, .int .i64 0, .string ⟨#[]⟩, .string ⟨#[]⟩, .string ⟨#[]⟩, .slice none 0 0] 42)).heap[w.heap.size + 1]? = some (.cells #[.int .i64 0, .bool false, .int .i64 0, .string ⟨#[]⟩, .string ⟨#[]⟩, .string ⟨#[]⟩, .slice none 0 0] 42 (0, 0)) := by
    have h := alloc_heap (w.alloc (.cells #[.int .i64 r.op, .int .i64 r.n, .slice r.so r.sl r.sc, .slice r.lo r.ll r.lc] 26)) (.cells #[.int .i64 0, .bool false, .int .i64 0, .string ⟨#[]⟩, .string ⟨#[]⟩, .string ⟨#[]⟩, .slice none 0 0] 42)
    rw [show (w.alloc (.cells #[.int .i64 r.op, .int .i64 r.n, .slice r.so r.sl r.sc, .slice r.lo r.ll r.lc] 26)).heap.size = w.heap.size + 1 by simp] at h
    exact h
  have W20 := fun w' => within5_any r.op 20 (by decide) (by decide) w'
  have hk0 : r.op % 20 = 0 := by omega
  rw [hk0] at W20
  rw [hll] at b2 Z1 Z2 z2
  unfold R4.val at ih ⊢
  rw [hll]
  have HIH := hide ih
  have HKS := hide hks
  have HZ2 := hide z2
  clear hz hks hll hs1 hs2 hk0 hk2 ih z2 hsl
  have i1 : ¬ ((d + 1 : Nat) : Int) ≤ 1 := by omega
  have i2 : ((l.length : Int) == 0) = false := beq_false_of_ne (by omega)
  generalize hln : l.length = ln at *
  have HLN := hide hln
  clear hln
  obtain ⟨N, hN⟩ : ∃ N : Nat, N = min ln 8 := ⟨_, rfl⟩
  have hNI : min (ln : Int) 8 = (N : Int) := by omega
  have hN8 : N ≤ 8 ∧ 1 ≤ N := by omega
  rw [← hN]
  clear hN
  go_enter Tryz.func8, Tryz.ntmps8
  go_upto_region 1 with fail
  generalize (w.alloc _).alloc _ = w2 at *
  obtain ⟨x0, x1, x2, x3, _⟩ := blk4 Z1
  go_wp2_with fail
  refine (W20 _).mono ?_
  rintro e w3 ⟨rfl, rfl⟩
  clear W20
  go_upto_region 4 with fail
  rw [unhide HZ2]
  have n4 := newS w3 (.cells #[.int .i64 6, .bool false, .int .i64 0, .string ⟨#[]⟩, .string ⟨#[]⟩, .string ⟨#[]⟩, .slice none 0 0] 42)
  have Z4 : (w3.alloc (.cells #[.int .i64 6, .bool false, .int .i64 0, .string ⟨#[]⟩, .string ⟨#[]⟩, .string ⟨#[]⟩, .slice none 0 0] 42)).heap[w.heap.size + 2]? = some (.cells #[.int .i64 6, .bool false, .int .i64 0, .string ⟨#[]⟩, .string ⟨#[]⟩, .string ⟨#[]⟩, .slice none 0 0] 42 (0, 0)) := by
    have h := alloc_heap w3 (.cells #[.int .i64 6, .bool false, .int .i64 0, .string ⟨#[]⟩, .string ⟨#[]⟩, .string ⟨#[]⟩, .slice none 0 0] 42)
    rw [unhide HZ2] at h
    exact h
  have INV : RowInv w (w3.alloc (.cells #[.int .i64 6, .bool false, .int .i64 0, .string ⟨#[]⟩, .string ⟨#[]⟩, .string ⟨#[]⟩, .slice none 0 0] 42)) (.cells #[.int .i64 r.op, .int .i64 r.n, .slice r.so r.sl r.sc, .slice r.lo ln r.lc] 26 (0, 0)) (.cells #[.int .i64 0, .bool false, .int .i64 0, .string ⟨#[]⟩, .string ⟨#[]⟩, .string ⟨#[]⟩, .slice none 0 0] 42 (0, 0)) 6 ⟨#[]⟩ (.slice none 0 0) (.slice none 0 0) [] [] :=
    ⟨b2.trans (n4.mono b2.size), kept_of_below n4 Z1, kept_of_below n4 Z2, Z4, World.ownsRow_nil _ _ _ _, .nil⟩
  generalize w3.alloc _ = w4 at *
  clear x0 x1 x2 x3 Z1 Z2 n4 b2
  obtain ⟨y0, y1, y2, y3, y4, y5, y6, _⟩ := blk7 Z4
  obtain ⟨x0, x1, x2, x3, _⟩ := blk4 INV.pr
  go_wp2_with fail
  clear y0 y1 y2 y3 y4 y5 y6 Z4 x0 x1 x2 x3
  go_loopw [7] (fun iv wr => ∃ (j : Nat) (lv : Value) (rs : List R7), j ≤ N ∧ iv = .int .i64 j ∧ rs.length = j ∧ RowInv w wr (.cells #[.int .i64 r.op, .int .i64 r.n, .slice r.so r.sl r.sc, .slice r.lo ln r.lc] 26 (0, 0)) (.cells #[.int .i64 0, .bool false, .int .i64 0, .string ⟨#[]⟩, .string ⟨#[]⟩, .string ⟨#[]⟩, .slice none 0 0] 42 (0, 0)) 6 ⟨#[]⟩ lv lv rs (kidsX d l j)) (fun iv _ => N - (intOf iv).toNat)
  case atStart => exact ⟨0, .slice none 0 0, [], Nat.zero_le _, rfl, rfl, INV⟩
  case round =>
    obtain ⟨j, lv, rs, hj, rfl, hrs, H⟩ := hrel
    by_cases hlt : j < N
    · have i4 : (j : Int) < (N : Int) := by omega
      have hml : j % l.length < l.length := Nat.mod_lt _ (by rw [unhide HLN]; exact hl0)
      obtain ⟨rk, g, off, hlo, hg, h7, hxk⟩ := IsRs.get l 0 (j % l.length) hml (unhide HKS)
      rw [Nat.zero_add] at h7
      have HKX := hide (kidsX_succ d l j hml)
      have CK := fun w' (hb : Below w.heap.size w w') => unhide HIH l[j % l.length] rk w' (IsR.below hb rk _ hxk)
      generalize treeX d l[j % l.length] = X at *
      obtain ⟨m, hm⟩ : ∃ m : Nat, m = j % l.length := ⟨_, rfl⟩
      have hmln : m < ln := by rw [hm, ← unhide HLN]; exact hml
      have hmod : (j : Int).tmod (ln : Int) = (m : Int) := by rw [hm, unhide HLN]; rfl
      rw [← hm] at h7
      generalize kidsX d l j = xs at *
      obtain ⟨lao, lcap, hlv⟩ := ownX_slice H.own
      have hi0 := info_parts infoExpr
      obtain ⟨i0, hi, hz0, hz1, hz2⟩ := hi0
      have HH := hide H
      have HLO := hide hlo
      have HLV := hide hlv
      clear hlo hlv
      have hbase := H.base
      have hrl : rs.length ≤ 8 := by omega
      have HRS := hide hrs
      clear hxk hml hm hrs H
      go_upto_region 21 with fail
      refine wp_specsB 17 (trSp w.heap.size (w.heap.size + 2) j d m g off lv (.slice r.lo ln r.lc) rk ln) (TRw w wr (.cells #[.int .i64 r.op, .int .i64 r.n, .slice r.so r.sl r.sc, .slice r.lo ln r.lc] 26 (0, 0)) (.cells #[.int .i64 0, .bool false, .int .i64 0, .string ⟨#[]⟩, .string ⟨#[]⟩, .string ⟨#[]⟩, .slice none 0 0] 42 (0, 0)) 6 ⟨#[]⟩ lv rs xs X) (by kernel_rfl) (by kernel_rfl) (by kernel_rfl) (TRw.start _) ?_ ?_ ?_
      · intro i o hi' ho L a' w' hL hw hR hdep hslot hsz K hK
        obtain ⟨hbw, hpr⟩ := hR.below (unhide HH)
        match i, hi' with
        | 0, _ =>
          cases ho
          have e : a'.tmps.getD 5 undef = .pointer (some ⟨w.heap.size + 2, 0, none⟩) := hslot 5 (by decide)
          unfold Oper.wp
          go_simp
          exact hK _ _ rfl (hR.other 0 54 _ (by decide) (by decide)) (fun _ _ h => h)
        | 1, _ =>
          cases ho
          have e : a'.tmps.getD 54 undef = .pointer (some ⟨w.heap.size + 2, 6, none⟩) := hdep 0 (by decide) (by kernel_rfl)
          have hp := hR.pre (hR.n15 (.inr (.inr hL)))
          have hpe := kept_of_below hp (unhide HH).pe
          unfold exObj at hpe
          obtain ⟨_, _, _, _, _, _, c6', _⟩ := blk7 hpe
          unfold Oper.wp
          go_simp
          exact hK _ _ rfl (hR.other 1 55 _ (by decide) (by decide)) (fun _ _ h => h)
        | 2, _ =>
          cases ho
          have e : a'.tmps.getD 2 undef = .pointer (some ⟨w.heap.size, 0, none⟩) := hslot 2 (by decide)
          unfold Oper.wp
          go_simp
          exact hK _ _ rfl (hR.other 2 56 _ (by decide) (by decide)) (fun _ _ h => h)
        | 3, _ =>
          cases ho
          have e : a'.tmps.getD 56 undef = .pointer (some ⟨w.heap.size, 3, none⟩) := hdep 2 (by decide) (by kernel_rfl)
          obtain ⟨_, _, _, c3', _⟩ := blk4 hpr
          unfold Oper.wp
          go_simp
          exact hK _ _ rfl (hR.other 3 57 _ (by decide) (by decide)) (fun _ _ h => h)
        | 4, _ =>
          cases ho
          have e : a'.tmps.getD 7 undef = .int .i64 j := hslot 7 (by decide)
          unfold Oper.wp
          go_simp
          exact hK _ _ rfl (hR.other 4 58 _ (by decide) (by decide)) (fun _ _ h => h)
        | 5, _ =>
          cases ho
          have e : a'.tmps.getD 2 undef = .pointer (some ⟨w.heap.size, 0, none⟩) := hslot 2 (by decide)
          unfold Oper.wp
          go_simp
          exact hK _ _ rfl (hR.other 5 59 _ (by decide) (by decide)) (fun _ _ h => h)
        | 6, _ =>
          cases ho
          have e : a'.tmps.getD 59 undef = .pointer (some ⟨w.heap.size, 3, none⟩) := hdep 5 (by decide) (by kernel_rfl)
          obtain ⟨_, _, _, c3', _⟩ := blk4 hpr
          unfold Oper.wp
          go_simp
          exact hK _ _ rfl (hR.other 6 60 _ (by decide) (by decide)) (fun _ _ h => h)
        | 7, _ =>
          cases ho
          have e : a'.tmps.getD 60 undef = .slice r.lo ln r.lc := hdep 6 (by decide) (by kernel_rfl)
          unfold Oper.wp
          go_simp
          exact hK _ _ rfl (hR.other 7 61 _ (by decide) (by decide)) (fun _ _ h => h)
        | 8, _ =>
          cases ho
          have e1 : a'.tmps.getD 58 undef = .int .i64 j := hdep 4 (by decide) (by kernel_rfl)
          have e2 : a'.tmps.getD 61 undef = .int .i64 ln := hdep 7 (by decide) (by kernel_rfl)
          have n0 : ¬ ln = 0 := by omega
          unfold Oper.wp
          go_simp
          exact hK _ _ rfl (hR.other 8 62 _ (by decide) (by decide)) (fun _ _ h => h)
        | 9, _ =>
          cases ho
          have e1 : a'.tmps.getD 57 undef = .slice r.lo ln r.lc := hdep 3 (by decide) (by kernel_rfl)
          have e2 : a'.tmps.getD 62 undef = .int .i64 m := hdep 8 (by decide) (by kernel_rfl)
          rw [unhide HLO] at e1
          have i5 : (m : Int) < (ln : Int) := by omega
          unfold Oper.wp
          go_simp
          exact hK _ _ rfl (hR.other 9 63 _ (by decide) (by decide)) (fun _ _ h => h)
        | 10, _ =>
          cases ho
          have e : a'.tmps.getD 63 undef = .pointer (some ⟨g, off + m * 4, none⟩) := hdep 9 (by decide) (by kernel_rfl)
          obtain ⟨y0, y1, y2, y3⟩ := h7.below hbw hg
          unfold Oper.wp
          go_simp
          exact hK _ _ rfl (hR.other 10 64 _ (by decide) (by decide)) (fun _ _ h => h)
        | 11, _ =>
          cases ho
          have e : a'.tmps.getD 1 undef = .int .i64 ((d : Int) + 1) := hslot 1 (by decide)
          unfold Oper.wp
          go_simp
          exact hK _ _ rfl (hR.other 11 65 _ (by decide) (by decide)) (fun _ _ h => h)
        | 12, _ =>
          cases ho
          have e : a'.tmps.getD 65 undef = .int .i64 ((d : Int) + 1) := hdep 11 (by decide) (by kernel_rfl)
          unfold Oper.wp
          go_simp
          exact hK _ _ (by unfold trSp; simp only [Value.int.injEq, true_and, IntKind.wrap_i64]; omega) (hR.other 12 66 _ (by decide) (by decide)) (fun _ _ h => h)
        | 13, _ =>
          cases ho
          have e1 : a'.tmps.getD 64 undef = rk.val := hdep 10 (by decide) (by kernel_rfl)
          have e2 : a'.tmps.getD 66 undef = .int .i64 d := hdep 12 (by decide) (by kernel_rfl)
          have C := CK w' hbw
          unfold R4.val at e1
          clear CK
          unfold Oper.wp
          go_simp
          refine C.mono ?_
          rintro e w3 ⟨q, rfl, b3, hq⟩
          exact hK _ _ trivial (hR.call hL (by rw [hsz]; exact Nat.le_of_ble_eq_true (by kernel_rfl)) b3 hq) trSp_up
        | 14, _ =>
          cases ho
          have h13 : L 13 = true := hw 13 (by kernel_rfl)
          obtain ⟨q, e1, hq⟩ := hR.k13 h13 (hR.n15 (.inr (.inl hL)))
          have B14 := hR.build hL h13 (by rw [hsz]; exact Nat.le_of_ble_eq_true (by kernel_rfl)) e1 hq
          unfold R7.val at e1
          have e1' : a'.tmps[67]?.getD undef = .agg #[.int .i64 q.k, .bool q.b, .int .i64 q.n, .string q.s, .string q.t, .string q.i, .slice q.lo q.ll q.lc] := by simpa using e1
          have HB := hide B14
          clear B14 hq hsz
          unfold Oper.wp
          go_simp
          exact hK _ _ trivial (unhide HB) trSp_up
        | 15, _ =>
          cases ho
          have h13 : L 13 = true := hw 13 (by kernel_rfl)
          have h14 : L 14 = true := hw 14 (by kernel_rfl)
          have h1 : L 1 = true := hw 1 (by kernel_rfl)
          obtain ⟨q, blk, e1, hblk, hc, hq⟩ := hR.k14 h14 hL
          have e2 : a'.tmps.getD 55 undef = lv := hdep 1 (by decide) (by kernel_rfl)
          have hp := hR.pre hL
          have hcell : ∀ jj u, q.cells[jj]? = some u → w'.cell? ((⟨blk, 0, none⟩ : Addr).add jj) = some u := by
            intro jj u hu
            rw [Addr.add_lit, Nat.zero_add, Lib.cell_of_heap hc]
            simpa [R7.cells] using hu
          obtain ⟨v', w'', hr, hown', hgr, _, hat⟩ := run_append_own_at (P := Tryz.prog) w' (w.heap.size + 3) 40 40 42 i0 _ 7 96 Tryz.underlying40 hi hz0 hz1 hz2 rfl (by decide) lv rs.length (cellsE rs) (owns_below hp (unhide HH).own) ⟨blk, 0, none⟩ 1 1 q.cells rfl hcell (cellE_one q) (by unfold maxLen; omega) (by omega) (by have := hp.size; omega)
          have hs : a'.eval (.tmp 55) = lv := e2
          have hx : a'.eval (.tmp 68) = .slice (some ⟨blk, 0, none⟩) 1 1 := e1
          unfold Oper.wp execOp
          simp only [resolve, invoke, builtin, Sem.run_bind, Sem.run_pure, Result.andThen_ok, List.map_toArray, List.map_cons, List.map_nil, hs, hx, hr]
          exact hK _ _ trivial (hR.app (unhide HH) hL h13 h14 h1 (by rw [hsz]; exact Nat.le_of_ble_eq_true (by kernel_rfl)) hq hown' hgr hat) trSp_up
        | 16, _ =>
          cases ho
          have e : a'.tmps.getD 5 undef = .pointer (some ⟨w.heap.size + 2, 0, none⟩) := hslot 5 (by decide)
          unfold Oper.wp
          go_simp
          exact hK _ _ rfl (hR.other 16 70 _ (by decide) (by decide)) (fun _ _ h => h)
        | i + 17, h => exact absurd h (by omega)
      · intro i o hi' ho L a' w' hL hw hR hdep K hK
        have : i = 17 := by
          have h := (List.getElem?_eq_some_iff.1 ho).1
          simp only [List.length_cons, List.length_nil] at h
          omega
        subst this
        cases ho
        have h15 : L 15 = true := hw 15 (by kernel_rfl)
        obtain ⟨v', q, e1, hi2⟩ := hR.k15 h15 hL
        have e2 : a'.tmps.getD 70 undef = .pointer (some ⟨w.heap.size + 2, 6, none⟩) := hdep 16 (by decide) (by kernel_rfl)
        have hST := hide (hR.store h15 hL e1)
        have hpe := hi2.pe
        unfold exObj at hpe
        obtain ⟨_, _, _, _, _, _, c6', cf⟩ := blk7 hpe
        obtain ⟨ao', cap', hv0⟩ := ownX_slice hi2.own
        have hv' : v' = .slice ao' (rs.length + 1) cap' := by rw [hv0, List.length_append]; rfl
        clear hv0
        subst hv'
        unfold Oper.wp
        go_simp
        exact hK _ (unhide hST) trSp_up undef
      · intro v L w5 hall hR hsp
        obtain ⟨v', q, hinv⟩ := hR.k17 (hall 17 (by decide))
        have HV := hide hinv
        have e0 : v 0 = _ := hsp 0 (by decide)
        have e1 : v 1 = _ := hsp 1 (by decide)
        have e2 : v 2 = _ := hsp 2 (by decide)
        have e3 : v 3 = _ := hsp 3 (by decide)
        have e4 : v 4 = _ := hsp 4 (by decide)
        have e5 : v 5 = _ := hsp 5 (by decide)
        have e6 : v 6 = _ := hsp 6 (by decide)
        have e7 : v 7 = _ := hsp 7 (by decide)
        have e8 : v 8 = _ := hsp 8 (by decide)
        have e9 : v 9 = _ := hsp 9 (by decide)
        have e10 : v 10 = _ := hsp 10 (by decide)
        have e11 : v 11 = _ := hsp 11 (by decide)
        have e12 : v 12 = _ := hsp 12 (by decide)
        have e16 : v 16 = _ := hsp 16 (by decide)
        clear hR hall hsp hinv CK
        simp only [putAll, dstOf, List.getElem?_cons_zero, List.getElem?_cons_succ, Option.bind_some, e0, e1, e2, e3, e4, e5, e6, e7, e8, e9, e10, e11, e12, e16]
        clear e0 e1 e2 e3 e4 e5 e6 e7 e8 e9 e10 e11 e12 e16
        simp only [Act.put, List.setIfInBounds_toArray, List.set_cons_succ, List.set_cons_zero]
        generalize v 13 = v13
        generalize v 14 = v14
        generalize v 15 = v15
        go_wp2
        go_roundw
        case rel => exact ⟨j + 1, v', rs ++ [q], hlt, by go_num, by rw [List.length_append, unhide HRS]; rfl, by rw [unhide HKX]; exact unhide HV⟩
        case measure =>
          simp only [intOf]
          omega
    · obtain rfl : j = N := by omega
      have i4 : ¬ (j : Int) < (j : Int) := by omega
      have hpe := H.pe
      have hpq := H.pq
      unfold exObj at hpe
      obtain ⟨y0, y1, y2, y3, y4, y5, y6, _⟩ := blk7 hpe
      obtain ⟨z0, z1, z2, z3, z4, z5, z6, zf⟩ := blk7 hpq
      obtain ⟨g, cap, hlv, _⟩ := nodeEnd (S := []) H (by omega) undef undef undef undef undef undef undef
      have HE := hide (fun v0 v1 v2 v3 v4 v5 v6 => nodeEnd (S := []) H (by omega) v0 v1 v2 v3 v4 v5 v6)
      subst hlv
      rw [hrs] at y6
      have hbl := H.below
      clear hpe hpq H
      go_wp2
      exact bodyPost_ret (v := R7.val ⟨6, false, 0, ⟨#[]⟩, ⟨#[]⟩, ⟨#[]⟩, some ⟨g, 0, none⟩, j, cap⟩) (by simp [results, Tryz.results8, go_sem, z0, z1, z2, z3, z4, z5, z6, R7.val]) rfl ⟨_, rfl, set7S_below hbl (Nat.le_succ _) _ _ _ _ _ _ _, by
        obtain ⟨g', cap', e, hI⟩ := unhide HE _ _ _ _ _ _ _
        rw [hrs] at e hI
        cases e
        exact hI⟩

theorem tree5_any : ∀ (d : Nat) (x : Rw) (r : R4) (w : World), d ≤ 1000 → IsR w r x →
    Calls Tryz.prog 8 #[r.val, .int .i64 d] w fun e w' => ∃ q : R7, e = .returned q.val ∧ Below w.heap.size w w' ∧ IsE w' (fun b => w.heap.size ≤ b) q (treeX d x) := by
  intro d
  induction d with
  | zero =>
    intro x r w hd hx
    obtain ⟨op, n, s, l⟩ := x
    exact tree_leaf 0 op n s l r w hx hd (.inl (by omega))
  | succ d ih =>
    intro x r w hd hx
    obtain ⟨op, n, s, l⟩ := x
    rw [treeX]
    by_cases hc : d = 0 ∨ l.length = 0
    · rw [if_pos hc]
      exact tree_leaf (d + 1) op n s l r w hx hd (hc.imp (fun h => by omega) id)
    · rw [if_neg hc]
      have h1 : 1 ≤ d := by omega
      have h2 : 0 < l.length := by omega
      have IH := fun x r w => ih x r w (by omega)
      show Calls _ _ _ _ fun e w' => ∃ q : R7, e = .returned q.val ∧ Below w.heap.size w w' ∧ IsE w' (fun b => w.heap.size ≤ b) q (.mk (6 + op % 20) false 0 (arS (6 + op % 20) n s) [] [] (kidsX d l (arN (6 + op % 20) l.length)))
      have hk : 6 + op % 20 = 6 ∨ 6 + op % 20 = 7 ∨ 6 + op % 20 = 8 ∨ 6 + op % 20 = 10 ∨ 6 + op % 20 = 11 ∨ 6 + op % 20 = 12 ∨ 6 + op % 20 = 25 ∨ (6 + op % 20 = 9 ∨ (13 ≤ 6 + op % 20 ∧ 6 + op % 20 ≤ 24)) := by omega
      rcases hk with hk | hk | hk | hk | hk | hk | hk | hk
      · have := tree_k6 d op n s l r w hx (by omega) h1 h2 IH hk
        rw [hk]
        exact this
      · have := tree_k7 d op n s l r w hx (by omega) h1 h2 IH hk
        rw [hk]
        exact this
      · have := tree_k8 d op n s l r w hx (by omega) h1 h2 IH hk
        rw [hk]
        exact this
      · have := tree_k10 d op n s l r w hx (by omega) h1 h2 IH hk
        rw [hk]
        exact this
      · have := tree_k11 d op n s l r w hx (by omega) h1 h2 IH hk
        rw [hk]
        exact this
      · have := tree_k12 d op n s l r w hx (by omega) h1 h2 IH hk
        rw [hk]
        exact this
      · have := tree_k25 d op n s l r w hx (by omega) h1 h2 IH hk
        rw [hk]
        exact this
      · have := tree_two d op n s l r w hx (by omega) h1 h2 IH hk
        have e1 : arS (6 + op % 20) n s = [] := by unfold arS; rw [if_neg (by omega), if_neg (by omega)]
        have e2 : arN (6 + op % 20) l.length = 2 := by unfold arN; rw [if_neg (by omega), if_neg (by omega), if_neg (by omega)]
        rw [e1, e2]
        exact this
end Go.Proofs.YtacljmckohbjaaaGreat
