/-
  parse's reader: comparisons.
-/
import Derived.Test.YtlakgnnjokienaaGreatDoorPaM
import Derived.Test.YtlakgnnjokienaaGreatDoorPaO
import Derived.Deep.RegionHeld
namespace Go.Proofs.YtlakgnnjokienaaGreatDoor
open Go.RowKit

theorem run_index_cmp (i : Nat) (hi : i < 7) : ∃ (kd : Int) (tx : ByteArray) (op : Int), sCmp[i]? = some (kd, tx.data.toList, op) ∧ kd ≠ 0 ∧ ∀ W : World, (Instr.index 88 (.agg cmpA) (.int .i64 (i : Int))).run Tryz.prog W = .ok (.agg #[.int .i64 kd, .string tx, .int .i64 op]) W := by
  match i, hi with
  | 0, _ => exact ⟨4, ⟨#[61, 61]⟩, 20, rfl, by decide, fun W => by kernel_rfl⟩
  | 1, _ => exact ⟨4, ⟨#[33, 61]⟩, 21, rfl, by decide, fun W => by kernel_rfl⟩
  | 2, _ => exact ⟨4, ⟨#[60]⟩, 16, rfl, by decide, fun W => by kernel_rfl⟩
  | 3, _ => exact ⟨4, ⟨#[60, 61]⟩, 17, rfl, by decide, fun W => by kernel_rfl⟩
  | 4, _ => exact ⟨4, ⟨#[62]⟩, 18, rfl, by decide, fun W => by kernel_rfl⟩
  | 5, _ => exact ⟨4, ⟨#[62, 61]⟩, 19, rfl, by decide, fun W => by kernel_rfl⟩
  | 6, _ => exact ⟨1, ⟨#[105, 110]⟩, 22, rfl, by decide, fun W => by kernel_rfl⟩

/-- None of the first k stands there. -/
def noneS (k : Nat) (st : St) : Prop := ∀ (j : Nat) (kd : Int) (tx : List UInt8) (op : Int), j < k → sCmp[j]? = some (kd, tx, op) → isTS kd tx st = false
theorem pick_drop (ts : List Tok) : ∀ (l : List (Int × List UInt8 × Int)) (k : Nat) (kd : Int) (tx : List UInt8) (op : Int), (∀ (j : Nat) (kd : Int) (tx : List UInt8) (op : Int), j < k → l[j]? = some (kd, tx, op) → isT kd tx ts = false) → l[k]? = some (kd, tx, op) → isT kd tx ts = true → pickT l ts = some op
  | [], k, _, _, _, _, h, _ => by simp at h
  | (a, b, c) :: l, 0, kd, tx, op, _, h, ht => by
    simp only [List.getElem?_cons_zero, Option.some.injEq, Prod.mk.injEq] at h
    obtain ⟨rfl, rfl, rfl⟩ := h
    rw [pickT, ht]
    rfl
  | (a, b, c) :: l, k + 1, kd, tx, op, hn, h, ht => by
    rw [pickT, hn 0 a b c (by omega) rfl]
    exact pick_drop ts l k kd tx op (fun j a b c hj hb => hn (j + 1) a b c (by omega) (by simpa using hb)) (by simpa using h) ht
theorem pick_none (ts : List Tok) : ∀ (l : List (Int × List UInt8 × Int)), (∀ (j : Nat) (kd : Int) (tx : List UInt8) (op : Int), l[j]? = some (kd, tx, op) → isT kd tx ts = false) → pickT l ts = none
  | [], _ => rfl
  | (a, b, c) :: l, hn => by
    rw [pickT, hn 0 a b c rfl]
    exact pick_none ts l fun j a b c hb => hn (j + 1) a b c (by simpa using hb)

theorem outS_need (k : Int) (g : List UInt8 → Ex) (ts : List Tok) : outS ((need k ts).map fun a => (g a.1.s, a.2)) = needSt k (some ts) ∧ ∀ y r, ((need k ts).map fun a => (g a.1.s, a.2)) = some (y, r) → y = g (needTok k (some ts)).s := by
  by_cases h : (hd ts 0).k = k
  · have e1 : need k ts = some (hd ts 0, ts.tail) := if_pos h
    have e2 : needSt k (some ts) = some ts.tail := if_pos h
    have e3 : needTok k (some ts) = hd ts 0 := if_pos h
    rw [e1, e2, e3]
    exact ⟨rfl, fun y r hx => by cases hx; rfl⟩
  · have e1 : need k ts = none := if_neg h
    have e2 : needSt k (some ts) = none := if_neg h
    rw [e1, e2]
    exact ⟨rfl, fun y r hx => by cases hx⟩

theorem blk3 {w : World} {b : Nat} {v0 v1 v2 : Value} {T : TypeId} (h : w.heap[b]? = some (.cells #[v0, v1, v2] T (0, 0))) :
    w.cell? ⟨b, 0, none⟩ = some v0 ∧ w.cell? ⟨b, 1, none⟩ = some v1 ∧ w.cell? ⟨b, 2, none⟩ = some v2 :=
  ⟨by rw [Lib.cell_of_heap h]; rfl, by rw [Lib.cell_of_heap h]; rfl, by rw [Lib.cell_of_heap h]; rfl⟩

set_option maxHeartbeats 4000000 in
set_option maxRecDepth 1000000 in
theorem rel_does (E : Pr Ex) (n : Nat) (hE : Short E) (HA : Does 57 (addP E) n) : Does 50 (relP E) n := by
  intro st w rb hn h
  have hlt := h.lt
  have b0 := new1 w (.cells #[.int .i64 0, .bool false, .int .i64 0, .string ⟨#[]⟩, .string ⟨#[]⟩, .string ⟨#[]⟩, .slice none 0 0] 28)
  have z0 : (w.alloc (.cells #[.int .i64 0, .bool false, .int .i64 0, .string ⟨#[]⟩, .string ⟨#[]⟩, .string ⟨#[]⟩, .slice none 0 0] 28)).heap[w.heap.size]? = some (.cells #[.int .i64 0, .bool false, .int .i64 0, .string ⟨#[]⟩, .string ⟨#[]⟩, .string ⟨#[]⟩, .slice none 0 0] 28 (0, 0)) := alloc_heap _ _
  have hn0 : w.heap.size ≠ rb := by omega
  have U0 := HA st _ rb hn (h.below b0)
  have hle := short_len (addP_short hE) st
  have hF : st.bind (relP E) = (st.bind (addP E)).bind fun p => relT E p.1 p.2 := by
    cases st with
    | none => rfl
    | some ts => rfl
  rw [hF]
  clear hF
  generalize st.bind (addP E) = o1 at *
  obtain ⟨F, hF0⟩ : ∃ F : Rs Ex, F = o1.bind fun p => relT E p.1 p.2 := ⟨_, rfl⟩
  rw [← hF0]
  have HF0 := hide hF0
  clear hF0
  unfold rp at U0 ⊢
  go_enter Tryz.func50, Tryz.ntmps50
  go_wp2_with fail
  generalize w.alloc _ = w0 at *
  refine U0.mono ?_
  rintro e w2 ⟨r1, rfl, k2, r2, hE1⟩
  have hw0 : w.heap.size < w0.heap.size := (Array.getElem?_eq_some_iff.1 z0).1
  have hw2 := k2.size
  have n3 := new1 w2 (.cells #[.int .i64 r1.k, .bool r1.b, .int .i64 r1.n, .string r1.s, .string r1.t, .string r1.i, .slice r1.lo r1.ll r1.lc] 28)
  have Z3 : (w2.alloc (.cells #[.int .i64 r1.k, .bool r1.b, .int .i64 r1.n, .string r1.s, .string r1.t, .string r1.i, .slice r1.lo r1.ll r1.lc] 28)).heap[w2.heap.size]? = some (.cells #[.int .i64 r1.k, .bool r1.b, .int .i64 r1.n, .string r1.s, .string r1.t, .string r1.i, .slice r1.lo r1.ll r1.lc] 28 (0, 0)) := alloc_heap _ _
  have Z2 := kept_of_below n3 (k2.kept hn0 z0)
  have K3 := ((Keep.of_below (rb := rb) b0).trans k2).trans (.of_below n3)
  have R3 := r2.below n3
  have HE1 : Hid (∀ x ts, o1 = some (x, ts) → IsE (w2.alloc (.cells #[.int .i64 r1.k, .bool r1.b, .int .i64 r1.n, .string r1.s, .string r1.t, .string r1.i, .slice r1.lo r1.ll r1.lc] 28)) (fun b => b ≠ w2.heap.size ∧ w.heap.size < b) r1 x) := hide fun x ts hx => IsE.turn n3.size (fun b hb hb2 => ⟨n3.block b hb2, by omega, by omega⟩) r1 x (hE1 x ts hx)
  clear hE1 r2 U0
  obtain ⟨hC1, ty, fr, hA⟩ := R3.2
  unfold R7.val
  go_upto_region 2 with fail
  generalize w2.alloc _ = w3 at *
  clear n3 k2
  go_wp2_with (refine wpList_load_row rfl 88 _ rfl 1 rfl ty cmpA fr _ hA Tryz.underlying88 rfl (by kernel_rfl) ?_)
  have hn3 : w2.heap.size ≠ rb := by omega
  have hlen1 : stLen (outS o1) < n := by omega
  clear hA fr ty hC1
  go_loopw [9] (fun iv wr => ∃ k : Nat, k ≤ 7 ∧ iv = .int .i64 k ∧ Keep rb w wr ∧ RdAt wr rb (outS o1) ∧ wr.heap[w2.heap.size]? = some (.cells #[.int .i64 r1.k, .bool r1.b, .int .i64 r1.n, .string r1.s, .string r1.t, .string r1.i, .slice r1.lo r1.ll r1.lc] 28 (0, 0)) ∧ wr.heap[w.heap.size]? = some (.cells #[.int .i64 0, .bool false, .int .i64 0, .string ⟨#[]⟩, .string ⟨#[]⟩, .string ⟨#[]⟩, .slice none 0 0] 28 (0, 0)) ∧ Hid (noneS k (outS o1)) ∧
      Hid (∀ x ts, o1 = some (x, ts) → IsE wr (fun b => b ≠ w2.heap.size ∧ w.heap.size < b) r1 x)) (fun iv _ => 7 - (intOf iv).toNat)
  case atStart => exact ⟨0, Nat.zero_le _, rfl, K3, R3, Z3, Z2, hide fun j _ _ _ hj => by omega, HE1⟩
  case round =>
    obtain ⟨k, hk, rfl, hK, hR, Y3, Y2, HN, HE⟩ := hrel
    by_cases hlt7 : k < 7
    · have i1 : (k : Int) < 7 := by omega
      obtain ⟨kd, tx, op, hsc, hkd, hix⟩ := run_index_cmp k hlt7
      have n4 := new1 wr (.cells #[.int .i64 kd, .string tx, .int .i64 op] 87)
      have Y4 : (wr.alloc (.cells #[.int .i64 kd, .string tx, .int .i64 op] 87)).heap[wr.heap.size]? = some (.cells #[.int .i64 kd, .string tx, .int .i64 op] 87 (0, 0)) := alloc_heap _ _
      have R4 := hR.below n4
      have Y3' := kept_of_below n4 Y3
      have Y2' := kept_of_below n4 Y2
      have K4 := hK.trans (.of_below n4)
      have hwr : w2.heap.size < wr.heap.size := (Array.getElem?_eq_some_iff.1 Y3).1
      have T := take_any (outS o1) _ rb kd tx hkd R4
      unfold rp at T
      cases c1 : isTS kd tx.data.toList (outS o1) with
      | true =>
        obtain ⟨ts, ho, hl, g1, g2⟩ := isTS_sg hkd c1
        obtain ⟨x, rfl⟩ := outS_some ho
        have hp : pickT sCmp ts = some op := pick_drop ts sCmp k kd tx.data.toList op (fun j a b c hj hb => unhide HN j a b c hj hb) hsc g1
        have hF : F = op2 op x (addP E ts.tail) := by
          rw [unhide HF0]
          show relT E x ts = _
          unfold relT
          rw [hp]
        have HF := hide hF
        rw [c1, g2] at T
        have htl : stLen (some ts.tail) < n := by have : ts.length < n := hlen1; simp [stLen]; omega
        have U : ∀ w', RdAt w' rb (some ts.tail) → Calls Tryz.prog 57 #[.pointer (some ⟨rb, 0, none⟩)] w' (Res rb w' (addP E ts.tail)) := fun w' h' => HA (some ts.tail) w' rb htl h'
        have Hx := hide (unhide HE x ts rfl)
        generalize addP E ts.tail = o2 at *
        generalize (some ts.tail : St) = s1 at *
        have NO := fun ao n c w => node_any op ao n c w
        clear c1 g1 g2 HN HE hp hF htl hlen1 ho hsc hle
        go_upto_region 5 with fail
        generalize wr.alloc _ = w4 at *
        obtain ⟨c0, c1, c2⟩ := blk3 Y4
        go_wp2_with fail
        refine T.mono ?_
        rintro e w5 ⟨rfl, k5, r5⟩
        have hn4 : wr.heap.size ≠ rb := by omega
        obtain ⟨d0, d1, d2⟩ := blk3 (k5.kept hn4 Y4)
        obtain ⟨u0, u1, u2, u3, u4, u5, u6, _⟩ := blk7 (k5.kept hn3 Y3')
        have K5 := K4.trans k5
        have Z5 := k5.kept hn3 Y3'
        have Q5 := k5.kept hn4 Y4
        have hz5 : wr.heap.size < w5.heap.size := (Array.getElem?_eq_some_iff.1 Q5).1
        clear c0 c1 c2 T hix
        have hs0 : ¬ w.heap.size = w2.heap.size := by omega
        have hs0a : ¬ w2.heap.size = w.heap.size := by omega
        have hs1 : ¬ w.heap.size = wr.heap.size := by omega
        have hs1a : ¬ wr.heap.size = w.heap.size := by omega
        have B5 := k5.kept hn0 Y2'
        go_wp2_with fail
        go_region_held (fun w' => w'.cell? ⟨wr.heap.size, 2, none⟩ = some (.int .i64 op) ∧ w'.cell? ⟨w2.heap.size, 0, none⟩ = some (.int .i64 r1.k) ∧ w'.cell? ⟨w2.heap.size, 1, none⟩ = some (.bool r1.b) ∧ w'.cell? ⟨w2.heap.size, 2, none⟩ = some (.int .i64 r1.n) ∧ w'.cell? ⟨w2.heap.size, 3, none⟩ = some (.string r1.s) ∧ w'.cell? ⟨w2.heap.size, 4, none⟩ = some (.string r1.t) ∧ w'.cell? ⟨w2.heap.size, 5, none⟩ = some (.string r1.i) ∧ w'.cell? ⟨w2.heap.size, 6, none⟩ = some (.slice r1.lo r1.ll r1.lc)) (go_keep) (first
          | (go_at_call 57
             refine (U _ r5.drew).mono ?_
             rintro e w6 ⟨r', rfl, k6, r6, hE6⟩
             have HE6 := hide hE6
             clear hE6
             obtain ⟨v0, v1, v2, v3, v4, v5, v6, _⟩ := blk7 (k6.kept hn3 Z5)
             obtain ⟨q0, q1, q2⟩ := blk3 (k6.kept hn4 Q5)
             unfold R7.val)
          | (go_at_call 24
             refine (NO _ _ _ _).mono ?_
             rintro e w8 ⟨rfl, b8⟩
             have n7 := new1 w6 (arr2 r1 r')
             have b68 := n7.trans (b8.mono n7.size)
             obtain ⟨y0, y1, y2, y3, y4, y5, y6, _⟩ := blk7 (kept_of_below b68 (k6.kept hn3 Z5))
             obtain ⟨p0, p1, p2⟩ := blk3 (kept_of_below b68 (k6.kept hn4 Q5))
             obtain ⟨x0, x1, x2, x3, x4, x5, x6, xf⟩ := blk7 (kept_of_below b68 (k6.kept hn0 B5))))
        have K8 := (K5.drew.trans k6).trans (.of_below b68)
        have hz6 : w5.heap.size ≤ w6.heap.size := k6.size
        have HI : Hid (∀ y r'', F = some (y, r'') → ∀ v0 v1 v2 v3 v4 v5 v6, IsE (set7 w8 w.heap.size v0 v1 v2 v3 v4 v5 v6) (fun b => w.heap.size ≤ b) ⟨op, false, 0, ⟨#[]⟩, ⟨#[]⟩, ⟨#[]⟩, some ⟨w6.heap.size, 0, none⟩, 2, 2⟩ y) := hide (by
          intro y r'' hx v0 v1 v2 v3 v4 v5 v6
          rw [unhide HF] at hx
          cases o2 with
          | none => cases hx
          | some p =>
            cases hx
            have hx6 : IsE w6 (fun b => b ≠ w2.heap.size ∧ w.heap.size < b) r1 x := IsE.turn (by have := n4.size; have := k5.size; omega) (fun b hb hb2 => ⟨(k6.block b (by show b < w5.heap.size; have := k5.size; have := n4.size; omega) (by omega)).trans ((k5.block b (by have := n4.size; omega) (by omega)).trans (n4.block b hb2)), hb⟩) r1 x (unhide Hx)
            have := isE_fin2 op (n := w.heap.size) (b3 := w.heap.size) hx6 (unhide HE6 p.1 p.2 rfl) (fun b hb => ⟨by omega, hb.2⟩) (fun b hb => by have hb' : w5.heap.size ≤ b := hb; omega) (by omega) (by omega) b8 v0 v1 v2 v3 v4 v5 v6
            exact IsE.turn (Nat.le_refl _) (fun b hb _ => ⟨rfl, by omega⟩) _ _ this)
        clear NO U
        go_wp2
        exact bodyPost_ret (v := R7.val ⟨op, false, 0, ⟨#[]⟩, ⟨#[]⟩, ⟨#[]⟩, some ⟨w6.heap.size, 0, none⟩, 2, 2⟩) (by simp [results, Tryz.results50, go_sem, x0, x1, x2, x3, x4, x5, x6, R7.val]) rfl ⟨_, rfl, K8.set7 (Nat.le_refl _) _ _ _ _ _ _ _, by rw [unhide HF, outS_op2]; exact (r6.below b68).set7 hlt _ _ _ _ _ _ _, fun y r'' hx => unhide HI y r'' hx _ _ _ _ _ _ _⟩
      | false =>
        obtain ⟨g1, _⟩ := isTS_no c1
        have HN2 : Hid (noneS (k + 1) (outS o1)) := hide fun j a b c hj hb => by
          by_cases e : j = k
          · subst e
            rw [hsc] at hb
            cases hb
            exact c1
          · exact unhide HN j a b c (by omega) hb
        rw [c1, g1] at T
        clear c1 g1 HN hsc
        go_upto_region 5 with fail
        generalize wr.alloc _ = w4 at *
        obtain ⟨c0, c1, c2⟩ := blk3 Y4
        go_wp2_with fail
        refine T.mono ?_
        rintro e w5 ⟨rfl, k5, r5⟩
        clear c0 c1 c2 T hix
        go_wp2
        go_roundw
        case rel =>
          exact ⟨k + 1, by omega, by go_num, K4.trans k5, r5, k5.kept hn3 Y3', k5.kept hn0 Y2', HN2, hide fun x ts hx => IsE.turn (by have := n4.size; have := k5.size; omega) (fun b hb hb2 => ⟨(k5.block b (by have := n4.size; omega) (by omega)).trans (n4.block b hb2), hb⟩) r1 x (unhide HE x ts hx)⟩
        case measure =>
          simp only [intOf]
          omega
    · have e7 : k = 7 := by omega
      subst e7
      have i1 : ¬ (7 : Int) < 7 := by omega
      have W1 : Calls Tryz.prog 21 #[.pointer (some ⟨rb, 0, none⟩), .string ⟨#[104, 97, 115]⟩] wr fun e w' => e = .returned (.bool (isTS 1 cHas (outS o1))) ∧ Keep rb wr w' ∧ RdAt w' rb (aft 1 cHas (outS o1)) := word_any (outS o1) wr rb ⟨#[104, 97, 115]⟩ hR
      have W2 : ∀ w1, RdAt w1 rb (outS o1) → Calls Tryz.prog 21 #[.pointer (some ⟨rb, 0, none⟩), .string ⟨#[108, 105, 107, 101]⟩] w1 fun e w' => e = .returned (.bool (isTS 1 cLike (outS o1))) ∧ Keep rb w1 w' ∧ RdAt w' rb (aft 1 cLike (outS o1)) := fun w1 h' => word_any (outS o1) w1 rb ⟨#[108, 105, 107, 101]⟩ h'
      cases c1 : isTS 1 cHas (outS o1) with
      | true =>
        obtain ⟨ts, ho, hl, g1, g2⟩ := isTS_sg (by decide) c1
        obtain ⟨x, rfl⟩ := outS_some ho
        have hp : pickT sCmp ts = none := pick_none ts sCmp fun j a b c hb => unhide HN j a b c (List.getElem?_eq_some_iff.1 hb).1 hb
        have hF : F = (need 1 ts.tail).map fun a => (eTx 8 a.1.s [x], a.2) := by
          rw [unhide HF0]
          show relT E x ts = _
          unfold relT
          rw [hp]
          rw [show wd cHas ts = true from g1, if_pos rfl]
        obtain ⟨q1, q2⟩ := outS_need 1 (fun s => eTx 8 s [x]) ts.tail
        have HF1 := hide (show outS F = needSt 1 (some ts.tail) by rw [hF]; exact q1)
        have HF2 := hide (show ∀ y r, F = some (y, r) → y = eTx 8 (needTok 1 (some ts.tail)).s [x] from fun y r hx => q2 y r (by rw [hF] at hx; exact hx))
        have NM := fun w' h' => name_any (some ts.tail) w' rb h'
        unfold rp at NM
        have Hx := hide (unhide HE x ts rfl)
        rw [c1, g2] at W1
        obtain ⟨y, hy⟩ : ∃ y : ByteArray, y = ⟨(needTok 1 (some ts.tail)).s.toArray⟩ := ⟨_, rfl⟩
        rw [← hy] at NM
        have HY := hide hy
        generalize needTok 1 (some ts.tail) = tk at *
        generalize needSt 1 (some ts.tail) = s2 at *
        generalize (some ts.tail : St) = s1 at *
        have NO := fun ao n c w => node_any 8 ao n c w
        clear c1 g1 g2 HN HE hp hF ho hlen1 q1 q2 hle hy W2
        go_wp2_with fail
        refine W1.mono ?_
        rintro e w5 ⟨rfl, k5, r5⟩
        have Y3' := k5.kept hn3 Y3
        have Y2' := k5.kept hn0 Y2
        obtain ⟨u0, u1, u2, u3, u4, u5, u6, _⟩ := blk7 Y3'
        have K5 := hK.trans k5
        have hz5 : w2.heap.size < w5.heap.size := (Array.getElem?_eq_some_iff.1 Y3').1
        go_wp2_with fail
        refine (NO _ _ _ _).mono ?_
        rintro e w7 ⟨rfl, b7⟩
        have n6 := new1 w5 (.cells #[.int .i64 r1.k, .bool r1.b, .int .i64 r1.n, .string r1.s, .string r1.t, .string r1.i, .slice r1.lo r1.ll r1.lc] 28)
        have b57 := n6.trans (b7.mono n6.size)
        have A7 := kept_of_below b7 (alloc_heap w5 (.cells #[.int .i64 r1.k, .bool r1.b, .int .i64 r1.n, .string r1.s, .string r1.t, .string r1.i, .slice r1.lo r1.ll r1.lc] 28))
        have X3 := kept_of_below b57 Y3'
        have X2 := kept_of_below b57 Y2'
        obtain ⟨m0, m1, m2, m3, m4, m5, m6, mf⟩ := blk7 X3
        have hz7 : w5.heap.size < w7.heap.size := (Array.getElem?_eq_some_iff.1 A7).1
        have K8 := (K5.trans (.of_below b57)).set7 (b := w2.heap.size) (by omega) (.int .i64 8) (.bool false) (.int .i64 0) (.string ⟨#[]⟩) (.string ⟨#[]⟩) (.string ⟨#[]⟩) (.slice (some ⟨w5.heap.size, 0, none⟩) 1 1)
        have R8 := (r5.below b57).set7 (b := w2.heap.size) (by omega) (.int .i64 8) (.bool false) (.int .i64 0) (.string ⟨#[]⟩) (.string ⟨#[]⟩) (.string ⟨#[]⟩) (.slice (some ⟨w5.heap.size, 0, none⟩) 1 1)
        have V3 := set7_at X3 (.int .i64 8) (.bool false) (.int .i64 0) (.string ⟨#[]⟩) (.string ⟨#[]⟩) (.string ⟨#[]⟩) (.slice (some ⟨w5.heap.size, 0, none⟩) 1 1)
        have V2 := (set7_heap w7 w2.heap.size w.heap.size (.int .i64 8) (.bool false) (.int .i64 0) (.string ⟨#[]⟩) (.string ⟨#[]⟩) (.string ⟨#[]⟩) (.slice (some ⟨w5.heap.size, 0, none⟩) 1 1) (by omega)).trans X2
        have VA := (set7_heap w7 w2.heap.size w5.heap.size (.int .i64 8) (.bool false) (.int .i64 0) (.string ⟨#[]⟩) (.string ⟨#[]⟩) (.string ⟨#[]⟩) (.slice (some ⟨w5.heap.size, 0, none⟩) 1 1) (by omega)).trans A7
        have HX8 := hide (show IsE (set7 w7 w2.heap.size (.int .i64 8) (.bool false) (.int .i64 0) (.string ⟨#[]⟩) (.string ⟨#[]⟩) (.string ⟨#[]⟩) (.slice (some ⟨w5.heap.size, 0, none⟩) 1 1)) (fun b => b ≠ w2.heap.size ∧ w.heap.size < b) r1 x from (IsE.turn (by have := k5.size; have := b57.size; omega) (fun b hb hb2 => ⟨(b57.block b (by have := k5.size; omega)).trans (k5.block b hb2 (by omega)), hb⟩) r1 x (unhide Hx)).over7 (fun b hb => hb) _ _ _ _ _ _ _)
        unfold Go.Proofs.YtlakgnnjokienaaGreatDoor.set7 at K8 R8 V3 V2 VA HX8
        clear u0 u1 u2 u3 u4 u5 u6 NO
        go_upto_region 10 with fail
        clear m0 m1 m2 m3 m4 m5 m6 mf X3 X2 A7
        generalize World.setCell _ _ _ = w8 at *
        go_wp2_with fail
        refine (NM _ R8).mono ?_
        rintro e w9 ⟨rfl, k9, r9⟩
        have V3 := k9.kept hn3 V3
        have V2 := k9.kept hn0 V2
        have VA := k9.kept (by omega) VA
        obtain ⟨m0, m1, m2, m3, m4, m5, m6, mf⟩ := blk7 V3
        have K10 := (K8.trans k9).setCell (p := ⟨w2.heap.size, 3, none⟩) (.inr (by show w.heap.size ≤ w2.heap.size; omega)) (.string y)
        have R10 := r9.setCell (p := ⟨w2.heap.size, 3, none⟩) (by show rb < w2.heap.size; omega) (.string y)
        have U3 : (w9.setCell ⟨w2.heap.size, 3, none⟩ (.string y)).heap[w2.heap.size]? = some (.cells #[.int .i64 8, .bool false, .int .i64 0, .string y, .string ⟨#[]⟩, .string ⟨#[]⟩, .slice (some ⟨w5.heap.size, 0, none⟩) 1 1] 28 (0, 0)) := by simp [World.setCell, Array.getElem?_modify, V3]
        have U2 := (Below.heap_setCell w9 ⟨w2.heap.size, 3, none⟩ (.string y) w.heap.size (by show w.heap.size ≠ w2.heap.size; omega)).trans V2
        have UA := (Below.heap_setCell w9 ⟨w2.heap.size, 3, none⟩ (.string y) w5.heap.size (by show w5.heap.size ≠ w2.heap.size; omega)).trans VA
        have HXa := hide (show IsE (w9.setCell ⟨w2.heap.size, 3, none⟩ (.string y)) (fun b => b ≠ w2.heap.size ∧ w.heap.size < b) r1 x from IsE.turn (by have := k9.size; simp [World.setCell]; omega) (fun b hb hb2 => ⟨(Below.heap_setCell w9 ⟨w2.heap.size, 3, none⟩ (.string y) b hb.1).trans (k9.block b hb2 (by omega)), hb⟩) r1 x (unhide HX8))
        go_upto_region 14 with fail
        clear m0 m1 m2 m3 m4 m5 m6 mf V3 V2 VA
        generalize w9.setCell _ _ = wA at *
        obtain ⟨m0, m1, m2, m3, m4, m5, m6, _⟩ := blk7 U3
        obtain ⟨x0, x1, x2, x3, x4, x5, x6, xf⟩ := blk7 U2
        have hzA : w5.heap.size < wA.heap.size := (Array.getElem?_eq_some_iff.1 UA).1
        have HI : Hid (∀ y' r', F = some (y', r') → ∀ v0 v1 v2 v3 v4 v5 v6, IsE (set7 wA w.heap.size v0 v1 v2 v3 v4 v5 v6) (fun b => w.heap.size ≤ b) ⟨8, false, 0, y, ⟨#[]⟩, ⟨#[]⟩, some ⟨w5.heap.size, 0, none⟩, 1, 1⟩ y') := hide (by
          intro y' r' hx v0 v1 v2 v3 v4 v5 v6
          rw [unhide HF2 y' r' hx]
          refine isE_tx1 (r := r1) 8 _ y (unhide HY) (by omega) (by rw [set7_size]; exact hzA) (At7.of_blk (T := 28) ?_) ?_
          · rw [set7_heap _ _ _ _ _ _ _ _ _ _ (by omega)]
            exact UA
          · exact IsE.turn (by rw [set7_size]; exact Nat.le_refl _) (fun b hb _ => ⟨set7_heap _ _ _ _ _ _ _ _ _ _ (by omega), by omega⟩) r1 x (unhide HXa))
        go_wp2
        exact bodyPost_ret (v := R7.val ⟨8, false, 0, y, ⟨#[]⟩, ⟨#[]⟩, some ⟨w5.heap.size, 0, none⟩, 1, 1⟩) (by simp [results, Tryz.results50, go_sem, x0, x1, x2, x3, x4, x5, x6, R7.val]) rfl ⟨_, rfl, K10.set7 (Nat.le_refl _) _ _ _ _ _ _ _, by rw [unhide HF1]; exact R10.set7 hlt _ _ _ _ _ _ _, fun y' r' hx => unhide HI y' r' hx _ _ _ _ _ _ _⟩
      | false =>
        obtain ⟨h1a, h1b⟩ := isTS_no c1
        rw [c1, h1a] at W1
        clear h1a
        cases c2 : isTS 1 cLike (outS o1) with
        | true =>
          obtain ⟨ts, ho, hl, g1, g2⟩ := isTS_sg (by decide) c2
          obtain ⟨x, rfl⟩ := outS_some ho
          have hp : pickT sCmp ts = none := pick_none ts sCmp fun j a b c hb => unhide HN j a b c (List.getElem?_eq_some_iff.1 hb).1 hb
          have hF : F = (need 3 ts.tail).map fun a => (eTx 10 a.1.s [x], a.2) := by
            rw [unhide HF0]
            show relT E x ts = _
            unfold relT
            rw [hp]
            rw [show wd cHas ts = false from h1b ts rfl, if_neg (by simp), show wd cLike ts = true from g1, if_pos rfl]
          obtain ⟨q1, q2⟩ := outS_need 3 (fun s => eTx 10 s [x]) ts.tail
          have HF1 := hide (show outS F = needSt 3 (some ts.tail) by rw [hF]; exact q1)
          have HF2 := hide (show ∀ y r, F = some (y, r) → y = eTx 10 (needTok 3 (some ts.tail)).s [x] from fun y r hx => q2 y r (by rw [hF] at hx; exact hx))
          have NM := fun w' h' => str_any (some ts.tail) w' rb h'
          unfold rp at NM
          have Hx := hide (unhide HE x ts rfl)
          rw [c2, g2] at W2
          obtain ⟨y, hy⟩ : ∃ y : ByteArray, y = ⟨(needTok 3 (some ts.tail)).s.toArray⟩ := ⟨_, rfl⟩
          rw [← hy] at NM
          have HY := hide hy
          generalize needTok 3 (some ts.tail) = tk at *
          generalize needSt 3 (some ts.tail) = s2 at *
          generalize (some ts.tail : St) = s1 at *
          have NO := fun ao n c w => node_any 10 ao n c w
          clear c2 g1 g2 HN HE hp hF ho hlen1 q1 q2 hle hy h1b
          go_wp2_with fail
          refine W1.mono ?_
          rintro e w5a ⟨rfl, k5a, r5a⟩
          go_wp2_with fail
          refine (W2 _ r5a).mono ?_
          rintro e w5 ⟨rfl, k5b, r5⟩
          have k5 := k5a.trans k5b
          have Y3' := k5.kept hn3 Y3
          have Y2' := k5.kept hn0 Y2
          obtain ⟨u0, u1, u2, u3, u4, u5, u6, _⟩ := blk7 Y3'
          have K5 := hK.trans k5
          have hz5 : w2.heap.size < w5.heap.size := (Array.getElem?_eq_some_iff.1 Y3').1
          go_wp2_with fail
          refine (NO _ _ _ _).mono ?_
          rintro e w7 ⟨rfl, b7⟩
          have n6 := new1 w5 (.cells #[.int .i64 r1.k, .bool r1.b, .int .i64 r1.n, .string r1.s, .string r1.t, .string r1.i, .slice r1.lo r1.ll r1.lc] 28)
          have b57 := n6.trans (b7.mono n6.size)
          have A7 := kept_of_below b7 (alloc_heap w5 (.cells #[.int .i64 r1.k, .bool r1.b, .int .i64 r1.n, .string r1.s, .string r1.t, .string r1.i, .slice r1.lo r1.ll r1.lc] 28))
          have X3 := kept_of_below b57 Y3'
          have X2 := kept_of_below b57 Y2'
          obtain ⟨m0, m1, m2, m3, m4, m5, m6, mf⟩ := blk7 X3
          have hz7 : w5.heap.size < w7.heap.size := (Array.getElem?_eq_some_iff.1 A7).1
          have K8 := (K5.trans (.of_below b57)).set7 (b := w2.heap.size) (by omega) (.int .i64 10) (.bool false) (.int .i64 0) (.string ⟨#[]⟩) (.string ⟨#[]⟩) (.string ⟨#[]⟩) (.slice (some ⟨w5.heap.size, 0, none⟩) 1 1)
          have R8 := (r5.below b57).set7 (b := w2.heap.size) (by omega) (.int .i64 10) (.bool false) (.int .i64 0) (.string ⟨#[]⟩) (.string ⟨#[]⟩) (.string ⟨#[]⟩) (.slice (some ⟨w5.heap.size, 0, none⟩) 1 1)
          have V3 := set7_at X3 (.int .i64 10) (.bool false) (.int .i64 0) (.string ⟨#[]⟩) (.string ⟨#[]⟩) (.string ⟨#[]⟩) (.slice (some ⟨w5.heap.size, 0, none⟩) 1 1)
          have V2 := (set7_heap w7 w2.heap.size w.heap.size (.int .i64 10) (.bool false) (.int .i64 0) (.string ⟨#[]⟩) (.string ⟨#[]⟩) (.string ⟨#[]⟩) (.slice (some ⟨w5.heap.size, 0, none⟩) 1 1) (by omega)).trans X2
          have VA := (set7_heap w7 w2.heap.size w5.heap.size (.int .i64 10) (.bool false) (.int .i64 0) (.string ⟨#[]⟩) (.string ⟨#[]⟩) (.string ⟨#[]⟩) (.slice (some ⟨w5.heap.size, 0, none⟩) 1 1) (by omega)).trans A7
          have HX8 := hide (show IsE (set7 w7 w2.heap.size (.int .i64 10) (.bool false) (.int .i64 0) (.string ⟨#[]⟩) (.string ⟨#[]⟩) (.string ⟨#[]⟩) (.slice (some ⟨w5.heap.size, 0, none⟩) 1 1)) (fun b => b ≠ w2.heap.size ∧ w.heap.size < b) r1 x from (IsE.turn (by have := k5.size; have := b57.size; omega) (fun b hb hb2 => ⟨(b57.block b (by have := k5.size; omega)).trans (k5.block b hb2 (by omega)), hb⟩) r1 x (unhide Hx)).over7 (fun b hb => hb) _ _ _ _ _ _ _)
          unfold Go.Proofs.YtlakgnnjokienaaGreatDoor.set7 at K8 R8 V3 V2 VA HX8
          clear u0 u1 u2 u3 u4 u5 u6 NO
          go_upto_region 13 with fail
          clear m0 m1 m2 m3 m4 m5 m6 mf X3 X2 A7
          generalize World.setCell _ _ _ = w8 at *
          go_wp2_with fail
          refine (NM _ R8).mono ?_
          rintro e w9 ⟨rfl, k9, r9⟩
          have V3 := k9.kept hn3 V3
          have V2 := k9.kept hn0 V2
          have VA := k9.kept (by omega) VA
          obtain ⟨m0, m1, m2, m3, m4, m5, m6, mf⟩ := blk7 V3
          have K10 := (K8.trans k9).setCell (p := ⟨w2.heap.size, 3, none⟩) (.inr (by show w.heap.size ≤ w2.heap.size; omega)) (.string y)
          have R10 := r9.setCell (p := ⟨w2.heap.size, 3, none⟩) (by show rb < w2.heap.size; omega) (.string y)
          have U3 : (w9.setCell ⟨w2.heap.size, 3, none⟩ (.string y)).heap[w2.heap.size]? = some (.cells #[.int .i64 10, .bool false, .int .i64 0, .string y, .string ⟨#[]⟩, .string ⟨#[]⟩, .slice (some ⟨w5.heap.size, 0, none⟩) 1 1] 28 (0, 0)) := by simp [World.setCell, Array.getElem?_modify, V3]
          have U2 := (Below.heap_setCell w9 ⟨w2.heap.size, 3, none⟩ (.string y) w.heap.size (by show w.heap.size ≠ w2.heap.size; omega)).trans V2
          have UA := (Below.heap_setCell w9 ⟨w2.heap.size, 3, none⟩ (.string y) w5.heap.size (by show w5.heap.size ≠ w2.heap.size; omega)).trans VA
          have HXa := hide (show IsE (w9.setCell ⟨w2.heap.size, 3, none⟩ (.string y)) (fun b => b ≠ w2.heap.size ∧ w.heap.size < b) r1 x from IsE.turn (by have := k9.size; simp [World.setCell]; omega) (fun b hb hb2 => ⟨(Below.heap_setCell w9 ⟨w2.heap.size, 3, none⟩ (.string y) b hb.1).trans (k9.block b hb2 (by omega)), hb⟩) r1 x (unhide HX8))
          go_upto_region 14 with fail
          clear m0 m1 m2 m3 m4 m5 m6 mf V3 V2 VA
          generalize w9.setCell _ _ = wA at *
          obtain ⟨m0, m1, m2, m3, m4, m5, m6, _⟩ := blk7 U3
          obtain ⟨x0, x1, x2, x3, x4, x5, x6, xf⟩ := blk7 U2
          have hzA : w5.heap.size < wA.heap.size := (Array.getElem?_eq_some_iff.1 UA).1
          have HI : Hid (∀ y' r', F = some (y', r') → ∀ v0 v1 v2 v3 v4 v5 v6, IsE (set7 wA w.heap.size v0 v1 v2 v3 v4 v5 v6) (fun b => w.heap.size ≤ b) ⟨10, false, 0, y, ⟨#[]⟩, ⟨#[]⟩, some ⟨w5.heap.size, 0, none⟩, 1, 1⟩ y') := hide (by
            intro y' r' hx v0 v1 v2 v3 v4 v5 v6
            rw [unhide HF2 y' r' hx]
            refine isE_tx1 (r := r1) 10 _ y (unhide HY) (by omega) (by rw [set7_size]; exact hzA) (At7.of_blk (T := 28) ?_) ?_
            · rw [set7_heap _ _ _ _ _ _ _ _ _ _ (by omega)]
              exact UA
            · exact IsE.turn (by rw [set7_size]; exact Nat.le_refl _) (fun b hb _ => ⟨set7_heap _ _ _ _ _ _ _ _ _ _ (by omega), by omega⟩) r1 x (unhide HXa))
          go_wp2
          exact bodyPost_ret (v := R7.val ⟨10, false, 0, y, ⟨#[]⟩, ⟨#[]⟩, some ⟨w5.heap.size, 0, none⟩, 1, 1⟩) (by simp [results, Tryz.results50, go_sem, x0, x1, x2, x3, x4, x5, x6, R7.val]) rfl ⟨_, rfl, K10.set7 (Nat.le_refl _) _ _ _ _ _ _ _, by rw [unhide HF1]; exact R10.set7 hlt _ _ _ _ _ _ _, fun y' r' hx => unhide HI y' r' hx _ _ _ _ _ _ _⟩
        | false =>
          obtain ⟨h2a, h2b⟩ := isTS_no c2
          rw [c2, h2a] at W2
          have hF : F = o1 := by
            rw [unhide HF0]
            cases o1 with
            | none => rfl
            | some p =>
              obtain ⟨x, ts⟩ := p
              show relT E x ts = _
              unfold relT
              rw [pick_none ts sCmp fun j a b c hb => unhide HN j a b c (List.getElem?_eq_some_iff.1 hb).1 hb, show wd cHas ts = false from h1b ts rfl, show wd cLike ts = false from h2b ts rfl]
              rfl
          have HF := hide hF
          clear c1 c2 h1b h2a h2b HN hF
          go_wp2_with fail
          refine W1.mono ?_
          rintro e w5a ⟨rfl, k5a, r5a⟩
          go_wp2_with fail
          refine (W2 _ r5a).mono ?_
          rintro e w5 ⟨rfl, k5b, r5⟩
          have k5 := k5a.trans k5b
          obtain ⟨u0, u1, u2, u3, u4, u5, u6, _⟩ := blk7 (k5.kept hn3 Y3)
          obtain ⟨x0, x1, x2, x3, x4, x5, x6, xf⟩ := blk7 (k5.kept hn0 Y2)
          have K5 := hK.trans k5
          clear W1 W2
          go_wp2
          exact bodyPost_ret (v := R7.val r1) (by simp [results, Tryz.results50, go_sem, x0, x1, x2, x3, x4, x5, x6, R7.val]) rfl ⟨_, rfl, K5.set7 (Nat.le_refl _) _ _ _ _ _ _ _, by rw [unhide HF]; exact r5.set7 hlt _ _ _ _ _ _ _, fun x ts hx => (unhide HE x ts (by rw [unhide HF] at hx; exact hx)).out7 (fun b hb => hb.2) k5 hlt _ _ _ _ _ _ _⟩
end Go.Proofs.YtlakgnnjokienaaGreatDoor
