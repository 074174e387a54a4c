/-
  parse's reader: an expression.
-/
import Derived.Test.YtlakgnnjokienaaGreatDoorPaR
import Derived.Test.YtlakgnnjokienaaGreatDoorPaQ
import Derived.Test.YtlakgnnjokienaaGreatDoorPaI
import Derived.Test.YtlakgnnjokienaaGreatDoorPaJ
import Derived.Test.YtlakgnnjokienaaGreatDoorPaK
namespace Go.Proofs.YtlakgnnjokienaaGreatDoor
open Go.RowKit

def arr3 (a b c : R7) : Obj := .cells #[.int .i64 a.k, .bool a.b, .int .i64 a.n, .string a.s, .string a.t, .string a.i, .slice a.lo a.ll a.lc, .int .i64 b.k, .bool b.b, .int .i64 b.n, .string b.s, .string b.t, .string b.i, .slice b.lo b.ll b.lc, .int .i64 c.k, .bool c.b, .int .i64 c.n, .string c.s, .string c.t, .string c.i, .slice c.lo c.ll c.lc] 28 (0, 0)
theorem At7.arr3 {w : World} {g : Nat} {a b c : R7} (h : w.heap[g]? = some (arr3 a b c)) : At7 w g 0 a ∧ At7 w g 7 b ∧ At7 w g 14 c := by
  unfold Go.Proofs.YtlakgnnjokienaaGreatDoor.arr3 at h
  refine ⟨⟨?_, ?_, ?_, ?_, ?_, ?_, ?_⟩, ⟨?_, ?_, ?_, ?_, ?_, ?_, ?_⟩, ⟨?_, ?_, ?_, ?_, ?_, ?_, ?_⟩⟩ <;> (rw [Lib.cell_of_heap h]; rfl)
theorem isE_op3 {w : World} {P : Nat → Prop} {g k : Nat} {a b c : R7} {x y z : Ex} (op : Int) (hP : P g) (hb : g < w.heap.size) (h1 : At7 w g 0 a) (h2 : At7 w g 7 b) (h3 : At7 w g 14 c) (hx : IsE w P a x) (hy : IsE w P b y) (hz : IsE w P c z) : IsE w P ⟨op, false, 0, ⟨#[]⟩, ⟨#[]⟩, ⟨#[]⟩, some ⟨g, 0, none⟩, 3, k⟩ (eOp op [x, y, z]) := by
  unfold eOp
  unfold IsE
  refine ⟨rfl, rfl, rfl, rfl, rfl, rfl, rfl, ?_⟩
  unfold IsEs
  refine ⟨⟨a, g, 0, rfl, hP, hb, by simpa using h1, hx⟩, ?_⟩
  unfold IsEs
  refine ⟨⟨b, g, 0, rfl, hP, hb, by simpa using h2, hy⟩, ?_⟩
  unfold IsEs
  refine ⟨⟨c, g, 0, rfl, hP, hb, by simpa using h3, hz⟩, ?_⟩
  unfold IsEs
  trivial

theorem needSS_w (x : List UInt8) (r : List Tok) : needSS 1 x (some r) = needW x r := by
  unfold needSS needW
  have : isTS 1 x (some r) = wd x r := rfl
  rw [this]
  cases wd x r <;> rfl
theorem needSS_len (k : Int) (x : List UInt8) (st : St) : stLen (needSS k x st) ≤ stLen st := by
  unfold needSS
  split
  · cases st with
    | none => exact Nat.le_refl _
    | some ts => show ts.tail.length ≤ ts.length; simp
  · exact Nat.zero_le _
theorem if_plain (E : Pr Ex) (ts : List Tok) : outS (ifP E ts) = outS ((needSS 1 cElse (outS ((needSS 1 cThen (outS (E ts))).bind E))).bind E) ∧
    ∀ y r, ifP E ts = some (y, r) → ∃ a b c r1 r2, E ts = some (a, r1) ∧ (needSS 1 cThen (outS (E ts))).bind E = some (b, r2) ∧ (needSS 1 cElse (outS ((needSS 1 cThen (outS (E ts))).bind E))).bind E = some (c, r) ∧ y = eOp 25 [a, b, c] := by
  unfold ifP
  cases h1 : E ts with
  | none => exact ⟨rfl, fun y r h => by cases h⟩
  | some p =>
    show outS ((needW cThen p.2).bind _) = outS ((needSS 1 cElse (outS ((needSS 1 cThen (some p.2)).bind E))).bind E) ∧ ∀ y r, ((needW cThen p.2).bind _) = some (y, r) → ∃ a b c r1 r2, some p = some (a, r1) ∧ (needSS 1 cThen (some p.2)).bind E = some (b, r2) ∧ (needSS 1 cElse (outS ((needSS 1 cThen (some p.2)).bind E))).bind E = some (c, r) ∧ y = eOp 25 [a, b, c]
    rw [needSS_w]
    cases h2 : needW cThen p.2 with
    | none => exact ⟨rfl, fun y r h => by cases h⟩
    | some q =>
      show outS ((E q).bind _) = outS ((needSS 1 cElse (outS (E q))).bind E) ∧ ∀ y r, ((E q).bind _) = some (y, r) → ∃ a b c r1 r2, some p = some (a, r1) ∧ E q = some (b, r2) ∧ (needSS 1 cElse (outS (E q))).bind E = some (c, r) ∧ y = eOp 25 [a, b, c]
      cases h3 : E q with
      | none => exact ⟨rfl, fun y r h => by cases h⟩
      | some p2 =>
        show outS ((needW cElse p2.2).bind _) = outS ((needSS 1 cElse (some p2.2)).bind E) ∧ ∀ y r, ((needW cElse p2.2).bind _) = some (y, r) → ∃ a b c r1 r2, some p = some (a, r1) ∧ some p2 = some (b, r2) ∧ (needSS 1 cElse (some p2.2)).bind E = some (c, r) ∧ y = eOp 25 [a, b, c]
        rw [needSS_w]
        cases h4 : needW cElse p2.2 with
        | none => exact ⟨rfl, fun y r h => by cases h⟩
        | some q2 =>
          show outS ((E q2).map _) = outS (E q2) ∧ ∀ y r, ((E q2).map _) = some (y, r) → ∃ a b c r1 r2, some p = some (a, r1) ∧ some p2 = some (b, r2) ∧ E q2 = some (c, r) ∧ y = eOp 25 [a, b, c]
          cases h5 : E q2 with
          | none => exact ⟨rfl, fun y r h => by cases h⟩
          | some p3 => exact ⟨rfl, fun y r h => by cases h; exact ⟨p.1, p2.1, p3.1, p.2, p2.2, rfl, rfl, rfl, rfl⟩⟩

set_option maxHeartbeats 4000000 in
set_option maxRecDepth 1000000 in
theorem expr_does (E : Pr Ex) (n : Nat) (hE : Short E) (HX : Does 14 E n) (HO : Does 22 (orP E) (n + 1)) : Does 14 (exprP E) (n + 1) := by
  intro st w rb hn h
  have hlt := h.lt
  have b0 := new1 w (.cells #[.int .i64 0, .bool false, .int .i64 0, .string ⟨#[]⟩, .string ⟨#[]⟩, .string ⟨#[]⟩, .slice none 0 0] 28)
  have z0 : (w.alloc (.cells #[.int .i64 0, .bool false, .int .i64 0, .string ⟨#[]⟩, .string ⟨#[]⟩, .string ⟨#[]⟩, .slice none 0 0] 28)).heap[w.heap.size]? = some (.cells #[.int .i64 0, .bool false, .int .i64 0, .string ⟨#[]⟩, .string ⟨#[]⟩, .string ⟨#[]⟩, .slice none 0 0] 28 (0, 0)) := alloc_heap _ _
  have hn0 : w.heap.size ≠ rb := by omega
  have A := atUid_any st _ rb (h.below b0)
  have W1 : ∀ w1, RdAt w1 rb st → Calls Tryz.prog 21 #[rp rb, .string ⟨#[105, 102]⟩] w1 fun e w' => e = .returned (.bool (isTS 1 cIf st)) ∧ Keep rb w1 w' ∧ RdAt w' rb (aft 1 cIf st) := fun w1 h' => word_any st w1 rb ⟨#[105, 102]⟩ h'
  have O := fun w' h' => HO st w' rb hn h'
  unfold rp at A W1 O ⊢
  by_cases c0 : (atUidS st || !isTS 1 cIf st) = true
  · have e : st.bind (exprP E) = st.bind (orP E) := by
      cases st with
      | none => rfl
      | some ts =>
        show exprP E ts = orP E ts
        unfold exprP
        rw [show (atUid ts || !wd cIf ts) = true from c0, if_pos rfl]
    rw [e]
    generalize st.bind (orP E) = o at *
    cases c1 : atUidS st with
    | true =>
      rw [c1] at A
      clear e c0 W1 c1
      go_enter Tryz.func14, Tryz.ntmps14
      go_wp2_with fail
      generalize w.alloc _ = w0 at *
      refine A.mono ?_
      rintro e w1 ⟨rfl, k1, r1⟩
      go_wp2_with fail
      refine (O _ r1).mono ?_
      rintro e w2 ⟨r, rfl, k2, r2, hE2⟩
      have HE2 := hide hE2
      clear hE2
      unfold R7.val
      have k12 := k1.trans k2
      have K2 := (Keep.of_below (rb := rb) b0).trans k12
      obtain ⟨x0, x1, x2, x3, x4, x5, x6, xf⟩ := blk7 (k12.kept hn0 z0)
      have hz1 : w.heap.size < w1.heap.size := (Array.getElem?_eq_some_iff.1 (k1.kept hn0 z0)).1
      clear O
      go_wp2
      exact bodyPost_ret (v := R7.val r) (by simp [results, Tryz.results14, go_sem, x0, x1, x2, x3, x4, x5, x6, R7.val]) rfl ⟨_, rfl, K2.set7 (Nat.le_refl _) _ _ _ _ _ _ _, r2.set7 hlt _ _ _ _ _ _ _, fun x ts hx => (unhide HE2 x ts hx).set7 (by omega) hz1 _ _ _ _ _ _ _⟩
    | false =>
      have c2 : isTS 1 cIf st = false := by
        rw [c1] at c0
        simpa using c0
      obtain ⟨g1, _⟩ := isTS_no c2
      rw [c1] at A
      rw [c2, g1] at W1
      clear e c0 c1 c2 g1
      go_enter Tryz.func14, Tryz.ntmps14
      go_wp2_with fail
      generalize w.alloc _ = w0 at *
      refine A.mono ?_
      rintro e w1a ⟨rfl, k1a, r1a⟩
      go_wp2_with fail
      refine (W1 _ r1a).mono ?_
      rintro e w1 ⟨rfl, k1b, r1⟩
      have k1 := k1a.trans k1b
      go_wp2_with fail
      refine (O _ r1).mono ?_
      rintro e w2 ⟨r, rfl, k2, r2, hE2⟩
      have HE2 := hide hE2
      clear hE2
      unfold R7.val
      have k12 := k1.trans k2
      have K2 := (Keep.of_below (rb := rb) b0).trans k12
      obtain ⟨x0, x1, x2, x3, x4, x5, x6, xf⟩ := blk7 (k12.kept hn0 z0)
      have hz1 : w.heap.size < w1.heap.size := (Array.getElem?_eq_some_iff.1 (k1.kept hn0 z0)).1
      clear O W1
      go_wp2
      exact bodyPost_ret (v := R7.val r) (by simp [results, Tryz.results14, go_sem, x0, x1, x2, x3, x4, x5, x6, R7.val]) rfl ⟨_, rfl, K2.set7 (Nat.le_refl _) _ _ _ _ _ _ _, r2.set7 hlt _ _ _ _ _ _ _, fun x ts hx => (unhide HE2 x ts hx).set7 (by omega) hz1 _ _ _ _ _ _ _⟩
  · have c0' : (atUidS st || !isTS 1 cIf st) = false := by simpa using c0
    have c1 : atUidS st = false := by
      cases hh : atUidS st with
      | true => rw [hh] at c0'; cases c0'
      | false => rfl
    have c2 : isTS 1 cIf st = true := by
      rw [c1] at c0'
      simpa using c0'
    obtain ⟨ts, rfl, hl, g1, g2⟩ := isTS_sg (by decide) c2
    have e : (some ts : St).bind (exprP E) = ifP E ts.tail := by
      show exprP E ts = _
      unfold exprP
      rw [show (atUid ts || !wd cIf ts) = false from c0', if_neg (by simp)]
    rw [e]
    obtain ⟨q1, q2⟩ := if_plain E ts.tail
    have l1 : stLen (some ts.tail) < n := by have : ts.length < n + 1 := hn; simp [stLen]; omega
    have l2 : stLen (needSS 1 cThen (outS (E ts.tail))) < n := by
      have := needSS_len 1 cThen (outS (E ts.tail))
      have h2 : stLen (outS (E ts.tail)) ≤ stLen (some ts.tail) := short_len hE (some ts.tail)
      omega
    have l3 : stLen (needSS 1 cElse (outS ((needSS 1 cThen (outS (E ts.tail))).bind E))) < n := by
      have := needSS_len 1 cElse (outS ((needSS 1 cThen (outS (E ts.tail))).bind E))
      have := short_len hE (needSS 1 cThen (outS (E ts.tail)))
      omega
    have X1 : ∀ w1, RdAt w1 rb (some ts.tail) → Calls Tryz.prog 14 #[.pointer (some ⟨rb, 0, none⟩)] w1 (Res rb w1 (E ts.tail)) := fun w1 h' => HX (some ts.tail) w1 rb l1 h'
    have X2 := fun w1 h' => HX (needSS 1 cThen (outS (E ts.tail))) w1 rb l2 h'
    have X3 := fun w1 h' => HX (needSS 1 cElse (outS ((needSS 1 cThen (outS (E ts.tail))).bind E))) w1 rb l3 h'
    have N1 : ∀ s w1, RdAt w1 rb s → Calls Tryz.prog 23 #[.pointer (some ⟨rb, 0, none⟩), .string ⟨#[116, 104, 101, 110]⟩] w1 fun e w' => e = .returned (.tuple #[]) ∧ Keep rb w1 w' ∧ RdAt w' rb (needSS 1 cThen s) := fun s w1 h' => needWord_any s w1 rb ⟨#[116, 104, 101, 110]⟩ h'
    have N2 : ∀ s w1, RdAt w1 rb s → Calls Tryz.prog 23 #[.pointer (some ⟨rb, 0, none⟩), .string ⟨#[101, 108, 115, 101]⟩] w1 fun e w' => e = .returned (.tuple #[]) ∧ Keep rb w1 w' ∧ RdAt w' rb (needSS 1 cElse s) := fun s w1 h' => needWord_any s w1 rb ⟨#[101, 108, 115, 101]⟩ h'
    unfold rp at X2 X3
    have HQ1 := hide q1
    have HQ2 := hide q2
    rw [c1] at A
    rw [c2, g2] at W1
    clear e c0 c0' c1 c2 g1 g2 q1 q2 l1 l2 l3 O HO
    generalize ifP E ts.tail = F at *
    generalize hs3 : needSS 1 cElse (outS ((needSS 1 cThen (outS (E ts.tail))).bind E)) = s3 at *
    generalize s3.bind E = o3 at *
    generalize hs2 : needSS 1 cThen (outS (E ts.tail)) = s2 at *
    generalize s2.bind E = o2 at *
    generalize E ts.tail = o1 at *
    generalize (some ts.tail : St) = s1 at *
    have HS2 := hide hs2
    have HS3 := hide hs3
    clear hs2 hs3
    have NO := fun ao n c w => node_any 25 ao n c w
    go_enter Tryz.func14, Tryz.ntmps14
    go_wp2_with fail
    generalize w.alloc _ = w0 at *
    refine A.mono ?_
    rintro e w1a ⟨rfl, k1a, r1a⟩
    go_wp2_with fail
    refine (W1 _ r1a).mono ?_
    rintro e w1 ⟨rfl, k1b, r1⟩
    have k1 := k1a.trans k1b
    clear W1 A
    go_wp2_with fail
    refine (X1 _ r1).mono ?_
    rintro e w2 ⟨ra, rfl, k2, r2, hEa⟩
    have HEa := hide hEa
    clear hEa X1
    unfold R7.val
    have n3 := new1 w2 (.cells #[.int .i64 ra.k, .bool ra.b, .int .i64 ra.n, .string ra.s, .string ra.t, .string ra.i, .slice ra.lo ra.ll ra.lc] 28)
    have Z3 : (w2.alloc (.cells #[.int .i64 ra.k, .bool ra.b, .int .i64 ra.n, .string ra.s, .string ra.t, .string ra.i, .slice ra.lo ra.ll ra.lc] 28)).heap[w2.heap.size]? = some (.cells #[.int .i64 ra.k, .bool ra.b, .int .i64 ra.n, .string ra.s, .string ra.t, .string ra.i, .slice ra.lo ra.ll ra.lc] 28 (0, 0)) := alloc_heap _ _
    have k12 := k1.trans k2
    have Z2 := kept_of_below n3 (k12.kept hn0 z0)
    have K3 := ((Keep.of_below (rb := rb) b0).trans k12).trans (.of_below n3)
    have hw0 : w.heap.size < w0.heap.size := (Array.getElem?_eq_some_iff.1 z0).1
    have hw1 := k1.size
    have hw2 := k2.size
    have r3 := r2.below n3
    have nz3 := n3.size
    go_upto_region 4 with fail
    generalize w2.alloc _ = w3 at *
    go_wp2_with fail
    refine (N1 _ _ r3).mono ?_
    rintro e w4 ⟨rfl, k4, r4⟩
    rw [unhide HS2] at r4
    go_wp2_with fail
    refine (X2 _ r4).mono ?_
    rintro e w5 ⟨rc, rfl, k5, r5, hEb⟩
    have HEb := hide hEb
    clear hEb X2 N1
    unfold R7.val
    have hn3 : w2.heap.size ≠ rb := by omega
    have k45 := k4.trans k5
    have n6 := new1 w5 (.cells #[.int .i64 rc.k, .bool rc.b, .int .i64 rc.n, .string rc.s, .string rc.t, .string rc.i, .slice rc.lo rc.ll rc.lc] 28)
    have Y6 : (w5.alloc (.cells #[.int .i64 rc.k, .bool rc.b, .int .i64 rc.n, .string rc.s, .string rc.t, .string rc.i, .slice rc.lo rc.ll rc.lc] 28)).heap[w5.heap.size]? = some (.cells #[.int .i64 rc.k, .bool rc.b, .int .i64 rc.n, .string rc.s, .string rc.t, .string rc.i, .slice rc.lo rc.ll rc.lc] 28 (0, 0)) := alloc_heap _ _
    have Y3 := kept_of_below n6 (k45.kept hn3 Z3)
    have Y2 := kept_of_below n6 (k45.kept hn0 Z2)
    have K6 := (K3.trans k45).trans (.of_below n6)
    have r6 := r5.below n6
    have hz3 : w2.heap.size < w3.heap.size := (Array.getElem?_eq_some_iff.1 Z3).1
    have hw4 := k4.size
    have hw5 := k5.size
    have nz6 := n6.size
    go_upto_region 6 with fail
    generalize w5.alloc _ = w6 at *
    go_wp2_with fail
    refine (N2 _ _ r6).mono ?_
    rintro e w7 ⟨rfl, k7, r7⟩
    rw [unhide HS3] at r7
    clear N2
    have hn6 : w5.heap.size ≠ rb := by omega
    have hz6 : w5.heap.size < w6.heap.size := (Array.getElem?_eq_some_iff.1 Y6).1
    have V3 := k7.kept hn3 Y3
    have V6 := k7.kept hn6 Y6
    have V2 := k7.kept hn0 Y2
    have hw7 := k7.size
    obtain ⟨u0, u1, u2, u3, u4, u5, u6, _⟩ := blk7 V3
    obtain ⟨t0, t1, t2, t3, t4, t5, t6, _⟩ := blk7 V6
    have d1 : ¬ w.heap.size = w2.heap.size := by omega
    have d2 : ¬ w2.heap.size = w.heap.size := by omega
    have d3 : ¬ w.heap.size = w5.heap.size := by omega
    have d4 : ¬ w5.heap.size = w.heap.size := by omega
    go_wp2_with fail
    go_region_held (fun w' => w'.cell? ⟨w2.heap.size, 0, none⟩ = some (.int .i64 ra.k) ∧ w'.cell? ⟨w2.heap.size, 1, none⟩ = some (.bool ra.b) ∧ w'.cell? ⟨w2.heap.size, 2, none⟩ = some (.int .i64 ra.n) ∧ w'.cell? ⟨w2.heap.size, 3, none⟩ = some (.string ra.s) ∧ w'.cell? ⟨w2.heap.size, 4, none⟩ = some (.string ra.t) ∧ w'.cell? ⟨w2.heap.size, 5, none⟩ = some (.string ra.i) ∧ w'.cell? ⟨w2.heap.size, 6, none⟩ = some (.slice ra.lo ra.ll ra.lc) ∧ w'.cell? ⟨w5.heap.size, 0, none⟩ = some (.int .i64 rc.k) ∧ w'.cell? ⟨w5.heap.size, 1, none⟩ = some (.bool rc.b) ∧ w'.cell? ⟨w5.heap.size, 2, none⟩ = some (.int .i64 rc.n) ∧ w'.cell? ⟨w5.heap.size, 3, none⟩ = some (.string rc.s) ∧ w'.cell? ⟨w5.heap.size, 4, none⟩ = some (.string rc.t) ∧ w'.cell? ⟨w5.heap.size, 5, none⟩ = some (.string rc.i) ∧ w'.cell? ⟨w5.heap.size, 6, none⟩ = some (.slice rc.lo rc.ll rc.lc)) (go_keep) (first
      | (go_at_call 14
         refine (X3 _ r7.drew).mono ?_
         rintro e w8 ⟨rd, rfl, k8, r8, hEc⟩
         have HEc := hide hEc
         clear hEc
         obtain ⟨v0, v1, v2, v3, v4, v5, v6, _⟩ := blk7 (k8.kept hn3 V3)
         obtain ⟨a0, a1, a2, a3, a4, a5, a6, _⟩ := blk7 (k8.kept hn6 V6)
         unfold R7.val)
      | (go_at_call 24
         refine (NO _ _ _ _).mono ?_
         rintro e wA ⟨rfl, bA⟩
         have n9 := new1 w8 (arr3 ra rc rd)
         have b8A := n9.trans (bA.mono n9.size)
         obtain ⟨y0, y1, y2, y3, y4, y5, y6, _⟩ := blk7 (kept_of_below b8A (k8.kept hn3 V3))
         obtain ⟨p0, p1, p2, p3, p4, p5, p6, _⟩ := blk7 (kept_of_below b8A (k8.kept hn6 V6))
         obtain ⟨x0, x1, x2, x3, x4, x5, x6, xf⟩ := blk7 (kept_of_below b8A (k8.kept hn0 V2))))
    have KA := (((K6.trans k7).drew).trans k8).trans (.of_below b8A)
    have hw8 : w7.heap.size ≤ w8.heap.size := k8.size
    have hAr := kept_of_below bA (alloc_heap w8 (arr3 ra rc rd))
    have hzA : w8.heap.size < wA.heap.size := (Array.getElem?_eq_some_iff.1 hAr).1
    have HI : Hid (∀ y r, F = some (y, r) → ∀ v0 v1 v2 v3 v4 v5 v6, IsE (set7 wA w.heap.size v0 v1 v2 v3 v4 v5 v6) (fun b => w.heap.size ≤ b) ⟨25, false, 0, ⟨#[]⟩, ⟨#[]⟩, ⟨#[]⟩, some ⟨w8.heap.size, 0, none⟩, 3, 3⟩ y) := hide (by
      intro y r hx v0 v1 v2 v3 v4 v5 v6
      obtain ⟨a, b, c, q1, q2, h1, h2, h3, rfl⟩ := unhide HQ2 y r hx
      have hb : (set7 wA w.heap.size v0 v1 v2 v3 v4 v5 v6).heap[w8.heap.size]? = some (arr3 ra rc rd) := by
        rw [set7_heap _ _ _ _ _ _ _ _ _ _ (by omega)]
        exact hAr
      obtain ⟨m1, m2, m3⟩ := At7.arr3 hb
      have keyA : ∀ b, b < w8.heap.size → b ≠ w.heap.size → (set7 wA w.heap.size v0 v1 v2 v3 v4 v5 v6).heap[b]? = w8.heap[b]? := fun b hb1 hb2 => by
        rw [set7_heap _ _ _ _ _ _ _ _ _ _ hb2]
        exact b8A.block b hb1
      have key8 : ∀ b, b < w7.heap.size → b ≠ rb → w8.heap[b]? = w7.heap[b]? := fun b hb1 hb2 => k8.block b hb1 hb2
      refine isE_op3 25 (by omega) (by rw [set7_size]; exact hzA) m1 m2 m3 ?_ ?_ ?_
      · refine IsE.turn (by rw [set7_size]; omega) (fun b hb1 hb2 => ⟨?_, by omega⟩) ra a (unhide HEa a q1 h1)
        rw [keyA b (by omega) (by omega), key8 b (by omega) (by omega), k7.block b (by omega) (by omega), n6.block b (by omega), k45.block b (by omega) (by omega)]
        exact n3.block b hb2
      · refine IsE.turn (by rw [set7_size]; omega) (fun b hb1 hb2 => ⟨?_, by omega⟩) rc b (unhide HEb b q2 h2)
        rw [keyA b (by omega) (by omega), key8 b (by omega) (by omega), k7.block b (by omega) (by omega)]
        exact n6.block b hb2
      · refine IsE.turn (by rw [set7_size]; omega) (fun b hb1 hb2 => ⟨?_, by have hb1' : w7.heap.size ≤ b := hb1; omega⟩) rd c (unhide HEc c r h3)
        have hb1' : w7.heap.size ≤ b := hb1
        exact keyA b hb2 (by omega))
    clear NO X3
    go_wp2
    exact bodyPost_ret (v := R7.val ⟨25, false, 0, ⟨#[]⟩, ⟨#[]⟩, ⟨#[]⟩, some ⟨w8.heap.size, 0, none⟩, 3, 3⟩) (by simp [results, Tryz.results14, go_sem, x0, x1, x2, x3, x4, x5, x6, R7.val]) rfl ⟨_, rfl, KA.set7 (Nat.le_refl _) _ _ _ _ _ _ _, by rw [unhide HQ1]; exact (r8.below b8A).set7 hlt _ _ _ _ _ _ _, fun y r hx => unhide HI y r hx _ _ _ _ _ _ _⟩

/-- The whole: every rule at once. -/
theorem exprN_does : ∀ n, Does 14 (exprN n) n
  | 0 => fun st w rb hn _ => by omega
  | n + 1 => by
    have HX := exprN_does n
    have hE := exprN_short n
    have h1 := prim_does (exprN n) n hE HX
    have h2 := mem_does (exprN n) n hE h1 (member_does (exprN n) n HX)
    have h3 := un_does (exprN n) (n + 1) h2
    have h4 : Does 69 (mulP (exprN n)) (n + 1) := mul_does (unP (exprN n)) (n + 1) (unP_short hE) h3
    have h5 : Does 57 (addP (exprN n)) (n + 1) := add_does (mulP (exprN n)) (n + 1) (mulP_short hE) h4
    have h6 := rel_does (exprN n) (n + 1) hE h5
    have h7 : Does 34 (andP (exprN n)) (n + 1) := and_does (relP (exprN n)) (n + 1) (relP_short hE) h6
    have h8 : Does 22 (orP (exprN n)) (n + 1) := or_does (andP (exprN n)) (n + 1) (andP_short hE) h7
    exact expr_does (exprN n) n hE HX h8
end Go.Proofs.YtlakgnnjokienaaGreatDoor
