/-
  parse's reader: what binds most.
-/
import Derived.Test.YtlakgnnjokienaaGreatDoorPaN
import Derived.Test.YtlakgnnjokienaaGreatDoorPaL
namespace Go.Proofs.YtlakgnnjokienaaGreatDoor
open Go.RowKit

theorem needSS_outL (x : List UInt8) (o : Rs (List Ex)) : outL (o.bind fun p => (needS x p.2).map fun r => (p.1, r)) = needSS 4 x (outL o) := by
  cases o with
  | none => rfl
  | some p =>
    show outL ((needS x p.2).map fun r => (p.1, r)) = needSS 4 x (some p.2)
    unfold needS needSS
    have : isTS 4 x (some p.2) = sg x p.2 := rfl
    rw [this]
    cases sg x p.2 <;> rfl
theorem needS_val {α : Type} {x : List UInt8} {o : Rs α} {y : α} {ts : List Tok} (h : (o.bind fun p => (needS x p.2).map fun r => (p.1, r)) = some (y, ts)) : ∃ r, o = some (y, r) := by
  cases o with
  | none => cases h
  | some p =>
    have h' : ((needS x p.2).map fun r => (p.1, r)) = some (y, ts) := h
    cases hq : needS x p.2 with
    | none => rw [hq] at h'; cases h'
    | some q => rw [hq] at h'; cases h'; exact ⟨p.2, rfl⟩

set_option maxHeartbeats 4000000 in
set_option maxRecDepth 1000000 in
theorem listUp_does (E : Pr Ex) (n : Nat) (hE : Short E) (HX : Does 14 E n) (st : St) (w : World) (rb : Nat) (hn : stLen st < n) (h : RdAt w rb st) :
    Calls Tryz.prog 98 #[rp rb, .func (.func 14) #[] #[], .string ⟨#[93]⟩] w fun e w' => ∃ lo k c, e = .returned (.slice lo k c) ∧ Keep rb w w' ∧ RdAt w' rb (outL (st.bind (listUpP E [93]))) ∧ ∀ l ts, st.bind (listUpP E [93]) = some (l, ts) → k = l.length ∧ IsEs w' (fun b => w.heap.size ≤ b) lo 0 l := by
  have S : Calls Tryz.prog 35 #[rp rb, .string ⟨#[93]⟩] w fun e w' => e = .returned (.bool (isTS 4 [93] st)) ∧ Keep rb w w' ∧ RdAt w' rb (aft 4 [93] st) := sign_any st w rb ⟨#[93]⟩ h
  cases c1 : isTS 4 [93] st with
  | true =>
    obtain ⟨ts, rfl, hl, g1, g2⟩ := isTS_sg (by decide) c1
    have e : (some ts : St).bind (listUpP E [93]) = some ([], ts.tail) := by
      show listUpP E [93] ts = _
      unfold listUpP
      rw [show sg [93] ts = true from g1, if_pos rfl]
    rw [e]
    rw [c1, g2] at S
    unfold rp at S ⊢
    clear e c1 g1 g2
    go_enter Tryz.func98, Tryz.ntmps98
    go_wp2_with fail
    refine S.mono ?_
    rintro e w1 ⟨rfl, k1, r1⟩
    go_wp2
    go_ret
    exact ⟨_, _, _, rfl, k1, r1, fun l ts hx => by cases hx; exact ⟨rfl, by unfold IsEs; trivial⟩⟩
  | false =>
    obtain ⟨g1, g2⟩ := isTS_no c1
    have e : st.bind (listUpP E [93]) = (st.bind (listOfP E)).bind fun p => (needS [93] p.2).map fun r => (p.1, r) := by
      cases st with
      | none => rfl
      | some ts =>
        show listUpP E [93] ts = _
        unfold listUpP
        rw [show sg [93] ts = false from g2 ts rfl, if_neg (by simp)]
        rfl
    have e1 : outL (st.bind (listUpP E [93])) = needSS 4 [93] (outL (st.bind (listOfP E))) := by rw [e]; exact needSS_outL _ _
    rw [e1]
    have HV := hide (show ∀ l ts, st.bind (listUpP E [93]) = some (l, ts) → ∃ r, st.bind (listOfP E) = some (l, r) from fun l ts hx => needS_val (by rw [e] at hx; exact hx))
    rw [c1, g1] at S
    have L := fun w' h' => listOf_does E n hE HX st w' rb hn h'
    have NS : ∀ s2 w1, RdAt w1 rb s2 → Calls Tryz.prog 27 #[rp rb, .string ⟨#[93]⟩] w1 fun e w' => e = .returned (.tuple #[]) ∧ Keep rb w1 w' ∧ RdAt w' rb (needSS 4 [93] s2) := fun s2 w1 h' => needSign_any s2 w1 rb ⟨#[93]⟩ h'
    generalize st.bind (listUpP E [93]) = F at *
    generalize st.bind (listOfP E) = o at *
    unfold rp at S L NS ⊢
    clear e e1 c1 g1 g2
    go_enter Tryz.func98, Tryz.ntmps98
    go_wp2_with fail
    refine S.mono ?_
    rintro e w1 ⟨rfl, k1, r1⟩
    go_wp2_with fail
    refine (L _ r1).mono ?_
    rintro e w2 ⟨lo, k, c, rfl, k2, r2, hl2⟩
    have HL2 := hide hl2
    clear hl2
    go_wp2_with fail
    refine (NS _ _ r2).mono ?_
    rintro e w3 ⟨rfl, k3, r3⟩
    have hlt := h.lt
    have hs1 := k1.size
    have HI : Hid (∀ l ts, F = some (l, ts) → k = l.length ∧ IsEs w3 (fun b => w.heap.size ≤ b) lo 0 l) := hide (by
      intro l ts hx
      obtain ⟨r, hr⟩ := unhide HV l ts hx
      obtain ⟨q1, q2⟩ := unhide HL2 l r hr
      exact ⟨q1, IsEs.turn k3.size (fun b hb hb2 => ⟨k3.block b hb2 (by omega), by omega⟩) lo 0 l q2⟩)
    go_wp2
    go_ret
    exact ⟨_, _, _, rfl, (k1.trans k2).trans k3, r3, unhide HI⟩

theorem uid_plain (ts : List Tok) : uidP ts = (uidSt (some ts)).map fun r => (((needTok 1 (some ts)).s, (uidId (some ts)).s), r) := by
  unfold uidP uidSt uidId
  by_cases h1 : (hd ts 0).k = 1
  · have e1 : need 1 ts = some (hd ts 0, ts.tail) := if_pos h1
    have e2 : needSt 1 (some ts) = some ts.tail := if_pos h1
    have e3 : needTok 1 (some ts) = hd ts 0 := if_pos h1
    rw [e1, e2, e3]
    show ((needS [58, 58] ts.tail).bind fun r => (need 3 r).map fun b => (((hd ts 0).s, b.1.s), b.2)) = _
    have e4 : needSS 4 [58, 58] (some ts.tail) = needS [58, 58] ts.tail := by
      unfold needSS needS
      have : isTS 4 [58, 58] (some ts.tail) = sg [58, 58] ts.tail := rfl
      rw [this]
      cases sg [58, 58] ts.tail <;> rfl
    rw [e4]
    cases needS [58, 58] ts.tail with
    | none => rfl
    | some r =>
      show ((need 3 r).map fun b => (((hd ts 0).s, b.1.s), b.2)) = _
      by_cases h3 : (hd r 0).k = 3
      · have f1 : need 3 r = some (hd r 0, r.tail) := if_pos h3
        have f2 : needSt 3 (some r) = some r.tail := if_pos h3
        have f3 : needTok 3 (some r) = hd r 0 := if_pos h3
        rw [f1, f2, f3]
        rfl
      · have f1 : need 3 r = none := if_neg h3
        have f2 : needSt 3 (some r) = none := if_neg h3
        rw [f1, f2]
        rfl
  · have e1 : need 1 ts = none := if_neg h1
    have e2 : needSt 1 (some ts) = none := if_neg h1
    rw [e1, e2]
    rfl

set_option maxHeartbeats 4000000 in
set_option maxRecDepth 1000000 in
theorem prim_does (E : Pr Ex) (n : Nat) (hE : Short E) (HX : Does 14 E n) : Does 94 (primP E) (n + 1) := by
  intro st w rb hn h
  have hlt := h.lt
  have b0 := new1 w (.cells #[.int .i64 0, .bool false, .int .i64 0, .string ⟨#[]⟩, .string ⟨#[]⟩, .string ⟨#[]⟩, .slice none 0 0] 28)
  have z0 : (w.alloc (.cells #[.int .i64 0, .bool false, .int .i64 0, .string ⟨#[]⟩, .string ⟨#[]⟩, .string ⟨#[]⟩, .slice none 0 0] 28)).heap[w.heap.size]? = some (.cells #[.int .i64 0, .bool false, .int .i64 0, .string ⟨#[]⟩, .string ⟨#[]⟩, .string ⟨#[]⟩, .slice none 0 0] 28 (0, 0)) := alloc_heap _ _
  have hn0 : w.heap.size ≠ rb := by omega
  have A := atUid_any st _ rb (h.below b0)
  have UI := fun w' h' => uid_any st w' rb h'
  have S1 : ∀ w1, RdAt w1 rb st → Calls Tryz.prog 35 #[rp rb, .string ⟨#[40]⟩] w1 fun e w' => e = .returned (.bool (isTS 4 [40] st)) ∧ Keep rb w1 w' ∧ RdAt w' rb (aft 4 [40] st) := fun w1 h' => sign_any st w1 rb ⟨#[40]⟩ h'
  have S2 : ∀ w1, RdAt w1 rb st → Calls Tryz.prog 35 #[rp rb, .string ⟨#[91]⟩] w1 fun e w' => e = .returned (.bool (isTS 4 [91] st)) ∧ Keep rb w1 w' ∧ RdAt w' rb (aft 4 [91] st) := fun w1 h' => sign_any st w1 rb ⟨#[91]⟩ h'
  have NS : ∀ s2 w1, RdAt w1 rb s2 → Calls Tryz.prog 27 #[rp rb, .string ⟨#[41]⟩] w1 fun e w' => e = .returned (.tuple #[]) ∧ Keep rb w1 w' ∧ RdAt w' rb (needSS 4 [41] s2) := fun s2 w1 h' => needSign_any s2 w1 rb ⟨#[41]⟩ h'
  have LF := fun w' h' => leaf_does (n + 1) st w' rb hn h'
  have NO := fun ao n c w => node_any 6 ao n c w
  unfold rp at A UI S1 S2 NS LF ⊢
  cases c0 : atUidS st with
  | true =>
    obtain ⟨ts, rfl⟩ : ∃ ts, st = some ts := by
      cases st with
      | none => cases c0
      | some ts => exact ⟨ts, rfl⟩
    have e : (some ts : St).bind (primP E) = (uidSt (some ts)).map fun r => (eUid (needTok 1 (some ts)).s (uidId (some ts)).s, r) := by
      show primP E ts = _
      unfold primP
      rw [show atUid ts = true from c0, if_pos rfl, uid_plain]
      cases uidSt (some ts) <;> rfl
    rw [e]
    have e2 : outS ((uidSt (some ts)).map fun r => (eUid (needTok 1 (some ts)).s (uidId (some ts)).s, r)) = uidSt (some ts) := by cases uidSt (some ts) <;> rfl
    rw [c0] at A
    generalize uidSt (some ts) = s2 at *
    generalize needTok 1 (some ts) = t1 at *
    generalize uidId (some ts) = t2 at *
    obtain ⟨y1, hy1⟩ : ∃ y : ByteArray, y = ⟨t1.s.toArray⟩ := ⟨_, rfl⟩
    obtain ⟨y2, hy2⟩ : ∃ y : ByteArray, y = ⟨t2.s.toArray⟩ := ⟨_, rfl⟩
    have HI := hide (show ∀ w' P, IsE w' P ⟨4, false, 0, ⟨#[]⟩, y1, y2, none, 0, 0⟩ (eUid t1.s t2.s) by rw [hy1, hy2]; exact fun w' P => isE_uid w' P _ _)
    rw [← hy1, ← hy2] at UI
    have HE2 := hide e2
    clear e e2 c0 S1 S2 NS LF NO hy1 hy2
    go_enter Tryz.func94, Tryz.ntmps94
    go_wp2_with fail
    generalize w.alloc _ = w0 at *
    refine A.mono ?_
    rintro e w1 ⟨rfl, k1, r1⟩
    go_wp2_with fail
    refine (UI _ r1).mono ?_
    rintro e w2 ⟨rfl, k2, r2⟩
    have k12 := k1.trans k2
    have K2 := (Keep.of_below (rb := rb) b0).trans k12
    obtain ⟨x0, x1, x2, x3, x4, x5, x6, xf⟩ := blk7 (k12.kept hn0 z0)
    go_wp2
    exact bodyPost_ret (v := R7.val ⟨4, false, 0, ⟨#[]⟩, y1, y2, none, 0, 0⟩) (by simp [results, Tryz.results94, go_sem, x0, x1, x2, x3, x4, x5, x6, R7.val]) rfl ⟨_, rfl, K2.set7 (Nat.le_refl _) _ _ _ _ _ _ _, by rw [unhide HE2]; exact r2.set7 hlt _ _ _ _ _ _ _, fun x ts hx => by
      cases s2 with
      | none => cases hx
      | some q => cases hx; exact unhide HI _ _⟩
  | false =>
    rw [c0] at A
    cases c1 : isTS 4 [40] st with
    | true =>
      obtain ⟨ts, rfl, hl, g1, g2⟩ := isTS_sg (by decide) c1
      have e : (some ts : St).bind (primP E) = (E ts.tail).bind fun p => (needS [41] p.2).map fun r => (p.1, r) := by
        show primP E ts = _
        unfold primP
        rw [show atUid ts = false from c0, if_neg (by simp), show sg [40] ts = true from g1, if_pos rfl]
      have e1 : outS ((some ts : St).bind (primP E)) = needSS 4 [41] (outS (E ts.tail)) := by rw [e]; exact needSS_out [41] id (E ts.tail)
      have HV := hide (show ∀ x r, (some ts : St).bind (primP E) = some (x, r) → ∃ r', E ts.tail = some (x, r') from fun x r hx => needS_val (by rw [e] at hx; exact hx))
      rw [c1, g2] at S1
      have htl : stLen (some ts.tail) < n := by have : ts.length < n + 1 := hn; simp [stLen]; omega
      have X : ∀ w1, RdAt w1 rb (some ts.tail) → Calls Tryz.prog 14 #[.pointer (some ⟨rb, 0, none⟩)] w1 (Res rb w1 (E ts.tail)) := fun w1 h' => HX (some ts.tail) w1 rb htl h'
      have HE1 := hide e1
      generalize (some ts : St).bind (primP E) = F at *
      generalize E ts.tail = o at *
      generalize (some ts.tail : St) = s1 at *
      clear e e1 c0 c1 g1 g2 UI S2 LF NO htl HX
      go_enter Tryz.func94, Tryz.ntmps94
      go_wp2_with fail
      generalize w.alloc _ = w0 at *
      refine A.mono ?_
      rintro e w1 ⟨rfl, k1, r1⟩
      go_wp2_with fail
      refine (S1 _ r1).mono ?_
      rintro e w2 ⟨rfl, k2, r2⟩
      go_wp2_with fail
      refine (X _ r2).mono ?_
      rintro e w3 ⟨r, rfl, k3, r3, hE3⟩
      have HE3 := hide hE3
      clear hE3
      unfold R7.val
      have k13 := (k1.trans k2).trans k3
      have n4 := new1 w3 (.cells #[.int .i64 r.k, .bool r.b, .int .i64 r.n, .string r.s, .string r.t, .string r.i, .slice r.lo r.ll r.lc] 28)
      have z4 := kept_of_below n4 (k13.kept hn0 z0)
      have y4 : (w3.alloc (.cells #[.int .i64 r.k, .bool r.b, .int .i64 r.n, .string r.s, .string r.t, .string r.i, .slice r.lo r.ll r.lc] 28)).heap[w3.heap.size]? = some (.cells #[.int .i64 r.k, .bool r.b, .int .i64 r.n, .string r.s, .string r.t, .string r.i, .slice r.lo r.ll r.lc] 28 (0, 0)) := alloc_heap _ _
      have hs12 := (k1.trans k2).size
      have hs3 := k3.size
      have hw0 : w.heap.size < w0.heap.size := (Array.getElem?_eq_some_iff.1 z0).1
      go_wp2_with fail
      generalize hw4 : w3.alloc _ = w4 at *
      clear hw4
      refine (NS _ _ (r3.below n4)).mono ?_
      rintro e w5 ⟨rfl, k5, r5⟩
      obtain ⟨x0, x1, x2, x3, x4, x5, x6, xf⟩ := blk7 (k5.kept hn0 z4)
      obtain ⟨u0, u1, u2, u3, u4, u5, u6, _⟩ := blk7 (k5.kept (by omega) y4)
      have K5 := (((Keep.of_below (rb := rb) b0).trans k13).trans (.of_below n4)).trans k5
      have HI : Hid (∀ x r', F = some (x, r') → ∀ v0 v1 v2 v3 v4 v5 v6, IsE (set7 w5 w.heap.size v0 v1 v2 v3 v4 v5 v6) (fun b => w.heap.size ≤ b) r x) := hide (by
        intro x r' hx v0 v1 v2 v3 v4 v5 v6
        obtain ⟨q, hq⟩ := unhide HV x r' hx
        refine IsE.turn (by rw [set7_size]; have := n4.size; have := k5.size; omega) (fun b hb hb2 => ⟨?_, by omega⟩) r x (unhide HE3 x q hq)
        rw [set7_heap _ _ _ _ _ _ _ _ _ _ (by omega), k5.block b (by have := n4.size; omega) (by omega)]
        exact n4.block b hb2)
      clear NS X S1
      go_wp2
      exact bodyPost_ret (v := R7.val r) (by simp [results, Tryz.results94, go_sem, x0, x1, x2, x3, x4, x5, x6, R7.val]) rfl ⟨_, rfl, K5.set7 (Nat.le_refl _) _ _ _ _ _ _ _, by rw [unhide HE1]; exact r5.set7 hlt _ _ _ _ _ _ _, fun x r' hx => unhide HI x r' hx _ _ _ _ _ _ _⟩
    | false =>
      obtain ⟨g1, g2⟩ := isTS_no c1
      rw [c1, g1] at S1
      cases c2 : isTS 4 [91] st with
      | true =>
        obtain ⟨ts, rfl, hl, g3, g4⟩ := isTS_sg (by decide) c2
        have e : (some ts : St).bind (primP E) = (listUpP E [93] ts.tail).map fun p => (eOp 6 p.1, p.2) := by
          show primP E ts = _
          unfold primP
          rw [show atUid ts = false from c0, if_neg (by simp), show sg [40] ts = false from g2 ts rfl, if_neg (by simp), show sg [91] ts = true from g3, if_pos rfl]
        rw [e]
        rw [c2, g4] at S2
        have htl : stLen (some ts.tail) < n := by have : ts.length < n + 1 := hn; simp [stLen]; omega
        have L : ∀ w1, RdAt w1 rb (some ts.tail) → Calls Tryz.prog 98 #[.pointer (some ⟨rb, 0, none⟩), .func (.func 14) #[] #[], .string ⟨#[93]⟩] w1 fun e w' => ∃ lo k c, e = .returned (.slice lo k c) ∧ Keep rb w1 w' ∧ RdAt w' rb (outL (listUpP E [93] ts.tail)) ∧ ∀ l r, listUpP E [93] ts.tail = some (l, r) → k = l.length ∧ IsEs w' (fun b => w1.heap.size ≤ b) lo 0 l := fun w1 h' => listUp_does E n hE HX (some ts.tail) w1 rb htl h'
        have e2 : outS ((listUpP E [93] ts.tail).map fun p => (eOp 6 p.1, p.2)) = outL (listUpP E [93] ts.tail) := by cases listUpP E [93] ts.tail <;> rfl
        have HE2 := hide e2
        generalize listUpP E [93] ts.tail = o at *
        generalize (some ts.tail : St) = s1 at *
        clear e e2 c0 c1 c2 g1 g2 g3 g4 UI NS LF htl HX
        go_enter Tryz.func94, Tryz.ntmps94
        go_wp2_with fail
        generalize w.alloc _ = w0 at *
        refine A.mono ?_
        rintro e w1 ⟨rfl, k1, r1⟩
        go_wp2_with fail
        refine (S1 _ r1).mono ?_
        rintro e w2 ⟨rfl, k2, r2⟩
        go_wp2_with fail
        refine (S2 _ r2).mono ?_
        rintro e w3 ⟨rfl, k3, r3⟩
        go_wp2_with fail
        refine (L _ r3).mono ?_
        rintro e w4 ⟨lo, k, c, rfl, k4, r4, hL4⟩
        have HL4 := hide hL4
        clear hL4
        go_wp2_with fail
        refine (NO _ _ _ _).mono ?_
        rintro e w5 ⟨rfl, b5⟩
        have k14 := ((k1.trans k2).trans k3).trans k4
        have K5 := ((Keep.of_below (rb := rb) b0).trans k14).trans (.of_below b5)
        have R5 := r4.below b5
        obtain ⟨x0, x1, x2, x3, x4, x5, x6, xf⟩ := blk7 (kept_of_below b5 (k14.kept hn0 z0))
        have hw0 : w.heap.size < w0.heap.size := (Array.getElem?_eq_some_iff.1 z0).1
        have hs13 := ((k1.trans k2).trans k3).size
        have HI : Hid (∀ x r', (o.map fun p => (eOp 6 p.1, p.2)) = some (x, r') → ∀ v0 v1 v2 v3 v4 v5 v6, IsE (set7 w5 w.heap.size v0 v1 v2 v3 v4 v5 v6) (fun b => w.heap.size ≤ b) ⟨6, false, 0, ⟨#[]⟩, ⟨#[]⟩, ⟨#[]⟩, lo, k, c⟩ x) := hide (by
          intro x r' hx v0 v1 v2 v3 v4 v5 v6
          cases o with
          | none => cases hx
          | some p =>
            cases hx
            obtain ⟨q1, q2⟩ := unhide HL4 p.1 p.2 rfl
            unfold eOp IsE
            refine ⟨rfl, rfl, rfl, rfl, rfl, rfl, q1, IsEs.turn (by rw [set7_size]; exact b5.size) (fun b hb hb2 => ⟨?_, by omega⟩) lo 0 p.1 q2⟩
            rw [set7_heap _ _ _ _ _ _ _ _ _ _ (by omega)]
            exact b5.block b hb2)
        clear NO L S1 S2
        go_wp2
        exact bodyPost_ret (v := R7.val ⟨6, false, 0, ⟨#[]⟩, ⟨#[]⟩, ⟨#[]⟩, lo, k, c⟩) (by simp [results, Tryz.results94, go_sem, x0, x1, x2, x3, x4, x5, x6, R7.val]) rfl ⟨_, rfl, K5.set7 (Nat.le_refl _) _ _ _ _ _ _ _, by rw [unhide HE2]; exact R5.set7 hlt _ _ _ _ _ _ _, fun x r' hx => unhide HI x r' hx _ _ _ _ _ _ _⟩
      | false =>
        obtain ⟨g3, g4⟩ := isTS_no c2
        rw [c2, g3] at S2
        have e : st.bind (primP E) = st.bind leafP := by
          cases st with
          | none => rfl
          | some ts =>
            show primP E ts = leafP ts
            unfold primP
            rw [show atUid ts = false from c0, if_neg (by simp), show sg [40] ts = false from g2 ts rfl, if_neg (by simp), show sg [91] ts = false from g4 ts rfl, if_neg (by simp)]
        rw [e]
        generalize st.bind leafP = o at *
        clear e c0 c1 c2 g1 g2 g3 g4 UI NS NO HX
        go_enter Tryz.func94, Tryz.ntmps94
        go_wp2_with fail
        generalize w.alloc _ = w0 at *
        refine A.mono ?_
        rintro e w1 ⟨rfl, k1, r1⟩
        go_wp2_with fail
        refine (S1 _ r1).mono ?_
        rintro e w2 ⟨rfl, k2, r2⟩
        go_wp2_with fail
        refine (S2 _ r2).mono ?_
        rintro e w3 ⟨rfl, k3, r3⟩
        go_wp2_with fail
        refine (LF _ r3).mono ?_
        rintro e w4 ⟨r, rfl, k4, r4, hE4⟩
        have HE4 := hide hE4
        clear hE4
        unfold R7.val
        have k13 := (k1.trans k2).trans k3
        have k14 := k13.trans k4
        have K4 := (Keep.of_below (rb := rb) b0).trans k14
        obtain ⟨x0, x1, x2, x3, x4, x5, x6, xf⟩ := blk7 (k14.kept hn0 z0)
        have hz3 : w.heap.size < w3.heap.size := (Array.getElem?_eq_some_iff.1 (k13.kept hn0 z0)).1
        clear LF S1 S2
        go_wp2
        exact bodyPost_ret (v := R7.val r) (by simp [results, Tryz.results94, go_sem, x0, x1, x2, x3, x4, x5, x6, R7.val]) rfl ⟨_, rfl, K4.set7 (Nat.le_refl _) _ _ _ _ _ _ _, r4.set7 hlt _ _ _ _ _ _ _, fun x ts hx => (unhide HE4 x ts hx).set7 (by omega) hz3 _ _ _ _ _ _ _⟩
end Go.Proofs.YtlakgnnjokienaaGreatDoor
