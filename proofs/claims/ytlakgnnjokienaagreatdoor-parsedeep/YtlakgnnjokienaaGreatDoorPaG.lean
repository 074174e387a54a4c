/-
  parse's reader: signs ahead.
-/
import Derived.Test.YtlakgnnjokienaaGreatDoorPaF
namespace Go.Proofs.YtlakgnnjokienaaGreatDoor
open Go.RowKit

theorem At7.of_blk {w : World} {b : Nat} {r : R7} {T : TypeId} (h : w.heap[b]? = some (.cells #[.int .i64 r.k, .bool r.b, .int .i64 r.n, .string r.s, .string r.t, .string r.i, .slice r.lo r.ll r.lc] T (0, 0))) : At7 w b 0 r := by
  obtain ⟨h0, h1, h2, h3, h4, h5, h6, _⟩ := blk7 h
  exact ⟨h0, h1, h2, h3, h4, h5, h6⟩
theorem isE_op1 {w : World} {P : Nat → Prop} {b c : Nat} {r : R7} {x : Ex} (op : Int) (hP : P b) (hb : b < w.heap.size) (h7 : At7 w b 0 r) (hx : IsE w P r x) : IsE w P ⟨op, false, 0, ⟨#[]⟩, ⟨#[]⟩, ⟨#[]⟩, some ⟨b, 0, none⟩, 1, c⟩ (eOp op [x]) := by
  unfold eOp
  unfold IsE
  refine ⟨rfl, rfl, rfl, rfl, rfl, rfl, rfl, ?_⟩
  unfold IsEs
  refine ⟨⟨r, b, 0, rfl, hP, hb, by simpa using h7, hx⟩, ?_⟩
  unfold IsEs
  trivial

theorem isTS_sg {k : Int} {x : List UInt8} {st : St} (hk : k ≠ 0) (h : isTS k x st = true) : ∃ ts, st = some ts ∧ 0 < ts.length ∧ isT k x ts = true ∧ aft k x st = some ts.tail := by
  obtain ⟨ts, rfl, hl⟩ := isTS_some hk h
  exact ⟨ts, rfl, hl, h, by rw [aft, h]; rfl⟩
theorem isTS_no {k : Int} {x : List UInt8} {st : St} (h : isTS k x st = false) : aft k x st = st ∧ ∀ ts, st = some ts → isT k x ts = false :=
  ⟨by rw [aft, h]; rfl, fun ts e => by subst e; exact h⟩

/-- What was made of one kid, behind the store of the answer. -/
theorem isE_fin1 {w2 w4 : World} {n m : Nat} {r : R7} {x : Ex} (op : Int) (h : IsE w2 (fun b => m ≤ b) r x) (hn : n < m) (hm : m ≤ w2.heap.size)
    (b4 : Below (w2.alloc (.cells #[.int .i64 r.k, .bool r.b, .int .i64 r.n, .string r.s, .string r.t, .string r.i, .slice r.lo r.ll r.lc] 28)).heap.size (w2.alloc (.cells #[.int .i64 r.k, .bool r.b, .int .i64 r.n, .string r.s, .string r.t, .string r.i, .slice r.lo r.ll r.lc] 28)) w4) (v0 v1 v2 v3 v4 v5 v6 : Value) :
    IsE (set7 w4 n v0 v1 v2 v3 v4 v5 v6) (fun b => n ≤ b) ⟨op, false, 0, ⟨#[]⟩, ⟨#[]⟩, ⟨#[]⟩, some ⟨w2.heap.size, 0, none⟩, 1, 1⟩ (eOp op [x]) := by
  have hs := b4.size
  simp only [World.alloc, Array.size_push] at hs
  refine isE_op1 (r := r) op (by omega) (by rw [set7_size]; omega) (At7.of_blk (T := 28) ?_) ?_
  · rw [set7_heap _ _ _ _ _ _ _ _ _ _ (by omega)]
    exact kept_of_below b4 (alloc_heap _ _)
  · refine IsE.turn (by rw [set7_size]; omega) (fun k hk hk2 => ⟨?_, by omega⟩) r x h
    rw [set7_heap _ _ _ _ _ _ _ _ _ _ (by omega), b4.block k (by simp only [World.alloc, Array.size_push]; omega)]
    exact Below.heap_alloc _ _ _ hk2
theorem outS_op1 (k : Int) (o : Rs Ex) : outS (op1 k o) = outS o := by cases o <;> rfl

set_option maxHeartbeats 2000000 in
set_option maxRecDepth 1000000 in
theorem un_upto (E : Pr Ex) (n : Nat) (HM : Does 87 (memP E) n) : ∀ (m : Nat) (st : St) (w : World) (rb : Nat), stLen st < n → stLen st < m → RdAt w rb st → Calls Tryz.prog 78 #[rp rb] w (Res rb w (st.bind (unN E m))) := by
  intro m
  induction m with
  | zero => intro st w rb _ h; omega
  | succ m ih =>
    intro st w rb hn hm h
    have hlt := h.lt
    have b0 := new1 w (.cells #[.int .i64 0, .bool false, .int .i64 0, .string ⟨#[]⟩, .string ⟨#[]⟩, .string ⟨#[]⟩, .slice none 0 0] 28)
    have z0 : (w.alloc (.cells #[.int .i64 0, .bool false, .int .i64 0, .string ⟨#[]⟩, .string ⟨#[]⟩, .string ⟨#[]⟩, .slice none 0 0] 28)).heap[w.heap.size]? = some (.cells #[.int .i64 0, .bool false, .int .i64 0, .string ⟨#[]⟩, .string ⟨#[]⟩, .string ⟨#[]⟩, .slice none 0 0] 28 (0, 0)) := alloc_heap _ _
    have hn0 : w.heap.size ≠ rb := by omega
    have S1 : Calls Tryz.prog 35 #[rp rb, .string ⟨#[33]⟩] (w.alloc (.cells #[.int .i64 0, .bool false, .int .i64 0, .string ⟨#[]⟩, .string ⟨#[]⟩, .string ⟨#[]⟩, .slice none 0 0] 28)) fun e w' => e = .returned (.bool (isTS 4 [33] st)) ∧ Keep rb (w.alloc (.cells #[.int .i64 0, .bool false, .int .i64 0, .string ⟨#[]⟩, .string ⟨#[]⟩, .string ⟨#[]⟩, .slice none 0 0] 28)) w' ∧ RdAt w' rb (aft 4 [33] st) := sign_any st _ rb ⟨#[33]⟩ (h.below b0)
    have S2 : ∀ w1, RdAt w1 rb st → Calls Tryz.prog 35 #[rp rb, .string ⟨#[45]⟩] w1 fun e w' => e = .returned (.bool (isTS 4 [45] st)) ∧ Keep rb w1 w' ∧ RdAt w' rb (aft 4 [45] st) := fun w1 h' => sign_any st w1 rb ⟨#[45]⟩ h'
    cases c1 : isTS 4 [33] st with
    | true =>
      obtain ⟨ts, rfl, hl, h1, h2⟩ := isTS_sg (by decide) c1
      have e : (some ts : St).bind (unN E (m + 1)) = op1 11 (unN E m ts.tail) := by
        show unN E (m + 1) ts = _
        rw [unN, show sg [33] ts = true from h1, if_pos rfl]
      rw [e]
      rw [c1, h2] at S1
      have htl : stLen (some ts.tail) = ts.length - 1 := by simp [stLen]
      have hll : stLen (some ts) = ts.length := rfl
      have U := fun w' h' => ih (some ts.tail) w' rb (by omega) (by omega) h'
      have U : ∀ w', RdAt w' rb (some ts.tail) → Calls Tryz.prog 78 #[rp rb] w' (Res rb w' (unN E m ts.tail)) := U
      generalize unN E m ts.tail = o at *
      clear h1 h2 c1
      generalize (some ts.tail : St) = s1 at *
      unfold rp at S1 S2 U ⊢
      clear e htl hll ih HM
      go_enter Tryz.func78, Tryz.ntmps78
      go_wp2_with fail
      generalize w.alloc _ = w0 at *
      refine S1.mono ?_
      rintro e w1 ⟨rfl, k1, r1⟩
      go_wp2_with fail
      refine (U _ r1).mono ?_
      rintro e w2 ⟨r, rfl, k2, r2, hE⟩
      have HE := hide hE
      clear hE
      unfold R7.val
      have NO := fun ao n c w => node_any 11 ao n c w
      go_wp2_with fail
      refine (NO _ _ _ _).mono ?_
      rintro e w4 ⟨rfl, b4⟩
      have n3 := new1 w2 (.cells #[.int .i64 r.k, .bool r.b, .int .i64 r.n, .string r.s, .string r.t, .string r.i, .slice r.lo r.ll r.lc] 28)
      have b24 := n3.trans (b4.mono n3.size)
      have K4 := (((Keep.of_below (rb := rb) b0).trans k1).trans k2).trans (.of_below b24)
      have R4 := r2.below b24
      obtain ⟨x0, x1, x2, x3, x4, x5, x6, xf⟩ := blk7 (kept_of_below b24 (k2.kept hn0 (k1.kept hn0 z0)))
      have hz1 : w.heap.size < w1.heap.size := (Array.getElem?_eq_some_iff.1 (k1.kept hn0 z0)).1
      have hz2 := k2.size
      clear NO U
      go_wp2
      exact bodyPost_ret (v := R7.val ⟨11, false, 0, ⟨#[]⟩, ⟨#[]⟩, ⟨#[]⟩, some ⟨w2.heap.size, 0, none⟩, 1, 1⟩) (by simp [results, Tryz.results78, go_sem, x0, x1, x2, x3, x4, x5, x6, R7.val]) rfl ⟨_, rfl, K4.set7 (Nat.le_refl _) _ _ _ _ _ _ _, by rw [outS_op1]; exact R4.set7 hlt _ _ _ _ _ _ _, fun x ts hx => by
        cases o with
        | none => cases hx
        | some p => cases hx; exact isE_fin1 11 (unhide HE p.1 p.2 rfl) hz1 hz2 b4 _ _ _ _ _ _ _⟩
    | false =>
      obtain ⟨g1, g2⟩ := isTS_no c1
      rw [c1, g1] at S1
      cases c2 : isTS 4 [45] st with
      | true =>
        obtain ⟨ts, rfl, hl, h1, h2⟩ := isTS_sg (by decide) c2
        have e : (some ts : St).bind (unN E (m + 1)) = op1 12 (unN E m ts.tail) := by
          show unN E (m + 1) ts = _
          rw [unN, show sg [33] ts = false from g2 ts rfl, if_neg (by simp), show sg [45] ts = true from h1, if_pos rfl]
        rw [e]
        rw [c2, h2] at S2
        have htl : stLen (some ts.tail) = ts.length - 1 := by simp [stLen]
        have hll : stLen (some ts) = ts.length := rfl
        have U := fun w' h' => ih (some ts.tail) w' rb (by omega) (by omega) h'
        have U : ∀ w', RdAt w' rb (some ts.tail) → Calls Tryz.prog 78 #[rp rb] w' (Res rb w' (unN E m ts.tail)) := U
        generalize unN E m ts.tail = o at *
        clear h1 h2 c1 c2 g1 g2
        generalize (some ts.tail : St) = s1 at *
        unfold rp at S1 S2 U ⊢
        clear e htl hll ih HM
        go_enter Tryz.func78, Tryz.ntmps78
        go_wp2_with fail
        generalize w.alloc _ = w0 at *
        refine S1.mono ?_
        rintro e w1 ⟨rfl, k1, r1⟩
        go_wp2_with fail
        refine (S2 _ r1).mono ?_
        rintro e w1' ⟨rfl, k1', r1⟩
        have k1 := k1.trans k1'
        go_wp2_with fail
        refine (U _ r1).mono ?_
        rintro e w2 ⟨r, rfl, k2, r2, hE⟩
        have HE := hide hE
        clear hE
        unfold R7.val
        have NO := fun ao n c w => node_any 12 ao n c w
        go_wp2_with fail
        refine (NO _ _ _ _).mono ?_
        rintro e w4 ⟨rfl, b4⟩
        have n3 := new1 w2 (.cells #[.int .i64 r.k, .bool r.b, .int .i64 r.n, .string r.s, .string r.t, .string r.i, .slice r.lo r.ll r.lc] 28)
        have b24 := n3.trans (b4.mono n3.size)
        have K4 := (((Keep.of_below (rb := rb) b0).trans k1).trans k2).trans (.of_below b24)
        have R4 := r2.below b24
        obtain ⟨x0, x1, x2, x3, x4, x5, x6, xf⟩ := blk7 (kept_of_below b24 (k2.kept hn0 (k1.kept hn0 z0)))
        have hz1 : w.heap.size < w1'.heap.size := (Array.getElem?_eq_some_iff.1 (k1.kept hn0 z0)).1
        have hz2 := k2.size
        clear NO U
        go_wp2
        exact bodyPost_ret (v := R7.val ⟨12, false, 0, ⟨#[]⟩, ⟨#[]⟩, ⟨#[]⟩, some ⟨w2.heap.size, 0, none⟩, 1, 1⟩) (by simp [results, Tryz.results78, go_sem, x0, x1, x2, x3, x4, x5, x6, R7.val]) rfl ⟨_, rfl, K4.set7 (Nat.le_refl _) _ _ _ _ _ _ _, by rw [outS_op1]; exact R4.set7 hlt _ _ _ _ _ _ _, fun x ts hx => by
          cases o with
          | none => cases hx
          | some p => cases hx; exact isE_fin1 12 (unhide HE p.1 p.2 rfl) hz1 hz2 b4 _ _ _ _ _ _ _⟩
      | false =>
        obtain ⟨g3, g4⟩ := isTS_no c2
        rw [c2, g3] at S2
        have e : st.bind (unN E (m + 1)) = st.bind (memP E) := by
          cases st with
          | none => rfl
          | some ts =>
            show unN E (m + 1) ts = memP E ts
            rw [unN, show sg [33] ts = false from g2 ts rfl, if_neg (by simp), show sg [45] ts = false from g4 ts rfl, if_neg (by simp)]
        rw [e]
        have U := fun w' h' => HM st w' rb hn h'
        generalize st.bind (memP E) = o at *
        unfold rp at S1 S2 U ⊢
        clear e g1 g2 g3 g4 c1 c2 ih HM
        go_enter Tryz.func78, Tryz.ntmps78
        go_wp2_with fail
        generalize w.alloc _ = w0 at *
        refine S1.mono ?_
        rintro e w1 ⟨rfl, k1, r1⟩
        go_wp2_with fail
        refine (S2 _ r1).mono ?_
        rintro e w1' ⟨rfl, k1', r1⟩
        have k1 := k1.trans k1'
        go_wp2_with fail
        refine (U _ r1).mono ?_
        rintro e w2 ⟨r, rfl, k2, r2, hE⟩
        have HE := hide hE
        clear hE
        unfold R7.val
        have K2 := ((Keep.of_below (rb := rb) b0).trans k1).trans k2
        obtain ⟨x0, x1, x2, x3, x4, x5, x6, xf⟩ := blk7 (k2.kept hn0 (k1.kept hn0 z0))
        have hz1 : w.heap.size < w1'.heap.size := (Array.getElem?_eq_some_iff.1 (k1.kept hn0 z0)).1
        clear U
        go_wp2
        exact bodyPost_ret (v := R7.val r) (by simp [results, Tryz.results78, go_sem, x0, x1, x2, x3, x4, x5, x6, R7.val]) rfl ⟨_, rfl, K2.set7 (Nat.le_refl _) _ _ _ _ _ _ _, r2.set7 hlt _ _ _ _ _ _ _, fun x ts hx => (unhide HE x ts hx).set7 (by omega) hz1 _ _ _ _ _ _ _⟩

theorem un_does (E : Pr Ex) (n : Nat) (HM : Does 87 (memP E) n) : Does 78 (unP E) n := by
  intro st w rb hn h
  have := un_upto E n HM (stLen st + 1) st w rb hn (by omega) h
  cases st with
  | none => exact this
  | some ts => exact this
end Go.Proofs.YtlakgnnjokienaaGreatDoor
