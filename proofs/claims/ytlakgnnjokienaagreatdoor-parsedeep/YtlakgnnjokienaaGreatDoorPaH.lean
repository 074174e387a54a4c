/-
  parse's reader: what leans to the left.
-/
import Derived.Test.YtlakgnnjokienaaGreatDoorPaG
import Derived.Deep.RegionWith
namespace Go.Proofs.YtlakgnnjokienaaGreatDoor
open Go.RowKit

def FinB (l : List (Int × List UInt8 × Int)) (E : Pr Ex) (o F : Rs Ex) : Prop :=
  match o with
  | none => F = none
  | some (x, ts) => ∃ m, ts.length < m ∧ binL l E m x ts = F
theorem finB_start (l : List (Int × List UInt8 × Int)) (E : Pr Ex) (st : St) : FinB l E (st.bind E) (st.bind (binP l E)) := by
  cases st with
  | none => rfl
  | some ts =>
    show FinB l E (E ts) (binP l E ts)
    unfold binP
    cases E ts with
    | none => rfl
    | some p => exact ⟨p.2.length + 1, by omega, rfl⟩
theorem finB_stop {l : List (Int × List UInt8 × Int)} {E : Pr Ex} {o F : Rs Ex} (h : FinB l E o F) (hp : ∀ x ts, o = some (x, ts) → pickT l ts = none) : F = o := by
  cases o with
  | none => exact h
  | some p =>
    obtain ⟨x, ts⟩ := p
    obtain ⟨m, hm, e⟩ := h
    cases m with
    | zero => omega
    | succ m => rw [← e, binL, hp x ts rfl]
theorem finB_next {l : List (Int × List UInt8 × Int)} {E : Pr Ex} {x : Ex} {ts : List Tok} {F : Rs Ex} {op : Int} (hS : Short E) (h : FinB l E (some (x, ts)) F) (hp : pickT l ts = some op) (hl : 0 < ts.length) : FinB l E (op2 op x (E ts.tail)) F := by
  obtain ⟨m, hm, e⟩ := h
  cases m with
  | zero => omega
  | succ m =>
    rw [binL, hp] at e
    cases hE : E ts.tail with
    | none => rw [hE] at e; exact e.symm
    | some p =>
      rw [hE] at e
      refine ⟨m, ?_, e⟩
      have := hS _ _ _ hE
      simp at this
      omega

theorem isE_op2 {w : World} {P : Nat → Prop} {b c : Nat} {r r' : R7} {x y : Ex} (op : Int) (hP : P b) (hb : b < w.heap.size) (h7 : At7 w b 0 r) (h7' : At7 w b 7 r') (hx : IsE w P r x) (hy : IsE w P r' y) : IsE w P ⟨op, false, 0, ⟨#[]⟩, ⟨#[]⟩, ⟨#[]⟩, some ⟨b, 0, none⟩, 2, c⟩ (eOp op [x, y]) := by
  unfold eOp
  unfold IsE
  refine ⟨rfl, rfl, rfl, rfl, rfl, rfl, rfl, ?_⟩
  unfold IsEs
  refine ⟨⟨r, b, 0, rfl, hP, hb, by simpa using h7, hx⟩, ?_⟩
  unfold IsEs
  refine ⟨⟨r', b, 0, rfl, hP, hb, by simpa using h7', hy⟩, ?_⟩
  unfold IsEs
  trivial
/-- Two trees, one behind the other, in a new block. -/
def arr2 (r r' : R7) : Obj := .cells #[.int .i64 r.k, .bool r.b, .int .i64 r.n, .string r.s, .string r.t, .string r.i, .slice r.lo r.ll r.lc, .int .i64 r'.k, .bool r'.b, .int .i64 r'.n, .string r'.s, .string r'.t, .string r'.i, .slice r'.lo r'.ll r'.lc] 28 (0, 0)
theorem At7.arr2 {w : World} {b : Nat} {r r' : R7} (h : w.heap[b]? = some (arr2 r r')) : At7 w b 0 r ∧ At7 w b 7 r' := by
  unfold Go.Proofs.YtlakgnnjokienaaGreatDoor.arr2 at h
  refine ⟨⟨?_, ?_, ?_, ?_, ?_, ?_, ?_⟩, ⟨?_, ?_, ?_, ?_, ?_, ?_, ?_⟩⟩ <;> (rw [Lib.cell_of_heap h]; rfl)
/-- What was made of two kids, behind the store of it. -/
theorem isE_fin2 {w2 w4 : World} {n b3 : Nat} {P Q : Nat → Prop} {r r' : R7} {x y : Ex} (op : Int) (h : IsE w2 P r x) (h' : IsE w2 Q r' y) (hP : ∀ b, P b → b ≠ b3 ∧ n < b) (hQ : ∀ b, Q b → b ≠ b3 ∧ n < b) (hn : n < w2.heap.size) (h3 : b3 < w2.heap.size)
    (b4 : Below (w2.alloc (arr2 r r')).heap.size (w2.alloc (arr2 r r')) w4) (v0 v1 v2 v3 v4 v5 v6 : Value) :
    IsE (set7 w4 b3 v0 v1 v2 v3 v4 v5 v6) (fun b => b ≠ b3 ∧ n < b) ⟨op, false, 0, ⟨#[]⟩, ⟨#[]⟩, ⟨#[]⟩, some ⟨w2.heap.size, 0, none⟩, 2, 2⟩ (eOp op [x, y]) := by
  have hs := b4.size
  simp only [World.alloc, Array.size_push] at hs
  have hb : (set7 w4 b3 v0 v1 v2 v3 v4 v5 v6).heap[w2.heap.size]? = some (arr2 r r') := by
    rw [set7_heap _ _ _ _ _ _ _ _ _ _ (by omega)]
    exact kept_of_below b4 (alloc_heap _ _)
  obtain ⟨q1, q2⟩ := At7.arr2 hb
  have hk : ∀ k, k ≠ b3 → k < w2.heap.size → (set7 w4 b3 v0 v1 v2 v3 v4 v5 v6).heap[k]? = w2.heap[k]? := fun k h1 h2 => by
    rw [set7_heap _ _ _ _ _ _ _ _ _ _ h1, b4.block k (by simp only [World.alloc, Array.size_push]; omega)]
    exact Below.heap_alloc _ _ _ h2
  refine isE_op2 op ⟨by omega, by omega⟩ (by rw [set7_size]; omega) q1 q2 ?_ ?_
  · exact IsE.turn (by rw [set7_size]; omega) (fun k hk1 hk2 => ⟨hk k (hP k hk1).1 hk2, hP k hk1⟩) r x h
  · exact IsE.turn (by rw [set7_size]; omega) (fun k hk1 hk2 => ⟨hk k (hQ k hk1).1 hk2, hQ k hk1⟩) r' y h'
theorem outS_op2 (k : Int) (x : Ex) (o : Rs Ex) : outS (op2 k x o) = outS o := by cases o <;> rfl

theorem short_len {E : Pr Ex} (hS : Short E) (st : St) : stLen (outS (st.bind E)) ≤ stLen st := by
  cases st with
  | none => exact Nat.le_refl _
  | some ts =>
    show stLen (outS (E ts)) ≤ _
    cases hE : E ts with
    | none => exact Nat.zero_le _
    | some p => exact hS _ _ _ hE
theorem IsE.out7 {wr w5 : World} {rb n : Nat} {P : Nat → Prop} {r : R7} {x : Ex} (h : IsE wr P r x) (hP : ∀ b, P b → n < b) (k5 : Keep rb wr w5) (hr : rb < n) (v0 v1 v2 v3 v4 v5 v6 : Value) : IsE (Go.Proofs.YtlakgnnjokienaaGreatDoor.set7 w5 n v0 v1 v2 v3 v4 v5 v6) (fun b => n ≤ b) r x :=
  IsE.turn (by rw [set7_size]; exact k5.size) (fun b hb hb2 => ⟨by
    have := hP b hb
    rw [set7_heap _ _ _ _ _ _ _ _ _ _ (by omega)]
    exact k5.block b hb2 (by omega), by have := hP b hb; omega⟩) r x h
theorem outS_some {o : Rs Ex} {ts : List Tok} (h : outS o = some ts) : ∃ x, o = some (x, ts) := by
  cases o with
  | none => cases h
  | some p => exact ⟨p.1, by cases h; rfl⟩

set_option maxHeartbeats 4000000 in
set_option maxRecDepth 1000000 in
theorem mul_does (E : Pr Ex) (n : Nat) (hS : Short E) (HU : Does 78 E n) : Does 69 (binP sMul E) n := by
  intro st w rb hn h
  have hlt := h.lt
  have b0 := new1 w (.cells #[.int .i64 0, .bool false, .int .i64 0, .string ⟨#[]⟩, .string ⟨#[]⟩, .string ⟨#[]⟩, .slice none 0 0] 28)
  have z0 : (w.alloc (.cells #[.int .i64 0, .bool false, .int .i64 0, .string ⟨#[]⟩, .string ⟨#[]⟩, .string ⟨#[]⟩, .slice none 0 0] 28)).heap[w.heap.size]? = some (.cells #[.int .i64 0, .bool false, .int .i64 0, .string ⟨#[]⟩, .string ⟨#[]⟩, .string ⟨#[]⟩, .slice none 0 0] 28 (0, 0)) := alloc_heap _ _
  have hn0 : w.heap.size ≠ rb := by omega
  have U0 := HU st _ rb hn (h.below b0)
  have hfin := hide (finB_start sMul E st)
  have hle := short_len hS st
  generalize st.bind E = o1 at *
  generalize st.bind (binP sMul E) = F at *
  unfold rp at U0 ⊢
  go_enter Tryz.func69, Tryz.ntmps69
  go_wp2_with fail
  generalize w.alloc _ = w0 at *
  refine U0.mono ?_
  rintro e w2 ⟨r1, rfl, k2, r2, hE1⟩
  have HE1 := hide hE1
  clear hE1
  unfold R7.val
  have hw0 : w.heap.size < w0.heap.size := (Array.getElem?_eq_some_iff.1 z0).1
  have z2 := k2.kept hn0 z0
  have hw2 := k2.size
  go_wp2_with fail
  go_loopw [] (fun wr => ∃ (o : Rs Ex) (r : R7), Keep rb w wr ∧ RdAt wr rb (outS o) ∧ wr.heap[w2.heap.size]? = some (.cells #[.int .i64 r.k, .bool r.b, .int .i64 r.n, .string r.s, .string r.t, .string r.i, .slice r.lo r.ll r.lc] 28 (0, 0)) ∧ wr.heap[w.heap.size]? = some (.cells #[.int .i64 0, .bool false, .int .i64 0, .string ⟨#[]⟩, .string ⟨#[]⟩, .string ⟨#[]⟩, .slice none 0 0] 28 (0, 0)) ∧
      Hid (∀ x ts, o = some (x, ts) → IsE wr (fun b => b ≠ w2.heap.size ∧ w.heap.size < b) r x) ∧ stLen (outS o) < n ∧ Hid (FinB sMul E o F)) (fun wr => leftN wr rb)
  case atStart =>
    have n3 := new1 w2 (.cells #[.int .i64 r1.k, .bool r1.b, .int .i64 r1.n, .string r1.s, .string r1.t, .string r1.i, .slice r1.lo r1.ll r1.lc] 28)
    refine ⟨o1, r1, ((Keep.of_below (rb := rb) b0).trans k2).trans (.of_below n3), r2.below n3, alloc_heap _ _, kept_of_below n3 z2, hide ?_, by omega, hfin⟩
    intro x ts hx
    refine IsE.turn n3.size (fun b hb hb2 => ⟨n3.block b hb2, by omega, by omega⟩) r1 x (unhide HE1 x ts hx)
  case round =>
    obtain ⟨o, r, hK, hR, Z3, Z2, HE, hlen, HF⟩ := hrel
    have S : Calls Tryz.prog 35 #[.pointer (some ⟨rb, 0, none⟩), .string ⟨#[42]⟩] wr fun e w' => e = .returned (.bool (isTS 4 [42] (outS o))) ∧ Keep rb wr w' ∧ RdAt w' rb (aft 4 [42] (outS o)) := sign_any (outS o) wr rb ⟨#[42]⟩ hR
    have hn3 : w2.heap.size ≠ rb := by omega
    cases c1 : isTS 4 [42] (outS o) with
    | true =>
      obtain ⟨ts, ho, hl, g1, g2⟩ := isTS_sg (by decide) c1
      obtain ⟨x, rfl⟩ := outS_some ho
      have hp : pickT sMul ts = some 13 := by show pickT [(4, [42], 13)] ts = _; rw [pickT, g1]; rfl
      have HF2 := hide (finB_next hS (unhide HF) hp hl)
      have hlen1 : stLen (some ts.tail) < n := by have : stLen (some ts) < n := hlen; simp [stLen] at this ⊢; omega
      have hlen2 : stLen (outS (op2 13 x (E ts.tail))) < ts.length ∧ stLen (outS (op2 13 x (E ts.tail))) < n := by
        have := short_len hS (some ts.tail)
        rw [outS_op2]
        have h2 : stLen (outS (E ts.tail)) ≤ stLen (some ts.tail) := this
        have h3 : stLen (some ts.tail) = ts.length - 1 := by simp [stLen]
        omega
      have hleft : leftN wr rb = ts.length := hR.left
      have U := fun w' h' => HU (some ts.tail) w' rb hlen1 h'
      have U : ∀ w', RdAt w' rb (some ts.tail) → Calls Tryz.prog 78 #[.pointer (some ⟨rb, 0, none⟩)] w' (Res rb w' (E ts.tail)) := U
      generalize E ts.tail = o2 at *
      rw [c1, g2] at S
      have Hx := hide (unhide HE x ts rfl)
      have HL := hide hlen2
      have HLf := hide hleft
      clear c1 g1 g2 HF HE hp hlen1 hlen2 hleft hlen ho
      generalize (some ts.tail : St) = s1 at *
      go_wp2_with fail
      refine S.mono ?_
      rintro e w5 ⟨rfl, k5, r5⟩
      have K5 := hK.trans k5
      have Z3 := k5.kept hn3 Z3
      have Z2 := k5.kept hn0 Z2
      obtain ⟨u0, u1, u2, u3, u4, u5, u6, _⟩ := blk7 Z3
      have hz3 : w2.heap.size < w5.heap.size := (Array.getElem?_eq_some_iff.1 Z3).1
      have NO := fun ao n c w => node_any 13 ao n c w
      clear S
      go_wp2_with fail
      go_region_with (first
        | (go_at_call 78
           refine (U _ r5.drew).mono ?_
           rintro e w6 ⟨r', rfl, k6, r6, hE6⟩
           have HE6 := hide hE6
           clear hE6
           obtain ⟨v0, v1, v2, v3, v4, v5, v6, _⟩ := blk7 (k6.kept hn3 Z3)
           unfold R7.val)
        | (go_at_call 24
           refine (NO _ _ _ _).mono ?_
           rintro e w8 ⟨rfl, b8⟩
           have n7 := new1 w6 (arr2 r r')
           have b68 := n7.trans (b8.mono n7.size)
           obtain ⟨y0, y1, y2, y3, y4, y5, y6, yf⟩ := blk7 (kept_of_below b68 (k6.kept hn3 Z3))))
      all_goals
        have R8 := (r6.below b68).set7 (b := w2.heap.size) (by omega) (.int .i64 13) (.bool false) (.int .i64 0) (.string ⟨#[]⟩) (.string ⟨#[]⟩) (.string ⟨#[]⟩) (.slice (some ⟨w6.heap.size, 0, none⟩) 2 2)
        rw [← outS_op2 13 x] at R8
        go_roundw
        case rel =>
          refine ⟨_, _, _, _, _, _, _, ⟨op2 13 x o2, ⟨13, false, 0, ⟨#[]⟩, ⟨#[]⟩, ⟨#[]⟩, some ⟨w6.heap.size, 0, none⟩, 2, 2⟩, ((K5.drew.trans k6).trans (.of_below b68)).set7 (by omega) _ _ _ _ _ _ _, R8, set7_at (kept_of_below b68 (k6.kept hn3 Z3)) _ _ _ _ _ _ _, (set7_heap _ _ _ _ _ _ _ _ _ _ (by omega)).trans (kept_of_below b68 (k6.kept hn0 Z2)), hide ?_, (unhide HL).2, HF2⟩, rfl⟩
          intro x' ts' hx
          cases o2 with
          | none => cases hx
          | some p =>
            cases hx
            have hz6 := k6.size
            have hz6' : w5.heap.size ≤ w6.heap.size := hz6
            refine isE_fin2 13 (P := fun b => b ≠ w2.heap.size ∧ w.heap.size < b) (Q := fun b => w5.heap.size ≤ b) ?_ (unhide HE6 p.1 p.2 rfl) (fun b hb => hb) (fun b hb => by omega) (by omega) (by omega) b8 _ _ _ _ _ _ _
            exact IsE.turn (by have := k5.size; omega) (fun b hb hb2 => ⟨(k6.block b (by show b < w5.heap.size; have := k5.size; omega) (by omega)).trans (k5.block b hb2 (by omega)), hb⟩) r x (unhide Hx)
        case measure =>
          have h1 := R8.left
          have h2 := (unhide HL).1
          have h3 := unhide HLf
          unfold Go.Proofs.YtlakgnnjokienaaGreatDoor.set7 at h1
          omega
    | false =>
      obtain ⟨g1, g2⟩ := isTS_no c1
      have e : F = o := finB_stop (unhide HF) (fun x ts hx => by subst hx; show pickT [(4, [42], 13)] ts = none; rw [pickT, g2 ts rfl]; rfl)
      rw [c1, g1] at S
      clear c1 g1 g2 HF
      go_wp2_with fail
      refine S.mono ?_
      rintro e w5 ⟨rfl, k5, r5⟩
      obtain ⟨u0, u1, u2, u3, u4, u5, u6, _⟩ := blk7 (k5.kept hn3 Z3)
      obtain ⟨x0, x1, x2, x3, x4, x5, x6, xf⟩ := blk7 (k5.kept hn0 Z2)
      have K5 := hK.trans k5
      subst e
      go_wp2
      exact bodyPost_ret (v := R7.val r) (by simp [results, Tryz.results69, go_sem, x0, x1, x2, x3, x4, x5, x6, R7.val]) rfl ⟨_, rfl, K5.set7 (Nat.le_refl _) _ _ _ _ _ _ _, r5.set7 hlt _ _ _ _ _ _ _, fun x ts hx => (unhide HE x ts hx).out7 (fun b hb => hb.2) k5 hlt _ _ _ _ _ _ _⟩
end Go.Proofs.YtlakgnnjokienaaGreatDoor
