/-
  parse's reader: dots.
-/
import Derived.Test.YtlakgnnjokienaaGreatDoorPaL
import Derived.Test.YtlakgnnjokienaaGreatDoorPaO
namespace Go.Proofs.YtlakgnnjokienaaGreatDoor
open Go.RowKit

def FinM (E : Pr Ex) (o F : Rs Ex) : Prop :=
  match o with
  | none => F = none
  | some (x, ts) => ∃ m, ts.length < m ∧ memL E m x ts = F
theorem finM_start (E : Pr Ex) (st : St) : FinM E (st.bind (primP E)) (st.bind (memP E)) := by
  cases st with
  | none => rfl
  | some ts =>
    show FinM E (primP E ts) (memP E ts)
    unfold memP
    cases primP E ts with
    | none => rfl
    | some p => exact ⟨p.2.length + 1, by omega, rfl⟩
theorem finM_stop {E : Pr Ex} {o F : Rs Ex} (h : FinM E o F) (hp : ∀ x ts, o = some (x, ts) → sg [46] ts = false) : F = o := by
  cases o with
  | none => exact h
  | some p =>
    obtain ⟨x, ts⟩ := p
    obtain ⟨m, hm, e⟩ := h
    cases m with
    | zero => omega
    | succ m => rw [← e, memL, hp x ts rfl]; rfl
theorem finM_next {E : Pr Ex} {x : Ex} {ts : List Tok} {F : Rs Ex} (hS : Short E) (h : FinM E (some (x, ts)) F) (hp : sg [46] ts = true) (hl : 0 < ts.length) : FinM E (memberP E x ts.tail) F := by
  obtain ⟨m, hm, e⟩ := h
  cases m with
  | zero => omega
  | succ m =>
    rw [memL, hp, if_pos rfl] at e
    cases hE : memberP E x ts.tail with
    | none => rw [hE] at e; exact e.symm
    | some p =>
      rw [hE] at e
      refine ⟨m, ?_, e⟩
      have := memberP_short hS x _ _ _ hE
      simp at this
      omega
/-- A tree stays behind a store into a block that is none of its own. -/
theorem IsE.over7 {w6 : World} {b3 n : Nat} {P : Nat → Prop} {r : R7} {x : Ex} (h : IsE w6 P r x) (hP : ∀ b, P b → b ≠ b3 ∧ n < b) (v0 v1 v2 v3 v4 v5 v6 : Value) : IsE (Go.Proofs.YtlakgnnjokienaaGreatDoor.set7 w6 b3 v0 v1 v2 v3 v4 v5 v6) (fun b => b ≠ b3 ∧ n < b) r x :=
  IsE.turn (by rw [set7_size]; exact Nat.le_refl _) (fun b hb _ => ⟨set7_heap _ _ _ _ _ _ _ _ _ _ (hP b hb).1, hP b hb⟩) r x h

set_option maxHeartbeats 4000000 in
set_option maxRecDepth 1000000 in
theorem mem_does (E : Pr Ex) (n : Nat) (hE : Short E) (HU : Does 94 (primP E) (n + 1)) (HM : MDoes (memberP E) n) : Does 87 (memP E) (n + 1) := by
  intro st w rb hn h
  have hlt := h.lt
  have b0 := new1 w (.cells #[.int .i64 0, .bool false, .int .i64 0, .string ⟨#[]⟩, .string ⟨#[]⟩, .string ⟨#[]⟩, .slice none 0 0] 28)
  have z0 : (w.alloc (.cells #[.int .i64 0, .bool false, .int .i64 0, .string ⟨#[]⟩, .string ⟨#[]⟩, .string ⟨#[]⟩, .slice none 0 0] 28)).heap[w.heap.size]? = some (.cells #[.int .i64 0, .bool false, .int .i64 0, .string ⟨#[]⟩, .string ⟨#[]⟩, .string ⟨#[]⟩, .slice none 0 0] 28 (0, 0)) := alloc_heap _ _
  have hn0 : w.heap.size ≠ rb := by omega
  have U0 := HU st _ rb hn (h.below b0)
  have hfin := hide (finM_start E st)
  have hle := short_len (primP_short hE) st
  generalize st.bind (primP E) = o1 at *
  generalize st.bind (memP E) = F at *
  unfold rp at U0 ⊢
  go_enter Tryz.func87, Tryz.ntmps87
  go_wp2_with fail
  generalize w.alloc _ = w0 at *
  refine U0.mono ?_
  rintro e w2 ⟨r1, rfl, k2, r2, hE1⟩
  have HE1 := hide hE1
  clear hE1
  unfold R7.val
  have hw0 : w.heap.size < w0.heap.size := (Array.getElem?_eq_some_iff.1 z0).1
  have z2 := k2.kept hn0 z0
  have hw2 := k2.size
  go_wp2_with fail
  go_loopw [] (fun wr => ∃ (o : Rs Ex) (r : R7), Keep rb w wr ∧ RdAt wr rb (outS o) ∧ wr.heap[w2.heap.size]? = some (.cells #[.int .i64 r.k, .bool r.b, .int .i64 r.n, .string r.s, .string r.t, .string r.i, .slice r.lo r.ll r.lc] 28 (0, 0)) ∧ wr.heap[w.heap.size]? = some (.cells #[.int .i64 0, .bool false, .int .i64 0, .string ⟨#[]⟩, .string ⟨#[]⟩, .string ⟨#[]⟩, .slice none 0 0] 28 (0, 0)) ∧
      Hid (∀ x ts, o = some (x, ts) → IsE wr (fun b => b ≠ w2.heap.size ∧ w.heap.size < b) r x) ∧ stLen (outS o) < n + 1 ∧ Hid (FinM E o F)) (fun wr => leftN wr rb)
  case atStart =>
    have n3 := new1 w2 (.cells #[.int .i64 r1.k, .bool r1.b, .int .i64 r1.n, .string r1.s, .string r1.t, .string r1.i, .slice r1.lo r1.ll r1.lc] 28)
    refine ⟨o1, r1, ((Keep.of_below (rb := rb) b0).trans k2).trans (.of_below n3), r2.below n3, alloc_heap _ _, kept_of_below n3 z2, hide ?_, by omega, hfin⟩
    intro x ts hx
    refine IsE.turn n3.size (fun b hb hb2 => ⟨n3.block b hb2, by omega, by omega⟩) r1 x (unhide HE1 x ts hx)
  case round =>
    obtain ⟨o, r, hK, hR, Z3, Z2, HE, hlen, HF⟩ := hrel
    have S : Calls Tryz.prog 35 #[.pointer (some ⟨rb, 0, none⟩), .string ⟨#[46]⟩] wr fun e w' => e = .returned (.bool (isTS 4 [46] (outS o))) ∧ Keep rb wr w' ∧ RdAt w' rb (aft 4 [46] (outS o)) := sign_any (outS o) wr rb ⟨#[46]⟩ hR
    have hn3 : w2.heap.size ≠ rb := by omega
    cases c1 : isTS 4 [46] (outS o) with
    | true =>
      obtain ⟨ts, ho, hl, g1, g2⟩ := isTS_sg (by decide) c1
      obtain ⟨x, rfl⟩ := outS_some ho
      have HF2 := hide (finM_next hE (unhide HF) g1 hl)
      have hlen1 : stLen (some ts.tail) < n := by have : stLen (some ts) < n + 1 := hlen; simp [stLen] at this ⊢; omega
      have hlen2 : stLen (outS (memberP E x ts.tail)) < ts.length ∧ stLen (outS (memberP E x ts.tail)) < n + 1 := by
        have h2 : stLen (outS (memberP E x ts.tail)) ≤ stLen (some ts.tail) := short_len (memberP_short hE x) (some ts.tail)
        have h3 : stLen (some ts.tail) = ts.length - 1 := by simp [stLen]
        omega
      have hleft : leftN wr rb = ts.length := hR.left
      have M := fun w' hr' hx' => HM (some ts.tail) w' rb r x (fun b => b ≠ w2.heap.size ∧ w.heap.size < b) hlen1 hr' hx' (fun b hb => by omega)
      have M : ∀ w', RdAt w' rb (some ts.tail) → IsE w' (fun b => b ≠ w2.heap.size ∧ w.heap.size < b) r x → Calls Tryz.prog 95 #[.pointer (some ⟨rb, 0, none⟩), .agg #[.int .i64 r.k, .bool r.b, .int .i64 r.n, .string r.s, .string r.t, .string r.i, .slice r.lo r.ll r.lc]] w' fun e w'' => ∃ r' : R7, e = .returned r'.val ∧ Keep rb w' w'' ∧ RdAt w'' rb (outS (memberP E x ts.tail)) ∧ ∀ y ts', memberP E x ts.tail = some (y, ts') → IsE w'' (fun b => (b ≠ w2.heap.size ∧ w.heap.size < b) ∨ w'.heap.size ≤ b) r' y := M
      generalize memberP E x ts.tail = o2 at *
      rw [c1, g2] at S
      have Hx := hide (unhide HE x ts rfl)
      have HL := hide hlen2
      have HLf := hide hleft
      clear c1 g1 g2 HF HE hlen1 hlen2 hleft hlen ho
      generalize (some ts.tail : St) = s1 at *
      go_wp2_with fail
      refine S.mono ?_
      rintro e w5 ⟨rfl, k5, r5⟩
      have K5 := hK.trans k5
      have Z3 := k5.kept hn3 Z3
      have Z2 := k5.kept hn0 Z2
      obtain ⟨u0, u1, u2, u3, u4, u5, u6, _⟩ := blk7 Z3
      have hz3 : w2.heap.size < w5.heap.size := (Array.getElem?_eq_some_iff.1 Z3).1
      have hx5 : IsE w5 (fun b => b ≠ w2.heap.size ∧ w.heap.size < b) r x := IsE.turn k5.size (fun b hb hb2 => ⟨k5.block b hb2 (by omega), hb⟩) r x (unhide Hx)
      have M5 := M w5 r5 hx5
      clear S M hx5
      go_wp2_with fail
      refine M5.mono ?_
      rintro e w6 ⟨r', rfl, k6, r6, hE6⟩
      have HE6 := hide hE6
      clear hE6 M5
      unfold R7.val
      obtain ⟨y0, y1, y2, y3, y4, y5, y6, yf⟩ := blk7 (k6.kept hn3 Z3)
      have R8 := r6.set7 (b := w2.heap.size) (by omega) (.int .i64 r'.k) (.bool r'.b) (.int .i64 r'.n) (.string r'.s) (.string r'.t) (.string r'.i) (.slice r'.lo r'.ll r'.lc)
      clear u0 u1 u2 u3 u4 u5 u6
      go_wp2
      go_roundw
      case rel =>
        refine ⟨o2, r', (K5.trans k6).set7 (by omega) _ _ _ _ _ _ _, R8, set7_at (k6.kept hn3 Z3) _ _ _ _ _ _ _, (set7_heap _ _ _ _ _ _ _ _ _ _ (by omega)).trans (k6.kept hn0 Z2), hide ?_, (unhide HL).2, HF2⟩
        intro x' ts' hx
        exact (unhide HE6 x' ts' hx).over7 (fun b hb => by omega) _ _ _ _ _ _ _
      case measure =>
        have h1 := R8.left
        have h2 := (unhide HL).1
        have h3 := unhide HLf
        unfold Go.Proofs.YtlakgnnjokienaaGreatDoor.set7 at h1
        omega
    | false =>
      obtain ⟨g1, g2⟩ := isTS_no c1
      have e : F = o := finM_stop (unhide HF) (fun x ts hx => by subst hx; exact g2 ts rfl)
      rw [c1, g1] at S
      clear c1 g1 g2 HF
      go_wp2_with fail
      refine S.mono ?_
      rintro e w5 ⟨rfl, k5, r5⟩
      obtain ⟨u0, u1, u2, u3, u4, u5, u6, _⟩ := blk7 (k5.kept hn3 Z3)
      obtain ⟨x0, x1, x2, x3, x4, x5, x6, xf⟩ := blk7 (k5.kept hn0 Z2)
      have K5 := hK.trans k5
      subst e
      go_wp2
      exact bodyPost_ret (v := R7.val r) (by simp [results, Tryz.results87, go_sem, x0, x1, x2, x3, x4, x5, x6, R7.val]) rfl ⟨_, rfl, K5.set7 (Nat.le_refl _) _ _ _ _ _ _ _, r5.set7 hlt _ _ _ _ _ _ _, fun x ts hx => (unhide HE x ts hx).out7 (fun b hb => hb.2) k5 hlt _ _ _ _ _ _ _⟩
end Go.Proofs.YtlakgnnjokienaaGreatDoor
