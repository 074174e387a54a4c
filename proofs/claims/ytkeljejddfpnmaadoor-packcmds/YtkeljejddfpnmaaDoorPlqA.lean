/-
  chancelref7.ParseCmd: what it returns.
-/
import Derived.Test.YtkeljejddfpnmaaDoorPkZ
namespace Go.Proofs.YtkeljejddfpnmaaDoor
open Go.RowKit Go.Sort

theorem len_one {a : UInt8} : numV [a] = (a.toNat : Int) := by
  have := a.toNat_lt
  have e : beV [a] = a.toNat := by simp [beV]
  rw [numV, e, IntKind.wrap_i64]
  omega
theorem rdO_one {l : List UInt8} {x : List UInt8 × List UInt8} (h : rdO 1 l = some x) : u8v l false = numV x.1 ∧ u8l l false = x.2 ∧ u8e l false = false := by
  obtain ⟨h1, rfl⟩ := rdO_some h
  rcases l with _ | ⟨a, t⟩
  · simp at h1
  · exact ⟨by show (a.toNat : Int) = numV ((a :: t).take 1); rw [show (a :: t).take 1 = [a] from rfl, len_one], rfl, rfl⟩
theorem rdO_one_no {l : List UInt8} (h : rdO 1 l = none) : u8e l false = true := by
  have := rdO_none h
  rcases l with _ | ⟨a, t⟩
  · rfl
  · simp at this
theorem u8e_true (l : List UInt8) : u8e l true = true := by cases l <;> rfl
def NumStep (l1 : List UInt8) (e1 : Bool) (v : Int) (l2 : List UInt8) (e2 : Bool) : Prop := (e1 = false → 8 ≤ l1.length → v = numV (l1.take 8) ∧ l2 = l1.drop 8 ∧ e2 = false) ∧ (e1 = true ∨ l1.length < 8 → e2 = true)
def BytStep (l1 : List UInt8) (e1 : Bool) (X l2 : List UInt8) (e2 : Bool) : Prop := (LenOk l1 e1 → X = (l1.drop 2).take (beV (l1.take 2)) ∧ l2 = (l1.drop 2).drop (beV (l1.take 2)) ∧ e2 = false) ∧ (¬ LenOk l1 e1 → e2 = true)
theorem BytStep.cut {l1 : List UInt8} {e1 : Bool} {X l2 : List UInt8} {e2 : Bool} (h : BytStep l1 e1 X l2 e2) (he : e1 = true) : e2 = true := h.2 fun ⟨h1, _⟩ => by rw [he] at h1; cases h1
theorem BytStep.two {l1 : List UInt8} {X l2 : List UInt8} {e2 : Bool} (h : BytStep l1 false X l2 e2) :
    (rdO 2 l1 = none → e2 = true) ∧ ∀ x, rdO 2 l1 = some x → (rdO (beV x.1) x.2 = none → e2 = true) ∧ ∀ y, rdO (beV x.1) x.2 = some y → X = y.1 ∧ l2 = y.2 ∧ e2 = false := by
  refine ⟨fun h0 => h.2 fun ⟨_, h2, _⟩ => by have := rdO_none h0; omega, fun x hx => ?_⟩
  obtain ⟨h1, rfl⟩ := rdO_some hx
  refine ⟨fun h0 => h.2 fun ⟨_, _, h3⟩ => by have h9 : (l1.drop 2).length < beV (l1.take 2) := rdO_none h0; omega, fun y hy => ?_⟩
  obtain ⟨h3, rfl⟩ := rdO_some hy
  exact h.1 ⟨rfl, h1, h3⟩
theorem ref_chain {l : List UInt8} {v2 : Int} {l2 : List UInt8} {e2 : Bool} {X4 l4 : List UInt8} {e4 : Bool} {X5 l5 : List UInt8} {e5 : Bool} (N : NumStep (u8l l false) (u8e l false) v2 l2 e2) (B4 : BytStep (u8l l2 e2) (u8e l2 e2) X4 l4 e4) (B5 : BytStep l4 e4 X5 l5 e5) :
    pcmd l = if endE l5 e5 = 0 then (if errC ⟨u8v l false, v2, u8v l2 e2, ⟨X4.toArray⟩, ⟨X5.toArray⟩⟩ = 0 then (⟨u8v l false, v2, u8v l2 e2, ⟨X4.toArray⟩, ⟨X5.toArray⟩⟩, 0) else (zeroC, errC ⟨u8v l false, v2, u8v l2 e2, ⟨X4.toArray⟩, ⟨X5.toArray⟩⟩)) else (zeroC, endE l5 e5) := by
  have none_ : parseO l = none → e5 = true → pcmd l = if endE l5 e5 = 0 then (if errC ⟨u8v l false, v2, u8v l2 e2, ⟨X4.toArray⟩, ⟨X5.toArray⟩⟩ = 0 then (⟨u8v l false, v2, u8v l2 e2, ⟨X4.toArray⟩, ⟨X5.toArray⟩⟩, 0) else (zeroC, errC ⟨u8v l false, v2, u8v l2 e2, ⟨X4.toArray⟩, ⟨X5.toArray⟩⟩)) else (zeroC, endE l5 e5) := fun h1 h2 => by
    unfold pcmd endE
    rw [h1, h2]
    simp
  have m3 : e2 = true → e5 = true := fun h => B5.cut (B4.cut (by rw [h]; exact u8e_true _))
  cases h1 : rdO 1 l with
  | none =>
    refine none_ (by unfold parseO; rw [h1]; rfl) (m3 (N.2 (.inl (rdO_one_no h1))))
  | some x1 =>
    obtain ⟨a1, a2, a3⟩ := rdO_one h1
    rw [a2, a3] at N
    cases h2 : rdO 8 x1.2 with
    | none => exact none_ (by unfold parseO; rw [h1, Option.bind_some, h2]; rfl) (m3 (N.2 (.inr (rdO_none h2))))
    | some x2 =>
      obtain ⟨g2, rfl⟩ := rdO_some h2
      obtain ⟨rfl, rfl, rfl⟩ := N.1 rfl g2
      cases h3 : rdO 1 (x1.2.drop 8) with
      | none => exact none_ (by unfold parseO; rw [h1, Option.bind_some, h2, Option.bind_some, h3]; rfl) (B5.cut (B4.cut (rdO_one_no h3)))
      | some x3 =>
        obtain ⟨b1, b2, b3⟩ := rdO_one h3
        rw [b2, b3] at B4
        obtain ⟨t1, t2⟩ := B4.two
        cases h4 : rdO 2 x3.2 with
        | none => exact none_ (by unfold parseO; rw [h1, Option.bind_some, h2, Option.bind_some, h3, Option.bind_some, h4]; rfl) (B5.cut (t1 h4))
        | some x4 =>
          obtain ⟨t3, t4⟩ := t2 x4 h4
          cases h5 : rdO (beV x4.1) x4.2 with
          | none => exact none_ (by unfold parseO; rw [h1, Option.bind_some, h2, Option.bind_some, h3, Option.bind_some, h4, Option.bind_some, h5]; rfl) (B5.cut (t3 h5))
          | some x5 =>
            obtain ⟨rfl, rfl, rfl⟩ := t4 x5 h5
            obtain ⟨s1, s2⟩ := B5.two
            cases h6 : rdO 2 x5.2 with
            | none => exact none_ (by unfold parseO; rw [h1, Option.bind_some, h2, Option.bind_some, h3, Option.bind_some, h4, Option.bind_some, h5, Option.bind_some, h6]; rfl) (s1 h6)
            | some x6 =>
              obtain ⟨s3, s4⟩ := s2 x6 h6
              cases h7 : rdO (beV x6.1) x6.2 with
              | none => exact none_ (by unfold parseO; rw [h1, Option.bind_some, h2, Option.bind_some, h3, Option.bind_some, h4, Option.bind_some, h5, Option.bind_some, h6, Option.bind_some, h7]; rfl) (s3 h7)
              | some x7 =>
                obtain ⟨rfl, rfl, rfl⟩ := s4 x7 h7
                have hp : parseO l = some (⟨numV x1.1, numV (x1.2.take 8), numV x3.1, ⟨x5.1.toArray⟩, ⟨x7.1.toArray⟩⟩, x7.2) := by
                  unfold parseO
                  rw [h1, Option.bind_some, h2, Option.bind_some, h3, Option.bind_some, h4, Option.bind_some, h5, Option.bind_some, h6, Option.bind_some, h7]
                  rfl
                unfold pcmd
                rw [hp, a1, b1]
                unfold endE
                simp only [Bool.false_eq_true, if_false]
                cases x7.2 with
                | nil => simp
                | cons a t => simp

theorem QK.setc {w : World} {qb : Nat} {l : List UInt8} {e : Bool} (h : QK w qb l e) {b : Nat} {c : C5} (hc : w.heap[b]? = some c.obj) (hb : qb ≠ b) (o : Nat) (u : Value) : QK (w.setCell ⟨b, o, none⟩ u) qb l e := by
  obtain ⟨ao, cap, B, P, h, hl⟩ := h
  refine ⟨ao, cap, B, P, ⟨(Below.heap_setCell _ _ _ _ hb).trans h.obj, h.le, h.lcap, ?_, h.len, h.shape⟩, hl⟩
  rcases h.row with e | ⟨g, off, e, hg, hx, hcc⟩
  · exact .inl e
  · by_cases h0 : B.length = 0
    · exact .inl (List.eq_nil_of_length_eq_zero h0)
    · have hgb : g ≠ b := fun e => by
        subst e
        exact c5_cell hc _ _ (hcc 0 (by omega))
      exact .inr ⟨g, off, e, by simp only [World.setCell, Array.size_modify]; exact hg, hx, fun j hj => (World.cell?_of_block (w := w) (Below.heap_setCell _ _ _ _ hgb)).trans (hcc j hj)⟩
theorem QK.new (w : World) (ao : Option Addr) (l : List UInt8) (cap : Nat) (h : BRow w ao l) (hc : l.length ≤ cap) (hl : l.length ≤ 100000) (hs : Shape ao cap) :
    QK (w.alloc (.cells #[.slice ao l.length cap, .int .i64 0, .int .i64 0] 62)) w.heap.size l false := by
  have b1 := new1 w (.cells #[.slice ao l.length cap, .int .i64 0, .int .i64 0] 62)
  exact ⟨ao, cap, l, 0, ⟨alloc_heap _ _, Nat.zero_le _, hc, (h.apart (Nat.le_refl _)).same b1.size fun k hk _ => b1.block k hk, hl, hs⟩, rfl⟩

set_option maxHeartbeats 16000000 in
set_option maxRecDepth 1000000 in
theorem rparseCmd_any (l : List UInt8) (ao : Option Addr) (cap : Nat) (w : World) (h : BRow w ao l) (hc : l.length ≤ cap) (hl : l.length ≤ 100000) (hs : Shape ao cap) :
    Calls Tryd.prog 11 #[.slice ao l.length cap] w fun e w' => e = .returned (.tuple #[(pcmd l).1.val, .int .i64 (pcmd l).2]) ∧ Below w.heap.size w w' := by
  have n1 := new1 w (C5.obj zeroC)
  have z1 := alloc_heap w (C5.obj zeroC)
  have q2 := QK.new _ ao l cap (h.below n1) hc hl hs
  rw [show (w.alloc (C5.obj zeroC)).heap.size = w.heap.size + 1 by simp] at q2
  have n2 := new1 (w.alloc (C5.obj zeroC)) (.cells #[.slice ao l.length cap, .int .i64 0, .int .i64 0] 62)
  have zr := kept_of_below n2 z1
  have b2 := n1.trans (n2.mono n1.size)
  unfold C5.obj zeroC at q2 b2 zr n1 n2
  simp only [] at q2 b2 zr n1 n2
  obtain ⟨P, hP⟩ : ∃ P, P = pcmd l := ⟨_, rfl⟩
  rw [← hP]
  have HP := hide hP
  clear hP z1 n2 n1 h hc
  go_enter Tryd.func11, Tryd.ntmps11
  go_upto_region 2 with fail
  generalize (w.alloc _).alloc _ = w2 at *
  have zr : w2.heap[w.heap.size]? = some (C5.obj ⟨0, 0, 0, ⟨#[]⟩, ⟨#[]⟩⟩) := zr
  generalize hqb : w.heap.size + 1 = qb at *
  have hqr : w.heap.size ≠ qb := by omega
  have hqw : w.heap.size < qb := by omega
  go_wp2_with fail
  refine Calls.mono (u8_any l false w2 qb q2) ?_
  rintro r w3 ⟨rfl, k3, q3⟩
  have zr3 := k3.bl hqr hqr zr
  have b3 := k3.below b2 (by omega) (by omega) b2.size
  have n4 := new1 w3 (C5.obj ⟨u8v l false, 0, 0, ⟨#[]⟩, ⟨#[]⟩⟩)
  have zc4 := alloc_heap w3 (C5.obj ⟨u8v l false, 0, 0, ⟨#[]⟩, ⟨#[]⟩⟩)
  have q4 := q3.below n4
  have zr4 := kept_of_below n4 zr3
  have b4 := b3.trans (n4.mono b3.size)
  have lq3 := q3.lt
  unfold C5.obj at n4 zc4 q4 zr4 b4
  simp only [] at n4 zc4 q4 zr4 b4
  go_upto_region 3 with fail
  generalize w3.alloc _ = w4 at *
  generalize hcb : w3.heap.size = cb at *
  have hcq : cb ≠ qb := by omega
  have hlr3 : w.heap.size < cb := by rw [← hcb]; exact (Array.getElem?_eq_some_iff.1 zr3).1
  have hcr : w.heap.size ≠ cb := by omega
  have zc4 : w4.heap[cb]? = some (C5.obj ⟨u8v l false, 0, 0, ⟨#[]⟩, ⟨#[]⟩⟩) := zc4
  have zr4 : w4.heap[w.heap.size]? = some (C5.obj ⟨0, 0, 0, ⟨#[]⟩, ⟨#[]⟩⟩) := zr4
  obtain ⟨v1, hv1⟩ : ∃ v, v = u8v l false := ⟨_, rfl⟩
  obtain ⟨l1, hl1⟩ : ∃ x, x = u8l l false := ⟨_, rfl⟩
  obtain ⟨e1, he1⟩ : ∃ x, x = u8e l false := ⟨_, rfl⟩
  rw [← hv1] at zc4
  rw [← hl1, ← he1] at q4
  try rw [← hv1]
  have HV1 := hide hv1
  have HL1 := hide hl1
  have HE1 := hide he1
  clear hv1 hl1 he1 hcb hqb zr3 b3 n4 q3 k3 q2 b2 zr lq3
  go_wp2_with fail
  refine Calls.mono (qnum_any l1 e1 w4 qb q4) ?_
  rintro r w5 ⟨v2, l2, e2, rfl, k5, q5, N5⟩
  have HN5 := hide (show NumStep l1 e1 v2 l2 e2 from N5)
  clear N5
  have zc5 := k5.bl hcq hcq zc4
  have zr5 := k5.bl hqr hqr zr4
  have b5 := k5.below b4 (by omega) (by omega) b4.size
  obtain ⟨u0, u1, u2, u3, u4, uf⟩ := blk5 zc5
  have zc6 := (c5_set zc5).2.1 v2
  have q6 := q5.setc zc5 (Ne.symm hcq) 1 (.int .i64 v2)
  have zr6 := zr5
  rw [← Below.heap_setCell _ ⟨cb, 1, none⟩ (.int .i64 v2) _ hcr] at zr6
  have b6 := b5.setCell (p := ⟨cb, 1, none⟩) (show w.heap.size ≤ cb by omega) (.int .i64 v2)
  go_upto_region 4 with fail
  clear u0 u1 u2 u3 u4 uf zc5 zr5 q5 b5 k5 zc4 zr4 q4 b4
  generalize World.setCell _ _ _ = w6 at *
  obtain ⟨v3, hv3⟩ : ∃ v, v = u8v l2 e2 := ⟨_, rfl⟩
  obtain ⟨l3, hl3⟩ : ∃ x, x = u8l l2 e2 := ⟨_, rfl⟩
  obtain ⟨e3, he3⟩ : ∃ x, x = u8e l2 e2 := ⟨_, rfl⟩
  have U3 := u8_any l2 e2 w6 qb q6
  rw [← hv3, ← hl3, ← he3] at U3
  have HV3 := hide hv3
  have HL3 := hide hl3
  have HE3 := hide he3
  clear hv3 hl3 he3
  go_wp2_with fail
  refine Calls.mono U3 ?_
  rintro r w7 ⟨rfl, k7, q7⟩
  clear U3
  have zc7 := k7.bl hcq hcq zc6
  have zr7 := k7.bl hqr hqr zr6
  have b7 := k7.below b6 (by omega) (by omega) b6.size
  obtain ⟨u0, u1, u2, u3, u4, uf⟩ := blk5 zc7
  have zc8 := (c5_set zc7).2.2.1 v3
  have q8 := q7.setc zc7 (Ne.symm hcq) 2 (.int .i64 v3)
  have zr8 := zr7
  rw [← Below.heap_setCell _ ⟨cb, 2, none⟩ (.int .i64 v3) _ hcr] at zr8
  have b8 := b7.setCell (p := ⟨cb, 2, none⟩) (show w.heap.size ≤ cb by omega) (.int .i64 v3)
  go_upto_region 5 with fail
  clear u0 u1 u2 u3 u4 uf zc7 zr7 q7 b7 k7 zc6 zr6 q6 b6
  generalize World.setCell _ _ _ = w8 at *
  go_wp2_with fail
  refine Calls.mono (qbytes_any l3 e3 w8 qb q8) ?_
  rintro r w9 ⟨ao9, cap9, X4, l4, e4, rfl, k9, q9, r9, B9⟩
  have HB9 := hide (show BytStep l3 e3 X4 l4 e4 from B9)
  have CV9 := conv_run cap9 rfl r9
  obtain ⟨S4, hS4⟩ : ∃ S : ByteArray, S = ⟨X4.toArray⟩ := ⟨_, rfl⟩
  rw [← hS4] at CV9
  have HS4 := hide hS4
  clear B9 r9 hS4
  have zc9 := k9.bl hcq hcq zc8
  have zr9 := k9.bl hqr hqr zr8
  have b9 := k9.below b8 (by omega) (by omega) b8.size
  obtain ⟨u0, u1, u2, u3, u4, uf⟩ := blk5 zc9
  have zc10 := (c5_set zc9).2.2.2.1 S4
  have q10 := q9.setc zc9 (Ne.symm hcq) 3 (.string S4)
  have zr10 := zr9
  rw [← Below.heap_setCell _ ⟨cb, 3, none⟩ (.string S4) _ hcr] at zr10
  have b10 := b9.setCell (p := ⟨cb, 3, none⟩) (show w.heap.size ≤ cb by omega) (.string S4)
  go_upto_region 6 with fail
  clear CV9 u0 u1 u2 u3 u4 uf zc9 zr9 q9 b9 k9 zc8 zr8 q8 b8
  generalize World.setCell _ _ _ = w10 at *
  go_wp2_with fail
  refine Calls.mono (qbytes_any l4 e4 w10 qb q10) ?_
  rintro r w11 ⟨ao11, cap11, X5, l5, e5, rfl, k11, q11, r11, B11⟩
  have HB11 := hide (show BytStep l4 e4 X5 l5 e5 from B11)
  have CV11 := conv_run cap11 rfl r11
  obtain ⟨S5, hS5⟩ : ∃ S : ByteArray, S = ⟨X5.toArray⟩ := ⟨_, rfl⟩
  rw [← hS5] at CV11
  have HS5 := hide hS5
  clear B11 r11 hS5
  have zc11 := k11.bl hcq hcq zc10
  have zr11 := k11.bl hqr hqr zr10
  have b11 := k11.below b10 (by omega) (by omega) b10.size
  obtain ⟨u0, u1, u2, u3, u4, uf⟩ := blk5 zc11
  have zc12 := (c5_set zc11).2.2.2.2 S5
  have q12 := q11.setc zc11 (Ne.symm hcq) 4 (.string S5)
  have zr12 := zr11
  rw [← Below.heap_setCell _ ⟨cb, 4, none⟩ (.string S5) _ hcr] at zr12
  have b12 := b11.setCell (p := ⟨cb, 4, none⟩) (show w.heap.size ≤ cb by omega) (.string S5)
  go_upto_region 7 with fail
  clear CV11 u0 u1 u2 u3 u4 uf zc11 zr11 q11 b11 k11 zc10 zr10 q10 b10
  generalize World.setCell _ _ _ = w12 at *
  have hp : P = if endE l5 e5 = 0 then (if errC ⟨v1, v2, v3, S4, S5⟩ = 0 then (⟨v1, v2, v3, S4, S5⟩, 0) else (zeroC, errC ⟨v1, v2, v3, S4, S5⟩)) else (zeroC, endE l5 e5) := by
    have N5 := unhide HN5
    have B9 := unhide HB9
    have B11 := unhide HB11
    rw [unhide HL1, unhide HE1] at N5
    rw [unhide HL3, unhide HE3] at B9
    rw [unhide HP, ref_chain N5 B9 B11, unhide HV1, unhide HV3, unhide HS4, unhide HS5]
  clear HN5 HB9 HB11 HL1 HE1 HV1 HL3 HE3 HV3 HS4 HS5 HP
  have zc12 : w12.heap[cb]? = some (C5.obj ⟨v1, v2, v3, S4, S5⟩) := zc12
  have EN := fun w' h' => end_any l5 e5 w' qb h'
  have WR := fun w' => rwrong_any ⟨v1, v2, v3, S4, S5⟩ w'
  unfold C5.val at WR
  simp only [] at WR
  generalize endE l5 e5 = E at *
  generalize errC ⟨v1, v2, v3, S4, S5⟩ = E2 at *
  go_wp2_with fail
  refine Calls.mono (EN w12 q12) ?_
  rintro r w13 ⟨rfl, b1213⟩
  have b13 := b12.trans (b1213.mono b12.size)
  have zr13 := kept_of_below b1213 zr12
  have zc13 := kept_of_below b1213 zc12
  have q13 := q12.below b1213
  clear zc12 zr12 q12 b1213
  by_cases hE : E = 0
  · rw [if_pos hE] at hp
    subst hE
    obtain ⟨c0, c1, c2, c3, c4, _⟩ := blk5 zc13
    simp only [] at c0 c1 c2 c3 c4
    go_wp2_with fail
    refine Calls.mono (WR w13) ?_
    rintro r w14 ⟨rfl, b1314⟩
    have b14 := b13.trans (b1314.mono b13.size)
    have zr14 := kept_of_below b1314 zr13
    have zc14 := kept_of_below b1314 zc13
    clear c0 c1 c2 c3 c4
    obtain ⟨c0, c1, c2, c3, c4, _⟩ := blk5 zc14
    simp only [] at c0 c1 c2 c3 c4
    obtain ⟨r0, r1, r2, r3, r4, rf⟩ := blk5 zr14
    by_cases hE2 : E2 = 0
    · rw [if_pos hE2] at hp
      subst hE2
      subst hp
      go_wp2
      exact bodyPost_ret (v := .tuple #[.agg #[.int .i64 v1, .int .i64 v2, .int .i64 v3, .string S4, .string S5], .int .i64 0]) (by simp [results, Tryd.results11, go_sem, r0, r1, r2, r3, r4]) rfl ⟨rfl, set5_below b14 (Nat.le_refl _) ⟨v1, v2, v3, S4, S5⟩⟩
    · rw [if_neg hE2] at hp
      subst hp
      have qE : (E2 == 0) = false := beq_false_of_ne hE2
      go_wp2_with fail
      refine Calls.mono (WR w14) ?_
      rintro r w15 ⟨rfl, b1415⟩
      have b15 := b14.trans (b1415.mono b14.size)
      have zr15 := kept_of_below b1415 zr14
      clear r0 r1 r2 r3 r4 rf c0 c1 c2 c3 c4
      obtain ⟨r0, r1, r2, r3, r4, rf⟩ := blk5 zr15
      go_wp2
      exact bodyPost_ret (v := .tuple #[.agg #[.int .i64 0, .int .i64 0, .int .i64 0, .string ⟨#[]⟩, .string ⟨#[]⟩], .int .i64 E2]) (by simp [results, Tryd.results11, go_sem, r0, r1, r2, r3, r4]) rfl ⟨rfl, set5_below b15 (Nat.le_refl _) ⟨0, 0, 0, ⟨#[]⟩, ⟨#[]⟩⟩⟩
  · rw [if_neg hE] at hp
    subst hp
    have qE : (E == 0) = false := beq_false_of_ne hE
    go_wp2_with fail
    refine Calls.mono (EN w13 q13) ?_
    rintro r w14 ⟨rfl, b1314⟩
    have b14 := b13.trans (b1314.mono b13.size)
    have zr14 := kept_of_below b1314 zr13
    obtain ⟨r0, r1, r2, r3, r4, rf⟩ := blk5 zr14
    go_wp2
    exact bodyPost_ret (v := .tuple #[.agg #[.int .i64 0, .int .i64 0, .int .i64 0, .string ⟨#[]⟩, .string ⟨#[]⟩], .int .i64 E]) (by simp [results, Tryd.results11, go_sem, r0, r1, r2, r3, r4]) rfl ⟨rfl, set5_below b14 (Nat.le_refl _) ⟨0, 0, 0, ⟨#[]⟩, ⟨#[]⟩⟩⟩
end Go.Proofs.YtkeljejddfpnmaaDoor
