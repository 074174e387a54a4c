/-
  chancelref7.bytes and Cmd: what they return.
-/
import Derived.Test.YtkeljejddfpnmaaDoorPkT
import Derived.Test.YtkeljejddfpnmaaDoorVeN
namespace Go.Proofs.YtkeljejddfpnmaaDoor
open Go.RowKit Go.Sort

theorem Step.row {w w' : World} {v v' : Value} {ao : Option Addr} {l : List UInt8} (h : Step w w' v v') (hr : BRow w ao l) (hap : ∀ g o, ao = some ⟨g, o, none⟩ → v.ownBlock ≠ some g) : BRow w' ao l := by
  rcases hr with hr | ⟨g, o, e, hg, hc⟩
  · exact .inl hr
  · exact .inr ⟨g, o, e, Nat.lt_of_lt_of_le hg h.grown.size, fun j hj => (World.cell?_of_block (w := w) (h.grown.block g hg (Ne.symm (hap g o e)))).trans (hc j hj)⟩

set_option maxHeartbeats 4000000 in
set_option maxRecDepth 1000000 in
theorem rbytes7_any (xs : List UInt8) (ao : Option Addr) (cap n : Nat) (hn : n = xs.length) (v : Value) (A : List UInt8) (B : Nat) (w : World) (h : Own w B v A) (hr : BRow w ao xs) (hsh : Shape ao cap) (hap : ∀ g o, ao = some ⟨g, o, none⟩ → v.ownBlock ≠ some g ∧ g < w.heap.size) (hA : A.length + xs.length ≤ 1000000) (hB : B ≤ w.heap.size) :
    Calls Tryd.prog 25 #[v, .slice ao n cap] w fun e w' => ∃ v', e = .returned v' ∧ Own w' B v' (A ++ (beN 2 xs.length ++ xs)) ∧ Step w w' v v' := by
  obtain ⟨c1, h1⟩ : ∃ c : Int, IntKind.u8.wrap ((n : Int) / 256) = c := ⟨_, rfl⟩
  obtain ⟨c0, h0⟩ : ∃ c : Int, IntKind.u8.wrap (n : Int) = c := ⟨_, rfl⟩
  have e1 : c1 = ((byteAt (n : Int) 1).toNat : Int) := by rw [byteAt_val, ← h1]; rfl
  have e0 : c0 = ((byteAt (n : Int) 0).toNat : Int) := by rw [byteAt_val, ← h0]; simp
  have n1 := new1 w (.cells #[.int .u8 c1, .int .u8 c0] 5)
  have HO := hide (own_step h n1)
  have hrow : BRow (w.alloc (.cells #[.int .u8 c1, .int .u8 c0] 5)) (some ⟨w.heap.size, 0, none⟩) (beN 2 n) := by
    refine row_of_block (T := 5) (fr := (0, 0)) ?_
    rw [show u8s (beN 2 (n : Int)) = [.int .u8 c1, .int .u8 c0] by rw [e1, e0]; rfl]
    exact alloc_heap _ _
  have HR := hide hrow
  have HX := hide (hr.below n1)
  have l2 : (beN 2 (n : Int)).length = 2 := beN_len _ 2
  have hB1 := Nat.le_trans hB n1.size
  have hlen1 : A.length + (beN 2 (n : Int)).length ≤ 140737488355328 := by rw [l2]; omega
  have hlen2 : (A ++ beN 2 (n : Int)).length + xs.length ≤ 140737488355328 := by rw [List.length_append, l2]; omega
  have HN := hide hn
  rw [show (xs.length : Int) = (n : Int) by rw [hn]]
  have HAP := hide hap
  clear hrow e1 e0 hr hn hap
  go_enter Tryd.func25, Tryd.ntmps25
  go_wp2_with (at_builtin; refine wpList_app2 rfl _ _ rfl rfl rfl (A := A) (C := beN 2 n) (unhide HO) l2.symm (.inr ⟨_, rfl⟩) (unhide HR) hlen1 hB1 ?_)
  intro v1 w1 o1 s1
  have r1 : BRow w1 ao xs := s1.row (unhide HX) fun g o e => (unhide HAP g o e).1
  have S1 := (Step.of_below v n1).trans s1
  have HO1 := hide o1
  have HR1 := hide r1
  have hB2 := Nat.le_trans hB S1.grown.size
  clear o1 r1
  go_wp2_with (at_builtin; refine wpList_app2 rfl _ _ rfl rfl rfl (A := A ++ beN 2 n) (C := xs) (unhide HO1) (unhide HN) hsh (unhide HR1) hlen2 hB2 ?_)
  intro v2 w2 o2 s2
  go_wp2
  go_ret
  exact ⟨_, rfl, o2, S1.trans s2⟩

/-! ## A row that is laid on in three stages, of two other rows, in whatever order. -/

def RowAt (w : World) (R0 : Nat) (v : Value) (C : List UInt8) : Prop := ∃ g cap, v = .slice (some ⟨g, 0, none⟩) C.length cap ∧ R0 ≤ g ∧ g < w.heap.size ∧ BRow w (some ⟨g, 0, none⟩) C
def Apart (u v : Value) : Prop := ∀ g n cap, v = .slice (some ⟨g, 0, none⟩) n cap → u.ownBlock ≠ some g
theorem RowAt.below {w w' : World} {R0 : Nat} {v : Value} {C : List UInt8} (h : RowAt w R0 v C) (hb : Below w.heap.size w w') : RowAt w' R0 v C := by
  obtain ⟨g, cap, e, h1, h2, h3⟩ := h
  exact ⟨g, cap, e, h1, Nat.lt_of_lt_of_le h2 hb.size, h3.below hb⟩
theorem RowAt.step {w w' : World} {R0 : Nat} {v u u' : Value} {C : List UInt8} (h : RowAt w R0 v C) (hs : Step w w' u u') (ha : Apart u v) : RowAt w' R0 v C := by
  obtain ⟨g, cap, e, h1, h2, h3⟩ := h
  exact ⟨g, cap, e, h1, Nat.lt_of_lt_of_le h2 hs.grown.size, hs.row h3 fun g' o e' => by cases e'; exact ha g _ _ e⟩
theorem Apart.step {w w' : World} {R0 : Nat} {v u u' : Value} {C : List UInt8} (ha : Apart u v) (hs : Step w w' u u') (hr : RowAt w R0 v C) : Apart u' v := by
  intro g n cap e
  obtain ⟨g', cap', e', _, h2, _⟩ := hr
  rw [e'] at e
  cases e
  rcases hs.place with h | ⟨b, h, hb⟩
  · rw [h]; exact ha g _ _ e'
  · rw [h]
    intro hh
    have := Option.some.inj hh
    omega

structure ChR (w1 : World) (B p0 s0 p1 s1 p2 s2 q1 t1 q2 t2 : Nat) (X0 X1 X2 C1 C2 : List UInt8) (L : Nat → Bool) (a' : Act) (w' : World) : Prop where
  below : Below B w1 w'
  old : w1.heap.size ≤ w'.heap.size
  st0 : L p0 = true → L p1 = false → Own w' B (a'.tmps.getD s0 undef) X0
  st1 : L p1 = true → L p2 = false → Own w' B (a'.tmps.getD s1 undef) X1
  st2 : L p2 = true → Own w' B (a'.tmps.getD s2 undef) X2
  rw1 : L q1 = true → L p1 = false → RowAt w' w1.heap.size (a'.tmps.getD t1 undef) C1
  rw2 : L q2 = true → L p2 = false → RowAt w' w1.heap.size (a'.tmps.getD t2 undef) C2
  ap1 : L q1 = true → L p0 = true → L p1 = false → Apart (a'.tmps.getD s0 undef) (a'.tmps.getD t1 undef)
  ap2 : L q2 = true → L p0 = true → L p1 = false → Apart (a'.tmps.getD s0 undef) (a'.tmps.getD t2 undef)
  ap3 : L q2 = true → L p1 = true → L p2 = false → Apart (a'.tmps.getD s1 undef) (a'.tmps.getD t2 undef)
  o1 : L p1 = true → L p0 = true
  o2 : L p2 = true → L p1 = true

section
variable {w1 : World} {B p0 s0 p1 s1 p2 s2 q1 t1 q2 t2 : Nat} {X0 X1 X2 C1 C2 : List UInt8} {L : Nat → Bool} {a' : Act} {w' w'' : World}

/-- What this text says of an order of operations and slots: all apart. -/
def Diff (p0 s0 p1 s1 p2 s2 q1 t1 q2 t2 : Nat) : Bool := decide (p0 ≠ p1 ∧ p0 ≠ p2 ∧ p1 ≠ p2 ∧ q1 ≠ p0 ∧ q1 ≠ p1 ∧ q1 ≠ p2 ∧ q2 ≠ p0 ∧ q2 ≠ p1 ∧ q2 ≠ p2 ∧ q1 ≠ q2 ∧ s0 ≠ s1 ∧ s0 ≠ s2 ∧ s1 ≠ s2 ∧ t1 ≠ s0 ∧ t1 ≠ s1 ∧ t1 ≠ s2 ∧ t2 ≠ s0 ∧ t2 ≠ s1 ∧ t2 ≠ s2 ∧ t1 ≠ t2)

theorem ChR.other (h : ChR w1 B p0 s0 p1 s1 p2 s2 q1 t1 q2 t2 X0 X1 X2 C1 C2 L a' w') (hb : Below w'.heap.size w' w'') (hBw : B ≤ w'.heap.size) (i d : Nat) (v : Value) (hi : i ≠ p0 ∧ i ≠ p1 ∧ i ≠ p2 ∧ i ≠ q1 ∧ i ≠ q2) (hd : d ≠ s0 ∧ d ≠ s1 ∧ d ≠ s2 ∧ d ≠ t1 ∧ d ≠ t2) :
    ChR w1 B p0 s0 p1 s1 p2 s2 q1 t1 q2 t2 X0 X1 X2 C1 C2 (fun j => decide (j = i) || L j) (a'.put (some d) v) w'' := by
  obtain ⟨i0, i1, i2, i3, i4⟩ := hi
  obtain ⟨d0, d1, d2, d3, d4⟩ := hd
  constructor <;> try simp only [Ne.symm i0, Ne.symm i1, Ne.symm i2, Ne.symm i3, Ne.symm i4, decide_false, Bool.false_or, put_other _ _ _ v d0, put_other _ _ _ v d1, put_other _ _ _ v d2, put_other _ _ _ v d3, put_other _ _ _ v d4]
  · exact h.below.trans (hb.mono hBw)
  · exact Nat.le_trans h.old hb.size
  · exact fun x y => own_step (h.st0 x y) hb
  · exact fun x y => own_step (h.st1 x y) hb
  · exact fun x => own_step (h.st2 x) hb
  · exact fun x y => (h.rw1 x y).below hb
  · exact fun x y => (h.rw2 x y).below hb
  · exact h.ap1
  · exact h.ap2
  · exact h.ap3
  · exact h.o1
  · exact h.o2

theorem ChR.row1 (h : ChR w1 B p0 s0 p1 s1 p2 s2 q1 t1 q2 t2 X0 X1 X2 C1 C2 L a' w') (hD : Diff p0 s0 p1 s1 p2 s2 q1 t1 q2 t2 = true) (hb : Below w'.heap.size w' w'') (hBw : B ≤ w'.heap.size) (v : Value) (hs : t1 < a'.tmps.size) (cap : Nat) (hv : v = .slice (some ⟨w'.heap.size, 0, none⟩) C1.length cap) (hr : BRow w'' (some ⟨w'.heap.size, 0, none⟩) C1) (hg : w'.heap.size < w''.heap.size) :
    ChR w1 B p0 s0 p1 s1 p2 s2 q1 t1 q2 t2 X0 X1 X2 C1 C2 (fun j => decide (j = q1) || L j) (a'.put (some t1) v) w'' := by
  simp only [Diff, decide_eq_true_eq] at hD
  obtain ⟨_, _, _, e1, e2, e3, e4, e5, e6, e7, _, _, _, f1, f2, f3, _, _, _, f4⟩ := hD
  constructor <;> try simp only [Ne.symm e1, Ne.symm e2, Ne.symm e3, Ne.symm e7, decide_false, Bool.false_or, decide_true, Bool.true_or, put_same _ _ v hs, put_other _ _ _ v f1, put_other _ _ _ v f2, put_other _ _ _ v f3, put_other _ _ _ v f4]
  · exact h.below.trans (hb.mono hBw)
  · exact Nat.le_trans h.old hb.size
  · exact fun x y => own_step (h.st0 x y) hb
  · exact fun x y => own_step (h.st1 x y) hb
  · exact fun x => own_step (h.st2 x) hb
  · exact fun _ _ => ⟨_, cap, hv, h.old, hg, hr⟩
  · exact fun x y => (h.rw2 x y).below hb
  · intro _ x y g n c e hh
    rw [hv] at e
    cases e
    have := (own_block (h.st0 x y) _ hh).2
    omega
  · exact h.ap2
  · exact h.ap3
  · exact h.o1
  · exact h.o2

theorem ChR.row2 (h : ChR w1 B p0 s0 p1 s1 p2 s2 q1 t1 q2 t2 X0 X1 X2 C1 C2 L a' w') (hD : Diff p0 s0 p1 s1 p2 s2 q1 t1 q2 t2 = true) (hb : Below w'.heap.size w' w'') (hBw : B ≤ w'.heap.size) (v : Value) (hs : t2 < a'.tmps.size) (cap : Nat) (hv : v = .slice (some ⟨w'.heap.size, 0, none⟩) C2.length cap) (hr : BRow w'' (some ⟨w'.heap.size, 0, none⟩) C2) (hg : w'.heap.size < w''.heap.size) :
    ChR w1 B p0 s0 p1 s1 p2 s2 q1 t1 q2 t2 X0 X1 X2 C1 C2 (fun j => decide (j = q2) || L j) (a'.put (some t2) v) w'' := by
  simp only [Diff, decide_eq_true_eq] at hD
  obtain ⟨_, _, _, e1, e2, e3, e4, e5, e6, e7, _, _, _, f1, f2, f3, f5, f6, f7, f4⟩ := hD
  constructor <;> try simp only [Ne.symm e4, Ne.symm e5, Ne.symm e6, e7, decide_false, Bool.false_or, decide_true, Bool.true_or, put_same _ _ v hs, put_other _ _ _ v f5, put_other _ _ _ v f6, put_other _ _ _ v f7, put_other _ _ _ v (Ne.symm f4)]
  · exact h.below.trans (hb.mono hBw)
  · exact Nat.le_trans h.old hb.size
  · exact fun x y => own_step (h.st0 x y) hb
  · exact fun x y => own_step (h.st1 x y) hb
  · exact fun x => own_step (h.st2 x) hb
  · exact fun x y => (h.rw1 x y).below hb
  · exact fun _ _ => ⟨_, cap, hv, h.old, hg, hr⟩
  · exact h.ap1
  · intro _ x y g n c e hh
    rw [hv] at e
    cases e
    have := (own_block (h.st0 x y) _ hh).2
    omega
  · intro _ x y g n c e hh
    rw [hv] at e
    cases e
    have := (own_block (h.st1 x y) _ hh).2
    omega
  · exact h.o1
  · exact h.o2

theorem ChR.stage0 (h : ChR w1 B p0 s0 p1 s1 p2 s2 q1 t1 q2 t2 X0 X1 X2 C1 C2 L a' w') (hD : Diff p0 s0 p1 s1 p2 s2 q1 t1 q2 t2 = true) (hb : Below w'.heap.size w' w'') (hBw : B ≤ w'.heap.size) (hL : L p0 = false) (v : Value) (hs : s0 < a'.tmps.size) (hv : Own w'' B v X0) (hp : ∀ b, v.ownBlock = some b → b < w1.heap.size ∨ w'.heap.size ≤ b) :
    ChR w1 B p0 s0 p1 s1 p2 s2 q1 t1 q2 t2 X0 X1 X2 C1 C2 (fun j => decide (j = p0) || L j) (a'.put (some s0) v) w'' := by
  have l1 : L p1 = false := by
    cases hh : L p1 with
    | false => rfl
    | true => rw [h.o1 hh] at hL; cases hL
  have l2 : L p2 = false := by
    cases hh : L p2 with
    | false => rfl
    | true => rw [h.o2 hh] at l1; cases l1
  simp only [Diff, decide_eq_true_eq] at hD
  obtain ⟨g1, g2, g3, e1, e2, e3, e4, e5, e6, e7, k1, k2, k3, f1, f2, f3, f5, f6, f7, f4⟩ := hD
  have key : ∀ (u : Value) (C : List UInt8), RowAt w' w1.heap.size u C → Apart v u := fun u C hr g n c e hh => by
    obtain ⟨g', c', e', r1, r2, _⟩ := hr
    rw [e'] at e
    cases e
    rcases hp _ hh with h1 | h1 <;> omega
  constructor <;> try simp only [Ne.symm g1, Ne.symm g2, e1, e4, decide_false, Bool.false_or, decide_true, Bool.true_or, put_same _ _ v hs, put_other _ _ _ v k1, put_other _ _ _ v k2, put_other _ _ _ v (Ne.symm f1), put_other _ _ _ v (Ne.symm f5)]
  · exact h.below.trans (hb.mono hBw)
  · exact Nat.le_trans h.old hb.size
  · exact fun _ _ => hv
  · exact fun x y => own_step (h.st1 x y) hb
  · exact fun x => own_step (h.st2 x) hb
  · exact fun x y => (h.rw1 x y).below hb
  · exact fun x y => (h.rw2 x y).below hb
  · exact fun x _ y => key _ _ (h.rw1 x y)
  · exact fun x _ _ => key _ _ (h.rw2 x l2)
  · exact h.ap3
  · exact fun _ => trivial
  · exact h.o2

theorem ChR.stage1 (h : ChR w1 B p0 s0 p1 s1 p2 s2 q1 t1 q2 t2 X0 X1 X2 C1 C2 L a' w') (hD : Diff p0 s0 p1 s1 p2 s2 q1 t1 q2 t2 = true) (hBw : B ≤ w'.heap.size) (hL : L p1 = false) (hL0 : L p0 = true) (v : Value) (hs : s1 < a'.tmps.size) (hv : Own w'' B v X1) (hst : Step w' w'' (a'.tmps.getD s0 undef) v) :
    ChR w1 B p0 s0 p1 s1 p2 s2 q1 t1 q2 t2 X0 X1 X2 C1 C2 (fun j => decide (j = p1) || L j) (a'.put (some s1) v) w'' := by
  have l2 : L p2 = false := by
    cases hh : L p2 with
    | false => rfl
    | true => rw [h.o2 hh] at hL; cases hL
  simp only [Diff, decide_eq_true_eq] at hD
  obtain ⟨g1, g2, g3, e1, e2, e3, e4, e5, e6, e7, k1, k2, k3, f1, f2, f3, f5, f6, f7, f4⟩ := hD
  constructor <;> try simp only [g1, Ne.symm g3, e2, e5, decide_false, Bool.false_or, decide_true, Bool.true_or, put_same _ _ v hs, put_other _ _ _ v (Ne.symm k1), put_other _ _ _ v k3, put_other _ _ _ v (Ne.symm f2), put_other _ _ _ v (Ne.symm f6)]
  · exact hst.below h.below (fun b hb => (own_block (h.st0 hL0 hL) b hb).1) hBw
  · exact Nat.le_trans h.old hst.grown.size
  · intro _ x; cases x
  · exact fun _ _ => hv
  · intro x; rw [l2] at x; cases x
  · intro _ x; cases x
  · exact fun x y => (h.rw2 x y).step hst (h.ap2 x hL0 hL)
  · intro _ _ x; cases x
  · intro _ _ x; cases x
  · exact fun x _ y => (h.ap2 x hL0 hL).step hst (h.rw2 x y)
  · exact fun _ => hL0
  · intro _; trivial

theorem ChR.stage2 (h : ChR w1 B p0 s0 p1 s1 p2 s2 q1 t1 q2 t2 X0 X1 X2 C1 C2 L a' w') (hD : Diff p0 s0 p1 s1 p2 s2 q1 t1 q2 t2 = true) (hBw : B ≤ w'.heap.size) (hL : L p2 = false) (hL0 : L p1 = true) (v : Value) (hs : s2 < a'.tmps.size) (hv : Own w'' B v X2) (hst : Step w' w'' (a'.tmps.getD s1 undef) v) :
    ChR w1 B p0 s0 p1 s1 p2 s2 q1 t1 q2 t2 X0 X1 X2 C1 C2 (fun j => decide (j = p2) || L j) (a'.put (some s2) v) w'' := by
  simp only [Diff, decide_eq_true_eq] at hD
  obtain ⟨g1, g2, g3, e1, e2, e3, e4, e5, e6, e7, k1, k2, k3, f1, f2, f3, f5, f6, f7, f4⟩ := hD
  constructor <;> try simp only [g2, g3, e3, e6, decide_false, Bool.false_or, decide_true, Bool.true_or, put_same _ _ v hs, put_other _ _ _ v (Ne.symm k2), put_other _ _ _ v (Ne.symm k3), put_other _ _ _ v (Ne.symm f3), put_other _ _ _ v (Ne.symm f7)]
  · exact hst.below h.below (fun b hb => (own_block (h.st1 hL0 hL) b hb).1) hBw
  · exact Nat.le_trans h.old hst.grown.size
  · intro _ x; rw [hL0] at x; cases x
  · intro _ x; cases x
  · exact fun _ => hv
  · intro _ x; rw [hL0] at x; cases x
  · intro _ x; cases x
  · intro _ _ x; rw [hL0] at x; cases x
  · intro _ _ x; rw [hL0] at x; cases x
  · intro _ _ x; cases x
  · exact h.o1
  · exact fun _ => hL0
end
end Go.Proofs.YtkeljejddfpnmaaDoor
