/-
  chancelref7's reader: u8, end: what they return.
-/
import Derived.Test.YtkeljejddfpnmaaDoorPkW
namespace Go.Proofs.YtkeljejddfpnmaaDoor
open Go.RowKit Go.Sort

def qObj (ao : Option Addr) (n c : Nat) (P E : Int) : Obj := .cells #[.slice ao n c, .int .i64 P, .int .i64 E] 62 (0, 0)
def eN (e : Bool) : Int := if e then 8 else 0
structure QB (w : World) (qb : Nat) (ao : Option Addr) (cap : Nat) (B : List UInt8) (P : Nat) (e : Bool) : Prop where
  obj : w.heap[qb]? = some (qObj ao B.length cap P (eN e))
  le : P ≤ B.length
  lcap : B.length ≤ cap
  row : BRowN w qb ao B
  len : B.length ≤ 100000
  shape : Shape ao cap
def QK (w : World) (qb : Nat) (l : List UInt8) (e : Bool) : Prop := ∃ ao cap B P, QB w qb ao cap B P e ∧ l = B.drop P
theorem q_cells {w : World} {qb : Nat} {ao : Option Addr} {n c : Nat} {P E : Int} (h : w.heap[qb]? = some (qObj ao n c P E)) : w.cell? ⟨qb, 0, none⟩ = some (.slice ao n c) ∧ w.cell? ⟨qb, 1, none⟩ = some (.int .i64 P) ∧ w.cell? ⟨qb, 2, none⟩ = some (.int .i64 E) ∧ ∀ o, w.frozen? ⟨qb, o, none⟩ = false :=
  ⟨by rw [Lib.cell_of_heap h]; rfl, by rw [Lib.cell_of_heap h]; rfl, by rw [Lib.cell_of_heap h]; rfl, fun o => Lib.frozen_of_heap h o⟩
theorem q_set1 {w : World} {qb : Nat} {ao : Option Addr} {n c : Nat} {P E : Int} (h : w.heap[qb]? = some (qObj ao n c P E)) (P' : Int) : (w.setCell ⟨qb, 1, none⟩ (.int .i64 P')).heap[qb]? = some (qObj ao n c P' E) := by
  simp [World.setCell, Array.getElem?_modify, h, qObj]
theorem q_set2 {w : World} {qb : Nat} {ao : Option Addr} {n c : Nat} {P E : Int} (h : w.heap[qb]? = some (qObj ao n c P E)) (E' : Int) : (w.setCell ⟨qb, 2, none⟩ (.int .i64 E')).heap[qb]? = some (qObj ao n c P E') := by
  simp [World.setCell, Array.getElem?_modify, h, qObj]
theorem QK.lt {w : World} {qb : Nat} {l : List UInt8} {e : Bool} (h : QK w qb l e) : qb < w.heap.size := by
  obtain ⟨ao, cap, B, P, h, _⟩ := h
  exact (Array.getElem?_eq_some_iff.1 h.obj).1
theorem QK.below {w w' : World} {qb : Nat} {l : List UInt8} {e : Bool} (h : QK w qb l e) (hb : Below w.heap.size w w') : QK w' qb l e := by
  have hlt := h.lt
  obtain ⟨ao, cap, B, P, h, hl⟩ := h
  exact ⟨ao, cap, B, P, ⟨(hb.block qb hlt).trans h.obj, h.le, h.lcap, h.row.same hb.size fun k hk _ => hb.block k hk, h.len, h.shape⟩, hl⟩
theorem BRowN.setq {w : World} {qb o : Nat} {ao : Option Addr} {l : List UInt8} (h : BRowN w qb ao l) (u : Value) : BRowN (w.setCell ⟨qb, o, none⟩ u) qb ao l :=
  h.same (by simp [World.setCell]) fun k _ hk => Below.heap_setCell _ _ _ _ hk

def u8v : List UInt8 → Bool → Int
  | b :: _, false => (b.toNat : Int)
  | _, _ => 0
def u8l : List UInt8 → Bool → List UInt8
  | _ :: t, false => t
  | l, _ => l
def u8e : List UInt8 → Bool → Bool
  | _ :: _, false => false
  | _, _ => true
def endE (l : List UInt8) (e : Bool) : Int := if e then 8 else if 0 < l.length then 9 else 0

theorem QB.below {w w' : World} {qb : Nat} {ao : Option Addr} {cap : Nat} {B : List UInt8} {P : Nat} {e : Bool} (h : QB w qb ao cap B P e) (hb : Below w.heap.size w w') : QB w' qb ao cap B P e :=
  ⟨(hb.block qb (Array.getElem?_eq_some_iff.1 h.obj).1).trans h.obj, h.le, h.lcap, h.row.same hb.size fun k hk _ => hb.block k hk, h.len, h.shape⟩

set_option maxHeartbeats 4000000 in
set_option maxRecDepth 1000000 in
theorem u8_any (l : List UInt8) (e : Bool) (w : World) (qb : Nat) (h : QK w qb l e) :
    Calls Tryd.prog 28 #[.pointer (some ⟨qb, 0, none⟩)] w fun x w' => x = .returned (.int .i64 (u8v l e)) ∧ Keep1 qb w w' ∧ QK w' qb (u8l l e) (u8e l e) := by
  obtain ⟨ao, cap, B, P, h, rfl⟩ := h
  obtain ⟨c0, c1, c2, cf⟩ := q_cells h.obj
  have HH := hide h
  have hqlt : qb < w.heap.size := (Array.getElem?_eq_some_iff.1 h.obj).1
  have hle := h.le
  have hln := h.len
  cases e with
  | true =>
    have e1 : u8v (B.drop P) true = 0 := by cases B.drop P <;> rfl
    have e2 : u8l (B.drop P) true = B.drop P := by cases B.drop P <;> rfl
    have e3 : u8e (B.drop P) true = true := by cases B.drop P <;> rfl
    rw [e1, e2, e3]
    clear e1 e2 e3
    have c2' : w.cell? ⟨qb, 2, none⟩ = some (.int .i64 8) := c2
    clear h c2
    go_enter Tryd.func28, Tryd.ntmps28
    go_wp2_with fail
    refine wp_region_quiet_lit (by kernel_rfl) (by kernel_rfl) ?_
    repeat (go_big_quiet_step (fail))
    refine wpQuiet_nil ?_
    intro _ hw'
    obtain ⟨nq, hw''⟩ := hw'
    subst hw''
    have b1 : Below w.heap.size w (w.drewN nq) := below_drewN (Below.refl _ w) nq
    generalize w.drewN nq = w1 at *
    have q1 := (unhide HH).below b1
    obtain ⟨d0, d1, d2, df⟩ := q_cells q1.obj
    have d2' : w1.cell? ⟨qb, 2, none⟩ = some (.int .i64 8) := d2
    clear d2
    clear c0 c1 c2' cf
    go_wp2
    go_ret
    exact ⟨rfl, .of_below b1, ao, cap, B, P, q1, rfl⟩
  | false =>
    have c2' : w.cell? ⟨qb, 2, none⟩ = some (.int .i64 0) := c2
    clear c2
    by_cases hlt : P < B.length
    · obtain ⟨b, t, hbt⟩ : ∃ b t, B.drop P = b :: t := ⟨B[P], B.drop (P + 1), List.drop_eq_getElem_cons hlt⟩
      have hb : b = B[P] := by have := hbt; rw [List.drop_eq_getElem_cons hlt] at this; exact (List.cons.inj this).1.symm
      have ht : t = B.drop (P + 1) := by have := hbt; rw [List.drop_eq_getElem_cons hlt] at this; exact (List.cons.inj this).2.symm
      rw [hbt]
      show Calls _ _ _ _ fun x w' => x = .returned (.int .i64 (b.toNat : Int)) ∧ _ ∧ QK w' qb t false
      have hb8 := b.toNat_lt
      obtain ⟨bi, hbi⟩ : ∃ bi : Int, bi = (b.toNat : Int) := ⟨_, rfl⟩
      rw [← hbi]
      have hbw : IntKind.i64.wrap bi = bi := by rw [IntKind.wrap_i64]; omega
      obtain ⟨n, hn⟩ : ∃ n, n = B.length := ⟨_, rfl⟩
      rw [← hn] at c0
      have i1 : ¬ (n : Int) ≤ (P : Int) := by omega
      have i2 : (P : Int) < (n : Int) := by omega
      have p1 : IntKind.i64.wrap ((P : Int) + 1) = (P : Int) + 1 := by rw [IntKind.wrap_i64]; omega
      have p2 : IntKind.i64.wrap ((P : Int) + 1 - 1) = (P : Int) := by rw [IntKind.wrap_i64]; omega
      have HN := hide hn
      have HB := hide hb
      have HT := hide ht
      have HBI := hide hbi
      clear h hbt hb ht hbi hn
      go_enter Tryd.func28, Tryd.ntmps28
      go_wp2_with fail
      refine wp_region_quiet_lit (by kernel_rfl) (by kernel_rfl) ?_
      repeat (go_big_quiet_step (fail))
      refine wpQuiet_nil ?_
      intro _ hw'
      obtain ⟨nq, hw''⟩ := hw'
      subst hw''
      have b1 : Below w.heap.size w (w.drewN nq) := below_drewN (Below.refl _ w) nq
      generalize w.drewN nq = w1 at *
      have q1 := (unhide HH).below b1
      have o1 := q1.obj
      rw [← unhide HN] at o1
      obtain ⟨d0, d1, d2, df⟩ := q_cells o1
      have d2' : w1.cell? ⟨qb, 2, none⟩ = some (.int .i64 0) := d2
      clear d2
      clear c0 c1 c2' cf
      have o2 := q_set1 o1 ((P : Int) + 1)
      have k2 := (Keep2.of_below (x := qb) (y := qb) b1).setCell (p := ⟨qb, 1, none⟩) (.inl rfl) (.int .i64 ((P : Int) + 1))
      have r2 := q1.row.setq (o := 1) (.int .i64 ((P : Int) + 1))
      obtain ⟨g, off, hao, hg, hc⟩ := r2.row.get hlt
      rw [← unhide HB, ← unhide HBI] at hc
      go_upto_region 6 with fail
      clear d0 d1 d2' df o1
      generalize World.setCell _ _ _ = w2 at *
      obtain ⟨d0, d1, d2, df⟩ := q_cells o2
      rw [hao] at d0
      have hq2 : qb < w2.heap.size := (Array.getElem?_eq_some_iff.1 o2).1
      clear hao
      refine wp_region_quiet_lit (by kernel_rfl) (by kernel_rfl) ?_
      repeat (go_big_quiet_step (fail))
      refine wpQuiet_nil ?_
      intro _ hw'
      obtain ⟨nq, hw''⟩ := hw'
      subst hw''
      have b3 : Below w2.heap.size w2 (w2.drewN nq) := below_drewN (Below.refl _ w2) nq
      generalize w2.drewN nq = w3 at *
      clear d0 d1 d2 df hc
      go_wp2
      go_ret
      refine ⟨rfl, k2.trans (.of_below b3), QK.below ⟨ao, cap, B, P + 1, ⟨?_, by omega, (unhide HH).lcap, r2, hln, (unhide HH).shape⟩, unhide HT⟩ b3⟩
      rw [← unhide HN]
      simpa [eN] using o2
    · have e0 : B.drop P = [] := List.drop_eq_nil_of_le (by omega)
      rw [e0]
      show Calls _ _ _ _ fun x w' => x = .returned (.int .i64 0) ∧ _ ∧ QK w' qb [] true
      obtain ⟨n, hn⟩ : ∃ n, n = B.length := ⟨_, rfl⟩
      rw [← hn] at c0
      have i1 : (n : Int) ≤ (P : Int) := by omega
      have HN := hide hn
      have HE := hide e0
      clear h e0 hn
      go_enter Tryd.func28, Tryd.ntmps28
      go_wp2_with fail
      refine wp_region_quiet_lit (by kernel_rfl) (by kernel_rfl) ?_
      repeat (go_big_quiet_step (fail))
      refine wpQuiet_nil ?_
      intro _ hw'
      obtain ⟨nq, hw''⟩ := hw'
      subst hw''
      have b1 : Below w.heap.size w (w.drewN nq) := below_drewN (Below.refl _ w) nq
      generalize w.drewN nq = w1 at *
      have q1 := (unhide HH).below b1
      have o1 := q1.obj
      rw [← unhide HN] at o1
      obtain ⟨d0, d1, d2, df⟩ := q_cells o1
      have d2' : w1.cell? ⟨qb, 2, none⟩ = some (.int .i64 0) := d2
      clear d2
      clear c0 c1 c2' cf
      have o2 := q_set2 o1 8
      have k2 := (Keep2.of_below (x := qb) (y := qb) b1).setCell (p := ⟨qb, 2, none⟩) (.inl rfl) (.int .i64 8)
      have r2 := q1.row.setq (o := 2) (.int .i64 8)
      go_upto_region 3 with fail
      clear d0 d1 d2' df o1
      generalize World.setCell _ _ _ = w2 at *
      obtain ⟨d0, d1, d2, df⟩ := q_cells o2
      go_wp2
      go_ret
      refine ⟨rfl, k2, ao, cap, B, P, ⟨?_, hle, (unhide HH).lcap, r2, hln, (unhide HH).shape⟩, (unhide HE).symm⟩
      rw [← unhide HN]
      exact o2
end Go.Proofs.YtkeljejddfpnmaaDoor
