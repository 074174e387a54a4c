/-
  Messages: pack's slices.ContainsFunc, checkMsg, msgSize: what they return.
-/
import Derived.Test.YtkeljejddfpnmaaDoorPkK
namespace Go.Proofs.YtkeljejddfpnmaaDoor
open Go.RowKit Go.Sort

structure M14 where
  fr : Int
  to : Int
  kd : Int
  tm : Int
  ix : Int
  ls : Int
  cm : Int
  sq : Int
  ys : Bool
  tO : Option Addr
  tn : Nat
  tc : Nat
  kO : Option Addr
  kn : Nat
  kc : Nat
  eO : Option Addr
  en : Nat
  ec : Nat
  mO : Option Addr
  mn : Nat
  mc : Nat
  dO : Option Addr
  dn : Nat
  dc : Nat
def M14.cells (m : M14) : Array Value := #[.int .i64 m.fr, .int .i64 m.to, .int .i64 m.kd, .int .i64 m.tm, .int .i64 m.ix, .int .i64 m.ls, .int .i64 m.cm, .int .i64 m.sq, .bool m.ys, .slice m.tO m.tn m.tc, .slice m.kO m.kn m.kc, .slice m.eO m.en m.ec, .slice m.mO m.mn m.mc, .slice m.dO m.dn m.dc]
def M14.val (m : M14) : Value := .agg m.cells
def M14.obj (m : M14) : Obj := .cells m.cells 45 (0, 0)
/-- Ints in memory. -/
def IRow (w : World) (ao : Option Addr) (n : Nat) : Prop := ∀ j, j < n → ∃ g o x, ao = some ⟨g, o, none⟩ ∧ g < w.heap.size ∧ w.cell? ⟨g, o + j, none⟩ = some (.int .i64 x)
/-- Rows of bytes in memory. -/
def ERow (w : World) (ao : Option Addr) (es : List (List UInt8)) : Prop := ∀ j (hj : j < es.length), ∃ g o a c, ao = some ⟨g, o, none⟩ ∧ g < w.heap.size ∧ w.cell? ⟨g, o + j, none⟩ = some (.slice a es[j].length c) ∧ BRow w a es[j]
theorem IRow.below {w w' : World} {ao : Option Addr} {n : Nat} (h : IRow w ao n) (hb : Below w.heap.size w w') : IRow w' ao n := by
  intro j hj
  obtain ⟨g, o, x, e, hg, hc⟩ := h j hj
  exact ⟨g, o, x, e, Nat.lt_of_lt_of_le hg hb.size, (hb.cell (p := ⟨g, o + j, none⟩) hg).trans hc⟩
theorem ERow.below {w w' : World} {ao : Option Addr} {es : List (List UInt8)} (h : ERow w ao es) (hb : Below w.heap.size w w') : ERow w' ao es := by
  intro j hj
  obtain ⟨g, o, a, c, e, hg, hc, hr⟩ := h j hj
  exact ⟨g, o, a, c, e, Nat.lt_of_lt_of_le hg hb.size, (hb.cell (p := ⟨g, o + j, none⟩) hg).trans hc, hr.below hb⟩
structure MRows (w : World) (m : M14) (es : List (List UInt8)) (d : List UInt8) : Prop where
  rt : IRow w m.tO m.tn
  rk : IRow w m.kO m.kn
  re : ERow w m.eO es
  rn : m.en = es.length
  rm : IRow w m.mO m.mn
  rd : BRow w m.dO d
  dn : m.dn = d.length
theorem MRows.below {w w' : World} {m : M14} {es : List (List UInt8)} {d : List UInt8} (h : MRows w m es d) (hb : Below w.heap.size w w') : MRows w' m es d :=
  ⟨h.rt.below hb, h.rk.below hb, h.re.below hb, h.rn, h.rm.below hb, h.rd.below hb, h.dn⟩
def longE (l : List UInt8) : Bool := decide (700 < l.length)
def hasLong (es : List (List UInt8)) : Bool := es.any longE
def errM (m : M14) (es : List (List UInt8)) : Int := if m.kd < 1 ∨ 15 < m.kd then 3 else if m.tn ≠ m.en ∨ m.kn ≠ m.en then 1 else if 64 < m.en ∨ 7 < m.mn then 4 else if hasLong es = true ∨ 60000 < m.dn then 5 else 0

theorem longEntry_any (n : Nat) (ao : Option Addr) (cap : Nat) (w : World) : Calls Tryd.prog 42 #[.slice ao n cap] w fun e w' => e = .returned (.bool (decide (700 < n))) ∧ w' = w := by
  go_enter Tryd.func42, Tryd.ntmps42
  go_wp2
  go_ret
  refine ⟨ret_bool ?_, rfl⟩
  apply Bool.eq_iff_iff.2
  simp
  omega

theorem any_drop (es : List (List UInt8)) (k : Nat) (hk : k < es.length) : hasLong (es.drop k) = (longE es[k] || hasLong (es.drop (k + 1))) := by
  rw [hasLong, List.drop_eq_getElem_cons hk, List.any_cons]
  rfl
set_option maxHeartbeats 4000000 in
set_option maxRecDepth 1000000 in
theorem indexB_any (es : List (List UInt8)) (ao : Option Addr) (cap : Nat) (w : World) (hl : es.length ≤ 281474976710656) (h : ERow w ao es) :
    Calls Tryd.prog 44 #[.slice ao es.length cap, .func (.func 42) #[] #[]] w fun e w' => ∃ i : Int, e = .returned (.int .i64 i) ∧ (0 ≤ i ↔ hasLong es = true) ∧ w' = w := by
  go_enter Tryd.func44, Tryd.ntmps44
  go_wp2_with fail
  go_loopw [8] (fun iv wr => ∃ k : Nat, k ≤ es.length ∧ iv = .int .i64 k ∧ wr = w ∧ hasLong (es.drop k) = hasLong es) (fun iv _ => es.length - (intOf iv).toNat)
  case atStart => exact ⟨0, Nat.zero_le _, rfl, rfl, by rw [List.drop_zero]⟩
  case round =>
    obtain ⟨k, hk, rfl, rfl, hacc⟩ := hrel
    by_cases hlt : k < es.length
    · have i1 : (k : Int) < (es.length : Int) := by omega
      obtain ⟨g, o, a, c, rfl, hg, hc, _⟩ := h k hlt
      rw [any_drop es k hlt] at hacc
      unfold longE at hacc
      generalize es[k].length = n at *
      have L := longEntry_any n a c wr
      by_cases h7 : 700 < n
      · rw [decide_eq_true h7] at L hacc
        have HA := hide hacc
        clear hacc
        go_wp2_with fail
        refine L.mono ?_
        rintro e w1 ⟨rfl, rfl⟩
        go_wp2
        go_ret
        exact ⟨k, rfl, by have := unhide HA; simp only [Bool.true_or] at this; constructor; · intro _; exact this.symm
                          · intro _; omega, rfl⟩
      · rw [decide_eq_false h7] at L hacc
        have HA := hide hacc
        clear hacc
        go_wp2_with fail
        refine L.mono ?_
        rintro e w1 ⟨rfl, rfl⟩
        go_wp2
        go_roundw
        case rel => exact ⟨k + 1, by omega, rfl, by trivial, by have := unhide HA; rw [Bool.false_or] at this; exact this⟩
        case measure => simp only [intOf]; omega
    · have i1 : ¬ (k : Int) < (es.length : Int) := by omega
      rw [List.drop_eq_nil_of_le (by omega)] at hacc
      have HA := hide hacc
      clear hacc
      go_wp2
      go_ret
      exact ⟨-1, rfl, by rw [← unhide HA]; exact ⟨fun h => absurd h (by decide), fun h => by cases h⟩, rfl⟩
set_option maxHeartbeats 4000000 in
theorem containsB_any (es : List (List UInt8)) (ao : Option Addr) (cap : Nat) (w : World) (hl : es.length ≤ 281474976710656) (h : ERow w ao es) :
    Calls Tryd.prog 41 #[.slice ao es.length cap, .func (.func 42) #[] #[]] w fun e w' => e = .returned (.bool (hasLong es)) ∧ w' = w := by
  have I := indexB_any es ao cap w hl h
  go_enter Tryd.func41, Tryd.ntmps41
  go_wp2_with fail
  refine I.mono ?_
  rintro e w1 ⟨i, rfl, hi, rfl⟩
  go_wp2
  go_ret
  refine ⟨ret_bool ?_, rfl⟩
  apply Bool.eq_iff_iff.2
  rw [← hi]

set_option maxHeartbeats 8000000 in
set_option maxRecDepth 1000000 in
theorem checkMsg_any (m : M14) (es : List (List UInt8)) (d : List UInt8) (w : World) (h : MRows w m es d) (hl : es.length ≤ 281474976710656) :
    Calls Tryd.prog 35 #[m.val] w fun e w' => e = .returned (.int .i64 (errM m es)) ∧ Below w.heap.size w w' := by
  have n1 := new1 w m.obj
  have C := containsB_any es m.eO m.ec _ hl (h.re.below n1)
  rw [← h.rn] at C
  unfold errM
  generalize hasLong es = b at *
  unfold M14.val
  unfold M14.obj at n1 C
  unfold M14.cells at n1 C ⊢
  clear h
  obtain ⟨fr, to, kd, tm, ix, ls, cm, sq, ys, tO, tn, tc, kO, kn, kc, eO, en, ec, mO, mn, mc, dO, dn, dc⟩ := m
  simp only [] at n1 C ⊢
  by_cases h1 : kd < 1 ∨ 15 < kd
  · rw [if_pos h1]
    go_enter Tryd.func35, Tryd.ntmps35
    rcases h1 with h1 | h1
    · go_wp2
      go_ret
      exact ⟨rfl, n1⟩
    · have h1' : ¬ kd < 1 := by omega
      go_wp2
      go_ret
      exact ⟨rfl, n1⟩
  · rw [if_neg h1]
    have k1 : ¬ kd < 1 := by omega
    have k2 : ¬ 15 < kd := by omega
    clear h1
    by_cases h2 : tn ≠ en ∨ kn ≠ en
    · rw [if_pos h2]
      go_enter Tryd.func35, Tryd.ntmps35
      by_cases h3 : tn = en
      · have e2 : ¬ kn = en := by omega
        clear h2
        subst h3
        go_wp2
        go_ret
        exact ⟨rfl, n1⟩
      · clear h2
        go_wp2
        go_ret
        exact ⟨rfl, n1⟩
    · rw [if_neg h2]
      have e1 : tn = en := by omega
      have e2 : kn = en := by omega
      clear h2
      subst e1
      subst e2
      by_cases h3 : 64 < kn ∨ 7 < mn
      · rw [if_pos h3]
        go_enter Tryd.func35, Tryd.ntmps35
        by_cases h4 : 64 < kn
        · have i1 : (64 : Int) < (kn : Int) := by omega
          clear h3 h4
          go_wp2
          go_ret
          exact ⟨rfl, n1⟩
        · have i1 : ¬ (64 : Int) < (kn : Int) := by omega
          have i2 : (7 : Int) < (mn : Int) := by omega
          clear h3 h4
          go_wp2
          go_ret
          exact ⟨rfl, n1⟩
      · rw [if_neg h3]
        have i1 : ¬ (64 : Int) < (kn : Int) := by omega
        have i2 : ¬ (7 : Int) < (mn : Int) := by omega
        clear h3
        cases b with
        | true =>
          rw [if_pos (.inl rfl)]
          go_enter Tryd.func35, Tryd.ntmps35
          go_wp2_with fail
          refine C.mono ?_
          rintro e w1 ⟨rfl, rfl⟩
          go_wp2
          go_ret
          exact ⟨rfl, n1⟩
        | false =>
          by_cases h4 : 60000 < dn
          · rw [if_pos (.inr h4)]
            have i3 : (60000 : Int) < (dn : Int) := by omega
            clear h4
            go_enter Tryd.func35, Tryd.ntmps35
            go_wp2_with fail
            refine C.mono ?_
            rintro e w1 ⟨rfl, rfl⟩
            go_wp2
            go_ret
            exact ⟨rfl, n1⟩
          · rw [if_neg (by simp; omega)]
            have i3 : ¬ (60000 : Int) < (dn : Int) := by omega
            clear h4
            go_enter Tryd.func35, Tryd.ntmps35
            go_wp2_with fail
            refine C.mono ?_
            rintro e w1 ⟨rfl, rfl⟩
            go_wp2
            go_ret
            exact ⟨rfl, n1⟩
end Go.Proofs.YtkeljejddfpnmaaDoor
