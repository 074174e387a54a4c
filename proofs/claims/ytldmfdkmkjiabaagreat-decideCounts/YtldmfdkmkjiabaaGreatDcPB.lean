/-
  Package decide, plain: scopes, conditions, a policy; what lies in memory of them.
  Package decide: inScope, inScopes, meets, One.
  Package decide: names by what became of their policies; three rows of names, each in a block of its own; named policies in memory.
-/
import Derived.Test.YtldmfdkmkjiabaaGreatEvPQ
import Derived.Test.YtldmfdkmkjiabaaGreatEoMq
import Derived.Maps.AppendAt
namespace Go.Proofs.YtldmfdkmkjiabaaGreat
open Go.RowKit Go.Sort

/-- A scope: its kind, its uid. -/
structure ScD where
  k : Int
  u : U2
/-- A policy. -/
structure PolD where
  f : Bool
  p : ScD
  a : ScD
  r : ScD
  cs : List (Bool × Ex)
def inSc (D : EvD) (u : U2) (s : ScD) : Bool := if s.k = 1 then decide (u = s.u) else if s.k = 2 then D.f u s.u else true
def scsC (D : EvD) (p : PolD) : Bool := (inSc D D.p p.p && inSc D D.a p.a) && inSc D D.r p.r
def condR (r : EvR) (u : Bool) : Bool ⊕ Int := match truC r with
  | .inl b => .inl (b != u)
  | .inr e => .inr e
def condsC (D : EvD) : List (Bool × Ex) → Bool ⊕ Int
  | [] => .inl true
  | c :: t => match condR (evalE D c.2) c.1 with
    | .inl true => condsC D t
    | .inl false => .inl false
    | .inr e => .inr e
def dcOne (D : EvD) (p : PolD) : Bool ⊕ Int := if scsC D p then condsC D p.cs else .inl false
theorem condsC_drop (D : EvD) (l : List (Bool × Ex)) (j : Nat) (h : j < l.length) : condsC D (l.drop j) = match condR (evalE D l[j].2) l[j].1 with
    | .inl true => condsC D (l.drop (j + 1))
    | .inl false => .inl false
    | .inr e => .inr e := by
  rw [List.drop_eq_getElem_cons h, condsC]
/-- What a policy comes to, as it is returned. -/
def RB (r : Bool ⊕ Int) (b : Bool) (k : Int) : Prop := match r with
  | .inl x => k = 0 ∧ b = x
  | .inr e => k = e ∧ e ≠ 0 ∧ b = false
def RetB (r : Bool ⊕ Int) (e : Ending) : Prop := ∃ b k, e = .returned (.tuple #[.bool b, .int .i64 k]) ∧ RB r b k

/-- The cells of a condition. -/
def AtCd (w : World) (b o : Nat) (u : Bool) (r : R7) : Prop :=
  w.cell? ⟨b, o, none⟩ = some (.bool u) ∧ w.cell? ⟨b, o + 1, none⟩ = some (.int .i64 r.k) ∧ w.cell? ⟨b, o + 2, none⟩ = some (.bool r.b) ∧ w.cell? ⟨b, o + 3, none⟩ = some (.int .i64 r.n) ∧ w.cell? ⟨b, o + 4, none⟩ = some (.string r.s) ∧ w.cell? ⟨b, o + 5, none⟩ = some (.string r.t) ∧ w.cell? ⟨b, o + 6, none⟩ = some (.string r.i) ∧ w.cell? ⟨b, o + 7, none⟩ = some (.slice r.lo r.ll r.lc)
theorem AtCd.below {w w' : World} {B b o : Nat} {u : Bool} {r : R7} (h : AtCd w b o u r) (hb : Below B w w') (hl : b < B) : AtCd w' b o u r := by
  obtain ⟨h0, h1, h2, h3, h4, h5, h6, h7⟩ := h
  exact ⟨(hb.cell (p := ⟨b, o, none⟩) hl).trans h0, (hb.cell (p := ⟨b, o + 1, none⟩) hl).trans h1, (hb.cell (p := ⟨b, o + 2, none⟩) hl).trans h2, (hb.cell (p := ⟨b, o + 3, none⟩) hl).trans h3, (hb.cell (p := ⟨b, o + 4, none⟩) hl).trans h4, (hb.cell (p := ⟨b, o + 5, none⟩) hl).trans h5, (hb.cell (p := ⟨b, o + 6, none⟩) hl).trans h6, (hb.cell (p := ⟨b, o + 7, none⟩) hl).trans h7⟩
/-- A slice of conditions. -/
def RowCd (w : World) (lo : Option Addr) (l : List (Bool × Ex)) : Prop :=
  ∀ j (hj : j < l.length), ∃ r b off, lo = some ⟨b, off, none⟩ ∧ b < w.heap.size ∧ AtCd w b (off + j * 8) l[j].1 r ∧ IsE w (fun _ => True) r l[j].2
theorem RowCd.below {w w' : World} {lo : Option Addr} {l : List (Bool × Ex)} (h : RowCd w lo l) (hb : Below w.heap.size w w') : RowCd w' lo l := by
  intro j hj
  obtain ⟨r, b, off, e, hl, h8, hx⟩ := h j hj
  exact ⟨r, b, off, e, Nat.lt_of_lt_of_le hl hb.size, h8.below hb hl, IsE.turn hb.size (fun b h1 h2 => ⟨hb.block b h2, trivial⟩) r _ hx⟩
end Go.Proofs.YtldmfdkmkjiabaaGreat

namespace Go.Proofs.YtldmfdkmkjiabaaGreat
open Go.RowKit Go.Sort

set_option maxHeartbeats 4000000 in
set_option maxRecDepth 1000000 in
theorem inSc_any (glo : Option Addr) (gs : List E4) (N c : Nat) (D : EvD) (u : U2) (s : ScD) (w : World) (hN : N = gs.length) (hE : EW w glo gs D) :
    Calls Tryz.prog 34 #[.slice glo N c, .agg #[.string u.t, .string u.i], .agg #[.int .i64 s.k, .string s.u.t, .string s.u.i]] w fun e w' => e = .returned (.bool (inSc D u s)) ∧ Below w.heap.size w w' := by
  obtain ⟨b1, zz, k1, k2⟩ := ev2 w (.cells #[.string u.t, .string u.i] 28) (.cells #[.int .i64 s.k, .string s.u.t, .string s.u.i] 43)
  have CI := fun w' (hb : Below w.heap.size w w') => hE.inA c u s.u w' hb
  rw [← hN] at CI
  clear hE hN zz
  have NQ := binEqlUid u s.u
  unfold inSc
  obtain ⟨k, x⟩ := s
  dsimp only at CI NQ k2 ⊢
  generalize hf : D.f u x = fx at *
  clear hf
  by_cases h1 : k = 1
  · subst h1
    rw [if_pos rfl]
    generalize hd : decide (u = x) = dx at *
    clear hd CI
    go_enter Tryz.func34, Tryz.ntmps34
    go_upto_region 1 with fail
    generalize (w.alloc _).alloc _ = w1 at *
    have cu0 : w1.cell? ⟨w.heap.size, 0, none⟩ = some (.string u.t) := by rw [Lib.cell_of_heap k1]; rfl
    have cu1 : w1.cell? ⟨w.heap.size, 1, none⟩ = some (.string u.i) := by rw [Lib.cell_of_heap k1]; rfl
    have cs0 : w1.cell? ⟨w.heap.size + 1, 0, none⟩ = some (.int .i64 1) := by rw [Lib.cell_of_heap k2]; rfl
    have cs1 : w1.cell? ⟨w.heap.size + 1, 1, none⟩ = some (.string x.t) := by rw [Lib.cell_of_heap k2]; rfl
    have cs2 : w1.cell? ⟨w.heap.size + 1, 2, none⟩ = some (.string x.i) := by rw [Lib.cell_of_heap k2]; rfl
    go_wp2
    go_ret
    exact ⟨rfl, b1⟩
  · rw [if_neg h1]
    have g1 : (k == 1) = false := by simpa using h1
    by_cases h2 : k = 2
    · subst h2
      rw [if_pos rfl]
      clear NQ
      go_enter Tryz.func34, Tryz.ntmps34
      go_upto_region 1 with fail
      generalize (w.alloc _).alloc _ = w1 at *
      have cu0 : w1.cell? ⟨w.heap.size, 0, none⟩ = some (.string u.t) := by rw [Lib.cell_of_heap k1]; rfl
      have cu1 : w1.cell? ⟨w.heap.size, 1, none⟩ = some (.string u.i) := by rw [Lib.cell_of_heap k1]; rfl
      have cs0 : w1.cell? ⟨w.heap.size + 1, 0, none⟩ = some (.int .i64 2) := by rw [Lib.cell_of_heap k2]; rfl
      have cs1 : w1.cell? ⟨w.heap.size + 1, 1, none⟩ = some (.string x.t) := by rw [Lib.cell_of_heap k2]; rfl
      have cs2 : w1.cell? ⟨w.heap.size + 1, 2, none⟩ = some (.string x.i) := by rw [Lib.cell_of_heap k2]; rfl
      have C := CI w1 b1
      clear CI
      go_wp2_with fail
      refine C.mono ?_
      clear C cu0 cu1 cs0 cs1 cs2
      rintro e w3 ⟨rfl, b3⟩
      go_wp2
      go_ret
      exact ⟨rfl, b1.trans (b3.mono b1.size)⟩
    · rw [if_neg h2]
      have g2 : (k == 2) = false := by simpa using h2
      clear NQ CI
      go_enter Tryz.func34, Tryz.ntmps34
      go_upto_region 1 with fail
      generalize (w.alloc _).alloc _ = w1 at *
      have cs0 : w1.cell? ⟨w.heap.size + 1, 0, none⟩ = some (.int .i64 k) := by rw [Lib.cell_of_heap k2]; rfl
      have cs1 : w1.cell? ⟨w.heap.size + 1, 1, none⟩ = some (.string x.t) := by rw [Lib.cell_of_heap k2]; rfl
      have cs2 : w1.cell? ⟨w.heap.size + 1, 2, none⟩ = some (.string x.i) := by rw [Lib.cell_of_heap k2]; rfl
      go_wp2
      go_ret
      exact ⟨rfl, b1⟩

set_option maxHeartbeats 4000000 in
set_option maxRecDepth 1000000 in
theorem inScs_any (glo : Option Addr) (gs : List E4) (N c : Nat) (D : EvD) (p : PolD) (sl : Value) (w : World) (hN : N = gs.length) (hE : EW w glo gs D) :
    Calls Tryz.prog 23 #[.slice glo N c, .agg #[.string D.p.t, .string D.p.i, .string D.a.t, .string D.a.i, .string D.r.t, .string D.r.i], .agg #[.bool p.f, .int .i64 p.p.k, .string p.p.u.t, .string p.p.u.i, .int .i64 p.a.k, .string p.a.u.t, .string p.a.u.i, .int .i64 p.r.k, .string p.r.u.t, .string p.r.u.i, sl]] w fun e w' => e = .returned (.bool (scsC D p)) ∧ Below w.heap.size w w' := by
  obtain ⟨b1, zz, k1, k2⟩ := ev2 w (.cells #[.string D.p.t, .string D.p.i, .string D.a.t, .string D.a.i, .string D.r.t, .string D.r.i] 30) (.cells #[.bool p.f, .int .i64 p.p.k, .string p.p.u.t, .string p.p.u.i, .int .i64 p.a.k, .string p.a.u.t, .string p.a.u.i, .int .i64 p.r.k, .string p.r.u.t, .string p.r.u.i, sl] 46)
  have CI := fun (u : U2) (s : ScD) w' (hb : Below w.heap.size w w') => inSc_any glo gs N c D u s w' hN (hE.below hb)
  have CP := fun w' hb => CI D.p p.p w' hb
  have CA := fun w' hb => CI D.a p.a w' hb
  have CR := fun w' hb => CI D.r p.r w' hb
  clear hE hN zz CI
  unfold scsC
  generalize inSc D D.p p.p = x1 at *
  generalize inSc D D.a p.a = x2 at *
  generalize inSc D D.r p.r = x3 at *
  go_enter Tryz.func23, Tryz.ntmps23
  go_upto_region 1 with fail
  generalize (w.alloc _).alloc _ = w1 at *
  have cr0 : w1.cell? ⟨w.heap.size, 0, none⟩ = some (.string D.p.t) := by rw [Lib.cell_of_heap k1]; rfl
  have cr1 : w1.cell? ⟨w.heap.size, 1, none⟩ = some (.string D.p.i) := by rw [Lib.cell_of_heap k1]; rfl
  have cr2 : w1.cell? ⟨w.heap.size, 2, none⟩ = some (.string D.a.t) := by rw [Lib.cell_of_heap k1]; rfl
  have cr3 : w1.cell? ⟨w.heap.size, 3, none⟩ = some (.string D.a.i) := by rw [Lib.cell_of_heap k1]; rfl
  have cr4 : w1.cell? ⟨w.heap.size, 4, none⟩ = some (.string D.r.t) := by rw [Lib.cell_of_heap k1]; rfl
  have cr5 : w1.cell? ⟨w.heap.size, 5, none⟩ = some (.string D.r.i) := by rw [Lib.cell_of_heap k1]; rfl
  have cp0 : w1.cell? ⟨w.heap.size + 1, 0, none⟩ = some (.bool p.f) := by rw [Lib.cell_of_heap k2]; rfl
  have cp1 : w1.cell? ⟨w.heap.size + 1, 1, none⟩ = some (.int .i64 p.p.k) := by rw [Lib.cell_of_heap k2]; rfl
  have cp2 : w1.cell? ⟨w.heap.size + 1, 2, none⟩ = some (.string p.p.u.t) := by rw [Lib.cell_of_heap k2]; rfl
  have cp3 : w1.cell? ⟨w.heap.size + 1, 3, none⟩ = some (.string p.p.u.i) := by rw [Lib.cell_of_heap k2]; rfl
  have cp4 : w1.cell? ⟨w.heap.size + 1, 4, none⟩ = some (.int .i64 p.a.k) := by rw [Lib.cell_of_heap k2]; rfl
  have cp5 : w1.cell? ⟨w.heap.size + 1, 5, none⟩ = some (.string p.a.u.t) := by rw [Lib.cell_of_heap k2]; rfl
  have cp6 : w1.cell? ⟨w.heap.size + 1, 6, none⟩ = some (.string p.a.u.i) := by rw [Lib.cell_of_heap k2]; rfl
  have cp7 : w1.cell? ⟨w.heap.size + 1, 7, none⟩ = some (.int .i64 p.r.k) := by rw [Lib.cell_of_heap k2]; rfl
  have cp8 : w1.cell? ⟨w.heap.size + 1, 8, none⟩ = some (.string p.r.u.t) := by rw [Lib.cell_of_heap k2]; rfl
  have cp9 : w1.cell? ⟨w.heap.size + 1, 9, none⟩ = some (.string p.r.u.i) := by rw [Lib.cell_of_heap k2]; rfl
  have cp10 : w1.cell? ⟨w.heap.size + 1, 10, none⟩ = some (sl) := by rw [Lib.cell_of_heap k2]; rfl
  have C := CP w1 b1
  clear CP
  go_wp2_with fail
  refine C.mono ?_
  rintro e w3 ⟨rfl, b3⟩
  have B3 := b1.trans (b3.mono b1.size)
  have k13 := kept_of_below b3 k1
  have k23 := kept_of_below b3 k2
  clear C cr0 cr1 cr2 cr3 cr4 cr5 cp0 cp1 cp2 cp3 cp4 cp5 cp6 cp7 cp8 cp9 cp10
  cases x1 with
  | false =>
    clear CA CR
    go_wp2
    go_ret
    exact ⟨rfl, B3⟩
  | true =>
    have cr0 : w3.cell? ⟨w.heap.size, 0, none⟩ = some (.string D.p.t) := by rw [Lib.cell_of_heap k13]; rfl
    have cr1 : w3.cell? ⟨w.heap.size, 1, none⟩ = some (.string D.p.i) := by rw [Lib.cell_of_heap k13]; rfl
    have cr2 : w3.cell? ⟨w.heap.size, 2, none⟩ = some (.string D.a.t) := by rw [Lib.cell_of_heap k13]; rfl
    have cr3 : w3.cell? ⟨w.heap.size, 3, none⟩ = some (.string D.a.i) := by rw [Lib.cell_of_heap k13]; rfl
    have cr4 : w3.cell? ⟨w.heap.size, 4, none⟩ = some (.string D.r.t) := by rw [Lib.cell_of_heap k13]; rfl
    have cr5 : w3.cell? ⟨w.heap.size, 5, none⟩ = some (.string D.r.i) := by rw [Lib.cell_of_heap k13]; rfl
    have cp0 : w3.cell? ⟨w.heap.size + 1, 0, none⟩ = some (.bool p.f) := by rw [Lib.cell_of_heap k23]; rfl
    have cp1 : w3.cell? ⟨w.heap.size + 1, 1, none⟩ = some (.int .i64 p.p.k) := by rw [Lib.cell_of_heap k23]; rfl
    have cp2 : w3.cell? ⟨w.heap.size + 1, 2, none⟩ = some (.string p.p.u.t) := by rw [Lib.cell_of_heap k23]; rfl
    have cp3 : w3.cell? ⟨w.heap.size + 1, 3, none⟩ = some (.string p.p.u.i) := by rw [Lib.cell_of_heap k23]; rfl
    have cp4 : w3.cell? ⟨w.heap.size + 1, 4, none⟩ = some (.int .i64 p.a.k) := by rw [Lib.cell_of_heap k23]; rfl
    have cp5 : w3.cell? ⟨w.heap.size + 1, 5, none⟩ = some (.string p.a.u.t) := by rw [Lib.cell_of_heap k23]; rfl
    have cp6 : w3.cell? ⟨w.heap.size + 1, 6, none⟩ = some (.string p.a.u.i) := by rw [Lib.cell_of_heap k23]; rfl
    have cp7 : w3.cell? ⟨w.heap.size + 1, 7, none⟩ = some (.int .i64 p.r.k) := by rw [Lib.cell_of_heap k23]; rfl
    have cp8 : w3.cell? ⟨w.heap.size + 1, 8, none⟩ = some (.string p.r.u.t) := by rw [Lib.cell_of_heap k23]; rfl
    have cp9 : w3.cell? ⟨w.heap.size + 1, 9, none⟩ = some (.string p.r.u.i) := by rw [Lib.cell_of_heap k23]; rfl
    have cp10 : w3.cell? ⟨w.heap.size + 1, 10, none⟩ = some (sl) := by rw [Lib.cell_of_heap k23]; rfl
    have C := CA w3 B3
    clear CA
    go_wp2_with fail
    refine C.mono ?_
    rintro e w4 ⟨rfl, b4⟩
    have B4 := B3.trans (b4.mono B3.size)
    have k14 := kept_of_below b4 k13
    have k24 := kept_of_below b4 k23
    clear C cr0 cr1 cr2 cr3 cr4 cr5 cp0 cp1 cp2 cp3 cp4 cp5 cp6 cp7 cp8 cp9 cp10
    cases x2 with
    | false =>
      clear CR
      go_wp2
      go_ret
      exact ⟨rfl, B4⟩
    | true =>
      have cr0 : w4.cell? ⟨w.heap.size, 0, none⟩ = some (.string D.p.t) := by rw [Lib.cell_of_heap k14]; rfl
      have cr1 : w4.cell? ⟨w.heap.size, 1, none⟩ = some (.string D.p.i) := by rw [Lib.cell_of_heap k14]; rfl
      have cr2 : w4.cell? ⟨w.heap.size, 2, none⟩ = some (.string D.a.t) := by rw [Lib.cell_of_heap k14]; rfl
      have cr3 : w4.cell? ⟨w.heap.size, 3, none⟩ = some (.string D.a.i) := by rw [Lib.cell_of_heap k14]; rfl
      have cr4 : w4.cell? ⟨w.heap.size, 4, none⟩ = some (.string D.r.t) := by rw [Lib.cell_of_heap k14]; rfl
      have cr5 : w4.cell? ⟨w.heap.size, 5, none⟩ = some (.string D.r.i) := by rw [Lib.cell_of_heap k14]; rfl
      have cp0 : w4.cell? ⟨w.heap.size + 1, 0, none⟩ = some (.bool p.f) := by rw [Lib.cell_of_heap k24]; rfl
      have cp1 : w4.cell? ⟨w.heap.size + 1, 1, none⟩ = some (.int .i64 p.p.k) := by rw [Lib.cell_of_heap k24]; rfl
      have cp2 : w4.cell? ⟨w.heap.size + 1, 2, none⟩ = some (.string p.p.u.t) := by rw [Lib.cell_of_heap k24]; rfl
      have cp3 : w4.cell? ⟨w.heap.size + 1, 3, none⟩ = some (.string p.p.u.i) := by rw [Lib.cell_of_heap k24]; rfl
      have cp4 : w4.cell? ⟨w.heap.size + 1, 4, none⟩ = some (.int .i64 p.a.k) := by rw [Lib.cell_of_heap k24]; rfl
      have cp5 : w4.cell? ⟨w.heap.size + 1, 5, none⟩ = some (.string p.a.u.t) := by rw [Lib.cell_of_heap k24]; rfl
      have cp6 : w4.cell? ⟨w.heap.size + 1, 6, none⟩ = some (.string p.a.u.i) := by rw [Lib.cell_of_heap k24]; rfl
      have cp7 : w4.cell? ⟨w.heap.size + 1, 7, none⟩ = some (.int .i64 p.r.k) := by rw [Lib.cell_of_heap k24]; rfl
      have cp8 : w4.cell? ⟨w.heap.size + 1, 8, none⟩ = some (.string p.r.u.t) := by rw [Lib.cell_of_heap k24]; rfl
      have cp9 : w4.cell? ⟨w.heap.size + 1, 9, none⟩ = some (.string p.r.u.i) := by rw [Lib.cell_of_heap k24]; rfl
      have cp10 : w4.cell? ⟨w.heap.size + 1, 10, none⟩ = some (sl) := by rw [Lib.cell_of_heap k24]; rfl
      have C := CR w4 B4
      clear CR
      go_wp2_with fail
      refine C.mono ?_
      rintro e w5 ⟨rfl, b5⟩
      have B5 := B4.trans (b5.mono B4.size)
      clear C cr0 cr1 cr2 cr3 cr4 cr5 cp0 cp1 cp2 cp3 cp4 cp5 cp6 cp7 cp8 cp9 cp10
      go_wp2
      go_ret
      exact ⟨rfl, B5⟩

theorem isG_no {w : World} {g : GV} {R : R7} (h : IsG w g R) (hn : ∀ x, g ≠ .pl (.bool x)) : R.k ≠ 1 := by
  cases g with
  | pl p =>
    have h : R = ofP p := h
    subst h
    cases p with
    | bool x => exact absurd rfl (hn x)
    | long n => show (2 : Int) ≠ 1; decide
    | str s => show (3 : Int) ≠ 1; decide
    | uid t i => show (4 : Int) ≠ 1; decide
  | set l =>
    obtain ⟨ao, c, rfl, _, _⟩ := h
    show (5 : Int) ≠ 1
    decide
theorem gv_bool (g : GV) : (∃ x, g = .pl (.bool x)) ∨ ∀ x, g ≠ .pl (.bool x) := by
  cases g with
  | pl p =>
    cases p with
    | bool x => exact .inl ⟨x, rfl⟩
    | long n => exact .inr fun x h => by cases h
    | str s => exact .inr fun x h => by cases h
    | uid t i => exact .inr fun x h => by cases h
  | set l => exact .inr fun x h => by cases h

set_option maxHeartbeats 4000000 in
set_option maxRecDepth 1000000 in
theorem meets_any (glo : Option Addr) (gs : List E4) (N c : Nat) (D : EvD) (u : Bool) (ex : Ex) (q : R7) (w : World) (hN : N = gs.length) (hE : EW w glo gs D) (hq : IsE w (fun _ => True) q ex) (hok : okEv ex = true) :
    Calls Tryz.prog 24 #[.slice glo N c, .agg #[.string D.p.t, .string D.p.i, .string D.a.t, .string D.a.i, .string D.r.t, .string D.r.i], .agg #[.bool u, .int .i64 q.k, .bool q.b, .int .i64 q.n, .string q.s, .string q.t, .string q.i, .slice q.lo q.ll q.lc]] w fun e w' => RetB (condR (evalE D ex) u) e ∧ Below w.heap.size w w' := by
  obtain ⟨b1, zz, k1, k2⟩ := ev2 w (.cells #[.string D.p.t, .string D.p.i, .string D.a.t, .string D.a.i, .string D.r.t, .string D.r.i] 30) (.cells #[.bool u, .int .i64 q.k, .bool q.b, .int .i64 q.n, .string q.s, .string q.t, .string q.i, .slice q.lo q.ll q.lc] 56)
  have CO := expr13_any glo gs N c D ex q _ hN (hE.below b1) (liftX hq b1) hok
  clear hE hN zz hq hok
  generalize evalE D ex = r at *
  go_enter Tryz.func24, Tryz.ntmps24
  go_upto_region 1 with fail
  generalize (w.alloc _).alloc _ = w1 at *
  have cr0 : w1.cell? ⟨w.heap.size, 0, none⟩ = some (.string D.p.t) := by rw [Lib.cell_of_heap k1]; rfl
  have cr1 : w1.cell? ⟨w.heap.size, 1, none⟩ = some (.string D.p.i) := by rw [Lib.cell_of_heap k1]; rfl
  have cr2 : w1.cell? ⟨w.heap.size, 2, none⟩ = some (.string D.a.t) := by rw [Lib.cell_of_heap k1]; rfl
  have cr3 : w1.cell? ⟨w.heap.size, 3, none⟩ = some (.string D.a.i) := by rw [Lib.cell_of_heap k1]; rfl
  have cr4 : w1.cell? ⟨w.heap.size, 4, none⟩ = some (.string D.r.t) := by rw [Lib.cell_of_heap k1]; rfl
  have cr5 : w1.cell? ⟨w.heap.size, 5, none⟩ = some (.string D.r.i) := by rw [Lib.cell_of_heap k1]; rfl
  have cc0 : w1.cell? ⟨w.heap.size + 1, 0, none⟩ = some (.bool u) := by rw [Lib.cell_of_heap k2]; rfl
  have cc1 : w1.cell? ⟨w.heap.size + 1, 1, none⟩ = some (.int .i64 q.k) := by rw [Lib.cell_of_heap k2]; rfl
  have cc2 : w1.cell? ⟨w.heap.size + 1, 2, none⟩ = some (.bool q.b) := by rw [Lib.cell_of_heap k2]; rfl
  have cc3 : w1.cell? ⟨w.heap.size + 1, 3, none⟩ = some (.int .i64 q.n) := by rw [Lib.cell_of_heap k2]; rfl
  have cc4 : w1.cell? ⟨w.heap.size + 1, 4, none⟩ = some (.string q.s) := by rw [Lib.cell_of_heap k2]; rfl
  have cc5 : w1.cell? ⟨w.heap.size + 1, 5, none⟩ = some (.string q.t) := by rw [Lib.cell_of_heap k2]; rfl
  have cc6 : w1.cell? ⟨w.heap.size + 1, 6, none⟩ = some (.string q.i) := by rw [Lib.cell_of_heap k2]; rfl
  have cc7 : w1.cell? ⟨w.heap.size + 1, 7, none⟩ = some (.slice q.lo q.ll q.lc) := by rw [Lib.cell_of_heap k2]; rfl
  go_wp2_with fail
  refine CO.mono ?_
  clear CO
  rintro e w3 ⟨⟨R, kk, rfl, hm⟩, b3⟩
  have B3 := b1.trans (b3.mono b1.size)
  have k23 := kept_of_below b3 k2
  clear cr0 cr1 cr2 cr3 cr4 cr5 cc0 cc1 cc2 cc3 cc4 cc5 cc6 cc7 k1
  have b4 := ev1 w3 (.cells #[.int .i64 R.k, .bool R.b, .int .i64 R.n, .string R.s, .string R.t, .string R.i, .slice R.lo R.ll R.lc] 74)
  have h4 := alloc_heap w3 (.cells #[.int .i64 R.k, .bool R.b, .int .i64 R.n, .string R.s, .string R.t, .string R.i, .slice R.lo R.ll R.lc] 74)
  have B4 := B3.trans (b4.mono B3.size)
  have k24 := kept_of_below b4 k23
  go_upto_region 2 with fail
  generalize w3.alloc _ = w4 at *
  cases r with
  | inr x =>
    obtain ⟨rfl, hx, hR⟩ : kk = x ∧ x ≠ 0 ∧ R = zero7 := hm
    have gx : (kk != 0) = true := by simpa using hx
    have HX := hide hx
    clear hx hR h4 k24
    go_wp2
    go_ret2
    exact ⟨⟨_, _, rfl, rfl, unhide HX, rfl⟩, B4⟩
  | inl g =>
    obtain ⟨rfl, hg, _⟩ : kk = 0 ∧ IsG w3 g R ∧ okEG g := hm
    rcases gv_bool g with ⟨y, rfl⟩ | hno
    · have hg : R = ofP (.bool y) := hg
      subst hg
      have d0 : w4.cell? ⟨w3.heap.size, 0, none⟩ = some (.int .i64 1) := by rw [Lib.cell_of_heap h4]; rfl
      have d1 : w4.cell? ⟨w3.heap.size, 1, none⟩ = some (.bool y) := by rw [Lib.cell_of_heap h4]; rfl
      have d2 : w4.cell? ⟨w.heap.size + 1, 0, none⟩ = some (.bool u) := by rw [Lib.cell_of_heap k24]; rfl
      clear h4 k24
      go_wp2
      go_ret2
      exact ⟨⟨_, _, rfl, rfl, rfl⟩, B4⟩
    · have hk := isG_no hg hno
      have gk : (R.k != 1) = true := by simpa using hk
      have d0 : w4.cell? ⟨w3.heap.size, 0, none⟩ = some (.int .i64 R.k) := by rw [Lib.cell_of_heap h4]; rfl
      have HT := hide (truC_no hno)
      clear hk hno hg h4 k24
      go_wp2
      go_ret2
      refine ⟨⟨_, _, rfl, ?_⟩, B4⟩
      unfold condR
      rw [unhide HT]
      exact ⟨rfl, by decide, rfl⟩

theorem RB.b_le {r : Bool ⊕ Int} {b : Bool} {k : Int} (h : RB r b k) (h1 : k ≠ 0 ∨ b = false) : (∃ e, r = .inr e ∧ k = e ∧ e ≠ 0 ∧ b = false) ∨ (r = .inl false ∧ k = 0 ∧ b = false) := by
  cases r with
  | inl x =>
    obtain ⟨rfl, rfl⟩ : k = 0 ∧ b = x := h
    rcases h1 with h1 | h1
    · exact absurd rfl h1
    · subst h1
      exact .inr ⟨rfl, rfl, rfl⟩
  | inr e =>
    obtain ⟨rfl, h2, rfl⟩ : k = e ∧ e ≠ 0 ∧ b = false := h
    exact .inl ⟨k, rfl, rfl, h2, rfl⟩

set_option maxHeartbeats 8000000 in
set_option maxRecDepth 1000000 in
theorem dOne_any (glo : Option Addr) (gs : List E4) (N c : Nat) (D : EvD) (p : PolD) (lo : Option Addr) (n cap : Nat) (w : World) (hN : N = gs.length) (hE : EW w glo gs D) (hn : p.cs.length = n) (hn1 : n ≤ 100000) (hr : RowCd w lo p.cs) (hok : ∀ x ∈ p.cs, okEv x.2 = true) :
    Calls Tryz.prog 11 #[.slice glo N c, .agg #[.string D.p.t, .string D.p.i, .string D.a.t, .string D.a.i, .string D.r.t, .string D.r.i], .agg #[.bool p.f, .int .i64 p.p.k, .string p.p.u.t, .string p.p.u.i, .int .i64 p.a.k, .string p.a.u.t, .string p.a.u.i, .int .i64 p.r.k, .string p.r.u.t, .string p.r.u.i, .slice lo n cap]] w fun e w' => RetB (dcOne D p) e ∧ Below w.heap.size w w' := by
  obtain ⟨b1, zz, k1, k2⟩ := ev2 w (.cells #[.string D.p.t, .string D.p.i, .string D.a.t, .string D.a.i, .string D.r.t, .string D.r.i] 30) (.cells #[.bool p.f, .int .i64 p.p.k, .string p.p.u.t, .string p.p.u.i, .int .i64 p.a.k, .string p.a.u.t, .string p.a.u.i, .int .i64 p.r.k, .string p.r.u.t, .string p.r.u.i, .slice lo n cap] 46)
  have CS := inScs_any glo gs N c D p (.slice lo n cap) _ hN (hE.below b1)
  have HN := hide hn
  have HNG := hide hN
  have HE := hide hE
  have HR := hide hr
  have HK := hide hok
  clear hE hN hn hr hok
  unfold dcOne
  generalize scsC D p = sx at *
  go_enter Tryz.func11, Tryz.ntmps11
  go_upto_region 1 with fail
  generalize hw1 : (w.alloc _).alloc _ = w1 at *
  clear hw1
  have hs1 : w.heap.size + 1 < w1.heap.size := by omega
  have cr0 : w1.cell? ⟨w.heap.size, 0, none⟩ = some (.string D.p.t) := by rw [Lib.cell_of_heap k1]; rfl
  have cr1 : w1.cell? ⟨w.heap.size, 1, none⟩ = some (.string D.p.i) := by rw [Lib.cell_of_heap k1]; rfl
  have cr2 : w1.cell? ⟨w.heap.size, 2, none⟩ = some (.string D.a.t) := by rw [Lib.cell_of_heap k1]; rfl
  have cr3 : w1.cell? ⟨w.heap.size, 3, none⟩ = some (.string D.a.i) := by rw [Lib.cell_of_heap k1]; rfl
  have cr4 : w1.cell? ⟨w.heap.size, 4, none⟩ = some (.string D.r.t) := by rw [Lib.cell_of_heap k1]; rfl
  have cr5 : w1.cell? ⟨w.heap.size, 5, none⟩ = some (.string D.r.i) := by rw [Lib.cell_of_heap k1]; rfl
  have cp0 : w1.cell? ⟨w.heap.size + 1, 0, none⟩ = some (.bool p.f) := by rw [Lib.cell_of_heap k2]; rfl
  have cp1 : w1.cell? ⟨w.heap.size + 1, 1, none⟩ = some (.int .i64 p.p.k) := by rw [Lib.cell_of_heap k2]; rfl
  have cp2 : w1.cell? ⟨w.heap.size + 1, 2, none⟩ = some (.string p.p.u.t) := by rw [Lib.cell_of_heap k2]; rfl
  have cp3 : w1.cell? ⟨w.heap.size + 1, 3, none⟩ = some (.string p.p.u.i) := by rw [Lib.cell_of_heap k2]; rfl
  have cp4 : w1.cell? ⟨w.heap.size + 1, 4, none⟩ = some (.int .i64 p.a.k) := by rw [Lib.cell_of_heap k2]; rfl
  have cp5 : w1.cell? ⟨w.heap.size + 1, 5, none⟩ = some (.string p.a.u.t) := by rw [Lib.cell_of_heap k2]; rfl
  have cp6 : w1.cell? ⟨w.heap.size + 1, 6, none⟩ = some (.string p.a.u.i) := by rw [Lib.cell_of_heap k2]; rfl
  have cp7 : w1.cell? ⟨w.heap.size + 1, 7, none⟩ = some (.int .i64 p.r.k) := by rw [Lib.cell_of_heap k2]; rfl
  have cp8 : w1.cell? ⟨w.heap.size + 1, 8, none⟩ = some (.string p.r.u.t) := by rw [Lib.cell_of_heap k2]; rfl
  have cp9 : w1.cell? ⟨w.heap.size + 1, 9, none⟩ = some (.string p.r.u.i) := by rw [Lib.cell_of_heap k2]; rfl
  have cp10 : w1.cell? ⟨w.heap.size + 1, 10, none⟩ = some (.slice lo n cap) := by rw [Lib.cell_of_heap k2]; rfl
  go_wp2_with fail
  refine CS.mono ?_
  clear CS
  rintro e w3 ⟨rfl, b3⟩
  have B3 := b1.trans (b3.mono b1.size)
  have k13 := kept_of_below b3 k1
  have k23 := kept_of_below b3 k2
  have hs3 : w.heap.size + 1 < w3.heap.size := Nat.lt_of_lt_of_le hs1 b3.size
  clear k1 k2 cr0 cr1 cr2 cr3 cr4 cr5 cp0 cp1 cp2 cp3 cp4 cp5 cp6 cp7 cp8 cp9 cp10
  cases sx with
  | false =>
    go_wp2
    go_ret2
    exact ⟨⟨_, _, rfl, rfl, rfl⟩, B3⟩
  | true =>
    have ck : w3.cell? ⟨w.heap.size + 1, 10, none⟩ = some (.slice lo n cap) := by rw [Lib.cell_of_heap k23]; rfl
    clear k23
    go_wp2
    go_loopw [20] (fun iv wr => ∃ j : Nat, j ≤ n ∧ iv = .int .i64 j ∧ Below w3.heap.size w3 wr ∧ Hid (condsC D p.cs = condsC D (p.cs.drop j))) (fun iv _ => n - (intOf iv).toNat)
    case atStart => exact ⟨0, by omega, rfl, Below.refl _ _, hide (by rw [List.drop_zero])⟩
    case round =>
      obtain ⟨j, hj, rfl, hbw, HC⟩ := hrel
      have bw := B3.trans (hbw.mono B3.size)
      by_cases hlt : j < n
      · have i1 : (j : Int) < (n : Int) := by omega
        have hlt' : j < p.cs.length := by rw [unhide HN]; exact hlt
        obtain ⟨rk, g, off, rfl, hg, h7, hxk⟩ := unhide HR j hlt'
        have h7 := h7.below bw hg
        have hdrop := condsC_drop D p.cs j hlt'
        have hokj := unhide HK p.cs[j] (List.getElem_mem hlt')
        obtain ⟨u, hu⟩ : ∃ u, u = p.cs[j].1 := ⟨_, rfl⟩
        obtain ⟨ex, hex⟩ : ∃ ex, ex = p.cs[j].2 := ⟨_, rfl⟩
        rw [← hu, ← hex] at hdrop
        rw [← hu] at h7
        rw [← hex] at hxk hokj
        have HD := hide hdrop
        have b4 := ev1 wr (.cells #[.bool u, .int .i64 rk.k, .bool rk.b, .int .i64 rk.n, .string rk.s, .string rk.t, .string rk.i, .slice rk.lo rk.ll rk.lc] 56)
        have h4 := alloc_heap wr (.cells #[.bool u, .int .i64 rk.k, .bool rk.b, .int .i64 rk.n, .string rk.s, .string rk.t, .string rk.i, .slice rk.lo rk.ll rk.lc] 56)
        have B4 := bw.trans (b4.mono bw.size)
        have CM := meets_any glo gs N c D u ex rk _ (unhide HNG) ((unhide HE).below B4) (liftX hxk B4) hokj
        clear hdrop hu hex hxk hokj
        have hbs := hbw.size
        have kr := kept_of_below (hbw.trans (b4.mono hbw.size)) k13
        obtain ⟨a0, a1, a2, a3, a4, a5, a6, a7⟩ := h7
        go_upto_region 6 with fail
        clear a0 a1 a2 a3 a4 a5 a6 a7
        generalize wr.alloc _ = w4 at *
        have cr0 : w4.cell? ⟨w.heap.size, 0, none⟩ = some (.string D.p.t) := by rw [Lib.cell_of_heap kr]; rfl
        have cr1 : w4.cell? ⟨w.heap.size, 1, none⟩ = some (.string D.p.i) := by rw [Lib.cell_of_heap kr]; rfl
        have cr2 : w4.cell? ⟨w.heap.size, 2, none⟩ = some (.string D.a.t) := by rw [Lib.cell_of_heap kr]; rfl
        have cr3 : w4.cell? ⟨w.heap.size, 3, none⟩ = some (.string D.a.i) := by rw [Lib.cell_of_heap kr]; rfl
        have cr4 : w4.cell? ⟨w.heap.size, 4, none⟩ = some (.string D.r.t) := by rw [Lib.cell_of_heap kr]; rfl
        have cr5 : w4.cell? ⟨w.heap.size, 5, none⟩ = some (.string D.r.i) := by rw [Lib.cell_of_heap kr]; rfl
        have cc0 : w4.cell? ⟨wr.heap.size, 0, none⟩ = some (.bool u) := by rw [Lib.cell_of_heap h4]; rfl
        have cc1 : w4.cell? ⟨wr.heap.size, 1, none⟩ = some (.int .i64 rk.k) := by rw [Lib.cell_of_heap h4]; rfl
        have cc2 : w4.cell? ⟨wr.heap.size, 2, none⟩ = some (.bool rk.b) := by rw [Lib.cell_of_heap h4]; rfl
        have cc3 : w4.cell? ⟨wr.heap.size, 3, none⟩ = some (.int .i64 rk.n) := by rw [Lib.cell_of_heap h4]; rfl
        have cc4 : w4.cell? ⟨wr.heap.size, 4, none⟩ = some (.string rk.s) := by rw [Lib.cell_of_heap h4]; rfl
        have cc5 : w4.cell? ⟨wr.heap.size, 5, none⟩ = some (.string rk.t) := by rw [Lib.cell_of_heap h4]; rfl
        have cc6 : w4.cell? ⟨wr.heap.size, 6, none⟩ = some (.string rk.i) := by rw [Lib.cell_of_heap h4]; rfl
        have cc7 : w4.cell? ⟨wr.heap.size, 7, none⟩ = some (.slice rk.lo rk.ll rk.lc) := by rw [Lib.cell_of_heap h4]; rfl
        go_wp2_with fail
        refine CM.mono ?_
        clear CM
        rintro e w5 ⟨⟨b, kk, rfl, hrb⟩, b5⟩
        clear cr0 cr1 cr2 cr3 cr4 cr5 cc0 cc1 cc2 cc3 cc4 cc5 cc6 cc7 h4 kr
        have B35 := (hbw.trans (b4.mono hbw.size)).trans (b5.mono (by have := b4.size; omega))
        have HRB := hide hrb
        by_cases hk : kk = 0
        · subst hk
          cases b with
          | false =>
            clear hrb
            go_wp2
            go_ret2
            refine ⟨⟨_, _, rfl, ?_⟩, B3.trans (B35.mono B3.size)⟩
            show RB (condsC D p.cs) false 0
            rw [unhide HC, unhide HD]
            rcases (unhide HRB).b_le (.inr rfl) with ⟨e, he, hk, h0, _⟩ | ⟨he, _, _⟩
            · exact absurd hk.symm h0
            · rw [he]
              exact ⟨rfl, rfl⟩
          | true =>
            clear hrb
            go_wp2
            go_roundw
            case rel =>
              refine ⟨j + 1, by omega, by go_num, B35, hide ?_⟩
              rw [unhide HC, unhide HD]
              have h := unhide HRB
              generalize condR (evalE D ex) u = cr at h
              cases cr with
              | inl x =>
                obtain ⟨_, rfl⟩ : (0 : Int) = 0 ∧ true = x := h
                rfl
              | inr e =>
                obtain ⟨_, _, h⟩ : (0 : Int) = e ∧ e ≠ 0 ∧ true = false := h
                cases h
            case measure =>
              simp only [intOf]
              omega
        · have gk : (kk != 0) = true := by simpa using hk
          have HK0 := hide hk
          clear hk hrb
          go_wp2
          go_ret2
          refine ⟨⟨_, _, rfl, ?_⟩, B3.trans (B35.mono B3.size)⟩
          show RB (condsC D p.cs) false kk
          rw [unhide HC, unhide HD]
          rcases (unhide HRB).b_le (.inl (unhide HK0)) with ⟨e, he, hk, h0, _⟩ | ⟨_, hk, _⟩
          · rw [he]
            exact ⟨hk, h0, rfl⟩
          · exact absurd hk (unhide HK0)
      · obtain rfl : j = n := by omega
        have i1 : ¬ (j : Int) < (j : Int) := by omega
        have hfin : p.cs.drop j = [] := by rw [← unhide HN]; exact List.drop_length
        have HF := hide hfin
        clear hfin
        go_wp2
        go_ret2
        refine ⟨⟨_, _, rfl, ?_⟩, bw⟩
        show RB (condsC D p.cs) true 0
        rw [unhide HC, unhide HF]
        exact ⟨rfl, rfl⟩
end Go.Proofs.YtldmfdkmkjiabaaGreat

namespace Go.Proofs.YtldmfdkmkjiabaaGreat
open Go.RowKit Go.Sort

/-- What becomes of a policy: 0 permits and holds, 1 forbids and holds, 2 errs, 3 holds not. -/
def clsD (D : EvD) (p : PolD) : Nat := match dcOne D p with
  | .inl true => if p.f then 1 else 0
  | .inl false => 3
  | .inr _ => 2
def tlyD (D : EvD) (l : List (ByteArray × PolD)) (i : Nat) : List ByteArray := (l.filter fun x => decide (clsD D x.2 = i)).map Prod.fst
theorem tlyD_take (D : EvD) (l : List (ByteArray × PolD)) (j i : Nat) (hj : j < l.length) : tlyD D (l.take (j + 1)) i = tlyD D (l.take j) i ++ (if clsD D l[j].2 = i then [l[j].1] else []) := by
  unfold tlyD
  rw [List.take_succ_eq_append_getElem hj, List.filter_append, List.map_append]
  congr 1
  by_cases h : clsD D l[j].2 = i
  · rw [if_pos h, List.filter_cons_of_pos (by simpa using h)]
    rfl
  · rw [if_neg h, List.filter_cons_of_neg (by simpa using h)]
    rfl
theorem tlyD_len (D : EvD) (l : List (ByteArray × PolD)) (i : Nat) : (tlyD D l i).length ≤ l.length := by
  unfold tlyD
  rw [List.length_map]
  exact List.length_filter_le _ _
def strsV (l : List ByteArray) : List Value := l.map Value.string
/-- A row of texts. -/
def RowSt (w : World) (ao : Option Addr) (l : List ByteArray) : Prop := RowG w ao 1 (l.map fun s => [Value.string s])
theorem flat_one (l : List ByteArray) : (l.map fun s => [Value.string s]).flatten = strsV l := by
  induction l with
  | nil => rfl
  | cons a t ih => rw [List.map_cons, List.flatten_cons, ih]; rfl
theorem own_rowSt {w : World} {B : Nat} {v : Value} {l : List ByteArray} (h : w.ownsRow B 9 1 v l.length (strsV l)) : ∃ ao cap, v = .slice ao l.length cap ∧ RowSt w ao l ∧ ∀ ad, ao = some ad → ad.off = 0 := by
  have h' : w.ownsRow B 9 1 v (l.map fun s => [Value.string s]).length (l.map fun s => [Value.string s]).flatten := by rw [List.length_map, flat_one]; exact h
  obtain ⟨ao, cap, hv, hr, _, h4⟩ := rowG_ownE (fun c hc => by obtain ⟨s, _, rfl⟩ := List.mem_map.1 hc; rfl) h'
  rw [List.length_map] at hv
  exact ⟨ao, cap, hv, hr, fun ad h => (h4 ad h).1⟩
theorem own_keptS {w w' : World} {B : Nat} {T : TypeId} {z : Nat} {v : Value} {m : Nat} {xs : List Value} (h : w.ownsRow B T z v m xs) (hk : ∀ g, v.ownBlock = some g → g < w.heap.size → w'.heap[g]? = w.heap[g]?) : w'.ownsRow B T z v m xs := by
  refine ⟨h.1, h.2.imp id ?_⟩
  rintro ⟨g, cap, cur, h1, h2, h3, h4⟩
  exact ⟨g, cap, cur, h1, h2, (hk g (by rw [h1]; rfl) (Array.getElem?_eq_some_iff.1 h3).1).trans h3, h4⟩
theorem own_notS {w : World} {B n k K : Nat} {T KT : TypeId} {v : Value} {xs : List Value} {cs : Array Value} {fz : Nat × Nat} (hT : T ≠ KT) (h : w.ownsRow B T n v k xs) (hk : w.heap[K]? = some (.cells cs KT fz)) : v.ownBlock ≠ some K := fun e => by
  rcases h.2 with ⟨hv, _⟩ | ⟨g, cap, cur, hv, _, hg, _⟩
  · rw [hv] at e
    cases e
  · rw [hv] at e
    have e : g = K := by simpa [Value.ownBlock] using e
    rw [e, hk] at hg
    injection hg with hg
    injection hg with _ h3
    exact hT h3.symm
def updV (V : Nat → Value) (i : Nat) (v : Value) : Nat → Value := fun k => if k = i then v else V k

/-- While policies are counted: the tally in its block T, its three rows. -/
structure CntS (w wr : World) (T : Nat) (D : EvD) (l : List (ByteArray × PolD)) (j : Nat) (V : Nat → Value) : Prop where
  below : Below w.heap.size w wr
  tly : wr.heap[T]? = some (.cells #[V 0, V 1, V 2] 89 (0, 0))
  own : ∀ i, i < 3 → wr.ownsRow w.heap.size 9 1 (V i) (tlyD D (l.take j) i).length (strsV (tlyD D (l.take j) i))
  apart : ∀ i k, i < 3 → k < 3 → i ≠ k → ∀ g, (V i).ownBlock = some g → (V k).ownBlock ≠ some g
theorem CntS.cell {w wr : World} {T : Nat} {D : EvD} {l : List (ByteArray × PolD)} {j : Nat} {V : Nat → Value} (h : CntS w wr T D l j V) (i : Nat) (hi : i < 3) : wr.cell? ⟨T, i, none⟩ = some (V i) := by
  rw [Lib.cell_of_heap h.tly]
  match i, hi with
  | 0, _ => rfl
  | 1, _ => rfl
  | 2, _ => rfl
theorem CntS.on {w wr w' : World} {T : Nat} {D : EvD} {l : List (ByteArray × PolD)} {j : Nat} {V : Nat → Value} (h : CntS w wr T D l j V) (hb : Below wr.heap.size wr w') : CntS w w' T D l j V :=
  ⟨h.below.trans (hb.mono h.below.size), (hb.block T (Array.getElem?_eq_some_iff.1 h.tly).1).trans h.tly, fun i hi => own_keptS (h.own i hi) fun g _ hg => hb.block g hg, h.apart⟩
theorem CntS.skip {w wr : World} {T : Nat} {D : EvD} {l : List (ByteArray × PolD)} {j : Nat} {V : Nat → Value} (h : CntS w wr T D l j V) (hj : j < l.length) (hc : clsD D l[j].2 = 3) : CntS w wr T D l (j + 1) V := by
  refine ⟨h.below, h.tly, fun i hi => ?_, h.apart⟩
  rw [tlyD_take D l j i hj, if_neg (by omega), List.append_nil]
  exact h.own i hi
/-- One name more, behind the i-th row. -/
theorem CntS.next {w wr w6 : World} {T : Nat} {D : EvD} {l : List (ByteArray × PolD)} {j : Nat} {V : Nat → Value} (i : Nat) (hi : i < 3) (h : CntS w wr T D l j V) (hT : w.heap.size ≤ T) (hj : j < l.length) (hc : clsD D l[j].2 = i) {v6 : Value}
    (hown : w6.ownsRow w.heap.size 9 1 v6 ((tlyD D (l.take j) i).length + 1) (strsV (tlyD D (l.take j) i) ++ [.string l[j].1])) (hg : wr.grownBy w6 (V i).ownBlock) (hat : v6.ownBlock = (V i).ownBlock ∨ v6.ownBlock = some wr.heap.size) :
    CntS w (w6.setCell ⟨T, i, none⟩ v6) T D l (j + 1) (updV V i v6) := by
  have hTs := (Array.getElem?_eq_some_iff.1 h.tly).1
  have hlt : ∀ k, k < 3 → ∀ g, (V k).ownBlock = some g → g < wr.heap.size := fun k hk g e => ((h.own k hk).lt g e).2
  have hnT : ∀ k, k < 3 → (V k).ownBlock ≠ some T := fun k hk => own_notS (show 9 ≠ 89 by decide) (h.own k hk) h.tly
  have hT6 : w6.heap[T]? = some (.cells #[V 0, V 1, V 2] 89 (0, 0)) := (hg.block T hTs (fun e => hnT i hi e.symm)).trans h.tly
  have hn6 : v6.ownBlock ≠ some T := own_notS (show 9 ≠ 89 by decide) hown hT6
  have hset := heap_setCell_same w6 T i #[V 0, V 1, V 2] 89 v6 hT6
  have hne : ∀ k, k < 3 → k ≠ i → ∀ g, (V k).ownBlock = some g → v6.ownBlock ≠ some g := fun k hk hki g e e6 => by
    rcases hat with ha | ha
    · exact h.apart k i hk hi hki g e (ha ▸ e6)
    · rw [ha] at e6
      injection e6 with e6
      have := hlt k hk g e
      omega
  refine ⟨?_, ?_, fun k hk => ?_, fun k m hk hm hkm g => ?_⟩
  · refine ((h.below.grown hg h.below.size fun k e => ((h.own i hi).lt k e).1)).setCell (p := ⟨T, i, none⟩) hT _
  · rw [hset]
    match i, hi with
    | 0, _ => rfl
    | 1, _ => rfl
    | 2, _ => rfl
  · rw [tlyD_take D l j k hj]
    unfold updV
    by_cases hki : k = i
    · subst hki
      rw [if_pos rfl, if_pos hc, List.length_append, show strsV (tlyD D (l.take j) k ++ [l[j].1]) = strsV (tlyD D (l.take j) k) ++ [.string l[j].1] by unfold strsV; rw [List.map_append]; rfl]
      refine own_keptS hown fun g e _ => Below.heap_setCell w6 ⟨T, k, none⟩ v6 g (fun e2 => hn6 ?_)
      have e2 : g = T := e2
      rw [← e2]
      exact e
    · rw [if_neg hki, if_neg (by omega), List.append_nil]
      refine own_keptS (h.own k hk) fun g e hgl => ?_
      rw [Below.heap_setCell w6 ⟨T, i, none⟩ v6 g (fun e2 => hnT k hk ((show g = T from e2) ▸ e))]
      exact hg.block g hgl fun e2 => h.apart k i hk hi hki g e e2.symm
  · unfold updV
    by_cases hki : k = i
    · by_cases hmi : m = i
      · exact absurd (hki.trans hmi.symm) hkm
      · rw [if_pos hki, if_neg hmi]
        exact fun e e2 => hne m hm hmi g e2 e
    · by_cases hmi : m = i
      · rw [if_neg hki, if_pos hmi]
        exact fun e => hne k hk hki g e
      · rw [if_neg hki, if_neg hmi]
        exact h.apart k m hk hm hkm g

/-- The cells of a named policy. -/
def AtNm (w : World) (b o : Nat) (nm : ByteArray) (p : PolD) (sl : Value) : Prop :=
  w.cell? ⟨b, o, none⟩ = some (.string nm) ∧ w.cell? ⟨b, o + 1, none⟩ = some (.bool p.f) ∧ w.cell? ⟨b, o + 2, none⟩ = some (.int .i64 p.p.k) ∧ w.cell? ⟨b, o + 3, none⟩ = some (.string p.p.u.t) ∧ w.cell? ⟨b, o + 4, none⟩ = some (.string p.p.u.i) ∧ w.cell? ⟨b, o + 5, none⟩ = some (.int .i64 p.a.k) ∧ w.cell? ⟨b, o + 6, none⟩ = some (.string p.a.u.t) ∧ w.cell? ⟨b, o + 7, none⟩ = some (.string p.a.u.i) ∧ w.cell? ⟨b, o + 8, none⟩ = some (.int .i64 p.r.k) ∧ w.cell? ⟨b, o + 9, none⟩ = some (.string p.r.u.t) ∧ w.cell? ⟨b, o + 10, none⟩ = some (.string p.r.u.i) ∧ w.cell? ⟨b, o + 11, none⟩ = some sl
theorem AtNm.below {w w' : World} {B b o : Nat} {nm : ByteArray} {p : PolD} {sl : Value} (h : AtNm w b o nm p sl) (hb : Below B w w') (hl : b < B) : AtNm w' b o nm p sl := by
  obtain ⟨h0, h1, h2, h3, h4, h5, h6, h7, h8, h9, h10, h11⟩ := h
  exact ⟨(hb.cell (p := ⟨b, o, none⟩) hl).trans h0, (hb.cell (p := ⟨b, o + 1, none⟩) hl).trans h1, (hb.cell (p := ⟨b, o + 2, none⟩) hl).trans h2, (hb.cell (p := ⟨b, o + 3, none⟩) hl).trans h3, (hb.cell (p := ⟨b, o + 4, none⟩) hl).trans h4, (hb.cell (p := ⟨b, o + 5, none⟩) hl).trans h5, (hb.cell (p := ⟨b, o + 6, none⟩) hl).trans h6, (hb.cell (p := ⟨b, o + 7, none⟩) hl).trans h7, (hb.cell (p := ⟨b, o + 8, none⟩) hl).trans h8, (hb.cell (p := ⟨b, o + 9, none⟩) hl).trans h9, (hb.cell (p := ⟨b, o + 10, none⟩) hl).trans h10, (hb.cell (p := ⟨b, o + 11, none⟩) hl).trans h11⟩
/-- A slice of named policies. -/
def RowNm (w : World) (lo : Option Addr) (l : List (ByteArray × PolD)) : Prop :=
  ∀ j (hj : j < l.length), ∃ b off so sc, lo = some ⟨b, off, none⟩ ∧ b < w.heap.size ∧ AtNm w b (off + j * 12) l[j].1 l[j].2 (.slice so l[j].2.cs.length sc) ∧ RowCd w so l[j].2.cs
theorem RowNm.below {w w' : World} {lo : Option Addr} {l : List (ByteArray × PolD)} (h : RowNm w lo l) (hb : Below w.heap.size w w') : RowNm w' lo l := by
  intro j hj
  obtain ⟨b, off, so, sc, e, hl, h8, hx⟩ := h j hj
  exact ⟨b, off, so, sc, e, Nat.lt_of_lt_of_le hl hb.size, h8.below hb hl, hx.below hb⟩
/-- Policies such as are counted. -/
def okNm (l : List (ByteArray × PolD)) : Prop := ∀ x ∈ l, x.2.cs.length ≤ 100000 ∧ ∀ c ∈ x.2.cs, okEv c.2 = true
end Go.Proofs.YtldmfdkmkjiabaaGreat
