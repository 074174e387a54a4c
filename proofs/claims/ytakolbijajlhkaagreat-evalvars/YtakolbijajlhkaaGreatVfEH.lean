/-
  value.Less and Same of any values such as may be.
  value.Holds of a set and any value.
-/
import Derived.Test.YtakolbijajlhkaaGreatVcST
import Derived.Test.YtakolbijajlhkaaGreatVfAll
namespace Go.Proofs.YtakolbijajlhkaaGreat
open Go.RowKit Go.Sort

def cmpG : GV → GV → Int
  | .pl a, .pl b => cmpP a b
  | .pl a, .set _ => cmpI a.kind 5
  | .set _, .pl b => cmpI 5 b.kind
  | .set l, .set m => cmpL l m

def smallG : GV → Prop
  | .pl _ => True
  | .set l => l.length ≤ 1048576

theorem cmpP_cases (a b : PV) : (lessP a b = true ∧ cmpP a b = -1 ∧ lessP b a = false ∧ a ≠ b) ∨ (a = b ∧ cmpP a b = 0) ∨ (lessP b a = true ∧ cmpP a b = 1 ∧ lessP a b = false ∧ a ≠ b) := by
  have hn : ∀ {p q : PV}, lessP p q = true → p ≠ q := fun h e => by rw [e, sto_lessP.irr] at h; cases h
  have ha : ∀ {p q : PV}, lessP p q = true → lessP q p = false := fun {p q} h => by
    cases h' : lessP q p
    · rfl
    · have := sto_lessP.trans _ _ _ h h'
      rw [sto_lessP.irr] at this
      cases this
  rcases sto_lessP.tri a b with h | h | h
  · exact .inl ⟨h, by simp [cmpP, h], ha h, hn h⟩
  · subst h
    exact .inr (.inl ⟨rfl, by simp [cmpP, sto_lessP.irr]⟩)
  · exact .inr (.inr ⟨h, by simp [cmpP, h, ha h], ha h, fun e => hn h e.symm⟩)

theorem cmpL_less : ∀ l m : List PV, decide (cmpL l m < 0) = lexL lessP l m
  | [], [] => rfl
  | [], _ :: _ => rfl
  | _ :: _, [] => rfl
  | a :: l, b :: m => by
    have ih := cmpL_less l m
    rcases cmpP_cases a b with ⟨h1, h2, h3, _⟩ | ⟨rfl, h2⟩ | ⟨h1, h2, h3, _⟩
    · simp [cmpL, lexL, h1, h2]
    · simp [cmpL, lexL, h2, sto_lessP.irr, ← ih]
    · simp [cmpL, lexL, h1, h2, h3]

theorem cmpL_same : ∀ l m : List PV, (cmpL l m == 0) = decide (l = m)
  | [], [] => rfl
  | [], _ :: _ => rfl
  | _ :: _, [] => rfl
  | a :: l, b :: m => by
    have ih := cmpL_same l m
    rcases cmpP_cases a b with ⟨_, h2, _, h⟩ | ⟨rfl, h2⟩ | ⟨_, h2, _, h⟩
    · simp [cmpL, h2, h]
    · simpa [cmpL, h2] using ih
    · simp [cmpL, h2, h]

theorem kind_le (p : PV) : (p.kind : Int) < 5 := by cases p <;> simp [PV.kind]

theorem cmpG_less (g h : GV) : decide (cmpG g h < 0) = lessG g h := by
  cases g with
  | pl a => cases h with
    | pl b => exact less_cmp a b
    | set m =>
      have := kind_le a
      simp [cmpG, lessG, cmpI, this]
  | set l => cases h with
    | pl b =>
      have := kind_le b
      have h2 : ¬ (5 : Int) < (b.kind : Int) := by omega
      simp [cmpG, lessG, cmpI, this, h2]
    | set m => exact cmpL_less l m

/-- Alike. -/
def sameG (g h : GV) : Bool := cmpG g h == 0

theorem sameG_iff (g h : GV) : sameG g h = true ↔ g = h := by
  unfold sameG
  cases g with
  | pl a => cases h with
    | pl b =>
      have := same_cmp a b
      show (cmpP a b == 0) = true ↔ _
      rw [this]
      simp
    | set m =>
      have := kind_le a
      simp [cmpG, cmpI, this]
  | set l => cases h with
    | pl b =>
      have := kind_le b
      have h2 : ¬ (5 : Int) < (b.kind : Int) := by omega
      simp [cmpG, cmpI, this, h2]
    | set m =>
      have := cmpL_same l m
      show (cmpL l m == 0) = true ↔ _
      rw [this]
      simp

theorem compare_G (g h : GV) (R R' : R7) (w : World) (hg : IsG w g R) (hh : IsG w h R') (sg : smallG g) (sh : smallG h) :
    Calls Tryz.prog 41 #[R.val, R'.val] w fun e w' => e = .returned (.int .i64 (cmpG g h)) ∧ Below w.heap.size w w' := by
  cases g with
  | pl a => cases h with
    | pl b =>
      cases hg
      cases hh
      exact compare_ofP a b w
    | set m =>
      cases hg
      obtain ⟨ao, c, rfl, _⟩ := hh
      have h5 := kind_le a
      have := compare_kinds (ofP a).k (ofP a).b (ofP a).n (ofP a).s (ofP a).t (ofP a).i (.slice (ofP a).lo (ofP a).ll (ofP a).lc) 5 false 0 (ba []) (ba []) (ba []) (.slice ao m.length c) (by rw [ofP_k]; omega) w
      rw [ofP_k] at this
      have e : (ofP a).val = val7 (a.kind : Int) (ofP a).b (ofP a).n (ofP a).s (ofP a).t (ofP a).i (.slice (ofP a).lo (ofP a).ll (ofP a).lc) := by rw [← ofP_k]; rfl
      rw [e]
      exact this
  | set l => cases h with
    | pl b =>
      cases hh
      obtain ⟨ao, c, rfl, _⟩ := hg
      have h5 := kind_le b
      have := compare_kinds 5 false 0 (ba []) (ba []) (ba []) (.slice ao l.length c) (ofP b).k (ofP b).b (ofP b).n (ofP b).s (ofP b).t (ofP b).i (.slice (ofP b).lo (ofP b).ll (ofP b).lc) (by rw [ofP_k]; omega) w
      rw [ofP_k] at this
      have e : (ofP b).val = val7 (b.kind : Int) (ofP b).b (ofP b).n (ofP b).s (ofP b).t (ofP b).i (.slice (ofP b).lo (ofP b).ll (ofP b).lc) := by rw [← ofP_k]; rfl
      rw [e]
      exact this
    | set m =>
      obtain ⟨ao, c, rfl, h1, _⟩ := hg
      obtain ⟨bo, d, rfl, h2, _⟩ := hh
      exact compare_sets l m ao bo c d w sg sh h1 h2

theorem same_G (g h : GV) (R R' : R7) (w : World) (hg : IsG w g R) (hh : IsG w h R') (sg : smallG g) (sh : smallG h) :
    Calls Tryz.prog 34 #[R.val, R'.val] w fun e w' => e = .returned (.bool (sameG g h)) ∧ Below w.heap.size w w' := by
  exact same_of R R' (cmpG g h) w (fun w' hb => compare_G g h R R' w' (hg.below hb) (hh.below hb) sg sh)

theorem smallG_good (r : RawE) (es : List RawE) : smallG (goodG r es) := by
  unfold goodG
  split
  · show (setOf lessP (goodL r.k es)).length ≤ 1048576
    have h1 := len_setOf_le (goodL r.k es)
    rw [goodL_len] at h1
    omega
  · trivial
end Go.Proofs.YtakolbijajlhkaaGreat

namespace Go.Proofs.YtakolbijajlhkaaGreat
open Go.RowKit Go.Sort

def hasG (l : List PV) (q : GV) : Bool := l.any fun p => sameG (.pl p) q
theorem hasG_cons (l : List PV) (q : GV) (j : Nat) (h : j < l.length) : hasG (l.drop j) q = (sameG (.pl l[j]) q || hasG (l.drop (j + 1)) q) := by
  unfold hasG
  rw [List.drop_eq_getElem_cons h, List.any_cons]

set_option maxHeartbeats 1000000 in
set_option maxRecDepth 1000000 in
theorem holdsFn_G (p : PV) (q : GV) (R : R7) (vb : Nat) (w : World) (hvb : vb < w.heap.size) (A : At7 w vb 0 R) (hq : IsG w q R) (sq : smallG q) :
    Calls Tryz.prog 53 #[(ofP p).val, .pointer (some ⟨vb, 0, none⟩)] w fun e w' => e = .returned (.bool (sameG (.pl p) q)) ∧ Below w.heap.size w w' := by
  have S := fun w' (hb : Below w.heap.size w w') => same_G (.pl p) q (ofP p) R w' rfl (hq.below hb) trivial sq
  generalize sameG (.pl p) q = x at *
  clear hq sq
  generalize ofP p = r at *
  unfold R7.val at *
  have b1 := below1 w (.cells #[.int .i64 r.k, .bool r.b, .int .i64 r.n, .string r.s, .string r.t, .string r.i, .slice r.lo r.ll r.lc] 37)
  obtain ⟨a0, a1, a2, a3, a4, a5, a6⟩ := A
  simp only [Nat.zero_add] at a1 a2 a3 a4 a5 a6
  go_enter Tryz.func53, Tryz.ntmps53
  go_wp2_with fail
  refine (S _ b1).mono ?_
  rintro e w2 ⟨rfl, b2⟩
  go_wp2
  go_ret
  exact ⟨rfl, b1.trans (b2.mono b1.size)⟩

set_option maxHeartbeats 2000000 in
set_option maxRecDepth 1000000 in
theorem indexFunc_G (l : List PV) (q : GV) (R : R7) (ao : Option Addr) (c vb : Nat) (w : World) (hl : l.length ≤ 1048576) (hr : RowV w ao (l.map ofP)) (hvb : vb < w.heap.size) (A : At7 w vb 0 R) (hq : IsG w q R) (sq : smallG q) :
    Calls Tryz.prog 67 #[.slice ao l.length c, .func (.func 53) #[] #[.pointer (some ⟨vb, 0, none⟩)]] w fun e w' => ∃ i : Int, e = .returned (.int .i64 i) ∧ (0 ≤ i ↔ hasG l q = true) ∧ Below w.heap.size w w' := by
  have HQ := hide hq
  have HS := hide sq
  clear hq sq
  go_enter Tryz.func67, Tryz.ntmps67
  go_wp2
  go_loopw [8] (fun iv wr => ∃ i : Nat, iv = .int .i64 i ∧ i ≤ l.length ∧ Below w.heap.size w wr ∧ (hasG l q = hasG (l.drop i) q)) (fun iv _ => l.length - (intOf iv).toNat)
  case atStart => exact ⟨0, by go_num, Nat.zero_le _, Below.refl _ _, by simp⟩
  case round =>
    obtain ⟨j, rfl, hj, hbw, hacc⟩ := hrel
    have Hacc := hide hacc
    clear hacc
    by_cases hlt : j < l.length
    · have i1 : (j : Int) < (l.length : Int) := by omega
      obtain ⟨b, off, rfl, B, hb⟩ := rowV_at hr hbw (j := j) (by rw [List.length_map]; exact hlt)
      rw [List.getElem_map] at B
      have F := holdsFn_G l[j] q R vb wr (by have := hbw.size; omega) (A.below hbw hvb) ((unhide HQ).below hbw) (unhide HS)
      have HC := hide (hasG_cons l q j hlt)
      obtain ⟨p, ep⟩ : ∃ p, p = l[j] := ⟨_, rfl⟩
      rw [← ep] at B F HC
      clear ep
      obtain ⟨x, hx⟩ : ∃ x, x = sameG (.pl p) q := ⟨_, rfl⟩
      rw [← hx] at F HC
      clear hx
      generalize ofP p = r at *
      unfold R7.val at F
      obtain ⟨a0, a1, a2, a3, a4, a5, a6⟩ := B
      go_wp2_with fail
      refine F.mono ?_
      rintro e w2 ⟨rfl, b2⟩
      have b3 := hbw.trans (b2.mono hbw.size)
      clear F
      cases x
      · go_wp2
        go_roundw
        case rel => exact ⟨j + 1, by go_num, by omega, b3, by rw [unhide Hacc, unhide HC]; rfl⟩
        case measure =>
          simp only [intOf]
          omega
      · go_wp2
        go_ret
        exact ⟨j, rfl, ⟨fun _ => by rw [unhide Hacc, unhide HC]; rfl, fun _ => by omega⟩, b3⟩
    · have i1 : ¬ (j : Int) < (l.length : Int) := by omega
      go_wp2
      go_ret
      refine ⟨-1, rfl, ⟨fun h => absurd h (by decide), fun h => ?_⟩, hbw⟩
      rw [unhide Hacc, List.drop_eq_nil_of_le (by omega)] at h
      cases h

set_option maxHeartbeats 2000000 in
set_option maxRecDepth 1000000 in
theorem containsFunc_G (l : List PV) (q : GV) (R : R7) (ao : Option Addr) (c vb : Nat) (w : World) (hl : l.length ≤ 1048576) (hr : RowV w ao (l.map ofP)) (hvb : vb < w.heap.size) (A : At7 w vb 0 R) (hq : IsG w q R) (sq : smallG q) :
    Calls Tryz.prog 52 #[.slice ao l.length c, .func (.func 53) #[] #[.pointer (some ⟨vb, 0, none⟩)]] w fun e w' => e = .returned (.bool (hasG l q)) ∧ Below w.heap.size w w' := by
  have I := indexFunc_G l q R ao c vb w hl hr hvb A hq sq
  clear hq sq
  go_enter Tryz.func52, Tryz.ntmps52
  go_wp2_with fail
  refine I.mono ?_
  rintro e w2 ⟨i, rfl, hi, b2⟩
  have Hi := hide hi
  clear hi I
  go_wp2
  go_ret
  refine ⟨?_, b2⟩
  have h := unhide Hi
  cases hx : hasG l q with
  | true =>
    have : 0 ≤ i := h.2 hx
    simp [this]
  | false =>
    have : ¬ 0 ≤ i := fun h0 => by rw [h.1 h0] at hx; cases hx
    simp [this]

set_option maxHeartbeats 2000000 in
set_option maxRecDepth 1000000 in
theorem holds_G (l : List PV) (q : GV) (r : R7) (ao : Option Addr) (c : Nat) (w : World) (hl : l.length ≤ 1048576) (hr : RowV w ao (l.map ofP)) (hq : IsG w q r) (sq : smallG q) :
    Calls Tryz.prog 32 #[(setR ao l.length c).val, r.val] w fun e w' => e = .returned (.bool (hasG l q)) ∧ Below w.heap.size w w' := by
  have C := contentOf_set ao l.length c
  have CF := fun vb w hr hvb A hq => containsFunc_G l q r ao c vb w hl hr hvb A hq sq
  have HQ := hide hq
  generalize hx : hasG l q = x at *
  clear hx hq sq
  obtain ⟨n, en⟩ : ∃ n, n = l.length := ⟨_, rfl⟩
  rw [← en] at C CF ⊢
  have T := ta_set
  have Hn := hide en
  clear en
  unfold setR R7.val
  unfold val7 conS at C
  go_enter Tryz.func32, Tryz.ntmps32
  go_wp2_with fail
  have b1 := below2 w (.cells #[.int .i64 5, .bool false, .int .i64 0, .string (ba []), .string (ba []), .string (ba []), .slice ao n c] 37) (.cells #[.int .i64 r.k, .bool r.b, .int .i64 r.n, .string r.s, .string r.t, .string r.i, .slice r.lo r.ll r.lc] 37)
  have A2 : At7 ((w.alloc (.cells #[.int .i64 5, .bool false, .int .i64 0, .string (ba []), .string (ba []), .string (ba []), .slice ao n c] 37)).alloc (.cells #[.int .i64 r.k, .bool r.b, .int .i64 r.n, .string r.s, .string r.t, .string r.i, .slice r.lo r.ll r.lc] 37)) (w.heap.size + 1) 0 r := by
    have := at7_new (w.alloc (.cells #[.int .i64 5, .bool false, .int .i64 0, .string (ba []), .string (ba []), .string (ba []), .slice ao n c] 37)) r
    rwa [size1] at this
  have z2 : ((w.alloc (.cells #[.int .i64 5, .bool false, .int .i64 0, .string (ba []), .string (ba []), .string (ba []), .slice ao n c] 37)).alloc (.cells #[.int .i64 r.k, .bool r.b, .int .i64 r.n, .string r.s, .string r.t, .string r.i, .slice r.lo r.ll r.lc] 37)).heap.size = w.heap.size + 2 := by simp
  refine (C _).mono ?_
  generalize (w.alloc _).alloc _ = w2 at *
  rintro e w3 ⟨rfl, b23⟩
  have b3 := b1.trans (b23.mono b1.size)
  have A3 := A2.below b23 (by omega)
  have z3 : w.heap.size + 1 < w3.heap.size := by have := b23.size; omega
  have CF3 := CF (w.heap.size + 1) w3 (hr.below b3) z3 A3 ((unhide HQ).below b3)
  clear CF C A2 A3
  go_wp2_with fail
  refine CF3.mono ?_
  rintro e w4 ⟨rfl, b34⟩
  go_wp2
  go_ret
  exact ⟨rfl, b3.trans (b34.mono b3.size)⟩
end Go.Proofs.YtakolbijajlhkaaGreat
