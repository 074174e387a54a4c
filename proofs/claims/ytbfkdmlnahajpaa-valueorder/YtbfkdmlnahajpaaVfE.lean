/-
  value.Less and Same of any values such as may be.
-/
import Derived.Test.YtbfkdmlnahajpaaVfD
import Derived.Test.YtbfkdmlnahajpaaVfC
namespace Go.Proofs.Ytbfkdmlnahajpaa
open Go.RowKit Go.Sort

def cmpG : GV → GV → Int
  | .pl a, .pl b => cmpP a b
  | .pl a, .set _ => cmpI a.kind 5
  | .set _, .pl b => cmpI 5 b.kind
  | .set l, .set m => cmpL l m

def smallG : GV → Prop
  | .pl _ => True
  | .set l => l.length ≤ 1048576

theorem cmpP_cases (a b : PV) : (lessP a b = true ∧ cmpP a b = -1 ∧ lessP b a = false ∧ a ≠ b) ∨ (a = b ∧ cmpP a b = 0) ∨ (lessP b a = true ∧ cmpP a b = 1 ∧ lessP a b = false ∧ a ≠ b) := by
  have hn : ∀ {p q : PV}, lessP p q = true → p ≠ q := fun h e => by rw [e, sto_lessP.irr] at h; cases h
  have ha : ∀ {p q : PV}, lessP p q = true → lessP q p = false := fun {p q} h => by
    cases h' : lessP q p
    · rfl
    · have := sto_lessP.trans _ _ _ h h'
      rw [sto_lessP.irr] at this
      cases this
  rcases sto_lessP.tri a b with h | h | h
  · exact .inl ⟨h, by simp [cmpP, h], ha h, hn h⟩
  · subst h
    exact .inr (.inl ⟨rfl, by simp [cmpP, sto_lessP.irr]⟩)
  · exact .inr (.inr ⟨h, by simp [cmpP, h, ha h], ha h, fun e => hn h e.symm⟩)

theorem cmpL_less : ∀ l m : List PV, decide (cmpL l m < 0) = lexL lessP l m
  | [], [] => rfl
  | [], _ :: _ => rfl
  | _ :: _, [] => rfl
  | a :: l, b :: m => by
    have ih := cmpL_less l m
    rcases cmpP_cases a b with ⟨h1, h2, h3, _⟩ | ⟨rfl, h2⟩ | ⟨h1, h2, h3, _⟩
    · simp [cmpL, lexL, h1, h2]
    · simp [cmpL, lexL, h2, sto_lessP.irr, ← ih]
    · simp [cmpL, lexL, h1, h2, h3]

theorem cmpL_same : ∀ l m : List PV, (cmpL l m == 0) = decide (l = m)
  | [], [] => rfl
  | [], _ :: _ => rfl
  | _ :: _, [] => rfl
  | a :: l, b :: m => by
    have ih := cmpL_same l m
    rcases cmpP_cases a b with ⟨_, h2, _, h⟩ | ⟨rfl, h2⟩ | ⟨_, h2, _, h⟩
    · simp [cmpL, h2, h]
    · simpa [cmpL, h2] using ih
    · simp [cmpL, h2, h]

theorem kind_le (p : PV) : (p.kind : Int) < 5 := by cases p <;> simp [PV.kind]

theorem cmpG_less (g h : GV) : decide (cmpG g h < 0) = lessG g h := by
  cases g with
  | pl a => cases h with
    | pl b => exact less_cmp a b
    | set m =>
      have := kind_le a
      simp [cmpG, lessG, cmpI, this]
  | set l => cases h with
    | pl b =>
      have := kind_le b
      have h2 : ¬ (5 : Int) < (b.kind : Int) := by omega
      simp [cmpG, lessG, cmpI, this, h2]
    | set m => exact cmpL_less l m

/-- Alike. -/
def sameG (g h : GV) : Bool := cmpG g h == 0

theorem sameG_iff (g h : GV) : sameG g h = true ↔ g = h := by
  unfold sameG
  cases g with
  | pl a => cases h with
    | pl b =>
      have := same_cmp a b
      show (cmpP a b == 0) = true ↔ _
      rw [this]
      simp
    | set m =>
      have := kind_le a
      simp [cmpG, cmpI, this]
  | set l => cases h with
    | pl b =>
      have := kind_le b
      have h2 : ¬ (5 : Int) < (b.kind : Int) := by omega
      simp [cmpG, cmpI, this, h2]
    | set m =>
      have := cmpL_same l m
      show (cmpL l m == 0) = true ↔ _
      rw [this]
      simp

theorem compare_G (g h : GV) (R R' : R7) (w : World) (hg : IsG w g R) (hh : IsG w h R') (sg : smallG g) (sh : smallG h) :
    Calls Try.prog 15 #[R.val, R'.val] w fun e w' => e = .returned (.int .i64 (cmpG g h)) ∧ Below w.heap.size w w' := by
  cases g with
  | pl a => cases h with
    | pl b =>
      cases hg
      cases hh
      exact compare_ofP a b w
    | set m =>
      cases hg
      obtain ⟨ao, c, rfl, _⟩ := hh
      have h5 := kind_le a
      have := compare_kinds (ofP a).k (ofP a).b (ofP a).n (ofP a).s (ofP a).t (ofP a).i (.slice (ofP a).lo (ofP a).ll (ofP a).lc) 5 false 0 (ba []) (ba []) (ba []) (.slice ao m.length c) (by rw [ofP_k]; omega) w
      rw [ofP_k] at this
      have e : (ofP a).val = val7 (a.kind : Int) (ofP a).b (ofP a).n (ofP a).s (ofP a).t (ofP a).i (.slice (ofP a).lo (ofP a).ll (ofP a).lc) := by rw [← ofP_k]; rfl
      rw [e]
      exact this
  | set l => cases h with
    | pl b =>
      cases hh
      obtain ⟨ao, c, rfl, _⟩ := hg
      have h5 := kind_le b
      have := compare_kinds 5 false 0 (ba []) (ba []) (ba []) (.slice ao l.length c) (ofP b).k (ofP b).b (ofP b).n (ofP b).s (ofP b).t (ofP b).i (.slice (ofP b).lo (ofP b).ll (ofP b).lc) (by rw [ofP_k]; omega) w
      rw [ofP_k] at this
      have e : (ofP b).val = val7 (b.kind : Int) (ofP b).b (ofP b).n (ofP b).s (ofP b).t (ofP b).i (.slice (ofP b).lo (ofP b).ll (ofP b).lc) := by rw [← ofP_k]; rfl
      rw [e]
      exact this
    | set m =>
      obtain ⟨ao, c, rfl, h1, _⟩ := hg
      obtain ⟨bo, d, rfl, h2, _⟩ := hh
      exact compare_sets l m ao bo c d w sg sh h1 h2

theorem less_G (g h : GV) (R R' : R7) (w : World) (hg : IsG w g R) (hh : IsG w h R') (sg : smallG g) (sh : smallG h) :
    Calls Try.prog 7 #[R.val, R'.val] w fun e w' => e = .returned (.bool (lessG g h)) ∧ Below w.heap.size w w' := by
  have := less_of R R' (cmpG g h) w (fun w' hb => compare_G g h R R' w' (hg.below hb) (hh.below hb) sg sh)
  rwa [cmpG_less] at this

theorem same_G (g h : GV) (R R' : R7) (w : World) (hg : IsG w g R) (hh : IsG w h R') (sg : smallG g) (sh : smallG h) :
    Calls Try.prog 8 #[R.val, R'.val] w fun e w' => e = .returned (.bool (sameG g h)) ∧ Below w.heap.size w w' := by
  exact same_of R R' (cmpG g h) w (fun w' hb => compare_G g h R R' w' (hg.below hb) (hh.below hb) sg sh)

theorem smallG_good (r : RawE) (es : List RawE) : smallG (goodG r es) := by
  unfold goodG
  split
  · show (setOf lessP (goodL r.k es)).length ≤ 1048576
    have h1 := len_setOf_le (goodL r.k es)
    rw [goodL_len] at h1
    omega
  · trivial
end Go.Proofs.Ytbfkdmlnahajpaa
