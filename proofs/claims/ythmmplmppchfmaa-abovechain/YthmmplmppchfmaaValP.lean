/-
  Plain facts on values (no program in it): an order of plain values and of sets of them, and sets made by laying one after the other in its place.
-/
import Derived.Test.YthmmplmppchfmaaProg
import Derived.Sort.Walk0
namespace Go.Proofs.Ythmmplmppchfmaa
open Go

/-- A strict order in which of two unlike ones one is less. -/
structure Sto {α : Type} (lt : α → α → Bool) : Prop where
  irr : ∀ a, lt a a = false
  trans : ∀ a b c, lt a b = true → lt b c = true → lt a c = true
  tri : ∀ a b, lt a b = true ∨ a = b ∨ lt b a = true

namespace Sto
variable {α : Type} {lt : α → α → Bool}
theorem asym (h : Sto lt) {a b : α} (hab : lt a b = true) : lt b a = false := by
  cases hba : lt b a
  · rfl
  · have := h.trans a b a hab hba
    rw [h.irr] at this
    cases this
theorem eq_of (h : Sto lt) {a b : α} (h1 : lt a b = false) (h2 : lt b a = false) : a = b := by
  rcases h.tri a b with e | e | e
  · rw [h1] at e
    cases e
  · exact e
  · rw [h2] at e
    cases e
end Sto

section sets
variable {α : Type} (lt : α → α → Bool)

/-- One more, in its place; nothing where it is there. -/
def ins (x : α) : List α → List α
  | [] => [x]
  | y :: l => if lt y x then y :: ins x l else if lt x y then x :: y :: l else y :: l

def setOf (l : List α) : List α := l.foldl (fun acc x => ins lt x acc) []

def Rising (l : List α) : Prop := l.Pairwise fun a b => lt a b = true

variable {lt}
theorem mem_ins (h : Sto lt) (x z : α) : ∀ (l : List α), z ∈ ins lt x l ↔ z = x ∨ z ∈ l
  | [] => by simp [ins]
  | y :: l => by
    unfold ins
    by_cases h1 : lt y x = true
    · rw [if_pos h1, List.mem_cons, mem_ins h x z l, List.mem_cons]
      constructor
      · rintro (e | e | e)
        · exact .inr (.inl e)
        · exact .inl e
        · exact .inr (.inr e)
      · rintro (e | e | e)
        · exact .inr (.inl e)
        · exact .inl e
        · exact .inr (.inr e)
    · rw [if_neg h1]
      by_cases h2 : lt x y = true
      · rw [if_pos h2]
        simp
      · rw [if_neg h2]
        have e : x = y := h.eq_of (by simpa using h2) (by simpa using h1)
        subst e
        simp

theorem rising_ins (h : Sto lt) (x : α) : ∀ (l : List α), Rising lt l → Rising lt (ins lt x l)
  | [], _ => by simp [ins, Rising]
  | y :: l, hr => by
    have hr' := List.pairwise_cons.1 hr
    unfold ins
    by_cases h1 : lt y x = true
    · rw [if_pos h1]
      refine List.pairwise_cons.2 ⟨fun z hz => ?_, rising_ins h x l hr'.2⟩
      rcases (mem_ins h x z l).1 hz with e | e
      · rw [e]
        exact h1
      · exact hr'.1 z e
    · rw [if_neg h1]
      by_cases h2 : lt x y = true
      · rw [if_pos h2]
        refine List.pairwise_cons.2 ⟨fun z hz => ?_, hr⟩
        rcases List.mem_cons.1 hz with e | e
        · rw [e]
          exact h2
        · exact h.trans x y z h2 (hr'.1 z e)
      · rw [if_neg h2]
        exact hr

theorem setOf_go (h : Sto lt) : ∀ (l acc : List α), Rising lt acc → Rising lt (l.foldl (fun acc x => ins lt x acc) acc) ∧ ∀ z, z ∈ l.foldl (fun acc x => ins lt x acc) acc ↔ z ∈ acc ∨ z ∈ l
  | [], acc, hr => ⟨hr, fun z => by simp⟩
  | x :: l, acc, hr => by
    obtain ⟨h1, h2⟩ := setOf_go h l (ins lt x acc) (rising_ins h x acc hr)
    refine ⟨h1, fun z => ?_⟩
    rw [List.foldl_cons, h2 z, mem_ins h, List.mem_cons]
    constructor
    · rintro ((e | e) | e)
      · exact .inr (.inl e)
      · exact .inl e
      · exact .inr (.inr e)
    · rintro (e | e | e)
      · exact .inl (.inr e)
      · exact .inl (.inl e)
      · exact .inr e

theorem rising_setOf (h : Sto lt) (l : List α) : Rising lt (setOf lt l) := (setOf_go h l [] List.Pairwise.nil).1
theorem mem_setOf (h : Sto lt) (l : List α) (z : α) : z ∈ setOf lt l ↔ z ∈ l := by
  have := (setOf_go h l [] List.Pairwise.nil).2 z
  simpa [setOf] using this

/-- Two rising lists with the same members are one. -/
theorem rising_same (h : Sto lt) : ∀ (l m : List α), Rising lt l → Rising lt m → (∀ z, z ∈ l ↔ z ∈ m) → l = m
  | [], [], _, _, _ => rfl
  | [], y :: m, _, _, e => by simpa using e y
  | x :: l, [], _, _, e => by simpa using e x
  | x :: l, y :: m, hl, hm, e => by
    have hl' := List.pairwise_cons.1 hl
    have hm' := List.pairwise_cons.1 hm
    have hxy : x = y := by
      rcases List.mem_cons.1 ((e x).1 (by simp)) with h1 | h1
      · exact h1
      · rcases List.mem_cons.1 ((e y).2 (by simp)) with h2 | h2
        · exact h2.symm
        · have a1 := hm'.1 x h1
          have a2 := hl'.1 y h2
          rw [h.asym a1] at a2
          cases a2
    subst hxy
    congr 1
    refine rising_same h l m hl'.2 hm'.2 fun z => ⟨fun hz => ?_, fun hz => ?_⟩
    · rcases List.mem_cons.1 ((e z).1 (List.mem_cons_of_mem _ hz)) with h1 | h1
      · have a1 := hl'.1 z hz
        rw [h1, h.irr] at a1
        cases a1
      · exact h1
    · rcases List.mem_cons.1 ((e z).2 (List.mem_cons_of_mem _ hz)) with h1 | h1
      · have a1 := hm'.1 z hz
        rw [h1, h.irr] at a1
        cases a1
      · exact h1

theorem setOf_same (h : Sto lt) (l m : List α) (e : ∀ z, z ∈ l ↔ z ∈ m) : setOf lt l = setOf lt m :=
  rising_same h _ _ (rising_setOf h l) (rising_setOf h m) fun z => by rw [mem_setOf h, mem_setOf h, e z]

/-- A rising list is the set of itself. -/
theorem setOf_rising (h : Sto lt) (l : List α) (hl : Rising lt l) : setOf lt l = l :=
  rising_same h _ _ (rising_setOf h l) hl fun z => mem_setOf h l z
end sets

section lists
variable {α : Type} (lt : α → α → Bool)
/-- One by one, a front ahead of the longer one. -/
def lexL : List α → List α → Bool
  | [], [] => false
  | [], _ :: _ => true
  | _ :: _, [] => false
  | x :: a, y :: b => if lt x y then true else if lt y x then false else lexL a b
variable {lt}
theorem sto_lexL (h : Sto lt) : Sto (lexL lt) where
  irr := by
    intro a
    induction a with
    | nil => rfl
    | cons x a ih =>
      unfold lexL
      rw [h.irr]
      simpa using ih
  trans := by
    intro a
    induction a with
    | nil =>
      intro b c h1 h2
      cases c with
      | nil => cases b <;> simp [lexL] at h2
      | cons z c => rfl
    | cons x a ih =>
      intro b c h1 h2
      cases b with
      | nil => simp [lexL] at h1
      | cons y b =>
        cases c with
        | nil => simp [lexL] at h2
        | cons z c =>
          unfold lexL at h1 h2 ⊢
          by_cases xy : lt x y = true
          · have hxz : lt x z = true := by
              by_cases yz : lt y z = true
              · exact h.trans x y z xy yz
              · by_cases zy : lt z y = true
                · rw [if_neg yz, if_pos zy] at h2
                  cases h2
                · have e := h.eq_of (by simpa using yz) (by simpa using zy)
                  rw [← e]
                  exact xy
            rw [if_pos hxz]
          · by_cases yx : lt y x = true
            · rw [if_neg xy, if_pos yx] at h1
              cases h1
            · have e := h.eq_of (by simpa using xy) (by simpa using yx)
              subst e
              rw [if_neg xy, if_neg yx] at h1
              by_cases yz : lt x z = true
              · rw [if_pos yz]
              · by_cases zy : lt z x = true
                · rw [if_neg yz, if_pos zy] at h2
                  cases h2
                · rw [if_neg yz, if_neg zy] at h2 ⊢
                  exact ih b c h1 h2
  tri := by
    intro a
    induction a with
    | nil =>
      intro b
      cases b with
      | nil => exact .inr (.inl rfl)
      | cons y b => exact .inl rfl
    | cons x a ih =>
      intro b
      cases b with
      | nil => exact .inr (.inr rfl)
      | cons y b =>
        unfold lexL
        rcases h.tri x y with e | e | e
        · exact .inl (if_pos e)
        · subst e
          rw [h.irr]
          simpa using ih b
        · right
          right
          rw [if_pos e]
end lists

/-- Plain values. -/
inductive PV where
  | bool (b : Bool)
  | long (n : Int)
  | str (s : List UInt8)
  | uid (t i : List UInt8)
  deriving DecidableEq

def PV.kind : PV → Nat
  | .bool _ => 1
  | .long _ => 2
  | .str _ => 3
  | .uid _ _ => 4

def lessP : PV → PV → Bool
  | .bool x, .bool y => !x && y
  | .long x, .long y => decide (x < y)
  | .str x, .str y => decide (x < y)
  | .uid t i, .uid u j => if t = u then decide (i < j) else decide (t < u)
  | a, b => decide (a.kind < b.kind)

theorem bytes_irr (a : List UInt8) : ¬ a < a := List.lt_irrefl a
theorem bytes_trans {a b c : List UInt8} (h1 : a < b) (h2 : b < c) : a < c := List.lt_trans h1 h2
theorem bytes_tri (a b : List UInt8) : a < b ∨ a = b ∨ b < a := by
  by_cases h1 : a < b
  · exact .inl h1
  · by_cases h2 : b < a
    · exact .inr (.inr h2)
    · exact .inr (.inl (List.le_antisymm (List.not_lt.1 h2) (List.not_lt.1 h1)))

theorem sto_lessP : Sto lessP where
  irr := by
    intro a
    cases a <;> simp [lessP]
  trans := by
    intro a b c h1 h2
    cases a <;> cases b <;> cases c <;> simp [lessP, PV.kind] at h1 h2 ⊢
    all_goals first | exact bytes_trans h1 h2 | omega | skip
    · simp_all
    · rename_i t i u j v k
      by_cases e1 : t = u
      · subst e1
        by_cases e2 : t = v
        · subst e2
          simp at h1 h2 ⊢
          exact bytes_trans h1 h2
        · simp [e2] at h1 h2 ⊢
          exact h2
      · by_cases e2 : u = v
        · subst e2
          simp [e1] at h1 h2 ⊢
          exact h1
        · simp [e1, e2] at h1 h2
          have h3 := bytes_trans h1 h2
          by_cases e3 : t = v
          · rw [e3] at h3
            exact absurd h3 (bytes_irr v)
          · simp [e3]
            exact h3
  tri := by
    intro a b
    cases a <;> cases b <;> simp [lessP, PV.kind]
    · rename_i x y
      cases x <;> cases y <;> simp
    · omega
    · exact bytes_tri _ _
    · rename_i t i u j
      by_cases e : t = u
      · subst e
        simpa using bytes_tri i j
      · have e' : ¬ u = t := fun h => e h.symm
        simp [e, e']
        rcases bytes_tri t u with h | h | h
        · exact .inl h
        · exact absurd h e
        · exact .inr h

/-- Values such as may be. -/
inductive GV where
  | pl (p : PV)
  | set (l : List PV)

def lessG : GV → GV → Bool
  | .pl a, .pl b => lessP a b
  | .pl _, .set _ => true
  | .set _, .pl _ => false
  | .set a, .set b => lexL lessP a b

theorem sto_lessG : Sto lessG where
  irr := by
    intro a
    cases a with
    | pl p => exact sto_lessP.irr p
    | set l => exact (sto_lexL sto_lessP).irr l
  trans := by
    intro a b c h1 h2
    cases a <;> cases b <;> cases c <;> simp only [lessG] at h1 h2 ⊢
    · exact sto_lessP.trans _ _ _ h1 h2
    · cases h2
    · cases h1
    · cases h1
    · cases h2
    · exact (sto_lexL sto_lessP).trans _ _ _ h1 h2
  tri := by
    intro a b
    cases a <;> cases b <;> simp only [lessG, GV.pl.injEq, GV.set.injEq]
    · exact sto_lessP.tri _ _
    · exact .inl trivial
    · exact .inr (.inr trivial)
    · exact (sto_lexL sto_lessP).tri _ _
end Go.Proofs.Ythmmplmppchfmaa
