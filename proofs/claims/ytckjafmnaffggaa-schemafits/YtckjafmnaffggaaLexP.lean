/-
  Plain: the tokens of a source, as the document tells them (no program in it).
-/
import Derived.Test.YtckjafmnaffggaaRNum
import Derived.Test.YtckjafmnaffggaaNamesPW
namespace Go.Proofs.Ytckjafmnaffggaa
open Go

def letB (b : UInt8) : Bool := letR b.toNat
def dgB (b : UInt8) : Bool := digR b.toNat
def nmB (b : UInt8) : Bool := letR b.toNat || digR b.toNat
def lnB (b : UInt8) : Bool := !decide ((b.toNat : Int) = 10)
def blkR (r : Int) : Bool := decide (r = 32) || (decide (r = 9) || (decide (r = 10) || decide (r = 13)))

def sgns : List (List UInt8) := [[58, 58], [61, 61], [33, 61], [60, 61], [62, 61], [38, 38], [124, 124], [45, 62], [40], [41], [123], [125], [91], [93], [44], [59], [58], [46], [60], [62], [33], [43], [45], [42]]

/-- A token that was read: its kind, text, number, how many bytes it has, the error. -/
structure Tk where
  k : Int
  s : List UInt8
  n : Int
  z : Nat
  e : Int
def badT (e : Int) : Tk := ⟨0, [], 0, 0, e⟩
def nameT (row : List UInt8) : Tk := if 12 < row.length then badT 5 else ⟨1, row, 0, row.length, 0⟩
def longT (row : List UInt8) : Tk := if pe row = 0 then ⟨2, [], pv row, row.length, 0⟩ else badT (pe row)
def strT (l : List UInt8) : Tk := if (rd l).2.2 = 0 then (if 30 < (runes (rd l).1).length then badT 5 else ⟨3, (rd l).1, 0, (rd l).2.1.toNat, 0⟩) else badT (rd l).2.2
def signF (l : List UInt8) : List (List UInt8) → Tk
  | [] => badT 12
  | g :: r => if Lib.hasPrefix l g then ⟨4, g, 0, g.length, 0⟩ else signF l r
def signT (l : List UInt8) : Tk := signF l sgns
def tokL (l : List UInt8) : Tk :=
  if letB (l.getD 0 0) then nameT (l.takeWhile nmB) else if dgB (l.getD 0 0) then longT (l.takeWhile dgB) else if ((l.getD 0 0).toNat : Int) = 34 then strT l else signT l
def gapL (l : List UInt8) : Nat := if blkR (l.getD 0 0).toNat then 1 else if Lib.hasPrefix l [47, 47] then (l.takeWhile lnB).length else 0

structure Tok where
  k : Int
  s : List UInt8
  n : Int
  p : Nat

def toksF : Nat → List UInt8 → Nat → List Tok → List Tok × Int
  | 0, _, _, _ => ([], 0)
  | f + 1, l, at', acc => if l = [] then (acc, 0) else
      if 0 < gapL l then toksF f (l.drop (gapL l)) (at' + gapL l) acc
      else if (tokL l).e = 0 then (if acc.length = 200 then ([], 4) else toksF f (l.drop (tokL l).z) (at' + (tokL l).z) (acc ++ [⟨(tokL l).k, (tokL l).s, (tokL l).n, at'⟩]))
      else ([], (tokL l).e)
def toksL (l : List UInt8) (at' : Nat) (acc : List Tok) : List Tok × Int := toksF (l.length + 1) l at' acc
def toks (l : List UInt8) : List Tok × Int := if 600 < l.length then ([], 5) else if okL l then toksL l 0 [] else ([], 11)

/-! ## Runes and their bytes. -/

theorem dec_le (l : List UInt8) (h : l ≠ []) : (Lib.decodeL l).2 ≤ l.length := by
  have hl : 0 < l.length := List.length_pos_iff.2 h
  rw [Lib.decodeL_N]
  rcases Lib.decodeN_shape l.length (l.getD 0 0).toNat (l.getD 1 0).toNat (l.getD 2 0).toNat (l.getD 3 0).toNat with ⟨c, e⟩ | ⟨c1, c2, c3, cv, e⟩ | ⟨c1, c2, c3, c4, cv, cs, e⟩ | ⟨c1, c2, c3, c4, c5, cv, cw, e⟩ | e
  all_goals (rw [e]; simp only []; omega)

/-- A rune of one byte below 128, or all its bytes are from 128 on. -/
theorem dec_bytes (l : List UInt8) : ((l.getD 0 0).toNat < 128 ∧ Lib.decodeL l = ((l.getD 0 0).toNat, 1)) ∨ (128 ≤ (Lib.decodeL l).1 ∧ ∀ j, j < (Lib.decodeL l).2 → 128 ≤ (l.getD j 0).toNat) := by
  by_cases h0 : (l.getD 0 0).toNat < 128
  · left
    refine ⟨h0, ?_⟩
    rw [Lib.decodeL_N]
    unfold Lib.decodeN
    rw [if_pos h0]
  · right
    refine ⟨dec_upon l (by omega), ?_⟩
    rw [Lib.decodeL_N]
    intro j hj
    rcases Lib.decodeN_shape l.length (l.getD 0 0).toNat (l.getD 1 0).toNat (l.getD 2 0).toNat (l.getD 3 0).toNat with ⟨c, e⟩ | ⟨c1, c2, c3, cv, e⟩ | ⟨c1, c2, c3, c4, cv, cs, e⟩ | ⟨c1, c2, c3, c4, c5, cv, cw, e⟩ | e
    · omega
    · rw [e] at hj
      match j, hj with
      | 0, _ => omega
      | 1, _ => omega
    · rw [e] at hj
      match j, hj with
      | 0, _ => omega
      | 1, _ => omega
      | 2, _ => omega
    · rw [e] at hj
      match j, hj with
      | 0, _ => omega
      | 1, _ => omega
      | 2, _ => omega
      | 3, _ => omega
    · rw [e] at hj
      match j, hj with
      | 0, _ => omega

/-- What is asked of a rune, all from 128 on alike, is asked of its first byte. -/
theorem head_of {p : Int → Bool} (hp : ∀ r : Int, 128 ≤ r → p r = p 128) (l : List UInt8) : p ((Lib.decodeL l).1 : Int) = p ((l.getD 0 0).toNat : Int) := by
  rcases dec_bytes l with ⟨h, e⟩ | ⟨h, hb⟩
  · rw [e]
  · rw [hp _ (by omega), hp ((l.getD 0 0).toNat : Int)]
    have := hb 0 (by have := dec_pos l; omega)
    omega

theorem takeWhile_step {p : Int → Bool} (hp : ∀ r : Int, 128 ≤ r → p r = p 128) (l : List UInt8) (h : l ≠ []) (hr : p ((Lib.decodeL l).1 : Int) = true) :
    (l.takeWhile fun b => p b.toNat).length = (Lib.decodeL l).2 + ((l.drop (Lib.decodeL l).2).takeWhile fun b => p b.toNat).length := by
  have key : ∀ (n : Nat) (l : List UInt8), n ≤ l.length → (∀ j, j < n → p ((l.getD j 0).toNat : Int) = true) → (l.takeWhile fun b => p b.toNat).length = n + ((l.drop n).takeWhile fun b => p b.toNat).length := by
    intro n
    induction n with
    | zero => intro l _ _; simp
    | succ n ih =>
      intro l hn hb
      match l, hn, hb with
      | b :: t, hn, hb =>
        have h0 : p (b.toNat : Int) = true := hb 0 (by omega)
        rw [List.takeWhile_cons, if_pos h0, List.length_cons, List.drop_succ_cons, ih t (by simpa using hn) (fun j hj => hb (j + 1) (by omega))]
        omega
  refine key _ l (dec_le l h) ?_
  intro j hj
  rcases dec_bytes l with ⟨h1, e⟩ | ⟨h1, hb⟩
  · rw [e] at hj hr
    have : j = 0 := by omega
    subst this
    exact hr
  · rw [hp _ (by have := hb j hj; omega), ← hp _ (by omega : (128 : Int) ≤ ((Lib.decodeL l).1 : Int))]
    exact hr

theorem takeWhile_stop {p : Int → Bool} (hp : ∀ r : Int, 128 ≤ r → p r = p 128) (l : List UInt8) (hr : p ((Lib.decodeL l).1 : Int) = false) : (l.takeWhile fun b => p b.toNat) = [] := by
  rw [head_of hp] at hr
  cases l with
  | nil => rfl
  | cons b t =>
    have : p (b.toNat : Int) = false := hr
    rw [List.takeWhile_cons, this]
    rfl

theorem takeWhile_take {α : Type} (p : α → Bool) : ∀ l : List α, l.take (l.takeWhile p).length = l.takeWhile p
  | [] => rfl
  | b :: t => by
    rw [List.takeWhile_cons]
    split
    · rw [List.length_cons, List.take_succ_cons, takeWhile_take p t]
    · rfl

/-! ## Places where a rune begins. -/

inductive Bd : List UInt8 → Nat → Prop
  | zero (l : List UInt8) : Bd l 0
  | step (l : List UInt8) (n : Nat) : l ≠ [] → Bd (l.drop (Lib.decodeL l).2) n → Bd l ((Lib.decodeL l).2 + n)

theorem Bd.next {l : List UInt8} {n : Nat} (h : Bd l n) (hn : 0 < n) : l ≠ [] ∧ (Lib.decodeL l).2 ≤ n ∧ Bd (l.drop (Lib.decodeL l).2) (n - (Lib.decodeL l).2) := by
  cases h with
  | zero => omega
  | step _ m h1 h2 => exact ⟨h1, by omega, by rw [Nat.add_sub_cancel_left]; exact h2⟩

theorem Bd.ok {l : List UInt8} {n : Nat} (h : Bd l n) : okL l = true → okL (l.drop n) = true := by
  induction h with
  | zero l => simp
  | step l n hne _ ih =>
    intro hok
    rw [okL_cons l hne] at hok
    split at hok
    · cases hok
    · rw [← List.drop_drop]
      exact ih hok

theorem getD_drop (l : List UInt8) (n j : Nat) : (l.drop n).getD j 0 = l.getD (n + j) 0 := by
  simp [List.getD_eq_getElem?_getD, List.getElem?_drop]

theorem bd_of : ∀ (m : Nat) (l : List UInt8) (n : Nat), l.length ≤ m → n ≤ l.length → (0 < n → (l.getD (n - 1) 0).toNat < 128) ∨ n = l.length ∨ (l.getD n 0).toNat < 128 → Bd l n := by
  intro m
  induction m with
  | zero =>
    intro l n hm hn _
    have : n = 0 := by omega
    subst this
    exact .zero l
  | succ m ih =>
    intro l n hm hn hc
    by_cases h0 : n = 0
    · subst h0
      exact .zero l
    · have hne : l ≠ [] := by
        intro h
        subst h
        simp at hn
        omega
      have hp := dec_pos l
      have hle := dec_le l hne
      have hs : (Lib.decodeL l).2 ≤ n := by
        rcases dec_bytes l with ⟨_, e⟩ | ⟨_, hb⟩
        · rw [e]
          show 1 ≤ n
          omega
        · apply Nat.le_of_not_lt
          intro hlt
          rcases hc with hc | hc | hc
          · have := hb (n - 1) (by omega)
            have := hc (by omega)
            omega
          · omega
          · have := hb n hlt
            omega
      obtain ⟨k, rfl⟩ : ∃ k, n = (Lib.decodeL l).2 + k := ⟨n - (Lib.decodeL l).2, by omega⟩
      refine .step l k hne (ih _ k (by rw [List.length_drop]; omega) (by rw [List.length_drop]; omega) ?_)
      rcases hc with hc | hc | hc
      · left
        intro hk
        rw [getD_drop, show (Lib.decodeL l).2 + (k - 1) = (Lib.decodeL l).2 + k - 1 by omega]
        exact hc (by omega)
      · right; left
        rw [List.length_drop]
        omega
      · right; right
        rw [getD_drop]
        exact hc

/-! ## How far a token goes. -/

theorem last_takeWhile (p : UInt8 → Bool) : ∀ (l : List UInt8) (j : Nat), j < (l.takeWhile p).length → p (l.getD j 0) = true
  | [], j, h => by simp at h
  | b :: t, j, h => by
    rw [List.takeWhile_cons] at h
    split at h
    · match j, h with
      | 0, _ => assumption
      | j + 1, h =>
        rw [List.getD_cons_succ]
        exact last_takeWhile p t j (by simpa using h)
    · simp at h

theorem takeWhile_end (p : UInt8 → Bool) : ∀ (l : List UInt8), (l.takeWhile p).length = l.length ∨ p (l.getD (l.takeWhile p).length 0) = false
  | [] => .inl rfl
  | b :: t => by
    rw [List.takeWhile_cons]
    split
    · rcases takeWhile_end p t with h | h
      · left
        simp [h]
      · right
        rw [List.length_cons, List.getD_cons_succ]
        exact h
    · rename_i hb
      right
      have : p b = false := by simpa using hb
      exact this

theorem tw_len (p : UInt8 → Bool) (l : List UInt8) : (l.takeWhile p).length ≤ l.length := by
  rcases takeWhile_end p l with h | h
  · omega
  · exact (List.takeWhile_prefix p).length_le

theorem nmB_low {b : UInt8} (h : nmB b = true) : b.toNat < 128 := by
  apply Nat.lt_of_not_le
  intro h2
  rw [nmB, letR_high _ (by omega), digR_high _ (by omega)] at h
  cases h
theorem dgB_low {b : UInt8} (h : dgB b = true) : b.toNat < 128 := nmB_low (b := b) (by rw [nmB]; rw [dgB] at h; rw [h]; simp)

theorem hasPrefix_get {l g : List UInt8} (h : Lib.hasPrefix l g = true) : ∃ t, l = g ++ t := by
  have h2 : g <+: l := by simpa [Lib.hasPrefix] using h
  obtain ⟨t, ht⟩ := h2
  exact ⟨t, ht.symm⟩

/-- The last byte of what is read as a quoted text is the sign. -/
theorem rdL_last : ∀ (m : Nat) (l acc : List UInt8) (pos : Int), l.length ≤ m → (rdL l acc pos).2.2 = 0 → ∃ z : Nat, 1 ≤ z ∧ z ≤ l.length ∧ (rdL l acc pos).2.1 = pos + z ∧ l.getD (z - 1) 0 = 34 := by
  intro m
  induction m with
  | zero =>
    intro l acc pos hm h
    have : l = [] := List.length_eq_zero_iff.1 (by omega)
    subst this
    rw [rdL_nil] at h
    simp at h
  | succ m ih =>
    intro l acc pos hm h
    by_cases hne : l = []
    · subst hne
      rw [rdL_nil] at h
      simp at h
    · have hl : 0 < l.length := List.length_pos_iff.2 hne
      rw [rdL_cons l acc pos hne] at h ⊢
      split
      · rename_i h34
        refine ⟨1, Nat.le_refl _, hl, rfl, ?_⟩
        rcases dec_bytes l with ⟨_, e⟩ | ⟨hb, _⟩
        · rw [e] at h34
          exact UInt8.toNat_inj.1 h34
        · omega
      · rename_i h34
        rw [if_neg h34] at h
        split
        · rename_i hb
          rw [if_pos hb] at h
          simp at h
        · rename_i hb
          rw [if_neg hb] at h
          split
          · rename_i h0
            rw [if_pos h0] at h
            have hp := oneL_pos l hne (by simpa using hb) h0
            obtain ⟨z, h1, h2, h3, h4⟩ := ih _ _ _ (by rw [List.length_drop]; omega) h
            rw [List.length_drop] at h2
            refine ⟨(oneL l).2.1.toNat + z, by omega, by omega, by rw [h3]; omega, ?_⟩
            rw [getD_drop, show (oneL l).2.1.toNat + (z - 1) = (oneL l).2.1.toNat + z - 1 by omega] at h4
            exact h4
          · rename_i h0
            rw [if_neg h0] at h
            exact absurd h h0

theorem rd_last (l : List UInt8) (h : (rd l).2.2 = 0) : ∃ z : Nat, 1 ≤ z ∧ z ≤ l.length ∧ (rd l).2.1 = z ∧ l.getD (z - 1) 0 = 34 := by
  unfold rd at h ⊢
  split
  · rename_i hp
    rw [if_pos hp] at h
    obtain ⟨z, h1, h2, h3, h4⟩ := rdL_last _ _ _ _ (Nat.le_refl _) h
    rw [List.length_drop] at h2
    refine ⟨1 + z, by omega, by omega, by rw [h3]; omega, ?_⟩
    rw [getD_drop, show 1 + (z - 1) = 1 + z - 1 by omega] at h4
    exact h4
  · rename_i hp
    rw [if_neg hp] at h
    simp at h

theorem signF_at (l : List UInt8) : ∀ (gs : List (List UInt8)), (signF l gs).e = 0 → ∃ g ∈ gs, Lib.hasPrefix l g = true ∧ signF l gs = ⟨4, g, 0, g.length, 0⟩
  | [], h => by simp [signF, badT] at h
  | g :: r, h => by
    unfold signF at h ⊢
    split
    · rename_i hp
      exact ⟨g, by simp, hp, rfl⟩
    · rename_i hp
      rw [if_neg hp] at h
      obtain ⟨g2, h1, h2⟩ := signF_at l r h
      exact ⟨g2, by simp [h1], h2⟩

theorem sgns_all : ∀ g ∈ sgns, 1 ≤ g.length ∧ ∀ j, j < g.length → (g.getD j 0).toNat < 128 := by decide

/-- A token goes at least one byte, and to the end of a rune. -/
theorem tok_far (l : List UInt8) (hne : l ≠ []) (h : (tokL l).e = 0) : 1 ≤ (tokL l).z ∧ (tokL l).z ≤ l.length ∧ (l.getD ((tokL l).z - 1) 0).toNat < 128 := by
  have row : ∀ (p : UInt8 → Bool), p (l.getD 0 0) = true → (∀ b, p b = true → b.toNat < 128) → 1 ≤ (l.takeWhile p).length ∧ (l.takeWhile p).length ≤ l.length ∧ (l.getD ((l.takeWhile p).length - 1) 0).toNat < 128 := by
    intro p h0 hp
    have h1 : 1 ≤ (l.takeWhile p).length := by
      cases l with
      | nil => exact absurd rfl hne
      | cons b t =>
        have : p b = true := h0
        rw [List.takeWhile_cons, if_pos this, List.length_cons]
        omega
    exact ⟨h1, tw_len p l, hp _ (last_takeWhile p l _ (by omega))⟩
  unfold tokL at h ⊢
  split
  · rename_i hb
    rw [if_pos hb] at h
    unfold nameT at h ⊢
    split
    · rename_i h12
      rw [if_pos h12] at h
      simp [badT] at h
    · refine row nmB ?_ (fun b => nmB_low)
      rw [nmB]
      rw [letB] at hb
      rw [hb]
      rfl
  · rename_i hb
    rw [if_neg hb] at h
    split
    · rename_i hd
      rw [if_pos hd] at h
      unfold longT at h ⊢
      split
      · exact row dgB hd (fun b => dgB_low)
      · rename_i h0
        rw [if_neg h0] at h
        exact absurd h h0
    · rename_i hd
      rw [if_neg hd] at h
      split
      · rename_i h34
        rw [if_pos h34] at h
        unfold strT at h ⊢
        split
        · rename_i h0
          rw [if_pos h0] at h
          split
          · rename_i h30
            rw [if_pos h30] at h
            simp [badT] at h
          · obtain ⟨z, h1, h2, h3, h4⟩ := rd_last l h0
            rw [h3]
            refine ⟨h1, h2, ?_⟩
            show (l.getD (z - 1) 0).toNat < 128
            rw [h4]
            decide
        · rename_i h0
          rw [if_neg h0] at h
          exact absurd h h0
      · rename_i h34
        rw [if_neg h34] at h
        obtain ⟨g, hg, hp, e⟩ := signF_at l sgns h
        unfold signT
        rw [e]
        obtain ⟨t, rfl⟩ := hasPrefix_get hp
        obtain ⟨h1, h2⟩ := sgns_all g hg
        refine ⟨h1, by simp, ?_⟩
        show ((g ++ t).getD (g.length - 1) 0).toNat < 128
        rw [show (g ++ t).getD (g.length - 1) 0 = g.getD (g.length - 1) 0 by simp [List.getD_eq_getElem?_getD, List.getElem?_append_left (show g.length - 1 < g.length by omega)]]
        exact h2 _ (by omega)

theorem gap_far (l : List UInt8) (hne : l ≠ []) : gapL l ≤ l.length ∧ ((0 < gapL l → (l.getD (gapL l - 1) 0).toNat < 128) ∨ gapL l = l.length ∨ (l.getD (gapL l) 0).toNat < 128) := by
  have hl : 0 < l.length := List.length_pos_iff.2 hne
  unfold gapL
  split
  · rename_i hb
    refine ⟨hl, .inl fun _ => ?_⟩
    show (l.getD 0 0).toNat < 128
    simp only [blkR, Bool.or_eq_true, decide_eq_true_eq] at hb
    omega
  · split
    · refine ⟨tw_len _ l, ?_⟩
      rcases takeWhile_end lnB l with h1 | h1
      · exact .inr (.inl h1)
      · refine .inr (.inr ?_)
        simp only [lnB, Bool.not_eq_false', decide_eq_true_eq] at h1
        omega
    · exact ⟨Nat.zero_le _, .inl fun h => by omega⟩

theorem toksF_fuel : ∀ (f : Nat) (l : List UInt8) (a : Nat) (acc : List Tok) (g : Nat), l.length < f → l.length < g → toksF f l a acc = toksF g l a acc
  | 0, l, a, acc, g, hf, _ => by omega
  | f + 1, l, a, acc, 0, _, hg => by omega
  | f + 1, l, a, acc, g + 1, hf, hg => by
    rw [toksF, toksF]
    split
    · rfl
    · rename_i hne
      have hl : 0 < l.length := List.length_pos_iff.2 hne
      split
      · exact toksF_fuel f _ _ _ g (by rw [List.length_drop]; omega) (by rw [List.length_drop]; omega)
      · split
        · rename_i h0
          have := tok_far l hne h0
          split
          · rfl
          · exact toksF_fuel f _ _ _ g (by rw [List.length_drop]; omega) (by rw [List.length_drop]; omega)
        · rfl

theorem toksL_nil (a : Nat) (acc : List Tok) : toksL [] a acc = (acc, 0) := rfl
theorem toksL_gap {l : List UInt8} (a : Nat) (acc : List Tok) (hne : l ≠ []) (h : 0 < gapL l) : toksL l a acc = toksL (l.drop (gapL l)) (a + gapL l) acc := by
  have hl : 0 < l.length := List.length_pos_iff.2 hne
  unfold toksL
  rw [toksF, if_neg hne, if_pos h]
  exact toksF_fuel _ _ _ _ _ (by rw [List.length_drop]; omega) (by omega)
theorem toksL_err {l : List UInt8} (a : Nat) (acc : List Tok) (hne : l ≠ []) (h : gapL l = 0) (he : (tokL l).e ≠ 0) : toksL l a acc = ([], (tokL l).e) := by
  unfold toksL
  rw [toksF, if_neg hne, if_neg (by omega), if_neg he]
theorem toksL_many {l : List UInt8} (a : Nat) (acc : List Tok) (hne : l ≠ []) (h : gapL l = 0) (he : (tokL l).e = 0) (hm : acc.length = 200) : toksL l a acc = ([], 4) := by
  unfold toksL
  rw [toksF, if_neg hne, if_neg (by omega), if_pos he, if_pos hm]
theorem toksL_tok {l : List UInt8} (a : Nat) (acc : List Tok) (hne : l ≠ []) (h : gapL l = 0) (he : (tokL l).e = 0) (hm : acc.length ≠ 200) :
    toksL l a acc = toksL (l.drop (tokL l).z) (a + (tokL l).z) (acc ++ [⟨(tokL l).k, (tokL l).s, (tokL l).n, a⟩]) := by
  have hl : 0 < l.length := List.length_pos_iff.2 hne
  have := tok_far l hne he
  unfold toksL
  rw [toksF, if_neg hne, if_neg (by omega), if_pos he, if_neg hm]
  exact toksF_fuel _ _ _ _ _ (by rw [List.length_drop]; omega) (by omega)
theorem rdL_len : ∀ (m : Nat) (l acc : List UInt8) (pos : Int), l.length ≤ m → (rdL l acc pos).1.length ≤ acc.length + 4 * l.length := by
  intro m
  induction m with
  | zero =>
    intro l acc pos hm
    have : l = [] := List.length_eq_zero_iff.1 (by omega)
    subst this
    rw [rdL_nil]
    simp
  | succ m ih =>
    intro l acc pos hm
    by_cases hne : l = []
    · subst hne
      rw [rdL_nil]
      simp
    · have hl : 0 < l.length := List.length_pos_iff.2 hne
      rw [rdL_cons l acc pos hne]
      split
      · simp
      · split
        · simp
        · rename_i hb
          split
          · rename_i h0
            have hp := oneL_pos l hne (by simpa using hb) h0
            have h1 := ih (l.drop (oneL l).2.1.toNat) (acc ++ Lib.encodeRune (oneL l).1) (pos + (oneL l).2.1) (by rw [List.length_drop]; omega)
            have h2 := (encodeRune_len (oneL l).1).2
            rw [List.length_drop, List.length_append] at h1
            omega
          · simp
theorem rd_len (l : List UInt8) : (rd l).1.length ≤ 4 * l.length := by
  unfold rd
  split
  · have := rdL_len _ (l.drop 1) [] 1 (Nat.le_refl _)
    rw [List.length_drop] at this
    simp only [List.length_nil] at this
    omega
  · simp

def Tok.cells (t : Tok) : List Value := [.int .i64 t.k, .string ⟨t.s.toArray⟩, .int .i64 t.n, .int .i64 t.p]
def cellsT (l : List Tok) : List Value := l.flatMap Tok.cells
theorem cellsT_snoc (l : List Tok) (t : Tok) : cellsT (l ++ [t]) = cellsT l ++ t.cells := by simp [cellsT]
end Go.Proofs.Ytckjafmnaffggaa
