/-
  Plain facts: matching with stars over runes is matching over their bytes (no program in it).
-/
import Derived.Test.YtkgjdddoadnhcaaDoorLikeP
import Derived.Test.YtkgjdddoadnhcaaDoorQuoteP
namespace Go.Proofs.YtkgjdddoadnhcaaDoor
open Go

/-- The pattern p says the runes s: a star (42) stands for any runes, also none. -/
def MR : List Int → List Int → Prop
  | [], s => s = []
  | c :: p, s => if c = 42 then ∃ u v, s = u ++ v ∧ MR p v else ∃ t, s = c :: t ∧ MR p t
theorem mr_star (p s : List Int) : MR (42 :: p) s ↔ ∃ u v, s = u ++ v ∧ MR p v := by
  show (if (42 : Int) = 42 then ∃ u v, s = u ++ v ∧ MR p v else ∃ t, s = 42 :: t ∧ MR p t) ↔ _
  rw [if_pos rfl]
theorem mr_cons {c : Int} (hc : c ≠ 42) (p s : List Int) : MR (c :: p) s ↔ ∃ t, s = c :: t ∧ MR p t := by
  show (if c = 42 then ∃ u v, s = u ++ v ∧ MR p v else ∃ t, s = c :: t ∧ MR p t) ↔ _
  rw [if_neg hc]

theorem ofL_cons (c : Int) (p : List Int) : ofL (c :: p) = Lib.encodeRune c ++ ofL p := by simp [ofL]
theorem ofL_app (a b : List Int) : ofL (a ++ b) = ofL a ++ ofL b := by simp [ofL]
theorem ofOk_cons (c : Int) (p : List Int) : ofOk (c :: p) = true ↔ Lib.validRune c = true ∧ ofOk p = true := by simp [ofOk]
theorem enc_star : Lib.encodeRune 42 = [42] := by decide

theorem enc_no_star {c : Int} (hv : Lib.validRune c = true) (hc : c ≠ 42) : ∀ b ∈ Lib.encodeRune c, b ≠ 42 := by
  intro b hb e
  obtain ⟨n, rfl, hn⟩ := valid_nat hv
  by_cases h : n < 128
  · rw [enc1 n h] at hb
    simp only [List.mem_cons, List.not_mem_nil, or_false] at hb
    rw [hb] at e
    have := congrArg UInt8.toNat e
    rw [ofNat_toNat n (by omega)] at this
    exact hc (by rw [this]; rfl)
  · have := enc_high hv (by omega) b hb
    rw [e] at this
    exact absurd this (by decide)

/-- A byte that goes on with a rune. -/
def isCont (b : UInt8) : Prop := 128 ≤ b.toNat ∧ b.toNat < 192
theorem enc_shape {c : Int} (hv : Lib.validRune c = true) : ∃ b t, Lib.encodeRune c = b :: t ∧ ¬ isCont b ∧ ∀ d ∈ t, isCont d := by
  obtain ⟨n, rfl, hn⟩ := valid_nat hv
  have low : ∀ m, 128 ≤ m → m < 192 → isCont (UInt8.ofNat m) := fun m h1 h2 => by unfold isCont; rw [ofNat_toNat m (by omega)]; exact ⟨h1, h2⟩
  have no : ∀ m, m < 256 → (m < 128 ∨ 192 ≤ m) → ¬ isCont (UInt8.ofNat m) := fun m h0 h1 h2 => by unfold isCont at h2; rw [ofNat_toNat m h0] at h2; omega
  by_cases c1 : n < 128
  · exact ⟨_, _, enc1 n c1, no n (by omega) (.inl c1), by simp⟩
  · by_cases c2 : n < 2048
    · refine ⟨_, _, enc2 n (by omega) c2, no _ (by omega) (.inr (by omega)), ?_⟩
      intro d hd
      simp only [List.mem_cons, List.not_mem_nil, or_false] at hd
      subst hd
      exact low _ (by omega) (by omega)
    · by_cases c3 : n < 65536
      · refine ⟨_, _, enc3 n (by omega), no _ (by omega) (.inr (by omega)), ?_⟩
        intro d hd
        simp only [List.mem_cons, List.not_mem_nil, or_false] at hd
        rcases hd with rfl | rfl
        all_goals exact low _ (by omega) (by omega)
      · refine ⟨_, _, enc4 n (by omega) (by omega), no _ (by omega) (.inr (by omega)), ?_⟩
        intro d hd
        simp only [List.mem_cons, List.not_mem_nil, or_false] at hd
        rcases hd with rfl | rfl | rfl
        all_goals exact low _ (by omega) (by omega)

/-- The first rune is the first rune. -/
theorem enc_head {x c : Int} (hx : Lib.validRune x = true) (hc : Lib.validRune c = true) {s t : List UInt8} (h : Lib.encodeRune x ++ s = Lib.encodeRune c ++ t) : x = c ∧ s = t := by
  have e1 := dec_enc hx s
  rw [h, dec_enc hc t] at e1
  have e2 := (Prod.mk.inj e1).1
  obtain ⟨n, rfl, _⟩ := valid_nat hx
  obtain ⟨m, rfl, _⟩ := valid_nat hc
  rw [Int.toNat_natCast, Int.toNat_natCast] at e2
  subst e2
  exact ⟨rfl, List.append_cancel_left h⟩

/-- A rune's bytes stand in a text's bytes only where the rune stands in the text. -/
theorem enc_bound {c : Int} (hc : Lib.validRune c = true) (t : List UInt8) : ∀ (a : List Int) (u : List UInt8), ofOk a = true → ofL a = u ++ (Lib.encodeRune c ++ t) → ∃ a1 a2, a = a1 ++ c :: a2 ∧ ofL a2 = t
  | [], u, _, h => by
    have := congrArg List.length h
    have h1 := (encodeRune_len c).1
    rw [List.length_append, List.length_append] at this
    simp [ofL] at this
    omega
  | x :: a, u, ha, h => by
    obtain ⟨hx, ha2⟩ := (ofOk_cons x a).1 ha
    rw [ofL_cons] at h
    rcases List.append_eq_append_iff.1 h with ⟨m, e1, e2⟩ | ⟨m, e1, e2⟩
    · obtain ⟨a1, a2, rfl, e3⟩ := enc_bound hc t a m ha2 e2
      exact ⟨x :: a1, a2, rfl, e3⟩
    · cases hu : u with
      | nil =>
        rw [hu, List.nil_append] at h
        obtain ⟨rfl, e3⟩ := enc_head hx hc h
        exact ⟨[], a, rfl, e3⟩
      | cons b0 u0 =>
        cases hm : m with
        | nil =>
          rw [hm, List.nil_append] at e2
          obtain ⟨a1, a2, rfl, e3⟩ := enc_bound hc t a [] ha2 e2.symm
          exact ⟨x :: a1, a2, rfl, e3⟩
        | cons d m0 =>
          exfalso
          obtain ⟨bx, tx, f1, _, f3⟩ := enc_shape hx
          obtain ⟨bc, tc, g1, g2, _⟩ := enc_shape hc
          rw [hu, hm, f1] at e1
          rw [hm, g1] at e2
          have e3 : bc = d := (List.cons.inj e2).1
          have e4 := (List.cons.inj e1).2
          exact g2 (f3 bc (by rw [e4, e3]; simp))

theorem mt_of_mr : ∀ (p a : List Int), ofOk p = true → MR p a → Mt (ofL p) (ofL a)
  | [], a, _, h => by
    have : a = [] := h
    rw [this]
    rfl
  | c :: p, a, hp, h => by
    obtain ⟨hc, hp2⟩ := (ofOk_cons c p).1 hp
    rw [ofL_cons]
    by_cases h42 : c = 42
    · subst h42
      rw [mr_star] at h
      obtain ⟨u, v, rfl, hv⟩ := h
      rw [enc_star]
      show Mt (42 :: ofL p) _
      rw [mt_star, ofL_app]
      exact ⟨_, _, rfl, mt_of_mr p v hp2 hv⟩
    · rw [mr_cons h42] at h
      obtain ⟨t, rfl, ht⟩ := h
      rw [mt_piece _ _ _ (enc_no_star hc h42), ofL_cons]
      exact ⟨_, rfl, mt_of_mr p t hp2 ht⟩

theorem mr_of_mt : ∀ (p : List Int), ofOk p = true → (∀ a, ofOk a = true → Mt (ofL p) (ofL a) → MR p a) ∧ (∀ a u v, ofOk a = true → ofL a = u ++ v → Mt (ofL p) v → ∃ a1 a2, a = a1 ++ a2 ∧ MR p a2)
  | [], _ => by
    refine ⟨fun a _ h => ?_, fun a u v _ _ _ => ⟨a, [], by simp, rfl⟩⟩
    have h0 : ofL a = [] := h
    cases a with
    | nil => rfl
    | cons x a =>
      rw [ofL_cons] at h0
      exact absurd h0 (enc_ne x _)
  | c :: p, hp => by
    obtain ⟨hc, hp2⟩ := (ofOk_cons c p).1 hp
    obtain ⟨D, C⟩ := mr_of_mt p hp2
    by_cases h42 : c = 42
    · subst h42
      have e0 : ofL (42 :: p) = 42 :: ofL p := by rw [ofL_cons, enc_star]; rfl
      refine ⟨fun a ha h => ?_, fun a u v ha e h => ?_⟩
      · rw [e0, mt_star] at h
        obtain ⟨u, v, e, hv⟩ := h
        obtain ⟨a1, a2, rfl, h2⟩ := C a u v ha e hv
        exact (mr_star p _).2 ⟨a1, a2, rfl, h2⟩
      · rw [e0, mt_star] at h
        obtain ⟨u', v', rfl, hv⟩ := h
        obtain ⟨a1, a2, rfl, h2⟩ := C a (u ++ u') v' ha (by rw [e]; simp) hv
        exact ⟨a1, a2, rfl, (mr_star p _).2 ⟨[], a2, rfl, h2⟩⟩
    · refine ⟨fun a ha h => ?_, fun a u v ha e h => ?_⟩
      · rw [ofL_cons, mt_piece _ _ _ (enc_no_star hc h42)] at h
        obtain ⟨t, e, ht⟩ := h
        cases a with
        | nil => exact absurd e.symm (enc_ne c t)
        | cons x a =>
          obtain ⟨hx, ha2⟩ := (ofOk_cons x a).1 ha
          rw [ofL_cons] at e
          obtain ⟨rfl, rfl⟩ := enc_head hx hc e
          exact (mr_cons h42 p _).2 ⟨a, rfl, D a ha2 ht⟩
      · rw [ofL_cons, mt_piece _ _ _ (enc_no_star hc h42)] at h
        obtain ⟨t, rfl, ht⟩ := h
        obtain ⟨a1, a2, rfl, e2⟩ := enc_bound hc t a u ha e
        subst e2
        have ha2 : ofOk a2 = true := by
          have h1 := ha
          unfold ofOk at h1 ⊢
          rw [List.all_append, List.all_cons] at h1
          simp only [Bool.and_eq_true] at h1
          exact h1.2.2
        exact ⟨a1, c :: a2, rfl, (mr_cons h42 p _).2 ⟨a2, rfl, D a2 ha2 ht⟩⟩

/-- Matching over runes is matching over bytes. -/
theorem mt_iff_mr (p a : List Int) (hp : ofOk p = true) (ha : ofOk a = true) : Mt (ofL p) (ofL a) ↔ MR p a :=
  ⟨(mr_of_mt p hp).1 a ha, mt_of_mr p a hp⟩
end Go.Proofs.YtkgjdddoadnhcaaDoor
