/-
  Plain: tokens of numbers with something behind (no program in it).
-/
import Derived.Test.YtfkbbenjmhngcaaDoorLexQ
import Derived.Test.YtfkbbenjmhngcaaDoorNRefP
namespace Go.Proofs.YtfkbbenjmhngcaaDoor
open Go

def mores : List (List UInt8) := [[], [32], [46], [120], [43, 49]]
theorem mores_low : ∀ m ∈ mores, ∀ b ∈ m, b.toNat < 128 := by decide
theorem mores_dig : ∀ m ∈ mores, m = [] ∨ dgB (m.getD 0 0) = false := by decide
theorem mores_len : ∀ m ∈ mores, m.length ≤ 2 := by decide
theorem mores_toks {m : List UInt8} (h : m ∈ mores) (a : Nat) (t : Tok) : ∃ ts, toksL m a [t] = (t :: ts, 0) := by
  simp only [mores, List.mem_cons, List.not_mem_nil, or_false] at h
  rcases h with rfl | rfl | rfl | rfl | rfl
  all_goals exact ⟨_, rfl⟩
theorem mores_toks2 {m : List UInt8} (h : m ∈ mores) (a : Nat) (t u : Tok) : ∃ ts, toksL m a [t, u] = (t :: u :: ts, 0) := by
  simp only [mores, List.mem_cons, List.not_mem_nil, or_false] at h
  rcases h with rfl | rfl | rfl | rfl | rfl
  all_goals exact ⟨_, rfl⟩

theorem dgB_of {b : UInt8} (h : digB b = true) : dgB b = true := by
  simp only [digB, decide_eq_true_eq] at h
  simp only [dgB, digR, decide_eq_true_eq]
  omega
theorem dec_dg (u : Nat) : ∀ b ∈ Lib.decDigits u, dgB b = true := fun b hb => dgB_of (List.all_eq_true.1 (val_dec u).2.1 b hb)
theorem dec_ne (u : Nat) : Lib.decDigits u ≠ [] := by
  obtain ⟨b, t, h, _⟩ := (val_dec u).2.2
  rw [h]
  simp
theorem dec_pv (u : Nat) : pv (Lib.decDigits u) = nv u ∧ pe (Lib.decDigits u) = ne u := by
  rw [pv_ok (numOk_dec u), pe_ok (numOk_dec u), (val_dec u).1]
  exact ⟨rfl, rfl⟩

theorem toks_pos {m : List UInt8} (hm : m ∈ mores) (u : Nat) (hu : u ≤ 9223372036854775807) : ∃ ts, toks (Lib.decDigits u ++ m) = (⟨2, [], u, 0⟩ :: ts, 0) := by
  have hl := dec_len20 u (by omega)
  have hml := mores_len m hm
  have hr : InR (u : Int) := by unfold InR; omega
  rw [toks, if_neg (by rw [List.length_append]; omega), okL_ascii _ (fun b hb => by
    rcases List.mem_append.1 hb with hb | hb
    · exact dgB_low (dec_dg u b hb)
    · exact mores_low m hm b hb), if_pos rfl, toksL_long _ m 0 [] (dec_dg u) (dec_ne u) (by rw [(dec_pv u).2, ne_ok hr]) (mores_dig m hm) (by simp), (dec_pv u).1, nv_ok hr]
  exact mores_toks hm _ _

/-- The sign ahead of a digit. -/
theorem toksL_minus (b : UInt8) (r : List UInt8) (hb : dgB b = true) (a : Nat) (acc : List Tok) (ha : acc.length ≠ 200) : toksL (45 :: b :: r) a acc = toksL (b :: r) (a + 1) (acc ++ [⟨4, [45], 0, a⟩]) := by
  have h62 : (62 == b) = false := by
    rw [beq_eq_false_iff_ne]
    rintro rfl
    revert hb
    decide
  have hk : tokL (45 :: b :: r) = ⟨4, [45], 0, 1, 0⟩ := by
    have : signT (45 :: b :: r) = ⟨4, [45], 0, 1, 0⟩ := by
      simp [signT, signF, sgns, Lib.hasPrefix, List.isPrefixOf, h62]
    rw [tokL, show (45 :: b :: r).getD 0 0 = 45 from rfl, show letB 45 = false from by decide, if_neg (by simp), show dgB 45 = false from by decide, if_neg (by simp), if_neg (by decide), this]
  rw [toksL_tok (l := 45 :: b :: r) a acc (by simp) (gapL_none _ _ (by decide) (by decide)) (by rw [hk]) ha, hk]
  rfl

theorem toks_neg {m : List UInt8} (hm : m ∈ mores) (u : Nat) (hu : u ≤ 9223372036854775807) : ∃ ts, toks (45 :: Lib.decDigits u ++ m) = (⟨4, [45], 0, 0⟩ :: ⟨2, [], u, 1⟩ :: ts, 0) := by
  have hl := dec_len20 u (by omega)
  have hml := mores_len m hm
  have hr : InR (u : Int) := by unfold InR; omega
  rw [toks, if_neg (by rw [List.length_append, List.length_cons]; omega), okL_ascii _ (fun b hb => by
    rcases List.mem_append.1 hb with hb | hb
    · rcases List.mem_cons.1 hb with rfl | hb
      · decide
      · exact dgB_low (dec_dg u b hb)
    · exact mores_low m hm b hb), if_pos rfl]
  obtain ⟨b, r, he, _⟩ := (val_dec u).2.2
  have hb : dgB b = true := dec_dg u b (by rw [he]; simp)
  rw [he]
  show ∃ ts, toksL (45 :: b :: (r ++ m)) 0 [] = _
  rw [toksL_minus b (r ++ m) hb 0 [] (by simp), ← List.cons_append, ← he, toksL_long _ m _ _ (dec_dg u) (dec_ne u) (by rw [(dec_pv u).2, ne_ok hr]) (mores_dig m hm) (by simp), (dec_pv u).1, nv_ok hr]
  exact mores_toks2 hm _ _ _

theorem toks_min {m : List UInt8} (hm : m ∈ mores) : toks (45 :: Lib.decDigits 9223372036854775808 ++ m) = ([], 17) := by
  have hl := dec_len20 9223372036854775808 (by omega)
  have hml := mores_len m hm
  have hr : ¬ InR ((9223372036854775808 : Nat) : Int) := by unfold InR; omega
  have hp : pe (Lib.decDigits 9223372036854775808) = 17 := by rw [(dec_pv _).2, ne, if_neg hr]
  rw [toks, if_neg (by rw [List.length_append, List.length_cons]; omega), okL_ascii _ (fun b hb => by
    rcases List.mem_append.1 hb with hb | hb
    · rcases List.mem_cons.1 hb with rfl | hb
      · decide
      · exact dgB_low (dec_dg _ b hb)
    · exact mores_low m hm b hb), if_pos rfl]
  obtain ⟨b, r, he, _⟩ := (val_dec 9223372036854775808).2.2
  have hb : dgB b = true := dec_dg 9223372036854775808 b (by rw [he]; simp)
  have hd := dec_dg 9223372036854775808
  have hn := dec_ne 9223372036854775808
  rw [he] at hp hd hn ⊢
  show toksL (45 :: b :: (r ++ m)) 0 [] = _
  rw [toksL_minus b (r ++ m) hb 0 [] (by simp), ← List.cons_append, toksL_over _ m _ _ hd hn (by rw [hp]; decide) (mores_dig m hm), hp]
end Go.Proofs.YtfkbbenjmhngcaaDoor
