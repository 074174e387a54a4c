/-
  chancellaw4.LexNumbers: the walk.
-/
import Derived.Test.YtfkbbenjmhngcaaDoorLexK
import Derived.Test.YtfkbbenjmhngcaaDoorLexR
import Derived.Test.YtfkbbenjmhngcaaDoorNRefT
import Derived.Test.YtfkbbenjmhngcaaDoorLArgs
namespace Go.Proofs.YtfkbbenjmhngcaaDoor
open Go.RowKit

def moreV : Array Value := #[.string ⟨#[]⟩, .string ⟨#[32]⟩, .string ⟨#[46]⟩, .string ⟨#[120]⟩, .string ⟨#[43, 49]⟩]
theorem more_at (q : Int) (h0 : 0 ≤ q) (h5 : q < 5) (W : World) : ∃ M : ByteArray, M.data.toList ∈ mores ∧ M.size ≤ 2 ∧ (W.alloc (.cells moreV 9)).cell? ⟨W.heap.size, q.toNat, none⟩ = some (.string M) := by
  have hj5 : q = 0 ∨ q = 1 ∨ q = 2 ∨ q = 3 ∨ q = 4 := by omega
  rcases hj5 with rfl | rfl | rfl | rfl | rfl
  · exact ⟨⟨#[]⟩, by decide, by decide, by simp [moreV]⟩
  · exact ⟨⟨#[32]⟩, by decide, by decide, by simp [moreV]⟩
  · exact ⟨⟨#[46]⟩, by decide, by decide, by simp [moreV]⟩
  · exact ⟨⟨#[120]⟩, by decide, by decide, by simp [moreV]⟩
  · exact ⟨⟨#[43, 49]⟩, by decide, by decide, by simp [moreV]⟩

set_option maxHeartbeats 4000000 in
set_option maxRecDepth 1000000 in
theorem numbers_min (x : Int) (w : World) (hS : Signs w) :
    Calls Tryd.prog 6 #[.int .i64 (-9223372036854775808), .int .i64 x] w fun e w' => e = .returned (.bool true) ∧ Below w.heap.size w w' := by
  have K := known4_any w hS
  have X := rtext_any (-9223372036854775808) (by unfold InR; omega)
  have hit : Lib.itoa (-9223372036854775808) = 45 :: Lib.decDigits 9223372036854775808 := Lib.itoa_neg 9223372036854775808 (by omega)
  obtain ⟨tx, htx⟩ : ∃ tx : ByteArray, tx = ⟨(Lib.itoa (-9223372036854775808)).toArray⟩ := ⟨_, rfl⟩
  rw [← htx] at X
  have hl : tx.data.toList = 45 :: Lib.decDigits 9223372036854775808 := by rw [htx, hit]
  have hs : tx.size ≤ 21 := by rw [Lib.size_eq, hl, List.length_cons]; have := dec_len20 9223372036854775808 (by omega); omega
  have T : ∀ (M : ByteArray) (W : World), M.data.toList ∈ mores → M.size ≤ 2 → Signs W → Calls Tryd.prog 12 #[.string (tx ++ M)] W fun e w' => ∃ ao cap, e = .returned (.tuple #[.slice ao 0 cap, .int .i64 17]) ∧ Below W.heap.size W w' := by
    intro M W hM hMs hW
    refine (tokens_any (tx ++ M) W hW (by rw [ByteArray.size_append]; omega)).mono ?_
    rintro e w' ⟨v, rfl, hown, hb⟩
    have e1 : toks (tx ++ M).data.toList = ([], 17) := by rw [show (tx ++ M).data.toList = tx.data.toList ++ M.data.toList by simp, hl]; exact toks_min hM
    rw [e1] at hown ⊢
    obtain ⟨ao, cap, rfl⟩ := owns_any hown
    exact ⟨ao, cap, rfl, hb⟩
  clear hit htx hl
  have W5 := within4_any x 5 (by decide) (by decide)
  obtain ⟨q, hq⟩ : ∃ q, q = x % 5 := ⟨_, rfl⟩
  have q0 : 0 ≤ q := by omega
  have q1 : q < 5 := by omega
  rw [← hq] at W5
  clear hq
  go_enter Tryd.func6, Tryd.ntmps6
  go_wp2_with fail
  refine K.mono ?_
  rintro e w1 ⟨rfl, b1⟩
  go_wp2_with fail
  refine (X _).mono ?_
  rintro e w2 ⟨rfl, b2⟩
  have b12 := b1.trans (b2.mono b1.size)
  obtain ⟨M, hM, hMs, hcell⟩ := more_at q q0 q1 w2
  have b3 : Below w.heap.size w (w2.alloc (.cells moreV 9)) := b12.alloc b12.size _
  unfold moreV at hcell b3
  go_wp2_with fail
  generalize w2.alloc _ = w3 at *
  refine (W5 _).mono ?_
  rintro e w3' ⟨rfl, rfl⟩
  go_wp2_with fail
  refine (T M _ hM hMs (hS.below b3)).mono ?_
  rintro e w4 ⟨ao, cap, rfl, b4⟩
  go_wp2
  go_ret
  exact ⟨rfl, b3.trans (b4.mono b3.size)⟩

set_option maxHeartbeats 4000000 in
set_option maxRecDepth 1000000 in
theorem numbers_neg (a : Int) (ha : InR a) (hn : a < 0) (hm : a ≠ -9223372036854775808) (x : Int) (w : World) (hS : Signs w) :
    Calls Tryd.prog 6 #[.int .i64 a, .int .i64 x] w fun e w' => e = .returned (.bool true) ∧ Below w.heap.size w w' := by
  have K := known4_any w hS
  have X := rtext_any a ha
  obtain ⟨a0, a1⟩ := ha
  obtain ⟨u, hu⟩ : ∃ u : Nat, a = -(u : Int) := ⟨a.natAbs, by omega⟩
  have hit : Lib.itoa a = 45 :: Lib.decDigits u := by rw [hu]; exact Lib.itoa_neg u (by omega)
  obtain ⟨tx, htx⟩ : ∃ tx : ByteArray, tx = ⟨(Lib.itoa a).toArray⟩ := ⟨_, rfl⟩
  rw [← htx] at X
  have hl : tx.data.toList = 45 :: Lib.decDigits u := by rw [htx, hit]
  have hs : tx.size ≤ 21 := by rw [Lib.size_eq, hl, List.length_cons]; have := dec_len20 u (by omega); omega
  have T : ∀ (M : ByteArray) (W : World), M.data.toList ∈ mores → M.size ≤ 2 → Signs W → Calls Tryd.prog 12 #[.string (tx ++ M)] W fun e w' => ∃ (g n cap : Nat), e = .returned (.tuple #[.slice (some ⟨g, 0, none⟩) n cap, .int .i64 0]) ∧ 2 ≤ n ∧ Below W.heap.size W w' ∧
      w'.cell? ⟨g, 1, none⟩ = some (.string ⟨#[45]⟩) ∧ w'.cell? ⟨g, 4, none⟩ = some (.int .i64 2) ∧ w'.cell? ⟨g, 6, none⟩ = some (.int .i64 (-a)) := by
    intro M W hM hMs hW
    refine (tokens_any (tx ++ M) W hW (by rw [ByteArray.size_append]; omega)).mono ?_
    rintro e w' ⟨v, rfl, hown, hb⟩
    obtain ⟨ts, e0⟩ := toks_neg hM u (by omega)
    have e1 : (tx ++ M).data.toList = tx.data.toList ++ M.data.toList := by simp
    rw [hl] at e1
    rw [← e1] at e0
    rw [e0] at hown ⊢
    obtain ⟨g, cap, rfl, _, _, _, hc⟩ := owns_cells hown (by simp)
    refine ⟨g, _, cap, rfl, by simp, hb, hc 1 _ rfl, hc 4 _ rfl, ?_⟩
    rw [show -a = (u : Int) by omega]
    exact hc 6 _ rfl
  clear hit htx hl hu
  have W5 := within4_any x 5 (by decide) (by decide)
  obtain ⟨q, hq⟩ : ∃ q, q = x % 5 := ⟨_, rfl⟩
  have q0 : 0 ≤ q := by omega
  have q1 : q < 5 := by omega
  rw [← hq] at W5
  clear hq
  have hmb : (a == -9223372036854775808) = false := by simpa using hm
  have hwr : IntKind.i64.wrap (0 - a) = -a := by rw [(wrap_add (0 - a) (by omega) (by omega)).1 (by unfold InR; omega)]; omega
  go_enter Tryd.func6, Tryd.ntmps6
  go_wp2_with fail
  refine K.mono ?_
  rintro e w1 ⟨rfl, b1⟩
  go_wp2_with fail
  refine (X _).mono ?_
  rintro e w2 ⟨rfl, b2⟩
  have b12 := b1.trans (b2.mono b1.size)
  obtain ⟨M, hM, hMs, hcell⟩ := more_at q q0 q1 w2
  have b3 : Below w.heap.size w (w2.alloc (.cells moreV 9)) := b12.alloc b12.size _
  unfold moreV at hcell b3
  go_wp2_with fail
  generalize w2.alloc _ = w3 at *
  refine (W5 _).mono ?_
  rintro e w3' ⟨rfl, rfl⟩
  go_wp2_with fail
  refine (T M _ hM hMs (hS.below b3)).mono ?_
  rintro e w4 ⟨g, n, cap, rfl, hn2, b4, c1, c4, c6⟩
  have hn3 : (2 : Int) ≤ (n : Int) := by omega
  go_wp2
  go_ret
  exact ⟨by simp, b3.trans (b4.mono b3.size)⟩

set_option maxHeartbeats 4000000 in
set_option maxRecDepth 1000000 in
theorem numbers_pos (a : Int) (ha : InR a) (hn : 0 ≤ a) (x : Int) (w : World) (hS : Signs w) :
    Calls Tryd.prog 6 #[.int .i64 a, .int .i64 x] w fun e w' => e = .returned (.bool true) ∧ Below w.heap.size w w' := by
  have K := known4_any w hS
  have X := rtext_any a ha
  obtain ⟨a0, a1⟩ := ha
  obtain ⟨u, hu⟩ : ∃ u : Nat, a = (u : Int) := ⟨a.toNat, by omega⟩
  have hit : Lib.itoa a = Lib.decDigits u := by rw [hu]; exact Lib.itoa_nonneg u
  obtain ⟨tx, htx⟩ : ∃ tx : ByteArray, tx = ⟨(Lib.itoa a).toArray⟩ := ⟨_, rfl⟩
  rw [← htx] at X
  have hl : tx.data.toList = Lib.decDigits u := by rw [htx, hit]
  have hs : tx.size ≤ 21 := by rw [Lib.size_eq, hl]; have := dec_len20 u (by omega); omega
  have T : ∀ (M : ByteArray) (W : World), M.data.toList ∈ mores → M.size ≤ 2 → Signs W → Calls Tryd.prog 12 #[.string (tx ++ M)] W fun e w' => ∃ (g n cap : Nat), e = .returned (.tuple #[.slice (some ⟨g, 0, none⟩) n cap, .int .i64 0]) ∧ 1 ≤ n ∧ Below W.heap.size W w' ∧
      w'.cell? ⟨g, 0, none⟩ = some (.int .i64 2) ∧ w'.cell? ⟨g, 2, none⟩ = some (.int .i64 a) ∧ w'.cell? ⟨g, 3, none⟩ = some (.int .i64 0) := by
    intro M W hM hMs hW
    refine (tokens_any (tx ++ M) W hW (by rw [ByteArray.size_append]; omega)).mono ?_
    rintro e w' ⟨v, rfl, hown, hb⟩
    obtain ⟨ts, e0⟩ := toks_pos hM u (by omega)
    have e1 : (tx ++ M).data.toList = tx.data.toList ++ M.data.toList := by simp
    rw [hl] at e1
    rw [← e1] at e0
    rw [e0] at hown ⊢
    obtain ⟨g, cap, rfl, _, _, _, hc⟩ := owns_cells hown (by simp)
    refine ⟨g, _, cap, rfl, by simp, hb, hc 0 _ rfl, ?_, hc 3 _ rfl⟩
    rw [hu]
    exact hc 2 _ rfl
  clear hit htx hl hu
  have W5 := within4_any x 5 (by decide) (by decide)
  obtain ⟨q, hq⟩ : ∃ q, q = x % 5 := ⟨_, rfl⟩
  have q0 : 0 ≤ q := by omega
  have q1 : q < 5 := by omega
  rw [← hq] at W5
  clear hq
  have hmb : (a == -9223372036854775808) = false := by simpa using (show ¬ a = -9223372036854775808 by omega)
  have hn0 : ¬ a < 0 := by omega
  go_enter Tryd.func6, Tryd.ntmps6
  go_wp2_with fail
  refine K.mono ?_
  rintro e w1 ⟨rfl, b1⟩
  go_wp2_with fail
  refine (X _).mono ?_
  rintro e w2 ⟨rfl, b2⟩
  have b12 := b1.trans (b2.mono b1.size)
  obtain ⟨M, hM, hMs, hcell⟩ := more_at q q0 q1 w2
  have b3 : Below w.heap.size w (w2.alloc (.cells moreV 9)) := b12.alloc b12.size _
  unfold moreV at hcell b3
  go_wp2_with fail
  generalize w2.alloc _ = w3 at *
  refine (W5 _).mono ?_
  rintro e w3' ⟨rfl, rfl⟩
  go_wp2_with fail
  refine (T M _ hM hMs (hS.below b3)).mono ?_
  rintro e w4 ⟨g, n, cap, rfl, hn2, b4, c1, c4, c6⟩
  have hn3 : (1 : Int) ≤ (n : Int) := by omega
  go_wp2
  go_ret
  exact ⟨by simp, b3.trans (b4.mono b3.size)⟩

theorem numbers_walk (a : Int) (ha : InR a) (x : Int) (w : World) (hS : Signs w) :
    Calls Tryd.prog 6 #[.int .i64 a, .int .i64 x] w fun e w' => e = .returned (.bool true) ∧ Below w.heap.size w w' := by
  by_cases h : a < 0
  · by_cases hm : a = -9223372036854775808
    · subst hm
      exact numbers_min x w hS
    · exact numbers_neg a ha h hm x w hS
  · exact numbers_pos a ha (by omega) x w hS
end Go.Proofs.YtfkbbenjmhngcaaDoor
