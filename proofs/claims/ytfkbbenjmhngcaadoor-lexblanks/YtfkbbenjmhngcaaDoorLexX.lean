/-
  chancelref4.next: what it returns.
-/
import Derived.Test.YtfkbbenjmhngcaaDoorLexW
import Derived.Test.YtfkbbenjmhngcaaDoorNRefW
import Derived.Test.YtfkbbenjmhngcaaDoorRefRead3
import Derived.Test.YtfkbbenjmhngcaaDoorRRunes
import Derived.RegionTactic
import Derived.ChangeAlike
namespace Go.Proofs.YtfkbbenjmhngcaaDoor
open Go.RowKit

/-- How far a row of bytes goes at a place. -/
theorem row_step (p : UInt8 → Bool) {s : ByteArray} {i : Nat} (hlt : i < s.size) : (p s[i] = true → i + ((s.data.toList.drop i).takeWhile p).length = (i + 1) + ((s.data.toList.drop (i + 1)).takeWhile p).length) ∧ (p s[i] = false → ((s.data.toList.drop i).takeWhile p).length = 0) := by
  rw [drop_at s i hlt, List.takeWhile_cons]
  constructor
  · intro h
    rw [if_pos h, List.length_cons]
    omega
  · intro h
    rw [if_neg (by rw [h]; simp)]
    rfl

theorem two_new (w : World) (o o' : Obj) : Below w.heap.size w ((w.alloc o).alloc o') := ((Below.refl _ w).alloc (Nat.le_refl _) o).alloc (by simp) o'

/-- What is read is made of runes. -/
theorem rdL_of : ∀ (m : Nat) (l : List UInt8) (xs : List Int) (pos : Int), l.length ≤ m → ofOk xs = true → (rdL l (ofL xs) pos).2.2 = 0 → ∃ ys, ofOk ys = true ∧ (rdL l (ofL xs) pos).1 = ofL ys := by
  intro m
  induction m with
  | zero =>
    intro l xs pos hm hx h
    have : l = [] := List.length_eq_zero_iff.1 (by omega)
    subst this
    rw [rdL_nil] at h
    simp at h
  | succ m ih =>
    intro l xs pos hm hx h
    by_cases hne : l = []
    · subst hne
      rw [rdL_nil] at h
      simp at h
    · have hl : 0 < l.length := List.length_pos_iff.2 hne
      rw [rdL_cons l _ pos hne] at h ⊢
      split
      · exact ⟨xs, hx, rfl⟩
      · rename_i h34
        rw [if_neg h34] at h
        split
        · rename_i hb
          rw [if_pos hb] at h
          simp at h
        · rename_i hb
          rw [if_neg hb] at h
          split
          · rename_i h0
            rw [if_pos h0] at h
            have hp := oneL_pos l hne (by simpa using hb) h0
            rw [← ofL_snoc] at h ⊢
            exact ih _ (xs ++ [(oneL l).1]) _ (by rw [List.length_drop]; omega) (by rw [ofOk_snoc, hx, hp.2.2]; rfl) h
          · rename_i h0
            rw [if_neg h0] at h
            exact absurd h h0
theorem rd_ok (l : List UInt8) (h : (rd l).2.2 = 0) : okL (rd l).1 = true := by
  unfold rd at h ⊢
  split
  · rename_i hp
    rw [if_pos hp] at h
    obtain ⟨ys, h1, h2⟩ := rdL_of _ (l.drop 1) [] 1 (Nat.le_refl _) rfl h
    rw [show rdL (l.drop 1) [] 1 = rdL (l.drop 1) (ofL []) 1 from rfl, h2]
    exact okL_ofL ys h1
  · rfl

/-- What next answers: the token at a place, how far it goes, its error. -/
def NextPost (l : List UInt8) (i : Nat) (w : World) : Ending → World → Prop := fun e w' => ∃ (k : Int) (y : ByteArray) (n : Int) (z : Int), e = .returned (.tuple #[.agg #[.int .i64 k, .string y, .int .i64 n, .int .i64 i], .int .i64 z, .int .i64 (tokL l).e]) ∧
  ((tokL l).e = 0 → k = (tokL l).k ∧ y = ⟨(tokL l).s.toArray⟩ ∧ n = (tokL l).n ∧ z = (tokL l).z) ∧ Below w.heap.size w w'

set_option maxHeartbeats 4000000 in
set_option maxRecDepth 1000000 in
theorem next_name (s : ByteArray) (i : Nat) (hlt : i < s.size) (hs : s.size ≤ 1048576) (h0 : letB s[i] = true) (w : World) :
    Calls Tryd.prog 26 #[.string s, .int .i64 i] w (NextPost (s.data.toList.drop i) i w) := by
  have j1 : (i : Int) < (s.size : Int) := by omega
  have L0 := letter_any (s[i].toNat : Int)
  rw [show letR (s[i].toNat : Int) = true from h0] at L0
  obtain ⟨E, hE⟩ : ∃ E, E = i + ((s.data.toList.drop i).takeWhile nmB).length := ⟨_, rfl⟩
  have HE := hide hE
  clear hE
  go_enter Tryd.func26, Tryd.ntmps26
  go_wp2_with (go_at_call 45; refine (L0 _).mono ?_; rintro e w' ⟨rfl, rfl⟩)
  go_loop [8] (fun kv => ∃ k : Nat, i ≤ k ∧ k ≤ s.size ∧ kv = .int .i64 k ∧ k + ((s.data.toList.drop k).takeWhile nmB).length = E) (fun kv => s.size - (intOf kv).toNat)
  case atStart => exact ⟨i, Nat.le_refl _, Nat.le_of_lt hlt, rfl, (unhide HE).symm⟩
  case round =>
    obtain ⟨k, hik, hks, rfl, hacc⟩ := hrel
    have Hacc := hide hacc
    clear hacc
    by_cases hkl : k < s.size
    · have j2 : (k : Int) < (s.size : Int) := by omega
      have L := letter_any (s[k].toNat : Int)
      have F := figure_any (s[k].toNat : Int)
      have more : nmB s[k] = true → (k + 1) + ((s.data.toList.drop (k + 1)).takeWhile nmB).length = E := fun h => by rw [← (row_step nmB hkl).1 h]; exact unhide Hacc
      have less : nmB s[k] = false → k = E := fun h => by have := (row_step nmB hkl).2 h; have := unhide Hacc; omega
      unfold nmB at more less
      cases hl : letR (s[k].toNat : Int) with
      | true =>
        rw [hl] at L more
        have Hm := hide (more rfl)
        clear more less hl
        go_wp2_with (go_at_call 45; refine (L _).mono ?_; rintro e w' ⟨rfl, rfl⟩)
        go_round
        case rel => exact ⟨k + 1, by omega, by omega, by go_num, unhide Hm⟩
        case measure =>
          simp only [intOf]
          omega
      | false =>
        rw [hl] at L more less
        cases hd : digR (s[k].toNat : Int) with
        | true =>
          rw [hd] at F more
          have Hm := hide (more rfl)
          clear more less hl hd
          go_wp2_with (first | (go_at_call 45; refine (L _).mono ?_; rintro e w' ⟨rfl, rfl⟩) | (go_at_call 46; refine (F _).mono ?_; rintro e w' ⟨rfl, rfl⟩))
          go_round
          case rel => exact ⟨k + 1, by omega, by omega, by go_num, unhide Hm⟩
          case measure =>
            simp only [intOf]
            omega
        | false =>
          rw [hd] at F less
          have hkE := less rfl
          subst hkE
          clear more less hl hd
          go_wp2_with (first | (go_at_call 45; refine (L _).mono ?_; rintro e w' ⟨rfl, rfl⟩) | (go_at_call 46; refine (F _).mono ?_; rintro e w' ⟨rfl, rfl⟩))
          obtain ⟨row, hrow⟩ : ∃ row : ByteArray, row = s.extract i k := ⟨_, rfl⟩
          have hrl : row.data.toList = (s.data.toList.drop i).takeWhile nmB := by
            rw [hrow, extract_list, show k - i = ((s.data.toList.drop i).takeWhile nmB).length by have := unhide HE; omega, takeWhile_take]
          have hsl : ∀ W, (Instr.slice 9 (.string s) (some (.int .i64 (i : Int))) (some (.int .i64 (k : Int))) none).run Tryd.prog W = .ok (.string row) W := fun W => by
            have := run_slice_string W 9 s .i64 .i64 (i : Int) (k : Int) Tryd.underlying9 (by omega) (by omega) (by omega)
            rw [this, Int.toNat_natCast, Int.toNat_natCast, hrow]
          have hkl2 : row.data.toList.length = k - i := by rw [hrl]; have := unhide HE; omega
          have htk : tokL (s.data.toList.drop i) = nameT row.data.toList := by
            rw [hrl, tokL, drop_at s i hlt, show (s[i] :: s.data.toList.drop (i + 1)).getD 0 0 = s[i] from rfl, h0, if_pos rfl]
          have Htk := hide htk
          have Hkl2 := hide hkl2
          clear hrow hrl htk hkl2
          by_cases h12 : 12 < k - i
          · have i3 : (12 : Int) < (k : Int) - (i : Int) := by omega
            have hT : tokL (s.data.toList.drop i) = badT 5 := by rw [unhide Htk, nameT, unhide Hkl2, if_pos h12]
            have HT := hide hT
            clear hT
            go_region
            all_goals (
              go_wp2
              refine bodyPost_ret (v := .tuple #[.agg #[.int .i64 1, .string row, .int .i64 0, .int .i64 i], .int .i64 0, .int .i64 5]) (by simp [results, Tryd.results26, go_sem]) rfl ?_
              refine ⟨1, row, 0, 0, by rw [unhide HT]; rfl, fun h => ?_, (two_new _ _ _).drew⟩
              rw [unhide HT] at h
              cases h)
          · have i3 : ¬ (12 : Int) < (k : Int) - (i : Int) := by omega
            have hT : tokL (s.data.toList.drop i) = ⟨1, row.data.toList, 0, k - i, 0⟩ := by rw [unhide Htk, nameT, unhide Hkl2, if_neg h12]
            have HT := hide hT
            clear hT
            go_region
            all_goals (
              go_wp2
              refine bodyPost_ret (v := .tuple #[.agg #[.int .i64 1, .string row, .int .i64 0, .int .i64 i], .int .i64 ((k : Int) - (i : Int)), .int .i64 0]) (by simp [results, Tryd.results26, go_sem]) rfl ?_
              refine ⟨1, row, 0, (k : Int) - (i : Int), by rw [unhide HT], fun _ => ?_, (two_new _ _ _).drew⟩
              rw [unhide HT]
              exact ⟨rfl, (ba_of row).symm, rfl, by show _ = ((k - i : Nat) : Int); omega⟩)
    · have j2 : ¬ (k : Int) < (s.size : Int) := by omega
      have hkE : k = E := by have := unhide Hacc; rw [drop_end hkl] at this; simpa using this
      subst hkE
      go_wp2
      obtain ⟨row, hrow⟩ : ∃ row : ByteArray, row = s.extract i k := ⟨_, rfl⟩
      have hrl : row.data.toList = (s.data.toList.drop i).takeWhile nmB := by
        rw [hrow, extract_list, show k - i = ((s.data.toList.drop i).takeWhile nmB).length by have := unhide HE; omega, takeWhile_take]
      have hsl : ∀ W, (Instr.slice 9 (.string s) (some (.int .i64 (i : Int))) (some (.int .i64 (k : Int))) none).run Tryd.prog W = .ok (.string row) W := fun W => by
        have := run_slice_string W 9 s .i64 .i64 (i : Int) (k : Int) Tryd.underlying9 (by omega) (by omega) (by omega)
        rw [this, Int.toNat_natCast, Int.toNat_natCast, hrow]
      have hkl2 : row.data.toList.length = k - i := by rw [hrl]; have := unhide HE; omega
      have htk : tokL (s.data.toList.drop i) = nameT row.data.toList := by
        rw [hrl, tokL, drop_at s i hlt, show (s[i] :: s.data.toList.drop (i + 1)).getD 0 0 = s[i] from rfl, h0, if_pos rfl]
      have Htk := hide htk
      have Hkl2 := hide hkl2
      clear hrow hrl htk hkl2
      by_cases h12 : 12 < k - i
      · have i3 : (12 : Int) < (k : Int) - (i : Int) := by omega
        have hT : tokL (s.data.toList.drop i) = badT 5 := by rw [unhide Htk, nameT, unhide Hkl2, if_pos h12]
        have HT := hide hT
        clear hT
        go_region
        all_goals (
          go_wp2
          refine bodyPost_ret (v := .tuple #[.agg #[.int .i64 1, .string row, .int .i64 0, .int .i64 i], .int .i64 0, .int .i64 5]) (by simp [results, Tryd.results26, go_sem]) rfl ?_
          refine ⟨1, row, 0, 0, by rw [unhide HT]; rfl, fun h => ?_, (two_new _ _ _).drew⟩
          rw [unhide HT] at h
          cases h)
      · have i3 : ¬ (12 : Int) < (k : Int) - (i : Int) := by omega
        have hT : tokL (s.data.toList.drop i) = ⟨1, row.data.toList, 0, k - i, 0⟩ := by rw [unhide Htk, nameT, unhide Hkl2, if_neg h12]
        have HT := hide hT
        clear hT
        go_region
        all_goals (
          go_wp2
          refine bodyPost_ret (v := .tuple #[.agg #[.int .i64 1, .string row, .int .i64 0, .int .i64 i], .int .i64 ((k : Int) - (i : Int)), .int .i64 0]) (by simp [results, Tryd.results26, go_sem]) rfl ?_
          refine ⟨1, row, 0, (k : Int) - (i : Int), by rw [unhide HT], fun _ => ?_, (two_new _ _ _).drew⟩
          rw [unhide HT]
          exact ⟨rfl, (ba_of row).symm, rfl, by show _ = ((k - i : Nat) : Int); omega⟩)

set_option maxHeartbeats 4000000 in
set_option maxRecDepth 1000000 in
theorem next_long (s : ByteArray) (i : Nat) (hlt : i < s.size) (hs : s.size ≤ 1048576) (h00 : letB s[i] = false) (h0 : dgB s[i] = true) (w : World) :
    Calls Tryd.prog 26 #[.string s, .int .i64 i] w (NextPost (s.data.toList.drop i) i w) := by
  have j1 : (i : Int) < (s.size : Int) := by omega
  have L0 := letter_any (s[i].toNat : Int)
  rw [show letR (s[i].toNat : Int) = false from h00] at L0
  have F0 := figure_any (s[i].toNat : Int)
  rw [show digR (s[i].toNat : Int) = true from h0] at F0
  obtain ⟨E, hE⟩ : ∃ E, E = i + ((s.data.toList.drop i).takeWhile dgB).length := ⟨_, rfl⟩
  have HE := hide hE
  clear hE
  go_enter Tryd.func26, Tryd.ntmps26
  go_wp2_with (first | (go_at_call 45; refine (L0 _).mono ?_; rintro e w' ⟨rfl, rfl⟩) | (go_at_call 46; refine (F0 _).mono ?_; rintro e w' ⟨rfl, rfl⟩))
  go_loop [8] (fun kv => ∃ k : Nat, i ≤ k ∧ k ≤ s.size ∧ kv = .int .i64 k ∧ k + ((s.data.toList.drop k).takeWhile dgB).length = E) (fun kv => s.size - (intOf kv).toNat)
  case atStart => exact ⟨i, Nat.le_refl _, Nat.le_of_lt hlt, rfl, (unhide HE).symm⟩
  case round =>
    obtain ⟨k, hik, hks, rfl, hacc⟩ := hrel
    have Hacc := hide hacc
    clear hacc
    by_cases hkl : k < s.size
    · have j2 : (k : Int) < (s.size : Int) := by omega
      have F := figure_any (s[k].toNat : Int)
      have more : dgB s[k] = true → (k + 1) + ((s.data.toList.drop (k + 1)).takeWhile dgB).length = E := fun h => by rw [← (row_step dgB hkl).1 h]; exact unhide Hacc
      have less : dgB s[k] = false → k = E := fun h => by have := (row_step dgB hkl).2 h; have := unhide Hacc; omega
      unfold dgB at more less
      cases hd : digR (s[k].toNat : Int) with
      | true =>
        rw [hd] at F more
        have Hm := hide (more rfl)
        clear more less hd
        go_wp2_with (go_at_call 46; refine (F _).mono ?_; rintro e w' ⟨rfl, rfl⟩)
        go_round
        case rel => exact ⟨k + 1, by omega, by omega, by go_num, unhide Hm⟩
        case measure =>
          simp only [intOf]
          omega
      | false =>
        rw [hd] at F less
        have hkE := less rfl
        subst hkE
        clear more less hd
        obtain ⟨row, hrow⟩ : ∃ row : ByteArray, row = s.extract i k := ⟨_, rfl⟩
        have hrl : row.data.toList = (s.data.toList.drop i).takeWhile dgB := by
          rw [hrow, extract_list, show k - i = ((s.data.toList.drop i).takeWhile dgB).length by have := unhide HE; omega, takeWhile_take]
        have hsl : ∀ W, (Instr.slice 9 (.string s) (some (.int .i64 (i : Int))) (some (.int .i64 (k : Int))) none).run Tryd.prog W = .ok (.string row) W := fun W => by
          have := run_slice_string W 9 s .i64 .i64 (i : Int) (k : Int) Tryd.underlying9 (by omega) (by omega) (by omega)
          rw [this, Int.toNat_natCast, Int.toNat_natCast, hrow]
        have hkl2 : row.data.toList.length = k - i := by rw [hrl]; have := unhide HE; omega
        have htk : tokL (s.data.toList.drop i) = longT row.data.toList := by
          rw [hrl, tokL, drop_at s i hlt, show (s[i] :: s.data.toList.drop (i + 1)).getD 0 0 = s[i] from rfl, h00, if_neg (by simp), h0, if_pos rfl]
        have P := fun W => rparse_any row (by rw [Lib.size_eq, hkl2]; omega) W
        have HT := hide (show (tokL (s.data.toList.drop i)).e = pe row.data.toList ∧ (pe row.data.toList = 0 → tokL (s.data.toList.drop i) = ⟨2, [], pv row.data.toList, k - i, 0⟩) from by
          rw [htk, longT]
          by_cases h : pe row.data.toList = 0
          · rw [if_pos h, hkl2]
            exact ⟨h.symm, fun _ => rfl⟩
          · rw [if_neg h]
            exact ⟨rfl, fun h2 => absurd h2 h⟩)
        clear hrow hrl htk hkl2
        generalize pe row.data.toList = pe1 at *
        generalize pv row.data.toList = pv1 at *
        go_wp2_with (first | (go_at_call 46; refine (F _).mono ?_; rintro e w' ⟨rfl, rfl⟩) | (go_at_call 47; refine (P _).mono ?_; rintro e w' ⟨rfl, rfl⟩))
        refine bodyPost_ret (v := .tuple #[.agg #[.int .i64 2, .string ⟨#[]⟩, .int .i64 pv1, .int .i64 i], .int .i64 ((k : Int) - (i : Int)), .int .i64 pe1]) (by simp [results, Tryd.results26, go_sem]) rfl ?_
        refine ⟨2, ⟨#[]⟩, pv1, (k : Int) - (i : Int), by rw [(unhide HT).1], fun h => ?_, two_new _ _ _⟩
        rw [(unhide HT).1] at h
        rw [(unhide HT).2 h]
        exact ⟨rfl, rfl, rfl, by show _ = ((k - i : Nat) : Int); omega⟩
    · have j2 : ¬ (k : Int) < (s.size : Int) := by omega
      have hkE : k = E := by have := unhide Hacc; rw [drop_end hkl] at this; simpa using this
      subst hkE
      obtain ⟨row, hrow⟩ : ∃ row : ByteArray, row = s.extract i k := ⟨_, rfl⟩
      have hrl : row.data.toList = (s.data.toList.drop i).takeWhile dgB := by
        rw [hrow, extract_list, show k - i = ((s.data.toList.drop i).takeWhile dgB).length by have := unhide HE; omega, takeWhile_take]
      have hsl : ∀ W, (Instr.slice 9 (.string s) (some (.int .i64 (i : Int))) (some (.int .i64 (k : Int))) none).run Tryd.prog W = .ok (.string row) W := fun W => by
        have := run_slice_string W 9 s .i64 .i64 (i : Int) (k : Int) Tryd.underlying9 (by omega) (by omega) (by omega)
        rw [this, Int.toNat_natCast, Int.toNat_natCast, hrow]
      have hkl2 : row.data.toList.length = k - i := by rw [hrl]; have := unhide HE; omega
      have htk : tokL (s.data.toList.drop i) = longT row.data.toList := by
        rw [hrl, tokL, drop_at s i hlt, show (s[i] :: s.data.toList.drop (i + 1)).getD 0 0 = s[i] from rfl, h00, if_neg (by simp), h0, if_pos rfl]
      have P := fun W => rparse_any row (by rw [Lib.size_eq, hkl2]; omega) W
      have HT := hide (show (tokL (s.data.toList.drop i)).e = pe row.data.toList ∧ (pe row.data.toList = 0 → tokL (s.data.toList.drop i) = ⟨2, [], pv row.data.toList, k - i, 0⟩) from by
        rw [htk, longT]
        by_cases h : pe row.data.toList = 0
        · rw [if_pos h, hkl2]
          exact ⟨h.symm, fun _ => rfl⟩
        · rw [if_neg h]
          exact ⟨rfl, fun h2 => absurd h2 h⟩)
      clear hrow hrl htk hkl2
      generalize pe row.data.toList = pe1 at *
      generalize pv row.data.toList = pv1 at *
      go_wp2_with (go_at_call 47; refine (P _).mono ?_; rintro e w' ⟨rfl, rfl⟩)
      refine bodyPost_ret (v := .tuple #[.agg #[.int .i64 2, .string ⟨#[]⟩, .int .i64 pv1, .int .i64 i], .int .i64 ((k : Int) - (i : Int)), .int .i64 pe1]) (by simp [results, Tryd.results26, go_sem]) rfl ?_
      refine ⟨2, ⟨#[]⟩, pv1, (k : Int) - (i : Int), by rw [(unhide HT).1], fun h => ?_, two_new _ _ _⟩
      rw [(unhide HT).1] at h
      rw [(unhide HT).2 h]
      exact ⟨rfl, rfl, rfl, by show _ = ((k - i : Nat) : Int); omega⟩

set_option maxHeartbeats 4000000 in
set_option maxRecDepth 1000000 in
theorem next_sign (s : ByteArray) (i : Nat) (hlt : i < s.size) (hs : s.size ≤ 1048576) (h00 : letB s[i] = false) (h0 : dgB s[i] = false) (h34 : ¬ (s[i].toNat : Int) = 34) (w : World) :
    Calls Tryd.prog 26 #[.string s, .int .i64 i] w (NextPost (s.data.toList.drop i) i w) := by
  have j1 : (i : Int) < (s.size : Int) := by omega
  have L0 := letter_any (s[i].toNat : Int)
  rw [show letR (s[i].toNat : Int) = false from h00] at L0
  have F0 := figure_any (s[i].toNat : Int)
  rw [show digR (s[i].toNat : Int) = false from h0] at F0
  have e34 : ((s[i].toNat : Int) == 34) = false := by simpa using h34
  have S := fun W => sign_any s i hlt hs W
  have htk : tokL (s.data.toList.drop i) = signT (s.data.toList.drop i) := by
    rw [tokL, show (s.data.toList.drop i).getD 0 0 = s[i] by rw [drop_at s i hlt]; rfl, h00, if_neg (by simp), h0, if_neg (by simp), if_neg h34]
  obtain ⟨z, hz⟩ : ∃ z, z = (signT (s.data.toList.drop i)).z := ⟨_, rfl⟩
  rw [← hz] at S
  by_cases he : (signT (s.data.toList.drop i)).e = 0
  · obtain ⟨g, hg, hp, eg⟩ := signF_at _ sgns he
    have hgl := (sgns_all g hg).1
    have hzg : z = g.length := by rw [hz, signT, eg]
    obtain ⟨t, ht⟩ := hasPrefix_get hp
    have hzl : i + z ≤ s.size := by
      have := congrArg List.length ht
      rw [List.length_drop, List.length_append, ← Lib.size_eq] at this
      omega
    obtain ⟨row, hrow⟩ : ∃ row : ByteArray, row = s.extract i (i + z) := ⟨_, rfl⟩
    have hrl : row.data.toList = g := by
      rw [hrow, extract_list, ht, show i + z - i = g.length by omega, List.take_left]
    have hsl : ∀ W, (Instr.slice 9 (.string s) (some (.int .i64 (i : Int))) (some (.int .i64 ((i : Int) + (z : Int)))) none).run Tryd.prog W = .ok (.string row) W := fun W => by
      have := run_slice_string W 9 s .i64 .i64 (i : Int) ((i : Int) + (z : Int)) Tryd.underlying9 (by omega) (by omega) (by omega)
      rw [this, Int.toNat_natCast, show ((i : Int) + (z : Int)).toNat = i + z by omega, hrow]
    have hT : tokL (s.data.toList.drop i) = ⟨4, row.data.toList, 0, z, 0⟩ := by rw [htk, signT, eg, hrl, hzg]
    have HT := hide hT
    have ez : ((z : Int) == 0) = false := by simpa using (show ¬ (z : Int) = 0 by omega)
    have hzs : z ≤ 1048576 := by omega
    clear hT hrow hrl ht hzg hgl eg hp hg he hz htk h34
    go_enter Tryd.func26, Tryd.ntmps26
    go_wp2_with (first | (go_at_call 45; refine (L0 _).mono ?_; rintro e w' ⟨rfl, rfl⟩) | (go_at_call 46; refine (F0 _).mono ?_; rintro e w' ⟨rfl, rfl⟩) | (go_at_call 50; refine (S _).mono ?_; rintro e w' ⟨rfl, rfl⟩))
    go_region
    all_goals (
      go_wp2
      refine bodyPost_ret (v := .tuple #[.agg #[.int .i64 4, .string row, .int .i64 0, .int .i64 i], .int .i64 z, .int .i64 0]) (by simp [results, Tryd.results26, go_sem]) rfl ?_
      refine ⟨4, row, 0, z, by rw [unhide HT], fun _ => ?_, (two_new _ _ _).drew⟩
      rw [unhide HT]
      exact ⟨rfl, (ba_of row).symm, rfl, rfl⟩)
  · have hb : signT (s.data.toList.drop i) = badT 12 := by
      have : ∀ gs : List (List UInt8), (signF (s.data.toList.drop i) gs).e ≠ 0 → signF (s.data.toList.drop i) gs = badT 12 := by
        intro gs
        induction gs with
        | nil => intro _; rfl
        | cons g r ih =>
          intro h
          rw [signF] at h ⊢
          split
          · rename_i hp
            rw [if_pos hp] at h
            exact absurd rfl h
          · rename_i hp
            rw [if_neg hp] at h
            exact ih h
      exact this sgns he
    have hz0 : z = 0 := by rw [hz, hb]; rfl
    subst hz0
    have HT := hide (htk.trans hb)
    clear hb he hz htk h34
    go_enter Tryd.func26, Tryd.ntmps26
    go_wp2_with (first | (go_at_call 45; refine (L0 _).mono ?_; rintro e w' ⟨rfl, rfl⟩) | (go_at_call 46; refine (F0 _).mono ?_; rintro e w' ⟨rfl, rfl⟩) | (go_at_call 50; refine (S _).mono ?_; rintro e w' ⟨rfl, rfl⟩))
    refine bodyPost_ret (v := .tuple #[.agg #[.int .i64 0, .string ⟨#[]⟩, .int .i64 0, .int .i64 i], .int .i64 0, .int .i64 12]) (by simp [results, Tryd.results26, go_sem]) rfl ?_
    refine ⟨0, ⟨#[]⟩, 0, 0, by rw [unhide HT]; rfl, fun h => ?_, two_new _ _ _⟩
    rw [unhide HT] at h
    cases h
end Go.Proofs.YtfkbbenjmhngcaaDoor
