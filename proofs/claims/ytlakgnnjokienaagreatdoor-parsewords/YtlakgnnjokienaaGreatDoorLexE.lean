/-
  lex.tokenOf: what it returns.
-/
import Derived.Test.YtlakgnnjokienaaGreatDoorLexD
namespace Go.Proofs.YtlakgnnjokienaaGreatDoor
open Go.RowKit

theorem tk_ret (t : Tk) : ∃ (k : Int) (y : ByteArray) (n : Int) (z : Nat) (er : Int), t.ret = .tuple #[.agg #[.int .i64 k, .string y, .int .i64 n, .int .i64 0], .int .i64 z, .int .i64 er] := ⟨_, _, _, _, _, rfl⟩

set_option maxHeartbeats 1000000 in
set_option maxRecDepth 1000000 in
theorem tokenOf_any (s : ByteArray) (w : World) (hS : Signs w) (hs : s.size ≤ 1099511627776) (hm : (rd s.data.toList).1.length ≤ 1099511627776) (r : Int) (hr : r = ((Lib.decodeL s.data.toList).1 : Int)) :
    Calls Tryz.prog 31 #[.string s, .int .i32 r] w fun e w' => e = .returned (tokL s.data.toList).ret ∧ Below w.heap.size w w' := by
  have b1 := new1 w (.cells #[.int .i64 0, .string ⟨#[]⟩, .int .i64 0, .int .i64 0] 70)
  have hS1 := hS.below b1
  have hl : letR r = letB (s.data.toList.getD 0 0) := by rw [hr]; exact head_of letR_hi _
  have hd : digR r = dgB (s.data.toList.getD 0 0) := by rw [hr]; exact head_of digR_hi _
  have hq : decide (r = 34) = decide (((s.data.toList.getD 0 0).toNat : Int) = 34) := by
    rw [hr]
    refine head_of (p := fun r => decide (r = 34)) (fun r h => ?_) _
    have : ¬ r = 34 := by omega
    simp [this]
  clear hr
  have L := isLetter_any r
  have D := isDigit_any r
  cases h1 : letR r with
  | true =>
    have e : tokL s.data.toList = nameT (s.data.toList.takeWhile nmB) := by rw [tokL, ← hl, h1, if_pos rfl]
    rw [h1] at L
    clear hl hd hq h1
    obtain ⟨row, hrow⟩ : ∃ row : ByteArray, row = ⟨(s.data.toList.takeWhile nmB).toArray⟩ := ⟨_, rfl⟩
    have hrl : s.data.toList.takeWhile nmB = row.data.toList := by rw [hrow]
    have hrs : row.size ≤ 1099511627776 := by rw [Lib.size_eq, ← hrl]; have := tw_len nmB s.data.toList; rw [← Lib.size_eq] at this; omega
    have R := rowOf_name s
    rw [← hrow] at R
    rw [hrl] at e
    have N := fun w => nameOf_any row w hrs
    rw [← e] at N
    obtain ⟨k, y, n, z, er, et⟩ := tk_ret (tokL s.data.toList)
    rw [et] at N
    have HT := hide (show Ending.returned (.tuple #[.agg #[.int .i64 k, .string y, .int .i64 n, .int .i64 0], .int .i64 z, .int .i64 er]) = .returned (tokL s.data.toList).ret by rw [et])
    clear et e hrow hrl
    go_enter Tryz.func31, Tryz.ntmps31
    go_wp2_with fail
    generalize hw1 : w.alloc _ = w1 at *
    have z1 : w1.heap.size = w.heap.size + 1 := by rw [← hw1]; simp
    refine (L _).mono ?_
    rintro e w1' ⟨rfl, rfl⟩
    go_wp2_with fail
    refine (R _).mono ?_
    rintro e w2 ⟨rfl, b2⟩
    go_wp2_with fail
    refine (N _).mono ?_
    rintro e w3 ⟨rfl, b3⟩
    have b4 := b2.trans (b3.mono b2.size)
    have hc : ∀ o, (w3.cell? ⟨w.heap.size, o, none⟩) = w1'.cell? ⟨w.heap.size, o, none⟩ := fun o => b4.cell (p := ⟨w.heap.size, o, none⟩) (by show w.heap.size < _; omega)
    have hf : ∀ o, (w3.frozen? ⟨w.heap.size, o, none⟩) = w1'.frozen? ⟨w.heap.size, o, none⟩ := fun o => b4.frozen (p := ⟨w.heap.size, o, none⟩) (by show w.heap.size < _; omega)
    rw [← hw1] at hc hf
    have Hw1 := hide hw1
    clear hw1
    go_wp2
    exact bodyPost_ret (v := .tuple #[.agg #[.int .i64 k, .string y, .int .i64 n, .int .i64 0], .int .i64 z, .int .i64 er]) (by simp [results, Tryz.results31, go_sem, hc]) rfl ⟨unhide HT, set4_below (b1.trans (b4.mono b1.size)) (Nat.le_refl _) _ _ _ _⟩
  | false =>
    rw [h1] at L
    cases h2 : digR r with
    | true =>
      have e : tokL s.data.toList = longT (s.data.toList.takeWhile dgB) := by rw [tokL, ← hl, h1, if_neg (by simp), ← hd, h2, if_pos rfl]
      rw [h2] at D
      clear hl hd hq h1 h2
      obtain ⟨row, hrow⟩ : ∃ row : ByteArray, row = ⟨(s.data.toList.takeWhile dgB).toArray⟩ := ⟨_, rfl⟩
      have hrl : s.data.toList.takeWhile dgB = row.data.toList := by rw [hrow]
      have hrs : row.size ≤ 1099511627776 := by rw [Lib.size_eq, ← hrl]; have := tw_len dgB s.data.toList; rw [← Lib.size_eq] at this; omega
      have R := rowOf_dig s
      rw [← hrow] at R
      rw [hrl] at e
      have N := fun w => longOf_any row w
      rw [← e] at N
      obtain ⟨k, y, n, z, er, et⟩ := tk_ret (tokL s.data.toList)
      rw [et] at N
      have HT := hide (show Ending.returned (.tuple #[.agg #[.int .i64 k, .string y, .int .i64 n, .int .i64 0], .int .i64 z, .int .i64 er]) = .returned (tokL s.data.toList).ret by rw [et])
      clear et e hrow hrl
      go_enter Tryz.func31, Tryz.ntmps31
      go_wp2_with fail
      generalize hw1 : w.alloc _ = w1 at *
      have z1 : w1.heap.size = w.heap.size + 1 := by rw [← hw1]; simp
      refine (L _).mono ?_
      rintro e w1' ⟨rfl, rfl⟩
      go_wp2_with fail
      refine (D _).mono ?_
      rintro e w1'' ⟨rfl, rfl⟩
      go_wp2_with fail
      refine (R _).mono ?_
      rintro e w2 ⟨rfl, b2⟩
      go_wp2_with fail
      refine (N _).mono ?_
      rintro e w3 ⟨rfl, b3⟩
      have b4 := b2.trans (b3.mono b2.size)
      have hc : ∀ o, (w3.cell? ⟨w.heap.size, o, none⟩) = w1''.cell? ⟨w.heap.size, o, none⟩ := fun o => b4.cell (p := ⟨w.heap.size, o, none⟩) (by show w.heap.size < _; omega)
      have hf : ∀ o, (w3.frozen? ⟨w.heap.size, o, none⟩) = w1''.frozen? ⟨w.heap.size, o, none⟩ := fun o => b4.frozen (p := ⟨w.heap.size, o, none⟩) (by show w.heap.size < _; omega)
      rw [← hw1] at hc hf
      have Hw1 := hide hw1
      clear hw1
      go_wp2
      exact bodyPost_ret (v := .tuple #[.agg #[.int .i64 k, .string y, .int .i64 n, .int .i64 0], .int .i64 z, .int .i64 er]) (by simp [results, Tryz.results31, go_sem, hc]) rfl ⟨unhide HT, set4_below (b1.trans (b4.mono b1.size)) (Nat.le_refl _) _ _ _ _⟩
    | false =>
      rw [h2] at D
      by_cases h3 : r = 34
      · subst h3
        have e : tokL s.data.toList = strT s.data.toList := by rw [tokL, ← hl, h1, if_neg (by simp), ← hd, h2, if_neg (by simp), if_pos (by simpa using hq)]
        have N := fun w => strOf_any s w hs hm
        rw [← e] at N
        obtain ⟨k, y, n, z, er, et⟩ := tk_ret (tokL s.data.toList)
        rw [et] at N
        have HT := hide (show Ending.returned (.tuple #[.agg #[.int .i64 k, .string y, .int .i64 n, .int .i64 0], .int .i64 z, .int .i64 er]) = .returned (tokL s.data.toList).ret by rw [et])
        clear et e hl hd hq h1 h2
        go_enter Tryz.func31, Tryz.ntmps31
        go_wp2_with fail
        generalize hw1 : w.alloc _ = w1 at *
        have z1 : w1.heap.size = w.heap.size + 1 := by rw [← hw1]; simp
        refine (L _).mono ?_
        rintro e w1' ⟨rfl, rfl⟩
        go_wp2_with fail
        refine (D _).mono ?_
        rintro e w1'' ⟨rfl, rfl⟩
        go_wp2_with fail
        refine (N _).mono ?_
        rintro e w3 ⟨rfl, b4⟩
        have hc : ∀ o, (w3.cell? ⟨w.heap.size, o, none⟩) = w1''.cell? ⟨w.heap.size, o, none⟩ := fun o => b4.cell (p := ⟨w.heap.size, o, none⟩) (by show w.heap.size < _; omega)
        have hf : ∀ o, (w3.frozen? ⟨w.heap.size, o, none⟩) = w1''.frozen? ⟨w.heap.size, o, none⟩ := fun o => b4.frozen (p := ⟨w.heap.size, o, none⟩) (by show w.heap.size < _; omega)
        rw [← hw1] at hc hf
        have Hw1 := hide hw1
        clear hw1
        go_wp2
        exact bodyPost_ret (v := .tuple #[.agg #[.int .i64 k, .string y, .int .i64 n, .int .i64 0], .int .i64 z, .int .i64 er]) (by simp [results, Tryz.results31, go_sem, hc]) rfl ⟨unhide HT, set4_below (b1.trans (b4.mono b1.size)) (Nat.le_refl _) _ _ _ _⟩
      · have hb : (r == 34) = false := by simpa using h3
        have e : tokL s.data.toList = signT s.data.toList := by rw [tokL, ← hl, h1, if_neg (by simp), ← hd, h2, if_neg (by simp), if_neg (by simpa [h3] using hq)]
        have N := fun w h => signOf_any s w h
        rw [← e] at N
        obtain ⟨k, y, n, z, er, et⟩ := tk_ret (tokL s.data.toList)
        rw [et] at N
        have HT := hide (show Ending.returned (.tuple #[.agg #[.int .i64 k, .string y, .int .i64 n, .int .i64 0], .int .i64 z, .int .i64 er]) = .returned (tokL s.data.toList).ret by rw [et])
        clear et e hl hd hq h1 h2 h3
        go_enter Tryz.func31, Tryz.ntmps31
        go_wp2_with fail
        generalize hw1 : w.alloc _ = w1 at *
        have z1 : w1.heap.size = w.heap.size + 1 := by rw [← hw1]; simp
        refine (L _).mono ?_
        rintro e w1' ⟨rfl, rfl⟩
        go_wp2_with fail
        refine (D _).mono ?_
        rintro e w1'' ⟨rfl, rfl⟩
        go_wp2_with fail
        refine (N _ hS1).mono ?_
        rintro e w3 ⟨rfl, b4⟩
        have hc : ∀ o, (w3.cell? ⟨w.heap.size, o, none⟩) = w1''.cell? ⟨w.heap.size, o, none⟩ := fun o => b4.cell (p := ⟨w.heap.size, o, none⟩) (by show w.heap.size < _; omega)
        have hf : ∀ o, (w3.frozen? ⟨w.heap.size, o, none⟩) = w1''.frozen? ⟨w.heap.size, o, none⟩ := fun o => b4.frozen (p := ⟨w.heap.size, o, none⟩) (by show w.heap.size < _; omega)
        rw [← hw1] at hc hf
        have Hw1 := hide hw1
        clear hw1
        go_wp2
        exact bodyPost_ret (v := .tuple #[.agg #[.int .i64 k, .string y, .int .i64 n, .int .i64 0], .int .i64 z, .int .i64 er]) (by simp [results, Tryz.results31, go_sem, hc]) rfl ⟨unhide HT, set4_below (b1.trans (b4.mono b1.size)) (Nat.le_refl _) _ _ _ _⟩
end Go.Proofs.YtlakgnnjokienaaGreatDoor
