/-
  lex.longOf, strOf: what they return.
-/
import Derived.Test.YtlakgnnjokienaaGreatDoorLexB
namespace Go.Proofs.YtlakgnnjokienaaGreatDoor
open Go.RowKit

set_option maxHeartbeats 1000000 in
set_option maxRecDepth 1000000 in
theorem longOf_any (s : ByteArray) (w : World) :
    Calls Tryz.prog 47 #[.string s] w fun e w' => e = .returned (longT s.data.toList).ret ∧ Below w.heap.size w w' := by
  have P := parse_any s
  have b1 := new1 w (.cells #[.int .i64 0, .string ⟨#[]⟩, .int .i64 0, .int .i64 0] 70)
  by_cases h : pe s.data.toList = 0
  · have e : longT s.data.toList = ⟨2, [], pv s.data.toList, s.size, 0⟩ := by rw [longT, if_pos h, ← Lib.size_eq]
    rw [e]
    rw [h] at P
    clear e h
    generalize pv s.data.toList = n at *
    go_enter Tryz.func47, Tryz.ntmps47
    go_wp2_with fail
    generalize hw1 : w.alloc _ = w1 at *
    have z1 : w1.heap.size = w.heap.size + 1 := by rw [← hw1]; simp
    refine (P _).mono ?_
    rintro e w2 ⟨rfl, b2⟩
    have hc : ∀ o, (w2.cell? ⟨w.heap.size, o, none⟩) = w1.cell? ⟨w.heap.size, o, none⟩ := fun o => b2.cell (p := ⟨w.heap.size, o, none⟩) (by show w.heap.size < _; omega)
    have hf : ∀ o, (w2.frozen? ⟨w.heap.size, o, none⟩) = w1.frozen? ⟨w.heap.size, o, none⟩ := fun o => b2.frozen (p := ⟨w.heap.size, o, none⟩) (by show w.heap.size < _; omega)
    rw [← hw1] at hc hf
    have Hw1 := hide hw1
    clear hw1
    go_wp2
    exact bodyPost_ret (v := .tuple #[.agg #[.int .i64 2, .string ⟨#[]⟩, .int .i64 n, .int .i64 0], .int .i64 s.size, .int .i64 0]) (by simp [results, Tryz.results47, go_sem, hc]) rfl ⟨rfl, set4_below (b1.trans (b2.mono b1.size)) (Nat.le_refl _) _ _ _ _⟩
  · have e : longT s.data.toList = badT (pe s.data.toList) := by rw [longT, if_neg h]
    rw [e]
    clear e
    generalize pe s.data.toList = x at *
    generalize pv s.data.toList = n at *
    have hx : (x != 0) = true := by simpa using h
    clear h
    go_enter Tryz.func47, Tryz.ntmps47
    go_wp2_with fail
    generalize hw1 : w.alloc _ = w1 at *
    have z1 : w1.heap.size = w.heap.size + 1 := by rw [← hw1]; simp
    refine (P _).mono ?_
    rintro e w2 ⟨rfl, b2⟩
    have hc : ∀ o, (w2.cell? ⟨w.heap.size, o, none⟩) = w1.cell? ⟨w.heap.size, o, none⟩ := fun o => b2.cell (p := ⟨w.heap.size, o, none⟩) (by show w.heap.size < _; omega)
    have hf : ∀ o, (w2.frozen? ⟨w.heap.size, o, none⟩) = w1.frozen? ⟨w.heap.size, o, none⟩ := fun o => b2.frozen (p := ⟨w.heap.size, o, none⟩) (by show w.heap.size < _; omega)
    rw [← hw1] at hc hf
    have Hw1 := hide hw1
    clear hw1
    go_wp2
    exact bodyPost_ret (v := .tuple #[.agg #[.int .i64 0, .string ⟨#[]⟩, .int .i64 0, .int .i64 0], .int .i64 0, .int .i64 x]) (by simp [results, Tryz.results47, go_sem, hc]) rfl ⟨rfl, set4_below (b1.trans (b2.mono b1.size)) (Nat.le_refl _) _ _ _ _⟩

set_option maxHeartbeats 1000000 in
set_option maxRecDepth 1000000 in
theorem strOf_any (s : ByteArray) (w : World) (hs : s.size ≤ 1099511627776) (hm : (rd s.data.toList).1.length ≤ 1099511627776) :
    Calls Tryz.prog 48 #[.string s] w fun e w' => e = .returned (strT s.data.toList).ret ∧ Below w.heap.size w w' := by
  have P := fun w => read_any s w hs
  have b1 := new1 w (.cells #[.int .i64 0, .string ⟨#[]⟩, .int .i64 0, .int .i64 0] 70)
  by_cases h : (rd s.data.toList).2.2 = 0
  · obtain ⟨z, _, _, hz, _⟩ := rd_last _ h
    rw [h, hz] at P
    obtain ⟨m, hme⟩ : ∃ m : ByteArray, m = ⟨(rd s.data.toList).1.toArray⟩ := ⟨_, rfl⟩
    have hml : (rd s.data.toList).1 = m.data.toList := by rw [hme]
    have R := fun w => runeCount_any m w (by rw [Lib.size_eq, ← hml]; exact hm)
    by_cases h30 : 30 < (runes (rd s.data.toList).1).length
    · have e : strT s.data.toList = badT 5 := by rw [strT, if_pos h, if_pos h30]
      rw [e]
      rw [← hme] at P
      rw [hml] at h30
      clear e h hz hml hme
      generalize (runes m.data.toList).length = n at *
      have i1 : (30 : Int) < (n : Int) := by omega
      go_enter Tryz.func48, Tryz.ntmps48
      go_wp2_with fail
      generalize hw1 : w.alloc _ = w1 at *
      have z1 : w1.heap.size = w.heap.size + 1 := by rw [← hw1]; simp
      refine (P _).mono ?_
      rintro e w2 ⟨rfl, b2⟩
      go_wp2_with fail
      refine (R _).mono ?_
      rintro e w3 ⟨rfl, b3⟩
      have b4 := b2.trans (b3.mono b2.size)
      have hc : ∀ o, (w3.cell? ⟨w.heap.size, o, none⟩) = w1.cell? ⟨w.heap.size, o, none⟩ := fun o => b4.cell (p := ⟨w.heap.size, o, none⟩) (by show w.heap.size < _; omega)
      have hf : ∀ o, (w3.frozen? ⟨w.heap.size, o, none⟩) = w1.frozen? ⟨w.heap.size, o, none⟩ := fun o => b4.frozen (p := ⟨w.heap.size, o, none⟩) (by show w.heap.size < _; omega)
      rw [← hw1] at hc hf
      have Hw1 := hide hw1
      clear hw1
      go_wp2
      exact bodyPost_ret (v := .tuple #[.agg #[.int .i64 0, .string ⟨#[]⟩, .int .i64 0, .int .i64 0], .int .i64 0, .int .i64 5]) (by simp [results, Tryz.results48, go_sem, hc]) rfl ⟨rfl, set4_below (b1.trans (b4.mono b1.size)) (Nat.le_refl _) _ _ _ _⟩
    · have e : strT s.data.toList = ⟨3, m.data.toList, 0, z, 0⟩ := by rw [strT, if_pos h, if_neg h30, hz, hml, Int.toNat_natCast]
      rw [e]
      rw [← hme] at P
      rw [hml] at h30
      clear e h hz hml hme
      generalize (runes m.data.toList).length = n at *
      have i1 : ¬ (30 : Int) < (n : Int) := by omega
      go_enter Tryz.func48, Tryz.ntmps48
      go_wp2_with fail
      generalize hw1 : w.alloc _ = w1 at *
      have z1 : w1.heap.size = w.heap.size + 1 := by rw [← hw1]; simp
      refine (P _).mono ?_
      rintro e w2 ⟨rfl, b2⟩
      go_wp2_with fail
      refine (R _).mono ?_
      rintro e w3 ⟨rfl, b3⟩
      have b4 := b2.trans (b3.mono b2.size)
      have hc : ∀ o, (w3.cell? ⟨w.heap.size, o, none⟩) = w1.cell? ⟨w.heap.size, o, none⟩ := fun o => b4.cell (p := ⟨w.heap.size, o, none⟩) (by show w.heap.size < _; omega)
      have hf : ∀ o, (w3.frozen? ⟨w.heap.size, o, none⟩) = w1.frozen? ⟨w.heap.size, o, none⟩ := fun o => b4.frozen (p := ⟨w.heap.size, o, none⟩) (by show w.heap.size < _; omega)
      rw [← hw1] at hc hf
      have Hw1 := hide hw1
      clear hw1
      go_wp2
      exact bodyPost_ret (v := .tuple #[.agg #[.int .i64 3, .string m, .int .i64 0, .int .i64 0], .int .i64 z, .int .i64 0]) (by simp [results, Tryz.results48, go_sem, hc]) rfl ⟨by rw [← ba_ofL m]; rfl, set4_below (b1.trans (b4.mono b1.size)) (Nat.le_refl _) _ _ _ _⟩
  · have e : strT s.data.toList = badT (rd s.data.toList).2.2 := by rw [strT, if_neg h]
    rw [e]
    clear e
    generalize (rd s.data.toList).2.2 = x at *
    generalize (rd s.data.toList).2.1 = z at *
    generalize (ByteArray.mk (rd s.data.toList).1.toArray) = m at *
    have hx : (x != 0) = true := by simpa using h
    clear h
    go_enter Tryz.func48, Tryz.ntmps48
    go_wp2_with fail
    generalize hw1 : w.alloc _ = w1 at *
    have z1 : w1.heap.size = w.heap.size + 1 := by rw [← hw1]; simp
    refine (P _).mono ?_
    rintro e w2 ⟨rfl, b2⟩
    have hc : ∀ o, (w2.cell? ⟨w.heap.size, o, none⟩) = w1.cell? ⟨w.heap.size, o, none⟩ := fun o => b2.cell (p := ⟨w.heap.size, o, none⟩) (by show w.heap.size < _; omega)
    have hf : ∀ o, (w2.frozen? ⟨w.heap.size, o, none⟩) = w1.frozen? ⟨w.heap.size, o, none⟩ := fun o => b2.frozen (p := ⟨w.heap.size, o, none⟩) (by show w.heap.size < _; omega)
    rw [← hw1] at hc hf
    have Hw1 := hide hw1
    clear hw1
    go_wp2
    exact bodyPost_ret (v := .tuple #[.agg #[.int .i64 0, .string ⟨#[]⟩, .int .i64 0, .int .i64 0], .int .i64 0, .int .i64 x]) (by simp [results, Tryz.results48, go_sem, hc]) rfl ⟨rfl, set4_below (b1.trans (b2.mono b1.size)) (Nat.le_refl _) _ _ _ _⟩
end Go.Proofs.YtlakgnnjokienaaGreatDoor
