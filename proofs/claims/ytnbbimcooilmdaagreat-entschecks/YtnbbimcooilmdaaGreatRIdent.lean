/-
  chancelref3.Ident: what it returns.
-/
import Derived.Test.YtnbbimcooilmdaaGreatNamesPW
import Derived.Laws.IdiomStrings
namespace Go.Proofs.YtnbbimcooilmdaaGreat
open Go.RowKit

theorem drop_here (s : ByteArray) (k : Nat) (h : k < s.size) : s.data.toList.drop k = s[k] :: s.data.toList.drop (k + 1) := by
  rw [List.drop_eq_getElem_cons (by rw [← Lib.size_eq]; exact h)]
  rfl
theorem goods_step {s : ByteArray} {i : Nat} (hlt : i < s.size) : goods (i == 0) (s.data.toList.drop i) = ((letR (s[i].toNat : Int) || (!(i == 0) && digR (s[i].toNat : Int))) && goods ((i + 1) == 0) (s.data.toList.drop (i + 1))) := by
  rw [drop_here s i hlt, show ((i + 1) == 0) = false from by simp]
  rfl

set_option maxHeartbeats 4000000 in
set_option maxRecDepth 1000000 in
theorem rident_any (s : ByteArray) (w : World) (hs : s.size ≤ 1048576) :
    Calls Tryz.prog 46 #[.string s] w fun e w' => e = .returned (.bool (nameB s.data.toList)) ∧ w' = w := by
  go_enter Tryz.func46, Tryz.ntmps46
  go_wp2
  go_loopw [3] (fun iv wr => ∃ i : Nat, i ≤ s.size ∧ iv = .int .i64 i ∧ goods (i == 0) (s.data.toList.drop i) = goods true s.data.toList ∧ wr = w) (fun iv _ => s.size - (intOf iv).toNat)
  case atStart => exact ⟨0, Nat.zero_le _, rfl, by simp, rfl⟩
  case round =>
    obtain ⟨i, hi, rfl, hacc, rfl⟩ := hrel
    have Hacc := hide hacc
    clear hacc
    by_cases hlt : i < s.size
    · have i1 : (i : Int) < (s.size : Int) := by omega
      have on : (letR (s[i].toNat : Int) || (!(i == 0) && digR (s[i].toNat : Int))) = true → goods ((i + 1) == 0) (s.data.toList.drop (i + 1)) = goods true s.data.toList := fun h => by
        rw [← unhide Hacc, goods_step hlt, h]
        rfl
      have off : (letR (s[i].toNat : Int) || (!(i == 0) && digR (s[i].toNat : Int))) = false → nameB s.data.toList = false := fun h => by
        rw [nameB, ← unhide Hacc, goods_step hlt, h]
        rfl
      obtain ⟨c, hc⟩ : ∃ c : Int, c = (s[i].toNat : Int) := ⟨_, rfl⟩
      have hix : ∀ W, (Instr.index 9 (.string s) (.int .i64 (i : Int))).run Tryz.prog W = .ok (.int .u8 c) W := fun W => by
        have := run_index_string (P := Tryz.prog) (w := W) 9 s .i64 (i : Int) Tryz.underlying9
        rw [this, dif_pos ⟨by omega, by omega⟩, hc]
        simp only [Int.toNat_natCast]
      rw [← hc] at on off
      clear hc
      have Hon := hide on
      have Hoff := hide off
      clear on off
      have cls : (c < 48) ∨ (48 ≤ c ∧ c ≤ 57) ∨ (58 ≤ c ∧ c ≤ 64) ∨ (65 ≤ c ∧ c ≤ 90) ∨ (91 ≤ c ∧ c ≤ 94) ∨ (c = 95) ∨ (c = 96) ∨ (97 ≤ c ∧ c ≤ 122) ∨ (123 ≤ c) := by omega
      by_cases hi0 : i = 0
      · have e0 : ((i : Int) == 0) = true := by simpa using (show (i : Int) = 0 by omega)
        have hi0b : (i == 0) = true := by simpa using hi0
        rw [hi0b] at Hon Hoff
        clear hi0b hi0
        rcases cls with h | h | h | h | h | h | h | h | h
        · have g1 : ¬ 97 ≤ c := by omega
          have g2 : c ≤ 122 := by omega
          have g3 : ¬ 65 ≤ c := by omega
          have g4 : c ≤ 90 := by omega
          have g5 : (c == 95) = false := by simpa using (show ¬ c = 95 by omega)
          have g6 : c < 48 := by omega
          have g7 : ¬ 57 < c := by omega
          have Hn := hide (unhide Hoff (by simp [letR, digR]; omega))
          clear h Hon Hoff
          go_wp2
          go_ret
          exact ⟨ret_bool (unhide Hn).symm, rfl⟩
        · have g1 : ¬ 97 ≤ c := by omega
          have g2 : c ≤ 122 := by omega
          have g3 : ¬ 65 ≤ c := by omega
          have g4 : c ≤ 90 := by omega
          have g5 : (c == 95) = false := by simpa using (show ¬ c = 95 by omega)
          have g6 : ¬ c < 48 := by omega
          have g7 : ¬ 57 < c := by omega
          have Hn := hide (unhide Hoff (by simp [letR, digR]; omega))
          clear h Hon Hoff
          go_wp2
          go_ret
          exact ⟨ret_bool (unhide Hn).symm, rfl⟩
        · have g1 : ¬ 97 ≤ c := by omega
          have g2 : c ≤ 122 := by omega
          have g3 : ¬ 65 ≤ c := by omega
          have g4 : c ≤ 90 := by omega
          have g5 : (c == 95) = false := by simpa using (show ¬ c = 95 by omega)
          have g6 : ¬ c < 48 := by omega
          have g7 : 57 < c := by omega
          have Hn := hide (unhide Hoff (by simp [letR, digR]; omega))
          clear h Hon Hoff
          go_wp2
          go_ret
          exact ⟨ret_bool (unhide Hn).symm, rfl⟩
        · have g1 : ¬ 97 ≤ c := by omega
          have g2 : c ≤ 122 := by omega
          have g3 : 65 ≤ c := by omega
          have g4 : c ≤ 90 := by omega
          have g5 : (c == 95) = false := by simpa using (show ¬ c = 95 by omega)
          have g6 : ¬ c < 48 := by omega
          have g7 : 57 < c := by omega
          have Hn := hide (unhide Hon (by simp [letR, digR]; omega))
          clear h Hon Hoff
          go_wp2
          go_roundw
          case rel => exact ⟨i + 1, by omega, by go_num, unhide Hn, by trivial⟩
          case measure =>
            simp only [intOf]
            omega
        · have g1 : ¬ 97 ≤ c := by omega
          have g2 : c ≤ 122 := by omega
          have g3 : 65 ≤ c := by omega
          have g4 : ¬ c ≤ 90 := by omega
          have g5 : (c == 95) = false := by simpa using (show ¬ c = 95 by omega)
          have g6 : ¬ c < 48 := by omega
          have g7 : 57 < c := by omega
          have Hn := hide (unhide Hoff (by simp [letR, digR]; omega))
          clear h Hon Hoff
          go_wp2
          go_ret
          exact ⟨ret_bool (unhide Hn).symm, rfl⟩
        · have g1 : ¬ 97 ≤ c := by omega
          have g2 : c ≤ 122 := by omega
          have g3 : 65 ≤ c := by omega
          have g4 : ¬ c ≤ 90 := by omega
          have g5 : (c == 95) = true := by simpa using (show c = 95 by omega)
          have g6 : ¬ c < 48 := by omega
          have g7 : 57 < c := by omega
          have Hn := hide (unhide Hon (by simp [letR, digR]; omega))
          clear h Hon Hoff
          go_wp2
          go_roundw
          case rel => exact ⟨i + 1, by omega, by go_num, unhide Hn, by trivial⟩
          case measure =>
            simp only [intOf]
            omega
        · have g1 : ¬ 97 ≤ c := by omega
          have g2 : c ≤ 122 := by omega
          have g3 : 65 ≤ c := by omega
          have g4 : ¬ c ≤ 90 := by omega
          have g5 : (c == 95) = false := by simpa using (show ¬ c = 95 by omega)
          have g6 : ¬ c < 48 := by omega
          have g7 : 57 < c := by omega
          have Hn := hide (unhide Hoff (by simp [letR, digR]; omega))
          clear h Hon Hoff
          go_wp2
          go_ret
          exact ⟨ret_bool (unhide Hn).symm, rfl⟩
        · have g1 : 97 ≤ c := by omega
          have g2 : c ≤ 122 := by omega
          have g3 : 65 ≤ c := by omega
          have g4 : ¬ c ≤ 90 := by omega
          have g5 : (c == 95) = false := by simpa using (show ¬ c = 95 by omega)
          have g6 : ¬ c < 48 := by omega
          have g7 : 57 < c := by omega
          have Hn := hide (unhide Hon (by simp [letR, digR]; omega))
          clear h Hon Hoff
          go_wp2
          go_roundw
          case rel => exact ⟨i + 1, by omega, by go_num, unhide Hn, by trivial⟩
          case measure =>
            simp only [intOf]
            omega
        · have g1 : 97 ≤ c := by omega
          have g2 : ¬ c ≤ 122 := by omega
          have g3 : 65 ≤ c := by omega
          have g4 : ¬ c ≤ 90 := by omega
          have g5 : (c == 95) = false := by simpa using (show ¬ c = 95 by omega)
          have g6 : ¬ c < 48 := by omega
          have g7 : 57 < c := by omega
          have Hn := hide (unhide Hoff (by simp [letR, digR]; omega))
          clear h Hon Hoff
          go_wp2
          go_ret
          exact ⟨ret_bool (unhide Hn).symm, rfl⟩
      · have e0 : ((i : Int) == 0) = false := by simpa using (show ¬ (i : Int) = 0 by omega)
        have hi0b : (i == 0) = false := by simpa using hi0
        rw [hi0b] at Hon Hoff
        clear hi0b hi0
        rcases cls with h | h | h | h | h | h | h | h | h
        · have g1 : ¬ 97 ≤ c := by omega
          have g2 : c ≤ 122 := by omega
          have g3 : ¬ 65 ≤ c := by omega
          have g4 : c ≤ 90 := by omega
          have g5 : (c == 95) = false := by simpa using (show ¬ c = 95 by omega)
          have g6 : c < 48 := by omega
          have g7 : ¬ 57 < c := by omega
          have Hn := hide (unhide Hoff (by simp [letR, digR]; omega))
          clear h Hon Hoff
          go_wp2
          go_ret
          exact ⟨ret_bool (unhide Hn).symm, rfl⟩
        · have g1 : ¬ 97 ≤ c := by omega
          have g2 : c ≤ 122 := by omega
          have g3 : ¬ 65 ≤ c := by omega
          have g4 : c ≤ 90 := by omega
          have g5 : (c == 95) = false := by simpa using (show ¬ c = 95 by omega)
          have g6 : ¬ c < 48 := by omega
          have g7 : ¬ 57 < c := by omega
          have Hn := hide (unhide Hon (by simp [letR, digR]; omega))
          clear h Hon Hoff
          go_wp2
          go_roundw
          case rel => exact ⟨i + 1, by omega, by go_num, unhide Hn, by trivial⟩
          case measure =>
            simp only [intOf]
            omega
        · have g1 : ¬ 97 ≤ c := by omega
          have g2 : c ≤ 122 := by omega
          have g3 : ¬ 65 ≤ c := by omega
          have g4 : c ≤ 90 := by omega
          have g5 : (c == 95) = false := by simpa using (show ¬ c = 95 by omega)
          have g6 : ¬ c < 48 := by omega
          have g7 : 57 < c := by omega
          have Hn := hide (unhide Hoff (by simp [letR, digR]; omega))
          clear h Hon Hoff
          go_wp2
          go_ret
          exact ⟨ret_bool (unhide Hn).symm, rfl⟩
        · have g1 : ¬ 97 ≤ c := by omega
          have g2 : c ≤ 122 := by omega
          have g3 : 65 ≤ c := by omega
          have g4 : c ≤ 90 := by omega
          have g5 : (c == 95) = false := by simpa using (show ¬ c = 95 by omega)
          have g6 : ¬ c < 48 := by omega
          have g7 : 57 < c := by omega
          have Hn := hide (unhide Hon (by simp [letR, digR]; omega))
          clear h Hon Hoff
          go_wp2
          go_roundw
          case rel => exact ⟨i + 1, by omega, by go_num, unhide Hn, by trivial⟩
          case measure =>
            simp only [intOf]
            omega
        · have g1 : ¬ 97 ≤ c := by omega
          have g2 : c ≤ 122 := by omega
          have g3 : 65 ≤ c := by omega
          have g4 : ¬ c ≤ 90 := by omega
          have g5 : (c == 95) = false := by simpa using (show ¬ c = 95 by omega)
          have g6 : ¬ c < 48 := by omega
          have g7 : 57 < c := by omega
          have Hn := hide (unhide Hoff (by simp [letR, digR]; omega))
          clear h Hon Hoff
          go_wp2
          go_ret
          exact ⟨ret_bool (unhide Hn).symm, rfl⟩
        · have g1 : ¬ 97 ≤ c := by omega
          have g2 : c ≤ 122 := by omega
          have g3 : 65 ≤ c := by omega
          have g4 : ¬ c ≤ 90 := by omega
          have g5 : (c == 95) = true := by simpa using (show c = 95 by omega)
          have g6 : ¬ c < 48 := by omega
          have g7 : 57 < c := by omega
          have Hn := hide (unhide Hon (by simp [letR, digR]; omega))
          clear h Hon Hoff
          go_wp2
          go_roundw
          case rel => exact ⟨i + 1, by omega, by go_num, unhide Hn, by trivial⟩
          case measure =>
            simp only [intOf]
            omega
        · have g1 : ¬ 97 ≤ c := by omega
          have g2 : c ≤ 122 := by omega
          have g3 : 65 ≤ c := by omega
          have g4 : ¬ c ≤ 90 := by omega
          have g5 : (c == 95) = false := by simpa using (show ¬ c = 95 by omega)
          have g6 : ¬ c < 48 := by omega
          have g7 : 57 < c := by omega
          have Hn := hide (unhide Hoff (by simp [letR, digR]; omega))
          clear h Hon Hoff
          go_wp2
          go_ret
          exact ⟨ret_bool (unhide Hn).symm, rfl⟩
        · have g1 : 97 ≤ c := by omega
          have g2 : c ≤ 122 := by omega
          have g3 : 65 ≤ c := by omega
          have g4 : ¬ c ≤ 90 := by omega
          have g5 : (c == 95) = false := by simpa using (show ¬ c = 95 by omega)
          have g6 : ¬ c < 48 := by omega
          have g7 : 57 < c := by omega
          have Hn := hide (unhide Hon (by simp [letR, digR]; omega))
          clear h Hon Hoff
          go_wp2
          go_roundw
          case rel => exact ⟨i + 1, by omega, by go_num, unhide Hn, by trivial⟩
          case measure =>
            simp only [intOf]
            omega
        · have g1 : 97 ≤ c := by omega
          have g2 : ¬ c ≤ 122 := by omega
          have g3 : 65 ≤ c := by omega
          have g4 : ¬ c ≤ 90 := by omega
          have g5 : (c == 95) = false := by simpa using (show ¬ c = 95 by omega)
          have g6 : ¬ c < 48 := by omega
          have g7 : 57 < c := by omega
          have Hn := hide (unhide Hoff (by simp [letR, digR]; omega))
          clear h Hon Hoff
          go_wp2
          go_ret
          exact ⟨ret_bool (unhide Hn).symm, rfl⟩
    · have i1 : ¬ (i : Int) < (s.size : Int) := by omega
      have hg : goods true s.data.toList = true := by rw [← unhide Hacc, drop_end hlt]; rfl
      have e : nameB s.data.toList = (decide (1 ≤ s.size) && decide (s.size ≤ 12)) := by rw [nameB, hg, ← Lib.size_eq]; rfl
      have He := hide e
      clear e hg
      by_cases h1 : 1 ≤ s.size
      · have i1 : (1 : Int) ≤ (s.size : Int) := by omega
        by_cases h2 : s.size ≤ 12
        · have i2 : (s.size : Int) ≤ 12 := by omega
          go_wp2
          go_ret
          exact ⟨ret_bool (by rw [unhide He]; simp [h1, h2]), rfl⟩
        · have i2 : ¬ (s.size : Int) ≤ 12 := by omega
          go_wp2
          go_ret
          exact ⟨ret_bool (by rw [unhide He]; simp [h2]), rfl⟩
      · have i1 : ¬ (1 : Int) ≤ (s.size : Int) := by omega
        go_wp2
        go_ret
        exact ⟨ret_bool (by rw [unhide He]; simp [h1]), rfl⟩
end Go.Proofs.YtnbbimcooilmdaaGreat
