/-
  Plain: what is passed over between tokens; chancelref4.blank: what it returns.
-/
import Derived.Test.YtfkbbenjmhngcaaDoorLexV
namespace Go.Proofs.YtfkbbenjmhngcaaDoor
open Go.RowKit

def skipF : Nat → List UInt8 → Nat
  | 0, _ => 0
  | f + 1, l => if l = [] then 0 else if 0 < gapL l then gapL l + skipF f (l.drop (gapL l)) else 0
def skip (l : List UInt8) : Nat := skipF (l.length + 1) l
theorem skipF_fuel : ∀ (f : Nat) (l : List UInt8) (g : Nat), l.length < f → l.length < g → skipF f l = skipF g l
  | 0, l, g, hf, _ => by omega
  | f + 1, l, 0, _, hg => by omega
  | f + 1, l, g + 1, hf, hg => by
    rw [skipF, skipF]
    split
    · rfl
    · rename_i hne
      have hl : 0 < l.length := List.length_pos_iff.2 hne
      split
      · rw [skipF_fuel f _ g (by rw [List.length_drop]; omega) (by rw [List.length_drop]; omega)]
      · rfl
theorem skip_nil : skip [] = 0 := rfl
theorem skip_gap {l : List UInt8} (hne : l ≠ []) (h : 0 < gapL l) : skip l = gapL l + skip (l.drop (gapL l)) := by
  have hl : 0 < l.length := List.length_pos_iff.2 hne
  unfold skip
  rw [skipF, if_neg hne, if_pos h, skipF_fuel _ _ _ (by rw [List.length_drop]; omega) (Nat.lt_succ_self _)]
theorem skip_none {l : List UInt8} (h : gapL l = 0) : skip l = 0 := by
  unfold skip
  rw [skipF]
  split
  · rfl
  · rw [if_neg (by omega)]
theorem skip_le : ∀ (m : Nat) (l : List UInt8), l.length ≤ m → skip l ≤ l.length := by
  intro m
  induction m with
  | zero =>
    intro l h
    have : l = [] := List.length_eq_zero_iff.1 (by omega)
    subst this
    exact Nat.zero_le _
  | succ m ih =>
    intro l h
    by_cases hne : l = []
    · subst hne
      exact Nat.zero_le _
    · by_cases hg : 0 < gapL l
      · have h1 := (gap_far l hne).1
        have h2 := ih (l.drop (gapL l)) (by rw [List.length_drop]; omega)
        rw [List.length_drop] at h2
        rw [skip_gap hne hg]
        omega
      · rw [skip_none (by omega)]
        omega
/-- Behind what is passed over a token stands, or nothing. -/
theorem skip_end : ∀ (m : Nat) (l : List UInt8), l.length ≤ m → l.drop (skip l) = [] ∨ gapL (l.drop (skip l)) = 0 := by
  intro m
  induction m with
  | zero =>
    intro l h
    left
    have : l = [] := List.length_eq_zero_iff.1 (by omega)
    subst this
    rfl
  | succ m ih =>
    intro l h
    by_cases hne : l = []
    · subst hne
      exact .inl rfl
    · by_cases hg : 0 < gapL l
      · have := ih (l.drop (gapL l)) (by have := List.length_pos_iff.2 hne; rw [List.length_drop]; omega)
        rw [List.drop_drop] at this
        rw [skip_gap hne hg]
        exact this
      · right
        rw [skip_none (by omega)]
        show gapL l = 0
        omega
theorem toksL_skip : ∀ (m : Nat) (l : List UInt8) (a : Nat) (acc : List Tok), l.length ≤ m → toksL l a acc = toksL (l.drop (skip l)) (a + skip l) acc := by
  intro m
  induction m with
  | zero =>
    intro l a acc h
    have : l = [] := List.length_eq_zero_iff.1 (by omega)
    subst this
    rfl
  | succ m ih =>
    intro l a acc h
    by_cases hne : l = []
    · subst hne
      rfl
    · by_cases hg : 0 < gapL l
      · rw [toksL_gap a acc hne hg, ih (l.drop (gapL l)) _ acc (by have := List.length_pos_iff.2 hne; rw [List.length_drop]; omega), List.drop_drop, skip_gap hne hg, Nat.add_assoc]
      · rw [skip_none (by omega)]
        rfl

theorem skip_at {s : ByteArray} {i : Nat} (hlt : i < s.size) (h : 0 < gapL (s.data.toList.drop i)) : i + skip (s.data.toList.drop i) = (i + gapL (s.data.toList.drop i)) + skip (s.data.toList.drop (i + gapL (s.data.toList.drop i))) := by
  rw [skip_gap (drop_ne hlt) h, List.drop_drop]
  omega
theorem gap_blank {s : ByteArray} {i : Nat} (hlt : i < s.size) (h : blkR (s[i].toNat : Int) = true) : gapL (s.data.toList.drop i) = 1 := by
  rw [gapL, drop_at s i hlt, show (s[i] :: s.data.toList.drop (i + 1)).getD 0 0 = s[i] from rfl, h]
  rfl
theorem gap_remark {s : ByteArray} {i : Nat} (hlt : i + 1 < s.size) (h1 : s[i] = 47) (h2 : s[i + 1] = 47) : gapL (s.data.toList.drop i) = ((s.data.toList.drop i).takeWhile lnB).length := by
  have hlt0 : i < s.size := by omega
  have e : s.data.toList.drop i = 47 :: 47 :: s.data.toList.drop (i + 1 + 1) := by rw [drop_at s i hlt0, drop_at s (i + 1) hlt, h1, h2]
  rw [gapL, e]
  rfl
theorem gap_other {s : ByteArray} {i : Nat} (hlt : i < s.size) (h : blkR (s[i].toNat : Int) = false) (h1 : s[i] ≠ 47 ∨ ¬ i + 1 < s.size ∨ ∃ h : i + 1 < s.size, s[i + 1] ≠ 47) : gapL (s.data.toList.drop i) = 0 := by
  have hp : Lib.hasPrefix (s.data.toList.drop i) [47, 47] = false := by
    rw [drop_at s i hlt]
    rcases h1 with h1 | h1 | ⟨hl, h1⟩
    · have : (47 == s[i]) = false := by rw [beq_eq_false_iff_ne]; exact fun e => h1 e.symm
      simp [Lib.hasPrefix, List.isPrefixOf, this]
    · rw [drop_end h1]
      simp [Lib.hasPrefix, List.isPrefixOf]
    · rw [drop_at s (i + 1) hl]
      have : (47 == s[i + 1]) = false := by rw [beq_eq_false_iff_ne]; exact fun e => h1 e.symm
      simp [Lib.hasPrefix, List.isPrefixOf, this]
  rw [gapL, hp]
  rw [drop_at s i hlt, show (s[i] :: s.data.toList.drop (i + 1)).getD 0 0 = s[i] from rfl, h]
  rfl

/-- How far a line goes at a place. -/
theorem line_at {s : ByteArray} {i : Nat} (hlt : i < s.size) : (lnB s[i] = true → i + ((s.data.toList.drop i).takeWhile lnB).length = (i + 1) + ((s.data.toList.drop (i + 1)).takeWhile lnB).length) ∧ (lnB s[i] = false → ((s.data.toList.drop i).takeWhile lnB).length = 0) := by
  rw [drop_at s i hlt, List.takeWhile_cons]
  constructor
  · intro h
    rw [if_pos h, List.length_cons]
    omega
  · intro h
    rw [if_neg (by rw [h]; simp)]
    rfl

set_option maxHeartbeats 4000000 in
set_option maxRecDepth 1000000 in
theorem blank_any (s : ByteArray) (i0 : Nat) (hi0 : i0 ≤ s.size) (hs : s.size ≤ 1048576) (w : World) :
    Calls Tryd.prog 25 #[.string s, .int .i64 i0] w fun e w' => e = .returned (.int .i64 ((i0 + skip (s.data.toList.drop i0) : Nat) : Int)) ∧ w' = w := by
  obtain ⟨R, hR⟩ : ∃ R, R = i0 + skip (s.data.toList.drop i0) := ⟨_, rfl⟩
  rw [← hR]
  have HR := hide hR
  clear hR
  go_enter Tryd.func25, Tryd.ntmps25
  go_wp2
  go_loopw [1] (fun iv wr => ∃ i : Nat, i ≤ s.size ∧ iv = .int .i64 i ∧ i + skip (s.data.toList.drop i) = R ∧ wr = w) (fun iv _ => s.size - (intOf iv).toNat)
  case atStart => exact ⟨i0, hi0, rfl, (unhide HR).symm, rfl⟩
  case round =>
    obtain ⟨i, hi, rfl, hacc, rfl⟩ := hrel
    have Hacc := hide hacc
    clear hacc
    by_cases hlt : i < s.size
    · have j1 : (i : Int) < (s.size : Int) := by omega
      have blk : ∀ _ : (s[i].toNat : Int) = 32 ∨ (s[i].toNat : Int) = 9 ∨ (s[i].toNat : Int) = 10 ∨ (s[i].toNat : Int) = 13, (i + 1) + skip (s.data.toList.drop (i + 1)) = R := by
        intro h
        have hg := gap_blank hlt (by simp only [blkR, Bool.or_eq_true, decide_eq_true_eq]; omega)
        rw [← unhide Hacc, skip_at hlt (by omega), hg]
      have Hblk := hide blk
      clear blk
      by_cases c0 : (s[i].toNat : Int) = 32
      · have HC := hide c0
        have e0 : ((s[i].toNat : Int) == 32) = true := by simpa using c0
        clear c0
        go_wp2
        go_roundw
        case rel => exact ⟨i + 1, by omega, by go_num, unhide Hblk (.inl (unhide HC)), by trivial⟩
        case measure =>
          simp only [intOf]
          omega
      have e0 : ((s[i].toNat : Int) == 32) = false := by simpa using c0
      by_cases c1 : (s[i].toNat : Int) = 9
      · have HC := hide c1
        have e1 : ((s[i].toNat : Int) == 9) = true := by simpa using c1
        clear c1
        go_wp2
        go_roundw
        case rel => exact ⟨i + 1, by omega, by go_num, unhide Hblk (.inr (.inl (unhide HC))), by trivial⟩
        case measure =>
          simp only [intOf]
          omega
      have e1 : ((s[i].toNat : Int) == 9) = false := by simpa using c1
      by_cases c2 : (s[i].toNat : Int) = 10
      · have HC := hide c2
        have e2 : ((s[i].toNat : Int) == 10) = true := by simpa using c2
        clear c2
        go_wp2
        go_roundw
        case rel => exact ⟨i + 1, by omega, by go_num, unhide Hblk (.inr (.inr (.inl (unhide HC)))), by trivial⟩
        case measure =>
          simp only [intOf]
          omega
      have e2 : ((s[i].toNat : Int) == 10) = false := by simpa using c2
      by_cases c3 : (s[i].toNat : Int) = 13
      · have HC := hide c3
        have e3 : ((s[i].toNat : Int) == 13) = true := by simpa using c3
        clear c3
        go_wp2
        go_roundw
        case rel => exact ⟨i + 1, by omega, by go_num, unhide Hblk (.inr (.inr (.inr (unhide HC)))), by trivial⟩
        case measure =>
          simp only [intOf]
          omega
      have e3 : ((s[i].toNat : Int) == 13) = false := by simpa using c3
      have hb : blkR (s[i].toNat : Int) = false := by
        simp only [blkR, Bool.or_eq_false_iff, decide_eq_false_iff_not]
        exact ⟨c0, c1, c2, c3⟩
      have Hb := hide hb
      clear hb c0 c1 c2 c3 Hblk
      by_cases c47 : (s[i].toNat : Int) = 47
      · have hc47 : s[i] = 47 := UInt8.toNat_inj.1 (by have : (47 : UInt8).toNat = 47 := rfl; omega)
        have e5 : ((s[i].toNat : Int) == 47) = true := by simpa using c47
        have HC := hide hc47
        clear c47 hc47
        by_cases hl1 : i + 1 < s.size
        · have j2 : (i : Int) + 1 < (s.size : Int) := by omega
          obtain ⟨d, hd⟩ : ∃ d : Int, d = (s[i + 1].toNat : Int) := ⟨_, rfl⟩
          have hix : ∀ W, (Instr.index 9 (.string s) (.int .i64 ((i : Int) + 1))).run Tryd.prog W = .ok (.int .u8 d) W := fun W => by
            rw [hd]
            have := run_index_string (P := Tryd.prog) (w := W) 9 s .i64 ((i : Int) + 1) Tryd.underlying9
            rw [this, dif_pos ⟨by omega, by omega⟩]
            simp only [show ((i : Int) + 1).toNat = i + 1 by omega]
          have Hd := hide hd
          clear hd
          by_cases d47 : d = 47
          · have e6 : (d == 47) = true := by simpa using d47
            have hd47 : s[i + 1] = 47 := UInt8.toNat_inj.1 (by have : (47 : UInt8).toNat = 47 := rfl; have := unhide Hd; omega)
            have hg := gap_remark hl1 (unhide HC) hd47
            have hgp : 0 < gapL (s.data.toList.drop i) := by
              have := (line_at hlt).1 (by rw [unhide HC]; decide)
              rw [hg]
              omega
            have hnx : (i + gapL (s.data.toList.drop i)) + skip (s.data.toList.drop (i + gapL (s.data.toList.drop i))) = R := by rw [← skip_at hlt hgp]; exact unhide Hacc
            have hgs : i + gapL (s.data.toList.drop i) ≤ s.size := by
              have := (gap_far _ (drop_ne hlt)).1
              rw [List.length_drop, ← Lib.size_eq] at this
              omega
            rw [hg] at hgp hnx hgs
            have hst : i + ((s.data.toList.drop i).takeWhile lnB).length = i + ((s.data.toList.drop i).takeWhile lnB).length := rfl
            obtain ⟨E, hE⟩ : ∃ E, E = i + ((s.data.toList.drop i).takeWhile lnB).length := ⟨_, rfl⟩
            rw [← hE] at hnx hgs
            have hEi : i < E := by omega
            have Hnx := hide hnx
            have HE := hide hE
            clear hg hgp hnx hE hst hd47 d47
            go_wp2
            go_loop [1] (fun iv => ∃ j : Nat, j ≤ s.size ∧ iv = .int .i64 j ∧ j + ((s.data.toList.drop j).takeWhile lnB).length = E) (fun iv => s.size - (intOf iv).toNat)
            case atStart => exact ⟨i, hi, rfl, (unhide HE).symm⟩
            case round =>
              obtain ⟨j, hj, rfl, hjE⟩ := hrel
              have HjE := hide hjE
              clear hjE
              by_cases hjl : j < s.size
              · have j3 : (j : Int) < (s.size : Int) := by omega
                by_cases hj10 : (s[j].toNat : Int) = 10
                · have e7 : ((s[j].toNat : Int) != 10) = false := by simpa using hj10
                  have hjj : j = E := by
                    have := (line_at hjl).2 (by simp [lnB]; omega)
                    have := unhide HjE
                    omega
                  subst hjj
                  clear hj10
                  go_wp2
                  go_roundw
                  case rel => exact ⟨j, hj, rfl, unhide Hnx, by trivial⟩
                  case measure =>
                    simp only [intOf]
                    omega
                · have e7 : ((s[j].toNat : Int) != 10) = true := by simpa using hj10
                  have hjn : (j + 1) + ((s.data.toList.drop (j + 1)).takeWhile lnB).length = E := by
                    rw [← (line_at hjl).1 (by simp [lnB]; omega)]
                    exact unhide HjE
                  have Hjn := hide hjn
                  clear hjn hj10
                  go_wp2
                  go_round
                  case rel => exact ⟨j + 1, by omega, by go_num, unhide Hjn⟩
                  case measure =>
                    simp only [intOf]
                    omega
              · have j3 : ¬ (j : Int) < (s.size : Int) := by omega
                have hjj : j = E := by
                  have := unhide HjE
                  rw [drop_end hjl] at this
                  simpa using this
                subst hjj
                go_wp2
                go_roundw
                case rel => exact ⟨j, hj, rfl, unhide Hnx, by trivial⟩
                case measure =>
                  simp only [intOf]
                  omega
          · have e6 : (d == 47) = false := by simpa using d47
            have hres : R = i := by rw [← unhide Hacc, skip_none (gap_other hlt (unhide Hb) (.inr (.inr ⟨hl1, fun e => d47 (by rw [unhide Hd, e]; rfl)⟩)))]; rfl
            have Hres := hide hres
            clear hres d47
            go_wp2
            go_ret
            exact ⟨ret_int (by rw [unhide Hres]), rfl⟩
        · have j2 : ¬ (i : Int) + 1 < (s.size : Int) := by omega
          have hres : R = i := by rw [← unhide Hacc, skip_none (gap_other hlt (unhide Hb) (.inr (.inl hl1)))]; rfl
          have Hres := hide hres
          clear hres
          go_wp2
          go_ret
          exact ⟨ret_int (by rw [unhide Hres]), rfl⟩
      · have e5 : ((s[i].toNat : Int) == 47) = false := by simpa using c47
        have hres : R = i := by rw [← unhide Hacc, skip_none (gap_other hlt (unhide Hb) (.inl (fun e => c47 (by rw [e]; rfl))))]; rfl
        have Hres := hide hres
        clear hres c47
        go_wp2
        go_ret
        exact ⟨ret_int (by rw [unhide Hres]), rfl⟩
    · have j1 : ¬ (i : Int) < (s.size : Int) := by omega
      have hres : R = i := by rw [← unhide Hacc, drop_end hlt, skip_nil]; rfl
      have Hres := hide hres
      clear hres
      go_wp2
      go_ret
      exact ⟨ret_int (by rw [unhide Hres]), rfl⟩
end Go.Proofs.YtfkbbenjmhngcaaDoor
