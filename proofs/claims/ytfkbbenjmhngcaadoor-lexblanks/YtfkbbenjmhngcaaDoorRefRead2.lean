/-
  chancelref1.Read: what it returns, for all bytes.
-/
import Derived.Test.YtfkbbenjmhngcaaDoorRefRead
namespace Go.Proofs.YtfkbbenjmhngcaaDoor
open Go.RowKit

theorem rescape_any (s : ByteArray) (i : Nat) (hs : s.size ≤ 1099511627776) (w : World) (h0 : i < s.size) (hc0 : s[i] = 92) :
    Calls Tryd.prog 56 #[.string s, .int .i64 i] w fun e w' => e = .returned (.tuple #[.int .i32 (escL (s.data.toList.drop i)).1, .int .i64 (escL (s.data.toList.drop i)).2.1, .int .i64 (escL (s.data.toList.drop i)).2.2]) ∧ w' = w := by
  by_cases h1 : i + 1 < s.size
  · by_cases hc : s[i + 1] = 117
    · by_cases h2 : ∃ h : i + 2 < s.size, s[i + 2] = 123
      · obtain ⟨h2, h3⟩ := h2
        exact rescape_hex s i hs w h2 hc0 hc h3
      · exact rescape_u s i hs w h1 hc (fun h e => h2 ⟨h, e⟩)
    · exact rescape_two s i hs w h1 hc
  · exact rescape_one s i hs w h0 (by omega)


theorem bad_ascii {s : ByteArray} {i : Nat} (hlt : i < s.size) (hasc : s[i].toNat < 128) : badHead (s.data.toList.drop i) = false := by
  have hdec : Lib.decodeL (s.data.toList.drop i) = (s[i].toNat, 1) := by rw [drop_at s i hlt]; exact dec_ascii _ _ hasc
  unfold badHead
  rw [hdec]
  have : (s[i].toNat == 65533) = false := by simp; omega
  show ((s[i].toNat == 65533) && _) = false
  rw [this]
  rfl

theorem step_quote {s : ByteArray} {i : Nat} (hlt : i < s.size) (acc : List UInt8) (h34 : s[i].toNat = 34) :
    rdL (s.data.toList.drop i) acc i = (acc, (i : Int) + 1, 0) := by
  have hdec : Lib.decodeL (s.data.toList.drop i) = (s[i].toNat, 1) := by rw [drop_at s i hlt]; exact dec_ascii _ _ (by omega)
  rw [rdL_cons (s.data.toList.drop i) acc i (drop_ne hlt), hdec, if_pos h34]

theorem step_low {s : ByteArray} {i : Nat} (hlt : i < s.size) (acc : List UInt8) (h32 : s[i].toNat < 32) :
    rdL (s.data.toList.drop i) acc i = ([], 0, 12) := by
  have hdec : Lib.decodeL (s.data.toList.drop i) = (s[i].toNat, 1) := by rw [drop_at s i hlt]; exact dec_ascii _ _ (by omega)
  have hone : oneL (s.data.toList.drop i) = (0, 0, 12) := by unfold oneL; rw [hdec, if_pos h32]
  rw [rdL_cons (s.data.toList.drop i) acc i (drop_ne hlt), hdec, if_neg (show ¬ s[i].toNat = 34 by omega), bad_ascii hlt (by omega), hone]
  rfl

theorem step_esc {s : ByteArray} {i : Nat} (hlt : i < s.size) (acc : List UInt8) (h92 : s[i].toNat = 92) :
    ∃ (q1 q2 q3 : Int), escL (s.data.toList.drop i) = (q1, q2, q3) ∧
      (q3 ≠ 0 → rdL (s.data.toList.drop i) acc i = ([], 0, q3)) ∧
      (q3 = 0 → ∃ n : Nat, q2 = n ∧ 0 < n ∧ i + n ≤ s.size ∧ Lib.validRune q1 = true ∧ rdL (s.data.toList.drop i) acc i = rdL (s.data.toList.drop (i + n)) (acc ++ Lib.encodeRune q1) ((i + n : Nat) : Int)) := by
  have hdec : Lib.decodeL (s.data.toList.drop i) = (s[i].toNat, 1) := by rw [drop_at s i hlt]; exact dec_ascii _ _ (by omega)
  have hbh := bad_ascii hlt (show s[i].toNat < 128 by omega)
  have hone : oneL (s.data.toList.drop i) = escL (s.data.toList.drop i) := by unfold oneL; rw [hdec, if_neg (show ¬ s[i].toNat < 32 by omega), if_pos h92]
  have hop := oneL_pos _ (drop_ne hlt) hbh
  have hst := rdL_cons (s.data.toList.drop i) acc i (drop_ne hlt)
  rw [hdec, if_neg (show ¬ s[i].toNat = 34 by omega), hbh, hone] at hst
  rw [hone] at hop
  clear hone hdec hbh
  generalize escL (s.data.toList.drop i) = q at *
  obtain ⟨q1, q2, q3⟩ := q
  refine ⟨q1, q2, q3, rfl, fun h => ?_, fun h => ?_⟩
  · rw [hst]
    simp only [Bool.false_eq_true, if_false]
    rw [if_neg h]
  · obtain ⟨g1, g2, g3⟩ := hop h
    simp only [] at g1 g2 g3
    rw [List.length_drop, ← Lib.size_eq] at g2
    obtain ⟨z, rfl⟩ := Int.eq_ofNat_of_zero_le (show 0 ≤ q2 by omega)
    refine ⟨z, rfl, by omega, by omega, g3, ?_⟩
    rw [hst]
    simp only [Bool.false_eq_true, if_false]
    rw [if_pos h, List.drop_drop]
    rfl

theorem step_plain {s : ByteArray} {i : Nat} (hlt : i < s.size) (acc : List UInt8) (h32 : ¬ s[i].toNat < 32) (n34 : ¬ s[i].toNat = 34) (n92 : ¬ s[i].toNat = 92) (hbad : badHead (s.data.toList.drop i) = false) :
    ∃ (r : Int) (n : Nat), oneR (s.data.toList.drop i) = r ∧ oneN (s.data.toList.drop i) = n ∧ Lib.validRune r = true ∧ 0 < n ∧ i + n ≤ s.size ∧ rdL (s.data.toList.drop i) acc i = rdL (s.data.toList.drop (i + n)) (acc ++ Lib.encodeRune r) ((i + n : Nat) : Int) := by
  have hd := Lib.decodeL_drop s i
  have hv := dec_valid (s.data.toList.drop i)
  rw [hd] at hv
  have hrl := runeLen_dec _ hbad
  rw [hd] at hrl
  have hwd := Lib.decode_width_pos s i hlt
  have hle := dec_in hlt
  have k1 : ¬ (Utf8.decode s i).1 < 32 ∧ ¬ (Utf8.decode s i).1 = 34 ∧ ¬ (Utf8.decode s i).1 = 92 := by
    by_cases hasc : s[i].toNat < 128
    · have hdec : Lib.decodeL (s.data.toList.drop i) = (s[i].toNat, 1) := by rw [drop_at s i hlt]; exact dec_ascii _ _ hasc
      rw [hd] at hdec
      rw [hdec]
      exact ⟨h32, n34, n92⟩
    · have hhi := decode_high s i hlt (by omega)
      omega
  obtain ⟨k1, k2, k3⟩ := k1
  have o1 : oneR (s.data.toList.drop i) = ((Utf8.decode s i).1 : Int) := by unfold oneR; rw [hbad, hd]; rfl
  have o2 : oneN (s.data.toList.drop i) = ((Utf8.decode s i).2 : Int) := by unfold oneN; rw [hbad, hd]; rfl
  have hone : oneL (s.data.toList.drop i) = (((Utf8.decode s i).1 : Int), ((Utf8.decode s i).2 : Int), 0) := by
    unfold oneL
    rw [hd, if_neg k1, if_neg k3, hrl]
  refine ⟨_, _, o1, o2, hv, hwd, hle, ?_⟩
  rw [rdL_cons (s.data.toList.drop i) acc i (drop_ne hlt), hd, if_neg k2, hbad, hone, List.drop_drop]
  rfl

theorem step_bad {s : ByteArray} {i : Nat} (hlt : i < s.size) (acc : List UInt8) (hbad : badHead (s.data.toList.drop i) = true) :
    rdL (s.data.toList.drop i) acc i = ([], 0, 11) ∧ oneN (s.data.toList.drop i) = 0 ∧ ¬ s[i].toNat < 128 := by
  have h128 : ¬ s[i].toNat < 128 := fun h => by rw [bad_ascii hlt h] at hbad; cases hbad
  have hhi := decode_high s i hlt (by omega)
  refine ⟨?_, by unfold oneN; rw [hbad]; rfl, h128⟩
  rw [rdL_cons (s.data.toList.drop i) acc i (drop_ne hlt), Lib.decodeL_drop s i, if_neg (by omega), hbad]
  rfl

end Go.Proofs.YtfkbbenjmhngcaaDoor
