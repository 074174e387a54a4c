/-
  chancellaw1.TextLonely returns true, for every two slices of ints and every int.
-/
import Derived.Test.YtiokpdpegkbgiabDoorKnown
import Derived.Test.YtiokpdpegkbgiabDoorLawOf
import Derived.Test.YtiokpdpegkbgiabDoorLikeP
namespace Go.Proofs.YtiokpdpegkbgiabDoor
open Go.RowKit

theorem like_plain (t s : List UInt8) (h : ∀ b ∈ t, b ≠ 42) : likeL t s false [] = (s == t) := by
  rw [likeL_skip s false t.length t [] (by rw [List.take_length]; exact h), List.drop_length, List.take_length, List.nil_append]
  rfl

theorem mt_stars (s : List UInt8) : ∀ k, Mt (List.replicate (k + 1) 42) s
  | 0 => (mt_star [] s).2 ⟨s, [], by simp, rfl⟩
  | k + 1 => (mt_star (List.replicate (k + 1) 42) s).2 ⟨[], s, rfl, mt_stars s k⟩
theorem like_stars (s : List UInt8) (k : Nat) (h : 1 ≤ k) : likeL (List.replicate k 42) s false [] = true := by
  obtain ⟨j, rfl⟩ : ∃ j, k = j + 1 := ⟨k - 1, by omega⟩
  exact (like_iff _ _).2 (mt_stars s j)

theorem mt_stars_no : ∀ k, ¬ Mt (List.replicate k 42 ++ [97]) []
  | 0 => by
    intro h
    obtain ⟨t, ht, _⟩ := (mt_cons (c := 97) (by decide) [] []).1 h
    cases ht
  | k + 1 => by
    intro h
    rw [List.replicate_succ, List.cons_append, mt_star] at h
    obtain ⟨u, v, e, hv⟩ := h
    have : v = [] := (List.append_eq_nil_iff.1 e.symm).2
    subst this
    exact mt_stars_no k hv
theorem like_stars_no (k : Nat) : likeL (List.replicate k 42 ++ [97]) [] false [] = false := by
  cases e : likeL (List.replicate k 42 ++ [97]) [] false [] with
  | false => rfl
  | true => exact absurd ((like_iff _ _).1 e) (mt_stars_no k)

theorem mt_stars_a (s : List UInt8) : ∀ k, Mt (List.replicate (k + 1) 42 ++ [97]) (s ++ [97])
  | 0 => (mt_star [97] (s ++ [97])).2 ⟨s, [97], rfl, (mt_cons (by decide) [] [97]).2 ⟨[], rfl, rfl⟩⟩
  | k + 1 => (mt_star (List.replicate (k + 1) 42 ++ [97]) (s ++ [97])).2 ⟨[], s ++ [97], rfl, mt_stars_a s k⟩
theorem like_stars_a (s : List UInt8) (k : Nat) (h : 1 ≤ k) : likeL (List.replicate k 42 ++ [97]) (s ++ [97]) false [] = true := by
  obtain ⟨j, rfl⟩ : ∃ j, k = j + 1 := ⟨k - 1, by omega⟩
  exact (like_iff _ _).2 (mt_stars_a s j)

def noStar (l : List UInt8) : Bool := l.all fun b => b != 42
theorem noStar_snoc (l : List UInt8) (b : UInt8) : noStar (l ++ [b]) = (noStar l && (b != 42)) := by simp [noStar]
theorem noStar_mem {l : List UInt8} (h : noStar l = true) : ∀ b ∈ l, b ≠ 42 := fun b hb => by
  have := List.all_eq_true.1 h b hb
  simpa using this

theorem bne42 (b : UInt8) : ((b.toNat : Int) != 42) = (b != 42) := by
  by_cases h : b = 42
  · subst h
    rfl
  · have h2 : b.toNat ≠ 42 := fun e => h (UInt8.toNat_inj.1 e)
    have e1 : (b != 42) = true := by simp [h]
    have e2 : ((b.toNat : Int) != 42) = true := by
      rw [bne_iff_ne]
      omega
    rw [e1, e2]

set_option maxHeartbeats 4000000 in
set_option maxRecDepth 1000000 in
theorem lonely_walk (a b : List Int) (x : Int) (ao bo : Option Addr) (ca cb : Nat) (w : World) (hf : Fit w) (ha : IntsAt w ao a) (hb : IntsAt w bo b) (hla : a.length ≤ 9223372036854775807) (hlb : b.length ≤ 9223372036854775807) :
    Calls Tryd.prog 5 #[.slice ao a.length ca, .slice bo b.length cb, .int .i64 x] w fun e w' => e = .returned (.bool true) ∧ Below w.heap.size w w' := by
  have q0 := Int.emod_nonneg x (show (5 : Int) ≠ 0 by decide)
  have q1 := Int.emod_lt_of_pos x (show (0 : Int) < 5 by decide)
  go_enter Tryd.func5, Tryd.ntmps5
  go_wp2_with fail
  refine (known_any _ hf).mono ?_
  rintro e w1 ⟨rfl, b1⟩
  have hf1 := hf.below b1
  have ha1 := ha.below b1
  have hb1 := hb.below b1
  go_wp2_with fail
  refine (lawOf_txt a ao ca _ hla ha1).mono ?_
  rintro e w2 ⟨s, rfl, hs, hsz, b2⟩
  clear hs
  have hf2 := hf1.below b2
  have hb2 := hb1.below b2
  have bw2 := b1.trans (b2.mono b1.size)
  go_wp2_with fail
  refine (lawOf_txt b bo cb _ hlb hb2).mono ?_
  rintro e w3 ⟨t, rfl, ht, htz, b3⟩
  clear ht
  have hf3 := hf2.below b3
  have bw3 := bw2.trans (b3.mono bw2.size)
  clear hf hf1 hf2 ha ha1 hb hb1 hb2
  go_wp2
  go_loop [9, 10] (fun st i => ∃ (k : Nat) (sb : ByteArray), st = .string sb ∧ i = .int .i64 k ∧ (k : Int) ≤ 1 + x % 5 ∧ sb.size = k ∧ sb.data.toList = List.replicate k 42) (fun _ i => 6 - (intOf i).toNat)
  case atStart =>
    exact ⟨0, ⟨#[]⟩, rfl, rfl, by omega, rfl, rfl⟩
  case round =>
    obtain ⟨k, sb, rfl, rfl, hk, hsb, hrep⟩ := hrel
    have HREP := hide hrep
    clear hrep
    by_cases hlt : (k : Int) < 1 + x % 5
    · go_wp2_with fail
      refine (within_any x 5 (by decide) (by decide) _).mono ?_
      rintro e w4 ⟨rfl, rfl⟩
      go_wp2
      go_round
      case rel =>
        refine ⟨k + 1, sb ++ ⟨#[42]⟩, rfl, by go_num, by omega, ?_, ?_⟩
        · rw [ByteArray.size_append, hsb]
          rfl
        · rw [show (sb ++ ⟨#[42]⟩ : ByteArray).data.toList = sb.data.toList ++ [42] from by simp, unhide HREP, List.replicate_succ']
      case measure =>
        simp [intOf]
        omega
    · go_wp2_with fail
      refine (within_any x 5 (by decide) (by decide) _).mono ?_
      rintro e w4 ⟨rfl, rfl⟩
      have hk1 : 1 ≤ k := by omega
      have hk6 : k ≤ 6 := by omega
      go_wp2
      clear hlt hk q0 q1
      go_loop [11, 12] (fun pl i => ∃ (j : Nat), j ≤ t.size ∧ i = .int .i64 j ∧ pl = .bool (noStar (t.data.toList.take j))) (fun _ i => t.size - (intOf i).toNat)
      case atStart => exact ⟨0, Nat.zero_le _, rfl, rfl⟩
      case round =>
        obtain ⟨j, hj, rfl, rfl⟩ := hrel
        by_cases hjl : j < t.size
        · have hts : t.data.toList.take (j + 1) = t.data.toList.take j ++ [t[j]] := by
            rw [List.take_succ_eq_append_getElem (by rw [← Lib.size_eq]; exact hjl)]
            rfl
          have HTS := hide hts
          clear hts
          generalize hpl : noStar (t.data.toList.take j) = pl
          have HPL := hide hpl
          clear hpl
          cases pl
          · go_wp2
            go_round
            case rel =>
              refine ⟨j + 1, by omega, by go_num, ?_⟩
              rw [unhide HTS, noStar_snoc, unhide HPL]
              rfl
            case measure =>
              simp [intOf]
              omega
          · go_wp2
            go_round
            case rel =>
              refine ⟨j + 1, by omega, by go_num, ?_⟩
              rw [unhide HTS, noStar_snoc, unhide HPL, bne42]
              rfl
            case measure =>
              simp [intOf]
              omega
        · have hje : j = t.size := by omega
          subst hje
          rw [List.take_of_length_le (by rw [← Lib.size_eq]; exact Nat.le_refl _)]
          generalize hpl : noStar t.data.toList = pl
          have HPL := hide hpl
          clear hpl
          cases pl
          · go_wp2_with fail
            refine (like_fit s sb _ hf3 (by omega) (by omega)).mono ?_
            rintro e w6 ⟨rfl, b6⟩
            rw [unhide HREP, like_stars _ k hk1]
            have bw6 := bw3.trans (b6.mono bw3.size)
            have hf6 := hf3.below b6
            go_wp2_with fail
            refine (like_fit _ sb _ hf6 (by decide) (by omega)).mono ?_
            rintro e w7 ⟨rfl, b7⟩
            rw [unhide HREP, like_stars _ k hk1]
            have bw7 := bw6.trans (b7.mono bw6.size)
            have hf7 := hf6.below b7
            go_wp2_with fail
            refine (like_fit _ _ _ hf7 (by decide) (by decide)).mono ?_
            rintro e w8 ⟨rfl, b8⟩
            rw [show likeL _ _ false [] = true from rfl]
            have bw8 := bw7.trans (b8.mono bw7.size)
            have hf8 := hf7.below b8
            go_wp2_with fail
            refine (like_fit s _ _ hf8 (by omega) (by decide)).mono ?_
            rintro e w9 ⟨rfl, b9⟩
            rw [show likeL _ s.data.toList false [] = (s.data.toList == []) from rfl, ← ByteArray.toList_eq]
            have bw9 := bw8.trans (b9.mono bw8.size)
            have hf9 := hf8.below b9
            go_wp2_with fail
            have hsa : (sb ++ ⟨#[97]⟩ : ByteArray).data.toList = List.replicate k 42 ++ [97] := by
              rw [← unhide HREP]
              simp
            have hss : (s ++ ⟨#[97]⟩ : ByteArray).data.toList = s.data.toList ++ [97] := by simp
            have hsz2 : (sb ++ ⟨#[97]⟩ : ByteArray).size ≤ 100 := by
              rw [ByteArray.size_append]
              show sb.size + 1 ≤ 100
              omega
            have hsz3 : (s ++ ⟨#[97]⟩ : ByteArray).size ≤ 200 := by
              rw [ByteArray.size_append]
              show s.size + 1 ≤ 200
              omega
            have HSA := hide hsa
            have HSS := hide hss
            clear hsa hss
            refine (like_fit _ _ _ hf9 (by decide) (by exact Nat.lt_of_le_of_lt hsz2 (by decide))).mono ?_
            rintro e w10 ⟨rfl, b10⟩
            rw [show (sb ++ _ : ByteArray).data.toList = _ from unhide HSA, show likeL _ _ false [] = false from like_stars_no k]
            have bw10 := bw9.trans (b10.mono bw9.size)
            have hf10 := hf9.below b10
            go_wp2_with fail
            refine (like_fit _ _ _ hf10 (by exact Nat.lt_of_le_of_lt hsz3 (by decide)) (by exact Nat.lt_of_le_of_lt hsz2 (by decide))).mono ?_
            rintro e w11 ⟨rfl, b11⟩
            rw [show (sb ++ _ : ByteArray).data.toList = _ from unhide HSA, show (s ++ _ : ByteArray).data.toList = _ from unhide HSS, like_stars_a _ k hk1]
            have bw11 := bw10.trans (b11.mono bw10.size)
            go_wp2
            go_ret
            exact ⟨rfl, bw11⟩
          · go_wp2_with fail
            refine (like_fit s t _ hf3 (by omega) (by omega)).mono ?_
            rintro e w5 ⟨rfl, b5⟩
            rw [like_plain _ _ (noStar_mem (unhide HPL)), ← ByteArray.toList_eq, ← ByteArray.toList_eq]
            have bw5 := bw3.trans (b5.mono bw3.size)
            have hf5 := hf3.below b5
            clear hf3 bw3
            have bw3 := bw5
            have hf3 := hf5
            go_wp2_with fail
            refine (like_fit s sb _ hf3 (by omega) (by omega)).mono ?_
            rintro e w6 ⟨rfl, b6⟩
            rw [unhide HREP, like_stars _ k hk1]
            have bw6 := bw3.trans (b6.mono bw3.size)
            have hf6 := hf3.below b6
            go_wp2_with fail
            refine (like_fit _ sb _ hf6 (by decide) (by omega)).mono ?_
            rintro e w7 ⟨rfl, b7⟩
            rw [unhide HREP, like_stars _ k hk1]
            have bw7 := bw6.trans (b7.mono bw6.size)
            have hf7 := hf6.below b7
            go_wp2_with fail
            refine (like_fit _ _ _ hf7 (by decide) (by decide)).mono ?_
            rintro e w8 ⟨rfl, b8⟩
            rw [show likeL _ _ false [] = true from rfl]
            have bw8 := bw7.trans (b8.mono bw7.size)
            have hf8 := hf7.below b8
            go_wp2_with fail
            refine (like_fit s _ _ hf8 (by omega) (by decide)).mono ?_
            rintro e w9 ⟨rfl, b9⟩
            rw [show likeL _ s.data.toList false [] = (s.data.toList == []) from rfl, ← ByteArray.toList_eq]
            have bw9 := bw8.trans (b9.mono bw8.size)
            have hf9 := hf8.below b9
            go_wp2_with fail
            have hsa : (sb ++ ⟨#[97]⟩ : ByteArray).data.toList = List.replicate k 42 ++ [97] := by
              rw [← unhide HREP]
              simp
            have hss : (s ++ ⟨#[97]⟩ : ByteArray).data.toList = s.data.toList ++ [97] := by simp
            have hsz2 : (sb ++ ⟨#[97]⟩ : ByteArray).size ≤ 100 := by
              rw [ByteArray.size_append]
              show sb.size + 1 ≤ 100
              omega
            have hsz3 : (s ++ ⟨#[97]⟩ : ByteArray).size ≤ 200 := by
              rw [ByteArray.size_append]
              show s.size + 1 ≤ 200
              omega
            have HSA := hide hsa
            have HSS := hide hss
            clear hsa hss
            refine (like_fit _ _ _ hf9 (by decide) (by exact Nat.lt_of_le_of_lt hsz2 (by decide))).mono ?_
            rintro e w10 ⟨rfl, b10⟩
            rw [show (sb ++ _ : ByteArray).data.toList = _ from unhide HSA, show likeL _ _ false [] = false from like_stars_no k]
            have bw10 := bw9.trans (b10.mono bw9.size)
            have hf10 := hf9.below b10
            go_wp2_with fail
            refine (like_fit _ _ _ hf10 (by exact Nat.lt_of_le_of_lt hsz3 (by decide)) (by exact Nat.lt_of_le_of_lt hsz2 (by decide))).mono ?_
            rintro e w11 ⟨rfl, b11⟩
            rw [show (sb ++ _ : ByteArray).data.toList = _ from unhide HSA, show (s ++ _ : ByteArray).data.toList = _ from unhide HSS, like_stars_a _ k hk1]
            have bw11 := bw10.trans (b11.mono bw10.size)
            go_wp2
            go_ret
            exact ⟨rfl, bw11⟩
end Go.Proofs.YtiokpdpegkbgiabDoor
