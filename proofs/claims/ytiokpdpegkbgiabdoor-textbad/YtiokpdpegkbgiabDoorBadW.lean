/-
  chancellaw1.TextBad returns true, for every slice of ints and every two ints.
-/
import Derived.Test.YtiokpdpegkbgiabDoorKnown
import Derived.Test.YtiokpdpegkbgiabDoorLawOf
import Derived.Test.YtiokpdpegkbgiabDoorReadX
import Derived.BigQuiet
import Derived.Deep.QuietTactic
namespace Go.Proofs.YtiokpdpegkbgiabDoor
open Go.RowKit

def badB : List UInt8 := [255, 254, 192, 193, 248, 245]
def badCells : Array Value := #[.int .u8 255, .int .u8 254, .int .u8 192, .int .u8 193, .int .u8 248, .int .u8 245]

theorem conv_bad {w : World} {g : Nat} (h : w.heap[g]? = some (.cells badCells 5 (0, 0))) (j : Nat) (hj : j < 6) (cap : Nat) :
    (convert 32 9 (.slice (some ⟨g, j, none⟩) 1 cap)).run Tryd.prog w = .ok (.string ⟨#[badB.getD j 0]⟩) w := by
  refine conv_back w ⟨g, j, none⟩ 1 cap [badB.getD j 0] rfl (fun i hi => ?_)
  have hi0 : i = 0 := by simpa using hi
  subst hi0
  rw [show (⟨g, j, none⟩ : Addr).add 0 = ⟨g, j, none⟩ from rfl, Lib.cell_of_heap h]
  match j, hj with
  | 0, _ => rfl
  | 1, _ => rfl
  | 2, _ => rfl
  | 3, _ => rfl
  | 4, _ => rfl
  | 5, _ => rfl
  | j + 6, hj => omega

/-- No rune has one of these bytes. -/
theorem enc_no_bad {r : Int} (hv : Lib.validRune r = true) : ∀ b ∈ Lib.encodeRune r, b ∉ badB := by
  have key : ∀ n : Nat, n < 256 → (n < 192 ∨ (194 ≤ n ∧ n < 245)) → UInt8.ofNat n ∉ badB := by
    intro n hn hr hm
    have e := ofNat_toNat n hn
    simp only [badB, List.mem_cons, List.not_mem_nil, or_false] at hm
    rcases hm with h | h | h | h | h | h
    all_goals (rw [h] at e; have e' := e.symm; clear e; revert e'; show n = _ → False; intro e'; rw [e'] at hr; revert hr; decide)
  obtain ⟨n, rfl, hn⟩ := valid_nat hv
  intro b hb
  by_cases c1 : n < 128
  · rw [enc1 n c1] at hb
    simp only [List.mem_cons, List.not_mem_nil, or_false] at hb
    subst hb
    exact key n (by omega) (by omega)
  · by_cases c2 : n < 2048
    · rw [enc2 n (by omega) c2] at hb
      simp only [List.mem_cons, List.not_mem_nil, or_false] at hb
      rcases hb with rfl | rfl
      · exact key _ (by omega) (by omega)
      · exact key _ (by omega) (by omega)
    · by_cases c3 : n < 65536
      · rw [enc3 n (by omega)] at hb
        simp only [List.mem_cons, List.not_mem_nil, or_false] at hb
        rcases hb with rfl | rfl | rfl
        · exact key _ (by omega) (by omega)
        · exact key _ (by omega) (by omega)
        · exact key _ (by omega) (by omega)
      · rw [enc4 n (by omega) (by omega)] at hb
        simp only [List.mem_cons, List.not_mem_nil, or_false] at hb
        rcases hb with rfl | rfl | rfl | rfl
        · exact key _ (by omega) (by omega)
        · exact key _ (by omega) (by omega)
        · exact key _ (by omega) (by omega)
        · exact key _ (by omega) (by omega)

theorem okL_no_bad {l : List UInt8} (h : okL l = true) : ∀ b ∈ l, b ∉ badB := by
  intro b hb
  rw [← ok_back h] at hb
  unfold ofL at hb
  obtain ⟨r, hr, hbr⟩ := List.mem_flatMap.1 hb
  exact enc_no_bad (List.all_eq_true.1 (ok_runes h) r hr) b hbr

theorem badB_mem (j : Nat) (hj : j < 6) : badB[j]?.getD 0 ∈ badB := by
  match j, hj with
  | 0, _ => decide
  | 1, _ => decide
  | 2, _ => decide
  | 3, _ => decide
  | 4, _ => decide
  | 5, _ => decide
  | j + 6, hj => omega

theorem dec_badB (b : UInt8) (hb : b ∈ badB) (t : List UInt8) : Lib.decodeL (b :: t) = (65533, 1) := by
  rw [Lib.decodeL_N]
  simp only [badB, List.mem_cons, List.not_mem_nil, or_false] at hb
  rw [List.getD_cons_zero]
  rcases hb with rfl | rfl | rfl | rfl | rfl | rfl
  · exact dN_short _ _ _ _ _ (by decide) (.inr (by decide)) (.inr (by decide)) (.inr (by decide))
  · exact dN_short _ _ _ _ _ (by decide) (.inr (by decide)) (.inr (by decide)) (.inr (by decide))
  · have k1 := ((192 :: t).getD 1 0).toNat_lt
    rcases Lib.decodeN_shape (192 :: t).length (192 : UInt8).toNat ((192 :: t).getD 1 0).toNat ((192 :: t).getD 2 0).toNat ((192 :: t).getD 3 0).toNat with ⟨c, e⟩ | ⟨c1, c2, c3, cv, e⟩ | ⟨c1, c2, c3, c4, cv, cs, e⟩ | ⟨c1, c2, c3, c4, c5, cv, cw, e⟩ | e
    · exact absurd c (by decide)
    · have : (192 : UInt8).toNat % 32 = 0 := by decide
      rw [this] at cv
      omega
    · exact absurd c1 (by decide)
    · exact absurd c1 (by decide)
    · exact e
  · have k1 := ((193 :: t).getD 1 0).toNat_lt
    rcases Lib.decodeN_shape (193 :: t).length (193 : UInt8).toNat ((193 :: t).getD 1 0).toNat ((193 :: t).getD 2 0).toNat ((193 :: t).getD 3 0).toNat with ⟨c, e⟩ | ⟨c1, c2, c3, cv, e⟩ | ⟨c1, c2, c3, c4, cv, cs, e⟩ | ⟨c1, c2, c3, c4, c5, cv, cw, e⟩ | e
    · exact absurd c (by decide)
    · have : (193 : UInt8).toNat % 32 = 1 := by decide
      rw [this] at cv
      omega
    · exact absurd c1 (by decide)
    · exact absurd c1 (by decide)
    · exact e
  · exact dN_short _ _ _ _ _ (by decide) (.inr (by decide)) (.inr (by decide)) (.inr (by decide))
  · have k1 := ((245 :: t).getD 1 0).toNat_lt
    rcases Lib.decodeN_shape (245 :: t).length (245 : UInt8).toNat ((245 :: t).getD 1 0).toNat ((245 :: t).getD 2 0).toNat ((245 :: t).getD 3 0).toNat with ⟨c, e⟩ | ⟨c1, c2, c3, cv, e⟩ | ⟨c1, c2, c3, c4, cv, cs, e⟩ | ⟨c1, c2, c3, c4, c5, cv, cw, e⟩ | e
    · exact absurd c (by decide)
    · exact absurd c1 (by decide)
    · exact absurd c1 (by decide)
    · have : (245 : UInt8).toNat % 8 = 5 := by decide
      rw [this] at cw
      omega
    · exact e

theorem rd_bad (b : UInt8) (hb : b ∈ badB) (t : List UInt8) : (rd (34 :: b :: t)).2.2 = 11 := by
  have hp : Lib.hasPrefix (34 :: b :: t) [34] = true := by simp [Lib.hasPrefix]
  have hd := dec_badB b hb t
  unfold rd
  rw [hp]
  show (rdL (b :: t) [] 1).2.2 = 11
  rw [rdL_cons _ _ _ (by simp), hd]
  have hbh : badHead (b :: t) = true := by unfold badHead; rw [hd]; rfl
  rw [if_neg (by decide), hbh]
  rfl

theorem bad_facts (s : ByteArray) (k j : Nat) (hj : j < 6) (hk : k ≤ s.size) (hsz : s.size ≤ 160) (X : ByteArray) (hX : s.extract 0 k ++ (⟨#[badB[j]?.getD 0]⟩ : ByteArray) ++ s.extract k s.size = X) :
    ((⟨#[34]⟩ : ByteArray) ++ X ++ (⟨#[34]⟩ : ByteArray)).data.toList = 34 :: (X.data.toList ++ [34]) ∧ ((⟨#[34]⟩ : ByteArray) ++ X ++ (⟨#[34]⟩ : ByteArray)).size ≤ 1099511627776 ∧ chk X.data.toList = 11 ∧ (k = 0 → (rd (34 :: (X.data.toList ++ [34]))).2.2 = 11) ∧ X.size ≤ 200 := by
  have hXl : X.data.toList = s.data.toList.take k ++ (badB[j]?.getD 0 :: s.data.toList.drop k) := by
    rw [← hX]
    have e1 : (s.extract 0 k ++ (⟨#[badB[j]?.getD 0]⟩ : ByteArray) ++ s.extract k s.size).data.toList = (s.extract 0 k).data.toList ++ ([badB[j]?.getD 0] ++ (s.extract k s.size).data.toList) := by simp
    rw [e1, extract_list, extract_list, List.drop_zero, Nat.sub_zero, List.take_of_length_le (l := s.data.toList.drop k) (by rw [List.length_drop, ← Lib.size_eq]; exact Nat.le_refl _)]
    rfl
  have hl : X.data.toList.length ≤ 200 := by
    rw [hXl, List.length_append, List.length_cons, List.length_take, List.length_drop, ← Lib.size_eq]
    omega
  refine ⟨by simp, ?_, ?_, ?_, by rw [Lib.size_eq]; exact hl⟩
  · rw [Lib.size_eq]
    have e1 : ((⟨#[34]⟩ : ByteArray) ++ X ++ (⟨#[34]⟩ : ByteArray)).data.toList = 34 :: (X.data.toList ++ [34]) := by simp
    rw [e1, List.length_cons, List.length_append]
    simp only [List.length_cons, List.length_nil]
    omega
  · apply chk_bad
    cases h : okL X.data.toList with
    | false => rfl
    | true => exact absurd (badB_mem j hj) (okL_no_bad h _ (by rw [hXl]; simp))
  · intro h0
    subst h0
    rw [hXl, List.take_zero, List.nil_append, List.cons_append]
    exact rd_bad _ (badB_mem j hj) _

set_option maxHeartbeats 4000000 in
set_option maxRecDepth 1000000 in
theorem bad_walk (a : List Int) (x y : Int) (ao : Option Addr) (ca : Nat) (w : World) (hf : Fit w) (ha : IntsAt w ao a) (hla : a.length ≤ 9223372036854775807) :
    Calls Tryd.prog 4 #[.slice ao a.length ca, .int .i64 x, .int .i64 y] w fun e w' => e = .returned (.bool true) ∧ Below w.heap.size w w' := by
  have q0 := Int.emod_nonneg y (show (6 : Int) ≠ 0 by decide)
  have q1 := Int.emod_lt_of_pos y (show (0 : Int) < 6 by decide)
  go_enter Tryd.func4, Tryd.ntmps4
  go_wp2_with fail
  refine (known_any _ hf).mono ?_
  rintro e w1 ⟨rfl, b1⟩
  have ha1 := ha.below b1
  clear hf ha
  go_wp2_with fail
  refine (lawOf_txt a ao ca _ hla ha1).mono ?_
  rintro e w2 ⟨s, rfl, hs, hsz, b2⟩
  have HS := hide hs
  clear hs ha1
  have bw2 := b1.trans (b2.mono b1.size)
  have k0 := Int.emod_nonneg x (show ((s.size : Int) + 1) ≠ 0 by omega)
  have k1 := Int.emod_lt_of_pos x (show (0 : Int) < (s.size : Int) + 1 by omega)
  go_wp2_with fail
  refine (within_any x _ (by omega) (by omega) _).mono ?_
  rintro e w3 ⟨rfl, rfl⟩
  generalize x % ((s.size : Int) + 1) = kk at *
  obtain ⟨k, rfl⟩ := Int.eq_ofNat_of_zero_le k0
  have hk : k ≤ s.size := by omega
  have hsome : (w2.alloc (.cells badCells 5)).heap[w2.heap.size]? = some (.cells badCells 5 (0, 0)) := alloc_heap _ _
  have bW : Below w.heap.size w (w2.alloc (.cells badCells 5)) := bw2.alloc bw2.size _
  have hq : y % 6 = 0 ∨ y % 6 = 1 ∨ y % 6 = 2 ∨ y % 6 = 3 ∨ y % 6 = 4 ∨ y % 6 = 5 := by omega
  clear k0 k1 q0 q1
  go_wp2_with fail
  show Code.wp _ _ _ _ (w2.alloc (.cells badCells 5))
  generalize w2.alloc (.cells badCells 5) = W at *
  have hcv : ∀ nq j cap, j < 6 → (convert 32 9 (.slice (some ⟨w2.heap.size, j, none⟩) 1 cap)).run Tryd.prog (W.drewN nq) = .ok (.string ⟨#[badB.getD j 0]⟩) (W.drewN nq) := fun nq j cap hj => conv_bad (w := W.drewN nq) hsome j hj cap
  rcases hq with e | e | e | e | e | e
  · go_quiet ((go_at_call 12; exact Calls.quiet_of_same (within_any _ _ (by decide) (by decide) _)))
    generalize hX : s.extract 0 k ++ (⟨#[badB[0]?.getD 0]⟩ : ByteArray) ++ s.extract k s.size = X
    obtain ⟨x1, x2, x3, x4, x5⟩ := bad_facts s k 0 (by decide) hk hsz X hX
    have X3 := hide x3
    have X4 := hide x4
    have X1 := hide x1
    have X2 := hide x2
    clear hX hcv hsome x1 x2 x3 x4
    go_wp2_with fail
    refine (read_any _ _ (by exact unhide X2)).mono ?_
    rintro e1 W1 ⟨rfl, c1⟩
    have bW1 := bW.trans (below_drewN (Below.refl _ W) nq)
    have bW2 := bW1.trans (c1.mono bW1.size)
    rw [show (_ ++ X ++ _ : ByteArray).data.toList = _ from unhide X1]
    generalize hr : rd (34 :: (X.data.toList ++ [34])) = r
    obtain ⟨r1, r2, r3⟩ := r
    have hr3 : k = 0 → r3 = 11 := fun h0 => by
      have := unhide X4 h0
      rw [hr] at this
      exact this
    clear hr
    go_wp2_with fail
    refine (check_any X _).mono ?_
    rintro e2 W2 ⟨rfl, c2⟩
    rw [unhide X3]
    have bW3 := bW2.trans (c2.mono bW2.size)
    by_cases h0 : k = 0
    · obtain rfl := hr3 h0
      clear hr3
      go_wp2
      go_ret
      exact ⟨rfl, bW3⟩
    · have hk0 : 0 < k := by omega
      clear hr3
      go_wp2
      all_goals
        go_ret
        refine ⟨ret_bool ?_, bW3⟩
        simp
  · go_quiet ((go_at_call 12; exact Calls.quiet_of_same (within_any _ _ (by decide) (by decide) _)))
    generalize hX : s.extract 0 k ++ (⟨#[badB[1]?.getD 0]⟩ : ByteArray) ++ s.extract k s.size = X
    obtain ⟨x1, x2, x3, x4, x5⟩ := bad_facts s k 1 (by decide) hk hsz X hX
    have X3 := hide x3
    have X4 := hide x4
    have X1 := hide x1
    have X2 := hide x2
    clear hX hcv hsome x1 x2 x3 x4
    go_wp2_with fail
    refine (read_any _ _ (by exact unhide X2)).mono ?_
    rintro e1 W1 ⟨rfl, c1⟩
    have bW1 := bW.trans (below_drewN (Below.refl _ W) nq)
    have bW2 := bW1.trans (c1.mono bW1.size)
    rw [show (_ ++ X ++ _ : ByteArray).data.toList = _ from unhide X1]
    generalize hr : rd (34 :: (X.data.toList ++ [34])) = r
    obtain ⟨r1, r2, r3⟩ := r
    have hr3 : k = 0 → r3 = 11 := fun h0 => by
      have := unhide X4 h0
      rw [hr] at this
      exact this
    clear hr
    go_wp2_with fail
    refine (check_any X _).mono ?_
    rintro e2 W2 ⟨rfl, c2⟩
    rw [unhide X3]
    have bW3 := bW2.trans (c2.mono bW2.size)
    by_cases h0 : k = 0
    · obtain rfl := hr3 h0
      clear hr3
      go_wp2
      go_ret
      exact ⟨rfl, bW3⟩
    · have hk0 : 0 < k := by omega
      clear hr3
      go_wp2
      all_goals
        go_ret
        refine ⟨ret_bool ?_, bW3⟩
        simp
  · go_quiet ((go_at_call 12; exact Calls.quiet_of_same (within_any _ _ (by decide) (by decide) _)))
    generalize hX : s.extract 0 k ++ (⟨#[badB[2]?.getD 0]⟩ : ByteArray) ++ s.extract k s.size = X
    obtain ⟨x1, x2, x3, x4, x5⟩ := bad_facts s k 2 (by decide) hk hsz X hX
    have X3 := hide x3
    have X4 := hide x4
    have X1 := hide x1
    have X2 := hide x2
    clear hX hcv hsome x1 x2 x3 x4
    go_wp2_with fail
    refine (read_any _ _ (by exact unhide X2)).mono ?_
    rintro e1 W1 ⟨rfl, c1⟩
    have bW1 := bW.trans (below_drewN (Below.refl _ W) nq)
    have bW2 := bW1.trans (c1.mono bW1.size)
    rw [show (_ ++ X ++ _ : ByteArray).data.toList = _ from unhide X1]
    generalize hr : rd (34 :: (X.data.toList ++ [34])) = r
    obtain ⟨r1, r2, r3⟩ := r
    have hr3 : k = 0 → r3 = 11 := fun h0 => by
      have := unhide X4 h0
      rw [hr] at this
      exact this
    clear hr
    go_wp2_with fail
    refine (check_any X _).mono ?_
    rintro e2 W2 ⟨rfl, c2⟩
    rw [unhide X3]
    have bW3 := bW2.trans (c2.mono bW2.size)
    by_cases h0 : k = 0
    · obtain rfl := hr3 h0
      clear hr3
      go_wp2
      go_ret
      exact ⟨rfl, bW3⟩
    · have hk0 : 0 < k := by omega
      clear hr3
      go_wp2
      all_goals
        go_ret
        refine ⟨ret_bool ?_, bW3⟩
        simp
  · go_quiet ((go_at_call 12; exact Calls.quiet_of_same (within_any _ _ (by decide) (by decide) _)))
    generalize hX : s.extract 0 k ++ (⟨#[badB[3]?.getD 0]⟩ : ByteArray) ++ s.extract k s.size = X
    obtain ⟨x1, x2, x3, x4, x5⟩ := bad_facts s k 3 (by decide) hk hsz X hX
    have X3 := hide x3
    have X4 := hide x4
    have X1 := hide x1
    have X2 := hide x2
    clear hX hcv hsome x1 x2 x3 x4
    go_wp2_with fail
    refine (read_any _ _ (by exact unhide X2)).mono ?_
    rintro e1 W1 ⟨rfl, c1⟩
    have bW1 := bW.trans (below_drewN (Below.refl _ W) nq)
    have bW2 := bW1.trans (c1.mono bW1.size)
    rw [show (_ ++ X ++ _ : ByteArray).data.toList = _ from unhide X1]
    generalize hr : rd (34 :: (X.data.toList ++ [34])) = r
    obtain ⟨r1, r2, r3⟩ := r
    have hr3 : k = 0 → r3 = 11 := fun h0 => by
      have := unhide X4 h0
      rw [hr] at this
      exact this
    clear hr
    go_wp2_with fail
    refine (check_any X _).mono ?_
    rintro e2 W2 ⟨rfl, c2⟩
    rw [unhide X3]
    have bW3 := bW2.trans (c2.mono bW2.size)
    by_cases h0 : k = 0
    · obtain rfl := hr3 h0
      clear hr3
      go_wp2
      go_ret
      exact ⟨rfl, bW3⟩
    · have hk0 : 0 < k := by omega
      clear hr3
      go_wp2
      all_goals
        go_ret
        refine ⟨ret_bool ?_, bW3⟩
        simp
  · go_quiet ((go_at_call 12; exact Calls.quiet_of_same (within_any _ _ (by decide) (by decide) _)))
    generalize hX : s.extract 0 k ++ (⟨#[badB[4]?.getD 0]⟩ : ByteArray) ++ s.extract k s.size = X
    obtain ⟨x1, x2, x3, x4, x5⟩ := bad_facts s k 4 (by decide) hk hsz X hX
    have X3 := hide x3
    have X4 := hide x4
    have X1 := hide x1
    have X2 := hide x2
    clear hX hcv hsome x1 x2 x3 x4
    go_wp2_with fail
    refine (read_any _ _ (by exact unhide X2)).mono ?_
    rintro e1 W1 ⟨rfl, c1⟩
    have bW1 := bW.trans (below_drewN (Below.refl _ W) nq)
    have bW2 := bW1.trans (c1.mono bW1.size)
    rw [show (_ ++ X ++ _ : ByteArray).data.toList = _ from unhide X1]
    generalize hr : rd (34 :: (X.data.toList ++ [34])) = r
    obtain ⟨r1, r2, r3⟩ := r
    have hr3 : k = 0 → r3 = 11 := fun h0 => by
      have := unhide X4 h0
      rw [hr] at this
      exact this
    clear hr
    go_wp2_with fail
    refine (check_any X _).mono ?_
    rintro e2 W2 ⟨rfl, c2⟩
    rw [unhide X3]
    have bW3 := bW2.trans (c2.mono bW2.size)
    by_cases h0 : k = 0
    · obtain rfl := hr3 h0
      clear hr3
      go_wp2
      go_ret
      exact ⟨rfl, bW3⟩
    · have hk0 : 0 < k := by omega
      clear hr3
      go_wp2
      all_goals
        go_ret
        refine ⟨ret_bool ?_, bW3⟩
        simp
  · go_quiet ((go_at_call 12; exact Calls.quiet_of_same (within_any _ _ (by decide) (by decide) _)))
    generalize hX : s.extract 0 k ++ (⟨#[badB[5]?.getD 0]⟩ : ByteArray) ++ s.extract k s.size = X
    obtain ⟨x1, x2, x3, x4, x5⟩ := bad_facts s k 5 (by decide) hk hsz X hX
    have X3 := hide x3
    have X4 := hide x4
    have X1 := hide x1
    have X2 := hide x2
    clear hX hcv hsome x1 x2 x3 x4
    go_wp2_with fail
    refine (read_any _ _ (by exact unhide X2)).mono ?_
    rintro e1 W1 ⟨rfl, c1⟩
    have bW1 := bW.trans (below_drewN (Below.refl _ W) nq)
    have bW2 := bW1.trans (c1.mono bW1.size)
    rw [show (_ ++ X ++ _ : ByteArray).data.toList = _ from unhide X1]
    generalize hr : rd (34 :: (X.data.toList ++ [34])) = r
    obtain ⟨r1, r2, r3⟩ := r
    have hr3 : k = 0 → r3 = 11 := fun h0 => by
      have := unhide X4 h0
      rw [hr] at this
      exact this
    clear hr
    go_wp2_with fail
    refine (check_any X _).mono ?_
    rintro e2 W2 ⟨rfl, c2⟩
    rw [unhide X3]
    have bW3 := bW2.trans (c2.mono bW2.size)
    by_cases h0 : k = 0
    · obtain rfl := hr3 h0
      clear hr3
      go_wp2
      go_ret
      exact ⟨rfl, bW3⟩
    · have hk0 : 0 < k := by omega
      clear hr3
      go_wp2
      all_goals
        go_ret
        refine ⟨ret_bool ?_, bW3⟩
        simp
end Go.Proofs.YtiokpdpegkbgiabDoor
