/-
  chancellaw6.ShowChains: the walk.
-/
import Derived.Test.YtpblalklenebhaaDoorShChP
namespace Go.Proofs.YtpblalklenebhaaDoor
open Go.RowKit Go.Sort

theorem holds_var (w w1 : World) (b1 : Below w.heap.size w w1) : Holds w (w1.alloc (.cells #[.int .i64 5, .bool false, .int .i64 0, .string ⟨#[112, 114, 105, 110, 99, 105, 112, 97, 108]⟩, .string ⟨#[]⟩, .string ⟨#[]⟩, .slice none 0 0] 32)) w1.heap.size (chB false) := by
  refine ⟨b1.alloc b1.size _, b1.size, ⟨5, false, 0, ⟨#[112, 114, 105, 110, 99, 105, 112, 97, 108]⟩, ⟨#[]⟩, ⟨#[]⟩, none, 0, 0⟩, alloc_heap _ _, ?_⟩
  show IsE _ _ _ (eVar cPrincipal)
  unfold eVar IsE IsEs
  exact ⟨rfl, rfl, rfl, rfl, rfl, rfl, rfl, trivial⟩

theorem holds_sum (w w1 : World) (b1 : Below w.heap.size w w1) : Holds w ((w1.alloc (.cells #[.int .i64 14, .bool false, .int .i64 0, .string ⟨#[]⟩, .string ⟨#[]⟩, .string ⟨#[]⟩, .slice (some ⟨w1.heap.size + 1, 0, none⟩) 2 2] 32)).alloc (.cells #[.int .i64 2, .bool false, .int .i64 1, .string ⟨#[]⟩, .string ⟨#[]⟩, .string ⟨#[]⟩, .slice none 0 0, .int .i64 2, .bool false, .int .i64 2, .string ⟨#[]⟩, .string ⟨#[]⟩, .string ⟨#[]⟩, .slice none 0 0] 32)) w1.heap.size (chB true) := by
  have n1 := newS w1 (.cells #[.int .i64 14, .bool false, .int .i64 0, .string ⟨#[]⟩, .string ⟨#[]⟩, .string ⟨#[]⟩, .slice (some ⟨w1.heap.size + 1, 0, none⟩) 2 2] 32)
  have n2 := newS (w1.alloc (.cells #[.int .i64 14, .bool false, .int .i64 0, .string ⟨#[]⟩, .string ⟨#[]⟩, .string ⟨#[]⟩, .slice (some ⟨w1.heap.size + 1, 0, none⟩) 2 2] 32)) (.cells #[.int .i64 2, .bool false, .int .i64 1, .string ⟨#[]⟩, .string ⟨#[]⟩, .string ⟨#[]⟩, .slice none 0 0, .int .i64 2, .bool false, .int .i64 2, .string ⟨#[]⟩, .string ⟨#[]⟩, .string ⟨#[]⟩, .slice none 0 0] 32)
  have hz : (w1.alloc (.cells #[.int .i64 14, .bool false, .int .i64 0, .string ⟨#[]⟩, .string ⟨#[]⟩, .string ⟨#[]⟩, .slice (some ⟨w1.heap.size + 1, 0, none⟩) 2 2] 32)).heap.size = w1.heap.size + 1 := by simp
  have b2 := b1.trans (n1.mono b1.size)
  have Z2 : ((w1.alloc (.cells #[.int .i64 14, .bool false, .int .i64 0, .string ⟨#[]⟩, .string ⟨#[]⟩, .string ⟨#[]⟩, .slice (some ⟨w1.heap.size + 1, 0, none⟩) 2 2] 32)).alloc (.cells #[.int .i64 2, .bool false, .int .i64 1, .string ⟨#[]⟩, .string ⟨#[]⟩, .string ⟨#[]⟩, .slice none 0 0, .int .i64 2, .bool false, .int .i64 2, .string ⟨#[]⟩, .string ⟨#[]⟩, .string ⟨#[]⟩, .slice none 0 0] 32)).heap[w1.heap.size + 1]? = some (.cells #[.int .i64 2, .bool false, .int .i64 1, .string ⟨#[]⟩, .string ⟨#[]⟩, .string ⟨#[]⟩, .slice none 0 0, .int .i64 2, .bool false, .int .i64 2, .string ⟨#[]⟩, .string ⟨#[]⟩, .string ⟨#[]⟩, .slice none 0 0] 32) := by
    have h := alloc_heap (w1.alloc (.cells #[.int .i64 14, .bool false, .int .i64 0, .string ⟨#[]⟩, .string ⟨#[]⟩, .string ⟨#[]⟩, .slice (some ⟨w1.heap.size + 1, 0, none⟩) 2 2] 32)) (.cells #[.int .i64 2, .bool false, .int .i64 1, .string ⟨#[]⟩, .string ⟨#[]⟩, .string ⟨#[]⟩, .slice none 0 0, .int .i64 2, .bool false, .int .i64 2, .string ⟨#[]⟩, .string ⟨#[]⟩, .string ⟨#[]⟩, .slice none 0 0] 32)
    rw [hz] at h
    exact h
  refine ⟨b2.trans (n2.mono b2.size), b1.size, ⟨14, false, 0, ⟨#[]⟩, ⟨#[]⟩, ⟨#[]⟩, some ⟨w1.heap.size + 1, 0, none⟩, 2, 2⟩, kept_of_below n2 (alloc_heap _ _), ?_⟩
  show IsE _ _ _ (eOp 14 [eLong 1, eLong 2])
  have hl := (Array.getElem?_eq_some_iff.1 Z2).1
  have hlong : ∀ v : Int, IsE ((w1.alloc (.cells #[.int .i64 14, .bool false, .int .i64 0, .string ⟨#[]⟩, .string ⟨#[]⟩, .string ⟨#[]⟩, .slice (some ⟨w1.heap.size + 1, 0, none⟩) 2 2] 32)).alloc (.cells #[.int .i64 2, .bool false, .int .i64 1, .string ⟨#[]⟩, .string ⟨#[]⟩, .string ⟨#[]⟩, .slice none 0 0, .int .i64 2, .bool false, .int .i64 2, .string ⟨#[]⟩, .string ⟨#[]⟩, .string ⟨#[]⟩, .slice none 0 0] 32)) (fun b => b ≠ w1.heap.size) (rLong v) (eLong v) := by
    intro v
    unfold eLong IsE IsEs
    exact ⟨rfl, rfl, rfl, rfl, rfl, rfl, rfl, trivial⟩
  unfold eOp IsE
  refine ⟨rfl, rfl, rfl, rfl, rfl, rfl, rfl, ?_⟩
  unfold IsEs
  refine ⟨⟨rLong 1, w1.heap.size + 1, 0, rfl, by show w1.heap.size + 1 ≠ w1.heap.size; omega, hl, at7_blk Z2 0 (rLong 1) rfl rfl rfl rfl rfl rfl rfl, hlong 1⟩, ?_⟩
  unfold IsEs
  refine ⟨⟨rLong 2, w1.heap.size + 1, 0, rfl, by show w1.heap.size + 1 ≠ w1.heap.size; omega, hl, at7_blk Z2 7 (rLong 2) rfl rfl rfl rfl rfl rfl rfl, hlong 2⟩, ?_⟩
  unfold IsEs
  trivial
theorem Holds.alloc {w wr : World} {p : Nat} {x : Ex} (h : Holds w wr p x) (o : Obj) : Holds w (wr.alloc o) p x := by
  obtain ⟨r, h1, h2⟩ := h.at'
  have n1 := newS wr o
  exact ⟨h.below.trans (n1.mono h.below.size), h.lt, r, kept_of_below n1 h1, IsE.turn n1.size (fun b hb hb2 => ⟨n1.block b hb2, hb⟩) r x h2⟩

set_option maxHeartbeats 4000000 in
set_option maxRecDepth 1000000 in
theorem chains_walk (n m : Int) (ls : Bool) (w : World) (hT : Tab6 w) : Calls Tryd.prog 7 #[.int .i64 n, .int .i64 m, .bool ls] w fun e w' => e = .returned (.bool true) ∧ Below w.heap.size w w' := by
  have K := known6_any w hT
  have HT := hide hT
  clear hT
  cases ls with
  | false =>
    go_enter Tryd.func7, Tryd.ntmps7
    go_wp2_with fail
    refine K.mono ?_
    rintro e w1 ⟨rfl, b1⟩
    clear K
    have H2 := holds_var w w1 b1
    go_upto_region 8 with fail
    generalize w1.alloc _ = w2 at *
    clear b1
    generalize w1.heap.size = p at *
    by_cases hn : n < 0
    · go_wp2
      go_ret
      exact ⟨rfl, H2.below⟩
    by_cases hm : m < 0
    · go_wp2
      go_ret
      exact ⟨rfl, H2.below⟩
    obtain ⟨a, ha⟩ : ∃ a : Nat, n.tmod 4 = (a : Int) := ⟨(n.tmod 4).toNat, by have := Int.tmod_nonneg 4 (show 0 ≤ n by omega); omega⟩
    obtain ⟨c, hc⟩ : ∃ c : Nat, m.tmod 4 = (c : Int) := ⟨(m.tmod 4).toNat, by have := Int.tmod_nonneg 4 (show 0 ≤ m by omega); omega⟩
    have ha4 : a < 4 := by have := Int.tmod_lt_of_pos n (show (0 : Int) < 4 by decide); omega
    have hc4 : c < 4 := by have := Int.tmod_lt_of_pos m (show (0 : Int) < 4 by decide); omega
    go_wp2_with fail
    go_loopw [8, 9] (fun sv kv wr => ∃ (k : Nat) (s : ByteArray), k ≤ a ∧ kv = .int .i64 k ∧ sv = .string s ∧ s.size ≤ 9 + 2 * k ∧ Holds w wr p (chG false k) ∧ Hid (s = ba (tG false k))) (fun _ kv _ => a - (intOf kv).toNat)
    case atStart => exact ⟨0, _, Nat.zero_le _, rfl, rfl, by decide, H2, hide rfl⟩
    case round =>
      obtain ⟨k, s, hk, rfl, rfl, hs, H, HS⟩ := hrel
      by_cases hlt : k < a
      · have i1 : (k : Int) < (a : Int) := by omega
        obtain ⟨r, hr, hx⟩ := H.at'
        have M := Holds.more H.below H.lt hr hx 7 [97]
        have HM := hide M
        obtain ⟨x0, x1, x2, x3, x4, x5, x6, xf⟩ := blk7 hr
        have hpl := (Array.getElem?_eq_some_iff.1 hr).1
        have nx : ¬ p = wr.heap.size := by omega
        have g1 : ¬ 9223372036854775807 < s.size + 2 := by omega
        clear hr hx M
        go_wp2
        go_roundw
        case rel => exact ⟨k + 1, _, hlt, by go_num, rfl, by rw [ByteArray.size_append]; show s.size + 2 ≤ 9 + 2 * (k + 1); omega, unhide HM, hide (by rw [unhide HS]; show _ = ba (tG false k ++ [46, 97]); rw [← ba_append]; rfl)⟩
        case measure =>
          simp only [intOf]
          omega
      · obtain rfl : k = a := by omega
        have i1 : ¬ (k : Int) < (k : Int) := by omega
        go_wp2_with fail
        go_loopw [8, 10] (fun sv kv wr => ∃ (i : Nat) (s' : ByteArray), i ≤ c ∧ kv = .int .i64 i ∧ sv = .string s' ∧ s'.size ≤ 9 + 2 * k + i ∧ Holds w wr p (chN false k i) ∧ Hid (s' = ba (tN false k i))) (fun _ kv _ => c - (intOf kv).toNat)
        case atStart => exact ⟨0, s, Nat.zero_le _, rfl, rfl, by omega, H, hide (unhide HS)⟩
        case round =>
          obtain ⟨i, s', hi, rfl, rfl, hs', H', HS'⟩ := hrel
          by_cases hlt2 : i < c
          · have i2 : (i : Int) < (c : Int) := by omega
            obtain ⟨r, hr, hx⟩ := H'.at'
            obtain ⟨x0, x1, x2, x3, x4, x5, x6, xf⟩ := blk7 hr
            have hpl := (Array.getElem?_eq_some_iff.1 hr).1
            have nx : ¬ p = wr.heap.size := by omega
            have g1 : ¬ 9223372036854775807 < 1 + s'.size := by omega
            rcases Nat.mod_two_eq_zero_or_one i with h2 | h2
            · have e2 : (i : Int).tmod 2 = 0 := by rw [Int.tmod_eq_emod_of_nonneg (by omega)]; omega
              have HM := hide ((Holds.more H'.below H'.lt hr hx 11 []).alloc (.cells #[.string ⟨#[33]⟩, .string ⟨#[45]⟩] 9))
              have HE := hide (show chN false k (i + 1) = eTx 11 [] [chN false k i] by rw [chN, h2]; rfl)
              have HE2 := hide (show tN false k (i + 1) = [33] ++ tN false k i by rw [tN, if_pos h2])
              clear hr hx h2
              go_wp2
              go_roundw
              case rel => exact ⟨i + 1, _, hlt2, by go_num, rfl, by rw [ByteArray.size_append]; show 1 + s'.size ≤ 9 + 2 * k + (i + 1); omega, by rw [unhide HE]; exact unhide HM, hide (by rw [unhide HE2, unhide HS', ← ba_append]; rfl)⟩
              case measure =>
                simp only [intOf]
                omega
            · have e2 : (i : Int).tmod 2 = 1 := by rw [Int.tmod_eq_emod_of_nonneg (by omega)]; omega
              have HM := hide ((Holds.more H'.below H'.lt hr hx 12 []).alloc (.cells #[.string ⟨#[33]⟩, .string ⟨#[45]⟩] 9))
              have HE := hide (show chN false k (i + 1) = eTx 12 [] [chN false k i] by rw [chN, h2]; rfl)
              have HE2 := hide (show tN false k (i + 1) = [45] ++ tN false k i by rw [tN, if_neg (by omega)])
              clear hr hx h2
              go_wp2
              go_roundw
              case rel => exact ⟨i + 1, _, hlt2, by go_num, rfl, by rw [ByteArray.size_append]; show 1 + s'.size ≤ 9 + 2 * k + (i + 1); omega, by rw [unhide HE]; exact unhide HM, hide (by rw [unhide HE2, unhide HS', ← ba_append]; rfl)⟩
              case measure =>
                simp only [intOf]
                omega
          · obtain rfl : i = c := by omega
            have i2 : ¬ (i : Int) < (i : Int) := by omega
            obtain ⟨r, hr, hx⟩ := H'.at'
            obtain ⟨x0, x1, x2, x3, x4, x5, x6, xf⟩ := blk7 hr
            obtain ⟨t1, t2, t3, t4⟩ := ch_text false ⟨k, ha4⟩ ⟨i, hc4⟩
            have C := shows_of t3 t2 t1 (Nat.le_trans t4 (by decide)) r wr ((unhide HT).below H'.below) (IsE.turn (Nat.le_refl _) (fun b _ _ => ⟨rfl, trivial⟩) r _ hx)
            unfold R7.val at C
            clear hr hx t1 t2 t3 t4 H
            have H := H'
            have HS2 := HS'
            clear H' HS' HS
            have e1 : tAll false k i = tN false k i := if_neg (fun h => by cases h.1)
            rw [e1, ← unhide HS2] at C
            clear e1
            go_wp2_with fail
            refine C.mono ?_
            rintro e w9 ⟨rfl, b9⟩
            go_wp2
            go_ret
            exact ⟨rfl, H.below.trans (b9.mono H.below.size)⟩

  | true =>
    go_enter Tryd.func7, Tryd.ntmps7
    go_wp2_with fail
    refine K.mono ?_
    rintro e w1 ⟨rfl, b1⟩
    clear K
    have H2 := holds_sum w w1 b1
    go_upto_region 8 with fail
    generalize (w1.alloc _).alloc _ = w2 at *
    clear b1
    generalize w1.heap.size = p at *
    by_cases hn : n < 0
    · go_wp2
      go_ret
      exact ⟨rfl, H2.below⟩
    by_cases hm : m < 0
    · go_wp2
      go_ret
      exact ⟨rfl, H2.below⟩
    obtain ⟨a, ha⟩ : ∃ a : Nat, n.tmod 4 = (a : Int) := ⟨(n.tmod 4).toNat, by have := Int.tmod_nonneg 4 (show 0 ≤ n by omega); omega⟩
    obtain ⟨c, hc⟩ : ∃ c : Nat, m.tmod 4 = (c : Int) := ⟨(m.tmod 4).toNat, by have := Int.tmod_nonneg 4 (show 0 ≤ m by omega); omega⟩
    have ha4 : a < 4 := by have := Int.tmod_lt_of_pos n (show (0 : Int) < 4 by decide); omega
    have hc4 : c < 4 := by have := Int.tmod_lt_of_pos m (show (0 : Int) < 4 by decide); omega
    go_wp2_with fail
    go_loopw [8, 9] (fun sv kv wr => ∃ (k : Nat) (s : ByteArray), k ≤ a ∧ kv = .int .i64 k ∧ sv = .string s ∧ s.size ≤ 9 + 2 * k ∧ Holds w wr p (chG true k) ∧ Hid (s = ba (tG true k))) (fun _ kv _ => a - (intOf kv).toNat)
    case atStart => exact ⟨0, _, Nat.zero_le _, rfl, rfl, by decide, H2, hide rfl⟩
    case round =>
      obtain ⟨k, s, hk, rfl, rfl, hs, H, HS⟩ := hrel
      by_cases hlt : k < a
      · have i1 : (k : Int) < (a : Int) := by omega
        obtain ⟨r, hr, hx⟩ := H.at'
        have M := Holds.more H.below H.lt hr hx 7 [97]
        have HM := hide M
        obtain ⟨x0, x1, x2, x3, x4, x5, x6, xf⟩ := blk7 hr
        have hpl := (Array.getElem?_eq_some_iff.1 hr).1
        have nx : ¬ p = wr.heap.size := by omega
        have g1 : ¬ 9223372036854775807 < s.size + 2 := by omega
        clear hr hx M
        go_wp2
        go_roundw
        case rel => exact ⟨k + 1, _, hlt, by go_num, rfl, by rw [ByteArray.size_append]; show s.size + 2 ≤ 9 + 2 * (k + 1); omega, unhide HM, hide (by rw [unhide HS]; show _ = ba (tG true k ++ [46, 97]); rw [← ba_append]; rfl)⟩
        case measure =>
          simp only [intOf]
          omega
      · obtain rfl : k = a := by omega
        have i1 : ¬ (k : Int) < (k : Int) := by omega
        go_wp2_with fail
        go_loopw [8, 10] (fun sv kv wr => ∃ (i : Nat) (s' : ByteArray), i ≤ c ∧ kv = .int .i64 i ∧ sv = .string s' ∧ s'.size ≤ 9 + 2 * k + i ∧ Holds w wr p (chN true k i) ∧ Hid (s' = ba (tN true k i))) (fun _ kv _ => c - (intOf kv).toNat)
        case atStart => exact ⟨0, s, Nat.zero_le _, rfl, rfl, by omega, H, hide (unhide HS)⟩
        case round =>
          obtain ⟨i, s', hi, rfl, rfl, hs', H', HS'⟩ := hrel
          by_cases hlt2 : i < c
          · have i2 : (i : Int) < (c : Int) := by omega
            obtain ⟨r, hr, hx⟩ := H'.at'
            obtain ⟨x0, x1, x2, x3, x4, x5, x6, xf⟩ := blk7 hr
            have hpl := (Array.getElem?_eq_some_iff.1 hr).1
            have nx : ¬ p = wr.heap.size := by omega
            have g1 : ¬ 9223372036854775807 < 1 + s'.size := by omega
            rcases Nat.mod_two_eq_zero_or_one i with h2 | h2
            · have e2 : (i : Int).tmod 2 = 0 := by rw [Int.tmod_eq_emod_of_nonneg (by omega)]; omega
              have HM := hide ((Holds.more H'.below H'.lt hr hx 11 []).alloc (.cells #[.string ⟨#[33]⟩, .string ⟨#[45]⟩] 9))
              have HE := hide (show chN true k (i + 1) = eTx 11 [] [chN true k i] by rw [chN, h2]; rfl)
              have HE2 := hide (show tN true k (i + 1) = [33] ++ tN true k i by rw [tN, if_pos h2])
              clear hr hx h2
              go_wp2
              go_roundw
              case rel => exact ⟨i + 1, _, hlt2, by go_num, rfl, by rw [ByteArray.size_append]; show 1 + s'.size ≤ 9 + 2 * k + (i + 1); omega, by rw [unhide HE]; exact unhide HM, hide (by rw [unhide HE2, unhide HS', ← ba_append]; rfl)⟩
              case measure =>
                simp only [intOf]
                omega
            · have e2 : (i : Int).tmod 2 = 1 := by rw [Int.tmod_eq_emod_of_nonneg (by omega)]; omega
              have HM := hide ((Holds.more H'.below H'.lt hr hx 12 []).alloc (.cells #[.string ⟨#[33]⟩, .string ⟨#[45]⟩] 9))
              have HE := hide (show chN true k (i + 1) = eTx 12 [] [chN true k i] by rw [chN, h2]; rfl)
              have HE2 := hide (show tN true k (i + 1) = [45] ++ tN true k i by rw [tN, if_neg (by omega)])
              clear hr hx h2
              go_wp2
              go_roundw
              case rel => exact ⟨i + 1, _, hlt2, by go_num, rfl, by rw [ByteArray.size_append]; show 1 + s'.size ≤ 9 + 2 * k + (i + 1); omega, by rw [unhide HE]; exact unhide HM, hide (by rw [unhide HE2, unhide HS', ← ba_append]; rfl)⟩
              case measure =>
                simp only [intOf]
                omega
          · obtain rfl : i = c := by omega
            have i2 : ¬ (i : Int) < (i : Int) := by omega
            obtain ⟨r, hr, hx⟩ := H'.at'
            obtain ⟨x0, x1, x2, x3, x4, x5, x6, xf⟩ := blk7 hr
            obtain ⟨t1, t2, t3, t4⟩ := ch_text true ⟨k, ha4⟩ ⟨i, hc4⟩
            have C := shows_of t3 t2 t1 (Nat.le_trans t4 (by decide)) r wr ((unhide HT).below H'.below) (IsE.turn (Nat.le_refl _) (fun b _ _ => ⟨rfl, trivial⟩) r _ hx)
            unfold R7.val at C
            clear hr hx t1 t2 t3 t4 H
            have H := H'
            have HS2 := HS'
            clear H' HS' HS
            by_cases h0 : k = 0 ∧ i = 0
            · obtain ⟨rfl, rfl⟩ := h0
              have C := C
              rw [show tAll true 0 0 = [49, 32, 43, 32, 50] from rfl] at C
              have q1 : ((ba [49, 32, 43, 32, 50]).toList == [49, 32, 43, 32, 50]) = true := by rw [ba_list]; rfl
              go_wp2_with fail
              refine C.mono ?_
              rintro e w9 ⟨rfl, b9⟩
              go_wp2
              go_ret
              exact ⟨rfl, H.below.trans (b9.mono H.below.size)⟩
            · have e1 : tAll true k i = tN true k i := if_neg (fun h => h0 ⟨h.2.1, h.2.2⟩)
              rw [e1, ← unhide HS2] at C
              have q2 : (((k : Int) == 0) && ((i : Int) == 0)) = false := by
                by_cases ha : k = 0
                · have hc : ¬ i = 0 := fun h => h0 ⟨ha, h⟩
                  simp [ha]; omega
                · simp; omega
              by_cases ha : k = 0
              · have hc : ((i : Int) == 0) = false := by have hc : ¬ i = 0 := fun h => h0 ⟨ha, h⟩; simp; omega
                have ha' : ((k : Int) == 0) = true := by simp; omega
                clear h0 e1 q2 ha
                go_wp2_with fail
                refine C.mono ?_
                rintro e w9 ⟨rfl, b9⟩
                go_wp2
                go_ret
                exact ⟨rfl, H.below.trans (b9.mono H.below.size)⟩
              · have ha' : ((k : Int) == 0) = false := by simp; omega
                clear h0 e1 q2 ha
                go_wp2_with fail
                refine C.mono ?_
                rintro e w9 ⟨rfl, b9⟩
                go_wp2
                go_ret
                exact ⟨rfl, H.below.trans (b9.mono H.below.size)⟩

end Go.Proofs.YtpblalklenebhaaDoor
