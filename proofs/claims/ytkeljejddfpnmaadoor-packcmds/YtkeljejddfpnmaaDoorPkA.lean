/-
  pack.Crc and chancelref7.Crc: what they return.
-/
import Derived.Test.YtkeljejddfpnmaaDoorPkP
import Derived.Test.YtkeljejddfpnmaaDoorWorlds
import Derived.Laws.BitsAllLaws
import Derived.WalkSmall
import Derived.WalkKit
import Derived.WalkSpells
import Derived.WalkLawsBesides
namespace Go.Proofs.YtkeljejddfpnmaaDoor
open Go.RowKit

theorem new1 (w : World) (o : Obj) : Below w.heap.size w (w.alloc o) := (Below.refl _ w).alloc (Nat.le_refl _) o

/-- Bytes in memory. -/
def BRow (w : World) (ao : Option Addr) (l : List UInt8) : Prop :=
  l = [] ∨ ∃ g off, ao = some ⟨g, off, none⟩ ∧ g < w.heap.size ∧ ∀ j (hj : j < l.length), w.cell? ⟨g, off + j, none⟩ = some (.int .u8 (l[j].toNat : Int))
theorem BRow.below {w w' : World} {ao : Option Addr} {l : List UInt8} (h : BRow w ao l) (hb : Below w.heap.size w w') : BRow w' ao l := by
  rcases h with h | ⟨g, off, e, hg, h⟩
  · exact .inl h
  · exact .inr ⟨g, off, e, Nat.lt_of_lt_of_le hg hb.size, fun j hj => (hb.cell (p := ⟨g, off + j, none⟩) hg).trans (h j hj)⟩
theorem BRow.get {w : World} {ao : Option Addr} {l : List UInt8} (h : BRow w ao l) {j : Nat} (hj : j < l.length) : ∃ g off, ao = some ⟨g, off, none⟩ ∧ g < w.heap.size ∧ w.cell? ⟨g, off + j, none⟩ = some (.int .u8 (l[j].toNat : Int)) := by
  rcases h with rfl | ⟨g, off, e, hg, h⟩
  · simp at hj
  · exact ⟨g, off, e, hg, h j hj⟩

/-- The table of half bytes lies where the program's text lays it. -/
def Half (w : World) : Prop := 0 < w.heap.size ∧ ∀ i, i < 16 → w.cell? ⟨0, i, none⟩ = some (.int .u32 ((tabH.getD i 0 : Nat) : Int))
theorem Half.below {w w' : World} (h : Half w) (hb : Below w.heap.size w w') : Half w' :=
  ⟨Nat.lt_of_lt_of_le h.1 hb.size, fun i hi => (hb.cell (p := ⟨0, i, none⟩) h.1).trans (h.2 i hi)⟩
theorem tabH_lt (i : Nat) : tabH.getD i 0 < 4294967296 := by
  by_cases h : i < 16
  · have : ∀ j, j < 16 → tabH.getD j 0 < 4294967296 := by decide
    exact this i h
  · rw [List.getD_eq_getElem?_getD, List.getElem?_eq_none (by simp [tabH]; omega)]
    decide
theorem crcS_take (s : Nat) (l : List UInt8) (k : Nat) (hk : k < l.length) : crcS s (l.take (k + 1)) = crcB (crcS s (l.take k)) l[k] := by
  rw [List.take_add_one, List.getElem?_eq_getElem hk, crcS_append]
  rfl

/-- The numbers of one half byte's step, as the walk meets them. -/
theorem half_nums (s : Nat) (h : s < 4294967296) : ∃ (z : Int) (k : Nat) (u : Nat), (s : Int) / 16 = z ∧ bits .and .u32 (s : Int) 15 = (k : Int) ∧ k < 16 ∧ k = s % 16 ∧ bits .xor .u32 z ((tabH.getD k 0 : Nat) : Int) = (u : Int) ∧ u = half s ∧ u < 4294967296 := by
  refine ⟨(s / 16 : Nat), s % 16, half s, by omega, ?_, by omega, rfl, ?_, rfl, half_lt h⟩
  · have := u32_and_nat s 15 h (by decide)
    rw [show ((15 : Nat) : Int) = 15 from rfl] at this
    rw [this, show s &&& 15 = s % 16 from Nat.and_two_pow_sub_one_eq_mod s 4]
  · exact u32_xor_nat (s / 16) _ (by omega) (tabH_lt _)

set_option maxHeartbeats 4000000 in
set_option maxRecDepth 1000000 in
theorem crc_any (l : List UInt8) (ao : Option Addr) (cap : Nat) (w : World) (hl : l.length ≤ 281474976710656) (h : BRow w ao l) (hT : Half w) :
    Calls Tryd.prog 15 #[.slice ao l.length cap] w fun e w' => e = .returned (.int .u32 (crcL l : Nat)) ∧ w' = w := by
  obtain ⟨N, hN⟩ : ∃ N : Nat, N = crcL l := ⟨_, rfl⟩
  rw [← hN]
  have HN := hide hN
  clear hN
  go_enter Tryd.func15, Tryd.ntmps15
  go_wp2
  go_loopw [3, 8] (fun sv iv wr => ∃ (k s : Nat), k ≤ l.length ∧ sv = .int .u32 s ∧ iv = .int .i64 k ∧ wr = w ∧ s = crcS 4294967295 (l.take k)) (fun _ iv _ => l.length - (intOf iv).toNat)
  case atStart => exact ⟨0, 4294967295, Nat.zero_le _, rfl, rfl, rfl, rfl⟩
  case round =>
    obtain ⟨k, s, hk, rfl, rfl, rfl, hs⟩ := hrel
    have hs32 : s < 4294967296 := by rw [hs]; exact crcS_lt _ (by decide)
    by_cases hlt : k < l.length
    · have i1 : (k : Int) < (l.length : Int) := by omega
      obtain ⟨g, off, rfl, hg, hc⟩ := h.get hlt
      have hst := crcS_take 4294967295 l k hlt
      rw [← hs] at hst
      generalize l[k] = b at *
      have hb := b.toNat_lt
      obtain ⟨x, hx⟩ : ∃ x : Nat, x = s ^^^ b.toNat := ⟨_, rfl⟩
      have e0 : bits .xor .u32 (s : Int) (b.toNat : Int) = (x : Int) := by rw [hx]; exact u32_xor_nat s b.toNat hs32 (by omega)
      have hx32 : x < 4294967296 := by rw [hx]; exact byte_xor_lt hs32 b
      obtain ⟨z1, k1, u1, a1, a2, a3, a4, a5, a6, a7⟩ := half_nums x hx32
      obtain ⟨z2, k2, u2, b1, b2, b3, b4, b5, b6, b7⟩ := half_nums u1 a7
      have t1 := hT.2 k1 a3
      have t2 := hT.2 k2 b3
      have hu : crcS 4294967295 (l.take (k + 1)) = u2 := by
        rw [hst, b6, a6, hx]
        rfl
      generalize tabH.getD k1 0 = T1 at *
      generalize tabH.getD k2 0 = T2 at *
      obtain ⟨bi, hbi⟩ : ∃ bi : Int, bi = (b.toNat : Int) := ⟨_, rfl⟩
      rw [← hbi] at hc e0
      have hbw : IntKind.u32.wrap bi = bi := by rw [IntKind.wrap_u32']; omega
      have hk1 : (k1 : Int) < 16 := by omega
      have hk2 : (k2 : Int) < 16 := by omega
      have HU := hide hu
      clear hu hst a4 b4 a6 b6 hx hs hbi
      go_wp2
      go_roundw
      case rel => exact ⟨k + 1, u2, by omega, rfl, rfl, by trivial, (unhide HU).symm⟩
      case measure => simp only [intOf]; omega
    · have i1 : ¬ (k : Int) < (l.length : Int) := by omega
      have e0 : bits .xor .u32 IntKind.u32.max (s : Int) = (N : Int) := by
        rw [show IntKind.u32.max = ((4294967295 : Nat) : Int) by decide, unhide HN, crcL, hs, List.take_of_length_le (by omega)]
        exact u32_xor_nat 4294967295 _ (by decide) (crcS_lt _ (by decide))
      clear hs
      go_wp2
      go_ret
      exact ⟨rfl, rfl⟩

/-- Some bits one by one. -/
def stN : Nat → Nat → Nat
  | 0, x => x
  | n + 1, x => st1 (stN n x)
theorem stN_lt : ∀ (n : Nat) {x : Nat}, x < 4294967296 → stN n x < 4294967296
  | 0, _, h => h
  | n + 1, _, h => st1_lt (stN_lt n h)
theorem stN_8 (x : Nat) : stN 8 x = half (half x) := by
  rw [← st4_half, ← st4_half]
  rfl
theorem st1_odd {x : Nat} (h : x < 4294967296) (o : x % 2 = 1) : bits .and .u32 (x : Int) 1 = 1 ∧ bits .xor .u32 ((x : Int) / 2) 2197175160 = ((st1 x : Nat) : Int) := by
  constructor
  · have := u32_and_nat x 1 h (by decide)
    rw [show ((1 : Nat) : Int) = 1 from rfl] at this
    rw [this, Nat.and_one_is_mod, o]
    rfl
  · have := u32_xor_nat (x / 2) 2197175160 (by omega) (by decide)
    rw [show ((2197175160 : Nat) : Int) = 2197175160 from rfl] at this
    rw [show (x : Int) / 2 = ((x / 2 : Nat) : Int) by omega, this, st1, if_pos o]
    rfl
theorem st1_even {x : Nat} (h : x < 4294967296) (o : ¬ x % 2 = 1) : bits .and .u32 (x : Int) 1 = 0 ∧ (x : Int) / 2 = ((st1 x : Nat) : Int) := by
  constructor
  · have := u32_and_nat x 1 h (by decide)
    rw [show ((1 : Nat) : Int) = 1 from rfl] at this
    rw [this, Nat.and_one_is_mod, show x % 2 = 0 by omega]
    rfl
  · rw [st1, if_neg o, Nat.xor_zero]
    omega

set_option maxHeartbeats 4000000 in
set_option maxRecDepth 1000000 in
theorem rcrc_any (l : List UInt8) (ao : Option Addr) (cap : Nat) (w : World) (hl : l.length ≤ 281474976710656) (h : BRow w ao l) :
    Calls Tryd.prog 16 #[.slice ao l.length cap] w fun e w' => e = .returned (.int .u32 (crcL l : Nat)) ∧ w' = w := by
  obtain ⟨N, hN⟩ : ∃ N : Nat, N = crcL l := ⟨_, rfl⟩
  rw [← hN]
  have HN := hide hN
  clear hN
  go_enter Tryd.func16, Tryd.ntmps16
  go_wp2
  go_loopw [3, 4] (fun sv iv wr => ∃ (k s : Nat), k ≤ l.length ∧ sv = .int .u32 s ∧ iv = .int .i64 k ∧ wr = w ∧ s = crcS 4294967295 (l.take k)) (fun _ iv _ => l.length - (intOf iv).toNat)
  case atStart => exact ⟨0, 4294967295, Nat.zero_le _, rfl, rfl, rfl, rfl⟩
  case round =>
    obtain ⟨k, s, hk, rfl, rfl, rfl, hs⟩ := hrel
    have hs32 : s < 4294967296 := by rw [hs]; exact crcS_lt _ (by decide)
    by_cases hlt : k < l.length
    · have i1 : (k : Int) < (l.length : Int) := by omega
      obtain ⟨g, off, rfl, hg, hc⟩ := h.get hlt
      have hst := crcS_take 4294967295 l k hlt
      rw [← hs] at hst
      generalize l[k] = b at *
      have hb := b.toNat_lt
      obtain ⟨x, hx⟩ : ∃ x : Nat, x = s ^^^ b.toNat := ⟨_, rfl⟩
      have e0 : bits .xor .u32 (s : Int) (b.toNat : Int) = (x : Int) := by rw [hx]; exact u32_xor_nat s b.toNat hs32 (by omega)
      have hx32 : x < 4294967296 := by rw [hx]; exact byte_xor_lt hs32 b
      have hu : crcS 4294967295 (l.take (k + 1)) = stN 8 x := by
        rw [hst, stN_8, hx]
        rfl
      obtain ⟨bi, hbi⟩ : ∃ bi : Int, bi = (b.toNat : Int) := ⟨_, rfl⟩
      rw [← hbi] at hc e0
      have hbw : IntKind.u32.wrap bi = bi := by rw [IntKind.wrap_u32']; omega
      have HU := hide hu
      clear hu hst hx hs hbi
      go_wp2
      go_loop [3, 5] (fun xv jv => ∃ j y : Nat, j ≤ 8 ∧ xv = .int .u32 y ∧ jv = .int .i64 j ∧ y = stN j x) (fun _ jv => 8 - (intOf jv).toNat)
      case atStart => exact ⟨0, x, by omega, rfl, rfl, rfl⟩
      case round =>
        obtain ⟨j, y, hj, rfl, rfl, hy⟩ := hrel
        have hy32 : y < 4294967296 := by rw [hy]; exact stN_lt j hx32
        by_cases hj8 : j < 8
        · have j1 : (j : Int) < 8 := by omega
          by_cases o : y % 2 = 1
          · obtain ⟨o1, o2⟩ := st1_odd hy32 o
            have HY := hide (show st1 y = stN (j + 1) x by rw [hy]; rfl)
            generalize st1 y = y2 at *
            clear hy o
            go_wp2
            go_round
            case rel => exact ⟨j + 1, y2, by omega, rfl, rfl, unhide HY⟩
            case measure => simp only [intOf]; omega
          · obtain ⟨o1, o2⟩ := st1_even hy32 o
            have HY := hide (show st1 y = stN (j + 1) x by rw [hy]; rfl)
            generalize st1 y = y2 at *
            clear hy o
            go_wp2
            go_round
            case rel => exact ⟨j + 1, y2, by omega, rfl, rfl, unhide HY⟩
            case measure => simp only [intOf]; omega
        · have j1 : ¬ (j : Int) < 8 := by omega
          have HY := hide (show crcS 4294967295 (l.take (k + 1)) = y by rw [unhide HU, hy, show j = 8 by omega])
          clear hy
          go_wp2
          go_roundw
          case rel => exact ⟨k + 1, y, by omega, rfl, rfl, by trivial, (unhide HY).symm⟩
          case measure => simp only [intOf]; omega
    · have i1 : ¬ (k : Int) < (l.length : Int) := by omega
      have e0 : bits .xor .u32 IntKind.u32.max (s : Int) = (N : Int) := by
        rw [show IntKind.u32.max = ((4294967295 : Nat) : Int) by decide, unhide HN, crcL, hs, List.take_of_length_le (by omega)]
        exact u32_xor_nat 4294967295 _ (by decide) (crcS_lt _ (by decide))
      clear hs
      go_wp2
      go_ret
      exact ⟨rfl, rfl⟩
end Go.Proofs.YtkeljejddfpnmaaDoor
