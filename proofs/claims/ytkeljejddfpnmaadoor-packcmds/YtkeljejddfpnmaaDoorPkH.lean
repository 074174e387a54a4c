/-
  pack.Unframe: what it returns.
-/
import Derived.Test.YtkeljejddfpnmaaDoorPkG
namespace Go.Proofs.YtkeljejddfpnmaaDoor
open Go.RowKit Go.Sort

set_option maxHeartbeats 4000000 in
set_option maxRecDepth 1000000 in
theorem unframe_any (l : List UInt8) (ao : Option Addr) (cap : Nat) (w : World) (hl : l.length ≤ 281474976710656) (h : BRow w ao l) (hc : l.length ≤ cap) (hT : Half w) :
    Calls Tryd.prog 14 #[.slice ao l.length cap] w fun e w' => ∃ ao' cap', e = .returned (.tuple #[.slice ao' (unf l).1.length cap', .int .i64 (unf l).2]) ∧ Below w.heap.size w w' ∧ BRow w' ao' (unf l).1 := by
  have hr0 := RdK.new w ao l cap h hc
  have b0 := new1 w (.cells #[.slice ao l.length cap, .bool false, .bool false] 68)
  have N := rnumber_any 4 (by decide) ⟨l, false, false⟩ _ _ hr0
  by_cases h4 : l.length < 4
  · have e1 : nxt 4 ⟨l, false, false⟩ = ⟨[], true, false⟩ := by unfold nxt; rw [if_neg (by simp; omega)]
    have e2 : val 4 ⟨l, false, false⟩ = 0 := by unfold val frt; rw [if_neg (by simp; omega)]; rfl
    have e3 : unf l = ([], 8) := by unfold unf; rw [if_pos h4]
    rw [e1, e2] at N
    rw [e3]
    clear e1 e2 e3
    go_enter Tryd.func14, Tryd.ntmps14
    go_upto_region 2 with fail
    generalize w.alloc _ = w1 at *
    go_wp2_with fail
    refine N.mono ?_
    rintro e w2 ⟨rfl, k2, ao2, cap2, h2⟩
    obtain ⟨c0, c1, c2, _⟩ := r_cells h2.obj
    go_wp2
    go_ret2
    exact ⟨none, 0, rfl, k2.below b0 (Nat.le_refl _) (Nat.le_refl _) b0.size, .inl rfl⟩
  · have e1 : nxt 4 ⟨l, false, false⟩ = ⟨l.drop 4, false, false⟩ := by unfold nxt; rw [if_pos (by simp; omega)]
    have hv := beV_lt4 (l.take 4) 4 (by rw [List.length_take]; omega)
    have e2 : val 4 ⟨l, false, false⟩ = (beV (l.take 4) : Nat) := by
      unfold val frt
      rw [if_pos (by simp; omega), numV, IntKind.wrap_i64]
      show (((beV (l.take 4) : Nat) : Int) + _) % _ - _ = _
      omega
    rw [e1, e2] at N
    have e3 : unf l = if crcL (l.drop 4) = beV (l.take 4) then (l.drop 4, 0) else ([], 31) := by unfold unf; rw [if_neg h4]
    rw [e3]
    generalize hV : beV (l.take 4) = V at *
    obtain ⟨X, hX⟩ : ∃ X : Int, X = (V : Int) := ⟨_, rfl⟩
    rw [← hX] at N
    have hXw : IntKind.u32.wrap X = X := by rw [IntKind.wrap_u32']; omega
    have hml : (l.drop 4).length ≤ 281474976710656 := by rw [List.length_drop]; omega
    generalize l.drop 4 = m at *
    have HX := hide hX
    clear hX e1 e2 e3 hV hv h4 hr0
    have C := fun ao2 cap2 w2 h2 ht2 => crc_any m ao2 cap2 w2 hml h2 ht2
    have CP := fun ao2 cap2 w' hr' => copyOf_any m ao2 cap2 w' hml hr'
    generalize hY : crcL m = Y at *
    by_cases hq : Y = V
    · rw [if_pos hq]
      have q1 : (X == (Y : Int)) = true := by rw [unhide HX, hq]; simp
      clear hq hY
      go_enter Tryd.func14, Tryd.ntmps14
      go_upto_region 2 with fail
      generalize w.alloc _ = w1 at *
      go_wp2_with fail
      refine N.mono ?_
      rintro e w2 ⟨rfl, k2, ao2, cap2, h2⟩
      have b2 := k2.below b0 (Nat.le_refl _) (Nat.le_refl _) b0.size
      have C := C ao2 cap2 w2 h2.row.row (hT.below b2)
      have CP := CP ao2 cap2
      obtain ⟨c0, c1, c2, _⟩ := r_cells h2.obj
      have hrow := h2.row.row
      simp only [] at c0 c1 c2
      go_wp2_with fail
      refine C.mono ?_
      rintro e w3 ⟨rfl, rfl⟩
      go_wp2_with fail
      refine (CP w3 hrow).mono ?_
      rintro e w4 ⟨rfl, b4, h4⟩
      go_wp2
      go_ret2
      exact ⟨_, _, rfl, b2.trans (b4.mono b2.size), row_of_block h4⟩
    · rw [if_neg hq]
      have q1 : (X == (Y : Int)) = false := by rw [unhide HX]; exact beq_false_of_ne (by omega)
      clear hq hY CP
      go_enter Tryd.func14, Tryd.ntmps14
      go_upto_region 2 with fail
      generalize w.alloc _ = w1 at *
      go_wp2_with fail
      refine N.mono ?_
      rintro e w2 ⟨rfl, k2, ao2, cap2, h2⟩
      have b2 := k2.below b0 (Nat.le_refl _) (Nat.le_refl _) b0.size
      have C := C ao2 cap2 w2 h2.row.row (hT.below b2)
      obtain ⟨c0, c1, c2, _⟩ := r_cells h2.obj
      simp only [] at c0 c1 c2
      go_wp2_with fail
      refine C.mono ?_
      rintro e w3 ⟨rfl, rfl⟩
      go_wp2
      go_ret2
      exact ⟨none, 0, rfl, b2, .inl rfl⟩
end Go.Proofs.YtkeljejddfpnmaaDoor
