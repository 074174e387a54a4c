/-
  chancellaw7.PackFrames: the walk.
-/
import Derived.Test.YtkeljejddfpnmaaDoorKFrmP
namespace Go.Proofs.YtkeljejddfpnmaaDoor
open Go.RowKit Go.Sort

theorem set_u8s (l : List UInt8) (k : Nat) (b : UInt8) : (u8s l).set k (.int .u8 (b.toNat : Int)) = u8s (l.set k b) := by
  simp [u8s, List.map_set]
theorem block_set {w : World} {g : Nat} {l : List UInt8} (h : w.heap[g]? = some (.cells (u8s l).toArray 5 (0, 0))) (k : Nat) (b : UInt8) : (w.setCell ⟨g, k, none⟩ (.int .u8 (b.toNat : Int))).heap[g]? = some (.cells (u8s (l.set k b)).toArray 5 (0, 0)) := by
  simp [World.setCell, Array.getElem?_modify, h, ← set_u8s]

set_option maxHeartbeats 8000000 in
set_option maxRecDepth 1000000 in
theorem frames_walk (l : List UInt8) (ao : Option Addr) (cap : Nat) (at_ : Int) (bt : UInt8) (w : World) (hT : Half w) (hc : l.length ≤ cap) (hs : Shape ao cap) (hr : BRow w ao l) :
    Calls Tryd.prog 4 #[.slice ao l.length cap, .int .i64 at_, .int .u8 (bt.toNat : Int)] w fun e w' => e = .returned (.bool true) ∧ Below w.heap.size w w' := by
  obtain ⟨bi, hbi⟩ : ∃ bi : Int, bi = (bt.toNat : Int) := ⟨_, rfl⟩
  rw [← hbi]
  have HBI := hide hbi
  clear hbi
  have K0 := known7_any w hT
  by_cases hl3 : 3000 < l.length
  · have i1 : (3000 : Int) < (l.length : Int) := by omega
    go_enter Tryd.func4, Tryd.ntmps4
    go_wp2_with fail
    refine K0.mono ?_
    rintro e w1 ⟨rfl, b1⟩
    go_wp2
    go_ret
    exact ⟨rfl, b1⟩
  · obtain ⟨L, hL⟩ : ∃ L : Nat, L = l.length := ⟨_, rfl⟩
    have i1 : ¬ (3000 : Int) < (L : Int) := by omega
    have FR := fun w' h1 h2 => frame_any l ao cap w' (by omega) h1 h2
    have RF := fun w' h1 => rframe_any l ao cap w' (by omega) h1 hs
    have UF := fun ao' w' h1 h2 => unframe_any (frm l) ao' (L + 4) w' (by rw [frm_len]; omega) h1 (by rw [frm_len]; omega) h2
    have UB := fun w' h1 h2 => unframe_any l ao cap w' (by omega) h1 hc h2
    have RU := fun w' h1 => runframe_any l ao cap w' (by omega) h1 hc hs
    have C1 := fun w' h1 h2 => crc_any l ao cap w' (by omega) h1 h2
    have C2 := fun w' h1 => rcrc_any l ao cap w' (by omega) h1
    rw [unf_frm, frm_len] at UF
    simp only [] at UF
    rw [← hL] at FR RF UF UB RU C1 C2 ⊢
    have HL := hide hL
    clear hL
    go_enter Tryd.func4, Tryd.ntmps4
    go_wp2_with fail
    refine K0.mono ?_
    rintro e w1 ⟨rfl, b1⟩
    have r1 := hr.below b1
    have t1 := hT.below b1
    go_wp2_with fail
    refine (FR w1 r1 t1).mono ?_
    rintro e w2 ⟨rfl, b12, g2⟩
    have g2 : w2.heap[w1.heap.size]? = some (.cells (u8s (frm l)).toArray 5 (0, 0)) := g2
    have b2 := b1.trans (b12.mono b1.size)
    have r2 := hr.below b2
    have hg0 : w1.heap.size < w2.heap.size := (Array.getElem?_eq_some_iff.1 g2).1
    clear FR K0
    go_wp2_with fail
    refine (RF w2 r2).mono ?_
    rintro e w3 ⟨v3, rfl, b23, o3⟩
    have b3 := b2.trans (b23.mono b2.size)
    have g3 := kept_of_below b23 g2
    obtain ⟨ao3, cap3, hv3, hc3, hs3, hr3, _⟩ := o3.open
    have e3 : (frm l).length = L + 4 := by rw [frm_len, unhide HL]
    have hv3' : v3 = .slice ao3 (L + 4) cap3 := by rw [hv3]; show Value.slice ao3 (frm l).length cap3 = _; rw [e3]
    subst hv3'
    clear RF hv3 o3
    go_wp2_with fail
    refine (UF _ w3 (row_of_block g3) (hT.below b3)).mono ?_
    rintro e w4 ⟨ao4, cap4, rfl, b34, hr4⟩
    have b4 := b3.trans (b34.mono b3.size)
    have g4 := kept_of_below b34 g3
    obtain ⟨S1, hS1⟩ : ∃ S : ByteArray, S = ⟨(frm l).toArray⟩ := ⟨_, rfl⟩
    obtain ⟨S2, hS2⟩ : ∃ S : ByteArray, S = ⟨l.toArray⟩ := ⟨_, rfl⟩
    have v1 := conv_run (L + 4) e3.symm (row_of_block g4)
    have v2 := conv_run cap3 e3.symm (hr3.below b34)
    have v3 := conv_run cap4 (unhide HL) hr4
    have v4 := conv_run cap (unhide HL) (hr.below b4)
    rw [← hS1] at v1 v2
    rw [← hS2] at v3 v4
    have C1 := C1 w4 (hr.below b4) (hT.below b4)
    have C2 := C2 w4 (hr.below b4)
    generalize crcL l = X at C1 C2
    have HR4 := hide (hr.below b4)
    have HT4 := hide (hT.below b4)
    have HG4 := hide g4
    clear hS1 hS2 hr3 hr4 g2 g3 g4 t1 r1 r2 UF hr
    go_wp2_with fail
    refine C1.mono ?_
    rintro e w4' ⟨rfl, rfl⟩
    go_wp2_with fail
    refine C2.mono ?_
    rintro e w4' ⟨rfl, rfl⟩
    clear C1 C2 v1 v2 v3 v4
    go_wp2_with fail
    refine (UB _ (unhide HR4) (unhide HT4)).mono ?_
    rintro e w5 ⟨ao5, cap5, rfl, b45, hr5⟩
    have b5 := b4.trans (b45.mono b4.size)
    have r5 := (unhide HR4).below b45
    go_wp2_with fail
    refine (RU _ r5).mono ?_
    rintro e w6 ⟨ao6, cap6, rfl, b56, hr6, _⟩
    have b6 := b5.trans (b56.mono b5.size)
    have v5 := conv_run cap5 rfl (hr5.below b56)
    have v6 := conv_run cap6 rfl hr6
    have HG6 := hide (kept_of_below b56 (kept_of_below b45 (unhide HG4)))
    have HT6 := hide (((unhide HT4).below b45).below b56)
    clear UB RU hr5 hr6 r5
    generalize unf l = U at *
    obtain ⟨u, z⟩ := U
    simp only [] at v5 v6
    obtain ⟨S3, hS3⟩ : ∃ S : ByteArray, S = ⟨u.toArray⟩ := ⟨_, rfl⟩
    rw [← hS3] at v5 v6
    clear hS3
    generalize u.length = un at *
    by_cases h0 : bt = 0
    · have q1 : (bi == 0) = true := by rw [unhide HBI, h0]; rfl
      go_wp2
      go_ret
      exact ⟨rfl, b6⟩
    · have hne : ¬ (bt.toNat : Int) = 0 := by
        intro e
        exact h0 (UInt8.toNat.inj (by simpa using e))
      have q1 : (bi == 0) = false := by rw [unhide HBI]; exact beq_false_of_ne hne
      obtain ⟨N, hN⟩ : ∃ N : Int, N = (L : Int) + 4 := ⟨_, rfl⟩
      have W := fun w' => within7_any at_ N (by omega) (by omega) w'
      have h1 := Int.emod_nonneg at_ (show N ≠ 0 by omega)
      have h2 := Int.emod_lt_of_pos at_ (show 0 < N by omega)
      obtain ⟨k, hk⟩ : ∃ k : Nat, at_ % N = (k : Int) := ⟨(at_ % N).toNat, by omega⟩
      rw [hk] at W
      have hkf : k < (frm l).length := by omega
      have i2 : (k : Int) < (L : Int) + 4 := by omega
      have g6 := unhide HG6
      have ck : w6.cell? ⟨w1.heap.size, k, none⟩ = some (.int .u8 ((frm l)[k].toNat : Int)) := by
        rw [Lib.cell_of_heap g6]
        simp [u8s, hkf]
      have fz : w6.frozen? ⟨w1.heap.size, k, none⟩ = false := by rw [Lib.frozen_of_heap g6]
      have xv := u8_xor_val (frm l)[k] bt
      have nt := unf_turn l k hkf ((frm l)[k] ^^^ bt) (xor_ne _ _ h0)
      have g7 := block_set g6 k ((frm l)[k] ^^^ bt)
      have b7 := b6.setCell (p := ⟨w1.heap.size, k, none⟩) b1.size (.int .u8 (((frm l)[k] ^^^ bt).toNat : Int))
      have UL := unframe_any _ _ (L + 4) _ (by rw [List.length_set, frm_len]; omega) (row_of_block g7) (by rw [List.length_set, e3]; exact Nat.le_refl _) (hT.below b7)
      rw [nt, List.length_set, e3] at UL
      simp only [List.length_nil] at UL
      rw [← unhide HBI] at xv
      generalize (((frm l)[k] ^^^ bt).toNat : Int) = xi at *
      generalize ((frm l)[k].toNat : Int) = fi at *
      rw [hN] at W
      clear h1 h2 hk hkf nt g6 g7 hN
      go_wp2_with fail
      refine (W _).mono ?_
      rintro e w6' ⟨rfl, rfl⟩
      go_wp2_with fail
      refine UL.mono ?_
      rintro e w8 ⟨ao8, cap8, rfl, b8, _⟩
      go_wp2
      go_ret
      exact ⟨rfl, b7.trans (b8.mono b7.size)⟩
end Go.Proofs.YtkeljejddfpnmaaDoor
