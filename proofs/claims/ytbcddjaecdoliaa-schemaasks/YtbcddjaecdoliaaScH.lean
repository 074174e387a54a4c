/-
  schema: what a function of the check returns.
-/
import Derived.Test.YtbcddjaecdoliaaScF
namespace Go.Proofs.Ytbcddjaecdoliaa
open Go.RowKit Go.Sort

set_option maxHeartbeats 4000000 in
set_option maxRecDepth 1000000 in
theorem checkActions_any (s : SP) (v : Value) (w : World) (hl : SmallAll s) (hs : IsS w v s) :
    Calls Try.prog 32 #[v] w fun e w' => e = .returned (.int .i64 (actsC s.names ⟨#[]⟩ s.ac)) ∧ Below w.heap.size w w' := by
  obtain ⟨ko, kc, ao, ac, rfl, _, _⟩ := hs.ex
  have B := blw1 w (.cells #[.slice ko s.ks.length kc, .slice ao s.ac.length ac] 25)
  have c0 : (w.alloc (.cells #[.slice ko s.ks.length kc, .slice ao s.ac.length ac] 25)).cell? ⟨w.heap.size, 0, none⟩ = some (.slice ko s.ks.length kc) := by simp
  have c1 : (w.alloc (.cells #[.slice ko s.ks.length kc, .slice ao s.ac.length ac] 25)).cell? ⟨w.heap.size, 1, none⟩ = some (.slice ao s.ac.length ac) := by simp
  have z : (w.alloc (.cells #[.slice ko s.ks.length kc, .slice ao s.ac.length ac] 25)).heap.size = w.heap.size + 1 := by simp
  have hs1 := hs.below B
  have HS := hide hs1
  have HK := hide (hs1.schema.2)
  have hlen := hl.sm.ac
  obtain ⟨KC, hKC⟩ : ∃ z, z = actsC s.names ⟨#[]⟩ s.ac := ⟨_, rfl⟩
  rw [← hKC]
  have HE3 := hide hKC
  clear hs hs1 hKC
  go_enter Try.func32, Try.ntmps32
  go_wp2_with fail
  generalize w.alloc _ = w3 at *
  go_wp2
  go_loopw [3, 11] (fun av iv wr => ∃ (i : Nat) (ah : ByteArray), av = .string ah ∧ iv = .int .i64 i ∧ i ≤ s.ac.length ∧ Below w3.heap.size w3 wr ∧ KC = actsC s.names ah (s.ac.drop i)) (fun _ iv _ => s.ac.length - (intOf iv).toNat)
  case atStart => exact ⟨0, ⟨#[]⟩, rfl, by go_num, Nat.zero_le _, Below.refl _ _, unhide HE3⟩
  case round =>
    clear HE3
    obtain ⟨i, ah, rfl, rfl, hil, hbw, hlo⟩ := hrel
    have Hlo := hide hlo
    clear hlo
    have b01 := B.trans (hbw.mono B.size)
    have e0 := (hbw.cell (p := ⟨w.heap.size, 0, none⟩) (by show w.heap.size < _; omega)).trans c0
    have e1 := (hbw.cell (p := ⟨w.heap.size, 1, none⟩) (by show w.heap.size < _; omega)).trans c1
    have zr := hbw.size
    by_cases hlt : i < s.ac.length
    · have i0 : (0 : Int) ≤ (i : Int) := by omega
      have i1 : (i : Int) < (s.ac.length : Int) := by omega
      obtain ⟨x, g, off, rfl, hg, hx, hk⟩ := (unhide HK).get hbw hlt
      have HD := hide (actsC_drop s.names ah s.ac i hlt)
      have hsz := hl.a i hlt
      generalize s.ac[i] = f at *
      obtain ⟨xn, xao, xal, xac, xbo, xbl, xbc⟩ := x
      have hkn := hk.nm
      simp only at hkn
      subst hkn
      have Hk := hide hk
      have Hsz := hide hsz
      have hszn := hsz.nm
      obtain ⟨a0, a1, a2⟩ := hx
      simp only at a0 a1 a2
      have bf := blw1 wr (.cells #[.string f.nm, .slice xao xal xac, .slice xbo xbl xbc] 44)
      have zf : (wr.alloc (.cells #[.string f.nm, .slice xao xal xac, .slice xbo xbl xbc] 44)).heap.size = wr.heap.size + 1 := by simp
      skip
      have C1 := checkName_any f.nm ah (wr.alloc (.cells #[.string f.nm, .slice xao xal xac, .slice xbo xbl xbc] 44)) hszn
      have C2 := fun w' (hb : Below (wr.alloc (.cells #[.string f.nm, .slice xao xal xac, .slice xbo xbl xbc] 44)).heap.size (wr.alloc (.cells #[.string f.nm, .slice xao xal xac, .slice xbo xbl xbc] 44)) w') => checkAction_any s _ _ f w' hl.sm hsz (((unhide HS).below (hbw.trans (bf.mono hbw.size))).below (hb.mono (by omega))) ((hk.below bf).below hb)
      have f0 : (wr.alloc (.cells #[.string f.nm, .slice xao xal xac, .slice xbo xbl xbc] 44)).cell? ⟨wr.heap.size, 0, none⟩ = some (.string f.nm) := by simp
      have f1 : (wr.alloc (.cells #[.string f.nm, .slice xao xal xac, .slice xbo xbl xbc] 44)).cell? ⟨wr.heap.size, 1, none⟩ = some (.slice xao xal xac) := by simp
      have f2 : (wr.alloc (.cells #[.string f.nm, .slice xao xal xac, .slice xbo xbl xbc] 44)).cell? ⟨wr.heap.size, 2, none⟩ = some (.slice xbo xbl xbc) := by simp
      have e0' := (bf.cell (p := ⟨w.heap.size, 0, none⟩) (by show w.heap.size < _; omega)).trans e0
      have e1' := (bf.cell (p := ⟨w.heap.size, 1, none⟩) (by show w.heap.size < _; omega)).trans e1
      unfold N3.val at C2
      simp only at C2
      clear hk hsz
      generalize nameC f.nm ah = y1 at *
      go_wp2_with fail
      generalize wr.alloc _ = w4 at *
      have b04 := hbw.trans (bf.mono hbw.size)
      skip
      refine C1.mono ?_
      rintro e w5 ⟨rfl, b5⟩
      clear C1
      have b05 := b04.trans (b5.mono b04.size)
      by_cases hy : y1 = 0
      case neg =>
        have hyb : (y1 == 0) = false := by simpa using hy
        clear C2
        go_wp2
        go_ret
        exact ⟨by rw [unhide Hlo, unhide HD, if_pos hy]; rfl, B.trans (b05.mono B.size)⟩
      have HD2 := hide ((unhide HD).trans (if_neg (by simpa using hy)))
      subst hy
      clear HD
      have C2 := C2 w5 b5
      have g0 := (b5.cell (p := ⟨wr.heap.size, 0, none⟩) (by show wr.heap.size < _; omega)).trans f0
      have g1 := (b5.cell (p := ⟨wr.heap.size, 1, none⟩) (by show wr.heap.size < _; omega)).trans f1
      have g2 := (b5.cell (p := ⟨wr.heap.size, 2, none⟩) (by show wr.heap.size < _; omega)).trans f2
      have e0'' := (b5.cell (p := ⟨w.heap.size, 0, none⟩) (by show w.heap.size < _; omega)).trans e0'
      have e1'' := (b5.cell (p := ⟨w.heap.size, 1, none⟩) (by show w.heap.size < _; omega)).trans e1'
      have z5 := b5.size
      generalize actC s.names f = y2 at *
      go_wp2_with fail
      refine C2.mono ?_
      rintro e w6 ⟨rfl, b6⟩
      clear C2
      have b06 := b05.trans (b6.mono b05.size)
      by_cases hy : y2 = 0
      case neg =>
        have hyb : (y2 == 0) = false := by simpa using hy
        go_wp2
        go_ret
        exact ⟨by rw [unhide Hlo, unhide HD2, if_pos hy]; rfl, B.trans (b06.mono B.size)⟩
      have HD3 := hide ((unhide HD2).trans (if_neg (by simpa using hy)))
      subst hy
      clear HD2
      have g0' := (b6.cell (p := ⟨wr.heap.size, 0, none⟩) (by show wr.heap.size < _; omega)).trans g0
      go_wp2
      go_roundw
      case rel => exact ⟨i + 1, f.nm, rfl, by go_num, by omega, b06, by rw [unhide Hlo, unhide HD3]⟩
      case measure =>
        simp only [intOf]
        omega
    · have i1 : ¬ (i : Int) < (s.ac.length : Int) := by omega
      go_wp2
      go_ret
      refine ⟨?_, b01⟩
      rw [unhide Hlo, drop_none _ _ hlt]
      rfl
end Go.Proofs.Ytbcddjaecdoliaa
