/-
  schema.checkKind, checkAction: what they return.
-/
import Derived.Test.YtbcddjaecdoliaaScD
namespace Go.Proofs.Ytbcddjaecdoliaa
open Go.RowKit Go.Sort

/-- Names and rows that memory has room for. -/
structure SmallK (k : KP) : Prop where
  nm : k.nm.size ≤ 281474976710656
  ps : k.ps.length ≤ 281474976710656
  fs : k.fs.length ≤ 281474976710656
  f : ∀ j (h : j < k.fs.length), (k.fs[j]).nm.size ≤ 281474976710656
structure SmallA (a : AP) : Prop where
  nm : a.nm.size ≤ 281474976710656
  pr : a.pr.length ≤ 281474976710656
  re : a.re.length ≤ 281474976710656
theorem fieldsC_drop (l : List ByteArray) (ahead : ByteArray) (fs : List F4) (j : Nat) (hj : j < fs.length) : fieldsC l ahead (fs.drop j) = if nameC fs[j].nm ahead ≠ 0 then nameC fs[j].nm ahead else if typeC l fs[j] ≠ 0 then typeC l fs[j] else fieldsC l fs[j].nm (fs.drop (j + 1)) := by
  rw [List.drop_eq_getElem_cons hj]
  rfl

set_option maxHeartbeats 4000000 in
set_option maxRecDepth 1000000 in
theorem checkKind_any (s : SP) (v : Value) (x : N3) (k : KP) (w : World) (hl : SmallS s) (hk : SmallK k) (hs : IsS w v s) (hx : IsK w x k) :
    Calls Try.prog 50 #[v, x.val] w fun e w' => e = .returned (.int .i64 (kindC s.names k)) ∧ Below w.heap.size w w' := by
  obtain ⟨ko, kc, ao, ac, rfl, _, _⟩ := hs.ex
  obtain ⟨xn, xao, xal, xac, xbo, xbl, xbc⟩ := x
  obtain ⟨h1, h2, h3, h4, h5⟩ := hx
  simp only at h1 h2 h3 h4 h5
  subst h1 h2 h4
  unfold N3.val
  simp only
  have B := blw2 w (.cells #[.slice ko s.ks.length kc, .slice ao s.ac.length ac] 25) (.cells #[.string k.nm, .slice xao k.ps.length xac, .slice xbo k.fs.length xbc] 42)
  have c0 : ((w.alloc (.cells #[.slice ko s.ks.length kc, .slice ao s.ac.length ac] 25)).alloc (.cells #[.string k.nm, .slice xao k.ps.length xac, .slice xbo k.fs.length xbc] 42)).cell? ⟨w.heap.size, 0, none⟩ = some (.slice ko s.ks.length kc) := by simp
  have c1 : ((w.alloc (.cells #[.slice ko s.ks.length kc, .slice ao s.ac.length ac] 25)).alloc (.cells #[.string k.nm, .slice xao k.ps.length xac, .slice xbo k.fs.length xbc] 42)).cell? ⟨w.heap.size, 1, none⟩ = some (.slice ao s.ac.length ac) := by simp
  have d2 : ((w.alloc (.cells #[.slice ko s.ks.length kc, .slice ao s.ac.length ac] 25)).alloc (.cells #[.string k.nm, .slice xao k.ps.length xac, .slice xbo k.fs.length xbc] 42)).cell? ⟨w.heap.size + 1, 2, none⟩ = some (.slice xbo k.fs.length xbc) := by simp
  have z : ((w.alloc (.cells #[.slice ko s.ks.length kc, .slice ao s.ac.length ac] 25)).alloc (.cells #[.string k.nm, .slice xao k.ps.length xac, .slice xbo k.fs.length xbc] 42)).heap.size = w.heap.size + 2 := by simp
  have hs1 := hs.below B
  have C := checkAreKinds_any s _ k.ps xao xac ((w.alloc (.cells #[.slice ko s.ks.length kc, .slice ao s.ac.length ac] 25)).alloc (.cells #[.string k.nm, .slice xao k.ps.length xac, .slice xbo k.fs.length xbc] 42)) hl hk.ps hs1 (h3.below B)
  have hk1 := hk.ps
  have hk2 := hk.fs
  have HS := hide hs1
  have HF := hide (h5.below B)
  have HK := hide hk
  obtain ⟨KC, hKC⟩ : ∃ z, z = kindC s.names k := ⟨_, rfl⟩
  rw [← hKC]
  have HE := hide (hKC.trans rfl : KC = if 5 < k.fs.length ∨ 4 < k.ps.length then 4 else if areC s.names k.ps ≠ 0 then areC s.names k.ps else fieldsC s.names ⟨#[]⟩ k.fs)
  clear hKC
  clear hs hs1 h3 h5 hk
  by_cases m5 : 5 < k.fs.length
  · have m5' : (5 : Int) < (k.fs.length : Int) := by omega
    clear C
    go_enter Try.func50, Try.ntmps50
    go_wp2
    go_ret
    exact ⟨by rw [unhide HE, if_pos (.inl m5)]; rfl, B⟩
  have m5' : ¬ (5 : Int) < (k.fs.length : Int) := by omega
  by_cases m4 : 4 < k.ps.length
  · have m4' : (4 : Int) < (k.ps.length : Int) := by omega
    clear C
    go_enter Try.func50, Try.ntmps50
    go_wp2
    go_ret
    exact ⟨by rw [unhide HE, if_pos (.inr m4)]; rfl, B⟩
  have m4' : ¬ (4 : Int) < (k.ps.length : Int) := by omega
  have HE2 := hide ((unhide HE).trans (if_neg (by omega)))
  clear HE
  generalize areC s.names k.ps = y at *
  go_enter Try.func50, Try.ntmps50
  go_wp2_with fail
  generalize (w.alloc _).alloc _ = w2 at *
  refine C.mono ?_
  rintro e w3 ⟨rfl, b3⟩
  clear C
  have B3 := B.trans (b3.mono B.size)
  by_cases hy : y = 0
  case neg =>
    have hyb : (y == 0) = false := by simpa using hy
    go_wp2
    go_ret
    exact ⟨by rw [unhide HE2, if_pos hy]; rfl, B3⟩
  have HE3 := hide ((unhide HE2).trans (if_neg (by simpa using hy)))
  subst hy
  clear HE2
  have d2' := (b3.cell (p := ⟨w.heap.size + 1, 2, none⟩) (by show w.heap.size + 1 < _; omega)).trans d2
  have c0' := (b3.cell (p := ⟨w.heap.size, 0, none⟩) (by show w.heap.size < _; omega)).trans c0
  have c1' := (b3.cell (p := ⟨w.heap.size, 1, none⟩) (by show w.heap.size < _; omega)).trans c1
  have z3 := b3.size
  have HS := hide ((unhide HS).below b3)
  have HF := hide ((unhide HF).below b3)
  clear d2 c0 c1 b3
  go_wp2
  go_loopw [6, 31] (fun av iv wr => ∃ (i : Nat) (ah : ByteArray), av = .string ah ∧ iv = .int .i64 i ∧ i ≤ k.fs.length ∧ Below w3.heap.size w3 wr ∧ KC = fieldsC s.names ah (k.fs.drop i)) (fun _ iv _ => k.fs.length - (intOf iv).toNat)
  case atStart => exact ⟨0, ⟨#[]⟩, rfl, by go_num, Nat.zero_le _, Below.refl _ _, unhide HE3⟩
  case round =>
    clear HE3
    obtain ⟨i, ah, rfl, rfl, hil, hbw, hlo⟩ := hrel
    have Hlo := hide hlo
    clear hlo
    have b01 := B3.trans (hbw.mono B3.size)
    have e0 := (hbw.cell (p := ⟨w.heap.size, 0, none⟩) (by show w.heap.size < _; omega)).trans c0'
    have e1 := (hbw.cell (p := ⟨w.heap.size, 1, none⟩) (by show w.heap.size < _; omega)).trans c1'
    have zr := hbw.size
    by_cases hlt : i < k.fs.length
    · have i0 : (0 : Int) ≤ (i : Int) := by omega
      have i1 : (i : Int) < (k.fs.length : Int) := by omega
      obtain ⟨g, off, rfl, hg, hx⟩ := (unhide HF).get hbw hlt
      have HD := hide (fieldsC_drop s.names ah k.fs i hlt)
      have hsz := (unhide HK).f i hlt
      generalize k.fs[i] = f at *
      obtain ⟨a0, a1, a2, a3⟩ := hx
      have bf := blw1 wr (.cells #[.string f.nm, .int .i64 f.k, .int .i64 f.o, .string f.tn] 31)
      have zf : (wr.alloc (.cells #[.string f.nm, .int .i64 f.k, .int .i64 f.o, .string f.tn] 31)).heap.size = wr.heap.size + 1 := by simp
      have C1 := checkName_any f.nm ah (wr.alloc (.cells #[.string f.nm, .int .i64 f.k, .int .i64 f.o, .string f.tn] 31)) hsz
      have f0 : (wr.alloc (.cells #[.string f.nm, .int .i64 f.k, .int .i64 f.o, .string f.tn] 31)).cell? ⟨wr.heap.size, 0, none⟩ = some (.string f.nm) := by simp
      have f1 : (wr.alloc (.cells #[.string f.nm, .int .i64 f.k, .int .i64 f.o, .string f.tn] 31)).cell? ⟨wr.heap.size, 1, none⟩ = some (.int .i64 f.k) := by simp
      have f2 : (wr.alloc (.cells #[.string f.nm, .int .i64 f.k, .int .i64 f.o, .string f.tn] 31)).cell? ⟨wr.heap.size, 2, none⟩ = some (.int .i64 f.o) := by simp
      have f3 : (wr.alloc (.cells #[.string f.nm, .int .i64 f.k, .int .i64 f.o, .string f.tn] 31)).cell? ⟨wr.heap.size, 3, none⟩ = some (.string f.tn) := by simp
      generalize nameC f.nm ah = y1 at *
      have C2 := fun w' (hb : Below (wr.alloc (.cells #[.string f.nm, .int .i64 f.k, .int .i64 f.o, .string f.tn] 31)).heap.size (wr.alloc (.cells #[.string f.nm, .int .i64 f.k, .int .i64 f.o, .string f.tn] 31)) w') => checkType_any s _ f w' hl (((unhide HS).below (hbw.trans (bf.mono hbw.size))).below (hb.mono (by omega)))
      have e0' : (wr.alloc (.cells #[.string f.nm, .int .i64 f.k, .int .i64 f.o, .string f.tn] 31)).cell? ⟨w.heap.size, 0, none⟩ = some (.slice ko s.ks.length kc) := (bf.cell (p := ⟨w.heap.size, 0, none⟩) (by show w.heap.size < _; omega)).trans e0
      have e1' : (wr.alloc (.cells #[.string f.nm, .int .i64 f.k, .int .i64 f.o, .string f.tn] 31)).cell? ⟨w.heap.size, 1, none⟩ = some (.slice ao s.ac.length ac) := (bf.cell (p := ⟨w.heap.size, 1, none⟩) (by show w.heap.size < _; omega)).trans e1
      unfold F4.typ at C2
      go_wp2_with fail
      generalize wr.alloc _ = w4 at *
      have b04 := hbw.trans (bf.mono hbw.size)
      refine C1.mono ?_
      rintro e w5 ⟨rfl, b5⟩
      clear C1
      have b05 := b04.trans (b5.mono b04.size)
      by_cases hy : y1 = 0
      case neg =>
        have hyb : (y1 == 0) = false := by simpa using hy
        clear C2
        go_wp2
        go_ret
        exact ⟨by rw [unhide Hlo, unhide HD, if_pos hy]; rfl, B3.trans (b05.mono B3.size)⟩
      have HD2 := hide ((unhide HD).trans (if_neg (by simpa using hy)))
      subst hy
      clear HD
      have C2 := C2 w5 b5
      have g0 := (b5.cell (p := ⟨wr.heap.size, 0, none⟩) (by show wr.heap.size < _; omega)).trans f0
      have g1 := (b5.cell (p := ⟨wr.heap.size, 1, none⟩) (by show wr.heap.size < _; omega)).trans f1
      have g2 := (b5.cell (p := ⟨wr.heap.size, 2, none⟩) (by show wr.heap.size < _; omega)).trans f2
      have g3 := (b5.cell (p := ⟨wr.heap.size, 3, none⟩) (by show wr.heap.size < _; omega)).trans f3
      have e0'' := (b5.cell (p := ⟨w.heap.size, 0, none⟩) (by show w.heap.size < _; omega)).trans e0'
      have e1'' := (b5.cell (p := ⟨w.heap.size, 1, none⟩) (by show w.heap.size < _; omega)).trans e1'
      have z5 := b5.size
      generalize typeC s.names f = y2 at *
      go_wp2_with fail
      refine C2.mono ?_
      rintro e w6 ⟨rfl, b6⟩
      clear C2
      have b06 := b05.trans (b6.mono b05.size)
      by_cases hy : y2 = 0
      case neg =>
        have hyb : (y2 == 0) = false := by simpa using hy
        go_wp2
        go_ret
        exact ⟨by rw [unhide Hlo, unhide HD2, if_pos hy]; rfl, B3.trans (b06.mono B3.size)⟩
      have HD3 := hide ((unhide HD2).trans (if_neg (by simpa using hy)))
      subst hy
      clear HD2
      have g0' := (b6.cell (p := ⟨wr.heap.size, 0, none⟩) (by show wr.heap.size < _; omega)).trans g0
      go_wp2
      go_roundw
      case rel => exact ⟨i + 1, f.nm, rfl, by go_num, by omega, b06, by rw [unhide Hlo, unhide HD3]⟩
      case measure =>
        simp only [intOf]
        omega
    · have i1 : ¬ (i : Int) < (k.fs.length : Int) := by omega
      go_wp2
      go_ret
      refine ⟨?_, b01⟩
      rw [unhide Hlo, drop_none _ _ hlt]
      rfl
end Go.Proofs.Ytbcddjaecdoliaa
