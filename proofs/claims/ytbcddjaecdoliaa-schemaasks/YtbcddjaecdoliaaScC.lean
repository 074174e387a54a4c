/-
  schema.Check and its parts: what they return.
-/
import Derived.Test.YtbcddjaecdoliaaScB
import Derived.BigGuardPart
namespace Go.Proofs.Ytbcddjaecdoliaa
open Go.RowKit Go.Sort

theorem areC_drop (l ps : List ByteArray) (j : Nat) (hj : j < ps.length) : areC l (ps.drop j) = if noneB l ps[j] then 2 else areC l (ps.drop (j + 1)) := by
  rw [List.drop_eq_getElem_cons hj]
  rfl
theorem drop_none {α : Type} (l : List α) (j : Nat) (hj : ¬ j < l.length) : l.drop j = [] := List.drop_eq_nil_of_le (by omega)
/-- A schema whose names and rows are no longer than memory has room for. -/
structure SmallS (s : SP) : Prop where
  ks : s.ks.length ≤ 281474976710656
  ac : s.ac.length ≤ 281474976710656
theorem IsS.schema {w : World} {ko ao : Option Addr} {kc ac : Nat} {s : SP} (h : IsS w (.agg #[.slice ko s.ks.length kc, .slice ao s.ac.length ac]) s) : IsKs w ko s.ks ∧ IsAs w ao s.ac := by
  obtain ⟨ko', kc', ao', ac', e, h1, h2⟩ := h.ex
  injection e with e
  simp only [Array.mk.injEq, List.cons.injEq, Value.slice.injEq, and_true] at e
  obtain ⟨⟨rfl, _⟩, rfl, _⟩ := e
  exact ⟨h1, h2⟩

set_option maxHeartbeats 2000000 in
set_option maxRecDepth 1000000 in
theorem checkAreKinds_any (s : SP) (v : Value) (ps : List ByteArray) (po : Option Addr) (pc : Nat) (w : World) (hl : SmallS s) (hpl : ps.length ≤ 281474976710656) (hs : IsS w v s) (hp : RowS w po ps) :
    Calls Try.prog 62 #[v, .slice po ps.length pc] w fun e w' => e = .returned (.int .i64 (areC s.names ps)) ∧ Below w.heap.size w w' := by
  obtain ⟨ko, kc, ao, ac, rfl, _, _⟩ := hs.ex
  have b1 := blw1 w (.cells #[.slice ko s.ks.length kc, .slice ao s.ac.length ac] 25)
  have c0 : (w.alloc (.cells #[.slice ko s.ks.length kc, .slice ao s.ac.length ac] 25)).cell? ⟨w.heap.size, 0, none⟩ = some (.slice ko s.ks.length kc) := by simp
  have c1 : (w.alloc (.cells #[.slice ko s.ks.length kc, .slice ao s.ac.length ac] 25)).cell? ⟨w.heap.size, 1, none⟩ = some (.slice ao s.ac.length ac) := by simp
  have z1 : (w.alloc (.cells #[.slice ko s.ks.length kc, .slice ao s.ac.length ac] 25)).heap.size = w.heap.size + 1 := by simp
  have HS := hide hs
  have HP := hide hp
  clear hs hp
  go_enter Try.func62, Try.ntmps62
  go_wp2_with fail
  generalize w.alloc _ = w1 at *
  go_wp2
  go_loopw [9] (fun iv wr => ∃ i : Nat, iv = .int .i64 i ∧ i ≤ ps.length ∧ Below w1.heap.size w1 wr ∧ areC s.names ps = areC s.names (ps.drop i)) (fun iv _ => ps.length - (intOf iv).toNat)
  case atStart => exact ⟨0, by go_num, Nat.zero_le _, Below.refl _ _, rfl⟩
  case round =>
    obtain ⟨i, rfl, hil, hbw, hlo⟩ := hrel
    have Hlo := hide hlo
    clear hlo
    have b01 := b1.trans (hbw.mono b1.size)
    have d0 := (hbw.cell (p := ⟨w.heap.size, 0, none⟩) (by show w.heap.size < _; omega)).trans c0
    have d1 := (hbw.cell (p := ⟨w.heap.size, 1, none⟩) (by show w.heap.size < _; omega)).trans c1
    by_cases hlt : i < ps.length
    · have i0 : (0 : Int) ≤ (i : Int) := by omega
      have i1 : (i : Int) < (ps.length : Int) := by omega
      obtain ⟨g, off, rfl, hg, hx⟩ := (unhide HP).get b01 hlt
      have C := placeOfKind_any s _ ps[i] wr hl.ks ((unhide HS).below b01)
      have HD := hide (areC_drop s.names ps i hlt)
      generalize ps[i] = n at *
      go_wp2_with fail
      refine C.mono ?_
      rintro e w2 ⟨z, rfl, hz, b2⟩
      have b3 := hbw.trans (b2.mono hbw.size)
      have hz' := hide hz.neg
      clear C hz
      by_cases he : z < 0
      · go_wp2
        go_ret
        refine ⟨?_, b1.trans (b3.mono b1.size)⟩
        have := unhide hz'
        rw [decide_eq_true he] at this
        rw [unhide Hlo, unhide HD, ← this]
        rfl
      · go_wp2
        go_roundw
        case rel =>
          refine ⟨i + 1, by go_num, by omega, b3, ?_⟩
          have := unhide hz'
          rw [decide_eq_false (by omega)] at this
          rw [unhide Hlo, unhide HD, ← this]
          rfl
        case measure =>
          simp only [intOf]
          omega
    · have i1 : ¬ (i : Int) < (ps.length : Int) := by omega
      go_wp2
      go_ret
      refine ⟨?_, b01⟩
      rw [unhide Hlo, drop_none _ _ hlt]
      rfl

set_option maxHeartbeats 2000000 in
set_option maxRecDepth 1000000 in
theorem checkTypeName_any (s : SP) (v : Value) (q : Int) (tn : ByteArray) (w : World) (hl : SmallS s) (hs : IsS w v s) :
    Calls Try.prog 67 #[v, .int .i64 q, .string tn] w fun e w' => e = .returned (.int .i64 (typeNC s.names q tn)) ∧ Below w.heap.size w w' := by
  obtain ⟨ko, kc, ao, ac, rfl, _, _⟩ := hs.ex
  have b1 := blw1 w (.cells #[.slice ko s.ks.length kc, .slice ao s.ac.length ac] 25)
  by_cases hq : q = 4
  · subst hq
    have C := placeOfKind_any s _ tn (w.alloc (.cells #[.slice ko s.ks.length kc, .slice ao s.ac.length ac] 25)) hl.ks (hs.below b1)
    have HT : ∀ z, noneB s.names tn = z → typeNC s.names 4 tn = if z then 2 else 0 := fun z h => by
      unfold typeNC
      rw [if_pos rfl, h]
    clear hs
    go_enter Try.func67, Try.ntmps67
    go_wp2_with fail
    generalize w.alloc _ = w1 at *
    refine C.mono ?_
    rintro e w2 ⟨z, rfl, hz, b2⟩
    have hz' := hide (HT _ hz.neg.symm)
    clear C hz HT
    by_cases he : z < 0
    · have ht := hide ((unhide hz').trans (by rw [decide_eq_true he]; rfl) : typeNC s.names 4 tn = 2)
      clear hz'
      go_wp2
      go_ret
      exact ⟨by rw [unhide ht]; rfl, b1.trans (b2.mono b1.size)⟩
    · have ht := hide ((unhide hz').trans (by rw [decide_eq_false he]; rfl) : typeNC s.names 4 tn = 0)
      clear hz'
      go_wp2
      go_ret
      exact ⟨by rw [unhide ht]; rfl, b1.trans (b2.mono b1.size)⟩
  · have hb : (q == 4) = false := by simpa using hq
    by_cases ht : tn = ⟨#[]⟩
    · have HT : typeNC s.names q tn = 0 := by
        unfold typeNC
        rw [if_neg hq, if_pos ht]
      rw [HT]
      subst ht
      clear hs HT
      go_enter Try.func67, Try.ntmps67
      go_wp2
      go_ret
      exact ⟨rfl, b1⟩
    · have HT : typeNC s.names q tn = 1 := by
        unfold typeNC
        rw [if_neg hq, if_neg ht]
      rw [HT]
      have he : tn.toList.isEmpty = false := by
        rw [ByteArray.toList_eq, List.isEmpty_eq_false_iff]
        exact fun h => ht (ByteArray.ext (by simpa using congrArg List.toArray h))
      clear hs HT ht
      go_enter Try.func67, Try.ntmps67
      go_wp2
      go_ret
      exact ⟨rfl, b1⟩
end Go.Proofs.Ytbcddjaecdoliaa
