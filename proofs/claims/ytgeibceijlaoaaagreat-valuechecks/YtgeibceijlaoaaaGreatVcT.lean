/-
  slices.IndexFunc, slices.ContainsFunc, value.Holds of sets of plain values.
-/
import Derived.Test.YtgeibceijlaoaaaGreatVcS
namespace Go.Proofs.YtgeibceijlaoaaaGreat
open Go.RowKit Go.Sort

set_option maxHeartbeats 2000000 in
set_option maxRecDepth 1000000 in
theorem indexFunc_plain (l : List PV) (q : PV) (ao : Option Addr) (c vb : Nat) (w : World) (hl : l.length ≤ 1048576) (hr : RowV w ao (l.map ofP)) (hvb : vb < w.heap.size) (A : At7 w vb 0 (ofP q)) :
    Calls Tryz.prog 55 #[.slice ao l.length c, .func (.func 37) #[] #[.pointer (some ⟨vb, 0, none⟩)]] w fun e w' => ∃ i : Int, e = .returned (.int .i64 i) ∧ (0 ≤ i ↔ q ∈ l) ∧ Below w.heap.size w w' := by
  go_enter Tryz.func55, Tryz.ntmps55
  go_wp2
  go_loopw [8] (fun iv wr => ∃ i : Nat, iv = .int .i64 i ∧ i ≤ l.length ∧ Below w.heap.size w wr ∧ (q ∈ l ↔ q ∈ l.drop i)) (fun iv _ => l.length - (intOf iv).toNat)
  case atStart => exact ⟨0, by go_num, Nat.zero_le _, Below.refl _ _, by simp⟩
  case round =>
    obtain ⟨j, rfl, hj, hbw, hacc⟩ := hrel
    have Hacc := hide hacc
    clear hacc
    by_cases hlt : j < l.length
    · have i1 : (j : Int) < (l.length : Int) := by omega
      obtain ⟨b, off, rfl, B, hb⟩ := rowV_at hr hbw (j := j) (by rw [List.length_map]; exact hlt)
      rw [List.getElem_map] at B
      have F := holdsFn_plain l[j] q vb wr (by have := hbw.size; omega) (A.below hbw hvb)
      have HS := hide (show q ∈ l.drop j ↔ l[j] = q ∨ q ∈ l.drop (j + 1) by rw [List.drop_eq_getElem_cons hlt, List.mem_cons]; exact ⟨fun h => h.imp Eq.symm id, fun h => h.imp Eq.symm id⟩)
      obtain ⟨p, ep⟩ : ∃ p, p = l[j] := ⟨_, rfl⟩
      rw [← ep] at B F HS
      clear ep
      generalize ofP p = r at *
      unfold R7.val at F
      obtain ⟨a0, a1, a2, a3, a4, a5, a6⟩ := B
      go_wp2_with fail
      refine F.mono ?_
      rintro e w2 ⟨rfl, b2⟩
      have b3 := hbw.trans (b2.mono hbw.size)
      clear F
      by_cases hpq : p = q
      · have hd : decide (p = q) = true := decide_eq_true hpq
        rw [hd]
        go_wp2
        go_ret
        exact ⟨j, rfl, ⟨fun _ => (unhide Hacc).2 ((unhide HS).2 (.inl hpq)), fun _ => by omega⟩, b3⟩
      · have hd : decide (p = q) = false := decide_eq_false hpq
        rw [hd]
        go_wp2
        go_roundw
        case rel =>
          refine ⟨j + 1, by go_num, by omega, b3, ?_⟩
          rw [unhide Hacc, unhide HS]
          exact ⟨fun h => h.resolve_left hpq, .inr⟩
        case measure =>
          simp only [intOf]
          omega
    · have i1 : ¬ (j : Int) < (l.length : Int) := by omega
      go_wp2
      go_ret
      refine ⟨-1, rfl, ⟨fun h => absurd h (by decide), fun h => ?_⟩, hbw⟩
      rw [unhide Hacc, List.drop_eq_nil_of_le (by omega)] at h
      cases h

set_option maxHeartbeats 2000000 in
set_option maxRecDepth 1000000 in
theorem containsFunc_plain (l : List PV) (q : PV) (ao : Option Addr) (c vb : Nat) (w : World) (hl : l.length ≤ 1048576) (hr : RowV w ao (l.map ofP)) (hvb : vb < w.heap.size) (A : At7 w vb 0 (ofP q)) :
    Calls Tryz.prog 36 #[.slice ao l.length c, .func (.func 37) #[] #[.pointer (some ⟨vb, 0, none⟩)]] w fun e w' => e = .returned (.bool (decide (q ∈ l))) ∧ Below w.heap.size w w' := by
  have I := indexFunc_plain l q ao c vb w hl hr hvb A
  go_enter Tryz.func36, Tryz.ntmps36
  go_wp2_with fail
  refine I.mono ?_
  rintro e w2 ⟨i, rfl, hi, b2⟩
  have Hi := hide hi
  clear hi I
  go_wp2
  go_ret
  refine ⟨?_, b2⟩
  rw [← decide_eq_decide.2 (unhide Hi)]
  rfl

set_option maxHeartbeats 2000000 in
set_option maxRecDepth 1000000 in
theorem holds_plain (l : List PV) (q : PV) (ao : Option Addr) (c : Nat) (w : World) (hl : l.length ≤ 1048576) (hr : RowV w ao (l.map ofP)) :
    Calls Tryz.prog 17 #[(setR ao l.length c).val, (ofP q).val] w fun e w' => e = .returned (.bool (decide (q ∈ l))) ∧ Below w.heap.size w w' := by
  have C := contentOf_set ao l.length c
  have CF := fun vb w hr hvb A => containsFunc_plain l q ao c vb w hl hr hvb A
  generalize hx : decide (q ∈ l) = x at *
  clear hx
  obtain ⟨n, en⟩ : ∃ n, n = l.length := ⟨_, rfl⟩
  rw [← en] at C CF ⊢
  have T := ta_set
  obtain ⟨r, er⟩ : ∃ r, r = ofP q := ⟨_, rfl⟩
  rw [← er] at CF ⊢
  have Hn := hide en
  clear en er
  unfold setR R7.val
  unfold val7 conS at C
  go_enter Tryz.func17, Tryz.ntmps17
  go_wp2_with fail
  have b1 := below2 w (.cells #[.int .i64 5, .bool false, .int .i64 0, .string (ba []), .string (ba []), .string (ba []), .slice ao n c] 26) (.cells #[.int .i64 r.k, .bool r.b, .int .i64 r.n, .string r.s, .string r.t, .string r.i, .slice r.lo r.ll r.lc] 26)
  have A2 : At7 ((w.alloc (.cells #[.int .i64 5, .bool false, .int .i64 0, .string (ba []), .string (ba []), .string (ba []), .slice ao n c] 26)).alloc (.cells #[.int .i64 r.k, .bool r.b, .int .i64 r.n, .string r.s, .string r.t, .string r.i, .slice r.lo r.ll r.lc] 26)) (w.heap.size + 1) 0 r := by
    have := at7_new (w.alloc (.cells #[.int .i64 5, .bool false, .int .i64 0, .string (ba []), .string (ba []), .string (ba []), .slice ao n c] 26)) r
    rwa [size1] at this
  have z2 : ((w.alloc (.cells #[.int .i64 5, .bool false, .int .i64 0, .string (ba []), .string (ba []), .string (ba []), .slice ao n c] 26)).alloc (.cells #[.int .i64 r.k, .bool r.b, .int .i64 r.n, .string r.s, .string r.t, .string r.i, .slice r.lo r.ll r.lc] 26)).heap.size = w.heap.size + 2 := by simp
  refine (C _).mono ?_
  generalize (w.alloc _).alloc _ = w2 at *
  rintro e w3 ⟨rfl, b23⟩
  have b3 := b1.trans (b23.mono b1.size)
  have A3 := A2.below b23 (by omega)
  have z3 : w.heap.size + 1 < w3.heap.size := by have := b23.size; omega
  have CF3 := CF (w.heap.size + 1) w3 (hr.below b3) z3 A3
  clear CF C A2 A3
  go_wp2_with fail
  refine CF3.mono ?_
  rintro e w4 ⟨rfl, b34⟩
  go_wp2
  go_ret
  exact ⟨rfl, b3.trans (b34.mono b3.size)⟩
end Go.Proofs.YtgeibceijlaoaaaGreat
