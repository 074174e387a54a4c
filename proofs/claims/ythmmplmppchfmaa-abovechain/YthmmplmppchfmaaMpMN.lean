/-
  chancelref9.has: what it returns.
  chancellaw9.same: what it returns.
-/
import Derived.Test.YthmmplmppchfmaaMpHL
namespace Go.Proofs.Ythmmplmppchfmaa
open Go.RowKit Go.Sort

set_option maxHeartbeats 2000000 in
set_option maxRecDepth 1000000 in
theorem r9has_any (l : List U2) (ao : Option Addr) (c : Nat) (u : U2) (w : World) (hl : l.length ≤ 1048576) (hr : RowG w ao 2 (l.map U2.cells)) :
    Calls Try.prog 25 #[.slice ao l.length c, u.val] w fun x w' => x = .returned (.bool (decide (u ∈ l))) ∧ Below w.heap.size w w' := by
  have b1 := belowA w (.cells #[.string u.t, .string u.i] 28)
  have z1 := sizeA w (.cells #[.string u.t, .string u.i] 28)
  have A1 : AtE2 (w.alloc (.cells #[.string u.t, .string u.i] 28)) w.heap.size 0 u := ⟨by simp, by simp⟩
  unfold U2.val
  go_enter Try.func25, Try.ntmps25
  go_wp2
  generalize w.alloc _ = w1 at *
  go_loopw [5] (fun iv wr => ∃ i : Nat, iv = .int .i64 i ∧ i ≤ l.length ∧ Below w1.heap.size w1 wr ∧ u ∉ l.take i) (fun iv _ => l.length - (intOf iv).toNat)
  case atStart => exact ⟨0, by go_num, Nat.zero_le _, Below.refl _ _, by simp⟩
  case round =>
    obtain ⟨j, rfl, hj, hbw, hno⟩ := hrel
    have b0 : Below w.heap.size w wr := b1.trans (hbw.mono b1.size)
    have k0 : (0 : Int) ≤ (j : Int) := by omega
    by_cases hlt : j < l.length
    · have i1 : (j : Int) < (l.length : Int) := by omega
      obtain ⟨b, off, rfl, hb, hcx⟩ := rowG_at hr b0 hlt
      have A : AtE2 wr b (off + j * 2) l[j] := AtE2.of hcx
      have HN := hide hno
      obtain ⟨x, hx⟩ : ∃ x, x = l[j] := ⟨_, rfl⟩
      rw [← hx] at A
      have HX := hide hx
      clear hx hcx hno
      have B : AtE2 wr w.heap.size 0 u := A1.below hbw (by omega)
      obtain ⟨a0, a1⟩ := A.up
      obtain ⟨d0, d1⟩ := B.up
      simp only [Nat.zero_add] at d1
      have NQ := binEqlUid x u
      generalize hz : decide (x = u) = z at NQ
      have HZ := hide hz
      clear hz
      go_wp2_with fail
      refine wp_region_quiet_below (by kernel_rfl) (by kernel_rfl) ?_
      repeat (quiet_step (fail))
      refine wpQuiet_nil ?_
      intro _ hw'
      obtain ⟨⟨dq, osq⟩, hw''⟩ := hw'
      subst hw''
      have b7 : Below wr.heap.size wr (grow (redrawn wr dq) osq) := below_regrown wr dq osq
      generalize grow (redrawn wr dq) osq = w7 at *
      have b17 : Below w1.heap.size w1 w7 := hbw.trans (b7.mono hbw.size)
      clear a0 a1 d0 d1 A B NQ
      cases z
      · have hu : ¬ x = u := by simpa using unhide HZ
        go_wp2
        go_roundw
        case rel =>
          refine ⟨j + 1, by go_num, by omega, b17, ?_⟩
          rw [List.take_succ_eq_append_getElem hlt, ← unhide HX, List.mem_append]
          rintro (h | h)
          · exact unhide HN h
          · exact hu (List.mem_singleton.1 h).symm
        case measure =>
          simp only [intOf]
          omega
      · have hu : x = u := by simpa using unhide HZ
        have hmem : decide (u ∈ l) = true := by
          rw [decide_eq_true_eq, ← hu, unhide HX]
          exact List.getElem_mem hlt
        have HH := hide hmem
        clear hmem
        go_wp2
        go_ret
        exact ⟨by rw [unhide HH]; rfl, b1.trans (b17.mono b1.size)⟩
    · have i1 : ¬ (j : Int) < (l.length : Int) := by omega
      obtain rfl : j = l.length := by omega
      rw [List.take_length] at hno
      have HH := hide (decide_eq_false hno)
      clear hno
      go_wp2
      go_ret
      exact ⟨by rw [unhide HH]; rfl, b0⟩
end Go.Proofs.Ythmmplmppchfmaa

namespace Go.Proofs.Ythmmplmppchfmaa
open Go.RowKit Go.Sort

set_option maxHeartbeats 2000000 in
set_option maxRecDepth 1000000 in
theorem same9_any (l k : List U2) (ao bo : Option Addr) (c d : Nat) (w : World) (hl : l.length ≤ 1048576) (_hk : k.length ≤ 1048576) (hr : RowG w ao 2 (l.map U2.cells)) (hs : RowG w bo 2 (k.map U2.cells)) :
    Calls Try.prog 10 #[.slice ao l.length c, .slice bo k.length d] w fun x w' => x = .returned (.bool (decide (l = k))) ∧ Below w.heap.size w w' := by
  by_cases hlen : l.length = k.length
  · obtain ⟨n, hn⟩ : ∃ n, n = l.length := ⟨_, rfl⟩
    have hnk : n = k.length := hn.trans hlen
    rw [← hn, ← hnk]
    rw [← hn] at hl
    have HNL := hide hn
    have HNK := hide hnk
    clear hlen hn hnk
    go_enter Try.func10, Try.ntmps10
    go_wp2
    go_loopw [5] (fun iv wr => ∃ i : Nat, iv = .int .i64 i ∧ i ≤ n ∧ Below w.heap.size w wr ∧ l.take i = k.take i) (fun iv _ => n - (intOf iv).toNat)
    case atStart => exact ⟨0, by go_num, Nat.zero_le _, Below.refl _ _, by simp⟩
    case round =>
      obtain ⟨j, rfl, hj, hbw, hno⟩ := hrel
      have k0 : (0 : Int) ≤ (j : Int) := by omega
      by_cases hlt : j < n
      · have i1 : (j : Int) < (n : Int) := by omega
        have HL1 := hide (show j < l.length by rw [← unhide HNL]; exact hlt)
        have HL2 := hide (show j < k.length by rw [← unhide HNK]; exact hlt)
        obtain ⟨b, off, rfl, hb, hcx⟩ := rowG_at hr hbw (unhide HL1)
        obtain ⟨b', off', rfl, hb', hcy⟩ := rowG_at hs hbw (unhide HL2)
        have A : AtE2 wr b (off + j * 2) (l[j]'(unhide HL1)) := AtE2.of hcx
        have B : AtE2 wr b' (off' + j * 2) (k[j]'(unhide HL2)) := AtE2.of hcy
        have HN := hide hno
        obtain ⟨x, hx⟩ : ∃ x, x = l[j]'(unhide HL1) := ⟨_, rfl⟩
        obtain ⟨y, hy⟩ : ∃ y, y = k[j]'(unhide HL2) := ⟨_, rfl⟩
        rw [← hx] at A
        rw [← hy] at B
        have HX := hide hx
        have HY := hide hy
        clear hx hcx hno hcy hy
        obtain ⟨a0, a1⟩ := A.up
        obtain ⟨d0, d1⟩ := B.up
        have NQ := binNeqUid x y
        generalize hz : (!decide (x = y)) = z at NQ
        have HZ := hide hz
        clear hz
        go_wp2_with fail
        refine wp_region_quiet_below (by kernel_rfl) (by kernel_rfl) ?_
        repeat (quiet_step (fail))
        refine wpQuiet_nil ?_
        intro _ hw'
        obtain ⟨⟨dq, osq⟩, hw''⟩ := hw'
        subst hw''
        have b7 : Below wr.heap.size wr (grow (redrawn wr dq) osq) := below_regrown wr dq osq
        generalize grow (redrawn wr dq) osq = w7 at *
        have b17 : Below w.heap.size w w7 := hbw.trans (b7.mono hbw.size)
        clear a0 a1 d0 d1 A B NQ
        cases z
        · have hu : x = y := by simpa using unhide HZ
          go_wp2
          go_roundw
          case rel =>
            refine ⟨j + 1, by go_num, by omega, b17, ?_⟩
            rw [List.take_succ_eq_append_getElem (unhide HL1), List.take_succ_eq_append_getElem (unhide HL2), ← unhide HX, ← unhide HY, unhide HN, hu]
          case measure =>
            simp only [intOf]
            omega
        · have hu : ¬ x = y := by simpa using unhide HZ
          have HH := hide (show decide (l = k) = false from decide_eq_false fun e => hu (by rw [unhide HX, unhide HY]; subst e; rfl))
          go_wp2
          go_ret
          exact ⟨by rw [unhide HH]; rfl, b17⟩
      · have i1 : ¬ (j : Int) < (n : Int) := by omega
        obtain rfl : j = n := by omega
        rw [List.take_of_length_le (Nat.le_of_eq (unhide HNL).symm), List.take_of_length_le (Nat.le_of_eq (unhide HNK).symm)] at hno
        have HH := hide (decide_eq_true hno)
        clear hno
        go_wp2
        go_ret
        exact ⟨by rw [unhide HH]; rfl, hbw⟩
  · have i0 : ¬ (l.length : Int) = (k.length : Int) := by omega
    have HH := hide (show decide (l = k) = false from decide_eq_false fun e => hlen (by rw [e]))
    go_enter Try.func10, Try.ntmps10
    go_wp2
    go_ret
    exact ⟨by rw [unhide HH]; rfl, Below.refl _ _⟩
end Go.Proofs.Ythmmplmppchfmaa
