/-
  pack.msgSize and pack.Msg: what they return (the error alone).
-/
import Derived.Test.YtkeljejddfpnmaaDoorPkN
namespace Go.Proofs.YtkeljejddfpnmaaDoor
open Go.RowKit Go.Sort

theorem errM_zero {m : M14} {es : List (List UInt8)} (h : errM m es = 0) : m.tn = m.en ∧ m.kn = m.en ∧ m.en ≤ 64 ∧ m.mn ≤ 7 ∧ hasLong es = false ∧ m.dn ≤ 60000 := by
  unfold errM at h
  split at h
  · omega
  · split at h
    · omega
    · split at h
      · omega
      · split at h
        · omega
        · rename_i h1 h2 h3 h4
          refine ⟨by omega, by omega, by omega, by omega, ?_, by omega⟩
          cases hb : hasLong es with
          | false => rfl
          | true => exact absurd (.inl hb) h4
theorem hasLong_get {es : List (List UInt8)} (h : hasLong es = false) (j : Nat) (hj : j < es.length) : es[j].length ≤ 700 := by
  have := List.any_eq_false.1 h es[j] (List.getElem_mem hj)
  simp [longE] at this
  omega

set_option maxHeartbeats 8000000 in
set_option maxRecDepth 1000000 in
theorem msgSize_any (m : M14) (es : List (List UInt8)) (d : List UInt8) (w : World) (h : MRows w m es d) (he : errM m es = 0) :
    Calls Tryd.prog 36 #[m.val] w fun e w' => ∃ N : Nat, e = .returned (.int .i64 N) ∧ N ≤ 200000 ∧ Below w.heap.size w w' := by
  obtain ⟨-, -, h64, h7, hlong, hd⟩ := errM_zero he
  have n1 := new1 w m.obj
  have z1 := alloc_heap w m.obj
  have hrow := h.re.below n1
  have HEN := hide h.rn
  have HR := hide hrow
  clear h he hrow
  unfold M14.val M14.cells
  go_enter Tryd.func36, Tryd.ntmps36
  go_upto_region 1 with fail
  have ew : w.alloc (.cells m.cells 45) = w.alloc m.obj := rfl
  unfold M14.cells at ew
  rw [ew]
  clear ew
  generalize w.alloc m.obj = w1 at *
  obtain ⟨_, _, _, _, _, _, _, _, _, _, _, c11, c12, c13, _⟩ := blk14 z1
  generalize m.en = en at *
  generalize m.mn = mn at *
  generalize m.dn = dn at *
  clear z1
  go_wp2_with fail
  go_loopw [4, 11] (fun av iv wr => ∃ (k a : Nat), k ≤ en ∧ av = .int .i64 a ∧ iv = .int .i64 k ∧ wr = w1 ∧ a ≤ 1 + 718 * k) (fun _ iv _ => en - (intOf iv).toNat)
  case atStart => exact ⟨0, 1, Nat.zero_le _, rfl, rfl, rfl, by omega⟩
  case round =>
    obtain ⟨k, a, hk, rfl, rfl, rfl, ha⟩ := hrel
    by_cases hlt : k < en
    · have i1 : (k : Int) < (en : Int) := by omega
      obtain ⟨g, o, ae, ce, heO, hg, hc, _⟩ := unhide HR k (by rw [← unhide HEN]; exact hlt)
      have hl7 := hasLong_get hlong k (by rw [← unhide HEN]; exact hlt)
      generalize es[k].length = n at *
      rw [heO] at c11 ⊢
      have w1' : IntKind.i64.wrap (18 + (n : Int)) = 18 + (n : Int) := by rw [IntKind.wrap_i64]; omega
      obtain ⟨q, hq⟩ : ∃ q : Nat, q = a + (18 + n) := ⟨_, rfl⟩
      have w2' : IntKind.i64.wrap ((a : Int) + (18 + (n : Int))) = (q : Int) := by rw [IntKind.wrap_i64]; omega
      have hq1 : q ≤ 1 + 718 * (k + 1) := by omega
      clear hq
      go_wp2
      go_roundw
      case rel => exact ⟨k + 1, q, by omega, rfl, rfl, by trivial, hq1⟩
      case measure => simp only [intOf]; omega
    · have i1 : ¬ (k : Int) < (en : Int) := by omega
      obtain ⟨N, hN⟩ : ∃ N : Nat, N = 58 + a + (1 + 8 * mn) + 2 + dn := ⟨_, rfl⟩
      have v1 : IntKind.i64.wrap (8 * (mn : Int)) = 8 * (mn : Int) := by rw [IntKind.wrap_i64]; omega
      have v2 : IntKind.i64.wrap (1 + 8 * (mn : Int)) = 1 + 8 * (mn : Int) := by rw [IntKind.wrap_i64]; omega
      have v3 : IntKind.i64.wrap (58 + (a : Int)) = 58 + (a : Int) := by rw [IntKind.wrap_i64]; omega
      have v4 : IntKind.i64.wrap (58 + (a : Int) + (1 + 8 * (mn : Int))) = 58 + (a : Int) + (1 + 8 * (mn : Int)) := by rw [IntKind.wrap_i64]; omega
      have v5 : IntKind.i64.wrap (58 + (a : Int) + (1 + 8 * (mn : Int)) + 2) = 58 + (a : Int) + (1 + 8 * (mn : Int)) + 2 := by rw [IntKind.wrap_i64]; omega
      have v6 : IntKind.i64.wrap (58 + (a : Int) + (1 + 8 * (mn : Int)) + 2 + (dn : Int)) = (N : Int) := by rw [IntKind.wrap_i64]; omega
      have hN1 : N ≤ 200000 := by omega
      clear hN
      go_wp2
      go_ret
      exact ⟨N, ret_int (by omega), hN1, n1⟩

theorem WrW.new (w : World) (rest : List Value) (n : Nat) (hr : rest.length = n) : WrW ((w.alloc (.cells rest.toArray 5)).alloc (.cells #[.slice (some ⟨w.heap.size, 0, none⟩) n n] 51)) (w.heap.size + 1) w.heap.size n := ⟨_, wr_new w rest n hr⟩
/-- Bytes of old memory. -/
theorem bytesW (bs : List UInt8) (ao : Option Addr) (cap n : Nat) (hn : n = bs.length) (w0 w : World) (rb g total : Nat) (h : WrW w rb g total) (hb : Below w0.heap.size w0 w) (h0 : BRow w0 ao bs) (hrb : w0.heap.size ≤ rb) (hg : w0.heap.size ≤ g) (hl : bs.length ≤ 281474976710656) (ht : total ≤ 281474976710656) :
    Calls Tryd.prog 22 #[.pointer (some ⟨rb, 0, none⟩), .slice ao n cap] w fun e w' => e = .returned (.tuple #[]) ∧ Keep2 rb g w w' ∧ WrW w' rb g total := by
  subst hn
  obtain ⟨T, h⟩ := h
  refine (wbytes_any bs ao cap w rb g total T h (fun hne x o e => ?_) (h0.below hb) hl ht).mono fun e w' ⟨h1, h2, h3⟩ => ⟨h1, h2, _, h3⟩
  rcases h0 with h0 | ⟨g', o', e', hg', _⟩
  · exact absurd h0 hne
  · rw [e'] at e
    cases e
    omega

theorem msg_bad (m : M14) (es : List (List UInt8)) (d : List UInt8) (w : World) (h : MRows w m es d) (hl : es.length ≤ 281474976710656) (he : errM m es ≠ 0) :
    Calls Tryd.prog 18 #[m.val] w fun e w' => ∃ v, e = .returned (.tuple #[v, .int .i64 (errM m es)]) ∧ Below w.heap.size w w' := by
  have n1 := new1 w m.obj
  have C := checkMsg_any m es d _ (h.below n1) hl
  have z1 := alloc_heap w m.obj
  generalize errM m es = E at *
  have hE : (E == 0) = false := beq_false_of_ne he
  clear he h
  unfold M14.val M14.cells at C ⊢
  go_enter Tryd.func18, Tryd.ntmps18
  go_upto_region 1 with fail
  have ew : w.alloc (.cells m.cells 45) = w.alloc m.obj := rfl
  unfold M14.cells at ew
  rw [ew]
  clear ew
  generalize w.alloc m.obj = w1 at *
  obtain ⟨c0, c1, c2, c3, c4, c5, c6, c7, c8, c9, c10, c11, c12, c13, _⟩ := blk14 z1
  go_wp2_with fail
  refine C.mono ?_
  rintro e w2 ⟨rfl, b2⟩
  go_wp2
  go_ret2
  exact ⟨_, rfl, n1.trans (b2.mono n1.size)⟩
end Go.Proofs.YtkeljejddfpnmaaDoor
