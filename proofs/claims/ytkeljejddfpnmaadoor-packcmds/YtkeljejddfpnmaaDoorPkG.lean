/-
  pack's reader: number; copyOf, Unframe: what they return.
-/
import Derived.Test.YtkeljejddfpnmaaDoorPkF
namespace Go.Proofs.YtkeljejddfpnmaaDoor
open Go.RowKit Go.Sort

/-- A number of bytes, the highest first. -/
def beV (l : List UInt8) : Nat := l.foldl (fun v b => v * 256 + b.toNat) 0
theorem beV_take (l : List UInt8) (k : Nat) (hk : k < l.length) : beV (l.take (k + 1)) = beV (l.take k) * 256 + l[k].toNat := by
  rw [List.take_add_one, List.getElem?_eq_getElem hk, beV, List.foldl_append]
  rfl
theorem or_step (v b : Nat) (hb : b < 256) (x y : Int) (hx : x = IntKind.i64.wrap v) (hy : y = IntKind.i64.wrap (x * 256)) : bits .or .i64 y (b : Int) = IntKind.i64.wrap ((v * 256 + b : Nat) : Int) := by
  obtain ⟨k1, hk1⟩ : ∃ k : Int, x = v + 18446744073709551616 * k := ⟨-(((v : Int) + 9223372036854775808) / 18446744073709551616), by rw [hx, IntKind.wrap_i64]; omega⟩
  obtain ⟨k2, hk2⟩ : ∃ k : Int, y = x * 256 + 18446744073709551616 * k := ⟨-((x * 256 + 9223372036854775808) / 18446744073709551616), by rw [hy, IntKind.wrap_i64]; omega⟩
  have hyv : y = ((v * 256 : Nat) : Int) + 18446744073709551616 * (256 * k1 + k2) := by omega
  clear hx hy hk1 hk2
  have e : BitVec.ofInt 64 y = BitVec.ofNat 64 (v * 256) := by
    apply BitVec.eq_of_toNat_eq
    rw [BitVec.toNat_ofInt, BitVec.toNat_ofNat, hyv]
    rw [show (((2 : Nat) ^ 64 : Nat) : Int) = 18446744073709551616 by decide, Int.add_mul_emod_self_left]
    rfl
  clear hyv
  show IntKind.i64.wrap ((BitVec.ofInt 64 y ||| BitVec.ofInt 64 (b : Int)).toNat : Int) = _
  have e2 : (BitVec.ofNat 64 (v * 256) ||| BitVec.ofNat 64 b).toNat = (v * 256) % 18446744073709551616 + b := by
    rw [BitVec.toNat_or, BitVec.toNat_ofNat, BitVec.toNat_ofNat, Nat.mod_eq_of_lt (show b < 2 ^ 64 by omega)]
    have h := Nat.two_pow_add_eq_or_of_lt (show b < 2 ^ 8 by omega) (v % 72057594037927936)
    rw [show (v * 256) % 2 ^ 64 = 2 ^ 8 * (v % 72057594037927936) by omega, ← h]
  rw [e, BitVec.ofInt_natCast, e2]
  generalize hm : v * 256 = m
  obtain ⟨q, hq⟩ : ∃ q : Nat, m = m % 18446744073709551616 + 18446744073709551616 * q := ⟨m / 18446744073709551616, by omega⟩
  simp only [IntKind.wrap_i64]
  omega
def numV (l : List UInt8) : Int := IntKind.i64.wrap (beV l)
def val (n : Nat) (s : RS) : Int := numV (frt n s)
theorem frt_len (n : Nat) (s : RS) : (frt n s).length = n ∨ frt n s = [] := by
  unfold frt
  split
  · left; rw [List.length_take]; omega
  · exact .inr rfl

set_option maxHeartbeats 4000000 in
set_option maxRecDepth 1000000 in
theorem rnumber_any (n : Nat) (hn8 : n ≤ 8) (s : RS) (w : World) (rb : Nat) (h : RdK w rb s) :
    Calls Tryd.prog 33 #[.pointer (some ⟨rb, 0, none⟩), .int .i64 n] w fun e w' => e = .returned (.int .i64 (val n s)) ∧ Keep1 rb w w' ∧ RdK w' rb (nxt n s) := by
  have N := next_any n s w rb h
  unfold val
  have hl8 : (frt n s).length ≤ 8 := by
    rcases frt_len n s with e | e
    · omega
    · rw [e]; exact Nat.zero_le _
  generalize frt n s = l at *
  generalize nxt n s = s' at *
  obtain ⟨V, hV⟩ : ∃ V : Int, V = numV l := ⟨_, rfl⟩
  rw [← hV]
  have HV := hide hV
  clear hV
  go_enter Tryd.func33, Tryd.ntmps33
  go_wp2_with fail
  refine N.mono ?_
  rintro e w1 ⟨ao, cap, rfl, hcap, hrow, hk, hrd⟩
  go_wp2_with fail
  go_loopw [5, 12] (fun xv iv wr => ∃ (k : Nat) (x : Int), k ≤ l.length ∧ xv = .int .i64 x ∧ iv = .int .i64 k ∧ wr = w1 ∧ x = IntKind.i64.wrap (beV (l.take k))) (fun _ iv _ => l.length - (intOf iv).toNat)
  case atStart => exact ⟨0, 0, Nat.zero_le _, rfl, rfl, rfl, by rw [List.take_zero]; rfl⟩
  case round =>
    obtain ⟨k, x, hkl, rfl, rfl, rfl, hx⟩ := hrel
    by_cases hlt : k < l.length
    · have i1 : (k : Int) < (l.length : Int) := by omega
      obtain ⟨g, off, rfl, hg, hc⟩ := hrow.row.get hlt
      have hst := beV_take l k hlt
      generalize l[k] = b at *
      have hb := b.toNat_lt
      obtain ⟨y, hy⟩ : ∃ y : Int, y = IntKind.i64.wrap (x * 256) := ⟨_, rfl⟩
      have hor := or_step _ b.toNat (by omega) x y hx hy
      rw [← hst] at hor
      have hy' := hy.symm
      obtain ⟨bi, hbi⟩ : ∃ bi : Int, bi = (b.toNat : Int) := ⟨_, rfl⟩
      rw [← hbi] at hc hor
      have hbw : IntKind.i64.wrap bi = bi := by rw [IntKind.wrap_i64]; omega
      obtain ⟨z, hz⟩ : ∃ z : Int, z = IntKind.i64.wrap (beV (l.take (k + 1))) := ⟨_, rfl⟩
      rw [← hz] at hor
      have HZ := hide hz
      clear hx hst hy hbi hz
      go_wp2
      go_roundw
      case rel => exact ⟨k + 1, z, by omega, rfl, rfl, by trivial, unhide HZ⟩
      case measure => simp only [intOf]; omega
    · have i1 : ¬ (k : Int) < (l.length : Int) := by omega
      have hxe : x = V := by rw [unhide HV, hx, List.take_of_length_le (by omega)]; rfl
      clear hx
      subst hxe
      go_wp2
      go_ret
      exact ⟨rfl, hk, hrd⟩

/-- A copy of all bytes into a row as long. -/
theorem copy_run (w : World) (g : Nat) (l : List UInt8) (ao : Option Addr) (cap L : Nat) (rest : List Value) (ty : TypeId) (hL : L = l.length) (hr : rest.length = L) (hg : w.heap[g]? = some (.cells rest.toArray 5 (0, 0))) (h : BRow w ao l) :
    ∃ w', (Builtin.copy_ #[24, 24] ty #[.slice (some ⟨g, 0, none⟩) L L, .slice ao L cap]).run Tryd.prog w = .ok (.int .i64 L) w' ∧ w'.heap[g]? = some (.cells (u8s l).toArray 5 (0, 0)) ∧ Keep1 g w w' := by
  rcases h with rfl | ⟨gs, off, rfl, _, hc⟩
  · have h0 : L = 0 := by simpa using hL
    subst h0
    obtain rfl : rest = [] := List.eq_nil_of_length_eq_zero hr
    exact ⟨w, run_copy_none (P := Tryd.prog) w _ _ ty 5 _ _ 0 0 0 cap Tryd.underlying24 infoB rfl, hg, Keep2.refl _ _ _⟩
  · have hn : (u8s l).length = L := by rw [u8s_len, hL]
    have := run_copy_row (P := Tryd.prog) w 24 24 ty 5 g 0 L L ⟨gs, off, none⟩ L cap rest.toArray 5 (u8s l) Tryd.underlying24 infoB hg (by rw [hn]; exact (Nat.min_self _).symm)
      (fun j v hj => by
        have hjl : j < l.length := by rw [← u8s_len]; exact (List.getElem?_eq_some_iff.1 hj).1
        rw [u8s_get hjl] at hj
        cases hj
        rw [addr_add]
        exact hc j hjl) (by rw [hn]; simp [hr]) (fun v hv => by
        simp only [u8s, List.mem_map] at hv
        obtain ⟨b, _, rfl⟩ := hv
        rfl)
    rw [hn] at this
    refine ⟨_, this, ?_, ⟨rfl, rfl, rfl, by simp [World.setRow], fun k _ hk _ => setRow_other w g k _ hk⟩⟩
    rw [setRow_heap w g _ _ 5 _ hg]
    simp [hr]

set_option maxHeartbeats 4000000 in
set_option maxRecDepth 1000000 in
theorem copyOf_any (l : List UInt8) (ao : Option Addr) (cap : Nat) (w : World) (hl : l.length ≤ 281474976710656) (h : BRow w ao l) :
    Calls Tryd.prog 34 #[.slice ao l.length cap] w fun e w' => e = .returned (.slice (some ⟨w.heap.size, 0, none⟩) l.length l.length) ∧ Below w.heap.size w w' ∧ w'.heap[w.heap.size]? = some (.cells (u8s l).toArray 5 (0, 0)) := by
  obtain ⟨L, hL⟩ : ∃ L : Nat, L = l.length := ⟨_, rfl⟩
  obtain ⟨rest, hr, hmk⟩ := make_bytes L (L : Int) rfl (by omega)
  have b1 := new1 w (.cells rest.toArray 5)
  obtain ⟨w2, hcp, h2, k2⟩ := copy_run (w.alloc (.cells rest.toArray 5)) w.heap.size l ao cap L rest 3 hL hr (alloc_heap _ _) (h.below b1)
  rw [← hL]
  clear hL h hr
  go_enter Tryd.func34, Tryd.ntmps34
  go_wp2
  go_ret
  exact ⟨rfl, k2.below b1 (Nat.le_refl _) (Nat.le_refl _) b1.size, h2⟩

theorem row_of_block {w : World} {g : Nat} {l : List UInt8} {T : TypeId} {fr : Nat × Nat} (h : w.heap[g]? = some (.cells (u8s l).toArray T fr)) : BRow w (some ⟨g, 0, none⟩) l := by
  refine .inr ⟨g, 0, rfl, (Array.getElem?_eq_some_iff.1 h).1, fun j hj => ?_⟩
  rw [Lib.cell_of_heap h]
  simp [u8s, hj]

/-- What a frame holds: its bytes, or the error. -/
def unf (l : List UInt8) : List UInt8 × Int := if l.length < 4 then ([], 8) else if crcL (l.drop 4) = beV (l.take 4) then (l.drop 4, 0) else ([], 31)
theorem beV_lt4 (l : List UInt8) : ∀ (n : Nat), l.length = n → beV l < 256 ^ n := by
  intro n
  induction n generalizing l with
  | zero => intro h; rw [List.eq_nil_of_length_eq_zero h]; decide
  | succ n ih =>
    intro h
    have h1 := ih (l.take n) (by rw [List.length_take]; omega)
    have h2 := beV_take l n (by omega)
    rw [List.take_of_length_le (by omega)] at h2
    have h3 := l[n].toNat_lt
    rw [h2, Nat.pow_succ]
    omega

theorem RdK.new (w : World) (ao : Option Addr) (l : List UInt8) (cap : Nat) (h : BRow w ao l) (hc : l.length ≤ cap) :
    RdK (w.alloc (.cells #[.slice ao l.length cap, .bool false, .bool false] 68)) w.heap.size ⟨l, false, false⟩ := by
  have b1 := new1 w (.cells #[.slice ao l.length cap, .bool false, .bool false] 68)
  exact ⟨ao, cap, alloc_heap _ _, hc, (h.apart (Nat.le_refl _)).same b1.size fun k hk _ => b1.block k hk⟩

end Go.Proofs.YtkeljejddfpnmaaDoor
