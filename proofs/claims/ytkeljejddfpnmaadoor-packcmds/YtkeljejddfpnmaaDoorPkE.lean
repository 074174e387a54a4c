/-
  pack.Frame: what it returns.
-/
import Derived.Test.YtkeljejddfpnmaaDoorPkD
import Derived.Laws.MakeOwn
namespace Go.Proofs.YtkeljejddfpnmaaDoor
open Go.RowKit Go.Sort

theorem infoBz : (Tryd.prog.info? 5).map (fun i => (i.zero, i.size, i.bytes)) = some (some (.int .u8 0), 1, 1) := by kernel_rfl
theorem make_bytes (n : Nat) (N : Int) (hN : N = (n : Int)) (hn : n ≤ 281474976710656) : ∃ rest : List Value, rest.length = n ∧ ∀ W : World, (Instr.makeSlice 24 (.int .i64 N) (.int .i64 N)).run Tryd.prog W = .ok (.slice (some ⟨W.heap.size, 0, none⟩) n n) (W.alloc (.cells rest.toArray 5)) := by
  have hi := infoBz
  cases h : Tryd.prog.info? 5 with
  | none => rw [h] at hi; cases hi
  | some i =>
    rw [h] at hi
    simp only [Option.map_some, Option.some.injEq, Prod.mk.injEq] at hi
    obtain ⟨h1, h2, h3⟩ := hi
    refine ⟨(madeCells (Value.int .u8 0).cells (n * 1)).toList, by simp [size_madeCells], fun W => ?_⟩
    have := run_make (P := Tryd.prog) W 24 5 i (.int .u8 0) Tryd.underlying24 h h1 .i64 .i64 N N (by omega) (Int.le_refl _) (by rw [h3]; omega) (by omega)
    rw [this, h2, hN]
    simp

/-- A new room, and a writer over it. -/
theorem wr_new (w : World) (rest : List Value) (n : Nat) (hr : rest.length = n) :
    WrAt ((w.alloc (.cells rest.toArray 5)).alloc (.cells #[.slice (some ⟨w.heap.size, 0, none⟩) n n] 51)) (w.heap.size + 1) w.heap.size n [] := by
  have h1 := alloc_heap w (.cells rest.toArray 5)
  have h2 := alloc_heap (w.alloc (.cells rest.toArray 5)) (.cells #[.slice (some ⟨w.heap.size, 0, none⟩) n n] 51)
  have e : (w.alloc (.cells rest.toArray 5)).heap.size = w.heap.size + 1 := by simp
  rw [e] at h2
  refine ⟨⟨0, h2, fun _ => rfl⟩, ⟨rest, by simpa using hr, ?_⟩, by omega⟩
  rw [kept_of_below (new1 _ _) h1]
  simp [roomObj, u8s]

theorem frame_long (l : List UInt8) (ao : Option Addr) (cap : Nat) (w : World) (hl : 65000 < l.length) :
    Calls Tryd.prog 12 #[.slice ao l.length cap] w fun e w' => e = .returned (.tuple #[.slice none 0 0, .int .i64 5]) ∧ w' = w := by
  have i1 : (65000 : Int) < (l.length : Int) := by omega
  go_enter Tryd.func12, Tryd.ntmps12
  go_wp2
  go_ret2
  exact ⟨rfl, rfl⟩

set_option maxHeartbeats 4000000 in
set_option maxRecDepth 1000000 in
theorem frame_any (l : List UInt8) (ao : Option Addr) (cap : Nat) (w : World) (hl : l.length ≤ 65000) (h : BRow w ao l) (hT : Half w) :
    Calls Tryd.prog 12 #[.slice ao l.length cap] w fun e w' => e = .returned (.tuple #[.slice (some ⟨w.heap.size, 0, none⟩) (l.length + 4) (l.length + 4), .int .i64 0]) ∧ Below w.heap.size w w' ∧
      w'.heap[w.heap.size]? = some (.cells (u8s (beN 4 (crcL l : Nat) ++ l)).toArray 5 (0, 0)) := by
  obtain ⟨L, hL⟩ : ∃ L : Nat, L = l.length := ⟨_, rfl⟩
  have i1 : ¬ (65000 : Int) < (L : Int) := by omega
  obtain ⟨N, hN⟩ : ∃ N : Int, N = ((L + 4 : Nat) : Int) := ⟨_, rfl⟩
  have hNw : IntKind.i64.wrap (4 + (L : Int)) = N := by rw [IntKind.wrap_i64]; omega
  obtain ⟨rest, hr, hmk⟩ := make_bytes (L + 4) N hN (by omega)
  have hw0 := wr_new w rest (L + 4) hr
  have hb0 := below2 w (.cells rest.toArray 5) (.cells #[.slice (some ⟨w.heap.size, 0, none⟩) (L + 4) (L + 4)] 51)
  have hs0 : ((w.alloc (.cells rest.toArray 5)).alloc (.cells #[.slice (some ⟨w.heap.size, 0, none⟩) (L + 4) (L + 4)] 51)).heap.size = w.heap.size + 2 := by simp
  have C := crc_any l ao cap _ (by omega) (h.below hb0) (hT.below hb0)
  rw [← hL] at C ⊢
  obtain ⟨X, hX⟩ : ∃ X : Int, X = ((crcL l : Nat) : Int) := ⟨_, rfl⟩
  rw [← hX] at C ⊢
  have hXw : IntKind.i64.wrap X = X := by have := crcL_lt l; rw [IntKind.wrap_i64]; omega
  have HX := hide hX
  have HL := hide hL
  have HS := hide hs0
  have HN := hide hN
  have HH := hide h
  clear hX hL hs0 hr hN h
  go_enter Tryd.func12, Tryd.ntmps12
  go_upto_region 5 with fail
  generalize (w.alloc _).alloc _ = w1 at *
  have WN := wnumber_any 4 (by decide) X w1 (w.heap.size + 1) w.heap.size (L + 4) [] hw0 (by omega)
  go_wp2_with fail
  refine C.mono ?_
  rintro e w2 ⟨rfl, rfl⟩
  go_wp2_with fail
  refine WN.mono ?_
  rintro e w3 ⟨rfl, k3, h3⟩
  have b3 := k3.below hb0 (Nat.le_succ _) (Nat.le_refl _) hb0.size
  have hrow : BRowN w3 w.heap.size ao l := ((unhide HH).apart (Nat.le_refl _)).same b3.size fun k hk _ => b3.block k hk
  have P := put_any w3 (w.heap.size + 1) w.heap.size (L + 4) _ l ao cap h3 hrow (by omega) (by omega)
  rw [← unhide HL] at P
  go_wp2_with fail
  refine P.mono ?_
  rintro e w4 ⟨rfl, k4, h4⟩
  go_wp2
  go_ret2
  refine ⟨rfl, k4.below b3 (Nat.le_succ _) (Nat.le_refl _) b3.size, ?_⟩
  have := h4.room.full (by rw [List.nil_append, List.length_append, beN_len, unhide HL]; omega)
  simpa using this
end Go.Proofs.YtkeljejddfpnmaaDoor
