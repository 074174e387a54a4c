/-
  chancellaw1.Of: the text that it makes of numbers.
-/
import Derived.Test.YtckjafmnaffggaaRefB
namespace Go.Proofs.Ytckjafmnaffggaa
open Go.RowKit

/-- The cells of a slice of ints. -/
def IntsAt (w : World) (ao : Option Addr) (zs : List Int) : Prop :=
  ∀ j (hj : j < zs.length), ∃ b off, ao = some ⟨b, off, none⟩ ∧ b < w.heap.size ∧ w.cell? ⟨b, off + j, none⟩ = some (.int .i64 zs[j])

theorem IntsAt.below {w w' : World} {ao : Option Addr} {zs : List Int} (h : IntsAt w ao zs) (hb : Below w.heap.size w w') : IntsAt w' ao zs := by
  intro j hj
  obtain ⟨b, off, e, hlt, hc⟩ := h j hj
  have := hb.size
  exact ⟨b, off, e, by omega, (hb.cell (p := ⟨b, off + j, none⟩) hlt).trans hc⟩

theorem rowAt_owns {w : World} {B : Nat} {v : Value} {xs : List Int} (h : w.ownsRow B 21 1 v xs.length (xs.map (Value.int .i32))) : ∃ ao cap, v = .slice ao xs.length cap ∧ RowAt w ao xs ∧ xs.length ≤ cap ∧ cap ≤ maxLen := by
  rcases h.2 with ⟨rfl, h0⟩ | ⟨g, cap, cur, rfl, _, hg, hnc, hcm, _, _⟩
  · exact ⟨none, 0, by rw [h0], fun j hj => by omega, by omega, by unfold maxLen; omega⟩
  · refine ⟨_, cap, rfl, fun j hj => ?_, hnc, hcm⟩
    obtain ⟨g', cap', e, _, hg', _, hc⟩ := owns_open h (by omega)
    cases e
    exact ⟨g, 0, rfl, hg', by rw [Nat.zero_add]; exact hc j _ (by simp [hj])⟩

def someCells : Array Value := (some22.map (Value.int .i32)).toArray

set_option maxHeartbeats 4000000 in
set_option maxRecDepth 1000000 in
theorem lawOf_any (zs : List Int) (ao : Option Addr) (cap : Nat) (w : World) (hl : zs.length ≤ 9223372036854775807) (hz : IntsAt w ao zs) :
    Calls Try.prog 59 #[.slice ao zs.length cap] w fun e w' => e = .returned (.string ⟨(txt zs).toArray⟩) ∧ Below w.heap.size w w' := by
  obtain ⟨i0, hi, hz0, hz1, hz2⟩ := info_parts infoRune
  go_enter Try.func59, Try.ntmps59
  go_wp2
  go_loopw [4, 5] (fun v i wr => ∃ (k : Nat), k ≤ zs.length ∧ k ≤ 40 ∧ i = .int .i64 k ∧ wr.heap[w.heap.size]? = some (.cells someCells 21 (0, 0)) ∧ wr.ownsRow (w.heap.size + 1) 21 1 v ((zs.take k).map pick).length (((zs.take k).map pick).map (Value.int .i32)) ∧ Below w.heap.size w wr) (fun _ i _ => 40 - (intOf i).toNat)
  case atStart =>
    refine ⟨0, Nat.zero_le _, Nat.zero_le _, rfl, ?_, ⟨by simp, .inl ⟨rfl, rfl⟩⟩, (Below.refl _ w).alloc (Nat.le_refl _) _⟩
    exact alloc_heap w _
  case round =>
    obtain ⟨k, hk, hk40, rfl, hsome, hown, hbw⟩ := hrel
    have hsz : w.heap.size < wr.heap.size := (Array.getElem?_eq_some_iff.1 hsome).1
    by_cases hlt : k < zs.length ∧ k < 40
    · obtain ⟨hlt, hlt40⟩ := hlt
      obtain ⟨L, hL⟩ : ∃ L, L = (zs.take k).map pick := ⟨_, rfl⟩
      have hLl : L.length ≤ 40 := by rw [hL, List.length_map, List.length_take]; omega
      rw [← hL] at hown
      have HL := hide hL
      clear hL
      obtain ⟨b, off, rfl, hb, hc⟩ := hz k hlt
      have hc2 := (hbw.cell (p := ⟨b, off + k, none⟩) hb).trans hc
      have HT := hide (List.take_succ_eq_append_getElem hlt)
      generalize zs[k] = z at *
      clear hc
      have q0 := Int.emod_nonneg z (show (22 : Int) ≠ 0 by decide)
      have q1 := Int.emod_lt_of_pos z (show (0 : Int) < 22 by decide)
      have hpk : wr.cell? ⟨w.heap.size, (z % 22).toNat, none⟩ = some (.int .i32 (pick z)) := by
        rw [Lib.cell_of_heap hsome]
        have h2 : (z % 22).toNat < some22.length := by show _ < 22; omega
        simp [someCells, pick, List.getD, h2]
      go_wp2_with fail
      refine (within_any z 22 (by decide) (by decide) _).mono ?_
      rintro e w1 ⟨rfl, rfl⟩
      generalize z % 22 = q at *
      generalize hxx : pick z = x at *
      have HX := hide hxx
      clear hxx
      go_wp2_with (at_builtin; refine wpList_append_own _ rfl _ _ 101 rfl (w.heap.size + 1) 21 i0 (.int .i32 0) 1 4 Try.underlying101 hi hz0 hz1 hz2 rfl (by decide) _ _ _ rfl (hown.alloc _) ⟨w1.heap.size, 0, none⟩ 1 1 [.int .i32 x] rfl rfl ?c1 ?c2 ?c3 ?c4 ?c5 ?_)
      case c1 =>
        intro j u hj
        match j, hj with
        | 0, hj => simp at hj; subst hj; simp [Addr.add]
      case c2 => intro u hu; simp at hu; subst hu; rfl
      case c3 => unfold maxLen; omega
      case c4 => omega
      case c5 => simp; omega
      intro v' w2 hown' hgrow _
      have hb3 := (hbw.alloc (by omega) (.cells #[.int .i32 x] 21)).grown hgrow (by simp; omega) (fun g hg => by have := (hown.lt g hg).1; omega)
      have hsome3 : w2.heap[w.heap.size]? = some (.cells someCells 21 (0, 0)) := by
        rw [hgrow.block w.heap.size (by simp; omega) (fun e => by have := (hown.lt w.heap.size e.symm).1; omega), Lib.alloc_old w1 _ _ hsz]
        exact hsome
      go_wp2
      go_roundw
      case rel =>
        refine ⟨k + 1, by omega, by omega, by go_num, hsome3, ?_, hb3⟩
        have e : (zs.take k ++ [z]).map pick = (zs.take k).map pick ++ [x] := by
          rw [List.map_append, List.map_cons, List.map_nil, unhide HX]
        rw [unhide HT, e, ← unhide HL, List.map_append, List.length_append]
        exact hown'
      case measure =>
        simp [intOf]
        omega
    · have hend : zs.take k = zs.take 40 := by
        by_cases h40 : k = 40
        · rw [h40]
        · rw [List.take_of_length_le (by omega), List.take_of_length_le (by omega)]
      rw [hend] at hown
      have hown2 : wr.ownsRow (w.heap.size + 1) 21 1 _ (picks zs).length ((picks zs).map (Value.int .i32)) := hown
      obtain ⟨bo, cp, rfl, hrow, _, _⟩ := rowAt_owns hown2
      have hpl := picks_len zs
      have HPK := hide (picks_ok zs)
      clear hown hown2 hend
      have hlt' : ¬ (k : Int) < (zs.length : Int) ∨ ¬ (k : Int) < 40 := by omega
      by_cases hc1 : k < zs.length
      · have hc2 : ¬ k < 40 := by omega
        go_wp2_with fail
        refine (rof_any (picks zs) bo cp _ (by omega) hrow).mono ?_
        rintro e w2 ⟨rfl, b2⟩
        rw [ofS_ok (unhide HPK)]
        go_wp2
        go_ret
        exact ⟨rfl, hbw.trans (b2.mono (by omega))⟩
      · go_wp2_with fail
        refine (rof_any (picks zs) bo cp _ (by omega) hrow).mono ?_
        rintro e w2 ⟨rfl, b2⟩
        rw [ofS_ok (unhide HPK)]
        go_wp2
        go_ret
        exact ⟨rfl, hbw.trans (b2.mono (by omega))⟩

/-- The same, with a name for the text. -/
theorem lawOf_txt (zs : List Int) (ao : Option Addr) (cap : Nat) (w : World) (hl : zs.length ≤ 9223372036854775807) (hz : IntsAt w ao zs) :
    Calls Try.prog 59 #[.slice ao zs.length cap] w fun e w' => ∃ s : ByteArray, e = .returned (.string s) ∧ s.data.toList = txt zs ∧ s.size ≤ 160 ∧ Below w.heap.size w w' := by
  refine (lawOf_any zs ao cap w hl hz).mono ?_
  rintro e w' ⟨rfl, hb⟩
  refine ⟨_, rfl, rfl, ?_, hb⟩
  rw [Lib.size_eq]
  exact txt_len zs

end Go.Proofs.Ytckjafmnaffggaa
