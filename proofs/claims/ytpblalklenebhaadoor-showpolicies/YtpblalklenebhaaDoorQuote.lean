/-
  text.quoted and text.Quote: what they return, for all bytes.
-/
import Derived.Test.YtpblalklenebhaaDoorBuild
import Derived.Test.YtpblalklenebhaaDoorHex
import Derived.Test.YtpblalklenebhaaDoorWorlds
import Derived.Test.YtpblalklenebhaaDoorRunesP
import Derived.Lib.RuneCount
import Derived.WalkSmall
namespace Go.Proofs.YtpblalklenebhaaDoor
open Go.RowKit

set_option maxHeartbeats 1000000 in
set_option maxRecDepth 100000 in
theorem quoted_plain (r : Int) (h0 : 0 ≤ r) (h1 : r ≤ 1114111) (w : World) (hn : ¬ (r < 32 ∨ r = 127)) (h92 : r ≠ 92) (h34 : r ≠ 34) :
    Calls Tryd.prog 47 #[.int .i32 r] w fun e w' => e = .returned (.string ⟨(quoL r).toArray⟩) ∧ Below w.heap.size w w' := by
  have a1 : (r == 92) = false := by simp [h92]
  have a2 : (r == 34) = false := by simp [h34]
  have a3 : (r == 10) = false := by simp; omega
  have a4 : (r == 9) = false := by simp; omega
  have a5 : (r == 127) = false := by simp; omega
  have hq : Utf8.encode r = ⟨(quoL r).toArray⟩ := by
    rw [enc_eq, quoL, if_neg (by omega), if_neg (by omega), if_neg (by omega), if_neg hn]
  have HQ := hide hq
  clear hq
  go_enter Tryd.func47, Tryd.ntmps47
  go_wp2
  go_ret
  rw [← unhide HQ]
  exact ⟨rfl, Below.refl _ _⟩

set_option maxHeartbeats 1000000 in
set_option maxRecDepth 100000 in
theorem quoted_esc (r : Int) (w : World) (h : r = 92 ∨ r = 34 ∨ r = 10 ∨ r = 9) :
    Calls Tryd.prog 47 #[.int .i32 r] w fun e w' => e = .returned (.string ⟨(quoL r).toArray⟩) ∧ Below w.heap.size w w' := by
  rcases h with rfl | rfl | rfl | rfl
  · go_enter Tryd.func47, Tryd.ntmps47
    go_wp2
    go_ret
    exact ⟨rfl, Below.refl _ _⟩
  · go_enter Tryd.func47, Tryd.ntmps47
    go_wp2
    go_ret
    exact ⟨rfl, Below.refl _ _⟩
  · go_enter Tryd.func47, Tryd.ntmps47
    go_wp2
    go_ret
    exact ⟨rfl, Below.refl _ _⟩
  · go_enter Tryd.func47, Tryd.ntmps47
    go_wp2
    go_ret
    exact ⟨rfl, Below.refl _ _⟩

set_option maxHeartbeats 1000000 in
set_option maxRecDepth 100000 in
theorem quoted_hex (k : Nat) (h : k < 32 ∨ k = 127) (h10 : k ≠ 10) (h9 : k ≠ 9) (w : World) (h3 : 3 < w.heap.size) (hc : w.cell? ⟨3, 15, none⟩ = some (.int .u8 4)) :
    Calls Tryd.prog 47 #[.int .i32 k] w fun e w' => e = .returned (.string ⟨(quoL k).toArray⟩) ∧ Below w.heap.size w w' := by
  have a1 : ((k : Int) == 92) = false := by simp; omega
  have a2 : ((k : Int) == 34) = false := by simp; omega
  have a3 : ((k : Int) == 10) = false := by simp; omega
  have a4 : ((k : Int) == 9) = false := by simp; omega
  have hq : quoL (k : Int) = [92, 117, 123] ++ hexL k ++ [125] := by
    rw [quoL, if_neg (by omega), if_neg (by omega), if_neg (by omega), if_pos (by omega), Int.toNat_natCast]
  have HQ := hide hq
  clear hq
  have hl := hexL_len k
  rcases h with h | rfl
  · go_enter Tryd.func47, Tryd.ntmps47
    go_wp2_with fail
    refine (formatInt16 k (by omega) _ h3 hc).mono ?_
    rintro e w' ⟨rfl, hb⟩
    go_wp2
    go_ret
    rw [unhide HQ, ← ba_app, ← ba_app]
    exact ⟨rfl, hb⟩
  · go_enter Tryd.func47, Tryd.ntmps47
    go_wp2_with fail
    refine (formatInt16 127 (by omega) _ h3 hc).mono ?_
    rintro e w' ⟨rfl, hb⟩
    go_wp2
    go_ret
    rw [unhide HQ, ← ba_app, ← ba_app]
    exact ⟨rfl, hb⟩

theorem quoted_any (r : Int) (h0 : 0 ≤ r) (h1 : r ≤ 1114111) (w : World) (h3 : 3 < w.heap.size) (hc : w.cell? ⟨3, 15, none⟩ = some (.int .u8 4)) :
    Calls Tryd.prog 47 #[.int .i32 r] w fun e w' => e = .returned (.string ⟨(quoL r).toArray⟩) ∧ Below w.heap.size w w' := by
  by_cases he : r = 92 ∨ r = 34 ∨ r = 10 ∨ r = 9
  · exact quoted_esc r w he
  · by_cases hh : r < 32 ∨ r = 127
    · obtain ⟨k, rfl⟩ := Int.eq_ofNat_of_zero_le h0
      exact quoted_hex k (by omega) (by omega) (by omega) w h3 hc
    · exact quoted_plain r h0 h1 w hh (by omega) (by omega)

set_option maxHeartbeats 4000000 in
set_option maxRecDepth 1000000 in
theorem quote_any (s : ByteArray) (w : World) (hs : s.size ≤ 1099511627776) (h3 : 3 < w.heap.size) (hc : w.cell? ⟨3, 15, none⟩ = some (.int .u8 4)) :
    Calls Tryd.prog 23 #[.string s] w fun e w' => e = .returned (.string ⟨(quoteL s.data.toList).toArray⟩) ∧ Below w.heap.size w w' := by
  go_enter Tryd.func23, Tryd.ntmps23
  go_wp2_with (first | (go_at_call 45; refine (writeByte w.heap.size w.heap.size [] 34 _ (Lib.IsBuilderF.of (Lib.fresh_isBuilder 76 5 w)) (by simp) (by simp)).mono ?_))
  rintro e W0 ⟨rfl, hI0, hb0, _⟩
  have hbw0 : Below w.heap.size w W0 := ((Below.refl _ w).alloc (Nat.le_refl _) _).trans hb0
  have hsz0 : w.heap.size < W0.heap.size := by
    have := hb0.size
    simp at this
    omega
  go_wp2
  go_loopw [] (fun wr => ∃ (pos : Nat) (acc : List UInt8), Lib.IsBuilderF 76 5 w.heap.size w.heap.size (Lib.byteCells acc) wr ∧ pos ≤ s.size ∧ wr.heap[W0.heap.size]? = some (.stringIter s pos) ∧ Below w.heap.size w wr ∧
      acc ++ (runes (s.data.toList.drop pos)).flatMap quoL = 34 :: (runes s.data.toList).flatMap quoL ∧ acc.length ≤ 1 + 6 * pos) (fun wr => s.size - wr.iterPos W0.heap.size)
  case atStart =>
    refine ⟨0, [34], ?_, Nat.zero_le _, ?_, hbw0.alloc (by omega) _, by simp, by simp⟩
    · have hI1 : Lib.IsBuilderF 76 5 w.heap.size w.heap.size (Lib.byteCells [34]) W0 := Or.inr hI0
      exact Lib.IsBuilderF.alloc hI1 _
    · have := World.iter_heap W0 s 0
      simpa using this
  case round =>
    obtain ⟨pos, acc, hI, hpp, hit, hbw, hacc, hal⟩ := hrel
    have hsz : W0.heap.size < wr.heap.size := (Array.getElem?_eq_some_iff.1 hit).1
    have Hacc := hide hacc
    clear hacc
    by_cases hlt : pos < s.size
    · have hnx : ∀ ty, (Instr.next (.pointer (some ⟨W0.heap.size, 0, none⟩)) true ty).run Tryd.prog wr = _ := fun ty => Lib.run_next_any_at wr W0.heap.size s pos ty hit hlt
      have hwd := Lib.decode_width_pos s pos hlt
      have hmx := dec_max_at s pos
      have hle := dec_in hlt
      have hI2 := hI.iterAt hit (pos + (Utf8.decode s pos).2)
      have hit2 := Lib.iterAt_heap wr W0.heap.size s pos (pos + (Utf8.decode s pos).2) hit
      have hbw2 := Lib.below_iterAt hbw (k := W0.heap.size) (by omega) s (pos + (Utf8.decode s pos).2)
      have HR := hide (runes_at hlt)
      have hsz2 : W0.heap.size < (wr.iterAt W0.heap.size s (pos + (Utf8.decode s pos).2)).heap.size := by rw [Lib.iterAt_size]; exact hsz
      have hc2 : (wr.iterAt W0.heap.size s (pos + (Utf8.decode s pos).2)).cell? ⟨3, 15, none⟩ = some (.int .u8 4) := (hbw2.cell (p := ⟨3, 15, none⟩) h3).trans hc
      go_wp2_with fail
      refine (quoted_any (Utf8.decode s pos).1 (by omega) (by omega) _ (by omega) hc2).mono ?_
      rintro e W1 ⟨rfl, b1⟩
      have hI3 := builder_below b1 hI2
      have hit3 := kept_of_below b1 hit2
      have hbw3 := hbw2.trans (b1.mono (by omega))
      have hq6 := quoL_len ((Utf8.decode s pos).1 : Int)
      have hs1 := b1.size
      have hsl : (⟨(quoL ((Utf8.decode s pos).1 : Int)).toArray⟩ : ByteArray).size = (quoL ((Utf8.decode s pos).1 : Int)).length := by rw [Lib.size_eq]
      have HSL := hide hsl
      clear hsl
      go_wp2_with fail
      refine (writeString w.heap.size w.heap.size _ _ _ hI3 (by rw [Lib.byteCells_length, unhide HSL]; omega) (by omega)).mono ?_
      rintro e W2 ⟨rfl, hI4, b2, k2⟩
      go_wp2
      go_roundw
      case rel =>
        refine ⟨pos + (Utf8.decode s pos).2, acc ++ quoL ((Utf8.decode s pos).1 : Int), ?_, hle, k2.iter hit3 (by omega), hbw3.trans b2, ?_, by simp; omega⟩
        · rw [Lib.byteCells_append]
          exact Or.inr hI4
        · rw [← unhide Hacc, unhide HR]
          simp
      case measure =>
        simp only [World.iterPos, k2.iter hit3 (by omega), hit]
        omega
    · have hnx : ∀ ty, (Instr.next (.pointer (some ⟨W0.heap.size, 0, none⟩)) true ty).run Tryd.prog wr = _ := fun ty => Lib.run_next_end_at wr W0.heap.size s pos ty hit hlt
      go_wp2_with fail
      refine (writeByte w.heap.size w.heap.size _ 34 _ hI (by rw [Lib.byteCells_length]; omega) (by omega)).mono ?_
      rintro e W1 ⟨rfl, hI4, b2, _⟩
      have hs1 := b2.size
      go_wp2_with fail
      refine (Tryd.Builder_String_any_k w.heap.size w.heap.size (acc ++ [34]) _ (by rw [Lib.byteCells_append]; exact Or.inr hI4) (by omega)).mono ?_
      rintro e W2 ⟨rfl, _, b3, _⟩
      go_wp2
      go_ret
      refine ⟨ret_str ?_, (hbw.trans b2).trans b3⟩
      have e1 := unhide Hacc
      rw [drop_end hlt, runes_nil, List.flatMap_nil, List.append_nil] at e1
      rw [e1]
      rfl
end Go.Proofs.YtpblalklenebhaaDoor
