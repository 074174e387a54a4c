/-
  chancelref4.next of a quoted text, and of any token: what it returns.
-/
import Derived.Test.YtfkbbenjmhngcaaDoorLexX
namespace Go.Proofs.YtfkbbenjmhngcaaDoor
open Go.RowKit

/-- The four cells of a token's block. -/
structure Blk4 (w : World) (b : Nat) (v0 v1 v2 v3 : Value) : Prop where
  c0 : w.cell? ⟨b, 0, none⟩ = some v0
  c1 : w.cell? ⟨b, 1, none⟩ = some v1
  c2 : w.cell? ⟨b, 2, none⟩ = some v2
  c3 : w.cell? ⟨b, 3, none⟩ = some v3
  f : ∀ o, w.frozen? ⟨b, o, none⟩ = false
theorem blk4_of {w : World} {b : Nat} {v0 v1 v2 v3 : Value} {t : TypeId} (h : w.heap[b]? = some (.cells #[v0, v1, v2, v3] t (0, 0))) : Blk4 w b v0 v1 v2 v3 :=
  ⟨by rw [Lib.cell_of_heap h]; rfl, by rw [Lib.cell_of_heap h]; rfl, by rw [Lib.cell_of_heap h]; rfl, by rw [Lib.cell_of_heap h]; rfl, fun o => Lib.frozen_of_heap h o⟩

set_option maxHeartbeats 4000000 in
set_option maxRecDepth 1000000 in
theorem next_str (s : ByteArray) (i : Nat) (hlt : i < s.size) (hs : s.size ≤ 1048576) (h00 : letB s[i] = false) (h0 : dgB s[i] = false) (h34 : (s[i].toNat : Int) = 34) (w : World) :
    Calls Tryd.prog 26 #[.string s, .int .i64 i] w (NextPost (s.data.toList.drop i) i w) := by
  have j1 : (i : Int) < (s.size : Int) := by omega
  have L0 := letter_any (s[i].toNat : Int)
  rw [show letR (s[i].toNat : Int) = false from h00] at L0
  have F0 := figure_any (s[i].toNat : Int)
  rw [show digR (s[i].toNat : Int) = false from h0] at F0
  have e34 : ((s[i].toNat : Int) == 34) = true := by simpa using h34
  have htk : tokL (s.data.toList.drop i) = strT (s.data.toList.drop i) := by
    rw [tokL, show (s.data.toList.drop i).getD 0 0 = s[i] by rw [drop_at s i hlt]; rfl, h00, if_neg (by simp), h0, if_neg (by simp), if_pos h34]
  obtain ⟨rest, hrest⟩ : ∃ rest : ByteArray, rest = s.extract i s.size := ⟨_, rfl⟩
  have hrl : rest.data.toList = s.data.toList.drop i := by rw [hrest]; exact rest_list s i
  have hsl : ∀ W, (Instr.slice 9 (.string s) (some (.int .i64 (i : Int))) none none).run Tryd.prog W = .ok (.string rest) W := fun W => by
    have := run_slice_string_l W 9 s Tryd.underlying9 .i64 (i : Int) (by omega) (by omega)
    rw [this, Int.toNat_natCast, hrest]
  have hrs : rest.size ≤ 1048576 := by rw [Lib.size_eq, hrl, List.length_drop, ← Lib.size_eq]; omega
  have R := fun W => rread_any rest W (by omega)
  rw [← hrl] at htk ⊢
  obtain ⟨x, hx⟩ : ∃ x : ByteArray, x = ⟨(rd rest.data.toList).1.toArray⟩ := ⟨_, rfl⟩
  have hxl : (rd rest.data.toList).1 = x.data.toList := by rw [hx]
  rw [← hx] at R
  have hxs : x.size ≤ 4194304 := by rw [Lib.size_eq, ← hxl]; have := rd_len rest.data.toList; rw [← Lib.size_eq] at this; omega
  have b2 := two_new w (.cells #[.int .i64 0, .string ⟨#[]⟩, .int .i64 0, .int .i64 0] 55) (.cells #[.int .i64 0, .string ⟨#[]⟩, .int .i64 0, .int .i64 i] 55)
  have hA2 : ((w.alloc (.cells #[.int .i64 0, .string ⟨#[]⟩, .int .i64 0, .int .i64 0] 55)).alloc (.cells #[.int .i64 0, .string ⟨#[]⟩, .int .i64 0, .int .i64 i] 55)).heap[w.heap.size]? = some (.cells #[.int .i64 0, .string ⟨#[]⟩, .int .i64 0, .int .i64 0] 55 (0, 0)) := by
    rw [Lib.alloc_old _ _ _ (by simp)]
    exact alloc_heap w _
  have hB2 : ((w.alloc (.cells #[.int .i64 0, .string ⟨#[]⟩, .int .i64 0, .int .i64 0] 55)).alloc (.cells #[.int .i64 0, .string ⟨#[]⟩, .int .i64 0, .int .i64 i] 55)).heap[w.heap.size + 1]? = some (.cells #[.int .i64 0, .string ⟨#[]⟩, .int .i64 0, .int .i64 i] 55 (0, 0)) := by
    have := alloc_heap (w.alloc (.cells #[.int .i64 0, .string ⟨#[]⟩, .int .i64 0, .int .i64 0] 55)) (.cells #[.int .i64 0, .string ⟨#[]⟩, .int .i64 0, .int .i64 i] 55)
    simpa using this
  by_cases he : (rd rest.data.toList).2.2 = 0
  · obtain ⟨z, _, _, hz, _⟩ := rd_last _ he
    rw [he, hz] at R
    have hok : okL x.data.toList = true := by rw [← hxl]; exact rd_ok _ he
    have RR := fun W => rrunes_row x W (by omega) hok
    by_cases h30 : 30 < (runes x.data.toList).length
    · have hT : tokL rest.data.toList = badT 5 := by rw [htk, strT, if_pos he, hxl, if_pos h30]
      have HT := hide hT
      generalize (runes x.data.toList).length = n at *
      have i3 : (30 : Int) < (n : Int) := by omega
      clear hT htk hxl hx he hz hok hrl hrest h34
      go_enter Tryd.func26, Tryd.ntmps26
      go_wp2_with (first | (go_at_call 45; refine (L0 _).mono ?_; rintro e w' ⟨rfl, rfl⟩) | (go_at_call 46; refine (F0 _).mono ?_; rintro e w' ⟨rfl, rfl⟩))
      generalize (w.alloc _).alloc _ = w2 at *
      refine (R _).mono ?_
      rintro e w3 ⟨rfl, b3⟩
      have hA3 := kept_of_below b3 hA2
      have hB3 := kept_of_below b3 hB2
      have b03 := b2.trans (b3.mono b2.size)
      have hsz3 : w.heap.size + 1 < w3.heap.size := (Array.getElem?_eq_some_iff.1 hB3).1
      clear hA2 hB2 b3 b2
      have hA5 : ((w3.setCell ⟨w.heap.size + 1, 0, none⟩ (.int .i64 3)).setCell ⟨w.heap.size + 1, 1, none⟩ (.string x)).heap[w.heap.size]? = some (.cells #[.int .i64 0, .string ⟨#[]⟩, .int .i64 0, .int .i64 0] 55 (0, 0)) := by
        simp [World.setCell, Array.getElem?_modify, hA3]
      have hB5 : ((w3.setCell ⟨w.heap.size + 1, 0, none⟩ (.int .i64 3)).setCell ⟨w.heap.size + 1, 1, none⟩ (.string x)).heap[w.heap.size + 1]? = some (.cells #[.int .i64 3, .string x, .int .i64 0, .int .i64 i] 55 (0, 0)) := by
        simp [World.setCell, Array.getElem?_modify, hB3]
      have b05 : Below w.heap.size w ((w3.setCell ⟨w.heap.size + 1, 0, none⟩ (.int .i64 3)).setCell ⟨w.heap.size + 1, 1, none⟩ (.string x)) := (b03.setCell (p := ⟨w.heap.size + 1, 0, none⟩) (by show _ ≤ w.heap.size + 1; omega) _).setCell (p := ⟨w.heap.size + 1, 1, none⟩) (by show _ ≤ w.heap.size + 1; omega) _
      obtain ⟨p0, p1, p2, p3, pf⟩ := blk4_of hB3
      go_wp2_with fail
      generalize (w3.setCell _ _).setCell _ _ = w5 at *
      clear p0 p1 p2 p3 pf hA3 hB3 b03 hsz3
      refine (RR _).mono ?_
      rintro e w6 ⟨ao, cap, rfl, _, _, _, b6⟩
      have hA6 := kept_of_below b6 hA5
      have hB6 := kept_of_below b6 hB5
      have b06 := b05.trans (b6.mono b05.size)
      clear hA5 hB5 b6 b05
      obtain ⟨p0, p1, p2, p3, pf⟩ := blk4_of hB6
      obtain ⟨q0, q1, q2, q3, qf⟩ := blk4_of hA6
      clear hA6 hB6
      go_wp2
      refine bodyPost_ret (v := .tuple #[.agg #[.int .i64 3, .string x, .int .i64 0, .int .i64 i], .int .i64 0, .int .i64 5]) (by simp [results, Tryd.results26, go_sem, q0, q1, q2, q3]) rfl ?_
      refine ⟨3, x, 0, 0, by rw [unhide HT]; rfl, fun h => ?_, set4_below b06 (Nat.le_refl _) _ _ _ _⟩
      rw [unhide HT] at h
      cases h
    · have hT : tokL rest.data.toList = ⟨3, x.data.toList, 0, z, 0⟩ := by rw [htk, strT, if_pos he, hxl, if_neg h30, hz, Int.toNat_natCast]
      have HT := hide hT
      generalize (runes x.data.toList).length = n at *
      have i3 : ¬ (30 : Int) < (n : Int) := by omega
      clear hT htk hxl hx he hz hok hrl hrest h34
      go_enter Tryd.func26, Tryd.ntmps26
      go_wp2_with (first | (go_at_call 45; refine (L0 _).mono ?_; rintro e w' ⟨rfl, rfl⟩) | (go_at_call 46; refine (F0 _).mono ?_; rintro e w' ⟨rfl, rfl⟩))
      generalize (w.alloc _).alloc _ = w2 at *
      refine (R _).mono ?_
      rintro e w3 ⟨rfl, b3⟩
      have hA3 := kept_of_below b3 hA2
      have hB3 := kept_of_below b3 hB2
      have b03 := b2.trans (b3.mono b2.size)
      have hsz3 : w.heap.size + 1 < w3.heap.size := (Array.getElem?_eq_some_iff.1 hB3).1
      clear hA2 hB2 b3 b2
      have hA5 : ((w3.setCell ⟨w.heap.size + 1, 0, none⟩ (.int .i64 3)).setCell ⟨w.heap.size + 1, 1, none⟩ (.string x)).heap[w.heap.size]? = some (.cells #[.int .i64 0, .string ⟨#[]⟩, .int .i64 0, .int .i64 0] 55 (0, 0)) := by
        simp [World.setCell, Array.getElem?_modify, hA3]
      have hB5 : ((w3.setCell ⟨w.heap.size + 1, 0, none⟩ (.int .i64 3)).setCell ⟨w.heap.size + 1, 1, none⟩ (.string x)).heap[w.heap.size + 1]? = some (.cells #[.int .i64 3, .string x, .int .i64 0, .int .i64 i] 55 (0, 0)) := by
        simp [World.setCell, Array.getElem?_modify, hB3]
      have b05 : Below w.heap.size w ((w3.setCell ⟨w.heap.size + 1, 0, none⟩ (.int .i64 3)).setCell ⟨w.heap.size + 1, 1, none⟩ (.string x)) := (b03.setCell (p := ⟨w.heap.size + 1, 0, none⟩) (by show _ ≤ w.heap.size + 1; omega) _).setCell (p := ⟨w.heap.size + 1, 1, none⟩) (by show _ ≤ w.heap.size + 1; omega) _
      obtain ⟨p0, p1, p2, p3, pf⟩ := blk4_of hB3
      go_wp2_with fail
      generalize (w3.setCell _ _).setCell _ _ = w5 at *
      clear p0 p1 p2 p3 pf hA3 hB3 b03 hsz3
      refine (RR _).mono ?_
      rintro e w6 ⟨ao, cap, rfl, _, _, _, b6⟩
      have hA6 := kept_of_below b6 hA5
      have hB6 := kept_of_below b6 hB5
      have b06 := b05.trans (b6.mono b05.size)
      clear hA5 hB5 b6 b05
      obtain ⟨p0, p1, p2, p3, pf⟩ := blk4_of hB6
      obtain ⟨q0, q1, q2, q3, qf⟩ := blk4_of hA6
      clear hA6 hB6
      go_wp2
      refine bodyPost_ret (v := .tuple #[.agg #[.int .i64 3, .string x, .int .i64 0, .int .i64 i], .int .i64 z, .int .i64 0]) (by simp [results, Tryd.results26, go_sem, q0, q1, q2, q3]) rfl ?_
      refine ⟨3, x, 0, z, by rw [unhide HT], fun _ => ?_, set4_below b06 (Nat.le_refl _) _ _ _ _⟩
      rw [unhide HT]
      exact ⟨rfl, (ba_of x).symm, rfl, rfl⟩
  · have hT : tokL rest.data.toList = badT (rd rest.data.toList).2.2 := by rw [htk, strT, if_neg he]
    have HT := hide hT
    generalize (rd rest.data.toList).2.2 = er at *
    generalize (rd rest.data.toList).2.1 = z at *
    have e0 : (er == 0) = false := by simpa using he
    have He := hide he
    clear hT htk hxl hx he hrl hrest h34
    go_enter Tryd.func26, Tryd.ntmps26
    go_wp2_with (first | (go_at_call 45; refine (L0 _).mono ?_; rintro e w' ⟨rfl, rfl⟩) | (go_at_call 46; refine (F0 _).mono ?_; rintro e w' ⟨rfl, rfl⟩))
    generalize (w.alloc _).alloc _ = w2 at *
    refine (R _).mono ?_
    rintro e w3 ⟨rfl, b3⟩
    have hA3 := kept_of_below b3 hA2
    have hB3 := kept_of_below b3 hB2
    have b03 := b2.trans (b3.mono b2.size)
    have hsz3 : w.heap.size + 1 < w3.heap.size := (Array.getElem?_eq_some_iff.1 hB3).1
    clear hA2 hB2 b3 b2
    have hA5 : ((w3.setCell ⟨w.heap.size + 1, 0, none⟩ (.int .i64 3)).setCell ⟨w.heap.size + 1, 1, none⟩ (.string x)).heap[w.heap.size]? = some (.cells #[.int .i64 0, .string ⟨#[]⟩, .int .i64 0, .int .i64 0] 55 (0, 0)) := by
      simp [World.setCell, Array.getElem?_modify, hA3]
    have hB5 : ((w3.setCell ⟨w.heap.size + 1, 0, none⟩ (.int .i64 3)).setCell ⟨w.heap.size + 1, 1, none⟩ (.string x)).heap[w.heap.size + 1]? = some (.cells #[.int .i64 3, .string x, .int .i64 0, .int .i64 i] 55 (0, 0)) := by
      simp [World.setCell, Array.getElem?_modify, hB3]
    have b05 : Below w.heap.size w ((w3.setCell ⟨w.heap.size + 1, 0, none⟩ (.int .i64 3)).setCell ⟨w.heap.size + 1, 1, none⟩ (.string x)) := (b03.setCell (p := ⟨w.heap.size + 1, 0, none⟩) (by show _ ≤ w.heap.size + 1; omega) _).setCell (p := ⟨w.heap.size + 1, 1, none⟩) (by show _ ≤ w.heap.size + 1; omega) _
    obtain ⟨p0, p1, p2, p3, pf⟩ := blk4_of hB3
    obtain ⟨q0, q1, q2, q3, qf⟩ := blk4_of hA5
    obtain ⟨r0, r1, r2, r3, rf⟩ := blk4_of hB5
    go_upto_region 21 with fail
    generalize (w3.setCell _ _).setCell _ _ = w5 at *
    clear p0 p1 p2 p3 pf hA3 hB3 b03 hsz3
    go_wp2
    refine bodyPost_ret (v := .tuple #[.agg #[.int .i64 3, .string x, .int .i64 0, .int .i64 i], .int .i64 z, .int .i64 er]) (by simp [results, Tryd.results26, go_sem, q0, q1, q2, q3]) rfl ?_
    refine ⟨3, x, 0, z, by rw [unhide HT]; rfl, fun h => ?_, set4_below b05 (Nat.le_refl _) _ _ _ _⟩
    rw [unhide HT] at h
    exact absurd h (unhide He)

theorem next_any (s : ByteArray) (i : Nat) (hlt : i < s.size) (hs : s.size ≤ 1048576) (w : World) :
    Calls Tryd.prog 26 #[.string s, .int .i64 i] w (NextPost (s.data.toList.drop i) i w) := by
  cases h : letB s[i] with
  | true => exact next_name s i hlt hs h w
  | false =>
    cases hd : dgB s[i] with
    | true => exact next_long s i hlt hs h hd w
    | false =>
      by_cases h34 : (s[i].toNat : Int) = 34
      · exact next_str s i hlt hs h hd h34 w
      · exact next_sign s i hlt hs h hd h34 w
end Go.Proofs.YtfkbbenjmhngcaaDoor
