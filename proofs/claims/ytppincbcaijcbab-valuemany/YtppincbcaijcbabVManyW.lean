/-
  chancellaw3.ValueMany: the walk.
-/
import Derived.Test.YtppincbcaijcbabVcU
import Derived.Test.YtppincbcaijcbabVManyP
import Derived.Laws.IdiomStrings
import Derived.Deep.Cut
namespace Go.Proofs.Ytppincbcaijcbab
open Go.RowKit Go.Sort

theorem at7_block {w : World} {b : Nat} {r : R7} (h : w.heap[b]? = some (.cells r.cells.toArray 28 (0, 0))) : At7 w b 0 r :=
  ⟨by rw [cell_of_block h]; rfl, by rw [cell_of_block h]; rfl, by rw [cell_of_block h]; rfl, by rw [cell_of_block h]; rfl, by rw [cell_of_block h]; rfl, by rw [cell_of_block h]; rfl, by rw [cell_of_block h]; rfl⟩

/-- The cells of a value that was just laid. -/
theorem news_at (w : World) (r : R7) (n : Nat) (hn : n = w.heap.size) : ∀ j u, r.cells[j]? = some u → (w.alloc (.cells #[.int .i64 r.k, .bool r.b, .int .i64 r.n, .string r.s, .string r.t, .string r.i, .slice r.lo r.ll r.lc] 28)).cell? ((⟨n, 0, none⟩ : Addr).add j) = some u := by
  intro j u hj
  rw [Addr.add_lit, Nat.zero_add, World.cell?_alloc_at _ _ _ _ hn]
  simpa [R7.cells] using hj

set_option maxHeartbeats 4000000 in
set_option maxRecDepth 1000000 in
theorem many_walk (n0 : Int) (tw : Bool) (kind : Int) (w : World) :
    Calls Try.prog 3 #[.int .i64 n0, .bool tw, .int .i64 kind] w fun e w' => e = .returned (.bool true) ∧ Below w.heap.size w w' := by
  obtain ⟨i0, hi, hz0, hz1, hz2⟩ := info_parts infoValue
  have K := known3_any
  have W := within3_any n0 14 (by decide) (by decide)
  obtain ⟨n, hn⟩ : ∃ n : Nat, (n : Int) = n0 % 14 := ⟨(n0 % 14).toNat, by omega⟩
  have hn14 : n < 14 := by omega
  rw [← hn] at W
  clear hn
  obtain ⟨sb, hsb⟩ : ∃ sb : Bool, (kind.tmod 2 == 1) = sb := ⟨_, rfl⟩
  go_enter Try.func3, Try.ntmps3
  go_wp2_with fail
  refine (K _).mono ?_
  rintro e w1 ⟨rfl, b1⟩
  go_wp2_with fail
  refine (W _).mono ?_
  rintro e w1' ⟨rfl, rfl⟩
  go_wp2_with fail
  go_loopw [7, 8] (fun lv iv wr => ∃ j : Nat, j ≤ n ∧ iv = .int .i64 j ∧ Below w.heap.size w wr ∧ wr.ownsRow w.heap.size 28 7 lv (all2 sb tw j).length (cellsOf (all2 sb tw j))) (fun _ iv _ => n - (intOf iv).toNat)
  case atStart => exact ⟨0, Nat.zero_le _, rfl, b1, World.ownsRow_nil _ _ _ _⟩
  case round =>
    obtain ⟨j, hj, rfl, hbw, hown⟩ := hrel
    by_cases hlt : j < n
    · have i1 : (j : Int) < (n : Int) := by omega
      have hlen := all2_len sb tw j
      have Hs := hide (all2_snoc sb tw j)
      have HQ := hide (show cellsOf [itm sb j] = (ofP (itm sb j)).cells from by simp [cellsOf])
      obtain ⟨Q, hQ⟩ : ∃ Q, Q = all2 sb tw j := ⟨_, rfl⟩
      rw [← hQ] at hown hlen Hs
      clear hQ
      cases sb
      · have hbf := hsb
        generalize hr : ofP (itm false j) = r at *
        have hrv : r = ⟨2, false, (j : Int), ba [], ba [], ba [], none, 0, 0⟩ := by rw [← hr]; rfl
        clear hr
        have b3 : Below w.heap.size w (wr.alloc (.cells #[.int .i64 2, .bool false, .int .i64 j, .string ⟨#[]⟩, .string ⟨#[]⟩, .string ⟨#[]⟩, .slice none 0 0] 28)) := hbw.alloc hbw.size _
        have hown3 := hown.alloc (.cells #[.int .i64 2, .bool false, .int .i64 j, .string ⟨#[]⟩, .string ⟨#[]⟩, .string ⟨#[]⟩, .slice none 0 0] 28)
        have hblk : (wr.alloc (.cells #[.int .i64 2, .bool false, .int .i64 j, .string ⟨#[]⟩, .string ⟨#[]⟩, .string ⟨#[]⟩, .slice none 0 0] 28)).heap[wr.heap.size]? = some (.cells r.cells.toArray 28 (0, 0)) := by rw [hrv]; exact heap_alloc_new wr _
        have z3 := size1 wr (.cells #[.int .i64 2, .bool false, .int .i64 j, .string ⟨#[]⟩, .string ⟨#[]⟩, .string ⟨#[]⟩, .slice none 0 0] 28)
        go_upto_region 11 with fail
        have A3 := at7_block hblk
        generalize w3e : wr.alloc (.cells #[.int .i64 2, .bool false, .int .i64 j, .string ⟨#[]⟩, .string ⟨#[]⟩, .string ⟨#[]⟩, .slice none 0 0] 28) = w3 at *
        clear w3e hrv
        have HB := hide hblk
        clear hblk
        have Z3 := hide z3
        clear z3
        obtain ⟨a0, a1, a2, a3, a4, a5, a6⟩ := A3
        simp only [Nat.zero_add] at a1 a2 a3 a4 a5 a6
        go_wp2_with (at_builtin; refine wpList_append_own _ rfl _ _ 24 rfl w.heap.size 28 i0 _ 7 96 Try.underlying24 hi hz0 hz1 hz2 rfl (by decide) _ _ _ rfl (hown3.alloc _) ⟨w3.heap.size, 0, none⟩ 1 1 r.cells rfl rfl ?c1 ?c2 ?c3 ?c4 ?c5 ?_)
        case c1 => exact news_at w3 r _ rfl
        case c2 => exact cells_one r
        case c3 => unfold maxLen; omega
        case c4 => omega
        case c5 => have := b3.size; simp; omega
        intro v6 w6 hown6 hgrow _
        have b6 : Below w.heap.size w w6 := (b3.alloc b3.size _).grown hgrow (by have := b3.size; simp; omega) (fun k hk => (hown3.lt k hk).1)
        have hblk6 : w6.heap[wr.heap.size]? = some (.cells r.cells.toArray 28 (0, 0)) := by
          have z3 := unhide Z3
          rw [hgrow.block wr.heap.size (by rw [size1]; omega) (fun h => by have := hown.lt _ h.symm; omega), Lib.alloc_old w3 _ _ (by omega)]
          exact unhide HB
        clear a0 a1 a2 a3 a4 a5 a6
        have A6 := at7_block hblk6
        have Hown6 := hide hown6
        have HG := hide hgrow
        have z6 : w3.heap.size < w6.heap.size := by have := hgrow.size; rw [size1] at this; omega
        clear hown6 hgrow hblk6
        cases tw
        · clear A6
          go_wp2
          go_roundw
          case rel =>
            refine ⟨j + 1, by omega, by go_num, b6, ?_⟩
            rw [unhide Hs, cellsOf_append, List.length_append]
            have := unhide Hown6
            rw [← unhide HQ] at this
            exact this
          case measure =>
            simp only [intOf]
            omega
        · obtain ⟨a0, a1, a2, a3, a4, a5, a6⟩ := A6
          simp only [Nat.zero_add] at a1 a2 a3 a4 a5 a6
          have hv6 : ∃ ao c, v6 = .slice ao (Q.length + 1) c := by
            rcases (unhide Hown6).2 with ⟨_, h0⟩ | ⟨g, cap, cur, hv, _⟩
            · omega
            · exact ⟨_, _, hv⟩
          obtain ⟨ao6, c6, rfl⟩ := hv6
          go_wp2_with (at_builtin; refine wpList_append_own _ rfl _ _ 24 rfl w.heap.size 28 i0 _ 7 96 Try.underlying24 hi hz0 hz1 hz2 rfl (by decide) _ _ _ rfl ((unhide Hown6).alloc _) ⟨w6.heap.size, 0, none⟩ 1 1 r.cells rfl rfl ?d1 ?d2 ?d3 ?d4 ?d5 ?_)
          case d1 => first | exact news_at w6 r _ rfl | exact fun _ _ h => h
          case d2 => exact cells_one r
          case d3 => unfold maxLen; omega
          case d4 => omega
          case d5 => have := b6.size; simp; omega
          intro v7 w7 hown7 hgrow7 _
          have b7 : Below w.heap.size w w7 := (b6.alloc b6.size _).grown hgrow7 (by have := b6.size; simp; omega) (fun k hk => ((unhide Hown6).lt k hk).1)
          have Hown7 := hide hown7
          clear hown7 hgrow7 a0 a1 a2 a3 a4 a5 a6
          go_wp2
          go_roundw
          case rel =>
            refine ⟨j + 1, by omega, by go_num, b7, ?_⟩
            rw [unhide Hs, cellsOf_append, List.length_append]
            have e : cellsOf [itm false j, itm false j] = r.cells ++ r.cells := by rw [show [itm false j, itm false j] = [itm false j] ++ [itm false j] from rfl, cellsOf_append, unhide HQ]
            show w7.ownsRow _ _ 7 v7 (Q.length + 2) (cellsOf Q ++ cellsOf [itm false j, itm false j])
            rw [e]
            exact unhide Hown7
          case measure =>
            simp only [intOf]
            omega
      · have hbf := hsb
        generalize hr : ofP (itm true j) = r at *
        obtain ⟨c, hc⟩ : ∃ c, c = UInt8.ofNat (97 + j) := ⟨_, rfl⟩
        have hcn : (c.toNat : Int) = 97 + (j : Int) := by
          rw [hc, UInt8.toNat_ofNat']
          omega
        have hrv : r = ⟨3, false, 0, ⟨#[c]⟩, ba [], ba [], none, 0, 0⟩ := by rw [← hr, hc]; rfl
        clear hr hc
        have hcv : ∀ W : World, W.cell? ⟨wr.heap.size + 1, 0, none⟩ = some (.int .u8 (97 + (j : Int))) → (convert 29 9 (.slice (some ⟨wr.heap.size + 1, 0, none⟩) 1 1)).run Try.prog W = .ok (.string ⟨#[c]⟩) W := fun W hW => by
          refine run_convert_bytes_back _ 29 9 5 ⟨wr.heap.size + 1, 0, none⟩ 1 [c] Try.underlying29 Try.underlying5 Try.underlying9 ?_
          intro k hk
          have hk0 : k = 0 := by simpa using hk
          subst hk0
          show _ = some (Value.int .u8 ((c.toNat : Nat) : Int))
          rw [hcn]
          simpa [Addr.add] using hW
        have hcv1 := hcv _ (World.cell?_alloc_at (w := wr.alloc (.cells #[.int .i64 2, .bool false, .int .i64 j, .string ⟨#[]⟩, .string ⟨#[]⟩, .string ⟨#[]⟩, .slice none 0 0] 28)) #[.int .u8 (97 + (j : Int))] 5 (wr.heap.size + 1) 0 (by simp))
        have hj97 : (97 : Int) + (j : Int) < 256 := by omega
        clear hcv
        have Hcn := hide hcn
        clear hcn
        go_upto_region 11 with fail
        have b3 : Below w.heap.size w ((wr.alloc (.cells #[.int .i64 3, .bool false, .int .i64 0, .string ⟨#[c]⟩, .string ⟨#[]⟩, .string ⟨#[]⟩, .slice none 0 0] 28)).alloc (.cells #[.int .u8 (97 + (j : Int))] 5)) := (hbw.alloc hbw.size _).alloc (by have := hbw.size; simp; omega) _
        have hown3 : ((wr.alloc (.cells #[.int .i64 3, .bool false, .int .i64 0, .string ⟨#[c]⟩, .string ⟨#[]⟩, .string ⟨#[]⟩, .slice none 0 0] 28)).alloc (.cells #[.int .u8 (97 + (j : Int))] 5)).ownsRow _ _ _ _ _ _ := (hown.alloc (.cells #[.int .i64 3, .bool false, .int .i64 0, .string ⟨#[c]⟩, .string ⟨#[]⟩, .string ⟨#[]⟩, .slice none 0 0] 28)).alloc (.cells #[.int .u8 (97 + (j : Int))] 5)
        have hblk : ((wr.alloc (.cells #[.int .i64 3, .bool false, .int .i64 0, .string ⟨#[c]⟩, .string ⟨#[]⟩, .string ⟨#[]⟩, .slice none 0 0] 28)).alloc (.cells #[.int .u8 (97 + (j : Int))] 5)).heap[wr.heap.size]? = some (.cells r.cells.toArray 28 (0, 0)) := by
          rw [Lib.alloc_old _ _ _ (by simp), hrv]
          exact heap_alloc_new wr _
        have z3 : ((wr.alloc (.cells #[.int .i64 3, .bool false, .int .i64 0, .string ⟨#[c]⟩, .string ⟨#[]⟩, .string ⟨#[]⟩, .slice none 0 0] 28)).alloc (.cells #[.int .u8 (97 + (j : Int))] 5)).heap.size = wr.heap.size + 2 := by simp
        clear hcv1
        have A3 := at7_block hblk
        generalize w3e : (wr.alloc (.cells #[.int .i64 3, .bool false, .int .i64 0, .string ⟨#[c]⟩, .string ⟨#[]⟩, .string ⟨#[]⟩, .slice none 0 0] 28)).alloc (.cells #[.int .u8 (97 + (j : Int))] 5) = w3 at *
        clear w3e hrv
        have HB := hide hblk
        clear hblk
        have Z3 := hide z3
        clear z3
        obtain ⟨a0, a1, a2, a3, a4, a5, a6⟩ := A3
        simp only [Nat.zero_add] at a1 a2 a3 a4 a5 a6
        go_wp2_with (at_builtin; refine wpList_append_own _ rfl _ _ 24 rfl w.heap.size 28 i0 _ 7 96 Try.underlying24 hi hz0 hz1 hz2 rfl (by decide) _ _ _ rfl (hown3.alloc _) ⟨w3.heap.size, 0, none⟩ 1 1 r.cells rfl rfl ?c1 ?c2 ?c3 ?c4 ?c5 ?_)
        case c1 => exact news_at w3 r _ rfl
        case c2 => exact cells_one r
        case c3 => unfold maxLen; omega
        case c4 => omega
        case c5 => have := b3.size; simp; omega
        intro v6 w6 hown6 hgrow _
        have b6 : Below w.heap.size w w6 := (b3.alloc b3.size _).grown hgrow (by have := b3.size; simp; omega) (fun k hk => (hown3.lt k hk).1)
        have hblk6 : w6.heap[wr.heap.size]? = some (.cells r.cells.toArray 28 (0, 0)) := by
          have z3 := unhide Z3
          rw [hgrow.block wr.heap.size (by rw [size1]; omega) (fun h => by have := hown.lt _ h.symm; omega), Lib.alloc_old w3 _ _ (by omega)]
          exact unhide HB
        clear a0 a1 a2 a3 a4 a5 a6
        have A6 := at7_block hblk6
        have Hown6 := hide hown6
        have HG := hide hgrow
        have z6 : w3.heap.size < w6.heap.size := by have := hgrow.size; rw [size1] at this; omega
        clear hown6 hgrow hblk6
        cases tw
        · clear A6
          go_wp2
          go_roundw
          case rel =>
            refine ⟨j + 1, by omega, by go_num, b6, ?_⟩
            rw [unhide Hs, cellsOf_append, List.length_append]
            have := unhide Hown6
            rw [← unhide HQ] at this
            exact this
          case measure =>
            simp only [intOf]
            omega
        · obtain ⟨a0, a1, a2, a3, a4, a5, a6⟩ := A6
          simp only [Nat.zero_add] at a1 a2 a3 a4 a5 a6
          have hv6 : ∃ ao c, v6 = .slice ao (Q.length + 1) c := by
            rcases (unhide Hown6).2 with ⟨_, h0⟩ | ⟨g, cap, cur, hv, _⟩
            · omega
            · exact ⟨_, _, hv⟩
          obtain ⟨ao6, c6, rfl⟩ := hv6
          go_wp2_with (at_builtin; refine wpList_append_own _ rfl _ _ 24 rfl w.heap.size 28 i0 _ 7 96 Try.underlying24 hi hz0 hz1 hz2 rfl (by decide) _ _ _ rfl ((unhide Hown6).alloc _) ⟨w6.heap.size, 0, none⟩ 1 1 r.cells rfl rfl ?d1 ?d2 ?d3 ?d4 ?d5 ?_)
          case d1 => first | exact news_at w6 r _ rfl | exact fun _ _ h => h
          case d2 => exact cells_one r
          case d3 => unfold maxLen; omega
          case d4 => omega
          case d5 => have := b6.size; simp; omega
          intro v7 w7 hown7 hgrow7 _
          have b7 : Below w.heap.size w w7 := (b6.alloc b6.size _).grown hgrow7 (by have := b6.size; simp; omega) (fun k hk => ((unhide Hown6).lt k hk).1)
          have Hown7 := hide hown7
          clear hown7 hgrow7 a0 a1 a2 a3 a4 a5 a6
          go_wp2
          go_roundw
          case rel =>
            refine ⟨j + 1, by omega, by go_num, b7, ?_⟩
            rw [unhide Hs, cellsOf_append, List.length_append]
            have e : cellsOf [itm true j, itm true j] = r.cells ++ r.cells := by rw [show [itm true j, itm true j] = [itm true j] ++ [itm true j] from rfl, cellsOf_append, unhide HQ]
            show w7.ownsRow _ _ 7 v7 (Q.length + 2) (cellsOf Q ++ cellsOf [itm true j, itm true j])
            rw [e]
            exact unhide Hown7
          case measure =>
            simp only [intOf]
            omega
    · have i1 : ¬ (j : Int) < (n : Int) := by omega
      obtain rfl : j = n := by omega
      obtain ⟨ao, cap, rfl, hrow⟩ := rowV_own hown
      have hlen := all2_len sb tw j
      have S := set_plain (all2 sb tw j) ao cap wr (by omega) hrow (all2_kind sb tw j)
      clear hown hrow
      go_wp2_with fail
      refine S.mono ?_
      clear S
      rintro e w2 ⟨b2, h2⟩
      have b02 := hbw.trans (b2.mono hbw.size)
      rw [all2_set sb tw j (by omega), itms_len] at h2
      rcases h2 with ⟨h8, ao', c', rfl, hown2⟩ | ⟨h8, rfl⟩
      · have i8 : ¬ (8 : Int) < (j : Int) := by omega
        obtain ⟨ao2, c2, e2, hrow2⟩ := rowV_own (l := itms sb j) (by rw [itms_len]; exact hown2)
        rw [itms_len] at e2
        cases e2
        have C := fun w' hr => vcheck_made (itms sb j) ao' c' w' (by rw [itms_len]; exact h8) (itms_kind sb j) (itms_chk sb j (by omega)) (itms_small sb j) (itms_rising sb j (by omega)) hr
        rw [itms_len] at C
        clear hown2
        unfold setR R7.val at C ⊢
        simp only at C ⊢
        go_wp2_with fail
        have b3 := below1 w2 (.cells #[.int .i64 5, .bool false, .int .i64 0, .string (ba []), .string (ba []), .string (ba []), .slice ao' j c'] 28)
        refine (C _ (hrow2.below b3)).mono ?_
        clear C
        rintro e w4 ⟨rfl, b4⟩
        have b03 := b02.trans (b3.mono b02.size)
        go_wp2
        go_ret
        exact ⟨rfl, b03.trans (b4.mono b03.size)⟩
      · have i8 : (8 : Int) < (j : Int) := by omega
        unfold zero7 R7.val
        simp only
        go_wp2
        go_ret
        exact ⟨rfl, b02.alloc b02.size _⟩
end Go.Proofs.Ytppincbcaijcbab
