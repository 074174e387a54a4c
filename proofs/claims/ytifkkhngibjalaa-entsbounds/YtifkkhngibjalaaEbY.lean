/-
  chancellaw8.EntsBounds: the walk, attributes.
-/
import Derived.Test.YtifkkhngibjalaaEbX
namespace Go.Proofs.Ytifkkhngibjalaa
open Go.RowKit Go.Sort

theorem infoAttrB : (Try.prog.info? 41).map (fun i => (i.zero, i.size, i.bytes)) = some (some (.agg #[.string ⟨#[]⟩, .int .i64 0, .bool false, .int .i64 0, .string ⟨#[]⟩, .string ⟨#[]⟩, .string ⟨#[]⟩, .slice none 0 0]), 8, 112) := by kernel_rfl
def ebySp (B k : Nat) (lv : Value) (s : ByteArray) : Nat → Value → World → Prop
  | 0, v, _ => v = .pointer (some ⟨B, 3, none⟩)
  | 1, v, _ => v = lv
  | 2, v, _ => v = .int .i64 k
  | 3, v, _ => v = .string s
  | 4, v, _ => v = .agg #[.int .i64 1, .bool false, .int .i64 0, .string ⟨#[]⟩, .string ⟨#[]⟩, .string ⟨#[]⟩, .slice none 0 0]
  | 5, v, _ => v = .agg #[.string s, .int .i64 1, .bool false, .int .i64 0, .string ⟨#[]⟩, .string ⟨#[]⟩, .string ⟨#[]⟩, .slice none 0 0]
  | 6, v, w => ∃ b, v = .slice (some ⟨b, 0, none⟩) 1 1 ∧ w.heap[b]? = some (.cells #[.string s, .int .i64 1, .bool false, .int .i64 0, .string ⟨#[]⟩, .string ⟨#[]⟩, .string ⟨#[]⟩, .slice none 0 0] 41 (0, 0))
  | _ + 7, _, _ => True
theorem ebySp_up {B k : Nat} {lv : Value} {s : ByteArray} {w w' : World} (hb : Below w.heap.size w w') : ∀ i u, ebySp B k lv s i u w → ebySp B k lv s i u w'
  | 0, _, h | 1, _, h | 2, _, h | 3, _, h | 4, _, h | 5, _, h => h
  | 6, _, ⟨b, e, h⟩ => ⟨b, e, kept_of_below hb h⟩
  | _ + 7, _, _ => trivial

set_option maxHeartbeats 4000000 in
set_option maxRecDepth 1000000 in
theorem ebounds_y (which n : Int) (m : Nat) (w : World) (h0 : (which.tmod 3 == 0) = false) (h1 : (which.tmod 3 == 1) = false) (hn : ¬ n < 0) (hm : n.tmod 4 = (m : Int)) (hm3 : m ≤ 3) :
    Calls Try.prog 5 #[.int .i64 which, .int .i64 n] w fun e w' => e = .returned (.bool true) ∧ Below w.heap.size w w' := by
  obtain ⟨i0, hi, hz0, hz1, hz2⟩ := info_parts infoAttrB
  have K := known8_any w
  go_enter Try.func5, Try.ntmps5
  go_wp2_with fail
  refine K.mono ?_
  clear K
  rintro x w1 ⟨rfl, b1⟩
  go_wp2
  have b2 := b1.alloc b1.size (.cells #[.string ⟨#[84]⟩, .string ⟨#[97]⟩, .slice none 0 0, .slice none 0 0] 34)
  have H2 := alloc_heap w1 (.cells #[.string ⟨#[84]⟩, .string ⟨#[97]⟩, .slice none 0 0, .slice none 0 0] 34)
  have z2 := size1 w1 (.cells #[.string ⟨#[84]⟩, .string ⟨#[97]⟩, .slice none 0 0, .slice none 0 0] 34)
  have z1 := b1.size
  generalize w1.alloc _ = w2 at *
  have zl : w1.heap.size < w2.heap.size := by omega
  clear z2
  go_loopw [9] (fun kv wr => ∃ (k : Nat) (lv : Value), k ≤ 4 + m ∧ kv = .int .i64 k ∧ Below w.heap.size w wr ∧ w2.heap.size ≤ wr.heap.size ∧ wr.heap[w1.heap.size]? = some (.cells #[.string ⟨#[84]⟩, .string ⟨#[97]⟩, .slice none 0 0, lv] 34 (0, 0)) ∧ wr.ownsRow w2.heap.size 41 8 lv k ((aLs k).map A8.cells).flatten) (fun kv _ => 4 + m - (intOf kv).toNat)
  case atStart => exact ⟨0, _, by omega, rfl, b2, Nat.le_refl _, H2, World.ownsRow_nil _ _ _ _⟩
  case round =>
    obtain ⟨k, lv, hk, rfl, hbw, hsz, hB, hown⟩ := hrel
    by_cases hlt : k < 4 + m
    · have i1 : (k : Int) < 4 + (m : Int) := by omega
      have L := fun w' => letter8_any k (by omega) w'
      have Hs := hide (show ((aLs (k + 1)).map A8.cells).flatten = ((aLs k).map A8.cells).flatten ++ (aL k).cells by rw [aLs_succ]; simp)
      have hec : (aL k).cells = [.string (letS k), .int .i64 1, .bool false, .int .i64 0, .string ⟨#[]⟩, .string ⟨#[]⟩, .string ⟨#[]⟩, .slice none 0 0] := rfl
      rw [hec] at Hs
      clear hec
      generalize letS k = s at *
      go_upto_region 12 with fail
      refine wp_specs_put 7 (ebySp w1.heap.size k lv s) (fun w' => Below wr.heap.size wr w') (by kernel_rfl) (by kernel_rfl) (Below.refl _ wr).drew ?_ ?_
      · intro i o hi' ho a' w' hR hdep hslot K hK
        have hB' := kept_of_below hR hB
        have c0 : w'.cell? ⟨w1.heap.size, 3, none⟩ = some lv := by rw [Lib.cell_of_heap hB']; rfl
        have hc : i = 0 ∨ i = 1 ∨ i = 2 ∨ i = 3 ∨ i = 4 ∨ i = 5 ∨ i = 6 := by omega
        rcases hc with rfl | rfl | rfl | rfl | rfl | rfl | rfl
        · cases ho
          have e : a'.tmps.getD 6 undef = .pointer (some ⟨w1.heap.size, 0, none⟩) := hslot 6 (by decide)
          unfold Oper.wp
          go_simp
          exact hK _ _ rfl hR (fun _ _ h => h)
        · cases ho
          have e : a'.tmps.getD 27 undef = .pointer (some ⟨w1.heap.size, 3, none⟩) := hdep 0 (by kernel_rfl)
          unfold Oper.wp
          go_simp
          exact hK _ _ rfl hR (fun _ _ h => h)
        · cases ho
          have e : a'.tmps.getD 9 undef = .int .i64 k := hslot 9 (by decide)
          unfold Oper.wp
          go_simp
          exact hK _ _ rfl hR (fun _ _ h => h)
        · cases ho
          have e : a'.tmps.getD 29 undef = .int .i64 k := hdep 2 (by kernel_rfl)
          clear c0
          unfold Oper.wp
          go_simp
          refine (L w').mono ?_
          rintro e w3 ⟨rfl, b3⟩
          exact hK _ _ rfl (hR.trans (b3.mono hR.size)) (ebySp_up b3)
        · cases ho
          unfold Oper.wp
          go_simp
          exact hK _ _ rfl hR (fun _ _ h => h)
        · cases ho
          have e1 : a'.tmps.getD 30 undef = .string s := hdep 3 (by kernel_rfl)
          have e1' : a'.tmps[30]?.getD undef = .string s := by simpa using e1
          have e2 : a'.tmps.getD 31 undef = .agg #[.int .i64 1, .bool false, .int .i64 0, .string ⟨#[]⟩, .string ⟨#[]⟩, .string ⟨#[]⟩, .slice none 0 0] := hdep 4 (by kernel_rfl)
          have e2' : a'.tmps[31]?.getD undef = .agg #[.int .i64 1, .bool false, .int .i64 0, .string ⟨#[]⟩, .string ⟨#[]⟩, .string ⟨#[]⟩, .slice none 0 0] := by simpa using e2
          unfold Oper.wp
          go_simp
          exact hK _ _ rfl hR (fun _ _ h => h)
        · cases ho
          have e1 : a'.tmps.getD 32 undef = .agg #[.string s, .int .i64 1, .bool false, .int .i64 0, .string ⟨#[]⟩, .string ⟨#[]⟩, .string ⟨#[]⟩, .slice none 0 0] := hdep 5 (by kernel_rfl)
          have e1' : a'.tmps[32]?.getD undef = .agg #[.string s, .int .i64 1, .bool false, .int .i64 0, .string ⟨#[]⟩, .string ⟨#[]⟩, .string ⟨#[]⟩, .slice none 0 0] := by simpa using e1
          unfold Oper.wp
          go_simp
          exact hK _ _ ⟨w'.heap.size, rfl, alloc_heap _ _⟩ (hR.alloc hR.size _) (ebySp_up (below1 _ _))
      · intro v w' hR hall
        have f0 := hall 0 (by decide)
        have f1 := hall 1 (by decide)
        have f2 := hall 2 (by decide)
        have f3 := hall 3 (by decide)
        have f4 := hall 4 (by decide)
        have f5 := hall 5 (by decide)
        obtain ⟨gb, f6, hgb⟩ := hall 6 (by decide)
        unfold ebySp at f0 f1 f2 f3 f4 f5
        have b3 := hbw.trans (hR.mono hbw.size)
        have hB' := kept_of_below hR hB
        have hown' := own_below hown hR
        have hnb := hown'.lt
        clear hall
        simp only [putAll, dstOf, List.getElem?_cons_zero, List.getElem?_cons_succ, Option.bind_some, List.drop_succ_cons, List.drop_zero, f0, f1, f2, f3, f4, f5, f6]
        clear f0 f1 f2 f3 f4 f5 f6
        simp only [Act.put, List.setIfInBounds_toArray, List.set_cons_succ, List.set_cons_zero]
        have Hown' := hide hown'
        have Hgb := hide hgb
        have HB' := hide hB'
        clear hown' hgb hB' hown hB L
        go_wp2_with (at_builtin; refine wpList_append_own _ rfl _ _ 32 rfl w2.heap.size 41 i0 _ 8 112 Try.underlying32 hi hz0 hz1 hz2 rfl (by decide) _ _ _ rfl (unhide Hown') ⟨gb, 0, none⟩ 1 1 [.string s, .int .i64 1, .bool false, .int .i64 0, .string ⟨#[]⟩, .string ⟨#[]⟩, .string ⟨#[]⟩, .slice none 0 0] rfl rfl ?c1 ?c2 ?c3 ?c4 ?c5 ?_)
        case c1 =>
          intro j u hj
          rw [Addr.add_lit, Nat.zero_add, Lib.cell_of_heap (unhide Hgb)]
          simpa using hj
        case c2 => intro u hu; simp at hu; rcases hu with rfl | rfl | rfl | rfl | rfl | rfl <;> rfl
        case c3 => unfold maxLen; omega
        case c4 => omega
        case c5 => have := hR.size; omega
        intro v6 w6 hown6 hgrow _
        obtain ⟨ao6, n6, c6, rfl⟩ : ∃ a n c, v6 = .slice a n c := by
          rcases hown6.2 with ⟨h, _⟩ | ⟨g, cap, cur, h, _⟩
          · exact ⟨_, _, _, h⟩
          · exact ⟨_, _, _, h⟩
        have b6 : Below w.heap.size w w6 := b3.grown hgrow b3.size (fun j hj => by have := (hnb j hj).1; omega)
        have hB6 : w6.heap[w1.heap.size]? = some (.cells #[.string ⟨#[84]⟩, .string ⟨#[97]⟩, .slice none 0 0, lv] 34 (0, 0)) := by
          rw [hgrow.block w1.heap.size (by have := hR.size; omega) (fun h => by have := (hnb _ h.symm).1; omega)]
          exact unhide HB'
        have x6 : w6.cell? ⟨w1.heap.size, 3, none⟩ = some lv := by rw [Lib.cell_of_heap hB6]; rfl
        have f6 : w6.frozen? ⟨w1.heap.size, 3, none⟩ = false := Lib.frozen_of_heap hB6 3
        have b7 := b6.setCell (p := ⟨w1.heap.size, 3, none⟩) z1 (.slice ao6 n6 c6)
        have hB7 := heap_setCell_same w6 w1.heap.size 3 _ _ (.slice ao6 n6 c6) hB6
        have hown7 : (w6.setCell ⟨w1.heap.size, 3, none⟩ (.slice ao6 n6 c6)).ownsRow w2.heap.size 41 8 (.slice ao6 n6 c6) (k + 1) (((aLs k).map A8.cells).flatten ++ [.string s, .int .i64 1, .bool false, .int .i64 0, .string ⟨#[]⟩, .string ⟨#[]⟩, .string ⟨#[]⟩, .slice none 0 0]) := by
          refine ⟨hown6.1, hown6.2.imp id fun ⟨g, cap, cur, h1, h2, h3, h4⟩ => ⟨g, cap, cur, h1, h2, ?_, h4⟩⟩
          rw [Below.heap_setCell w6 ⟨w1.heap.size, 3, none⟩ (.slice ao6 n6 c6) g (by show g ≠ w1.heap.size; omega)]
          exact h3
        have z7 : w2.heap.size ≤ (w6.setCell ⟨w1.heap.size, 3, none⟩ (.slice ao6 n6 c6)).heap.size := by
          have := hgrow.size
          have := hR.size
          simp
          omega
        have Hown7 := hide hown7
        have HB7 := hide hB7
        clear hown6 hgrow hB6 hown7 hB7
        go_wp2
        go_roundw
        case rel =>
          refine ⟨k + 1, .slice ao6 n6 c6, by omega, by go_num, b7, z7, unhide HB7, ?_⟩
          rw [unhide Hs]
          exact unhide Hown7
        case measure =>
          simp only [intOf]
          omega
    · obtain rfl : k = 4 + m := by omega
      have i1 : ¬ ((4 + m : Nat) : Int) < 4 + (m : Int) := by omega
      have hown' : wr.ownsRow w2.heap.size 41 8 lv ((aLs (4 + m)).map A8.cells).length ((aLs (4 + m)).map A8.cells).flatten := by rw [List.length_map, aLs_len]; exact hown
      obtain ⟨ao, cap, rfl, hrow, hcap, _⟩ := rowG_own (lenA _) hown'
      rw [List.length_map, aLs_len] at hB hcap
      have c0 : wr.cell? ⟨w1.heap.size, 0, none⟩ = some (.string ⟨#[84]⟩) := by rw [Lib.cell_of_heap hB]; rfl
      have c1 : wr.cell? ⟨w1.heap.size, 1, none⟩ = some (.string ⟨#[97]⟩) := by rw [Lib.cell_of_heap hB]; rfl
      have c2 : wr.cell? ⟨w1.heap.size, 2, none⟩ = some (.slice none 0 0) := by rw [Lib.cell_of_heap hB]; rfl
      have c3 : wr.cell? ⟨w1.heap.size, 3, none⟩ = some (.slice ao (4 + m) cap) := by rw [Lib.cell_of_heap hB]; rfl
      have OK : ∀ w', Below wr.heap.size wr w' → EntOk w' ⟨⟨#[84]⟩, ⟨#[97]⟩, none, 0, 0, ao, 4 + m, cap⟩ [] (aLs (4 + m)) (fun _ => 0) := fun w' hb =>
        ⟨small_uL 0, rfl, Nat.zero_le _, rowG_nil _ _ _, fun _ h => (by cases h), by rw [aLs_len], by rw [aLs_len]; omega, hrow.below hb, fun u hu => by obtain ⟨j, _, rfl⟩ := List.mem_map.1 hu; show (1 : Nat) ≤ _; decide, fun u hu => by
          obtain ⟨j, _, rfl⟩ := List.mem_map.1 hu
          intro w'' _
          exact vcheck_flat (ofP (.bool false)) w'' (by decide) (by decide) (by decide) (by decide)⟩
      have hz : chkE (e4u ⟨⟨#[84]⟩, ⟨#[97]⟩, none, 0, 0, ao, 4 + m, cap⟩) [] (aLs (4 + m)) (fun _ => 0) = if 1 < m then 4 else 0 := by
        unfold chkE
        rw [aLs_told _ (by omega), show chk2 (e4u ⟨⟨#[84]⟩, ⟨#[97]⟩, none, 0, 0, ao, 4 + m, cap⟩) = 0 from chk_uL 0 (by decide), show chkRowU [] = 0 from rfl]
        by_cases h : 1 < m
        · rw [if_pos h, if_pos (by omega)]; rfl
        · rw [if_neg h, if_neg (by omega)]; rfl
      have b5 : Below w.heap.size w (wr.alloc (.cells #[.string ⟨#[84]⟩, .string ⟨#[97]⟩, .slice none 0 0, .slice ao (4 + m) cap] 34)) := hbw.alloc hbw.size _
      have CK := echeck_any [⟨⟨#[84]⟩, ⟨#[97]⟩, none, 0, 0, ao, 4 + m, cap⟩] (some ⟨wr.heap.size, 0, none⟩) 1 (fun _ => if 1 < m then 4 else 0) (wr.alloc (.cells #[.string ⟨#[84]⟩, .string ⟨#[97]⟩, .slice none 0 0, .slice ao (4 + m) cap] 34)) (by simp) (row_of_flat (lenE _) (alloc_heap wr (.cells #[.string ⟨#[84]⟩, .string ⟨#[97]⟩, .slice none 0 0, .slice ao (4 + m) cap] 34))) (fun e he => by
        obtain rfl : e = _ := List.mem_singleton.1 he
        exact ⟨[], aLs (4 + m), fun _ => 0, OK _ (below1 _ _), hz.symm⟩)
      rw [rowE_one] at CK
      simp only [List.length_cons, List.length_nil, Nat.zero_add] at CK
      clear OK hz hown hown' hrow hcap hB
      by_cases h1 : 1 < m
      · have CK' := CK
        rw [if_pos h1] at CK'
        have i2 : (1 : Int) < (m : Int) := by omega
        clear CK h1
        generalize 4 + m = mm at *
        go_wp2_with fail
        refine CK'.mono ?_
        rintro x w4 ⟨rfl, b4⟩
        go_wp2
        go_ret
        exact ⟨rfl, b5.trans (b4.mono b5.size)⟩
      · have CK' := CK
        rw [if_neg h1] at CK'
        have i2 : ¬ (1 : Int) < (m : Int) := by omega
        clear CK h1
        generalize 4 + m = mm at *
        go_wp2_with fail
        refine CK'.mono ?_
        rintro x w4 ⟨rfl, b4⟩
        go_wp2
        go_ret
        exact ⟨rfl, b5.trans (b4.mono b5.size)⟩

end Go.Proofs.Ytifkkhngibjalaa
