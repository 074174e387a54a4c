/-
  chancellaw10.SchemaBounds: the walk, case 3.
-/
import Derived.Test.YtckjafmnaffggaaSb2A
import Derived.Maps.AppendAt
import Derived.Deep.Cut
namespace Go.Proofs.Ytckjafmnaffggaa
open Go.RowKit Go.Sort
def sb3Sp (S : Nat) (sv lv : Value) : Nat → Value → World → Prop
  | 0, v, _ => v = .pointer (some ⟨S, 0, none⟩)
  | 1, v, _ => v = sv
  | 2, v, _ => v = .pointer (some ⟨S, 0, none⟩)
  | 3, v, _ => v = sv
  | 4, v, _ => v = .pointer (some ⟨S + 1, 0, none⟩)
  | 5, v, _ => v = .pointer (some ⟨S + 1, 1, none⟩)
  | 6, v, _ => v = lv
  | 7, _, _ => True
  | 8, _, _ => True
  | 9, v, _ => v = .pointer (some ⟨S + 1, 0, none⟩)
  | 10, v, _ => v = .pointer (some ⟨S + 1, 1, none⟩)
  | _ + 11, _, _ => True
theorem sb3Sp_up {S : Nat} {sv lv : Value} {w w' : World} : ∀ i u, sb3Sp S sv lv i u w → sb3Sp S sv lv i u w'
  | 0, _, h | 1, _, h | 2, _, h | 3, _, h | 4, _, h | 5, _, h | 6, _, h | 7, _, h | 8, _, h | 9, _, h | 10, _, h => h
  | _ + 11, _, _ => trivial
theorem small_s3 (m : Nat) (hm : m < 4) : SmallAll (s3 m) := small_of (by show 1 ≤ _; omega) (Nat.zero_le _) (fun k h => by
    rw [List.mem_singleton.1 h]
    exact ⟨by show 1 ≤ _; omega, by show (pLs (3 + m)).length ≤ _; rw [pLs_len]; omega, Nat.zero_le _, fun _ h => absurd h (Nat.not_lt_zero _)⟩) (fun _ h => by cases h)
theorem is_s3 {w : World} {ao : Option Addr} {cap m K : Nat} (hK : w.heap[K]? = some (.cells #[.string ⟨#[65]⟩, .slice ao (3 + m) cap, .slice none 0 0] 42 (0, 0))) (h : RowG w ao 1 ((pLs (3 + m)).map strC)) : IsS w (.agg #[.slice (some ⟨K, 0, none⟩) 1 1, .slice none 0 0]) (s3 m) :=
  ⟨⟨_, 1, none, 0, by simp [s3], ⟨⟨[⟨⟨#[65]⟩, ao, 3 + m, cap, none, 0, 0⟩], rfl, rowG_block _ hK rfl (fun x hx => by rw [List.mem_singleton.1 hx]; rfl), fun j h1 h2 => by
    obtain rfl : j = 0 := by simpa using h1
    exact ⟨rfl, by show 3 + m = (pLs (3 + m)).length; rw [pLs_len], h, rfl, rowF_nil _ _⟩⟩⟩, isAs_nil _ _⟩⟩

set_option maxHeartbeats 8000000 in
set_option maxRecDepth 1000000 in
theorem sbounds_3 (which n : Int) (m : Nat) (w : World) (h0 : which % 5 = 3) (hm : n % 4 = (m : Int)) (hm3 : m < 4) :
    Calls Try.prog 6 #[.int .i64 which, .int .i64 n] w fun e w' => e = .returned (.bool true) ∧ Below w.heap.size w w' := by
  obtain ⟨i0, hi, hz0, hz1, hz2⟩ := info_parts infoStr
  have K := known10_any w
  have W1 := fun w' => within10_any n 4 (by decide) (by decide) w'
  have W2 := fun w' => within10_any which 5 (by decide) (by decide) w'
  rw [hm] at W1
  rw [h0] at W2
  clear hm h0
  go_enter Try.func6, Try.ntmps6
  go_wp2_with fail
  refine K.mono ?_
  clear K
  rintro x w1 ⟨rfl, b1⟩
  go_wp2_with fail
  refine (W1 _).mono ?_
  clear W1
  rintro x w1 ⟨rfl, rfl⟩
  go_wp2_with fail
  refine (W2 _).mono ?_
  clear W2
  rintro x w1 ⟨rfl, rfl⟩
  go_wp2
  have b2 := (b1.alloc b1.size (.cells #[.slice (some ⟨w1.heap.size + 1, 0, none⟩) 1 1, .slice none 0 0] 25)).alloc (by have := b1.size; simp; omega) (.cells #[.string ⟨#[65]⟩, .slice none 0 0, .slice none 0 0] 42)
  have H2 : ((w1.alloc (.cells #[.slice (some ⟨w1.heap.size + 1, 0, none⟩) 1 1, .slice none 0 0] 25)).alloc (.cells #[.string ⟨#[65]⟩, .slice none 0 0, .slice none 0 0] 42)).heap[w1.heap.size]? = some (.cells #[.slice (some ⟨w1.heap.size + 1, 0, none⟩) 1 1, .slice none 0 0] 25 (0, 0)) := by
    rw [Below.heap_alloc _ _ _ (by simp)]
    exact alloc_heap _ _
  have HK2 : ((w1.alloc (.cells #[.slice (some ⟨w1.heap.size + 1, 0, none⟩) 1 1, .slice none 0 0] 25)).alloc (.cells #[.string ⟨#[65]⟩, .slice none 0 0, .slice none 0 0] 42)).heap[w1.heap.size + 1]? = some (.cells #[.string ⟨#[65]⟩, (.slice none 0 0), .slice none 0 0] 42 (0, 0)) := by
    have := alloc_heap (w1.alloc (.cells #[.slice (some ⟨w1.heap.size + 1, 0, none⟩) 1 1, .slice none 0 0] 25)) (.cells #[.string ⟨#[65]⟩, .slice none 0 0, .slice none 0 0] 42)
    simpa using this
  have z1 := b1.size
  have zl : w1.heap.size + 2 = ((w1.alloc (.cells #[.slice (some ⟨w1.heap.size + 1, 0, none⟩) 1 1, .slice none 0 0] 25)).alloc (.cells #[.string ⟨#[65]⟩, .slice none 0 0, .slice none 0 0] 42)).heap.size := by simp
  generalize (w1.alloc _).alloc _ = w2 at *
  go_loopw [9] (fun kv wr => ∃ (k : Nat) (lv : Value), k ≤ 3 + m ∧ kv = .int .i64 k ∧ Below w.heap.size w wr ∧ w2.heap.size ≤ wr.heap.size ∧ wr.heap[w1.heap.size]? = some (.cells #[.slice (some ⟨w1.heap.size + 1, 0, none⟩) 1 1, .slice none 0 0] 25 (0, 0)) ∧ wr.heap[w1.heap.size + 1]? = some (.cells #[.string ⟨#[65]⟩, lv, .slice none 0 0] 42 (0, 0)) ∧ wr.ownsRow w2.heap.size 9 1 lv k ((pLs k).map strC).flatten) (fun kv _ => 3 + m - (intOf kv).toNat)
  case atStart => exact ⟨0, _, by omega, by go_num, b2, Nat.le_refl _, H2, HK2, World.ownsRow_nil _ _ _ _⟩
  case round =>
    clear H2 HK2
    obtain ⟨k, lv, hk, rfl, hbw, hsz, hS, hK, hown⟩ := hrel
    by_cases hlt : k < 3 + m
    · have i1 : (k : Int) < 3 + (m : Int) := by omega
      have Hs := hide (show ((pLs (k + 1)).map strC).flatten = ((pLs k).map strC).flatten ++ [.string ⟨#[65]⟩] by rw [pLs_succ]; simp [strC])
      generalize ((pLs k).map strC).flatten = XX at *
      have hAR0 : ∀ a : Act, AR (⟨w, wr, w2.heap.size, w1.heap.size + 1, 9, 1, fun v => #[.string ⟨#[65]⟩, v, .slice none 0 0], 42, lv, k, XX, [.string ⟨#[65]⟩], 6, 7, 8, 11, 104, 105⟩ : ARp) (fun _ => false) a wr.drew := fun a => AR.start a hbw hK hown
      have HK0 := hide (And.intro hS hK)
      clear hown hK hS
      go_upto_region 27 with fail
      refine wp_specsB 11 (sb3Sp w1.heap.size (.slice (some ⟨w1.heap.size + 1, 0, none⟩) 1 1) lv) (AR (⟨w, wr, w2.heap.size, w1.heap.size + 1, 9, 1, fun v => #[.string ⟨#[65]⟩, v, .slice none 0 0], 42, lv, k, XX, [.string ⟨#[65]⟩], 6, 7, 8, 11, 104, 105⟩ : ARp)) (by kernel_rfl) (by kernel_rfl) (by kernel_rfl) (hAR0 _) ?_ ?_ ?_
      · intro i o hi' ho L a' w' hL hw hR hdep hslot hsz' K hK
        have hS' := (hR.old w1.heap.size (by show _ < w2.heap.size; omega) (by show w1.heap.size ≠ w1.heap.size + 1; omega)).trans (unhide HK0).1
        have cS : w'.cell? ⟨w1.heap.size, 0, none⟩ = some (.slice (some ⟨w1.heap.size + 1, 0, none⟩) 1 1) := by rw [Lib.cell_of_heap hS']; rfl
        clear hAR0
        match i, hi' with
        | 0, _ =>
          cases ho
          have e0 : a'.tmps.getD 5 undef = .pointer (some ⟨w1.heap.size, 0, none⟩) := hslot 5 (by decide)
          unfold Oper.wp
          go_simp
          exact hK _ _ rfl (hR.grow 0 97 _ (show (0 : Nat) ≠ 7 ∧ (0 : Nat) ≠ 8 ∧ (0 : Nat) ≠ 11 from by decide) (show (97 : Nat) ≠ 104 ∧ (97 : Nat) ≠ 105 from by decide) (by show w2.heap.size ≤ _; exact hsz) (Below.refl _ _)) (fun _ _ h => h)
        | 1, _ =>
          cases ho
          have e0 : a'.tmps.getD 97 undef = .pointer (some ⟨w1.heap.size, 0, none⟩) := hdep 0 (by decide) (by kernel_rfl)
          unfold Oper.wp
          go_simp
          exact hK _ _ rfl (hR.grow 1 98 _ (show (1 : Nat) ≠ 7 ∧ (1 : Nat) ≠ 8 ∧ (1 : Nat) ≠ 11 from by decide) (show (98 : Nat) ≠ 104 ∧ (98 : Nat) ≠ 105 from by decide) (by show w2.heap.size ≤ _; exact hsz) (Below.refl _ _)) (fun _ _ h => h)
        | 2, _ =>
          cases ho
          have e0 : a'.tmps.getD 5 undef = .pointer (some ⟨w1.heap.size, 0, none⟩) := hslot 5 (by decide)
          unfold Oper.wp
          go_simp
          exact hK _ _ rfl (hR.grow 2 99 _ (show (2 : Nat) ≠ 7 ∧ (2 : Nat) ≠ 8 ∧ (2 : Nat) ≠ 11 from by decide) (show (99 : Nat) ≠ 104 ∧ (99 : Nat) ≠ 105 from by decide) (by show w2.heap.size ≤ _; exact hsz) (Below.refl _ _)) (fun _ _ h => h)
        | 3, _ =>
          cases ho
          have e0 : a'.tmps.getD 99 undef = .pointer (some ⟨w1.heap.size, 0, none⟩) := hdep 2 (by decide) (by kernel_rfl)
          unfold Oper.wp
          go_simp
          exact hK _ _ rfl (hR.grow 3 100 _ (show (3 : Nat) ≠ 7 ∧ (3 : Nat) ≠ 8 ∧ (3 : Nat) ≠ 11 from by decide) (show (100 : Nat) ≠ 104 ∧ (100 : Nat) ≠ 105 from by decide) (by show w2.heap.size ≤ _; exact hsz) (Below.refl _ _)) (fun _ _ h => h)
        | 4, _ =>
          cases ho
          have e0 : a'.tmps.getD 100 undef = .slice (some ⟨w1.heap.size + 1, 0, none⟩) 1 1 := hdep 3 (by decide) (by kernel_rfl)
          unfold Oper.wp
          go_simp
          exact hK _ _ rfl (hR.grow 4 101 _ (show (4 : Nat) ≠ 7 ∧ (4 : Nat) ≠ 8 ∧ (4 : Nat) ≠ 11 from by decide) (show (101 : Nat) ≠ 104 ∧ (101 : Nat) ≠ 105 from by decide) (by show w2.heap.size ≤ _; exact hsz) (Below.refl _ _)) (fun _ _ h => h)
        | 5, _ =>
          cases ho
          have e0 : a'.tmps.getD 101 undef = .pointer (some ⟨w1.heap.size + 1, 0, none⟩) := hdep 4 (by decide) (by kernel_rfl)
          unfold Oper.wp
          go_simp
          exact hK _ _ rfl (hR.grow 5 102 _ (show (5 : Nat) ≠ 7 ∧ (5 : Nat) ≠ 8 ∧ (5 : Nat) ≠ 11 from by decide) (show (102 : Nat) ≠ 104 ∧ (102 : Nat) ≠ 105 from by decide) (by show w2.heap.size ≤ _; exact hsz) (Below.refl _ _)) (fun _ _ h => h)
        | 6, _ =>
          cases ho
          have e0 : a'.tmps.getD 102 undef = .pointer (some ⟨w1.heap.size + 1, 1, none⟩) := hdep 5 (by decide) (by kernel_rfl)
          have hK6 := hR.kb (hR.noS (hR.noA (.inl hL)))
          have cK : w'.cell? ⟨w1.heap.size + 1, 1, none⟩ = some lv := by rw [Lib.cell_of_heap hK6]; rfl
          unfold Oper.wp
          go_simp
          exact hK _ _ rfl (hR.grow 6 103 _ (show (6 : Nat) ≠ 7 ∧ (6 : Nat) ≠ 8 ∧ (6 : Nat) ≠ 11 from by decide) (show (103 : Nat) ≠ 104 ∧ (103 : Nat) ≠ 105 from by decide) (by show w2.heap.size ≤ _; exact hsz) (Below.refl _ _)) (fun _ _ h => h)
        | 7, _ =>
          cases ho
          have hG := hide (hR.alloc hL (by rw [hsz']; exact Nat.le_of_ble_eq_true (by kernel_rfl)) (show (8 : Nat) ≠ 7 from by decide) (show (11 : Nat) ≠ 7 from by decide) (by show w2.heap.size ≤ _; exact hsz))
          clear cS hsz'
          unfold Oper.wp
          go_simp
          exact hK _ _ trivial (unhide hG) sb3Sp_up
        | 8, _ =>
          cases ho
          have hLR : L 6 = true := hw 6 (by kernel_rfl)
          have hLN : L 7 = true := hw 7 (by kernel_rfl)
          have e0 : a'.tmps.getD 103 undef = lv := hdep 6 (by decide) (by kernel_rfl)
          obtain ⟨blk, e1, hblk⟩ := hR.new hLN hL
          have hcell : ∀ jj u, ([.string ⟨#[65]⟩] : List Value)[jj]? = some u → w'.cell? ((⟨blk, 0, none⟩ : Addr).add jj) = some u := by
            intro jj u hu
            rw [Addr.add_lit, Nat.zero_add, Lib.cell_of_heap hblk]
            simpa using hu
          obtain ⟨v', w'', hr, hown', hgr, _, _⟩ := run_append_own_at (P := Try.prog) w' w2.heap.size 39 39 9 i0 _ 1 16 Try.underlying39 hi hz0 hz1 hz2 rfl (by decide) lv k XX (hR.row hL) ⟨blk, 0, none⟩ 1 1 [.string ⟨#[65]⟩] rfl hcell (by intro u hu; simp at hu; first | (subst hu; rfl) | (rcases hu with rfl | rfl | rfl | rfl <;> rfl)) (by unfold maxLen; omega) (by omega) (by have := hR.size; simp only at this; omega)
          have hs : a'.eval (.tmp 103) = lv := e0
          have hx : a'.eval (.tmp 104) = .slice (some ⟨blk, 0, none⟩) 1 1 := e1
          unfold Oper.wp execOp
          simp only [resolve, invoke, builtin, Sem.run_bind, Sem.run_pure, Result.andThen_ok, List.map_toArray, List.map_cons, List.map_nil, hs, hx, hr]
          exact hK _ _ trivial (hR.appd hL hLR hLN (by rw [hsz']; exact Nat.le_of_ble_eq_true (by kernel_rfl)) (show (11 : Nat) ≠ 8 from by decide) (by show w2.heap.size ≤ _; exact hsz) (by show w1.heap.size + 1 < w2.heap.size; omega) (by show w.heap.size ≤ w2.heap.size; omega) hown' hgr) sb3Sp_up
        | 9, _ =>
          cases ho
          have e0 : a'.tmps.getD 98 undef = .slice (some ⟨w1.heap.size + 1, 0, none⟩) 1 1 := hdep 1 (by decide) (by kernel_rfl)
          unfold Oper.wp
          go_simp
          exact hK _ _ rfl (hR.grow 9 106 _ (show (9 : Nat) ≠ 7 ∧ (9 : Nat) ≠ 8 ∧ (9 : Nat) ≠ 11 from by decide) (show (106 : Nat) ≠ 104 ∧ (106 : Nat) ≠ 105 from by decide) (by show w2.heap.size ≤ _; exact hsz) (Below.refl _ _)) (fun _ _ h => h)
        | 10, _ =>
          cases ho
          have e0 : a'.tmps.getD 106 undef = .pointer (some ⟨w1.heap.size + 1, 0, none⟩) := hdep 9 (by decide) (by kernel_rfl)
          unfold Oper.wp
          go_simp
          exact hK _ _ rfl (hR.grow 10 107 _ (show (10 : Nat) ≠ 7 ∧ (10 : Nat) ≠ 8 ∧ (10 : Nat) ≠ 11 from by decide) (show (107 : Nat) ≠ 104 ∧ (107 : Nat) ≠ 105 from by decide) (by show w2.heap.size ≤ _; exact hsz) (Below.refl _ _)) (fun _ _ h => h)
        | i + 11, h => exact absurd h (by omega)
      · intro i o hi' ho L a' w' hL hw hR hdep K hK
        have : i = 11 := by
          have h := (List.getElem?_eq_some_iff.1 ho).1
          simp only [List.length_cons, List.length_nil] at h
          omega
        subst this
        cases ho
        have hA : L 8 = true := hw 8 (by kernel_rfl)
        obtain ⟨ao7, n7, c7, e1, hST⟩ := hR.stor hL hA (show (7 : Nat) ≠ 11 from by decide) (show (8 : Nat) ≠ 11 from by decide) (by show w.heap.size ≤ w1.heap.size + 1; omega) (by show w1.heap.size + 1 < w2.heap.size; omega) 1 (fun _ => rfl)
        have hST := hide hST
        have e2 : a'.tmps.getD 107 undef = .pointer (some ⟨w1.heap.size + 1, 1, none⟩) := hdep 10 (by decide) (by kernel_rfl)
        have e1 : a'.tmps.getD 105 undef = .slice ao7 n7 c7 := e1
        have hkb := hR.kb hL
        have x6 : w'.cell? ⟨w1.heap.size + 1, 1, none⟩ = some lv := by rw [Lib.cell_of_heap hkb]; rfl
        have f6 : w'.frozen? ⟨w1.heap.size + 1, 1, none⟩ = false := Lib.frozen_of_heap hkb 1
        have hup : ∀ j u, sb3Sp w1.heap.size (.slice (some ⟨w1.heap.size + 1, 0, none⟩) 1 1) lv j u w' → sb3Sp w1.heap.size (.slice (some ⟨w1.heap.size + 1, 0, none⟩) 1 1) lv j u (w'.setCell ⟨w1.heap.size + 1, 1, none⟩ (.slice ao7 n7 c7)) := sb3Sp_up
        have HUP := hide hup
        clear hkb hup hAR0
        unfold Oper.wp
        go_simp
        exact hK _ (unhide hST) (unhide HUP) undef
      · intro v L w5 hall hR hsp
        obtain ⟨ao7, n7, c7, _, hown7, hk7⟩ := hR.app (hall 8 (by decide))
        have hk7 := hk7 (hall 11 (by decide))
        have hS7 := (hR.old w1.heap.size (by show _ < w2.heap.size; omega) (by show w1.heap.size ≠ w1.heap.size + 1; omega)).trans (unhide HK0).1
        have b7 : Below w.heap.size w w5 := hR.below
        have z7 : w2.heap.size ≤ w5.heap.size := Nat.le_trans hsz hR.size
        have HV := hide (And.intro hS7 (And.intro hk7 hown7))
        clear hS7 hk7 hown7 hAR0
        have e0 : v 0 = _ := hsp 0 (by decide)
        have e1 : v 1 = _ := hsp 1 (by decide)
        have e2 : v 2 = _ := hsp 2 (by decide)
        have e3 : v 3 = _ := hsp 3 (by decide)
        have e4 : v 4 = _ := hsp 4 (by decide)
        have e5 : v 5 = _ := hsp 5 (by decide)
        have e6 : v 6 = _ := hsp 6 (by decide)
        have e9 : v 9 = _ := hsp 9 (by decide)
        have e10 : v 10 = _ := hsp 10 (by decide)
        clear hR hall hsp
        simp only [putAll, dstOf, List.getElem?_cons_zero, List.getElem?_cons_succ, Option.bind_some, e0, e1, e2, e3, e4, e5, e6, e9, e10]
        clear e0 e1 e2 e3 e4 e5 e6 e9 e10
        simp only [Act.put, List.setIfInBounds_toArray, List.set_cons_succ, List.set_cons_zero]
        generalize v 7 = v7
        generalize v 8 = v8
        go_wp2
        go_roundw
        case rel => exact ⟨k + 1, .slice ao7 n7 c7, by omega, by go_num, b7, z7, (unhide HV).1, (unhide HV).2.1, by rw [unhide Hs]; exact (unhide HV).2.2⟩
        case measure =>
          simp only [intOf]
          omega
    · obtain rfl : k = 3 + m := by omega
      have i1 : ¬ ((3 + m : Nat) : Int) < 3 + (m : Int) := by omega
      have hown' : wr.ownsRow w2.heap.size 9 1 lv ((pLs (3 + m)).map strC).length ((pLs (3 + m)).map strC).flatten := by rw [List.length_map, pLs_len]; exact hown
      obtain ⟨ao, cap, rfl, hrow, hcap⟩ := rowG_ownS (len1 _) hown'
      rw [List.length_map, pLs_len] at hK hcap
      have c0 : wr.cell? ⟨w1.heap.size, 0, none⟩ = some (.slice (some ⟨w1.heap.size + 1, 0, none⟩) 1 1) := by rw [Lib.cell_of_heap hS]; rfl
      have c1 : wr.cell? ⟨w1.heap.size, 1, none⟩ = some (.slice none 0 0) := by rw [Lib.cell_of_heap hS]; rfl
      have CK := scheck_any (s3 m) _ wr (small_s3 m hm3) (is_s3 hK hrow)
      rw [s3_told m hm3] at CK
      clear hrow hcap hown hown' hS hK
      by_cases h1 : 1 < m
      · have i2 : (1 : Int) < (m : Int) := by omega
        rw [if_pos h1] at CK
        clear h1
        generalize 3 + m = mm at *
        go_wp2_with fail
        refine CK.mono ?_
        rintro x w4 ⟨rfl, b4⟩
        go_wp2
        go_ret
        exact ⟨rfl, hbw.trans (b4.mono hbw.size)⟩
      · have i2 : ¬ (1 : Int) < (m : Int) := by omega
        rw [if_neg h1] at CK
        clear h1
        generalize 3 + m = mm at *
        go_wp2_with fail
        refine CK.mono ?_
        rintro x w4 ⟨rfl, b4⟩
        go_wp2
        go_ret
        exact ⟨rfl, hbw.trans (b4.mono hbw.size)⟩
end Go.Proofs.Ytckjafmnaffggaa
