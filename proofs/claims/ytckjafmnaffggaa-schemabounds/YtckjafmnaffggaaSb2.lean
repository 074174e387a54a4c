/-
  chancellaw10.SchemaBounds: the walk, case 2.
-/
import Derived.Test.YtckjafmnaffggaaSb2A
import Derived.Maps.AppendAt
import Derived.Deep.Cut
namespace Go.Proofs.Ytckjafmnaffggaa
open Go.RowKit Go.Sort
def sb2Sp (S : Nat) (sv lv : Value) (k : Int) (s : ByteArray) : Nat → Value → World → Prop
  | 0, v, _ => v = .pointer (some ⟨S, 0, none⟩)
  | 1, v, _ => v = sv
  | 2, v, _ => v = .pointer (some ⟨S, 0, none⟩)
  | 3, v, _ => v = sv
  | 4, v, _ => v = .pointer (some ⟨S + 1, 0, none⟩)
  | 5, v, _ => v = .pointer (some ⟨S + 1, 2, none⟩)
  | 6, v, _ => v = lv
  | 7, v, _ => v = .int .i64 k
  | 8, v, _ => v = .int .i64 (97 + k)
  | 9, v, _ => v = .int .u8 (97 + k)
  | 10, v, w => ∃ b, v = .slice (some ⟨b, 0, none⟩) 1 1 ∧ w.heap[b]? = some (.cells #[.int .u8 (97 + k)] 5 (0, 0))
  | 11, v, _ => v = .string s
  | 12, v, _ => v = .agg #[.int .i64 1, .int .i64 0, .string ⟨#[]⟩]
  | 13, v, _ => v = .agg #[.string s, .int .i64 1, .int .i64 0, .string ⟨#[]⟩]
  | 14, _, _ => True
  | 15, _, _ => True
  | 16, v, _ => v = .pointer (some ⟨S + 1, 0, none⟩)
  | 17, v, _ => v = .pointer (some ⟨S + 1, 2, none⟩)
  | _ + 18, _, _ => True
theorem sb2Sp_up {S : Nat} {sv lv : Value} {k : Int} {s : ByteArray} {w w' : World} (hb : ∀ b : Nat, w.heap[b]? = some (Obj.cells #[.int .u8 (97 + k)] 5 (0, 0)) → w'.heap[b]? = some (Obj.cells #[.int .u8 (97 + k)] 5 (0, 0))) : ∀ i u, sb2Sp S sv lv k s i u w → sb2Sp S sv lv k s i u w'
  | 0, _, h | 1, _, h | 2, _, h | 3, _, h | 4, _, h | 5, _, h | 6, _, h | 7, _, h | 8, _, h | 9, _, h | 11, _, h | 12, _, h | 13, _, h | 14, _, h | 15, _, h | 16, _, h | 17, _, h => h
  | 10, _, ⟨b, e, h⟩ => ⟨b, e, hb b h⟩
  | _ + 18, _, _ => trivial
theorem small_s2 (m : Nat) (hm : m < 4) : SmallAll (s2 m) := small_of (by show 1 ≤ _; omega) (Nat.zero_le _) (fun k h => by
    rw [List.mem_singleton.1 h]
    refine ⟨by show 1 ≤ _; omega, Nat.zero_le _, by show (fLs (4 + m)).length ≤ _; rw [fLs_len]; omega, fun j h => ?_⟩
    simp only [fLs, List.getElem_map, List.getElem_range]
    show 1 ≤ _
    omega) (fun _ h => by cases h)
theorem len4 (l : List F4) : ∀ c ∈ l.map F4.cells, c.length = 4 := fun c h => by
  obtain ⟨x, _, rfl⟩ := List.mem_map.1 h
  rfl
theorem is_s2 {w : World} {ao : Option Addr} {cap m K : Nat} (hK : w.heap[K]? = some (.cells #[.string ⟨#[65]⟩, .slice none 0 0, .slice ao (4 + m) cap] 42 (0, 0))) (h : RowG w ao 4 ((fLs (4 + m)).map F4.cells)) : IsS w (.agg #[.slice (some ⟨K, 0, none⟩) 1 1, .slice none 0 0]) (s2 m) :=
  ⟨⟨_, 1, none, 0, by simp [s2], ⟨⟨[⟨⟨#[65]⟩, none, 0, 0, ao, 4 + m, cap⟩], rfl, rowG_block _ hK rfl (fun x hx => by rw [List.mem_singleton.1 hx]; rfl), fun j h1 h2 => by
    obtain rfl : j = 0 := by simpa using h1
    exact ⟨rfl, rfl, rowS_nil _ _, by show 4 + m = (fLs (4 + m)).length; rw [fLs_len], h⟩⟩⟩, isAs_nil _ _⟩⟩

set_option maxHeartbeats 8000000 in
set_option maxRecDepth 1000000 in
theorem sbounds_2 (which n : Int) (m : Nat) (w : World) (h0 : which % 5 = 2) (hm : n % 4 = (m : Int)) (hm3 : m < 4) :
    Calls Try.prog 6 #[.int .i64 which, .int .i64 n] w fun e w' => e = .returned (.bool true) ∧ Below w.heap.size w w' := by
  obtain ⟨i0, hi, hz0, hz1, hz2⟩ := info_parts infoField
  have K := known10_any w
  have W1 := fun w' => within10_any n 4 (by decide) (by decide) w'
  have W2 := fun w' => within10_any which 5 (by decide) (by decide) w'
  rw [hm] at W1
  rw [h0] at W2
  clear hm h0
  go_enter Try.func6, Try.ntmps6
  go_wp2_with fail
  refine K.mono ?_
  clear K
  rintro x w1 ⟨rfl, b1⟩
  go_wp2_with fail
  refine (W1 _).mono ?_
  clear W1
  rintro x w1 ⟨rfl, rfl⟩
  go_wp2_with fail
  refine (W2 _).mono ?_
  clear W2
  rintro x w1 ⟨rfl, rfl⟩
  go_wp2
  have b2 := (b1.alloc b1.size (.cells #[.slice (some ⟨w1.heap.size + 1, 0, none⟩) 1 1, .slice none 0 0] 25)).alloc (by have := b1.size; simp; omega) (.cells #[.string ⟨#[65]⟩, .slice none 0 0, .slice none 0 0] 42)
  have H2 : ((w1.alloc (.cells #[.slice (some ⟨w1.heap.size + 1, 0, none⟩) 1 1, .slice none 0 0] 25)).alloc (.cells #[.string ⟨#[65]⟩, .slice none 0 0, .slice none 0 0] 42)).heap[w1.heap.size]? = some (.cells #[.slice (some ⟨w1.heap.size + 1, 0, none⟩) 1 1, .slice none 0 0] 25 (0, 0)) := by
    rw [Below.heap_alloc _ _ _ (by simp)]
    exact alloc_heap _ _
  have HK2 : ((w1.alloc (.cells #[.slice (some ⟨w1.heap.size + 1, 0, none⟩) 1 1, .slice none 0 0] 25)).alloc (.cells #[.string ⟨#[65]⟩, .slice none 0 0, .slice none 0 0] 42)).heap[w1.heap.size + 1]? = some (.cells #[.string ⟨#[65]⟩, .slice none 0 0, (.slice none 0 0)] 42 (0, 0)) := by
    have := alloc_heap (w1.alloc (.cells #[.slice (some ⟨w1.heap.size + 1, 0, none⟩) 1 1, .slice none 0 0] 25)) (.cells #[.string ⟨#[65]⟩, .slice none 0 0, .slice none 0 0] 42)
    simpa using this
  have z1 := b1.size
  have zl : w1.heap.size + 2 = ((w1.alloc (.cells #[.slice (some ⟨w1.heap.size + 1, 0, none⟩) 1 1, .slice none 0 0] 25)).alloc (.cells #[.string ⟨#[65]⟩, .slice none 0 0, .slice none 0 0] 42)).heap.size := by simp
  generalize (w1.alloc _).alloc _ = w2 at *
  go_loopw [8] (fun kv wr => ∃ (k : Nat) (lv : Value), k ≤ 4 + m ∧ kv = .int .i64 k ∧ Below w.heap.size w wr ∧ w2.heap.size ≤ wr.heap.size ∧ wr.heap[w1.heap.size]? = some (.cells #[.slice (some ⟨w1.heap.size + 1, 0, none⟩) 1 1, .slice none 0 0] 25 (0, 0)) ∧ wr.heap[w1.heap.size + 1]? = some (.cells #[.string ⟨#[65]⟩, .slice none 0 0, lv] 42 (0, 0)) ∧ wr.ownsRow w2.heap.size 31 4 lv k ((fLs k).map F4.cells).flatten) (fun kv _ => 4 + m - (intOf kv).toNat)
  case atStart => exact ⟨0, _, by omega, by go_num, b2, Nat.le_refl _, H2, HK2, World.ownsRow_nil _ _ _ _⟩
  case round =>
    clear H2 HK2
    obtain ⟨k, lv, hk, rfl, hbw, hsz, hS, hK, hown⟩ := hrel
    by_cases hlt : k < 4 + m
    · have i1 : (k : Int) < 4 + (m : Int) := by omega
      have Hs := hide (show ((fLs (k + 1)).map F4.cells).flatten = ((fLs k).map F4.cells).flatten ++ [.string (letB k), .int .i64 1, .int .i64 0, .string ⟨#[]⟩] by rw [fLs_succ]; simp [fL, F4.cells])
      generalize ((fLs k).map F4.cells).flatten = XX at *
      have hAR0 : ∀ a : Act, AR (⟨w, wr, w2.heap.size, w1.heap.size + 1, 31, 4, fun v => #[.string ⟨#[65]⟩, .slice none 0 0, v], 42, lv, k, XX, [.string (letB k), .int .i64 1, .int .i64 0, .string ⟨#[]⟩], 6, 14, 15, 18, 85, 86⟩ : ARp) (fun _ => false) a wr.drew := fun a => AR.start a hbw hK hown
      have HK0 := hide (And.intro hS hK)
      have cv := conv_at k (by omega)
      have k97 : (97 : Int) + (k : Int) < 256 := by omega
      have ew8 : IntKind.u8.wrap (97 + (k : Int)) = 97 + (k : Int) := by rw [IntKind.wrap_u8]; omega
      have ew6 : IntKind.i64.wrap (97 + (k : Int)) = 97 + (k : Int) := by rw [IntKind.wrap_i64]; omega
      generalize letB k = s at *
      clear hown hK hS
      go_upto_region 22 with fail
      refine wp_specsB 18 (sb2Sp w1.heap.size (.slice (some ⟨w1.heap.size + 1, 0, none⟩) 1 1) lv k s) (AR (⟨w, wr, w2.heap.size, w1.heap.size + 1, 31, 4, fun v => #[.string ⟨#[65]⟩, .slice none 0 0, v], 42, lv, k, XX, [.string s, .int .i64 1, .int .i64 0, .string ⟨#[]⟩], 6, 14, 15, 18, 85, 86⟩ : ARp)) (by kernel_rfl) (by kernel_rfl) (by kernel_rfl) (hAR0 _) ?_ ?_ ?_
      · intro i o hi' ho L a' w' hL hw hR hdep hslot hsz' K hK
        have hS' := (hR.old w1.heap.size (by show _ < w2.heap.size; omega) (by show w1.heap.size ≠ w1.heap.size + 1; omega)).trans (unhide HK0).1
        have cS : w'.cell? ⟨w1.heap.size, 0, none⟩ = some (.slice (some ⟨w1.heap.size + 1, 0, none⟩) 1 1) := by rw [Lib.cell_of_heap hS']; rfl
        clear hAR0
        match i, hi' with
        | 0, _ =>
          cases ho
          have e0 : a'.tmps.getD 5 undef = .pointer (some ⟨w1.heap.size, 0, none⟩) := hslot 5 (by decide)
          unfold Oper.wp
          go_simp
          exact hK _ _ rfl (hR.grow 0 71 _ (show (0 : Nat) ≠ 14 ∧ (0 : Nat) ≠ 15 ∧ (0 : Nat) ≠ 18 from by decide) (show (71 : Nat) ≠ 85 ∧ (71 : Nat) ≠ 86 from by decide) (by show w2.heap.size ≤ _; exact hsz) (Below.refl _ _)) (fun _ _ h => h)
        | 1, _ =>
          cases ho
          have e0 : a'.tmps.getD 71 undef = .pointer (some ⟨w1.heap.size, 0, none⟩) := hdep 0 (by decide) (by kernel_rfl)
          unfold Oper.wp
          go_simp
          exact hK _ _ rfl (hR.grow 1 72 _ (show (1 : Nat) ≠ 14 ∧ (1 : Nat) ≠ 15 ∧ (1 : Nat) ≠ 18 from by decide) (show (72 : Nat) ≠ 85 ∧ (72 : Nat) ≠ 86 from by decide) (by show w2.heap.size ≤ _; exact hsz) (Below.refl _ _)) (fun _ _ h => h)
        | 2, _ =>
          cases ho
          have e0 : a'.tmps.getD 5 undef = .pointer (some ⟨w1.heap.size, 0, none⟩) := hslot 5 (by decide)
          unfold Oper.wp
          go_simp
          exact hK _ _ rfl (hR.grow 2 73 _ (show (2 : Nat) ≠ 14 ∧ (2 : Nat) ≠ 15 ∧ (2 : Nat) ≠ 18 from by decide) (show (73 : Nat) ≠ 85 ∧ (73 : Nat) ≠ 86 from by decide) (by show w2.heap.size ≤ _; exact hsz) (Below.refl _ _)) (fun _ _ h => h)
        | 3, _ =>
          cases ho
          have e0 : a'.tmps.getD 73 undef = .pointer (some ⟨w1.heap.size, 0, none⟩) := hdep 2 (by decide) (by kernel_rfl)
          unfold Oper.wp
          go_simp
          exact hK _ _ rfl (hR.grow 3 74 _ (show (3 : Nat) ≠ 14 ∧ (3 : Nat) ≠ 15 ∧ (3 : Nat) ≠ 18 from by decide) (show (74 : Nat) ≠ 85 ∧ (74 : Nat) ≠ 86 from by decide) (by show w2.heap.size ≤ _; exact hsz) (Below.refl _ _)) (fun _ _ h => h)
        | 4, _ =>
          cases ho
          have e0 : a'.tmps.getD 74 undef = .slice (some ⟨w1.heap.size + 1, 0, none⟩) 1 1 := hdep 3 (by decide) (by kernel_rfl)
          unfold Oper.wp
          go_simp
          exact hK _ _ rfl (hR.grow 4 75 _ (show (4 : Nat) ≠ 14 ∧ (4 : Nat) ≠ 15 ∧ (4 : Nat) ≠ 18 from by decide) (show (75 : Nat) ≠ 85 ∧ (75 : Nat) ≠ 86 from by decide) (by show w2.heap.size ≤ _; exact hsz) (Below.refl _ _)) (fun _ _ h => h)
        | 5, _ =>
          cases ho
          have e0 : a'.tmps.getD 75 undef = .pointer (some ⟨w1.heap.size + 1, 0, none⟩) := hdep 4 (by decide) (by kernel_rfl)
          unfold Oper.wp
          go_simp
          exact hK _ _ rfl (hR.grow 5 76 _ (show (5 : Nat) ≠ 14 ∧ (5 : Nat) ≠ 15 ∧ (5 : Nat) ≠ 18 from by decide) (show (76 : Nat) ≠ 85 ∧ (76 : Nat) ≠ 86 from by decide) (by show w2.heap.size ≤ _; exact hsz) (Below.refl _ _)) (fun _ _ h => h)
        | 6, _ =>
          cases ho
          have e0 : a'.tmps.getD 76 undef = .pointer (some ⟨w1.heap.size + 1, 2, none⟩) := hdep 5 (by decide) (by kernel_rfl)
          have hK6 := hR.kb (hR.noS (hR.noA (.inl hL)))
          have cK : w'.cell? ⟨w1.heap.size + 1, 2, none⟩ = some lv := by rw [Lib.cell_of_heap hK6]; rfl
          unfold Oper.wp
          go_simp
          exact hK _ _ rfl (hR.grow 6 77 _ (show (6 : Nat) ≠ 14 ∧ (6 : Nat) ≠ 15 ∧ (6 : Nat) ≠ 18 from by decide) (show (77 : Nat) ≠ 85 ∧ (77 : Nat) ≠ 86 from by decide) (by show w2.heap.size ≤ _; exact hsz) (Below.refl _ _)) (fun _ _ h => h)
        | 7, _ =>
          cases ho
          have e0 : a'.tmps.getD 8 undef = .int .i64 k := hslot 8 (by decide)
          unfold Oper.wp
          go_simp
          exact hK _ _ rfl (hR.grow 7 78 _ (show (7 : Nat) ≠ 14 ∧ (7 : Nat) ≠ 15 ∧ (7 : Nat) ≠ 18 from by decide) (show (78 : Nat) ≠ 85 ∧ (78 : Nat) ≠ 86 from by decide) (by show w2.heap.size ≤ _; exact hsz) (Below.refl _ _)) (fun _ _ h => h)
        | 8, _ =>
          cases ho
          have e0 : a'.tmps.getD 78 undef = .int .i64 k := hdep 7 (by decide) (by kernel_rfl)
          unfold Oper.wp
          go_simp
          exact hK _ _ rfl (hR.grow 8 79 _ (show (8 : Nat) ≠ 14 ∧ (8 : Nat) ≠ 15 ∧ (8 : Nat) ≠ 18 from by decide) (show (79 : Nat) ≠ 85 ∧ (79 : Nat) ≠ 86 from by decide) (by show w2.heap.size ≤ _; exact hsz) (Below.refl _ _)) (fun _ _ h => h)
        | 9, _ =>
          cases ho
          have e0 : a'.tmps.getD 79 undef = .int .i64 (97 + k) := hdep 8 (by decide) (by kernel_rfl)
          unfold Oper.wp
          go_simp
          exact hK _ _ rfl (hR.grow 9 80 _ (show (9 : Nat) ≠ 14 ∧ (9 : Nat) ≠ 15 ∧ (9 : Nat) ≠ 18 from by decide) (show (80 : Nat) ≠ 85 ∧ (80 : Nat) ≠ 86 from by decide) (by show w2.heap.size ≤ _; exact hsz) (Below.refl _ _)) (fun _ _ h => h)
        | 10, _ =>
          cases ho
          have e0 : a'.tmps.getD 80 undef = .int .u8 (97 + k) := hdep 9 (by decide) (by kernel_rfl)
          have e0' : a'.tmps[80]?.getD undef = .int .u8 (97 + k) := by simpa using e0
          have hG := hide (hR.grow 10 81 (.slice (some ⟨w'.heap.size, 0, none⟩) 1 1) (show (10 : Nat) ≠ 14 ∧ (10 : Nat) ≠ 15 ∧ (10 : Nat) ≠ 18 from by decide) (show (81 : Nat) ≠ 85 ∧ (81 : Nat) ≠ 86 from by decide) (by show w2.heap.size ≤ _; exact hsz) (blw1 w' (.cells #[.int .u8 (97 + (k : Int))] 5)))
          clear cS hsz'
          unfold Oper.wp
          go_simp
          exact hK _ _ ⟨w'.heap.size, rfl, alloc_heap _ _⟩ (unhide hG) (sb2Sp_up fun b hb => kept_of_below (blw1 w' _) hb)
        | 11, _ =>
          cases ho
          obtain ⟨b, e0, hb⟩ : sb2Sp w1.heap.size (.slice (some ⟨w1.heap.size + 1, 0, none⟩) 1 1) lv k s 10 (a'.tmps.getD 81 undef) w' := hdep 10 (by decide) (by kernel_rfl)
          have cv' := cv b w' hb
          clear cS cv
          unfold Oper.wp
          go_simp
          exact hK _ _ rfl (hR.grow 11 82 _ (show (11 : Nat) ≠ 14 ∧ (11 : Nat) ≠ 15 ∧ (11 : Nat) ≠ 18 from by decide) (show (82 : Nat) ≠ 85 ∧ (82 : Nat) ≠ 86 from by decide) (by show w2.heap.size ≤ _; exact hsz) (Below.refl _ _)) (fun _ _ h => h)
        | 12, _ =>
          cases ho
          unfold Oper.wp
          go_simp
          exact hK _ _ rfl (hR.grow 12 83 _ (show (12 : Nat) ≠ 14 ∧ (12 : Nat) ≠ 15 ∧ (12 : Nat) ≠ 18 from by decide) (show (83 : Nat) ≠ 85 ∧ (83 : Nat) ≠ 86 from by decide) (by show w2.heap.size ≤ _; exact hsz) (Below.refl _ _)) (fun _ _ h => h)
        | 13, _ =>
          cases ho
          have e0 : a'.tmps.getD 82 undef = .string s := hdep 11 (by decide) (by kernel_rfl)
          have e0' : a'.tmps[82]?.getD undef = .string s := by simpa using e0
          have e1 : a'.tmps.getD 83 undef = .agg #[.int .i64 1, .int .i64 0, .string ⟨#[]⟩] := hdep 12 (by decide) (by kernel_rfl)
          have e1' : a'.tmps[83]?.getD undef = .agg #[.int .i64 1, .int .i64 0, .string ⟨#[]⟩] := by simpa using e1
          clear hsz' cS
          unfold Oper.wp
          go_simp
          exact hK _ _ rfl (hR.grow 13 84 _ (show (13 : Nat) ≠ 14 ∧ (13 : Nat) ≠ 15 ∧ (13 : Nat) ≠ 18 from by decide) (show (84 : Nat) ≠ 85 ∧ (84 : Nat) ≠ 86 from by decide) (by show w2.heap.size ≤ _; exact hsz) (Below.refl _ _)) (fun _ _ h => h)
        | 14, _ =>
          cases ho
          have e0 : a'.tmps.getD 84 undef = .agg #[.string s, .int .i64 1, .int .i64 0, .string ⟨#[]⟩] := hdep 13 (by decide) (by kernel_rfl)
          have e0' : a'.tmps[84]?.getD undef = .agg #[.string s, .int .i64 1, .int .i64 0, .string ⟨#[]⟩] := by simpa using e0
          have hG := hide (hR.alloc hL (by rw [hsz']; exact Nat.le_of_ble_eq_true (by kernel_rfl)) (show (15 : Nat) ≠ 14 from by decide) (show (18 : Nat) ≠ 14 from by decide) (by show w2.heap.size ≤ _; exact hsz))
          clear cS hsz'
          unfold Oper.wp
          go_simp
          exact hK _ _ trivial (unhide hG) (sb2Sp_up fun b hb => kept_of_below (blw1 w' _) hb)
        | 15, _ =>
          cases ho
          have hLR : L 6 = true := hw 6 (by kernel_rfl)
          have hLN : L 14 = true := hw 14 (by kernel_rfl)
          have e0 : a'.tmps.getD 77 undef = lv := hdep 6 (by decide) (by kernel_rfl)
          obtain ⟨blk, e1, hblk⟩ := hR.new hLN hL
          have hcell : ∀ jj u, ([.string s, .int .i64 1, .int .i64 0, .string ⟨#[]⟩] : List Value)[jj]? = some u → w'.cell? ((⟨blk, 0, none⟩ : Addr).add jj) = some u := by
            intro jj u hu
            rw [Addr.add_lit, Nat.zero_add, Lib.cell_of_heap hblk]
            simpa using hu
          obtain ⟨v', w'', hr, hown', hgr, _, _⟩ := run_append_own_at (P := Try.prog) w' w2.heap.size 40 40 31 i0 _ 4 48 Try.underlying40 hi hz0 hz1 hz2 rfl (by decide) lv k XX (hR.row hL) ⟨blk, 0, none⟩ 1 1 [.string s, .int .i64 1, .int .i64 0, .string ⟨#[]⟩] rfl hcell (by intro u hu; simp at hu; first | (subst hu; rfl) | (rcases hu with rfl | rfl | rfl | rfl <;> rfl)) (by unfold maxLen; omega) (by omega) (by have := hR.size; simp only at this; omega)
          have hs : a'.eval (.tmp 77) = lv := e0
          have hx : a'.eval (.tmp 85) = .slice (some ⟨blk, 0, none⟩) 1 1 := e1
          unfold Oper.wp execOp
          simp only [resolve, invoke, builtin, Sem.run_bind, Sem.run_pure, Result.andThen_ok, List.map_toArray, List.map_cons, List.map_nil, hs, hx, hr]
          exact hK _ _ trivial (hR.appd hL hLR hLN (by rw [hsz']; exact Nat.le_of_ble_eq_true (by kernel_rfl)) (show (18 : Nat) ≠ 15 from by decide) (by show w2.heap.size ≤ _; exact hsz) (by show w1.heap.size + 1 < w2.heap.size; omega) (by show w.heap.size ≤ w2.heap.size; omega) hown' hgr) (sb2Sp_up fun b hb => by
                      rw [hgr.block b (Array.getElem?_eq_some_iff.1 hb).1 (fun e => by
                        obtain ⟨cur, fz, h1⟩ := own_ty (hR.row hL) e.symm
                        have h2 := hb.symm.trans h1
                        cases h2)]
                      exact hb)
        | 16, _ =>
          cases ho
          have e0 : a'.tmps.getD 72 undef = .slice (some ⟨w1.heap.size + 1, 0, none⟩) 1 1 := hdep 1 (by decide) (by kernel_rfl)
          unfold Oper.wp
          go_simp
          exact hK _ _ rfl (hR.grow 16 87 _ (show (16 : Nat) ≠ 14 ∧ (16 : Nat) ≠ 15 ∧ (16 : Nat) ≠ 18 from by decide) (show (87 : Nat) ≠ 85 ∧ (87 : Nat) ≠ 86 from by decide) (by show w2.heap.size ≤ _; exact hsz) (Below.refl _ _)) (fun _ _ h => h)
        | 17, _ =>
          cases ho
          have e0 : a'.tmps.getD 87 undef = .pointer (some ⟨w1.heap.size + 1, 0, none⟩) := hdep 16 (by decide) (by kernel_rfl)
          unfold Oper.wp
          go_simp
          exact hK _ _ rfl (hR.grow 17 88 _ (show (17 : Nat) ≠ 14 ∧ (17 : Nat) ≠ 15 ∧ (17 : Nat) ≠ 18 from by decide) (show (88 : Nat) ≠ 85 ∧ (88 : Nat) ≠ 86 from by decide) (by show w2.heap.size ≤ _; exact hsz) (Below.refl _ _)) (fun _ _ h => h)
        | i + 18, h => exact absurd h (by omega)
      · intro i o hi' ho L a' w' hL hw hR hdep K hK
        have : i = 18 := by
          have h := (List.getElem?_eq_some_iff.1 ho).1
          simp only [List.length_cons, List.length_nil] at h
          omega
        subst this
        cases ho
        have hA : L 15 = true := hw 15 (by kernel_rfl)
        obtain ⟨ao7, n7, c7, e1, hST⟩ := hR.stor hL hA (show (14 : Nat) ≠ 18 from by decide) (show (15 : Nat) ≠ 18 from by decide) (by show w.heap.size ≤ w1.heap.size + 1; omega) (by show w1.heap.size + 1 < w2.heap.size; omega) 2 (fun _ => rfl)
        have hST := hide hST
        have e2 : a'.tmps.getD 88 undef = .pointer (some ⟨w1.heap.size + 1, 2, none⟩) := hdep 17 (by decide) (by kernel_rfl)
        have e1 : a'.tmps.getD 86 undef = .slice ao7 n7 c7 := e1
        have hkb := hR.kb hL
        have x6 : w'.cell? ⟨w1.heap.size + 1, 2, none⟩ = some lv := by rw [Lib.cell_of_heap hkb]; rfl
        have f6 : w'.frozen? ⟨w1.heap.size + 1, 2, none⟩ = false := Lib.frozen_of_heap hkb 2
        have hup : ∀ j u, sb2Sp w1.heap.size (.slice (some ⟨w1.heap.size + 1, 0, none⟩) 1 1) lv k s j u w' → sb2Sp w1.heap.size (.slice (some ⟨w1.heap.size + 1, 0, none⟩) 1 1) lv k s j u (w'.setCell ⟨w1.heap.size + 1, 2, none⟩ (.slice ao7 n7 c7)) := (sb2Sp_up fun b hb => by
          rw [Below.heap_setCell w' ⟨w1.heap.size + 1, 2, none⟩ _ b (fun e => by
            have h1 := hR.kb hL
            have e : b = w1.heap.size + 1 := e
            rw [e] at hb
            have h2 := hb.symm.trans h1
            cases h2)]
          exact hb)
        have HUP := hide hup
        clear hkb hup hAR0
        unfold Oper.wp
        go_simp
        exact hK _ (unhide hST) (unhide HUP) undef
      · intro v L w5 hall hR hsp
        obtain ⟨ao7, n7, c7, _, hown7, hk7⟩ := hR.app (hall 15 (by decide))
        have hk7 := hk7 (hall 18 (by decide))
        have hS7 := (hR.old w1.heap.size (by show _ < w2.heap.size; omega) (by show w1.heap.size ≠ w1.heap.size + 1; omega)).trans (unhide HK0).1
        have b7 : Below w.heap.size w w5 := hR.below
        have z7 : w2.heap.size ≤ w5.heap.size := Nat.le_trans hsz hR.size
        have HV := hide (And.intro hS7 (And.intro hk7 hown7))
        clear hS7 hk7 hown7 hAR0
        have e0 : v 0 = _ := hsp 0 (by decide)
        have e1 : v 1 = _ := hsp 1 (by decide)
        have e2 : v 2 = _ := hsp 2 (by decide)
        have e3 : v 3 = _ := hsp 3 (by decide)
        have e4 : v 4 = _ := hsp 4 (by decide)
        have e5 : v 5 = _ := hsp 5 (by decide)
        have e6 : v 6 = _ := hsp 6 (by decide)
        have e7 : v 7 = _ := hsp 7 (by decide)
        have e8 : v 8 = _ := hsp 8 (by decide)
        have e9 : v 9 = _ := hsp 9 (by decide)
        have e11 : v 11 = _ := hsp 11 (by decide)
        have e12 : v 12 = _ := hsp 12 (by decide)
        have e13 : v 13 = _ := hsp 13 (by decide)
        have e16 : v 16 = _ := hsp 16 (by decide)
        have e17 : v 17 = _ := hsp 17 (by decide)
        clear hR hall hsp
        simp only [putAll, dstOf, List.getElem?_cons_zero, List.getElem?_cons_succ, Option.bind_some, e0, e1, e2, e3, e4, e5, e6, e7, e8, e9, e11, e12, e13, e16, e17]
        clear e0 e1 e2 e3 e4 e5 e6 e7 e8 e9 e11 e12 e13 e16 e17
        simp only [Act.put, List.setIfInBounds_toArray, List.set_cons_succ, List.set_cons_zero]
        generalize v 10 = v10
        generalize v 14 = v14
        generalize v 15 = v15
        go_wp2
        go_roundw
        case rel => exact ⟨k + 1, .slice ao7 n7 c7, by omega, by go_num, b7, z7, (unhide HV).1, (unhide HV).2.1, by rw [unhide Hs]; exact (unhide HV).2.2⟩
        case measure =>
          simp only [intOf]
          omega
    · obtain rfl : k = 4 + m := by omega
      have i1 : ¬ ((4 + m : Nat) : Int) < 4 + (m : Int) := by omega
      have hown' : wr.ownsRow w2.heap.size 31 4 lv ((fLs (4 + m)).map F4.cells).length ((fLs (4 + m)).map F4.cells).flatten := by rw [List.length_map, fLs_len]; exact hown
      obtain ⟨ao, cap, rfl, hrow, hcap⟩ := rowG_ownS (len4 _) hown'
      rw [List.length_map, fLs_len] at hK hcap
      have c0 : wr.cell? ⟨w1.heap.size, 0, none⟩ = some (.slice (some ⟨w1.heap.size + 1, 0, none⟩) 1 1) := by rw [Lib.cell_of_heap hS]; rfl
      have c1 : wr.cell? ⟨w1.heap.size, 1, none⟩ = some (.slice none 0 0) := by rw [Lib.cell_of_heap hS]; rfl
      have CK := scheck_any (s2 m) _ wr (small_s2 m hm3) (is_s2 hK hrow)
      rw [s2_told m hm3] at CK
      clear hrow hcap hown hown' hS hK
      by_cases h1 : 1 < m
      · have i2 : (1 : Int) < (m : Int) := by omega
        rw [if_pos h1] at CK
        clear h1
        generalize 4 + m = mm at *
        go_wp2_with fail
        refine CK.mono ?_
        rintro x w4 ⟨rfl, b4⟩
        go_wp2
        go_ret
        exact ⟨rfl, hbw.trans (b4.mono hbw.size)⟩
      · have i2 : ¬ (1 : Int) < (m : Int) := by omega
        rw [if_neg h1] at CK
        clear h1
        generalize 4 + m = mm at *
        go_wp2_with fail
        refine CK.mono ?_
        rintro x w4 ⟨rfl, b4⟩
        go_wp2
        go_ret
        exact ⟨rfl, hbw.trans (b4.mono hbw.size)⟩
end Go.Proofs.Ytckjafmnaffggaa
