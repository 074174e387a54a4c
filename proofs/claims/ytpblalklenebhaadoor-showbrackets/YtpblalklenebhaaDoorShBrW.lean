/-
  chancellaw6.ShowBrackets: the walk.
-/
import Derived.Test.YtpblalklenebhaaDoorShBrP
namespace Go.Proofs.YtpblalklenebhaaDoor
open Go.RowKit Go.Sort

theorem al_old {w : World} {k : Nat} {o : Obj} (o' : Obj) (h : w.heap[k]? = some o) : (w.alloc o').heap[k]? = some o := kept_of_below (newS w o') h
theorem al_new {w : World} {n : Nat} (o : Obj) (h : w.heap.size = n) : (w.alloc o).heap[n]? = some o := h ▸ alloc_heap w o
theorem al_sz {w : World} {n : Nat} (o : Obj) (h : w.heap.size = n) : (w.alloc o).heap.size = n + 1 := by rw [← h]; simp
theorem five (w : World) (a b c d e : Obj) : Below w.heap.size w (((((w.alloc a).alloc b).alloc c).alloc d).alloc e) ∧ (((((w.alloc a).alloc b).alloc c).alloc d).alloc e).heap[w.heap.size]? = some a ∧ (((((w.alloc a).alloc b).alloc c).alloc d).alloc e).heap[w.heap.size + 1]? = some b ∧
    (((((w.alloc a).alloc b).alloc c).alloc d).alloc e).heap[w.heap.size + 1 + 1]? = some c ∧ (((((w.alloc a).alloc b).alloc c).alloc d).alloc e).heap[w.heap.size + 1 + 1 + 1]? = some d ∧ (((((w.alloc a).alloc b).alloc c).alloc d).alloc e).heap[w.heap.size + 1 + 1 + 1 + 1]? = some e := by
  have z1 := al_sz a (rfl : w.heap.size = w.heap.size)
  have z2 := al_sz b z1
  have z3 := al_sz c z2
  have z4 := al_sz d z3
  exact ⟨((((newS w a).alloc (by omega) b).alloc (by omega) c).alloc (by omega) d).alloc (by omega) e, al_old _ (al_old _ (al_old _ (al_old _ (al_new a rfl)))), al_old _ (al_old _ (al_old _ (al_new b z1))), al_old _ (al_old _ (al_new c z2)), al_old _ (al_new d z3), al_new e z4⟩
theorem sgs_at (k : Nat) (h : k < 12) : (#[.string ⟨#[42]⟩, .string ⟨#[43]⟩, .string ⟨#[45]⟩, .string ⟨#[60]⟩, .string ⟨#[60, 61]⟩, .string ⟨#[62]⟩, .string ⟨#[62, 61]⟩, .string ⟨#[61, 61]⟩, .string ⟨#[33, 61]⟩, .string ⟨#[105, 110]⟩, .string ⟨#[38, 38]⟩, .string ⟨#[124, 124]⟩] : Array Value)[k]? = some (.string (ba (sgnO (13 + (k : Int))))) := by
  match k, h with
  | 0, _ | 1, _ | 2, _ | 3, _ | 4, _ | 5, _ | 6, _ | 7, _ | 8, _ | 9, _ | 10, _ | 11, _ => rfl
theorem lvs_at (k : Nat) (h : k < 12) : (#[.int .i64 5, .int .i64 4, .int .i64 4, .int .i64 3, .int .i64 3, .int .i64 3, .int .i64 3, .int .i64 3, .int .i64 3, .int .i64 3, .int .i64 2, .int .i64 1] : Array Value)[k]? = some (.int .i64 (lvN k)) := by
  match k, h with
  | 0, _ | 1, _ | 2, _ | 3, _ | 4, _ | 5, _ | 6, _ | 7, _ | 8, _ | 9, _ | 10, _ | 11, _ => rfl

set_option maxHeartbeats 4000000 in
set_option maxRecDepth 1000000 in
theorem brackets_walk (a b : Int) (rt : Bool) (w : World) (hT : Tab6 w) : Calls Tryd.prog 6 #[.int .i64 a, .int .i64 b, .bool rt] w fun e w' => e = .returned (.bool true) ∧ Below w.heap.size w w' := by
  have K := known6_any w hT
  by_cases hn : a.tmod 12 < 0 ∨ b.tmod 12 < 0
  · by_cases h1 : a.tmod 12 < 0
    · clear hn
      go_enter Tryd.func6, Tryd.ntmps6
      go_wp2_with fail
      refine K.mono ?_
      rintro e w1 ⟨rfl, b1⟩
      clear K
      go_wp2
      go_ret
      exact ⟨rfl, (b1.alloc b1.size _).alloc (by have := b1.size; simp; omega) _⟩
    · have h2 : b.tmod 12 < 0 := hn.resolve_left h1
      clear hn
      go_enter Tryd.func6, Tryd.ntmps6
      go_wp2_with fail
      refine K.mono ?_
      rintro e w1 ⟨rfl, b1⟩
      clear K
      go_wp2
      go_ret
      exact ⟨rfl, (b1.alloc b1.size _).alloc (by have := b1.size; simp; omega) _⟩
  · obtain ⟨i, hi⟩ : ∃ i : Nat, a.tmod 12 = (i : Int) := ⟨(a.tmod 12).toNat, by omega⟩
    obtain ⟨j, hj⟩ : ∃ j : Nat, b.tmod 12 = (j : Int) := ⟨(b.tmod 12).toNat, by omega⟩
    have hi12 : i < 12 := by have := Int.tmod_lt_of_pos a (show (0 : Int) < 12 by decide); omega
    have hj12 : j < 12 := by have := Int.tmod_lt_of_pos b (show (0 : Int) < 12 by decide); omega
    clear hn
    have i1 : (i : Int) < 12 := by omega
    have j1 : (j : Int) < 12 := by omega
    have HT := hide hT
    clear hT
    go_enter Tryd.func6, Tryd.ntmps6
    go_wp2_with fail
    refine K.mono ?_
    rintro e w1 ⟨rfl, b1⟩
    clear K
    go_upto_region 10 with fail
    obtain ⟨b15, Z1, Z2, Z3, Z4, Z5⟩ := five w1 (.cells #[.string ⟨#[42]⟩, .string ⟨#[43]⟩, .string ⟨#[45]⟩, .string ⟨#[60]⟩, .string ⟨#[60, 61]⟩, .string ⟨#[62]⟩, .string ⟨#[62, 61]⟩, .string ⟨#[61, 61]⟩, .string ⟨#[33, 61]⟩, .string ⟨#[105, 110]⟩, .string ⟨#[38, 38]⟩, .string ⟨#[124, 124]⟩] 9) (.cells #[.int .i64 5, .int .i64 4, .int .i64 4, .int .i64 3, .int .i64 3, .int .i64 3, .int .i64 3, .int .i64 3, .int .i64 3, .int .i64 3, .int .i64 2, .int .i64 1] 3) (.cells #[.int .i64 2, .bool false, .int .i64 1, .string ⟨#[]⟩, .string ⟨#[]⟩, .string ⟨#[]⟩, .slice none 0 0, .int .i64 2, .bool false, .int .i64 2, .string ⟨#[]⟩, .string ⟨#[]⟩, .string ⟨#[]⟩, .slice none 0 0] 32) (.cells #[.int .i64 (13 + (j : Int)), .bool false, .int .i64 0, .string ⟨#[]⟩, .string ⟨#[]⟩, .string ⟨#[]⟩, .slice (some ⟨w1.heap.size + 1 + 1, 0, none⟩) 2 2] 32) (.cells #[.int .i64 2, .bool false, .int .i64 3, .string ⟨#[]⟩, .string ⟨#[]⟩, .string ⟨#[]⟩, .slice none 0 0] 32)
    have b5 := b1.trans (b15.mono b1.size)
    generalize ((((w1.alloc _).alloc _).alloc _).alloc _).alloc _ = w5 at *
    have s1 : w5.cell? ⟨w1.heap.size, i, none⟩ = some (.string (ba (sgnO (13 + (i : Int))))) := by rw [Lib.cell_of_heap Z1]; exact sgs_at i hi12
    have s2 : w5.cell? ⟨w1.heap.size, j, none⟩ = some (.string (ba (sgnO (13 + (j : Int))))) := by rw [Lib.cell_of_heap Z1]; exact sgs_at j hj12
    have l1 : w5.cell? ⟨w1.heap.size + 1, i, none⟩ = some (.int .i64 (lvN i)) := by rw [Lib.cell_of_heap Z2]; exact lvs_at i hi12
    have l2 : w5.cell? ⟨w1.heap.size + 1, j, none⟩ = some (.int .i64 (lvN j)) := by rw [Lib.cell_of_heap Z2]; exact lvs_at j hj12
    obtain ⟨A, hA⟩ : ∃ A, A = ba (sgnO (13 + (i : Int))) := ⟨_, rfl⟩
    obtain ⟨B, hB⟩ : ∃ B, B = ba (sgnO (13 + (j : Int))) := ⟨_, rfl⟩
    have zA : A.size ≤ 2 := by rw [hA, ba_size]; exact sgnO_len _
    have zB : B.size ≤ 2 := by rw [hB, ba_size]; exact sgnO_len _
    rw [← hA] at s1
    rw [← hB] at s2
    have HA := hide hA
    have HB := hide hB
    obtain ⟨la, hla⟩ : ∃ x, x = lvN i := ⟨_, rfl⟩
    obtain ⟨lb, hlb⟩ : ∃ x, x = lvN j := ⟨_, rfl⟩
    rw [← hla] at l1
    rw [← hlb] at l2
    have HLA := hide hla
    have HLB := hide hlb
    clear hA hB hla hlb
    have g1 : ¬ 9223372036854775807 < 2 + B.size := by omega
    have g2 : ¬ 9223372036854775807 < 2 + B.size + 2 := by omega
    have g3 : ¬ 9223372036854775807 < 1 + A.size := by omega
    have g4 : ¬ 9223372036854775807 < 1 + A.size + 1 := by omega
    go_quiet (fail)
    have b56 := below_dn w5.heap.size w5 nq
    have b6 := b5.trans (b56.mono b5.size)
    have Z3 := kept_of_below b56 Z3
    have Z4 := kept_of_below b56 Z4
    have Z5 := kept_of_below b56 Z5
    have l1 := (b56.cell (p := ⟨w1.heap.size + 1, i, none⟩) (Array.getElem?_eq_some_iff.1 Z2).1).trans l1
    have l2 := (b56.cell (p := ⟨w1.heap.size + 1, j, none⟩) (Array.getElem?_eq_some_iff.1 Z2).1).trans l2
    clear s1 s2 b56 b15 Z1 Z2 g1 g2 g3 g4 b5
    generalize w5.drewN nq = w6 at *
    have hh7 := (Array.getElem?_eq_some_iff.1 Z5).1
    obtain ⟨p0, p1, p2, p3, p4, p5, p6, _⟩ := blk7 Z4
    obtain ⟨q0, q1, q2, q3, q4, q5, q6, _⟩ := blk7 Z5
    go_upto_region 12 with fail
    have z7 := al_sz (.cells #[.int .i64 (13 + (j : Int)), .bool false, .int .i64 0, .string ⟨#[]⟩, .string ⟨#[]⟩, .string ⟨#[]⟩, .slice (some ⟨w1.heap.size + 1 + 1, 0, none⟩) 2 2, .int .i64 2, .bool false, .int .i64 3, .string ⟨#[]⟩, .string ⟨#[]⟩, .string ⟨#[]⟩, .slice none 0 0] 32) (rfl : w6.heap.size = w6.heap.size)
    have Y1 : ((w6.alloc (.cells #[.int .i64 (13 + (j : Int)), .bool false, .int .i64 0, .string ⟨#[]⟩, .string ⟨#[]⟩, .string ⟨#[]⟩, .slice (some ⟨w1.heap.size + 1 + 1, 0, none⟩) 2 2, .int .i64 2, .bool false, .int .i64 3, .string ⟨#[]⟩, .string ⟨#[]⟩, .string ⟨#[]⟩, .slice none 0 0] 32)).alloc (.cells #[.int .i64 (13 + (i : Int)), .bool false, .int .i64 0, .string ⟨#[]⟩, .string ⟨#[]⟩, .string ⟨#[]⟩, .slice (some ⟨w6.heap.size, 0, none⟩) 2 2] 32)).heap[w6.heap.size]? = some (.cells #[.int .i64 (13 + (j : Int)), .bool false, .int .i64 0, .string ⟨#[]⟩, .string ⟨#[]⟩, .string ⟨#[]⟩, .slice (some ⟨w1.heap.size + 1 + 1, 0, none⟩) 2 2, .int .i64 2, .bool false, .int .i64 3, .string ⟨#[]⟩, .string ⟨#[]⟩, .string ⟨#[]⟩, .slice none 0 0] 32) := al_old _ (al_new _ rfl)
    have Y2 : ((w6.alloc (.cells #[.int .i64 (13 + (j : Int)), .bool false, .int .i64 0, .string ⟨#[]⟩, .string ⟨#[]⟩, .string ⟨#[]⟩, .slice (some ⟨w1.heap.size + 1 + 1, 0, none⟩) 2 2, .int .i64 2, .bool false, .int .i64 3, .string ⟨#[]⟩, .string ⟨#[]⟩, .string ⟨#[]⟩, .slice none 0 0] 32)).alloc (.cells #[.int .i64 (13 + (i : Int)), .bool false, .int .i64 0, .string ⟨#[]⟩, .string ⟨#[]⟩, .string ⟨#[]⟩, .slice (some ⟨w6.heap.size, 0, none⟩) 2 2] 32)).heap[w6.heap.size + 1]? = some (.cells #[.int .i64 (13 + (i : Int)), .bool false, .int .i64 0, .string ⟨#[]⟩, .string ⟨#[]⟩, .string ⟨#[]⟩, .slice (some ⟨w6.heap.size, 0, none⟩) 2 2] 32) := al_new _ z7
    have b67 : Below w6.heap.size w6 ((w6.alloc (.cells #[.int .i64 (13 + (j : Int)), .bool false, .int .i64 0, .string ⟨#[]⟩, .string ⟨#[]⟩, .string ⟨#[]⟩, .slice (some ⟨w1.heap.size + 1 + 1, 0, none⟩) 2 2, .int .i64 2, .bool false, .int .i64 3, .string ⟨#[]⟩, .string ⟨#[]⟩, .string ⟨#[]⟩, .slice none 0 0] 32)).alloc (.cells #[.int .i64 (13 + (i : Int)), .bool false, .int .i64 0, .string ⟨#[]⟩, .string ⟨#[]⟩, .string ⟨#[]⟩, .slice (some ⟨w6.heap.size, 0, none⟩) 2 2] 32)) := (newS w6 _).alloc (by omega) _
    have b7 := b6.trans (b67.mono b6.size)
    have l1 := (b67.cell (p := ⟨w1.heap.size + 1, i, none⟩) (by have := (Array.getElem?_eq_some_iff.1 Z5).1; show w1.heap.size + 1 < _; omega)).trans l1
    have l2 := (b67.cell (p := ⟨w1.heap.size + 1, j, none⟩) (by have := (Array.getElem?_eq_some_iff.1 Z5).1; show w1.heap.size + 1 < _; omega)).trans l2
    have Z3 := kept_of_below b67 Z3
    have Z4 := kept_of_below b67 Z4
    have Z5 := kept_of_below b67 Z5
    have hh6 := b6.size
    clear p0 p1 p2 p3 p4 p5 p6 q0 q1 q2 q3 q4 q5 q6 z7 b67 b6
    generalize hw6 : w6.heap.size = h6 at *
    clear hw6
    generalize (w6.alloc _).alloc _ = w7 at *
    have HPL : Hid (brPlain i j = ((decide (la ≤ lb) && decide (la ≠ 3)) || (decide (la = 3) && decide (3 < lb)))) := hide (by rw [unhide HLA, unhide HLB]; rfl)
    go_cut [14] from 55 (fun s14 wd => s14 = .bool (brPlain i j) ∧ ∃ n, wd = w7.drewN n)
    case first =>
      by_cases h1 : la ≤ lb
      · have d1 : decide (la ≤ lb) = true := decide_eq_true h1
        by_cases h2 : la = 3
        · have e2 : (la == 3) = true := by simpa using h2
          subst h2
          by_cases h3 : 3 < lb
          · have d3 : decide (3 < lb) = true := decide_eq_true h3
            go_quiet (fail)
            go_wp2_with fail
            go_meet
            case rel => exact ⟨by rw [unhide HPL, d1, d3]; rfl, nq, rfl⟩
          · have d3 : decide (3 < lb) = false := decide_eq_false h3
            go_quiet (fail)
            go_wp2_with fail
            go_meet
            case rel => exact ⟨by rw [unhide HPL, d1, d3]; rfl, nq, rfl⟩
        · have e2 : (la == 3) = false := by simpa using h2
          have e3 : (la != 3) = true := by simpa using h2
          have d2 : decide (la ≠ 3) = true := decide_eq_true h2
          go_quiet (fail)
          go_wp2_with fail
          go_meet
          case rel => exact ⟨by rw [unhide HPL, d1, d2]; rfl, nq, rfl⟩
      · have d1 : decide (la ≤ lb) = false := decide_eq_false h1
        by_cases h2 : la = 3
        · have e2 : (la == 3) = true := by simpa using h2
          subst h2
          have h3 : ¬ 3 < lb := by omega
          have d3 : decide (3 < lb) = false := decide_eq_false h3
          go_quiet (fail)
          go_wp2_with fail
          go_meet
          case rel => exact ⟨by rw [unhide HPL, d1, d3]; rfl, nq, rfl⟩
        · have e2 : (la == 3) = false := by simpa using h2
          have e3 : (la != 3) = true := by simpa using h2
          have d2 : decide (la ≠ 3) = true := decide_eq_true h2
          have d4 : decide (la = 3) = false := decide_eq_false h2
          go_quiet (fail)
          go_wp2_with fail
          go_meet
          case rel => exact ⟨by rw [unhide HPL, d1, d4]; rfl, nq, rfl⟩
    obtain ⟨rfl, nd, rfl⟩ := hcut
    have b78 := below_dn w7.heap.size w7 nd
    have b8 := b7.trans (b78.mono b7.size)
    have l1 := (b78.cell (p := ⟨w1.heap.size + 1, i, none⟩) (by have := (Array.getElem?_eq_some_iff.1 Z5).1; show w1.heap.size + 1 < _; omega)).trans l1
    have l2 := (b78.cell (p := ⟨w1.heap.size + 1, j, none⟩) (by have := (Array.getElem?_eq_some_iff.1 Z5).1; show w1.heap.size + 1 < _; omega)).trans l2
    have Z3 := kept_of_below b78 Z3
    have Z4 := kept_of_below b78 Z4
    have Z5 := kept_of_below b78 Z5
    have Y1 := kept_of_below b78 Y1
    have Y2 := kept_of_below b78 Y2
    clear b78 b7
    generalize w7.drewN nd = w8 at *
    obtain ⟨I, hI⟩ : ∃ I, I = (⟨#[49, 32]⟩ : ByteArray) ++ B ++ ⟨#[32, 50]⟩ := ⟨_, rfl⟩
    obtain ⟨O, hO⟩ : ∃ O, O = (⟨#[32]⟩ : ByteArray) ++ A ++ ⟨#[32]⟩ := ⟨_, rfl⟩
    have hI2 : I = ba (brI j) := by rw [hI, unhide HB]; unfold brI; rw [← ba_append, ← ba_append]; rfl
    have hO2 : O = ba ([32] ++ sgnO (13 + (i : Int)) ++ [32]) := by rw [hO, unhide HA, ← ba_append, ← ba_append]; rfl
    have zI : I.size ≤ 6 := by rw [hI2, ba_size]; unfold brI; have := sgnO_len (13 + (j : Int)); simp; omega
    have zO : O.size ≤ 4 := by rw [hO2, ba_size]; have := sgnO_len (13 + (i : Int)); simp; omega
    rw [← hI, ← hO]
    have HI2 := hide hI2
    have HO2 := hide hO2
    clear hI hO hI2 hO2
    have g1 : ¬ 9223372036854775807 < I.size + O.size := by omega
    have g2 : ¬ 9223372036854775807 < I.size + O.size + 1 := by omega
    have g3 : ¬ 9223372036854775807 < 1 + I.size := by omega
    have g4 : ¬ 9223372036854775807 < 1 + I.size + 1 := by omega
    have g5 : ¬ 9223372036854775807 < 1 + I.size + 1 + O.size := by omega
    have g6 : ¬ 9223372036854775807 < 1 + I.size + 1 + O.size + 1 := by omega
    have g7 : ¬ 9223372036854775807 < 1 + O.size := by omega
    have g8 : ¬ 9223372036854775807 < 1 + O.size + I.size := by omega
    have g9 : ¬ 9223372036854775807 < 1 + O.size + 1 := by omega
    have g10 : ¬ 9223372036854775807 < 1 + O.size + 1 + I.size := by omega
    have g11 : ¬ 9223372036854775807 < 1 + O.size + 1 + I.size + 1 := by omega
    have sz : ∀ {k : Nat} {o : Obj}, w8.heap[k]? = some o → k < w8.heap.size := fun h => (Array.getElem?_eq_some_iff.1 h).1
    have Ein : IsE w8 anyB (rOp (13 + (j : Int)) (w1.heap.size + 1 + 1) 0 2 2) (brIn j) := is_two _ (sz Z3) (at7_blk Z3 0 (rLong 1) rfl rfl rfl rfl rfl rfl rfl) (at7_blk Z3 7 (rLong 2) rfl rfl rfl rfl rfl rfl rfl) (is_long _ _) (is_long _ _)
    obtain ⟨ok1, ok2, ok3, ok4⟩ := br_ok ⟨i, hi12⟩ ⟨j, hj12⟩
    have hYlt := sz Y2
    have hY1lt := sz Y1
    clear HPL i1 j1 hi hj
    cases rt with
    | false =>
      have Ee : IsE w8 anyB (rOp (13 + (i : Int)) h6 0 2 2) (brL i j) := is_two _ (sz Y1) (at7_blk Y1 0 (rOp (13 + (j : Int)) (w1.heap.size + 1 + 1) 0 2 2) rfl rfl rfl rfl rfl rfl rfl) (at7_blk Y1 7 (rLong 3) rfl rfl rfl rfl rfl rfl rfl) Ein (is_long _ _)
      have C := shows_of (m := 5) ok1 ok3 (brL_text ⟨i, hi12⟩ ⟨j, hj12⟩) (by rw [← brL_text]; have := (br_len ⟨i, hi12⟩ ⟨j, hj12⟩).1; omega) (rOp (13 + (i : Int)) h6 0 2 2) w8 ((unhide HT).below b8) Ee
      unfold rOp R7.val at C
      simp only at C
      obtain ⟨y0, y1, y2, y3, y4, y5, y6, _⟩ := blk7 Y2
      clear ok1 ok2 ok3 ok4 Ee Ein Y1 Y2 Z3 Z4 Z5 l1 l2 HT
      cases hp : brPlain i j with
      | true =>
        rw [hp] at C
        have e1 : ba ((if true = true then brI j else [40] ++ brI j ++ [41]) ++ ([32] ++ sgnO (13 + (i : Int)) ++ [32]) ++ [51]) = I ++ O ++ ⟨#[51]⟩ := by rw [if_pos rfl, ← ba_append, ← ba_append (brI j), ← unhide HI2, ← unhide HO2]; rfl
        rw [e1] at C
        clear hp e1
        go_wp2_with fail
        refine C.mono ?_
        rintro e w9 ⟨rfl, b9⟩
        go_wp2
        go_ret
        exact ⟨rfl, b8.trans (b9.mono b8.size)⟩
      | false =>
        rw [hp] at C
        have e1 : ba ((if false = true then brI j else [40] ++ brI j ++ [41]) ++ ([32] ++ sgnO (13 + (i : Int)) ++ [32]) ++ [51]) = ⟨#[40]⟩ ++ I ++ ⟨#[41]⟩ ++ O ++ ⟨#[51]⟩ := by rw [if_neg (by decide), ← ba_append, ← ba_append ([40] ++ brI j ++ [41]), ← ba_append ([40] ++ brI j), ← ba_append [40], ← unhide HI2, ← unhide HO2]; rfl
        rw [e1] at C
        clear hp e1
        go_wp2_with fail
        refine C.mono ?_
        rintro e w9 ⟨rfl, b9⟩
        go_wp2
        go_ret
        exact ⟨rfl, b8.trans (b9.mono b8.size)⟩
    | true =>
      obtain ⟨p0, p1, p2, p3, p4, p5, p6, _⟩ := blk7 Z4
      obtain ⟨q0, q1, q2, q3, q4, q5, q6, _⟩ := blk7 Z5
      obtain ⟨y0, y1, y2, y3, y4, y5, y6, yf⟩ := blk7 Y2
      have hZ4lt := sz Z4
      have hZ5lt := sz Z5
      have nx1 : ¬ h6 + 1 = w8.heap.size := by omega
      have nx2 : ¬ w1.heap.size + 1 + 1 + 1 = w8.heap.size := by omega
      have nx3 : ¬ w1.heap.size + 1 + 1 + 1 + 1 = w8.heap.size := by omega
      generalize brPlain i j = pl at *
      cases pl
      all_goals
        have zV : (w8.setCell ⟨h6 + 1, 6, none⟩ (.slice (some ⟨w8.heap.size, 0, none⟩) 2 2)).heap.size = w8.heap.size := by simp [World.setCell]
        have Y2 : ((w8.setCell ⟨h6 + 1, 6, none⟩ (.slice (some ⟨w8.heap.size, 0, none⟩) 2 2)).alloc (.cells #[.int .i64 2, .bool false, .int .i64 3, .string ⟨#[]⟩, .string ⟨#[]⟩, .string ⟨#[]⟩, .slice none 0 0, .int .i64 (13 + (j : Int)), .bool false, .int .i64 0, .string ⟨#[]⟩, .string ⟨#[]⟩, .string ⟨#[]⟩, .slice (some ⟨w1.heap.size + 1 + 1, 0, none⟩) 2 2] 32)).heap[h6 + 1]? = some (.cells #[.int .i64 (13 + (i : Int)), .bool false, .int .i64 0, .string ⟨#[]⟩, .string ⟨#[]⟩, .string ⟨#[]⟩, .slice (some ⟨w8.heap.size, 0, none⟩) 2 2] 32 (0, 0)) := al_old _ (by simp [World.setCell, Array.getElem?_modify, Y2])
        have Y1 : ((w8.setCell ⟨h6 + 1, 6, none⟩ (.slice (some ⟨w8.heap.size, 0, none⟩) 2 2)).alloc (.cells #[.int .i64 2, .bool false, .int .i64 3, .string ⟨#[]⟩, .string ⟨#[]⟩, .string ⟨#[]⟩, .slice none 0 0, .int .i64 (13 + (j : Int)), .bool false, .int .i64 0, .string ⟨#[]⟩, .string ⟨#[]⟩, .string ⟨#[]⟩, .slice (some ⟨w1.heap.size + 1 + 1, 0, none⟩) 2 2] 32)).heap[w8.heap.size]? = some (.cells #[.int .i64 2, .bool false, .int .i64 3, .string ⟨#[]⟩, .string ⟨#[]⟩, .string ⟨#[]⟩, .slice none 0 0, .int .i64 (13 + (j : Int)), .bool false, .int .i64 0, .string ⟨#[]⟩, .string ⟨#[]⟩, .string ⟨#[]⟩, .slice (some ⟨w1.heap.size + 1 + 1, 0, none⟩) 2 2] 32) := al_new _ zV
        have Nold : ∀ k, k < w8.heap.size → k ≠ h6 + 1 → ((w8.setCell ⟨h6 + 1, 6, none⟩ (.slice (some ⟨w8.heap.size, 0, none⟩) 2 2)).alloc (.cells #[.int .i64 2, .bool false, .int .i64 3, .string ⟨#[]⟩, .string ⟨#[]⟩, .string ⟨#[]⟩, .slice none 0 0, .int .i64 (13 + (j : Int)), .bool false, .int .i64 0, .string ⟨#[]⟩, .string ⟨#[]⟩, .string ⟨#[]⟩, .slice (some ⟨w1.heap.size + 1 + 1, 0, none⟩) 2 2] 32)).heap[k]? = w8.heap[k]? := by
          intro k hk hne
          rw [(newS (w8.setCell ⟨h6 + 1, 6, none⟩ (.slice (some ⟨w8.heap.size, 0, none⟩) 2 2)) _).block k (by omega)]
          exact Below.heap_setCell _ _ _ _ hne
        have b9 : Below w.heap.size w ((w8.setCell ⟨h6 + 1, 6, none⟩ (.slice (some ⟨w8.heap.size, 0, none⟩) 2 2)).alloc (.cells #[.int .i64 2, .bool false, .int .i64 3, .string ⟨#[]⟩, .string ⟨#[]⟩, .string ⟨#[]⟩, .slice none 0 0, .int .i64 (13 + (j : Int)), .bool false, .int .i64 0, .string ⟨#[]⟩, .string ⟨#[]⟩, .string ⟨#[]⟩, .slice (some ⟨w1.heap.size + 1 + 1, 0, none⟩) 2 2] 32)) := (b8.setCell (by show w.heap.size ≤ h6 + 1; omega) _).alloc (by rw [zV]; exact b8.size) _
        have l1 := (World.cell?_of_block (Nold (w1.heap.size + 1) (by omega) (by omega))).trans l1
        have l2 := (World.cell?_of_block (Nold (w1.heap.size + 1) (by omega) (by omega))).trans l2
        have Z3 := (Nold (w1.heap.size + 1 + 1) (by omega) (by omega)).trans Z3
        go_upto_region 18 with fail
        clear p0 p1 p2 p3 p4 p5 p6 q0 q1 q2 q3 q4 q5 q6 y0 y1 y2 y3 y4 y5 y6 yf Nold zV Ein sz nx1 nx2 nx3 hYlt hY1lt hZ4lt hZ5lt
        generalize hW8 : w8.heap.size = h8 at *
        clear hW8
        generalize (w8.setCell _ _).alloc _ = w9 at *
        have sz : ∀ {k : Nat} {o : Obj}, w9.heap[k]? = some o → k < w9.heap.size := fun h => (Array.getElem?_eq_some_iff.1 h).1
        have Ein : IsE w9 anyB (rOp (13 + (j : Int)) (w1.heap.size + 1 + 1) 0 2 2) (brIn j) := is_two _ (sz Z3) (at7_blk Z3 0 (rLong 1) rfl rfl rfl rfl rfl rfl rfl) (at7_blk Z3 7 (rLong 2) rfl rfl rfl rfl rfl rfl rfl) (is_long _ _) (is_long _ _)
        have Ee : IsE w9 anyB (rOp (13 + (i : Int)) h8 0 2 2) (brR i j) := is_two _ (sz Y1) (at7_blk Y1 0 (rLong 3) rfl rfl rfl rfl rfl rfl rfl) (at7_blk Y1 7 (rOp (13 + (j : Int)) (w1.heap.size + 1 + 1) 0 2 2) rfl rfl rfl rfl rfl rfl rfl) (is_long _ _) Ein
        have C := fun nq => shows_of (m := 5) ok2 ok4 (brR_text ⟨i, hi12⟩ ⟨j, hj12⟩) (by rw [← brR_text]; have := (br_len ⟨i, hi12⟩ ⟨j, hj12⟩).2; omega) (rOp (13 + (i : Int)) h8 0 2 2) (w9.drewN nq) ((unhide HT).below (b9.trans (below_dn _ _ nq))) (IsE.turn (below_dn w9.heap.size w9 nq).size (fun b hb hb2 => ⟨(below_dn w9.heap.size w9 nq).block b hb2, hb⟩) _ _ Ee)
        unfold rOp R7.val at C
        simp only at C
        clear ok1 ok2 ok3 ok4 Ee Ein Y1 Z3 Z4 Z5 HT sz
        go_upto_region 19 with fail
        by_cases hp : lb ≤ la
        · have d1 : decide (lb ≤ la) = true := decide_eq_true hp
          have e1 : ba ([51] ++ ([32] ++ sgnO (13 + (i : Int)) ++ [32]) ++ (if lvN j ≤ lvN i then [40] ++ brI j ++ [41] else brI j)) = ⟨#[51]⟩ ++ O ++ ⟨#[40]⟩ ++ I ++ ⟨#[41]⟩ := by
            rw [if_pos (by rw [← unhide HLA, ← unhide HLB]; exact hp), ← ba_append, ← ba_append [51], ← ba_append ([40] ++ brI j), ← ba_append [40], ← unhide HI2, ← unhide HO2]
            simp [ByteArray.ext_iff, ByteArray.data_append, ba]
          go_quiet (fail)
          have C := C nq
          rw [e1] at C
          obtain ⟨y0, y1, y2, y3, y4, y5, y6, _⟩ := blk7 (kept_of_below (below_dn w9.heap.size w9 nq) Y2)
          have b10 := b9.trans (below_dn _ _ nq)
          clear l1 l2 Y2 e1
          generalize w9.drewN nq = w10 at *
          go_wp2_with fail
          refine C.mono ?_
          rintro e w11 ⟨rfl, b11⟩
          go_wp2
          go_ret
          exact ⟨rfl, b10.trans (b11.mono b10.size)⟩
        · have d1 : decide (lb ≤ la) = false := decide_eq_false hp
          have e1 : ba ([51] ++ ([32] ++ sgnO (13 + (i : Int)) ++ [32]) ++ (if lvN j ≤ lvN i then [40] ++ brI j ++ [41] else brI j)) = ⟨#[51]⟩ ++ O ++ I := by
            rw [if_neg (by rw [← unhide HLA, ← unhide HLB]; exact hp), ← ba_append, ← ba_append [51], ← unhide HI2, ← unhide HO2]
            rfl
          go_quiet (fail)
          have C := C nq
          rw [e1] at C
          obtain ⟨y0, y1, y2, y3, y4, y5, y6, _⟩ := blk7 (kept_of_below (below_dn w9.heap.size w9 nq) Y2)
          have b10 := b9.trans (below_dn _ _ nq)
          clear l1 l2 Y2 e1
          generalize w9.drewN nq = w10 at *
          go_wp2_with fail
          refine C.mono ?_
          rintro e w11 ⟨rfl, b11⟩
          go_wp2
          go_ret
          exact ⟨rfl, b10.trans (b11.mono b10.size)⟩
end Go.Proofs.YtpblalklenebhaaDoor
