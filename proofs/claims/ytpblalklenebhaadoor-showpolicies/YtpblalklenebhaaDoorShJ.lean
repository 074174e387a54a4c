/-
  strings.Join of texts parted by a comma and a blank.
-/
import Derived.Test.YtpblalklenebhaaDoorVcN
import Derived.Test.YtpblalklenebhaaDoorShP
import Derived.Test.YtpblalklenebhaaDoorExA
namespace Go.Proofs.YtpblalklenebhaaDoor
open Go.RowKit

def sumL (l : List (List UInt8)) : Nat := (l.map List.length).sum
theorem sumL_take (l : List (List UInt8)) (j : Nat) (h : j < l.length) : sumL (l.take (j + 1)) = sumL (l.take j) + l[j].length := by
  unfold sumL
  rw [List.take_succ_eq_append_getElem h, List.map_append, List.sum_append]
  rfl
theorem sumL_le (l : List (List UInt8)) (j : Nat) : sumL (l.take j) ≤ sumL l := by
  have e : sumL l = sumL (l.take j) + sumL (l.drop j) := by
    unfold sumL
    conv => lhs; rw [← List.take_append_drop j l]
    rw [List.map_append, List.sum_append]
  omega
theorem joinS_take (z : List UInt8) : ∀ (l : List (List UInt8)) (j : Nat) (h : j + 1 < l.length), joinS z (l.take (j + 2)) = joinS z (l.take (j + 1)) ++ z ++ l[j + 1]
  | [], j, h => by simp at h
  | s :: l, j, h => by
    have hj : j < l.length := by simpa using h
    rw [List.take_succ_cons, List.take_succ_cons, joinS, joinS, List.take_succ_eq_append_getElem hj, List.flatMap_append]
    simp only [List.flatMap_cons, List.flatMap_nil, List.append_nil, List.append_assoc, List.getElem_cons_succ]
theorem joinS_len (z : List UInt8) : ∀ (l : List (List UInt8)), 0 < l.length → (joinS z l).length = sumL l + z.length * (l.length - 1)
  | [], h => by simp at h
  | s :: l, _ => by
    have e : ∀ m : List (List UInt8), (m.flatMap fun t => z ++ t).length = sumL m + z.length * m.length := by
      intro m
      induction m with
      | nil => simp [sumL]
      | cons a m ih =>
        rw [List.flatMap_cons, List.length_append, ih]
        simp [sumL, Nat.mul_add]
        omega
    rw [joinS, List.length_append, e]
    simp [sumL]
    omega
/-- The cells of a slice of texts. -/
def StrRow (w : World) (ao : Option Addr) (l : List (List UInt8)) : Prop :=
  ∀ j (hj : j < l.length), ∃ b off, ao = some ⟨b, off, none⟩ ∧ b < w.heap.size ∧ w.cell? ⟨b, off + j, none⟩ = some (.string (ba l[j]))
theorem StrRow.below {w w' : World} {ao : Option Addr} {l : List (List UInt8)} (h : StrRow w ao l) (hb : Below w.heap.size w w') : StrRow w' ao l := by
  intro j hj
  obtain ⟨b, off, e, hlt, hc⟩ := h j hj
  have := hb.size
  exact ⟨b, off, e, by omega, (hb.cell (p := ⟨b, off + j, none⟩) hlt).trans hc⟩
theorem baS (l : List UInt8) : (ba l).size = l.length := by
  show l.toArray.size = _
  simp
theorem byteCells_ba (a l : List UInt8) : Lib.byteCells a ++ Lib.strCells (ba l) = Lib.byteCells (a ++ l) := by
  rw [Lib.byteCells_append]
  rfl

set_option maxHeartbeats 4000000 in
set_option maxRecDepth 1000000 in
theorem join_more (l : List (List UInt8)) (n : Nat) (hn : l.length = n) (ao : Option Addr) (c : Nat) (w : World) (h2 : 2 ≤ n) (hc : n ≤ c) (hr : StrRow w ao l) (hlen : (joinS [44, 32] l).length ≤ 100000000000000) :
    Calls Tryd.prog 37 #[.slice ao n c, .string ⟨#[44, 32]⟩] w fun e w' => e = .returned (.string (ba (joinS [44, 32] l))) ∧ Below w.heap.size w w' := by
  have hjl : (joinS [44, 32] l).length = sumL l + 2 * (l.length - 1) := joinS_len [44, 32] l (by omega)
  rw [hn] at hjl
  obtain ⟨g, off, rfl, hg, hx0⟩ := hr 0 (by omega)
  clear hx0
  have hcell : ∀ j (hj : j < l.length), w.cell? ⟨g, off + j, none⟩ = some (.string (ba l[j])) := by
    intro j hj
    obtain ⟨b, o, e, _, h⟩ := hr j hj
    cases e
    exact h
  clear hr
  have HN := hide hn
  have HC := hide hcell
  have hc1 : ¬ c = 1 := by omega
  have i1 : ((n : Int) == 0) = false := beq_false_of_ne (by omega)
  have i2 : ((n : Int) == 1) = false := beq_false_of_ne (by omega)
  have i3 : (2 : Int) < 9223372036854775807 / ((n : Int) - 1) := by
    have : (3 : Int) ≤ 9223372036854775807 / ((n : Int) - 1) := Int.le_ediv_of_mul_le (by omega) (by omega)
    omega
  obtain ⟨S, hS⟩ : ∃ S, S = sumL l := ⟨_, rfl⟩
  obtain ⟨J, hJ⟩ : ∃ J, J = joinS [44, 32] l := ⟨_, rfl⟩
  rw [← hJ] at hjl hlen ⊢
  rw [← hS] at hjl
  have HS := hide hS
  have HJ := hide hJ
  have HL := hide hjl
  have hn2 : 2 * (n - 1) ≤ J.length ∧ S ≤ J.length ∧ 1 ≤ J.length := by omega
  clear hn hcell hS hJ hjl
  go_enter Tryd.func37, Tryd.ntmps37
  go_wp2
  go_loop [5, 41] (fun nv iv => ∃ j m : Nat, j ≤ n ∧ m ≤ 100000000000000 ∧ iv = .int .i64 j ∧ nv = .int .i64 m ∧ Hid (m = 2 * (n - 1) + sumL (l.take j))) (fun _ iv => n - (intOf iv).toNat)
  case atStart => exact ⟨0, 2 * (n - 1), by omega, by omega, rfl, by go_num, hide (by simp [sumL])⟩
  case round =>
    obtain ⟨j, m, hj, hm, rfl, rfl, HM⟩ := hrel
    by_cases hlt : j < n
    · have i4 : (j : Int) < (n : Int) := by omega
      have hlt' : j < l.length := by rw [unhide HN]; exact hlt
      have y := unhide HC j hlt'
      have HT := hide (sumL_take l j hlt')
      have hle : sumL (l.take (j + 1)) ≤ S := by rw [unhide HS]; exact sumL_le l (j + 1)
      have hsz := baS l[j]
      have hm2 : m + (ba l[j]).size ≤ 100000000000000 := by rw [hsz]; have := unhide HM; have := unhide HT; have := unhide HL; omega
      have HZ := hide hsz
      obtain ⟨x, hx⟩ : ∃ x, x = l[j] := ⟨_, rfl⟩
      rw [← hx] at HT HZ hm2 y
      clear hle hx hsz
      generalize ba x = X at *
      have i5 : ¬ (9223372036854775807 : Int) - (m : Int) < (X.size : Int) := by omega
      go_wp2
      go_round
      case rel => exact ⟨j + 1, m + X.size, by omega, hm2, by go_num, by go_num, hide (by rw [unhide HT, unhide HZ, unhide HM]; omega)⟩
      case measure =>
        simp only [intOf]
        omega
    · obtain rfl : j = n := by omega
      have i4 : ¬ (j : Int) < (j : Int) := by omega
      have hmJ : m = J.length := by
        have := unhide HM
        rw [← unhide HN, List.take_length, unhide HN, ← unhide HS] at this
        have := unhide HL
        omega
      subst hmJ
      clear HM
      go_wp2_with fail
      have hnew : (w.alloc (.cells #[.pointer none, .slice none 0 0] 76)).heap[w.heap.size]? = some (.cells #[.pointer none, .slice none 0 0] 76 (0, 0)) := heap_alloc_new w _
      have b01 : Below w.heap.size w (w.alloc (.cells #[.pointer none, .slice none 0 0] 76)) := below1 _ _
      generalize w.alloc _ = w1 at *
      refine (bGrow_fresh w.heap.size w.heap.size J.length w1 (Nat.le_refl _) hnew b01.size (by omega) (by omega)).mono ?_
      rintro e w2 ⟨rfl, hB2, b12⟩
      have b02 := b01.trans b12
      have h0l : 0 < l.length := by rw [unhide HN]; omega
      have d0 := (b02.cell (p := ⟨g, off, none⟩) hg).trans (unhide HC 0 h0l)
      have hs0 : l[0].length ≤ 100000000000000 := by
        have h1 := sumL_take l 0 h0l
        have h2 := sumL_le l 1
        have h3 := unhide HS
        have h4 : sumL (l.take (0 + 1)) ≤ sumL l := h2
        omega
      have W1 := writeString w.heap.size w.heap.size [] (ba l[0]) w2 (.inr (Lib.BuilderAtF.of hB2)) (by rw [baS]; simp; omega) b02.size
      have eb : ([] : List Value) ++ Lib.strCells (ba l[0]) = Lib.byteCells l[0] := byteCells_ba [] l[0]
      rw [eb] at W1
      clear eb
      have HF := hide (show joinS [44, 32] (l.take 1) = l[0] by
        cases l with
        | nil => simp at h0l
        | cons a l => simp [joinS])
      generalize l[0] = x0 at *
      clear hB2 hnew
      go_wp2_with fail
      refine W1.mono ?_
      rintro e w3 ⟨rfl, hB3, b23, _⟩
      have b03 := b02.trans b23
      clear d0 W1
      go_wp2_with fail
      go_loopw [65] (fun iv wr => ∃ k : Nat, k + 1 ≤ j ∧ iv = .int .i64 k ∧ Below w.heap.size w wr ∧ Lib.BuilderAtF 76 5 w.heap.size w.heap.size (.pointer (some ⟨w.heap.size, 0, none⟩)) (Lib.byteCells (joinS [44, 32] (l.take (k + 1)))) wr) (fun iv _ => j - 1 - (intOf iv).toNat)
      case atStart => exact ⟨0, by omega, rfl, b03, by rw [unhide HF]; exact hB3⟩
      case round =>
        obtain ⟨k, hk, rfl, hbw, hBw⟩ := hrel
        by_cases hlt2 : k + 1 < j
        · have i6 : (k : Int) < ((j - 1 : Nat) : Int) := by omega
          have hk' : k + 1 < l.length := by rw [unhide HN]; exact hlt2
          have y := (hbw.cell (p := ⟨g, off + 1 + k, none⟩) hg).trans ((by rw [show off + 1 + k = off + (k + 1) by omega]; exact unhide HC (k + 1) hk') : w.cell? ⟨g, off + 1 + k, none⟩ = some (.string (ba l[k + 1])))
          have hjt := joinS_take [44, 32] l k hk'
          have hjb : (joinS [44, 32] (l.take (k + 2))).length ≤ 100000000000000 := by
            rw [joinS_len _ _ (by rw [List.length_take]; omega)]
            have h1 := sumL_le l (k + 2)
            have h2 := unhide HS
            have h3 := unhide HL
            rw [List.length_take]
            simp only [List.length_cons, List.length_nil]
            omega
          rw [hjt] at hjb
          simp only [List.length_append, List.length_cons, List.length_nil] at hjb
          have HJT := hide hjt
          clear hjt
          generalize joinS [44, 32] (l.take (k + 1)) = A at *
          generalize l[k + 1] = x at *
          have W2 := writeString w.heap.size w.heap.size (Lib.byteCells A) ⟨#[44, 32]⟩ wr (.inr hBw) (by rw [Lib.byteCells_length]; show A.length + 2 ≤ _; omega) hbw.size
          have eb : Lib.byteCells A ++ Lib.strCells (⟨#[44, 32]⟩ : ByteArray) = Lib.byteCells (A ++ [44, 32]) := byteCells_ba A [44, 32]
          rw [eb] at W2
          clear eb
          have hxs := baS x
          have HX := hide hxs
          clear hxs
          go_wp2_with fail
          refine W2.mono ?_
          rintro e w4 ⟨rfl, hB4, b4, _⟩
          have b04 := hbw.trans b4
          have W3 := writeString w.heap.size w.heap.size (Lib.byteCells (A ++ [44, 32])) (ba x) w4 (.inr hB4) (by rw [Lib.byteCells_length, unhide HX]; simp; omega) b04.size
          rw [byteCells_ba] at W3
          clear W2 y
          generalize ba x = X at *
          go_wp2_with fail
          refine W3.mono ?_
          rintro e w5 ⟨rfl, hB5, b5, _⟩
          have b05 := b04.trans b5
          clear W3
          go_wp2
          go_roundw
          case rel => exact ⟨k + 1, by omega, by go_num, b05, by rw [unhide HJT]; exact hB5⟩
          case measure =>
            simp only [intOf]
            omega
        · have i6 : ¬ (k : Int) < ((j - 1 : Nat) : Int) := by omega
          obtain rfl : j = k + 1 := by omega
          have hfin : l.take (k + 1) = l := by rw [← unhide HN]; exact List.take_length
          rw [hfin, ← unhide HJ] at hBw
          have SS := Tryd.Builder_String_any_k w.heap.size w.heap.size J wr (.inr hBw) hbw.size
          clear hfin
          go_wp2_with fail
          refine SS.mono ?_
          rintro e w6 ⟨rfl, _, b6, _⟩
          go_wp2
          go_ret
          exact ⟨rfl, hbw.trans b6⟩

set_option maxHeartbeats 4000000 in
set_option maxRecDepth 1000000 in
theorem join_any (l : List (List UInt8)) (ao : Option Addr) (c : Nat) (w : World) (hc : l.length ≤ c) (hr : StrRow w ao l) (hlen : (joinS [44, 32] l).length ≤ 100000000000000) :
    Calls Tryd.prog 37 #[.slice ao l.length c, .string ⟨#[44, 32]⟩] w fun e w' => e = .returned (.string (ba (joinS [44, 32] l))) ∧ Below w.heap.size w w' := by
  match l, hc, hr, hlen with
  | [], _, _, _ =>
    show Calls Tryd.prog 37 #[.slice ao 0 c, .string ⟨#[44, 32]⟩] w _
    go_enter Tryd.func37, Tryd.ntmps37
    go_wp2
    go_ret
    exact ⟨rfl, Below.refl _ _⟩
  | [s], _, hr, _ =>
    show Calls Tryd.prog 37 #[.slice ao 1 c, .string ⟨#[44, 32]⟩] w _
    obtain ⟨g, off, rfl, hg, h0⟩ := hr 0 (by simp)
    have h0 : w.cell? ⟨g, off, none⟩ = some (.string (ba s)) := h0
    have hj : joinS [44, 32] [s] = s := by simp [joinS]
    rw [hj]
    clear hj hr
    generalize ba s = X at *
    go_enter Tryd.func37, Tryd.ntmps37
    go_wp2
    go_ret
    exact ⟨rfl, Below.refl _ _⟩
  | s :: t :: l, hc, hr, hlen => exact join_more _ _ rfl ao c w (by simp) hc hr hlen
end Go.Proofs.YtpblalklenebhaaDoor
