/-
  sort.partialInsertionSort_func over a short row: what it answers.
  sort.order2_func, median_func, choosePivot_func over a short row: what they answer.
-/
import Derived.Test.YthmmplmppchfmaaMrA
import Derived.Sort.LotA
import Derived.Deep.CutRange
namespace Go.Proofs.Ythmmplmppchfmaa
open Go.RowKit Go.Sort

set_option maxHeartbeats 8000000 in
set_option maxRecDepth 1000000 in
theorem sortPartial_any {w W : World} {B V g cap n : Nat} {d : Array U2} {th : Value} (h : SR w B V g cap d W) (hn : d.size = n) (a b : Nat) (hab : a < b) (hb : b ≤ n) (hsz : n ≤ 49) :
    Calls Try.prog 65 #[.agg #[lessV V, swapV th g n cap], .int .i64 a, .int .i64 b] W fun e W' => ∃ z, e = .returned (.bool z) ∧ (z = true → SortedIn lessU a b d) ∧ SR w B V g cap d W' ∧ KP g W W' := by
  have h1 := SB.new (th := th) h hn
  clear h hn
  unfold lessV swapV at *
  obtain ⟨X, hX⟩ : ∃ X, X = W.heap.size := ⟨_, rfl⟩
  go_enter Try.func65, Try.ntmps65
  go_wp2
  rw [← hX] at h1 ⊢
  generalize W.alloc _ = W1 at *
  clear hX
  refine wp_loop_rounds 1 ?_
  rw [rounds_succ]
  have HS := hide h1
  clear h1
  go_wp2_with fail
  go_loopw [7] (fun v wr2 => ∃ i : Nat, v = .int .i64 i ∧ a < i ∧ i ≤ b ∧ SB w W wr2 B V g cap n X th d ∧ SortedIn lessU a i d) (fun v _ => b - (intOf v).toNat)
  case atStart => exact ⟨a + 1, by go_num, by omega, by omega, unhide HS, fun i j h1 h2 h3 => by omega⟩
  case round =>
    rename World => wr2
    clear HS
    obtain ⟨i, rfl, hi1, hi2, hS, hE⟩ := hrel
    have HE := hide hE
    clear hE
    obtain ⟨z, hz⟩ : ∃ z, z = (decide (i < b) && !lessU d[i]! d[i - 1]!) := ⟨_, rfl⟩
    have HZ := hide hz
    clear hz
    have hij0 : z = true → i < b := fun h => by
      have := unhide HZ
      rw [h] at this
      exact of_decide_eq_true (Bool.and_eq_true_iff.1 this.symm).1
    have HIJ := hide hij0
    clear hij0
    go_upto_region 5 with fail
    go_cut [28] from 17 to 30 (fun c wx => c = .bool z ∧ SB w W wx B V g cap n X th d)
    case first =>
      by_cases hij : i < b
      · have q5 : (i : Int) < (b : Int) := by omega
        have hl := hS.less (i := i) (j := i - 1) (by omega) (by omega)
        rw [show (((i - 1 : Nat) : Int)) = (i : Int) - 1 by omega] at hl
        obtain ⟨y, hy⟩ : ∃ y, y = lessU d[i]! d[i - 1]! := ⟨_, rfl⟩
        rw [← hy] at hl
        have HY := hide hy
        have c0 := hS.c0
        clear hy hS
        go_wp2_with fail
        refine hl.mono ?_
        clear hl c0
        rintro _ w8 ⟨rfl, hS, _⟩
        go_wp2_with fail
        go_meet
        case rel => exact ⟨by rw [unhide HZ, ← unhide HY, decide_eq_true hij]; rfl, hS⟩
      · have q5 : ¬ (i : Int) < (b : Int) := by omega
        go_wp2_with fail
        go_meet
        case rel => exact ⟨by rw [unhide HZ, decide_eq_false hij]; rfl, hS⟩
    case rest =>
      clear hS
      rename World => wx
      obtain ⟨rfl, hS⟩ := hcut
      have HS := hide hS
      clear hS
      cases z
      · by_cases hib : i = b
        · have q7 : ((i : Int) == (b : Int)) = true := by rw [hib]; exact beq_self_eq_true _
          have HE2 := hide (show SortedIn lessU a b d by rw [← hib]; exact unhide HE)
          clear hib HE
          go_wp2
          refine bodyPost_ret (v := .bool true) (by simp [results, Try.results65, go_sem]) rfl ?_
          exact ⟨true, rfl, fun _ => unhide HE2, (unhide HS).sr, (unhide HS).kp⟩
        · have q7 : ((i : Int) == (b : Int)) = false := by simp; omega
          have q8 : (b : Int) - (a : Int) < 50 := by omega
          go_wp2
          refine bodyPost_ret (v := .bool false) (by simp [results, Try.results65, go_sem]) rfl ?_
          exact ⟨false, rfl, fun h => (by cases h), (unhide HS).sr, (unhide HS).kp⟩
      · have hij := unhide HIJ rfl
        have hlt : lessU d[i]! d[i - 1]! = false := by
          have := (Bool.and_eq_true_iff.1 (unhide HZ).symm).2
          simpa using this
        have HE3 := hide (SortedIn.snoc swo_lessU (unhide HE) hlt)
        clear hlt
        go_wp2
        go_roundw
        case rel => exact ⟨i + 1, by go_num, by omega, by omega, unhide HS, unhide HE3⟩
        case measure =>
          simp only [intOf]
          omega
end Go.Proofs.Ythmmplmppchfmaa

namespace Go.Proofs.Ythmmplmppchfmaa
open Go.RowKit Go.Sort

/-- A counter lies at Y. -/
def IsY (W : World) (Y : Nat) : Prop := ∃ s : Int, W.heap[Y]? = some (.cells #[.int .i64 s] 3 (0, 0))
/-- All blocks but Y are as they were. -/
def KY (Y : Nat) (a b : World) : Prop := a.heap.size ≤ b.heap.size ∧ ∀ k, k < a.heap.size → k ≠ Y → b.heap[k]? = a.heap[k]?
theorem KY.trans {Y : Nat} {a b c : World} (h : KY Y a b) (h2 : KY Y b c) : KY Y a c := ⟨Nat.le_trans h.1 h2.1, fun k hk hg => (h2.2 k (Nat.lt_of_lt_of_le hk h.1) hg).trans (h.2 k hk hg)⟩
theorem KY.of {Y : Nat} {a b : World} (h : Below a.heap.size a b) : KY Y a b := ⟨h.size, fun k hk _ => h.block k hk⟩
theorem KY.set {Y : Nat} (a : World) (v : Value) : KY Y a (a.setCell ⟨Y, 0, none⟩ v) := ⟨by simp, fun k _ hg => Below.heap_setCell a ⟨Y, 0, none⟩ v k hg⟩
theorem IsY.below {a b : World} {Y : Nat} (h : IsY a Y) (hb : Below a.heap.size a b) : IsY b Y := by
  obtain ⟨s, h⟩ := h
  exact ⟨s, (hb.block Y (Array.getElem?_eq_some_iff.1 h).1).trans h⟩
theorem SR.setY {w W : World} {B V g cap Y : Nat} {d : Array U2} (h : SR w B V g cap d W) (hB : B ≤ Y) (hV : V ≠ Y) (hg : g ≠ Y) (v : Value) : SR w B V g cap d (W.setCell ⟨Y, 0, none⟩ v) :=
  ⟨h.below.setCell (p := ⟨Y, 0, none⟩) hB v, h.bv, (Below.heap_setCell W ⟨Y, 0, none⟩ v V hV).trans h.v, ownM_kept h.own fun k c f e _ => Below.heap_setCell W ⟨Y, 0, none⟩ v k (fun e2 => by
    have : k = g := by simpa [Value.ownBlock] using e.symm
    exact hg (this.symm.trans e2))⟩
theorem y_ne {w W : World} {B V g cap Y : Nat} {d : Array U2} (h : SR w B V g cap d W) (hY : IsY W Y) : V ≠ Y ∧ g ≠ Y := by
  obtain ⟨s, hY⟩ := hY
  obtain ⟨cur, _, hg, _⟩ := h.block
  have hv := h.v
  constructor
  · intro e
    rw [e, hY] at hv
    injection hv with hv
    injection hv with _ hv
    revert hv
    decide
  · intro e
    rw [e, hY] at hg
    injection hg with hg
    injection hg with _ hg
    revert hg
    decide

set_option maxHeartbeats 4000000 in
set_option maxRecDepth 1000000 in
theorem order2_any {w W : World} {B V g cap n Y : Nat} {d : Array U2} {th : Value} (h : SR w B V g cap d W) (hn : d.size = n) (a b : Nat) (ha : a < n) (hb : b < n) (hY : IsY W Y) (hBY : B ≤ Y) :
    Calls Try.prog 84 #[.agg #[lessV V, swapV th g n cap], .int .i64 a, .int .i64 b, .pointer (some ⟨Y, 0, none⟩)] W fun e W' => ∃ x y : Nat, e = .returned (.tuple #[.int .i64 x, .int .i64 y]) ∧ ((x = a ∧ y = b) ∨ (x = b ∧ y = a)) ∧ SR w B V g cap d W' ∧ IsY W' Y ∧ KY Y W W' := by
  have h1 := SB.new (th := th) h hn
  have hl := h1.less (i := b) (j := a) hb ha
  have hY1 := hY.below (belowA W (.cells #[lessV V, swapV th g n cap] 89))
  have k1 : KY Y W (W.alloc (.cells #[lessV V, swapV th g n cap] 89)) := KY.of (belowA W _)
  have c0 := h1.c0
  clear h h1 hn hY
  unfold lessV swapV at *
  go_enter Try.func84, Try.ntmps84
  go_wp2_with fail
  generalize W.alloc _ = W1 at *
  refine hl.mono ?_
  clear hl c0
  rintro _ w8 ⟨rfl, hS, b8⟩
  have hY8 := hY1.below b8
  have k8 := k1.trans (KY.of b8)
  have hne := y_ne hS.sr hY8
  clear hY1 k1 b8
  generalize lessU d[b]! d[a]! = y at *
  cases y
  · have HF := hide (And.intro hS.sr (And.intro hY8 k8))
    clear hS hY8 k8 hne
    go_wp2
    refine bodyPost_ret (v := .tuple #[.int .i64 (a : Nat), .int .i64 (b : Nat)]) (by simp [results, Try.results84, go_sem]) rfl ?_
    exact ⟨a, b, rfl, .inl ⟨rfl, rfl⟩, unhide HF⟩
  · obtain ⟨s, hs⟩ := hY8
    have q6 : w8.cell? ⟨Y, 0, none⟩ = some (.int .i64 s) := by rw [Lib.cell_of_heap hs]; rfl
    have q7 : w8.frozen? ⟨Y, 0, none⟩ = false := Lib.frozen_of_heap hs 0
    have HF := hide (show ∀ v : Int, SR w B V g cap d (w8.setCell ⟨Y, 0, none⟩ (.int .i64 v)) ∧ IsY (w8.setCell ⟨Y, 0, none⟩ (.int .i64 v)) Y ∧ KY Y W (w8.setCell ⟨Y, 0, none⟩ (.int .i64 v)) from fun v => ⟨hS.sr.setY hBY hne.1 hne.2 _, ⟨v, by
      simp only [World.setCell, Array.getElem?_modify, if_pos, hs]
      rfl⟩, k8.trans (KY.set _ _)⟩)
    clear hS hs k8 hne
    go_wp2
    refine bodyPost_ret (v := .tuple #[.int .i64 (b : Nat), .int .i64 (a : Nat)]) (by simp [results, Try.results84, go_sem]) rfl ?_
    exact ⟨b, a, rfl, .inr ⟨rfl, rfl⟩, unhide HF _⟩

set_option maxHeartbeats 4000000 in
set_option maxRecDepth 1000000 in
theorem median_any {w W : World} {B V g cap n Y : Nat} {d : Array U2} {th : Value} (h : SR w B V g cap d W) (hn : d.size = n) (a b c : Nat) (ha : a < n) (hb : b < n) (hc : c < n) (hY : IsY W Y) (hBY : B ≤ Y) :
    Calls Try.prog 80 #[.agg #[lessV V, swapV th g n cap], .int .i64 a, .int .i64 b, .int .i64 c, .pointer (some ⟨Y, 0, none⟩)] W fun e W' => ∃ x : Nat, e = .returned (.int .i64 x) ∧ (x = a ∨ x = b ∨ x = c) ∧ SR w B V g cap d W' ∧ IsY W' Y ∧ KY Y W W' := by
  have OR := fun (W' : World) (a b : Nat) (h : SR w B V g cap d W') (hY : IsY W' Y) (ha : a < n) (hb : b < n) => order2_any (th := th) h hn a b ha hb hY hBY
  have b1 := belowA W (.cells #[lessV V, swapV th g n cap] 89)
  have hX := heap_alloc_new W (.cells #[lessV V, swapV th g n cap] 89)
  have h1 := h.grow b1
  have hY1 := hY.below b1
  have k1 : KY Y W (W.alloc (.cells #[lessV V, swapV th g n cap] 89)) := KY.of b1
  have hXY : W.heap.size ≠ Y := by
    obtain ⟨s, hs⟩ := hY
    have := (Array.getElem?_eq_some_iff.1 hs).1
    omega
  clear h hn hY
  unfold lessV swapV at *
  obtain ⟨X, hXe⟩ : ∃ X, X = W.heap.size := ⟨_, rfl⟩
  rw [← hXe] at hX hXY
  have HXE := hide hXe
  clear hXe b1
  have c0 := (show (W.alloc (.cells #[.func (.func 27) #[] #[.pointer (some ⟨V, 0, none⟩)], .func (.func 57) #[] #[.slice (some ⟨g, 0, none⟩) n cap, th]] 89)).cell? ⟨X, 0, none⟩ = some (.func (.func 27) #[] #[.pointer (some ⟨V, 0, none⟩)]) by rw [Lib.cell_of_heap hX]; rfl)
  have c1 := (show (W.alloc (.cells #[.func (.func 27) #[] #[.pointer (some ⟨V, 0, none⟩)], .func (.func 57) #[] #[.slice (some ⟨g, 0, none⟩) n cap, th]] 89)).cell? ⟨X, 1, none⟩ = some (.func (.func 57) #[] #[.slice (some ⟨g, 0, none⟩) n cap, th]) by rw [Lib.cell_of_heap hX]; rfl)
  have O1 := OR _ a b h1 hY1 ha hb
  go_enter Try.func80, Try.ntmps80
  go_upto_region 1 with fail
  rw [← unhide HXE]
  clear HXE
  generalize W.alloc _ = W1 at *
  clear h1 hY1
  go_wp2_with fail
  refine O1.mono ?_
  clear O1 c0 c1
  rintro _ w2 ⟨x1, y1, rfl, hxy1, h2, hY2, k2⟩
  have k02 := k1.trans k2
  have hX2 := (k2.2 X (Array.getElem?_eq_some_iff.1 hX).1 hXY).trans hX
  have hx1 : x1 < n := by omega
  have hy1 : y1 < n := by omega
  have c0 : w2.cell? ⟨X, 0, none⟩ = some (.func (.func 27) #[] #[.pointer (some ⟨V, 0, none⟩)]) := by rw [Lib.cell_of_heap hX2]; rfl
  have c1 : w2.cell? ⟨X, 1, none⟩ = some (.func (.func 57) #[] #[.slice (some ⟨g, 0, none⟩) n cap, th]) := by rw [Lib.cell_of_heap hX2]; rfl
  have O2 := OR _ y1 c h2 hY2 hy1 hc
  have HXY1 := hide hxy1
  clear hX k1 k2 h2 hY2 hxy1
  go_wp2_with fail
  refine O2.mono ?_
  clear O2 c0 c1
  rintro _ w3 ⟨x2, y2, rfl, hxy2, h3, hY3, k3⟩
  have k03 := k02.trans k3
  have hX3 := (k3.2 X (Array.getElem?_eq_some_iff.1 hX2).1 hXY).trans hX2
  have hx2 : x2 < n := by omega
  have c0 : w3.cell? ⟨X, 0, none⟩ = some (.func (.func 27) #[] #[.pointer (some ⟨V, 0, none⟩)]) := by rw [Lib.cell_of_heap hX3]; rfl
  have c1 : w3.cell? ⟨X, 1, none⟩ = some (.func (.func 57) #[] #[.slice (some ⟨g, 0, none⟩) n cap, th]) := by rw [Lib.cell_of_heap hX3]; rfl
  have O3 := OR _ x1 x2 h3 hY3 hx1 hx2
  have HXY2 := hide hxy2
  clear hX2 k02 k3 h3 hY3 hxy2 OR
  go_wp2_with fail
  refine O3.mono ?_
  clear O3 c0 c1
  rintro _ w4 ⟨x3, y3, rfl, hxy3, h4, hY4, k4⟩
  have HF := hide (show (y3 = a ∨ y3 = b ∨ y3 = c) ∧ SR w B V g cap d w4 ∧ IsY w4 Y ∧ KY Y W w4 from ⟨by have := unhide HXY1; have := unhide HXY2; omega, h4, hY4, k03.trans k4⟩)
  clear hxy3 h4 hY4 k03 k4 hX3 HXY1 HXY2
  go_wp2
  refine bodyPost_ret (v := .int .i64 (y3 : Nat)) (by simp [results, Try.results80, go_sem]) rfl ?_
  exact ⟨y3, rfl, unhide HF⟩

set_option maxHeartbeats 4000000 in
set_option maxRecDepth 1000000 in
theorem sortPivot_any {w W : World} {B V g cap n : Nat} {d : Array U2} {th : Value} (h : SR w B V g cap d W) (hn : d.size = n) (a b : Nat) (hab : a + 8 ≤ b) (hb : b ≤ n) (hsz : n ≤ 49) :
    Calls Try.prog 63 #[.agg #[lessV V, swapV th g n cap], .int .i64 a, .int .i64 b] W fun e W' => ∃ (p : Nat) (t : Int), e = .returned (.tuple #[.int .i64 p, .int .i64 t]) ∧ a ≤ p ∧ p < b ∧ (t = 0 ∨ t = 1 ∨ t = 2) ∧ SR w B V g cap d W' ∧ KP g W W' := by
  have hgl := h.lt
  have h1 := h.grow (belowA W (.cells #[lessV V, swapV th g n cap] 89))
  have hX := heap_alloc_new W (.cells #[lessV V, swapV th g n cap] 89)
  have b2 := belowA (W.alloc (.cells #[lessV V, swapV th g n cap] 89)) (.cells #[.int .i64 0] 3)
  have h2 := h1.grow b2
  have hX2 := (b2.block _ (Array.getElem?_eq_some_iff.1 hX).1).trans hX
  have hY2 := heap_alloc_new (W.alloc (.cells #[lessV V, swapV th g n cap] 89)) (.cells #[.int .i64 0] 3)
  have b02 := (belowA W (.cells #[lessV V, swapV th g n cap] 89)).trans (b2.mono (belowA W (.cells #[lessV V, swapV th g n cap] 89)).size)
  have hleS := h.leS
  rw [sizeA] at hY2
  obtain ⟨Y, hYe⟩ : ∃ Y, Y = W.heap.size + 1 := ⟨_, rfl⟩
  rw [← hYe] at hY2
  have hWY : W.heap.size < Y := by omega
  have HYE := hide hYe
  have MD := fun (W' : World) (a b c : Nat) (h : SR w B V g cap d W') (hY : IsY W' Y) (ha : a < n) (hb : b < n) (hc : c < n) => median_any (th := th) h hn a b c ha hb hc hY (by omega)
  obtain ⟨l, hl⟩ : ∃ l, b = a + l := ⟨b - a, by omega⟩
  have el : (b : Int) - (a : Int) = (l : Int) := by omega
  have l8 : 8 ≤ l := by omega
  have ha49 : a ≤ 49 := by omega
  have hbn : b ≤ n := hb
  have l50 : l < 50 := by omega
  obtain ⟨q, hq⟩ : ∃ q, q = l / 4 := ⟨_, rfl⟩
  have hq1 : q * 4 ≤ l := by omega
  have hq2 : 2 ≤ q := by omega
  have M2 := MD _ (a + q * 1) (a + q * 2) (a + q * 3) h2 ⟨0, hY2⟩ (by omega) (by omega) (by omega)
  have HL := hide hl
  have HQ := hide hq
  clear h h1 h2 hYe hl hq hX MD b2 hb hab
  unfold lessV swapV at *
  go_enter Try.func63, Try.ntmps63
  go_upto_region 6 with fail
  have hlq : (l : Int) / 4 = (q : Int) := by rw [unhide HQ]; rfl
  rw [hlq, show (a : Int) + (q : Int) * 2 = ((a + q * 2 : Nat) : Int) by simp, show (a : Int) + (q : Int) * 3 = ((a + q * 3 : Nat) : Int) by simp, show (a : Int) + (q : Int) = ((a + q * 1 : Nat) : Int) by simp, ← unhide HYE]
  clear hlq
  have hX3 := Array.getElem?_eq_some_iff.1 hX2
  have hXlt := hX3.1
  clear hX3
  generalize (W.alloc _).alloc _ = W2 at *
  have HI := hide (show a + q * 1 < b ∧ a + q * 2 < b ∧ a + q * 3 < b by have := unhide HL; omega)
  have HW := hide hWY
  have HXL := hide hXlt
  have HX2 := hide hX2
  have c0 : W2.cell? ⟨W.heap.size, 0, none⟩ = some (.func (.func 27) #[] #[.pointer (some ⟨V, 0, none⟩)]) := by rw [Lib.cell_of_heap hX2]; rfl
  have c1 : W2.cell? ⟨W.heap.size, 1, none⟩ = some (.func (.func 57) #[] #[.slice (some ⟨g, 0, none⟩) n cap, th]) := by rw [Lib.cell_of_heap hX2]; rfl
  have q8 : (8 : Int) ≤ (l : Int) := by omega
  have q50 : ¬ (50 : Int) ≤ (l : Int) := by omega
  have HA := hide (show a ≤ a + q * 1 ∧ a ≤ a + q * 2 ∧ a ≤ a + q * 3 by omega)
  generalize a + q * 1 = x1 at *
  generalize a + q * 2 = x2 at *
  generalize a + q * 3 = x3 at *
  go_wp2_with fail
  refine M2.mono ?_
  clear M2 c0 c1
  rintro _ w3 ⟨x, rfl, hx, h3, ⟨s, hs⟩, k3⟩
  have cY : w3.cell? ⟨Y, 0, none⟩ = some (.int .i64 s) := by rw [Lib.cell_of_heap hs]; rfl
  have HF := hide (show a ≤ x ∧ x < b ∧ SR w B V g cap d w3 ∧ KP g W w3 from by
    obtain ⟨i1, i2, i3⟩ := unhide HI
    refine ⟨?_, ?_, h3, Nat.le_trans b02.size k3.1, fun k hk hg => ?_⟩
    · have := unhide HA
      omega
    · omega
    · have := unhide HW
      exact (k3.2 k (Nat.lt_of_lt_of_le hk b02.size) (by omega)).trans (b02.block k hk))
  clear hx h3 hs k3
  by_cases s0 : s = 0
  · have e0 : (s == 0) = true := by simpa using s0
    clear s0
    go_wp2
    refine bodyPost_ret (v := .tuple #[.int .i64 (x : Nat), .int .i64 1]) (by simp [results, Try.results63, go_sem]) rfl ?_
    exact ⟨x, 1, rfl, (unhide HF).1, (unhide HF).2.1, .inr (.inl rfl), (unhide HF).2.2⟩
  · have e0 : (s == 0) = false := by simpa using s0
    by_cases s12 : s = 12
    · have e1 : (s == 12) = true := by simpa using s12
      clear s0 s12
      go_wp2
      refine bodyPost_ret (v := .tuple #[.int .i64 (x : Nat), .int .i64 2]) (by simp [results, Try.results63, go_sem]) rfl ?_
      exact ⟨x, 2, rfl, (unhide HF).1, (unhide HF).2.1, .inr (.inr rfl), (unhide HF).2.2⟩
    · have e1 : (s == 12) = false := by simpa using s12
      clear s0 s12
      go_wp2
      refine bodyPost_ret (v := .tuple #[.int .i64 (x : Nat), .int .i64 0]) (by simp [results, Try.results63, go_sem]) rfl ?_
      exact ⟨x, 0, rfl, (unhide HF).1, (unhide HF).2.1, .inl rfl, (unhide HF).2.2⟩
end Go.Proofs.Ythmmplmppchfmaa
