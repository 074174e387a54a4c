/-
  A row of uids that is sorted in place: its state, what its comparison returns, an exchange.
  sort.insertionSort_func over a row of uids: what it does.
  sort.Slice over a row of 2 to 12 uids: what it does.
  math/bits.Len of small numbers, sort.Slice over a row of 2 to 12 uids: what they do.
  Plain: a row of uids that are all unlike, sorted: it rises, and has the same uids.
-/
import Derived.Test.YthmmplmppchfmaaMqPI
import Derived.Test.YthmmplmppchfmaaEpA
import Derived.Sort.Defs
import Derived.Sort.Lot0
import Derived.Lib.ReflectliteSwap
import Derived.Laws.Externs
import Derived.Lib.ReflectliteSlice
import Derived.Sort.LotA
namespace Go.Proofs.Ythmmplmppchfmaa
open Go.RowKit Go.Sort

instance : Inhabited U2 := ⟨⟨⟨#[]⟩, ⟨#[]⟩⟩⟩
/-- The variable's block V, the row's block g; all below B is as it was in w. -/
structure SR (w : World) (B V g cap : Nat) (d : Array U2) (W : World) : Prop where
  below : Below B w W
  bv : B ≤ V
  v : W.heap[V]? = some (.cells #[.slice (some ⟨g, 0, none⟩) d.size cap] 30 (0, 0))
  own : W.ownsRow B 28 2 (.slice (some ⟨g, 0, none⟩) d.size cap) d.size (d.toList.map U2.cells).flatten
theorem SR.leS {w W : World} {B V g cap : Nat} {d : Array U2} (h : SR w B V g cap d W) : B ≤ W.heap.size := Nat.le_trans h.bv (Nat.le_of_lt (Array.getElem?_eq_some_iff.1 h.v).1)
theorem SR.grow {w W W' : World} {B V g cap : Nat} {d : Array U2} (h : SR w B V g cap d W) (hb : Below W.heap.size W W') : SR w B V g cap d W' :=
  ⟨h.below.trans (hb.mono h.leS), h.bv, (hb.block V (Array.getElem?_eq_some_iff.1 h.v).1).trans h.v, ownM_kept h.own fun g _ _ _ hg => hb.block g (Array.getElem?_eq_some_iff.1 hg).1⟩
theorem SR.block {w W : World} {B V g cap : Nat} {d : Array U2} (h : SR w B V g cap d W) : ∃ cur : Array Value, B ≤ g ∧ W.heap[g]? = some (.cells cur 28 (0, 0)) ∧ d.size ≤ cap ∧ cur.size = cap * 2 ∧ cur.toList.take (d.size * 2) = (d.toList.map U2.cells).flatten := by
  rcases h.own.2 with ⟨e, _⟩ | ⟨g', cap', cur, e, h1, h2, h3, _, h5, h6⟩
  · cases e
  · injection e with e1 _ e3
    injection e1 with e1
    injection e1 with e1
    subst e1 e3
    exact ⟨cur, h1, h2, h3, h5, h6⟩
theorem SR.ne {w W : World} {B V g cap : Nat} {d : Array U2} (h : SR w B V g cap d W) : V ≠ g := fun e => by
  obtain ⟨cur, _, h2, _⟩ := h.block
  have h1 := h.v
  rw [e, h2] at h1
  injection h1 with h1
  injection h1 with _ h1
  revert h1
  decide
theorem flatU_at : ∀ (l : List U2) (q : Nat) (hq : q < l.length), ((l.map U2.cells).flatten)[q * 2]? = some (.string l[q].t) ∧ ((l.map U2.cells).flatten)[q * 2 + 1]? = some (.string l[q].i)
  | [], q, hq => absurd hq (Nat.not_lt_zero _)
  | a :: l, 0, _ => ⟨rfl, rfl⟩
  | a :: l, q + 1, hq => by
    obtain ⟨g1, g2⟩ := flatU_at l q (by simpa using hq)
    rw [List.map_cons, List.flatten_cons, show (q + 1) * 2 = q * 2 + 2 by omega]
    exact ⟨by rw [List.getElem?_append_right (by show 2 ≤ _; omega)]; exact g1, by rw [List.getElem?_append_right (by show 2 ≤ _; omega)]; exact g2⟩
theorem flat_ext {xs : List Value} {l : List U2} (hs : xs.length = l.length * 2) (h : ∀ q (hq : q < l.length), xs[q * 2]? = some (.string l[q].t) ∧ xs[q * 2 + 1]? = some (.string l[q].i)) : xs = (l.map U2.cells).flatten := by
  apply List.ext_getElem?
  intro t
  by_cases ht : t < l.length * 2
  · have hq : t / 2 < l.length := by omega
    have e : t = t / 2 * 2 ∨ t = t / 2 * 2 + 1 := by omega
    rcases e with e | e
    · rw [e, (h _ hq).1, (flatU_at l _ hq).1]
    · rw [e, (h _ hq).2, (flatU_at l _ hq).2]
  · rw [List.getElem?_eq_none (by omega), List.getElem?_eq_none (by rw [flatU_len]; omega)]
theorem SR.at {w W : World} {B V g cap : Nat} {d : Array U2} (h : SR w B V g cap d W) {i : Nat} (hi : i < d.size) : AtE2 W g (i * 2) d[i]! := by
  obtain ⟨g', c, e, _, _, A⟩ := rowU_own h.own (j := i) (by simpa using hi)
  injection e with e1
  injection e1 with e1
  injection e1 with e1
  subst e1
  rw [getElem!_pos d i hi]
  simpa using A
theorem SR.lt {w W : World} {B V g cap : Nat} {d : Array U2} (h : SR w B V g cap d W) : g < W.heap.size := by
  obtain ⟨cur, _, h2, _⟩ := h.block
  exact (Array.getElem?_eq_some_iff.1 h2).1

set_option maxHeartbeats 2000000 in
set_option maxRecDepth 1000000 in
theorem sless_any {w W : World} {B V g cap : Nat} {d : Array U2} (h : SR w B V g cap d W) {i j : Nat} (hi : i < d.size) (hj : j < d.size) :
    Calls Try.prog 27 #[.int .i64 i, .int .i64 j, .pointer (some ⟨V, 0, none⟩)] W fun e W' => e = .returned (.bool (lessU d[i]! d[j]!)) ∧ Below W.heap.size W W' := by
  have A := (h.at hi).up
  have D := (h.at hj).up
  have C := vlessUid_any d[i]! d[j]!
  have cV : W.cell? ⟨V, 0, none⟩ = some (.slice (some ⟨g, 0, none⟩) d.size cap) := by rw [Lib.cell_of_heap h.v]; rfl
  clear h
  generalize d[i]! = x at *
  generalize d[j]! = z at *
  generalize lessU x z = y at *
  unfold U2.val at C
  have cS := fun d os => Calls.regrown_of (w := W) (d := d) (os := os) (C (grow (redrawn W d) os))
  have cV' := cell_regrown cV
  obtain ⟨a0, a1⟩ := A
  obtain ⟨d0, d1⟩ := D
  generalize d.size = n at *
  have k0 : (0 : Int) ≤ (i : Int) := by omega
  have k1 : (i : Int) < (n : Int) := by omega
  have k2 : (0 : Int) ≤ (j : Int) := by omega
  have k3 : (j : Int) < (n : Int) := by omega
  clear C cV
  go_enter Try.func27, Try.ntmps27
  go_wp2_with fail
  refine wp_region_quiet_below (by kernel_rfl) (by kernel_rfl) ?_
  repeat (quiet_step (exact cS _ _))
  refine wpQuiet_nil ?_
  intro _ hw'
  obtain ⟨⟨dq, osq⟩, hw''⟩ := hw'
  subst hw''
  have b1 := below_regrown W dq osq
  go_wp2
  go_ret
  exact ⟨rfl, b1⟩

theorem heap_set2 {W : World} {g o : Nat} {cur : Array Value} {T : TypeId} {fr : Nat × Nat} (h : W.heap[g]? = some (.cells cur T fr)) (x y : Value) : (W.setCells g o [x, y]).heap[g]? = some (.cells ((cur.setIfInBounds o x).setIfInBounds (o + 1) y) T fr) := by
  simp only [World.setCells, World.setCell, Array.getElem?_modify, if_pos, h]
  rfl
theorem SR.swap {w W : World} {B V g cap : Nat} {d : Array U2} (h : SR w B V g cap d W) {i j : Nat} (hi : i < d.size) (hj : j < d.size) :
    SR w B V g cap (swp d i j) ((W.setCells g (0 + i * 2) d[j]!.cells).setCells g (0 + j * 2) d[i]!.cells) := by
  obtain ⟨cur, h1, h2, h3, h4, h5⟩ := h.block
  have hs : (swp d i j).size = d.size := size_swp d i j
  have e1 := heap_set2 (o := 0 + i * 2) h2 (.string d[j]!.t) (.string d[j]!.i)
  have e2 := heap_set2 (o := 0 + j * 2) e1 (.string d[i]!.t) (.string d[i]!.i)
  have hV : ((W.setCells g (0 + i * 2) d[j]!.cells).setCells g (0 + j * 2) d[i]!.cells).heap[V]? = W.heap[V]? := (heap_setCells h.ne _ _ _).trans (heap_setCells h.ne _ _ _)
  refine ⟨belowSetCells _ _ _ (belowSetCells _ _ _ h.below h1) h1, h.bv, by rw [hV, hs]; exact h.v, by rw [hs, ← hs, flatU_len, Array.length_toList, hs], .inr ⟨g, cap, _, by rw [hs], h1, e2, by rw [hs]; exact h3, ?_, by simpa using h4, ?_⟩⟩
  · rcases h.own.2 with ⟨e, _⟩ | ⟨g', cap', cur', e, _, _, _, h6, _⟩
    · cases e
    · injection e with _ _ e3
      rw [e3]
      exact h6
  · have hc : ∀ q (hq : q < d.size), cur[q * 2]? = some (.string d[q]!.t) ∧ cur[q * 2 + 1]? = some (.string d[q]!.i) := fun q hq => by
      have hf := flatU_at d.toList q (by simpa using hq)
      rw [← h5, List.getElem?_take, List.getElem?_take, if_pos (by omega), if_pos (by omega)] at hf
      rw [getElem!_pos d q hq]
      simpa using hf
    apply flat_ext
    · rw [List.length_take, Array.length_toList, Array.length_toList, hs]
      simp only [Array.size_setIfInBounds, h4]
      omega
    · intro q hq
      have hq' : q < d.size := by simpa [hs] using hq
      have hg : (swp d i j).toList[q] = (swp d i j)[q]! := by
        rw [getElem!_pos (swp d i j) q (by rw [hs]; exact hq')]
        simp
      rw [hg, hs, List.getElem?_take, List.getElem?_take, if_pos (by omega), if_pos (by omega)]
      simp only [Array.getElem?_toList, Array.getElem?_setIfInBounds, Array.size_setIfInBounds, h4, Nat.zero_add]
      obtain ⟨c0, c1⟩ := hc q hq'
      have hw : (swp d i j)[q]! = if q = j then d[i]! else if q = i then d[j]! else d[q]! := by
        unfold swp
        rw [getElem!_def, Array.getElem?_setIfInBounds, Array.getElem?_setIfInBounds, Array.size_setIfInBounds]
        by_cases a : q = j
        · subst a
          rw [if_pos rfl, if_pos hj, if_pos rfl]
        · rw [if_neg (fun e => a e.symm), if_neg a]
          by_cases b : q = i
          · subst b
            rw [if_pos rfl, if_pos hi, if_pos rfl]
          · rw [if_neg (fun e => b e.symm), if_neg b, getElem!_def]
      by_cases a : q = j
      · rw [show (swp d i j)[q]! = d[i]! from by rw [hw, if_pos a]]
        subst a
        constructor
        · rw [if_neg (by omega), if_pos rfl, if_pos (by omega)]
        · rw [if_pos rfl, if_pos (by omega)]
      · rw [if_neg a] at hw
        by_cases b : q = i
        · rw [show (swp d i j)[q]! = d[j]! from by rw [hw, if_pos b]]
          subst b
          constructor
          · rw [if_neg (by omega), if_neg (by omega), if_neg (by omega), if_pos rfl, if_pos (by omega)]
          · rw [if_neg (by omega), if_neg (by omega), if_pos rfl, if_pos (by omega)]
        · rw [show (swp d i j)[q]! = d[q]! from by rw [hw, if_neg b]]
          constructor
          · rw [if_neg (by omega), if_neg (by omega), if_neg (by omega), if_neg (by omega)]
            exact c0
          · rw [if_neg (by omega), if_neg (by omega), if_neg (by omega), if_neg (by omega)]
            exact c1
end Go.Proofs.Ythmmplmppchfmaa

namespace Go.Proofs.Ythmmplmppchfmaa
open Go.RowKit Go.Sort

theorem aggUid (W : World) : (isAgg 28).run Try.prog W = .ok true W := by kernel_rfl
theorem sswap_run {w W : World} {B V g cap n : Nat} {d : Array U2} (h : SR w B V g cap d W) (hn : d.size = n) {i j : Nat} (hi : i < n) (hj : j < n) :
    (callFunc 57 #[.int .i64 i, .int .i64 j, .slice (some ⟨g, 0, none⟩) n cap, typeHandle Try.prog 28]).run Try.prog W = .ok (.value (.tuple #[])) ((W.setCells g (0 + i * 2) d[j]!.cells).setCells g (0 + j * 2) d[i]!.cells) := by
  subst hn
  obtain ⟨i0, hi0, hz0, hz1, hz2⟩ := info_parts infoUidM
  obtain ⟨cur, _, h2, _⟩ := h.block
  have hfr : ∀ k, W.frozen? ⟨g, k, none⟩ = false := fun k => by simp [World.frozen?, h2]
  have cc : ∀ x, x < d.size → ∀ u v, (d[x]!.cells)[u]? = some v → W.cell? ⟨g, 0 + x * i0.size + u, none⟩ = some v := fun x hx u v hv => by
    have A := h.at hx
    rw [hz1, Nat.zero_add]
    match u, hv with
    | 0, hv => cases hv; simpa using A.c0
    | 1, hv => cases hv; exact A.c1
    | _ + 2, hv => simp [U2.cells] at hv
  have h1 : ∀ x : U2, ∀ v ∈ x.cells, v.oneCell' = true := fun x v hv => by
    simp only [U2.cells, List.mem_cons, List.not_mem_nil, or_false] at hv
    rcases hv with rfl | rfl <;> rfl
  have := Lib.run_swap_cells (P := Try.prog) false 28 i0 hi0 aggUid g 0 d.size cap i j hi hj d[i]!.cells d[j]!.cells (by rw [hz1]; rfl) (by rw [hz1]; rfl) (h1 _) (h1 _) W (cc i hi) (cc j hj) (fun u _ => hfr _) (fun u _ => hfr _)
  rw [run_callFunc_extern Try.func57 (by kernel_rfl) (by kernel_rfl) (by kernel_rfl) (e := Extern.ReflectliteSwapper.swap false) (by kernel_rfl), this, hz1]
  rfl
theorem insInner_on {lt : U2 → U2 → Bool} (a j : Nat) (d : Array U2) (hj : a < j) (hl : lt d[j]! d[j - 1]! = true) : insInner lt a j d = insInner lt a (j - 1) (swp d j (j - 1)) := by
  obtain ⟨k, rfl⟩ : ∃ k, j = k + 1 := ⟨j - 1, by omega⟩
  rw [insInner]
  rw [Nat.add_sub_cancel] at hl ⊢
  rw [hl, decide_eq_true hj]
  rfl
theorem insInner_off {lt : U2 → U2 → Bool} (a j : Nat) (d : Array U2) (h : j ≤ a ∨ lt d[j]! d[j - 1]! = false) : insInner lt a j d = d := by
  cases j with
  | zero => rw [insInner]
  | succ k =>
    rw [insInner]
    rw [Nat.add_sub_cancel] at h
    rcases h with h | h
    · rw [decide_eq_false (by omega)]
      rfl
    · rw [h, Bool.and_false]
      rfl
theorem insOuter_on {lt : U2 → U2 → Bool} (a b i : Nat) (d : Array U2) (h : i < b) : insOuter lt a b i d = insOuter lt a b (i + 1) (insInner lt a i d) := by rw [insOuter, if_pos h]
theorem insOuter_off {lt : U2 → U2 → Bool} (a b i : Nat) (d : Array U2) (h : ¬ i < b) : insOuter lt a b i d = d := by rw [insOuter, if_neg h]
theorem size_insInner {lt : U2 → U2 → Bool} (a : Nat) : ∀ (j : Nat) (d : Array U2), (insInner lt a j d).size = d.size
  | 0, d => by rw [insInner]
  | j + 1, d => by
    rw [insInner]
    split
    · rw [size_insInner a j, size_swp]
    · rfl
/-- What is handed to the sort: the comparison, the exchange. -/
def lessV (V : Nat) : Value := .func (.func 27) #[] #[.pointer (some ⟨V, 0, none⟩)]
def swapV (th : Value) (g n cap : Nat) : Value := .func (.func 57) #[] #[.slice (some ⟨g, 0, none⟩) n cap, th]

set_option maxHeartbeats 4000000 in
set_option maxRecDepth 1000000 in
theorem sortIns_any {w W : World} {B V g cap n : Nat} {d : Array U2} {th : Value} (hth : th = typeHandle Try.prog 28) (h : SR w B V g cap d W) (hn : d.size = n) (a b : Nat) (hab : a ≤ b) (hb : b ≤ n) (hsz : n ≤ 1000000) :
    Calls Try.prog 60 #[.agg #[lessV V, swapV th g n cap], .int .i64 a, .int .i64 b] W fun e W' => e = .returned (.tuple #[]) ∧ (insertionSort lessU d a b).size = n ∧ SR w B V g cap (insertionSort lessU d a b) W' := by
  have b1 := belowA W (.cells #[lessV V, swapV th g n cap] 89)
  have hbx := heap_alloc_new W (.cells #[lessV V, swapV th g n cap] 89)
  have h1 := h.grow b1
  have HTH := hide hth
  clear h b1 hth
  unfold lessV swapV at *
  obtain ⟨X, hX⟩ : ∃ X, X = W.heap.size := ⟨_, rfl⟩
  go_enter Try.func60, Try.ntmps60
  go_wp2
  rw [← hX] at hbx ⊢
  generalize W.alloc _ = W1 at *
  clear hX
  go_loopw [6] (fun vi wr => ∃ (i : Nat) (dk : Array U2), vi = .int .i64 i ∧ a < i ∧ i ≤ b + 1 ∧ dk.size = n ∧ SR w B V g cap dk wr ∧ wr.heap[X]? = some (.cells #[.func (.func 27) #[] #[.pointer (some ⟨V, 0, none⟩)], .func (.func 57) #[] #[.slice (some ⟨g, 0, none⟩) n cap, th]] 89 (0, 0)) ∧ insOuter lessU a b i dk = insOuter lessU a b (a + 1) d) (fun vi _ => b + 1 - (intOf vi).toNat)
  case atStart => exact ⟨a + 1, d, by go_num, by omega, by omega, hn, h1, hbx, rfl⟩
  case round =>
    obtain ⟨i, dk, rfl, hai, hib, hsk, hS, hX, hO⟩ := hrel
    have HO := hide hO
    clear hO h1 hbx
    by_cases hlt : i < b
    · have i1 : (i : Int) < (b : Int) := by omega
      go_wp2
      go_loopw [7] (fun vj wr2 => ∃ (j : Nat) (dj : Array U2), vj = .int .i64 j ∧ a ≤ j ∧ j ≤ i ∧ dj.size = n ∧ SR w B V g cap dj wr2 ∧ wr2.heap[X]? = some (.cells #[.func (.func 27) #[] #[.pointer (some ⟨V, 0, none⟩)], .func (.func 57) #[] #[.slice (some ⟨g, 0, none⟩) n cap, th]] 89 (0, 0)) ∧ insInner lessU a j dj = insInner lessU a i dk) (fun vj _ => (intOf vj).toNat)
      case atStart => exact ⟨i, dk, rfl, by omega, Nat.le_refl _, hsk, hS, hX, rfl⟩
      case round =>
        clear hS hX
        obtain ⟨j, dj, rfl, haj, hji, hsj, hS, hX, hI⟩ := hrel
        have HI := hide hI
        have c0 : wr.cell? ⟨X, 0, none⟩ = some (.func (.func 27) #[] #[.pointer (some ⟨V, 0, none⟩)]) := by rw [Lib.cell_of_heap hX]; rfl
        clear hI
        by_cases hja : a < j
        · have j1 : (a : Int) < (j : Int) := by omega
          have hl := sless_any hS (i := j) (j := j - 1) (by omega) (by omega)
          rw [show (((j - 1 : Nat) : Int)) = (j : Int) - 1 by omega] at hl
          obtain ⟨y, hy⟩ : ∃ y, y = lessU dj[j]! dj[j - 1]! := ⟨_, rfl⟩
          rw [← hy] at hl
          have HY := hide hy
          have HS := hide hS
          have HX := hide hX
          have HN := hide hsj
          clear hy hS hX hsj
          go_wp2_with fail
          refine hl.mono ?_
          clear hl
          rintro _ w' ⟨rfl, b4⟩
          have hS := (unhide HS).grow b4
          have hX := (b4.block X (Array.getElem?_eq_some_iff.1 (unhide HX)).1).trans (unhide HX)
          clear HS HX c0 b4
          cases y
          · have HS := hide hS
            have HX := hide hX
            clear hS hX
            go_wp2
            go_roundw
            case rel => exact ⟨i + 1, dj, by go_num, by omega, by omega, unhide HN, unhide HS, unhide HX, by rw [← unhide HO, insOuter_on a b i dk hlt, ← unhide HI, insInner_off _ _ _ (.inr (unhide HY).symm)]⟩
            case measure =>
              simp only [intOf]
              omega
          · have c1 : w'.cell? ⟨X, 1, none⟩ = some (.func (.func 57) #[] #[.slice (some ⟨g, 0, none⟩) n cap, th]) := by rw [Lib.cell_of_heap hX]; rfl
            have hs := sswap_run hS (unhide HN) (i := j) (j := j - 1) (by omega) (by omega)
            rw [show (((j - 1 : Nat) : Int)) = (j : Int) - 1 by omega, ← unhide HTH] at hs
            have h2 := hS.swap (i := j) (j := j - 1) (by have := unhide HN; omega) (by have := unhide HN; omega)
            have hX2 : ((w'.setCells g (0 + j * 2) dj[j - 1]!.cells).setCells g (0 + (j - 1) * 2) dj[j]!.cells).heap[X]? = w'.heap[X]? := by
              have hne : X ≠ g := fun e => by
                obtain ⟨cur, _, e2, _⟩ := hS.block
                rw [← e, hX] at e2
                injection e2 with e2
                injection e2 with _ e2
                revert e2
                decide
              exact (heap_setCells hne _ _ _).trans (heap_setCells hne _ _ _)
            have HS := hide h2
            have HX := hide (hX2.trans hX)
            clear hS hX h2 hX2
            generalize (w'.setCells g (0 + j * 2) dj[j - 1]!.cells).setCells g (0 + (j - 1) * 2) dj[j]!.cells = w5 at *
            go_wp2
            go_roundw
            case rel => exact ⟨j - 1, swp dj j (j - 1), by congr 1; omega, by omega, by omega, by rw [size_swp]; exact unhide HN, unhide HS, unhide HX, by rw [← unhide HI, insInner_on _ _ _ hja (unhide HY).symm]⟩
            case measure =>
              simp only [intOf]
              omega
        · have j1 : ¬ (a : Int) < (j : Int) := by omega
          have HS := hide hS
          have HX := hide hX
          clear hS hX
          go_wp2
          go_roundw
          case rel => exact ⟨i + 1, dj, by go_num, by omega, by omega, hsj, unhide HS, unhide HX, by rw [← unhide HO, insOuter_on a b i dk hlt, ← unhide HI, insInner_off _ _ _ (.inl (by omega))]⟩
          case measure =>
            simp only [intOf]
            omega
    · have i1 : ¬ (i : Int) < (b : Int) := by omega
      have HS := hide hS
      clear hS hX
      go_wp2
      refine bodyPost_end (v := .tuple #[]) (by simp [results, Try.results60, go_sem]) rfl ?_
      have e : insertionSort lessU d a b = dk := by
        unfold insertionSort
        rw [← unhide HO, insOuter_off a b i dk hlt]
      rw [e]
      exact ⟨rfl, hsk, unhide HS⟩
end Go.Proofs.Ythmmplmppchfmaa

namespace Go.Proofs.Ythmmplmppchfmaa
open Go.RowKit Go.Sort

set_option maxHeartbeats 4000000 in
set_option maxRecDepth 1000000 in
theorem pdqSmall_any {w W : World} {B V g cap n : Nat} {d : Array U2} {th : Value} (hth : th = typeHandle Try.prog 28) (h : SR w B V g cap d W) (hn : d.size = n) (h12 : n ≤ 12) (lim : Int) :
    Calls Try.prog 43 #[.agg #[lessV V, swapV th g n cap], .int .i64 0, .int .i64 n, .int .i64 lim] W fun e W' => e = .returned (.tuple #[]) ∧ (insertionSort lessU d 0 n).size = n ∧ SR w B V g cap (insertionSort lessU d 0 n) W' := by
  have b1 := belowA W (.cells #[lessV V, swapV th g n cap] 89)
  have hbx := heap_alloc_new W (.cells #[lessV V, swapV th g n cap] 89)
  have h1 := h.grow b1
  have IN := sortIns_any hth h1 hn 0 n (Nat.zero_le _) (Nat.le_refl _) (by omega)
  have k1 : (n : Int) ≤ 12 := by omega
  have k2 : (0 : Int) ≤ (n : Int) := by omega
  have c0 : (W.alloc (.cells #[lessV V, swapV th g n cap] 89)).cell? ⟨W.heap.size, 0, none⟩ = some (lessV V) := by rw [Lib.cell_of_heap hbx]; rfl
  have c1 : (W.alloc (.cells #[lessV V, swapV th g n cap] 89)).cell? ⟨W.heap.size, 1, none⟩ = some (swapV th g n cap) := by rw [Lib.cell_of_heap hbx]; rfl
  clear h b1 hth h1 hbx
  unfold lessV swapV at *
  go_enter Try.func43, Try.ntmps43
  go_wp2
  refine wp_loop_rounds 1 ?_
  rw [rounds_succ]
  go_wp2_with fail
  refine IN.mono ?_
  clear IN
  rintro _ W' ⟨rfl, hz, hS⟩
  have HS := hide hS
  have HZ := hide hz
  clear hS hz
  go_wp2
  (try simp only [Exit.inBlock, Exit.then])
  refine bodyPost_ret (v := .tuple #[]) (by simp [results, Try.results43, go_sem]) rfl ?_
  exact ⟨rfl, unhide HZ, unhide HS⟩
end Go.Proofs.Ythmmplmppchfmaa

namespace Go.Proofs.Ythmmplmppchfmaa
open Go.RowKit Go.Sort

set_option maxHeartbeats 1000000 in
set_option maxRecDepth 1000000 in
theorem bits64_any (n : Nat) (hn : n < 256) (w : World) : Calls Try.prog 59 #[.int .u64 n] w fun e w' => (∃ k : Int, e = .returned (.int .i64 k)) ∧ w' = w := by
  have k1 : ¬ (4294967296 : Int) ≤ (n : Int) := by omega
  have k2 : ¬ (65536 : Int) ≤ (n : Int) := by omega
  have k3 : ¬ (256 : Int) ≤ (n : Int) := by omega
  have k4 : (0 : Int) ≤ (n : Int) := by omega
  have k5 : (n : Int) < 256 := by omega
  go_enter Try.func59, Try.ntmps59
  go_wp2
  go_ret
  exact ⟨⟨_, rfl⟩, rfl⟩
theorem bits_any (n : Nat) (hn : n < 256) (w : World) : Calls Try.prog 42 #[.int .u64 n] w fun e w' => (∃ k : Int, e = .returned (.int .i64 k)) ∧ w' = w := by
  have C := bits64_any n hn w
  go_enter Try.func42, Try.ntmps42
  go_wp2_with fail
  refine C.mono ?_
  rintro _ _ ⟨⟨k, rfl⟩, rfl⟩
  go_wp2
  go_ret
  exact ⟨⟨_, rfl⟩, rfl⟩

set_option maxHeartbeats 4000000 in
set_option maxRecDepth 1000000 in
theorem sortSlice_any {w W : World} {B V g cap n : Nat} {d : Array U2} (h : SR w B V g cap d W) (hn : d.size = n) (h2 : 2 ≤ n) (h12 : n ≤ 12) :
    Calls Try.prog 26 #[.iface 30 (.slice (some ⟨g, 0, none⟩) n cap), lessV V] W fun e W' => e = .returned (.tuple #[]) ∧ (insertionSort lessU d 0 n).size = n ∧ SR w B V g cap (insertionSort lessU d 0 n) W' := by
  obtain ⟨i0, hi0, hd0⟩ : ∃ i0, Try.prog.info? 30 = some i0 ∧ i0.desc = .slice 28 := ⟨_, rfl, rfl⟩
  obtain ⟨ie, hie, hpt, hby⟩ : ∃ ie, Try.prog.info? 28 = some ie ∧ ie.hasPointers = true ∧ ie.bytes = 32 := ⟨_, rfl, rfl, rfl⟩
  have hk : Lib.swapperK n ie 25 = 9 := by
    unfold Lib.swapperK
    rw [hpt, hby]
    have a0 : (n == 0) = false := by simp; omega
    have a1 : (n == 1) = false := by simp; omega
    rw [a0, a1]
    rfl
  obtain ⟨th, hth⟩ : ∃ th, th = typeHandle Try.prog 28 := ⟨_, rfl⟩
  have hke : ∀ w, (Extern.Rtype.kind 28).run Try.prog w = .ok 25 w := fun w => by kernel_rfl
  have hv := Lib.run_valueOf_slice (P := Try.prog) 30 28 i0 hi0 hd0 (some ⟨g, 0, none⟩) n cap W
  have hs := fun w => Lib.run_swapper_slice (P := Try.prog) 30 28 i0 ie hi0 hd0 hie 25 hke (some ⟨g, 0, none⟩) n cap 57 (by rw [hk]; kernel_rfl) w
  rw [hk] at hs
  have hl := fun a w ha => Lib.run_valueLen_slice (P := Try.prog) 30 28 i0 hi0 hd0 rfl a (some ⟨g, 0, none⟩) n cap w ha
  have hb := fun w => bits_any n (by omega) w
  have hp := fun W' (hb : Below W.heap.size W W') (lim : Int) => pdqSmall_any hth (h.grow hb) hn h12 lim
  have wr : IntKind.u64.wrap (n : Int) = n := by simp [IntKind.wrap, IntKind.bits, IntKind.signed]; omega
  simp only [typeHandle, show Try.prog.globals.size = 0 from rfl] at hv hl
  unfold swapV at hp
  rw [← hth] at hs
  clear hke hk hpt hby h hi0 hd0 hie hth
  unfold lessV at *
  go_enter Try.func26, Try.ntmps26
  go_wp2
  rw [run_callFunc_extern Try.func39 (by kernel_rfl) (by kernel_rfl) (by kernel_rfl) (e := fun args => Extern.ReflectliteValue.unpack (args.getD 0 (.tuple #[]))) (by kernel_rfl),
    show Sem.run Try.prog ((fun args : Array Value => Extern.ReflectliteValue.unpack (args.getD 0 (.tuple #[]))) #[.iface 30 (.slice (some ⟨g, 0, none⟩) n cap)]) W = _ from hv]
  simp only [Result.andThen]
  rw [Oper.upon_value]
  go_wp2
  rw [run_callFunc_extern Try.func40 (by kernel_rfl) (by kernel_rfl) (by kernel_rfl) (e := Extern.ReflectliteSwapper.swapper "internal/reflectlite" (Extern.ReflectliteValue.valueError "Swapper")) (by kernel_rfl), hs]
  simp only [Result.andThen]
  rw [Oper.upon_value]
  go_wp2
  rw [run_callFunc_extern Try.func41 (by kernel_rfl) (by kernel_rfl) (by kernel_rfl) (e := Extern.ReflectliteValue.method (Extern.ReflectliteValue.valueError "reflectlite.Value.Len" 0) Extern.ReflectliteValue.len) (by kernel_rfl),
    hl _ _ (by simp)]
  simp only [Result.andThen]
  rw [Oper.upon_value]
  go_wp2_with fail
  refine (hb _).mono ?_
  rintro _ _ ⟨⟨lim, rfl⟩, rfl⟩
  go_wp2_with fail
  refine (hp _ ?_ lim).mono ?_
  · exact (belowA _ _).trans ((belowA _ _).mono (belowA _ _).size)
  rintro _ W' ⟨rfl, hz, hS⟩
  have HS := hide hS
  have HZ := hide hz
  clear hS hz
  go_wp2
  refine bodyPost_end (v := .tuple #[]) (by simp [results, Try.results26, go_sem]) rfl ?_
  exact ⟨rfl, unhide HZ, unhide HS⟩
end Go.Proofs.Ythmmplmppchfmaa

namespace Go.Proofs.Ythmmplmppchfmaa
open Go.RowKit Go.Sort

theorem swo_lessU : SWO lessU where
  irrefl := sto_lessU.irr
  trans := sto_lessU.trans
  ntrans := fun x y z h1 h2 => by
    cases h : lessU x z with
    | false => rfl
    | true =>
      rcases sto_lessU.tri x y with h3 | h3 | h3
      · rw [h3] at h1; cases h1
      · subst h3; rw [h] at h2; cases h2
      · have := sto_lessU.trans _ _ _ h3 h
        rw [this] at h2
        cases h2
/-- What a sort of a row tells, where its uids are all unlike. -/
theorem rise_of {d d' : Array U2} (hn : d.toList.Nodup) (hp : PermIn 0 d.size d d') (hs : SortedIn lessU 0 d.size d') : d'.toList.Perm d.toList ∧ d'.toList.Pairwise (fun a b => lessU a b = true) := by
  obtain ⟨h1, _, h2⟩ := hp
  have hP : d'.toList.Perm d.toList := by
    have e1 : d'.extract 0 d.size = d' := by rw [← h1]; simp
    have e2 : d.extract 0 d.size = d := by simp
    rw [e1, e2] at h2
    exact h2
  refine ⟨hP, ?_⟩
  have hn' : d'.toList.Nodup := hP.nodup_iff.2 hn
  rw [List.pairwise_iff_getElem]
  intro i j hi hj hij
  have hi' : i < d'.size := by simpa using hi
  have hj' : j < d'.size := by simpa using hj
  have hf := hs i j (Nat.zero_le _) hij (by omega)
  rw [getElem!_pos d' i hi', getElem!_pos d' j hj'] at hf
  have hne : d'[i] ≠ d'[j] := fun e => by
    have := List.pairwise_iff_getElem.1 hn' i j hi hj hij
    simp only [Array.getElem_toList] at this
    exact this e
  simp only [Array.getElem_toList]
  rcases sto_lessU.tri d'[i] d'[j] with h | h | h
  · exact h
  · exact absurd h hne
  · rw [h] at hf
    cases hf
theorem ins_rise {l : List U2} (hn : l.Nodup) : (insertionSort lessU l.toArray 0 l.length).toList.Perm l ∧ (insertionSort lessU l.toArray 0 l.length).toList.Pairwise (fun a b => lessU a b = true) := by
  have h := insertionSort_holds (lt := lessU) swo_lessU l.toArray 0 l.length (Nat.zero_le _) (by simp)
  exact rise_of (d := l.toArray) (by simpa using hn) (by simpa using h.1) (by simpa using h.2)
end Go.Proofs.Ythmmplmppchfmaa
