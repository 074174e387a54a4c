/-
  chancellaw5.Few: what it returns; what a raw that is few has.
-/
import Derived.Test.YtpblalklenebhaaDoorRwA
import Derived.Test.YtpblalklenebhaaDoorExA
import Derived.Deep.Cut
namespace Go.Proofs.YtpblalklenebhaaDoor
open Go.RowKit Go.Sort

mutual
def depR : Rw → Nat
  | .mk _ _ _ l => depRs l + 1
def depRs : List Rw → Nat
  | [] => 0
  | x :: l => max (depR x) (depRs l)
end
theorem depRs_get : ∀ (l : List Rw) (j : Nat) (h : j < l.length), depR l[j] ≤ depRs l
  | [], j, h => by simp at h
  | e :: l, 0, _ => by
    show depR e ≤ depRs (e :: l)
    unfold depRs
    exact Nat.le_max_left _ _
  | e :: l, j + 1, hj => by
    have := depRs_get l j (by simpa using hj)
    show depR (l[j]'(by simpa using hj)) ≤ depRs (e :: l)
    unfold depRs
    exact Nat.le_trans this (Nat.le_max_right _ _)
mutual
def fewR : Rw → Int → Int
  | .mk _ _ s l, m => if m ≤ 0 ∨ 12 < l.length ∨ 60 < s.length then 0 else fewL l (m - 1)
def fewL : List Rw → Int → Int
  | [], m => m
  | x :: l, m => if 0 < m then fewL l (fewR x m) else m
end
mutual
def smR : Rw → Bool
  | .mk _ _ s l => decide (l.length ≤ 12) && (decide (s.length ≤ 60) && smRs l)
def smRs : List Rw → Bool
  | [] => true
  | x :: l => smR x && smRs l
end
mutual
theorem fewR_le : ∀ (x : Rw) (m : Int), 0 ≤ fewR x m ∧ (0 ≤ m → fewR x m ≤ m)
  | .mk _ _ s l, m => by
    unfold fewR
    split
    · exact ⟨Int.le_refl _, fun h => h⟩
    · have := fewL_le l (m - 1) (by omega)
      exact ⟨this.1, fun _ => by omega⟩
theorem fewL_le : ∀ (l : List Rw) (m : Int), 0 ≤ m → 0 ≤ fewL l m ∧ fewL l m ≤ m
  | [], m, h => by unfold fewL; exact ⟨h, Int.le_refl _⟩
  | x :: l, m, h => by
    unfold fewL
    split
    · have h1 := fewR_le x m
      have h2 := fewL_le l (fewR x m) h1.1
      have h3 := h1.2 h
      exact ⟨h2.1, by omega⟩
    · exact ⟨h, Int.le_refl _⟩
end
mutual
theorem fewR_ok : ∀ (x : Rw) (m : Int), 0 < fewR x m → smR x = true
  | .mk _ _ s l, m, h => by
    unfold fewR at h
    split at h
    · omega
    · rename_i hc
      unfold smR
      rw [decide_eq_true (by omega), decide_eq_true (by omega), fewL_ok l (m - 1) h]
      rfl
theorem fewL_ok : ∀ (l : List Rw) (m : Int), 0 < fewL l m → smRs l = true
  | [], m, h => by unfold smRs; rfl
  | x :: l, m, h => by
    unfold fewL at h
    split at h
    · have h2 := fewL_ok l _ h
      have h1 : 0 < fewR x m := by
        rcases Int.lt_or_le 0 (fewR x m) with h3 | h3
        · exact h3
        · have h4 := (fewR_le x m).1
          have h5 : fewR x m = 0 := by omega
          rw [h5] at h
          have := (fewL_le l 0 (Int.le_refl _)).2
          omega
      unfold smRs
      rw [fewR_ok x m h1, h2]
      rfl
    · omega
end
theorem fewL_drop (l : List Rw) (k : Nat) (h : k < l.length) (m : Int) : fewL (l.drop k) m = if 0 < m then fewL (l.drop (k + 1)) (fewR l[k] m) else m := by
  rw [List.drop_eq_getElem_cons h, fewL]
theorem fewL_out (l : List Rw) (m : Int) (h : ¬ 0 < m) : fewL l m = m := by
  cases l with
  | nil => rfl
  | cons x l => rw [fewL, if_neg h]

theorem blk4 {w : World} {b : Nat} {v0 v1 v2 v3 : Value} {T : TypeId} (h : w.heap[b]? = some (.cells #[v0, v1, v2, v3] T (0, 0))) :
    w.cell? ⟨b, 0, none⟩ = some v0 ∧ w.cell? ⟨b, 1, none⟩ = some v1 ∧ w.cell? ⟨b, 2, none⟩ = some v2 ∧ w.cell? ⟨b, 3, none⟩ = some v3 ∧ ∀ o, w.frozen? ⟨b, o, none⟩ = false :=
  ⟨by rw [Lib.cell_of_heap h]; rfl, by rw [Lib.cell_of_heap h]; rfl, by rw [Lib.cell_of_heap h]; rfl, by rw [Lib.cell_of_heap h]; rfl, fun o => Lib.frozen_of_heap h o⟩

set_option maxHeartbeats 4000000 in
set_option maxRecDepth 1000000 in
theorem few5_any : ∀ (d : Nat) (x : Rw) (r : R4) (w : World) (m : Int), depR x ≤ d → IsR w r x → m ≤ 1000000 → -1000000 ≤ m →
    Calls Tryd.prog 9 #[r.val, .int .i64 m] w fun e w' => e = .returned (.int .i64 (fewR x m)) ∧ Below w.heap.size w w' := by
  intro d
  induction d with
  | zero =>
    intro x r w m hd
    cases x
    unfold depR at hd
    omega
  | succ d ih =>
    intro x r w m hd hx hm0 hm1
    obtain ⟨op, n, s, l⟩ := x
    unfold IsR at hx
    obtain ⟨rfl, rfl, hsl, hs1, hs2, _, hll, hl1, hks⟩ := hx
    have hdl : depRs l ≤ d := by unfold depR at hd; omega
    have n1 := newS w (.cells #[.int .i64 r.op, .int .i64 r.n, .slice r.so r.sl r.sc, .slice r.lo r.ll r.lc] 25)
    have Z1 : (w.alloc (.cells #[.int .i64 r.op, .int .i64 r.n, .slice r.so r.sl r.sc, .slice r.lo r.ll r.lc] 25)).heap[w.heap.size]? = some (.cells #[.int .i64 r.op, .int .i64 r.n, .slice r.so r.sl r.sc, .slice r.lo r.ll r.lc] 25 (0, 0)) := alloc_heap _ _
    have hfr : fewR (.mk r.op r.n s l) m = if m ≤ 0 ∨ 12 < l.length ∨ 60 < s.length then 0 else fewL l (m - 1) := by unfold fewR; rfl
    rw [hfr]
    rw [hsl, hll] at n1 Z1
    unfold R4.val
    rw [hsl, hll]
    have HIH := hide ih
    have HK := hide hks
    have HDL := hide hdl
    clear ih hks hdl hfr hd hsl hll
    generalize s.length = sn at *
    by_cases h1 : m ≤ 0
    · rw [if_pos (.inl h1)]
      go_enter Tryd.func9, Tryd.ntmps9
      go_wp2
      go_ret
      exact ⟨rfl, n1⟩
    by_cases h2 : 12 < l.length
    · rw [if_pos (.inr (.inl h2))]
      have i2 : (12 : Int) < (l.length : Int) := by omega
      have i1 : ¬ m ≤ 0 := h1
      clear h1 h2
      go_enter Tryd.func9, Tryd.ntmps9
      go_wp2
      go_ret
      exact ⟨rfl, n1⟩
    by_cases h3 : 60 < sn
    · rw [if_pos (.inr (.inr h3))]
      have i2 : ¬ (12 : Int) < (l.length : Int) := by omega
      have i3 : (60 : Int) < (sn : Int) := by omega
      go_enter Tryd.func9, Tryd.ntmps9
      go_wp2
      go_ret
      exact ⟨rfl, n1⟩
    rw [if_neg (by omega)]
    have i2 : ¬ (12 : Int) < (l.length : Int) := by omega
    have i3 : ¬ (60 : Int) < (sn : Int) := by omega
    obtain ⟨F, hF⟩ : ∃ F, F = fewL l (m - 1) := ⟨_, rfl⟩
    rw [← hF]
    have HF := hide hF
    clear hF h2 h3
    go_enter Tryd.func9, Tryd.ntmps9
    go_upto_region 1 with fail
    generalize w.alloc _ = w1 at *
    obtain ⟨x0, x1, x2, x3, _⟩ := blk4 Z1
    go_wp2_with fail
    clear x0 x1 x2 x3 i2 i3
    go_loopw [1, 5] (fun mv iv wr => ∃ (j : Nat) (m' : Int), j ≤ l.length ∧ 0 ≤ m' ∧ m' ≤ 1000000 ∧ iv = .int .i64 j ∧ mv = .int .i64 m' ∧ Below w.heap.size w wr ∧ wr.heap[w.heap.size]? = some (.cells #[.int .i64 r.op, .int .i64 r.n, .slice r.so sn r.sc, .slice r.lo l.length r.lc] 25 (0, 0)) ∧ Hid (fewL (l.drop j) m' = F)) (fun _ iv _ => l.length - (intOf iv).toNat)
    case atStart => exact ⟨0, m - 1, Nat.zero_le _, by omega, by omega, rfl, rfl, n1, Z1, hide (unhide HF).symm⟩
    case round =>
      obtain ⟨j, m', hj, hm2, hm3, rfl, rfl, hbw, hZ, HN⟩ := hrel
      obtain ⟨x0, x1, x2, x3, _⟩ := blk4 hZ
      by_cases hlt : j < l.length
      · have i1 : (j : Int) < (l.length : Int) := by omega
        by_cases hpos : 0 < m'
        · have hd2 := hide (fewL_drop l j hlt m')
          obtain ⟨rk, g, off, hlo, hg, h7, hxk⟩ := IsRs.get l 0 j hlt (unhide HK)
          rw [Nat.zero_add] at h7
          have h7 := h7.below hbw hg
          have C := unhide HIH l[j] rk wr m' (Nat.le_trans (depRs_get l j hlt) (unhide HDL)) (IsR.below hbw rk _ hxk) hm3 (by omega)
          have hfl := fewR_le l[j] m'
          generalize fewR l[j] m' = f at *
          rw [hlo] at hZ x3 ⊢
          obtain ⟨y0, y1, y2, y3⟩ := h7
          unfold R4.val at C
          clear hxk
          go_wp2_with fail
          refine C.mono ?_
          rintro e w4 ⟨rfl, b4⟩
          have b04 := hbw.trans (b4.mono hbw.size)
          have hZ4 := kept_of_below b4 hZ
          clear x0 x1 x2 x3 y0 y1 y2 y3 C
          go_wp2
          go_roundw
          case rel => exact ⟨j + 1, f, by omega, hfl.1, by have := hfl.2 hm2; omega, by go_num, rfl, b04, hZ4, hide (by rw [← unhide HN, unhide hd2, if_pos hpos])⟩
          case measure =>
            simp only [intOf]
            omega
        · have HE := hide (show m' = F by rw [← unhide HN, fewL_out _ _ hpos])
          go_wp2
          go_ret
          exact ⟨by rw [← unhide HE]; rfl, hbw⟩
      · obtain rfl : j = l.length := by omega
        have i1 : ¬ (l.length : Int) < (l.length : Int) := by omega
        have HE := hide (show m' = F by rw [← unhide HN, List.drop_length]; rfl)
        go_wp2
        go_ret
        exact ⟨by rw [← unhide HE]; rfl, hbw⟩
end Go.Proofs.YtpblalklenebhaaDoor
