/-
  A sort's state: the row, and the box that holds what compares and what exchanges; sort.siftDown_func: what it does.
-/
import Derived.Test.YthmmplmppchfmaaMqSV
import Derived.Sort.LotB
import Derived.Deep.Cut
namespace Go.Proofs.Ythmmplmppchfmaa
open Go.RowKit Go.Sort

/-- All blocks but g are as they were. -/
def KP (g : Nat) (a b : World) : Prop := a.heap.size ≤ b.heap.size ∧ ∀ k, k < a.heap.size → k ≠ g → b.heap[k]? = a.heap[k]?
theorem KP.refl (g : Nat) (a : World) : KP g a a := ⟨Nat.le_refl _, fun _ _ _ => rfl⟩
theorem KP.trans {g : Nat} {a b c : World} (h : KP g a b) (h2 : KP g b c) : KP g a c := ⟨Nat.le_trans h.1 h2.1, fun k hk hg => (h2.2 k (Nat.lt_of_lt_of_le hk h.1) hg).trans (h.2 k hk hg)⟩
theorem KP.of {g : Nat} {a b : World} (h : Below a.heap.size a b) : KP g a b := ⟨h.size, fun k hk _ => h.block k hk⟩
theorem KP.set (g o : Nat) (vs : List Value) (a : World) : KP g a (a.setCells g o vs) := ⟨by rw [size_setCells]; exact Nat.le_refl _, fun k _ hg => heap_setCells hg _ _ _⟩
/-- The row's state, with a box X of the two. -/
structure SB (w W0 W : World) (B V g cap n X : Nat) (th : Value) (d : Array U2) : Prop where
  sr : SR w B V g cap d W
  hn : d.size = n
  kp : KP g W0 W
  bx : W.heap[X]? = some (.cells #[lessV V, swapV th g n cap] 89 (0, 0))
theorem SB.new {w W : World} {B V g cap n : Nat} {th : Value} {d : Array U2} (h : SR w B V g cap d W) (hn : d.size = n) : SB w W (W.alloc (.cells #[lessV V, swapV th g n cap] 89)) B V g cap n W.heap.size th d :=
  ⟨h.grow (belowA W _), hn, KP.of (belowA W _), heap_alloc_new W _⟩
theorem SB.grow {w W0 W W' : World} {B V g cap n X : Nat} {th : Value} {d : Array U2} (h : SB w W0 W B V g cap n X th d) (hb : Below W.heap.size W W') : SB w W0 W' B V g cap n X th d :=
  ⟨h.sr.grow hb, h.hn, h.kp.trans (KP.of hb), (hb.block X (Array.getElem?_eq_some_iff.1 h.bx).1).trans h.bx⟩
theorem SB.c0 {w W0 W : World} {B V g cap n X : Nat} {th : Value} {d : Array U2} (h : SB w W0 W B V g cap n X th d) : W.cell? ⟨X, 0, none⟩ = some (.func (.func 27) #[] #[.pointer (some ⟨V, 0, none⟩)]) := by rw [Lib.cell_of_heap h.bx]; rfl
theorem SB.c1 {w W0 W : World} {B V g cap n X : Nat} {th : Value} {d : Array U2} (h : SB w W0 W B V g cap n X th d) : W.cell? ⟨X, 1, none⟩ = some (.func (.func 57) #[] #[.slice (some ⟨g, 0, none⟩) n cap, th]) := by rw [Lib.cell_of_heap h.bx]; rfl
theorem SB.ne {w W0 W : World} {B V g cap n X : Nat} {th : Value} {d : Array U2} (h : SB w W0 W B V g cap n X th d) : X ≠ g := fun e => by
  obtain ⟨cur, _, e2, _⟩ := h.sr.block
  rw [← e, h.bx] at e2
  injection e2 with e2
  injection e2 with _ e2
  revert e2
  decide
theorem SB.swap {w W0 W : World} {B V g cap n X : Nat} {th : Value} {d : Array U2} (h : SB w W0 W B V g cap n X th d) {i j : Nat} (hi : i < n) (hj : j < n) :
    SB w W0 ((W.setCells g (0 + i * 2) d[j]!.cells).setCells g (0 + j * 2) d[i]!.cells) B V g cap n X th (swp d i j) :=
  ⟨h.sr.swap (by rw [h.hn]; exact hi) (by rw [h.hn]; exact hj), by rw [size_swp]; exact h.hn, h.kp.trans ((KP.set _ _ _ _).trans (KP.set _ _ _ _)), ((heap_setCells h.ne _ _ _).trans (heap_setCells h.ne _ _ _)).trans h.bx⟩
/-- An exchange: some world in which the row is that of swp. -/
theorem SB.swapRun {w W0 W : World} {B V g cap n X : Nat} {th : Value} {d : Array U2} (hth : th = typeHandle Try.prog 28) (h : SB w W0 W B V g cap n X th d) {i j : Nat} (hi : i < n) (hj : j < n) :
    ∃ W', (callFunc 57 #[.int .i64 i, .int .i64 j, .slice (some ⟨g, 0, none⟩) n cap, th]).run Try.prog W = .ok (.value (.tuple #[])) W' ∧ SB w W0 W' B V g cap n X th (swp d i j) :=
  ⟨_, by rw [hth]; exact sswap_run h.sr h.hn hi hj, h.swap hi hj⟩
theorem SB.less {w W0 W : World} {B V g cap n X : Nat} {th : Value} {d : Array U2} (h : SB w W0 W B V g cap n X th d) {i j : Nat} (hi : i < n) (hj : j < n) :
    Calls Try.prog 27 #[.int .i64 i, .int .i64 j, .pointer (some ⟨V, 0, none⟩)] W fun e W' => e = .returned (.bool (lessU d[i]! d[j]!)) ∧ SB w W0 W' B V g cap n X th d ∧ Below W.heap.size W W' :=
  (sless_any h.sr (by rw [h.hn]; exact hi) (by rw [h.hn]; exact hj)).mono fun _ _ ⟨e, hb⟩ => ⟨e, h.grow hb, hb⟩

/-- Behind a call that sorts some of it. -/
theorem SB.call {w W0 W W' : World} {B V g cap n X : Nat} {th : Value} {d d' : Array U2} (h : SB w W0 W B V g cap n X th d) (hs : SR w B V g cap d' W') (hn : d'.size = n) (hk : KP g W W') : SB w W0 W' B V g cap n X th d' :=
  ⟨hs, hn, h.kp.trans hk, (hk.2 X (Array.getElem?_eq_some_iff.1 h.bx).1 h.ne).trans h.bx⟩
/-- What a call that sorts some of it answers. -/
def Sorts (w W : World) (B V g cap n : Nat) (d' : Array U2) (e : Ending) (W' : World) : Prop := e = .returned (.tuple #[]) ∧ d'.size = n ∧ SR w B V g cap d' W' ∧ KP g W W'
theorem sift_stop {lt : U2 → U2 → Bool} (hi F r : Nat) (d : Array U2) (h : hi ≤ 2 * r + 1) : siftDown lt hi F r d = d := by
  rw [siftDown, dif_pos h]
theorem sift_two {lt : U2 → U2 → Bool} (hi F r : Nat) (d : Array U2) (h : 2 * r + 2 < hi) (hl : lt d[F + (2 * r + 1)]! d[F + (2 * r + 2)]! = true) :
    siftDown lt hi F r d = if lt d[F + r]! d[F + (2 * r + 2)]! then siftDown lt hi F (2 * r + 2) (swp d (F + r) (F + (2 * r + 2))) else d := by
  rw [siftDown, dif_neg (by omega), if_pos (by rw [show F + (2 * r + 1) + 1 = F + (2 * r + 2) by omega, hl]; simp; omega)]
  cases hx : lt d[F + r]! d[F + (2 * r + 2)]!
  · rfl
  · simp [h]
theorem sift_one {lt : U2 → U2 → Bool} (hi F r : Nat) (d : Array U2) (h : 2 * r + 1 < hi) (hl : hi ≤ 2 * r + 2 ∨ lt d[F + (2 * r + 1)]! d[F + (2 * r + 2)]! = false) :
    siftDown lt hi F r d = if lt d[F + r]! d[F + (2 * r + 1)]! then siftDown lt hi F (2 * r + 1) (swp d (F + r) (F + (2 * r + 1))) else d := by
  rw [siftDown, dif_neg (by omega), if_neg (by
    rw [show F + (2 * r + 1) + 1 = F + (2 * r + 2) by omega]
    rcases hl with hl | hl
    · simp; omega
    · rw [hl]; simp)]
  cases hx : lt d[F + r]! d[F + (2 * r + 1)]! <;> rfl

/-- What comes behind the choice of a child. -/
def SiftRel (w W0 : World) (B V g cap n X : Nat) (th : Value) (hi F lo : Nat) (d : Array U2) (vi : Value) (wr : World) : Prop :=
  ∃ (r : Nat) (dk : Array U2), vi = .int .i64 r ∧ r ≤ hi ∧ SB w W0 wr B V g cap n X th dk ∧ siftDown lessU hi F r dk = siftDown lessU hi F lo d

set_option maxHeartbeats 4000000 in
set_option maxRecDepth 1000000 in
theorem sortSift_any {w W : World} {B V g cap n : Nat} {d : Array U2} {th : Value} (hth : th = typeHandle Try.prog 28) (h : SR w B V g cap d W) (hn : d.size = n) (lo hi F : Nat) (hlo : lo ≤ hi) (hF : F + hi ≤ n) (hsz : n ≤ 1000000) :
    Calls Try.prog 76 #[.agg #[lessV V, swapV th g n cap], .int .i64 lo, .int .i64 hi, .int .i64 F] W (Sorts w W B V g cap n (siftDown lessU hi F lo d)) := by
  have h1 := SB.new (th := th) h hn
  have HTH := hide hth
  clear h hth hn
  unfold lessV swapV at *
  obtain ⟨X, hX⟩ : ∃ X, X = W.heap.size := ⟨_, rfl⟩
  go_enter Try.func76, Try.ntmps76
  go_wp2
  rw [← hX] at h1 ⊢
  generalize W.alloc _ = W1 at *
  clear hX
  go_loopw [8, 9] (fun vi _ wr => SiftRel w W B V g cap n X th hi F lo d vi wr) (fun vi _ _ => hi - (intOf vi).toNat)
  case atStart => exact ⟨lo, d, rfl, hlo, h1, rfl⟩
  case round =>
    clear h1
    obtain ⟨r, dk, rfl, hr, hS, hE⟩ := hrel
    have HE := hide hE
    clear hE
    have k0 : (0 : Int) ≤ (r : Int) := by omega
    have k9 : (r : Int) ≤ 1000000 := by omega
    by_cases hst : hi ≤ 2 * r + 1
    · have q1 : (hi : Int) ≤ 2 * (r : Int) + 1 := by omega
      have HS := hide hS
      clear hS
      go_wp2
      refine bodyPost_end (v := .tuple #[]) (by simp [results, Try.results76, go_sem]) rfl ?_
      have e : siftDown lessU hi F lo d = dk := by rw [← unhide HE, sift_stop _ _ _ _ hst]
      rw [e]
      exact ⟨rfl, (unhide HS).hn, (unhide HS).sr, (unhide HS).kp⟩
    · have q1 : ¬ (hi : Int) ≤ 2 * (r : Int) + 1 := by omega
      by_cases htw : 2 * r + 2 < hi
      · have q2 : 2 * (r : Int) + 1 + 1 < (hi : Int) := by omega
        have hl := hS.less (i := F + (2 * r + 1)) (j := F + (2 * r + 2)) (by omega) (by omega)
        rw [show (((F + (2 * r + 1) : Nat)) : Int) = (F : Int) + (2 * (r : Int) + 1) by omega, show (((F + (2 * r + 2) : Nat)) : Int) = (F : Int) + (2 * (r : Int) + 1) + 1 by omega] at hl
        obtain ⟨y, hy⟩ : ∃ y, y = lessU dk[F + (2 * r + 1)]! dk[F + (2 * r + 2)]! := ⟨_, rfl⟩
        rw [← hy] at hl
        have HY := hide hy
        have c0 := hS.c0
        clear hy hS
        go_wp2_with fail
        refine hl.mono ?_
        clear hl c0
        rintro _ w8 ⟨rfl, hS, b8⟩
        cases y
        · have HST := hide (sift_one (lt := lessU) hi F r dk (by omega) (.inr (unhide HY).symm))
          clear HY b8
          have hcl : 2 * r + 1 < hi := by omega
          have hl2 := hS.less (i := F + r) (j := F + (2 * r + 1)) (by omega) (by omega)
          rw [show (((F + r : Nat)) : Int) = (F : Int) + (r : Int) by omega, show (((F + (2 * r + 1) : Nat)) : Int) = (F : Int) + (2 * (r : Int) + 1) by omega] at hl2
          obtain ⟨y2, hy2⟩ : ∃ y, y = lessU dk[F + r]! dk[F + (2 * r + 1)]! := ⟨_, rfl⟩
          rw [← hy2] at hl2
          have HST2 := hide (show siftDown lessU hi F r dk = if y2 then siftDown lessU hi F (2 * r + 1) (swp dk (F + r) (F + (2 * r + 1))) else dk by rw [hy2]; exact unhide HST)
          have c0 := hS.c0
          clear hy2 HST hS
          go_wp2_with fail
          refine hl2.mono ?_
          clear hl2 c0
          rintro _ w9 ⟨rfl, hS, b9⟩
          cases y2
          · have HS := hide hS
            clear hS b9
            go_wp2
            refine bodyPost_ret (v := .tuple #[]) (by simp [results, Try.results76, go_sem]) rfl ?_
            have e : siftDown lessU hi F lo d = dk := by rw [← unhide HE, unhide HST2]; rfl
            rw [e]
            exact ⟨rfl, (unhide HS).hn, (unhide HS).sr, (unhide HS).kp⟩
          · obtain ⟨w5, hrun, hS5⟩ := hS.swapRun (unhide HTH) (i := F + r) (j := F + (2 * r + 1)) (by omega) (by omega)
            rw [show (((F + r : Nat)) : Int) = (F : Int) + (r : Int) by omega, show (((F + (2 * r + 1) : Nat)) : Int) = (F : Int) + (2 * (r : Int) + 1) by omega] at hrun
            have c1 := hS.c1
            have HS5 := hide hS5
            clear hS hS5 b9
            go_wp2
            go_roundw
            case rel => exact ⟨2 * r + 1, swp dk (F + r) (F + (2 * r + 1)), by congr 1, by omega, unhide HS5, by rw [← unhide HE, unhide HST2]; rfl⟩
            case measure =>
              simp only [intOf]
              omega
        · have HST := hide (sift_two (lt := lessU) hi F r dk htw (unhide HY).symm)
          clear HY b8
          have hcl : 2 * r + 2 < hi := by omega
          have hl2 := hS.less (i := F + r) (j := F + (2 * r + 2)) (by omega) (by omega)
          rw [show (((F + r : Nat)) : Int) = (F : Int) + (r : Int) by omega, show (((F + (2 * r + 2) : Nat)) : Int) = (F : Int) + (2 * (r : Int) + 1 + 1) by omega] at hl2
          obtain ⟨y2, hy2⟩ : ∃ y, y = lessU dk[F + r]! dk[F + (2 * r + 2)]! := ⟨_, rfl⟩
          rw [← hy2] at hl2
          have HST2 := hide (show siftDown lessU hi F r dk = if y2 then siftDown lessU hi F (2 * r + 2) (swp dk (F + r) (F + (2 * r + 2))) else dk by rw [hy2]; exact unhide HST)
          have c0 := hS.c0
          clear hy2 HST hS
          go_wp2_with fail
          refine hl2.mono ?_
          clear hl2 c0
          rintro _ w9 ⟨rfl, hS, b9⟩
          cases y2
          · have HS := hide hS
            clear hS b9
            go_wp2
            refine bodyPost_ret (v := .tuple #[]) (by simp [results, Try.results76, go_sem]) rfl ?_
            have e : siftDown lessU hi F lo d = dk := by rw [← unhide HE, unhide HST2]; rfl
            rw [e]
            exact ⟨rfl, (unhide HS).hn, (unhide HS).sr, (unhide HS).kp⟩
          · obtain ⟨w5, hrun, hS5⟩ := hS.swapRun (unhide HTH) (i := F + r) (j := F + (2 * r + 2)) (by omega) (by omega)
            rw [show (((F + r : Nat)) : Int) = (F : Int) + (r : Int) by omega, show (((F + (2 * r + 2) : Nat)) : Int) = (F : Int) + (2 * (r : Int) + 1 + 1) by omega] at hrun
            have c1 := hS.c1
            have HS5 := hide hS5
            clear hS hS5 b9
            go_wp2
            go_roundw
            case rel => exact ⟨2 * r + 2, swp dk (F + r) (F + (2 * r + 2)), by congr 1, by omega, unhide HS5, by rw [← unhide HE, unhide HST2]; rfl⟩
            case measure =>
              simp only [intOf]
              omega
      · have q2 : ¬ 2 * (r : Int) + 1 + 1 < (hi : Int) := by omega
        have HST := hide (sift_one (lt := lessU) hi F r dk (by omega) (.inl (by omega)))
        have hcl : 2 * r + 1 < hi := by omega
        have hl2 := hS.less (i := F + r) (j := F + (2 * r + 1)) (by omega) (by omega)
        rw [show (((F + r : Nat)) : Int) = (F : Int) + (r : Int) by omega, show (((F + (2 * r + 1) : Nat)) : Int) = (F : Int) + (2 * (r : Int) + 1) by omega] at hl2
        obtain ⟨y2, hy2⟩ : ∃ y, y = lessU dk[F + r]! dk[F + (2 * r + 1)]! := ⟨_, rfl⟩
        rw [← hy2] at hl2
        have HST2 := hide (show siftDown lessU hi F r dk = if y2 then siftDown lessU hi F (2 * r + 1) (swp dk (F + r) (F + (2 * r + 1))) else dk by rw [hy2]; exact unhide HST)
        have c0 := hS.c0
        clear hy2 HST hS
        go_wp2_with fail
        refine hl2.mono ?_
        clear hl2 c0
        rintro _ w9 ⟨rfl, hS, b9⟩
        cases y2
        · have HS := hide hS
          clear hS b9
          go_wp2
          refine bodyPost_ret (v := .tuple #[]) (by simp [results, Try.results76, go_sem]) rfl ?_
          have e : siftDown lessU hi F lo d = dk := by rw [← unhide HE, unhide HST2]; rfl
          rw [e]
          exact ⟨rfl, (unhide HS).hn, (unhide HS).sr, (unhide HS).kp⟩
        · obtain ⟨w5, hrun, hS5⟩ := hS.swapRun (unhide HTH) (i := F + r) (j := F + (2 * r + 1)) (by omega) (by omega)
          rw [show (((F + r : Nat)) : Int) = (F : Int) + (r : Int) by omega, show (((F + (2 * r + 1) : Nat)) : Int) = (F : Int) + (2 * (r : Int) + 1) by omega] at hrun
          have c1 := hS.c1
          have HS5 := hide hS5
          clear hS hS5 b9
          go_wp2
          go_roundw
          case rel => exact ⟨2 * r + 1, swp dk (F + r) (F + (2 * r + 1)), by congr 1, by omega, unhide HS5, by rw [← unhide HE, unhide HST2]; rfl⟩
          case measure =>
            simp only [intOf]
            omega
end Go.Proofs.Ythmmplmppchfmaa
