/-
  Package eval: ownSet, contentOf.
  Package eval: slices.IndexFunc of entities, of attributes; ofGet.
  Package eval: ofGet.
-/
import Derived.Test.YtbbongdnnmanlaaGreatEvAC
import Derived.Test.YtbbongdnnmanlaaGreatEnEc
import Derived.Test.YtbbongdnnmanlaaGreatGdU
namespace Go.Proofs.YtbbongdnnmanlaaGreat
open Go.RowKit Go.Sort

theorem copy_rowT {P : Program} (w : World) (g n : Nat) (l : List (List Value)) (ao : Option Addr) (cap L : Nat) (rest : List Value) (dT sT ty elem T : TypeId) (hu : P.underlying dT = some (.slice elem)) (hs : (P.info? elem).map (·.size) = some n) (hL : L = l.length) (h0 : 0 < l.length) (hn : ∀ c ∈ l, c.length = n) (h1 : ∀ v ∈ l.flatten, v.oneCell' = true) (hr : rest.length = L * n) (hg : w.heap[g]? = some (.cells rest.toArray T (0, 0))) (h : RowG w ao n l) :
    ∃ w', (Builtin.copy_ #[dT, sT] ty #[.slice (some ⟨g, 0, none⟩) L L, .slice ao L cap]).run P w = .ok (.int .i64 L) w' ∧ w'.heap[g]? = some (.cells l.flatten.toArray T (0, 0)) ∧ (∀ B w0, Below B w0 w → B ≤ g → Below B w0 w') ∧ w'.heap.size = w.heap.size := by
  obtain ⟨b, off, rfl, _, _⟩ := h 0 h0
  have hfl := flatG_len l hn
  have := run_copy_rowN (P := P) w dT sT ty elem n L g 0 L L ⟨b, off, none⟩ L cap rest.toArray T l.flatten hu hs hg (Nat.min_self _).symm (by rw [hfl, hL]) (row_flat hn h) (by rw [hfl]; simp [hr, hL]) h1
  refine ⟨_, this, ?_, fun B w0 hb hB => hb.trans ⟨rfl, rfl, rfl, by simp [World.setRow], fun k hk => setRow_other w g k _ (by omega)⟩, by simp [World.setRow]⟩
  rw [setRow_heap w g _ _ T _ hg]
  simp [hfl, hr, hL]
theorem szValueE : (Tryz.prog.info? 31).map (·.size) = some 7 := by kernel_rfl
theorem inValueE : (Tryz.prog.info? 31).map (fun i => (i.zero.isSome, i.size, i.bytes)) = some (true, 7, 96) := by kernel_rfl
theorem set_same {X : List Value} {i : Nat} {v : Value} (h : X[i]? = some v) : (X.toArray.setIfInBounds i v) = X.toArray := by
  apply Array.ext_getElem?
  intro k
  rw [Array.getElem?_setIfInBounds]
  split
  · rename_i e
    subst e
    split
    · simp [h]
    · rename_i hb
      simp at hb
      simp [hb]
  · rfl

def OwnSetPost (w : World) (l : List PV) (e : Ending) (w' : World) : Prop := Below w.heap.size w w' ∧ ∃ ao' c, e = .returned (.slice ao' l.length c) ∧ RowV w' ao' (l.map ofP) ∧ TyV w' ao'

set_option maxHeartbeats 4000000 in
set_option maxRecDepth 1000000 in
theorem ownSet_any (l : List PV) (ao : Option Addr) (cap : Nat) (w : World) (hl : l.length ≤ 1048576) (hr : RowV w ao (l.map ofP)) :
    Calls Tryz.prog 67 #[.slice ao l.length cap] w (OwnSetPost w l) := by
  obtain ⟨L, hL⟩ : ∃ L : Nat, L = l.length := ⟨_, rfl⟩
  rw [← hL] at hl ⊢
  obtain ⟨rest, hre, hmk⟩ := make_rowN (P := Tryz.prog) 76 31 7 96 L (L : Int) Tryz.underlying76 inValueE rfl (by omega) (by decide)
  have b1 := ev1 w (.cells rest.toArray 31)
  have h1 := alloc_heap w (.cells rest.toArray 31)
  have hlen : ∀ c ∈ (l.map ofP).map R7.cells, c.length = 7 := lenV (l.map ofP)
  obtain ⟨w2, hcp, h2, hb2⟩ : ∃ w2, (∀ ty, (Builtin.copy_ #[76, 29] ty #[.slice (some ⟨w.heap.size, 0, none⟩) L L, .slice ao L cap]).run Tryz.prog (w.alloc (.cells rest.toArray 31)) = .ok (.int .i64 L) w2) ∧ w2.heap[w.heap.size]? = some (.cells ((l.map ofP).map R7.cells).flatten.toArray 31 (0, 0)) ∧ Below w.heap.size w w2 := by
    by_cases h0 : l.length = 0
    · have e0 : l = [] := List.eq_nil_of_length_eq_zero h0
      have L0 : L = 0 := by rw [hL, h0]
      subst e0 L0
      have hr0 : rest = [] := List.eq_nil_of_length_eq_zero (by simpa using hre)
      subst hr0
      exact ⟨_, fun ty => run_copy_noneN (P := Tryz.prog) _ 76 29 ty 31 7 _ _ _ _ _ _ Tryz.underlying76 szValueE (by simp), by simpa using h1, b1⟩
    · have := fun ty => copy_rowT (P := Tryz.prog) (w.alloc (.cells rest.toArray 31)) w.heap.size 7 ((l.map ofP).map R7.cells) ao cap L rest 76 29 ty 31 31 Tryz.underlying76 szValueE (by rw [hL]; simp) (by simp; omega) hlen (oneV _) hre h1 ((rowG_V.1 hr).below b1)
      obtain ⟨w2, hcp, h2, k2, _⟩ := this 3
      refine ⟨w2, fun ty => ?_, h2, k2 _ _ b1 (Nat.le_refl _)⟩
      obtain ⟨w3, hcp3, _⟩ := this ty
      have e : (Builtin.copy_ #[76, 29] ty #[.slice (some ⟨w.heap.size, 0, none⟩) L L, .slice ao L cap]).run Tryz.prog (w.alloc (.cells rest.toArray 31)) = (Builtin.copy_ #[76, 29] 3 #[.slice (some ⟨w.heap.size, 0, none⟩) L L, .slice ao L cap]).run Tryz.prog (w.alloc (.cells rest.toArray 31)) := rfl
      rw [e]
      exact hcp
  have hcp := hcp 3
  obtain ⟨X, hX⟩ : ∃ X, X = ((l.map ofP).map R7.cells).flatten := ⟨_, rfl⟩
  have hat : ∀ j, j < L → X[j * 7 + 6]? = some (.slice none 0 0) := fun j hj => by
    rw [hX, flat_get _ hlen j 6 (by simpa [← hL] using hj) (by decide)]
    simp only [List.getElem_map]
    cases l[j] <;> rfl
  have hXl : X.length = L * 7 := by rw [hX, flatG_len _ hlen]; simp [hL]
  have hrow : ∀ w' : World, w'.heap[w.heap.size]? = some (.cells X.toArray 31 (0, 0)) → RowV w' (some ⟨w.heap.size, 0, none⟩) (l.map ofP) := fun w' h => rowG_V.2 (row_of_flat hlen (by rw [← hX]; exact h))
  rw [← hX] at h2
  have HROW := hide hrow
  have HAT := hide hat
  have HXL := hide hXl
  have HLL := hide hL
  clear hrow hat hX hL hr hlen hre hXl
  go_enter Tryz.func67, Tryz.ntmps67
  go_wp2
  have H2 := hide h2
  clear h2 h1 hcp hmk
  go_loopw [13] (fun iv wr => ∃ j : Nat, iv = .int .i64 j ∧ j ≤ L ∧ Below w.heap.size w wr ∧ wr.heap[w.heap.size]? = some (.cells X.toArray 31 (0, 0))) (fun iv _ => L - (intOf iv).toNat)
  case atStart => exact ⟨0, by go_num, Nat.zero_le _, hb2, unhide H2⟩
  case round =>
    obtain ⟨j, rfl, hj, hbw, hX⟩ := hrel
    by_cases hlt : j < L
    · have i0 : (0 : Int) ≤ (j : Int) := by omega
      have i1 : (j : Int) < (L : Int) := by omega
      have c6 : wr.cell? ⟨w.heap.size, j * 7 + 6, none⟩ = some (.slice none 0 0) := by
        rw [Lib.cell_of_heap hX]
        simpa using unhide HAT j hlt
      have zf : ∀ o, wr.frozen? ⟨w.heap.size, o, none⟩ = false := fun o => Lib.frozen_of_heap hX o
      have hX2 := hide (show (wr.setCell ⟨w.heap.size, j * 7 + 6, none⟩ (.slice none 0 0)).heap[w.heap.size]? = some (.cells X.toArray 31 (0, 0)) by
        rw [heap_setCell_same wr _ _ _ _ _ hX, set_same (unhide HAT j hlt)])
      have hb3 : Below w.heap.size w (wr.setCell ⟨w.heap.size, j * 7 + 6, none⟩ (.slice none 0 0)) := hbw.setCell (p := ⟨w.heap.size, j * 7 + 6, none⟩) (Nat.le_refl _) _
      have HX := hide hX
      clear hX
      go_wp2
      go_roundw
      case rel => exact ⟨j + 1, by go_num, by omega, hb3, unhide hX2⟩
      case measure =>
        simp only [intOf]
        omega
    · have i1 : ¬ (j : Int) < (L : Int) := by omega
      have HR := hide (unhide HROW wr hX)
      have HTY := hide (show TyV wr (some ⟨w.heap.size, 0, none⟩) from fun ad e => by cases e; exact ⟨rfl, _, _, hX⟩)
      clear hX
      go_wp2
      go_ret
      exact ⟨hbw, some ⟨w.heap.size, 0, none⟩, L, (by first | (rw [← unhide HLL]; done) | (rw [← unhide HLL]; rfl)), unhide HR, unhide HTY⟩

set_option maxHeartbeats 4000000 in
set_option maxRecDepth 1000000 in
theorem contentE_any (g : GV) (R : R7) (w : World) (hg : IsG w g R) (ho : okEG g) :
    Calls Tryz.prog 52 #[.agg #[.int .i64 R.k, .bool R.b, .int .i64 R.n, .string R.s, .string R.t, .string R.i, .slice R.lo R.ll R.lc]] w fun e w' => RetC w' (.inl g) e ∧ Below w.heap.size w w' := by
  have b1 := fun o => ev1 w o
  cases g with
  | pl p =>
    have hg : R = ofP p := hg
    subst hg
    cases p with
    | bool b =>
      have b1 := b1 (.cells #[.int .i64 1, .bool b, .int .i64 0, .string ⟨#[]⟩, .string ⟨#[]⟩, .string ⟨#[]⟩, .slice none 0 0] 31)
      simp only [ofP]
      have e0 : (ba [] : ByteArray) = ⟨#[]⟩ := rfl
      rw [e0]
      go_enter Tryz.func52, Tryz.ntmps52
      go_wp2
      go_ret2
      exact ⟨⟨_, _, rfl, rc_bool _ _⟩, b1⟩
    | long n =>
      have b1 := b1 (.cells #[.int .i64 2, .bool false, .int .i64 n, .string ⟨#[]⟩, .string ⟨#[]⟩, .string ⟨#[]⟩, .slice none 0 0] 31)
      have HO := hide ho
      clear ho
      simp only [ofP]
      have e0 : (ba [] : ByteArray) = ⟨#[]⟩ := rfl
      rw [e0]
      go_enter Tryz.func52, Tryz.ntmps52
      go_wp2
      go_ret2
      exact ⟨⟨_, _, rfl, rfl, unhide HO, rfl⟩, b1⟩
    | str s =>
      have b1 := b1 (.cells #[.int .i64 3, .bool false, .int .i64 0, .string (ba s), .string ⟨#[]⟩, .string ⟨#[]⟩, .slice none 0 0] 31)
      have HO := hide ho
      clear ho
      simp only [ofP]
      have e0 : (ba [] : ByteArray) = ⟨#[]⟩ := rfl
      rw [e0]
      go_enter Tryz.func52, Tryz.ntmps52
      go_wp2
      go_ret2
      exact ⟨⟨_, _, rfl, rfl, unhide HO, rfl⟩, b1⟩
    | uid t i =>
      have b1 := b1 (.cells #[.int .i64 4, .bool false, .int .i64 0, .string ⟨#[]⟩, .string (ba t), .string (ba i), .slice none 0 0] 31)
      simp only [ofP]
      have e0 : (ba [] : ByteArray) = ⟨#[]⟩ := rfl
      rw [e0]
      go_enter Tryz.func52, Tryz.ntmps52
      go_wp2
      go_ret2
      exact ⟨⟨_, _, rfl, rc_uid _ _ _⟩, b1⟩
  | set l =>
    obtain ⟨ao, c, rfl, hr, _⟩ := hg
    have b1 := b1 (.cells #[.int .i64 5, .bool false, .int .i64 0, .string ⟨#[]⟩, .string ⟨#[]⟩, .string ⟨#[]⟩, .slice ao l.length c] 31)
    have C := ownSet_any l ao c _ ho (hr.below b1)
    have HO := hide ho
    clear ho hr
    obtain ⟨L, hL⟩ : ∃ L : Nat, L = l.length := ⟨_, rfl⟩
    rw [← hL] at C b1
    simp only [setR]
    rw [← hL]
    have HL := hide hL
    clear hL
    have e0 : (ba [] : ByteArray) = ⟨#[]⟩ := rfl
    rw [e0]
    go_enter Tryz.func52, Tryz.ntmps52
    go_wp2_with fail
    refine C.mono ?_
    rintro e w3 ⟨b3, ao', c', rfl, hr', ho'⟩
    have H3 := hide hr'
    have H4 := hide ho'
    clear hr' ho' C
    go_wp2
    go_ret2
    exact ⟨⟨_, _, rfl, rfl, unhide HO, ao', c', rfl, unhide H3, unhide H4⟩, b1.trans (b3.mono b1.size)⟩
end Go.Proofs.YtbbongdnnmanlaaGreat

namespace Go.Proofs.YtbbongdnnmanlaaGreat
open Go.RowKit Go.Sort

/-- The place of the first true, or -1. -/
def idxFrom : Nat → List Bool → Int
  | _, [] => -1
  | j, true :: _ => j
  | j, false :: t => idxFrom (j + 1) t
theorem idxFrom_at (bs : List Bool) (j m : Nat) (h : j < bs.length) : idxFrom m (bs.drop j) = if bs[j] then (m : Int) else idxFrom (m + 1) (bs.drop (j + 1)) := by
  rw [List.drop_eq_getElem_cons h]
  cases bs[j] <;> rfl
theorem idxFrom_cases : ∀ (bs : List Bool) (m : Nat), (idxFrom m bs = -1 ∧ ∀ k (h : k < bs.length), bs[k] = false) ∨ ∃ (j : Nat) (h : j < bs.length), idxFrom m bs = ((m + j : Nat) : Int) ∧ bs[j] = true ∧ ∀ k (hk : k < j), bs[k]'(by omega) = false
  | [], _ => .inl ⟨rfl, fun k h => absurd h (Nat.not_lt_zero _)⟩
  | true :: t, m => .inr ⟨0, by simp, by simp [idxFrom], rfl, fun k hk => absurd hk (Nat.not_lt_zero _)⟩
  | false :: t, m => by
    rcases idxFrom_cases t (m + 1) with ⟨h1, h2⟩ | ⟨j, hj, h1, h2, h3⟩
    · refine .inl ⟨h1, fun k h => ?_⟩
      cases k with
      | zero => rfl
      | succ k => exact h2 k (by simpa using h)
    · refine .inr ⟨j + 1, by simpa using hj, ?_, by simpa using h2, fun k hk => ?_⟩
      · show idxFrom (m + 1) t = _
        rw [h1]
        congr 1
        omega
      · cases k with
        | zero => rfl
        | succ k => simpa using h3 k (by omega)
theorem findP_none {ps : List EntP} {u : U2} (h : ∀ k (hk : k < ps.length), ps[k].u ≠ u) : findP ps u = none := by
  unfold findP
  rw [List.find?_eq_none]
  intro p hp
  obtain ⟨k, hk, rfl⟩ := List.mem_iff_getElem.1 hp
  simpa using h k hk
theorem findP_some {ps : List EntP} {u : U2} {j : Nat} (hj : j < ps.length) (hu : ps[j].u = u) (h : ∀ k (hk : k < j), (ps[k]'(by omega)).u ≠ u) : findP ps u = some ps[j] := by
  unfold findP
  rw [List.find?_eq_some_iff_getElem]
  exact ⟨by simpa using hu, j, hj, rfl, fun k hk => by simpa using h k hk⟩
theorem getP_none {l : List (ByteArray × GV)} {n : ByteArray} (h : ∀ k (hk : k < l.length), l[k].1 ≠ n) : getP l n = none := by
  unfold getP
  rw [List.find?_eq_none]
  intro p hp
  obtain ⟨k, hk, rfl⟩ := List.mem_iff_getElem.1 hp
  simpa using h k hk
theorem getP_some {l : List (ByteArray × GV)} {n : ByteArray} {j : Nat} (hj : j < l.length) (hu : l[j].1 = n) (h : ∀ k (hk : k < j), (l[k]'(by omega)).1 ≠ n) : getP l n = some l[j] := by
  unfold getP
  rw [List.find?_eq_some_iff_getElem]
  exact ⟨by simpa using hu, j, hj, rfl, fun k hk => by simpa using h k hk⟩
theorem eq_beq (a b : ByteArray) : (a.toList == b.toList) = decide (a = b) := by
  by_cases h : a = b
  · subst h; simp
  · simp [h, toList_ba]

set_option maxHeartbeats 1000000 in
set_option maxRecDepth 1000000 in
theorem evGet1X (e : E4) (u : U2) (vb : Nat) (w : World) (hvb : vb < w.heap.size) (A : AtE2 w vb 0 u) :
    Calls Tryz.prog 49 #[.agg #[.string e.t, .string e.i, .slice e.po e.pl e.pc, .slice e.ao e.al e.ac], .pointer (some ⟨vb, 0, none⟩)] w fun x w' => x = .returned (.bool (decide ((⟨e.t, e.i⟩ : U2) = u))) ∧ Below w.heap.size w w' := by
  have BE : ∀ W, (binOp .eql 28 (.agg #[.string e.t, .string e.i]) (.agg #[.string u.t, .string u.i])).run Tryz.prog W = .ok (.bool (decide ((⟨e.t, e.i⟩ : U2) = u))) W := fun W => binEqlUid ⟨e.t, e.i⟩ u W
  generalize decide ((⟨e.t, e.i⟩ : U2) = u) = x at *
  have b1 := ev1 w (.cells #[.string e.t, .string e.i, .slice e.po e.pl e.pc, .slice e.ao e.al e.ac] 106)
  obtain ⟨a0, a1⟩ := A
  simp only [Nat.zero_add] at a1
  go_enter Tryz.func49, Tryz.ntmps49
  go_wp2
  go_ret
  exact ⟨rfl, b1⟩
set_option maxHeartbeats 1000000 in
set_option maxRecDepth 1000000 in
theorem evGet2X (e : A8) (u : ByteArray) (vb : Nat) (w : World) (hvb : vb < w.heap.size) (A : w.cell? ⟨vb, 0, none⟩ = some (.string u)) :
    Calls Tryz.prog 51 #[.agg #[.string e.nm, .int .i64 e.v.k, .bool e.v.b, .int .i64 e.v.n, .string e.v.s, .string e.v.t, .string e.v.i, .slice e.v.lo e.v.ll e.v.lc], .pointer (some ⟨vb, 0, none⟩)] w fun x w' => x = .returned (.bool (decide (e.nm = u))) ∧ Below w.heap.size w w' := by
  have BE := eq_beq e.nm u
  generalize decide (e.nm = u) = x at *
  have b1 := ev1 w (.cells #[.string e.nm, .int .i64 e.v.k, .bool e.v.b, .int .i64 e.v.n, .string e.v.s, .string e.v.t, .string e.v.i, .slice e.v.lo e.v.ll e.v.lc] 110)
  go_enter Tryz.func51, Tryz.ntmps51
  go_wp2
  go_ret
  exact ⟨rfl, b1⟩

set_option maxHeartbeats 2000000 in
set_option maxRecDepth 1000000 in
theorem idxEnt_any (l : List E4) (u : U2) (ao : Option Addr) (c vb : Nat) (w : World) (hl : l.length ≤ 1048576) (hr : RowG w ao 4 (l.map E4.cells)) (hvb : vb < w.heap.size) (A : AtE2 w vb 0 u) :
    Calls Tryz.prog 48 #[.slice ao l.length c, .func (.func 49) #[] #[.pointer (some ⟨vb, 0, none⟩)]] w fun x w' => x = .returned (.int .i64 (idxFrom 0 (l.map fun e => decide ((⟨e.t, e.i⟩ : U2) = u)))) ∧ Below w.heap.size w w' := by
  obtain ⟨bs, hbs⟩ : ∃ bs, bs = l.map fun e => decide ((⟨e.t, e.i⟩ : U2) = u) := ⟨_, rfl⟩
  rw [← hbs]
  have hlen : bs.length = l.length := by rw [hbs]; simp
  have hget : ∀ j (h : j < l.length) (h' : j < bs.length), bs[j] = decide ((⟨l[j].t, l[j].i⟩ : U2) = u) := fun j h h' => by simp [hbs]
  have HG := hide hget
  have HLN := hide hlen
  clear hget hbs hlen
  go_enter Tryz.func48, Tryz.ntmps48
  go_wp2
  go_loopw [8] (fun iv wr => ∃ i : Nat, iv = .int .i64 i ∧ i ≤ l.length ∧ Below w.heap.size w wr ∧ idxFrom 0 bs = idxFrom i (bs.drop i)) (fun iv _ => l.length - (intOf iv).toNat)
  case atStart => exact ⟨0, by go_num, Nat.zero_le _, Below.refl _ _, by simp⟩
  case round =>
    obtain ⟨j, rfl, hj, hbw, hacc⟩ := hrel
    have Hacc := hide hacc
    clear hacc
    by_cases hlt : j < l.length
    · have i1 : (j : Int) < (l.length : Int) := by omega
      obtain ⟨b, off, rfl, hb, hc⟩ := rowG_at hr hbw hlt
      have B := AtE4.of hc
      have F := evGet1X l[j] u vb wr (by have := hbw.size; omega) (A.below hbw hvb)
      have HX := hide (idxFrom_at bs j j (by rw [unhide HLN]; exact hlt))
      rw [unhide HG j hlt (by rw [unhide HLN]; exact hlt)] at HX
      clear hc
      obtain ⟨e, ep⟩ : ∃ e, e = l[j] := ⟨_, rfl⟩
      rw [← ep] at B F HX
      clear ep
      obtain ⟨x, hx⟩ : ∃ x, x = decide ((⟨e.t, e.i⟩ : U2) = u) := ⟨_, rfl⟩
      rw [← hx] at F HX
      clear hx
      obtain ⟨a0, a1, a2, a3⟩ := B
      go_wp2_with fail
      refine F.mono ?_
      rintro e9 w2 ⟨rfl, b2⟩
      have b3 := hbw.trans (b2.mono hbw.size)
      clear F
      cases x
      · go_wp2
        go_roundw
        case rel => exact ⟨j + 1, by go_num, by omega, b3, by rw [unhide Hacc, unhide HX]; rfl⟩
        case measure =>
          simp only [intOf]
          omega
      · go_wp2
        go_ret
        exact ⟨(by first | (rw [unhide Hacc, unhide HX]; done) | (rw [unhide Hacc, unhide HX]; rfl)), b3⟩
    · have i1 : ¬ (j : Int) < (l.length : Int) := by omega
      have HE := hide (show idxFrom 0 bs = -1 by rw [unhide Hacc, List.drop_eq_nil_of_le (by rw [unhide HLN]; omega)]; rfl)
      go_wp2
      go_ret
      exact ⟨(by first | (rw [unhide HE]; done) | (rw [unhide HE]; rfl)), hbw⟩

set_option maxHeartbeats 2000000 in
set_option maxRecDepth 1000000 in
theorem idxAttr_any (l : List A8) (u : ByteArray) (ao : Option Addr) (c vb : Nat) (w : World) (hl : l.length ≤ 1048576) (hr : RowG w ao 8 (l.map A8.cells)) (hvb : vb < w.heap.size) (A : w.cell? ⟨vb, 0, none⟩ = some (.string u)) :
    Calls Tryz.prog 50 #[.slice ao l.length c, .func (.func 51) #[] #[.pointer (some ⟨vb, 0, none⟩)]] w fun x w' => x = .returned (.int .i64 (idxFrom 0 (l.map fun e => decide (e.nm = u)))) ∧ Below w.heap.size w w' := by
  obtain ⟨bs, hbs⟩ : ∃ bs, bs = l.map fun e => decide (e.nm = u) := ⟨_, rfl⟩
  rw [← hbs]
  have hlen : bs.length = l.length := by rw [hbs]; simp
  have hget : ∀ j (h : j < l.length) (h' : j < bs.length), bs[j] = decide (l[j].nm = u) := fun j h h' => by simp [hbs]
  have HG := hide hget
  have HLN := hide hlen
  clear hget hbs hlen
  go_enter Tryz.func50, Tryz.ntmps50
  go_wp2
  go_loopw [8] (fun iv wr => ∃ i : Nat, iv = .int .i64 i ∧ i ≤ l.length ∧ Below w.heap.size w wr ∧ idxFrom 0 bs = idxFrom i (bs.drop i)) (fun iv _ => l.length - (intOf iv).toNat)
  case atStart => exact ⟨0, by go_num, Nat.zero_le _, Below.refl _ _, by simp⟩
  case round =>
    obtain ⟨j, rfl, hj, hbw, hacc⟩ := hrel
    have Hacc := hide hacc
    clear hacc
    by_cases hlt : j < l.length
    · have i1 : (j : Int) < (l.length : Int) := by omega
      obtain ⟨b, off, rfl, hb, hc⟩ := rowG_at hr hbw hlt
      have B := AtE8.of hc
      have F := evGet2X l[j] u vb wr (by have := hbw.size; omega) ((hbw.cell (p := ⟨vb, 0, none⟩) hvb).trans A)
      have HX := hide (idxFrom_at bs j j (by rw [unhide HLN]; exact hlt))
      rw [unhide HG j hlt (by rw [unhide HLN]; exact hlt)] at HX
      clear hc
      obtain ⟨e, ep⟩ : ∃ e, e = l[j] := ⟨_, rfl⟩
      rw [← ep] at B F HX
      clear ep
      obtain ⟨x, hx⟩ : ∃ x, x = decide (e.nm = u) := ⟨_, rfl⟩
      rw [← hx] at F HX
      clear hx
      obtain ⟨a0, a1, a2, a3, a4, a5, a6, a7⟩ := B
      go_wp2_with fail
      refine F.mono ?_
      rintro e9 w2 ⟨rfl, b2⟩
      have b3 := hbw.trans (b2.mono hbw.size)
      clear F
      cases x
      · go_wp2
        go_roundw
        case rel => exact ⟨j + 1, by go_num, by omega, b3, by rw [unhide Hacc, unhide HX]; rfl⟩
        case measure =>
          simp only [intOf]
          omega
      · go_wp2
        go_ret
        exact ⟨(by first | (rw [unhide Hacc, unhide HX]; done) | (rw [unhide Hacc, unhide HX]; rfl)), b3⟩
    · have i1 : ¬ (j : Int) < (l.length : Int) := by omega
      have HE := hide (show idxFrom 0 bs = -1 by rw [unhide Hacc, List.drop_eq_nil_of_le (by rw [unhide HLN]; omega)]; rfl)
      go_wp2
      go_ret
      exact ⟨(by first | (rw [unhide HE]; done) | (rw [unhide HE]; rfl)), hbw⟩

end Go.Proofs.YtbbongdnnmanlaaGreat

namespace Go.Proofs.YtbbongdnnmanlaaGreat
open Go.RowKit Go.Sort

theorem getC_no {ps : List EntP} {a : GV} {n : ByteArray} (h : ∀ t i, a ≠ .pl (.uid t i)) : getC ps a n = .inr 16 := by
  unfold getC
  split
  · exact absurd rfl (h _ _)
  · rfl
theorem attrC_gone {ps : List EntP} {u : U2} (n : ByteArray) (h : findP ps u = none) : attrC ps u n = .inr 18 := by
  unfold attrC
  rw [h]
theorem attrC_name {ps : List EntP} {u : U2} {n : ByteArray} {p : EntP} (h : findP ps u = some p) (h2 : getP p.ats n = none) : attrC ps u n = .inr 15 := by
  unfold attrC
  rw [h]
  simp only
  rw [h2]
theorem attrC_is {ps : List EntP} {u : U2} {n : ByteArray} {p : EntP} {x : ByteArray × GV} (h : findP ps u = some p) (h2 : getP p.ats n = some x) : attrC ps u n = .inl x.2 := by
  unfold attrC
  rw [h]
  simp only
  rw [h2]
theorem EW.find {w : World} {lo : Option Addr} {gs : List E4} {D : EvD} (h : EW w lo gs D) (u : U2) :
    (idxFrom 0 (gs.map fun e => decide ((⟨e.t, e.i⟩ : U2) = u)) = -1 ∧ findP D.ps u = none) ∨ ∃ (j : Nat) (hj : j < gs.length) (p : EntP), idxFrom 0 (gs.map fun e => decide ((⟨e.t, e.i⟩ : U2) = u)) = (j : Int) ∧ findP D.ps u = some p ∧ p ∈ D.ps ∧ IsEnt w (fun _ => True) gs[j] p := by
  obtain ⟨hlen, hall⟩ := h.all
  rcases idxFrom_cases (gs.map fun e => decide ((⟨e.t, e.i⟩ : U2) = u)) 0 with ⟨h1, h2⟩ | ⟨j, hj, h1, h2, h3⟩
  · refine .inl ⟨h1, findP_none fun k hk e => ?_⟩
    have hk' : k < gs.length := by rw [hlen]; exact hk
    have := h2 k (by simpa using hk')
    rw [List.getElem_map] at this
    exact of_decide_eq_false this ((hall k hk' hk).u.trans e)
  · have hj' : j < gs.length := by simpa using hj
    have hj2 : j < D.ps.length := by rw [← hlen]; exact hj'
    refine .inr ⟨j, hj', D.ps[j], by rw [h1]; simp, findP_some hj2 ?_ (fun k hk e => ?_), List.getElem_mem _, hall j hj' hj2⟩
    · rw [← (hall j hj' hj2).u]
      rw [List.getElem_map] at h2
      exact of_decide_eq_true h2
    · have := h3 k hk
      rw [List.getElem_map] at this
      exact of_decide_eq_false this ((hall k (by omega) (by omega)).u.trans e)
theorem IsAs.find {w : World} {P : Nat → Nat → Prop} {rs : List A8} {l : List (ByteArray × GV)} (h : IsAs w P rs l) (n : ByteArray) :
    (idxFrom 0 (rs.map fun e => decide (e.nm = n)) = -1 ∧ getP l n = none) ∨ ∃ (j : Nat) (hj : j < rs.length) (x : ByteArray × GV), idxFrom 0 (rs.map fun e => decide (e.nm = n)) = (j : Int) ∧ getP l n = some x ∧ x ∈ l ∧ IsG w x.2 rs[j].v := by
  obtain ⟨hlen, hall⟩ := h
  rcases idxFrom_cases (rs.map fun e => decide (e.nm = n)) 0 with ⟨h1, h2⟩ | ⟨j, hj, h1, h2, h3⟩
  · refine .inl ⟨h1, getP_none fun k hk e => ?_⟩
    have hk' : k < rs.length := by rw [hlen]; exact hk
    have := h2 k (by simpa using hk')
    rw [List.getElem_map] at this
    exact of_decide_eq_false this ((hall k hk' hk).1.trans e)
  · have hj' : j < rs.length := by simpa using hj
    have hj2 : j < l.length := by rw [← hlen]; exact hj'
    refine .inr ⟨j, hj', l[j], by rw [h1]; simp, getP_some hj2 ?_ (fun k hk e => ?_), List.getElem_mem _, (hall j hj' hj2).2.1⟩
    · rw [← (hall j hj' hj2).1]
      rw [List.getElem_map] at h2
      exact of_decide_eq_true h2
    · have := h3 k hk
      rw [List.getElem_map] at this
      exact of_decide_eq_false this ((hall k (by omega) (by omega)).1.trans e)

set_option maxHeartbeats 4000000 in
set_option maxRecDepth 1000000 in
theorem get13_any (lo : Option Addr) (gs : List E4) (c : Nat) (D : EvD) (a : GV) (va : Value) (nm : ByteArray) (w : World) (hE : EW w lo gs D) (ha : IsC w a va) :
    Calls Tryz.prog 31 #[wV lo gs.length c D, va, .string nm] w fun e w' => RetC w' (getC D.ps a nm) e ∧ Below w.heap.size w w' := by
  have T := ct_uid
  have HE := hide hE
  have hgl := hE.len
  clear hE
  rcases c_uid ha with ⟨t, i, rfl, rfl⟩ | ⟨hna, S, x, rfl, TA⟩
  · clear ha
    obtain ⟨b3, z3, k1, k2, k3⟩ := ev3 w (wO lo gs.length c D) (.cells #[.string nm] 9) (.cells #[.string (ba t), .string (ba i)] 79)
    unfold wV
    unfold wO at b3 k1 k2 k3 z3
    obtain ⟨N, hN⟩ : ∃ N, N = gs.length := ⟨_, rfl⟩
    rw [← hN] at b3 k1 k2 k3 z3 hgl ⊢
    have HN := hide hN
    clear hN
    rw [show getC D.ps (.pl (.uid t i)) nm = attrC D.ps ⟨ba t, ba i⟩ nm from rfl]
    obtain ⟨r, hr⟩ : ∃ r, r = attrC D.ps ⟨ba t, ba i⟩ nm := ⟨_, rfl⟩
    rw [← hr]
    have HR := hide hr
    clear hr
    generalize ba t = bt at *
    generalize ba i = bi at *
    go_enter Tryz.func31, Tryz.ntmps31
    go_upto_region 4 with fail
    generalize ((w.alloc _).alloc _).alloc _ = w3 at *
    have b3s := b3.size
    have cw0 : w3.cell? ⟨w.heap.size, 0, none⟩ = some (.slice lo N c) := by rw [Lib.cell_of_heap k1]; rfl
    have cw1 : w3.cell? ⟨w.heap.size, 1, none⟩ = some (.string D.p.t) := by rw [Lib.cell_of_heap k1]; rfl
    have cw2 : w3.cell? ⟨w.heap.size, 2, none⟩ = some (.string D.p.i) := by rw [Lib.cell_of_heap k1]; rfl
    have cw3 : w3.cell? ⟨w.heap.size, 3, none⟩ = some (.string D.a.t) := by rw [Lib.cell_of_heap k1]; rfl
    have cw4 : w3.cell? ⟨w.heap.size, 4, none⟩ = some (.string D.a.i) := by rw [Lib.cell_of_heap k1]; rfl
    have cw5 : w3.cell? ⟨w.heap.size, 5, none⟩ = some (.string D.r.t) := by rw [Lib.cell_of_heap k1]; rfl
    have cw6 : w3.cell? ⟨w.heap.size, 6, none⟩ = some (.string D.r.i) := by rw [Lib.cell_of_heap k1]; rfl
    have hE3 := (unhide HE).below b3
    have C := idxEnt_any gs ⟨bt, bi⟩ lo c (w.heap.size + 2) w3 hE3.len hE3.row (by omega) ⟨by rw [Lib.cell_of_heap k3]; rfl, by rw [Lib.cell_of_heap k3]; rfl⟩
    have HF := hide (hE3.find ⟨bt, bi⟩)
    clear hE3
    rw [← unhide HN] at C
    obtain ⟨q, hq⟩ : ∃ q, q = idxFrom 0 (gs.map fun e => decide ((⟨e.t, e.i⟩ : U2) = ⟨bt, bi⟩)) := ⟨_, rfl⟩
    rw [← hq] at C HF
    clear hq
    go_wp2_with fail
    refine C.mono ?_
    rintro e4 w4 ⟨rfl, b4⟩
    have B4 := b3.trans (b4.mono b3.size)
    have k14 := kept_of_below b4 k1
    have k24 := kept_of_below b4 k2
    clear C cw0 cw1 cw2 cw3 cw4 cw5 cw6
    rcases unhide HF with ⟨rfl, hf⟩ | ⟨j, hj, p, rfl, hf, hp, hI⟩
    · have HX := hide ((unhide HR).trans (attrC_gone nm hf))
      clear hf HF
      go_wp2
      go_ret2
      refine ⟨⟨_, _, rfl, ?_⟩, B4⟩
      rw [unhide HX]
      exact rc_err _ (by decide)
    · have hI4 := hI.below b4
      obtain ⟨g, off, hlo, hg, hc⟩ := rowG_at (unhide HE).row B4 hj
      have AE := AtE4.of hc
      obtain ⟨rs, hal, hrow, _, hAs⟩ := hI4.ats
      have hok := (unhide HE).ok p hp
      have hAl : rs.length ≤ 1048576 := by rw [hAs.1]; exact hok.1
      obtain ⟨e, ep⟩ : ∃ e, e = gs[j] := ⟨_, rfl⟩
      rw [← ep] at AE hal hrow
      have jN : j < N := by rw [unhide HN]; exact hj
      clear ep hc hI4 hI HF
      subst hlo
      obtain ⟨a0, a1, a2, a3⟩ := AE
      have s0 : w4.cell? ⟨w.heap.size, 0, none⟩ = some (.slice (some ⟨g, off, none⟩) N c) := by rw [Lib.cell_of_heap k14]; rfl
      have n0 : w4.cell? ⟨w.heap.size + 1, 0, none⟩ = some (.string nm) := by rw [Lib.cell_of_heap k24]; rfl
      have C := idxAttr_any rs nm e.ao e.ac (w.heap.size + 1) w4 hAl hrow (by have := b4.size; omega) n0
      have HF2 := hide (hAs.find nm)
      have HOK := hide hok.2
      have HRW := hide hrow
      rw [← hal] at C
      have HAL := hide hal
      clear hrow hAs hok
      obtain ⟨q, hq⟩ : ∃ q, q = idxFrom 0 (rs.map fun e => decide (e.nm = nm)) := ⟨_, rfl⟩
      rw [← hq] at C HF2
      clear hq
      have HFD := hide hf
      clear hf hal hAl
      have i0 : ¬ ((j : Int) < 0) := by omega
      have i1 : (0 : Int) ≤ (j : Int) := by omega
      have i2 : (j : Int) < (N : Int) := by omega
      go_wp2_with fail
      refine C.mono ?_
      rintro e5 w5 ⟨rfl, b5⟩
      have B5 := B4.trans (b5.mono B4.size)
      clear C s0 n0 a0 a1 a2 a3
      rcases unhide HF2 with ⟨rfl, hf⟩ | ⟨m, hm, x, rfl, hf, hx, hG⟩
      · have HX := hide ((unhide HR).trans (attrC_name (unhide HFD) hf))
        clear hf HF2
        go_wp2
        go_ret2
        refine ⟨⟨_, _, rfl, ?_⟩, B5⟩
        rw [unhide HX]
        exact rc_err _ (by decide)
      · have HX := hide ((unhide HR).trans (attrC_is (unhide HFD) hf))
        obtain ⟨g2, off2, hlo2, hg2, hc2⟩ := rowG_at (unhide HRW) b5 hm
        have AE := AtE8.of hc2
        have C := contentE_any x.2 rs[m].v w5 (hG.below b5) (unhide HOK x hx)
        have mL : m < e.al := by rw [unhide HAL]; exact hm
        obtain ⟨y, ey⟩ : ∃ y, y = rs[m] := ⟨_, rfl⟩
        rw [← ey] at AE C
        obtain ⟨ynm, yv⟩ := y
        simp only at C
        obtain ⟨d0, d1, d2, d3, d4, d5, d6, d7⟩ := AE
        simp only at d0 d1 d2 d3 d4 d5 d6 d7
        clear ey hc2 hG hf HF2
        have i3 : ¬ ((m : Int) < 0) := by omega
        have i4 : (0 : Int) ≤ (m : Int) := by omega
        have i5 : (m : Int) < (e.al : Int) := by omega
        generalize e.ao = eao at *
        subst hlo2
        go_wp2_with fail
        refine C.mono ?_
        rintro e6 w6 ⟨⟨v6, kk6, rfl, hrc⟩, b6⟩
        have H6 := hide hrc
        clear hrc C d0 d1 d2 d3 d4 d5 d6 d7
        go_wp2
        go_ret2
        refine ⟨⟨_, _, rfl, ?_⟩, B5.trans (b6.mono B5.size)⟩
        rw [unhide HX]
        exact unhide H6
  · rw [getC_no hna]
    clear ha hna
    obtain ⟨b3, z3, k1, k2, k3⟩ := ev3 w (wO lo gs.length c D) (.cells #[.string nm] 9) (.cells #[.string ⟨#[]⟩, .string ⟨#[]⟩] 79)
    unfold wV
    unfold wO at b3 k1 k2 k3 z3
    clear z3 k1 k2 k3
    go_enter Tryz.func31, Tryz.ntmps31
    go_wp2
    go_ret2
    exact ⟨⟨_, _, rfl, rc_err _ (by decide)⟩, b3⟩
end Go.Proofs.YtbbongdnnmanlaaGreat
