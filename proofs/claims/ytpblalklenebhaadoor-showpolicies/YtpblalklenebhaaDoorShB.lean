/-
  show.kid: what it returns.
-/
import Derived.Test.YtpblalklenebhaaDoorShA
import Derived.Deep.Cut
import Derived.Lib.LaidTab
import Derived.Lib.ItoaNum
import Derived.Lib.ItoaMem
namespace Go.Proofs.YtpblalklenebhaaDoor
open Go.RowKit

/-- The tables that the writers read. -/
def Tab6 (w : World) : Prop := Lib.TabIs Tryd.prog w "internal/strconv.uint64pow10" .u64 Lib.pow10Tab ∧ 3 < w.heap.size ∧ w.cell? ⟨3, 15, none⟩ = some (.int .u8 4)
theorem tabIs_below {P : Program} {w w' : World} {nm : String} {k : IntKind} {zs : List Int} (h : Lib.TabIs P w nm k zs) (hb : Below w.heap.size w w') : Lib.TabIs P w' nm k zs := by
  unfold Lib.TabIs World.var? at *
  cases hg : P.globalNamed nm with
  | none => rw [hg] at h; simp at h
  | some g =>
    rw [hg] at h
    simp only [Option.bind_some] at h ⊢
    rcases Nat.lt_or_ge g w.heap.size with hl | hl
    · rw [hb.block g hl]; exact h
    · rw [Array.getElem?_eq_none hl] at h; cases h
theorem Tab6.below {w w' : World} (h : Tab6 w) (hb : Below w.heap.size w w') : Tab6 w' :=
  ⟨tabIs_below h.1 hb, Nat.lt_of_lt_of_le h.2.1 hb.size, (hb.cell (p := ⟨3, 15, none⟩) h.2.1).trans h.2.2⟩

/-- What show.Expr is to return of a tree, in whatever world it lies. -/
def Shows (P : Nat → Prop) (x : Ex) : Prop :=
  ∀ (r : R7) (w : World), Tab6 w → IsE w P r x → Calls Tryd.prog 11 #[r.val] w fun e w' => e = .returned (.string (ba (showE x))) ∧ Below w.heap.size w w'
theorem isE_op {w : World} {P : Nat → Prop} {r : R7} {x : Ex} (h : IsE w P r x) : r.k = opE x := by
  cases x
  unfold IsE at h
  exact h.1
theorem ret_ba {a : ByteArray} {b : List UInt8} (h : a.data.toList = b) : Ending.returned (.string a) = .returned (.string (ba b)) := by
  rw [← h]
  rfl
theorem ba_size (l : List UInt8) : (ba l).size = l.length := by
  show l.toArray.size = _
  simp

set_option maxHeartbeats 4000000 in
set_option maxRecDepth 1000000 in
theorem skid_any (k : Int) (b : Bool) (n : Int) (s t i : List UInt8) (l : List Ex) (r : R7) (P : Nat → Prop) (w : World) (j : Nat) (asked : Int) (hT : Tab6 w) (hx : IsE w P r (.mk k b n s t i l)) (hj : j < l.length)
    (C : Shows P l[j]) (hlen : (showE l[j]).length ≤ 1000000000000000) :
    Calls Tryd.prog 22 #[r.val, .int .i64 j, .int .i64 asked] w fun e w' => e = .returned (.string (ba (kidT (showL l) j asked))) ∧ Below w.heap.size w w' := by
  rw [kidT_showL l j hj]
  unfold IsE at hx
  obtain ⟨rfl, rfl, rfl, hs, ht, hi, hll, hks⟩ := hx
  obtain ⟨rk, g, off, hlo, hg, h7, hxk⟩ := IsEs.get l 0 j hj hks
  rw [Nat.zero_add] at h7
  rw [← isE_op hxk]
  have n1 := newS w (.cells #[.int .i64 r.k, .bool r.b, .int .i64 r.n, .string r.s, .string r.t, .string r.i, .slice r.lo r.ll r.lc] 32)
  have h1 : (w.alloc (.cells #[.int .i64 r.k, .bool r.b, .int .i64 r.n, .string r.s, .string r.t, .string r.i, .slice r.lo r.ll r.lc] 32)).heap[w.heap.size]? = some (.cells #[.int .i64 r.k, .bool r.b, .int .i64 r.n, .string r.s, .string r.t, .string r.i, .slice r.lo r.ll r.lc] 32 (0, 0)) := alloc_heap _ _
  have C1 := C rk _ (hT.below n1) (IsE.turn n1.size (fun b hb hb2 => ⟨n1.block b hb2, hb⟩) rk _ hxk)
  rw [hlo, hll] at h1 n1 C1
  unfold R7.val at C1 ⊢
  rw [hlo, hll]
  have hA := ba_size (showE l[j])
  generalize hA0 : ba (showE l[j]) = A at *
  have hA1 : A.size ≤ 1000000000000000 := by omega
  have hout : ∀ c : Bool, ba (brk c (showE l[j])) = if c then (⟨#[40]⟩ : ByteArray) ++ A ++ ⟨#[41]⟩ else A := by
    intro c
    cases c
    · exact hA0
    · rw [← hA0]
      simp [brk, ba, ByteArray.ext_iff, ByteArray.data_append]
  rw [hout]
  clear hs ht hi hout hA0 hA hxk hks hlen C hlo hll hT
  have i1 : ¬ (l.length : Int) ≤ (j : Int) := by omega
  have i2 : (j : Int) < (l.length : Int) := by omega
  have hAg : ¬ 9223372036854775807 < 1 + A.size := by omega
  have hAg2 : ¬ 9223372036854775807 < 1 + A.size + 1 := by omega
  have L := fun w => slevel_any rk.k w
  generalize lev rk.k = lv at *
  by_cases hlv : lv < asked
  · rw [decide_eq_true hlv]
    go_enter Tryd.func22, Tryd.ntmps22
    go_upto_region 1 with fail
    generalize w.alloc _ = w1 at *
    obtain ⟨x0, x1, x2, x3, x4, x5, x6, _⟩ := blk7 h1
    have h7' := h7.below n1 hg
    obtain ⟨y0, y1, y2, y3, y4, y5, y6⟩ := h7'
    go_wp2_with fail
    refine C1.mono ?_
    rintro e w2 ⟨rfl, b2⟩
    have h7' := (h7.below n1 hg).below b2 (by have := n1.size; omega)
    clear x0 x1 x2 x3 x4 x5 x6 y0 y1 y2 y3 y4 y5 y6 C1
    obtain ⟨_, _, _, _, _, _, x6, _⟩ := blk7 (kept_of_below b2 h1)
    have y0 := h7'.c0
    have b02 := n1.trans (b2.mono n1.size)
    clear h7 h7' h1
    go_wp2_with fail
    refine (L _).mono ?_
    rintro e w3 ⟨rfl, rfl⟩
    go_wp2
    go_ret
    exact ⟨rfl, b02⟩
  · rw [decide_eq_false hlv]
    go_enter Tryd.func22, Tryd.ntmps22
    go_upto_region 1 with fail
    generalize w.alloc _ = w1 at *
    obtain ⟨x0, x1, x2, x3, x4, x5, x6, _⟩ := blk7 h1
    have h7' := h7.below n1 hg
    obtain ⟨y0, y1, y2, y3, y4, y5, y6⟩ := h7'
    go_wp2_with fail
    refine C1.mono ?_
    rintro e w2 ⟨rfl, b2⟩
    have h7' := (h7.below n1 hg).below b2 (by have := n1.size; omega)
    clear x0 x1 x2 x3 x4 x5 x6 y0 y1 y2 y3 y4 y5 y6 C1
    obtain ⟨_, _, _, _, _, _, x6, _⟩ := blk7 (kept_of_below b2 h1)
    have y0 := h7'.c0
    have b02 := n1.trans (b2.mono n1.size)
    clear h7 h7' h1
    go_wp2_with fail
    refine (L _).mono ?_
    rintro e w3 ⟨rfl, rfl⟩
    go_wp2
    go_ret
    exact ⟨rfl, b02⟩
end Go.Proofs.YtpblalklenebhaaDoor
