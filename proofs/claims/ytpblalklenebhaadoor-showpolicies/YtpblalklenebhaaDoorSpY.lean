/-
  show.effect, show.scope, show.cond, and the reference's scope.
  strings.Join of texts with nothing between them.
  show.each over a policy's conditions.
  show.Policy.
  The reference's Policy.
  chancellaw5.Policy: what it makes, and how its head grows (no walk in it).
  chancellaw5.Policy: how its row of conditions grows (no walk in it).
  chancellaw5.Policy: the walk.
  chancellaw6.ShowPolicies: the walk.
-/
import Derived.Test.YtpblalklenebhaaDoorShU
import Derived.Test.YtpblalklenebhaaDoorRsG
import Derived.Test.YtpblalklenebhaaDoorShJ
import Derived.Test.YtpblalklenebhaaDoorRwVX
namespace Go.Proofs.YtpblalklenebhaaDoor
open Go.RowKit Go.Sort

theorem blk3 {w : World} {b : Nat} {v0 v1 v2 : Value} {T : TypeId} (h : w.heap[b]? = some (.cells #[v0, v1, v2] T (0, 0))) :
    w.cell? ⟨b, 0, none⟩ = some v0 ∧ w.cell? ⟨b, 1, none⟩ = some v1 ∧ w.cell? ⟨b, 2, none⟩ = some v2 ∧ ∀ o, w.frozen? ⟨b, o, none⟩ = false :=
  ⟨by rw [Lib.cell_of_heap h]; rfl, by rw [Lib.cell_of_heap h]; rfl, by rw [Lib.cell_of_heap h]; rfl, fun o => Lib.frozen_of_heap h o⟩
theorem blk8 {w : World} {b : Nat} {v0 v1 v2 v3 v4 v5 v6 v7 : Value} {T : TypeId} (h : w.heap[b]? = some (.cells #[v0, v1, v2, v3, v4, v5, v6, v7] T (0, 0))) :
    w.cell? ⟨b, 0, none⟩ = some v0 ∧ w.cell? ⟨b, 1, none⟩ = some v1 ∧ w.cell? ⟨b, 2, none⟩ = some v2 ∧ w.cell? ⟨b, 3, none⟩ = some v3 ∧ w.cell? ⟨b, 4, none⟩ = some v4 ∧ w.cell? ⟨b, 5, none⟩ = some v5 ∧ w.cell? ⟨b, 6, none⟩ = some v6 ∧ w.cell? ⟨b, 7, none⟩ = some v7 ∧ ∀ o, w.frozen? ⟨b, o, none⟩ = false :=
  ⟨by rw [Lib.cell_of_heap h]; rfl, by rw [Lib.cell_of_heap h]; rfl, by rw [Lib.cell_of_heap h]; rfl, by rw [Lib.cell_of_heap h]; rfl, by rw [Lib.cell_of_heap h]; rfl, by rw [Lib.cell_of_heap h]; rfl, by rw [Lib.cell_of_heap h]; rfl, by rw [Lib.cell_of_heap h]; rfl, fun o => Lib.frozen_of_heap h o⟩

/-- What stands behind a variable: its kind, a uid. -/
structure Sc where
  k : Int
  t : List UInt8
  i : List UInt8
def Sc.val (s : Sc) : Value := .agg #[.int .i64 s.k, .string (ba s.t), .string (ba s.i)]
def Sc.ok (s : Sc) : Prop := s.t.length ≤ 1000 ∧ s.i.length ≤ 1000 ∧ bquote s.i = quoteL s.i
def uidT (t i : List UInt8) : List UInt8 := t ++ [58, 58] ++ quoteL i
def scT (s : Sc) : List UInt8 := if s.k = 1 then [32, 61, 61, 32] ++ uidT s.t s.i else if s.k = 2 then [32, 105, 110, 32] ++ uidT s.t s.i else []
theorem uidT_ba (t i : List UInt8) : ba t ++ ⟨#[58, 58]⟩ ++ ba (quoteL i) = ba (uidT t i) := by
  unfold uidT
  rw [← ba_append, ← ba_append]
  rfl
theorem uidT_len (s : Sc) (h : s.ok) : (uidT s.t s.i).length ≤ 9000 := by
  obtain ⟨h1, h2, _⟩ := h
  have := quoteL_len s.i
  unfold uidT
  simp
  omega
theorem scT_len (s : Sc) (h : s.ok) : (scT s).length ≤ 9010 := by
  have := uidT_len s h
  unfold scT
  split
  · simp; omega
  · split
    · simp; omega
    · simp

theorem effect_any (f : Bool) (w : World) : Calls Tryd.prog 35 #[.bool f] w fun e w' => e = .returned (.string (if f then ⟨#[102, 111, 114, 98, 105, 100]⟩ else ⟨#[112, 101, 114, 109, 105, 116]⟩)) ∧ w' = w := by
  cases f
  · go_enter Tryd.func35, Tryd.ntmps35
    go_wp2
    go_ret
    exact ⟨rfl, rfl⟩
  · go_enter Tryd.func35, Tryd.ntmps35
    go_wp2
    go_ret
    exact ⟨rfl, rfl⟩

set_option maxHeartbeats 4000000 in
set_option maxRecDepth 1000000 in
theorem scope_any (s : Sc) (w : World) (hT : Tab6 w) (hs : s.ok) : Calls Tryd.prog 36 #[s.val] w fun e w' => e = .returned (.string (ba (scT s))) ∧ Below w.heap.size w w' := by
  have hu := uidT_len s hs
  obtain ⟨k, t, i⟩ := s
  unfold Sc.val
  unfold Sc.ok at hs
  dsimp only at hs hu ⊢
  have n1 := newS w (.cells #[.int .i64 k, .string (ba t), .string (ba i)] 37)
  have Z1 : (w.alloc (.cells #[.int .i64 k, .string (ba t), .string (ba i)] 37)).heap[w.heap.size]? = some (.cells #[.int .i64 k, .string (ba t), .string (ba i)] 37 (0, 0)) := alloc_heap _ _
  have U := suid_any t i _ (hT.below n1) (by omega) (by omega)
  rw [uidT_ba] at U
  have HB := hide (fun a : List UInt8 => ba_append a (uidT t i))
  have hz := baS (uidT t i)
  unfold scT
  dsimp only
  generalize uidT t i = X at *
  generalize ba t = T at *
  generalize ba i = I at *
  have hx : (ba X).size ≤ 9000 := by omega
  clear hz hu hs hT
  by_cases h1 : k = 1
  · subst h1
    rw [if_pos rfl]
    have hr : ba ([32, 61, 61, 32] ++ X) = ⟨#[32, 61, 61, 32]⟩ ++ ba X := (unhide HB [32, 61, 61, 32]).symm
    rw [hr]
    generalize ba X = A at *
    clear hr HB
    have g1 : ¬ 9223372036854775807 < 4 + A.size := by omega
    go_enter Tryd.func36, Tryd.ntmps36
    go_upto_region 1 with fail
    generalize w.alloc _ = w1 at *
    obtain ⟨x0, x1, x2, _⟩ := blk3 Z1
    go_wp2_with fail
    refine U.mono ?_
    rintro e w2 ⟨rfl, b2⟩
    clear x0 x1 x2
    go_wp2
    go_ret
    exact ⟨rfl, n1.trans (b2.mono n1.size)⟩
  · rw [if_neg h1]
    have h1' : (k == 1) = false := by simpa using h1
    by_cases h2 : k = 2
    · subst h2
      rw [if_pos rfl]
      have hr : ba ([32, 105, 110, 32] ++ X) = ⟨#[32, 105, 110, 32]⟩ ++ ba X := (unhide HB [32, 105, 110, 32]).symm
      rw [hr]
      generalize ba X = A at *
      clear hr HB
      have g1 : ¬ 9223372036854775807 < 4 + A.size := by omega
      go_enter Tryd.func36, Tryd.ntmps36
      go_upto_region 1 with fail
      generalize w.alloc _ = w1 at *
      obtain ⟨x0, x1, x2, _⟩ := blk3 Z1
      go_wp2_with fail
      refine U.mono ?_
      rintro e w2 ⟨rfl, b2⟩
      clear x0 x1 x2
      go_wp2
      go_ret
      exact ⟨rfl, n1.trans (b2.mono n1.size)⟩
    · rw [if_neg h2]
      have h2' : (k == 2) = false := by simpa using h2
      go_enter Tryd.func36, Tryd.ntmps36
      go_upto_region 1 with fail
      generalize w.alloc _ = w1 at *
      obtain ⟨x0, x1, x2, _⟩ := blk3 Z1
      go_wp2
      go_ret
      exact ⟨rfl, n1⟩

set_option maxHeartbeats 4000000 in
set_option maxRecDepth 1000000 in
theorem r6scope_any (N : ByteArray) (s : Sc) (w : World) (hN : N.size ≤ 1000) (hs : s.ok) : Calls Tryd.prog 40 #[.string N, s.val] w fun e w' => e = .returned (.string (N ++ ba (scT s))) ∧ Below w.heap.size w w' := by
  have hu := uidT_len s hs
  obtain ⟨k, t, i⟩ := s
  unfold Sc.val
  unfold Sc.ok at hs
  dsimp only at hs hu ⊢
  have n1 := newS w (.cells #[.int .i64 k, .string (ba t), .string (ba i)] 37)
  have Z1 : (w.alloc (.cells #[.int .i64 k, .string (ba t), .string (ba i)] 37)).heap[w.heap.size]? = some (.cells #[.int .i64 k, .string (ba t), .string (ba i)] 37 (0, 0)) := alloc_heap _ _
  have U := r6uid_any t i (w.alloc (.cells #[.int .i64 k, .string (ba t), .string (ba i)] 37)) hs.1 hs.2.1 hs.2.2
  rw [uidT_ba] at U
  have HB := hide (fun a : List UInt8 => ba_append a (uidT t i))
  have hz := baS (uidT t i)
  unfold scT
  dsimp only
  generalize uidT t i = X at *
  generalize ba t = T at *
  generalize ba i = I at *
  have hx : (ba X).size ≤ 9000 := by omega
  clear hz hu hs
  by_cases h1 : k = 1
  · subst h1
    rw [if_pos rfl]
    have hr : N ++ ba ([32, 61, 61, 32] ++ X) = N ++ ⟨#[32, 61, 61, 32]⟩ ++ ba X := by rw [ByteArray.append_assoc]; exact congrArg (N ++ ·) (unhide HB [32, 61, 61, 32]).symm
    rw [hr]
    generalize ba X = A at *
    clear hr HB
    have g1 : ¬ 9223372036854775807 < N.size + 4 := by omega
    have g2 : ¬ 9223372036854775807 < N.size + 4 + A.size := by omega
    go_enter Tryd.func40, Tryd.ntmps40
    go_upto_region 1 with fail
    generalize w.alloc _ = w1 at *
    obtain ⟨x0, x1, x2, _⟩ := blk3 Z1
    go_wp2_with fail
    refine U.mono ?_
    rintro e w2 ⟨rfl, b2⟩
    clear x0 x1 x2
    go_wp2
    go_ret
    exact ⟨rfl, n1.trans (b2.mono n1.size)⟩
  · rw [if_neg h1]
    have h1' : (k == 1) = false := by simpa using h1
    by_cases h2 : k = 2
    · subst h2
      rw [if_pos rfl]
      have hr : N ++ ba ([32, 105, 110, 32] ++ X) = N ++ ⟨#[32, 105, 110, 32]⟩ ++ ba X := by rw [ByteArray.append_assoc]; exact congrArg (N ++ ·) (unhide HB [32, 105, 110, 32]).symm
      rw [hr]
      generalize ba X = A at *
      clear hr HB
      have g1 : ¬ 9223372036854775807 < N.size + 4 := by omega
      have g2 : ¬ 9223372036854775807 < N.size + 4 + A.size := by omega
      go_enter Tryd.func40, Tryd.ntmps40
      go_upto_region 1 with fail
      generalize w.alloc _ = w1 at *
      obtain ⟨x0, x1, x2, _⟩ := blk3 Z1
      go_wp2_with fail
      refine U.mono ?_
      rintro e w2 ⟨rfl, b2⟩
      clear x0 x1 x2
      go_wp2
      go_ret
      exact ⟨rfl, n1.trans (b2.mono n1.size)⟩
    · rw [if_neg h2]
      have h2' : (k == 2) = false := by simpa using h2
      have hr : N ++ ba [] = N := by
        apply ByteArray.ext
        apply Array.toList_inj.1
        simp [ba]
      rw [hr]
      clear hr
      go_enter Tryd.func40, Tryd.ntmps40
      go_upto_region 1 with fail
      generalize w.alloc _ = w1 at *
      obtain ⟨x0, x1, x2, _⟩ := blk3 Z1
      go_wp2
      go_ret
      exact ⟨rfl, n1⟩

/-- A condition's text. -/
def cdT (c : Bool × Ex) : List UInt8 := (if c.1 then [32, 117, 110, 108, 101, 115, 115] else [32, 119, 104, 101, 110]) ++ [32, 123, 32] ++ showE c.2 ++ [32, 125]
def cdV (u : Bool) (r : R7) : Value := .agg #[.bool u, .int .i64 r.k, .bool r.b, .int .i64 r.n, .string r.s, .string r.t, .string r.i, .slice r.lo r.ll r.lc]
def cdC (u : Bool) (r : R7) : Array Value := #[.bool u, .int .i64 r.k, .bool r.b, .int .i64 r.n, .string r.s, .string r.t, .string r.i, .slice r.lo r.ll r.lc]

set_option maxHeartbeats 4000000 in
set_option maxRecDepth 1000000 in
theorem cond_any (u : Bool) (x : Ex) (r : R7) (P : Nat → Prop) (w : World) (hT : Tab6 w) (hx : IsE w P r x) (S : Shows P x) (hl : (showE x).length ≤ 10000000000000) :
    Calls Tryd.prog 39 #[cdV u r] w fun e w' => e = .returned (.string (ba (cdT (u, x)))) ∧ Below w.heap.size w w' := by
  have n1 := newS w (.cells (cdC u r) 63)
  have Z1 : (w.alloc (.cells (cdC u r) 63)).heap[w.heap.size]? = some (.cells (cdC u r) 63 (0, 0)) := alloc_heap _ _
  have C := S r _ (hT.below n1) (IsE.turn n1.size (fun b hb hb2 => ⟨n1.block b hb2, hb⟩) r x hx)
  have hz := baS (showE x)
  have hA : (ba (showE x)).size ≤ 10000000000000 := by omega
  have HE : Hid (ba (cdT (u, x)) = (if u then (⟨#[32, 117, 110, 108, 101, 115, 115]⟩ : ByteArray) else ⟨#[32, 119, 104, 101, 110]⟩) ++ ⟨#[32, 123, 32]⟩ ++ ba (showE x) ++ ⟨#[32, 125]⟩) := hide (by
    unfold cdT
    rw [← ba_append, ← ba_append, ← ba_append]
    cases u <;> rfl)
  rw [unhide HE]
  clear HE hz hl S hT hx
  generalize ba (showE x) = A at *
  unfold cdC at n1 Z1 C
  unfold cdV
  unfold R7.val at C
  cases u with
  | false =>
    have g1 : ¬ 9223372036854775807 < 8 + A.size := by omega
    have g2 : ¬ 9223372036854775807 < 8 + A.size + 2 := by omega
    go_enter Tryd.func39, Tryd.ntmps39
    go_upto_region 1 with fail
    generalize w.alloc _ = w1 at *
    obtain ⟨x0, x1, x2, x3, x4, x5, x6, x7, _⟩ := blk8 Z1
    go_wp2_with fail
    refine C.mono ?_
    rintro e w2 ⟨rfl, b2⟩
    clear x0 x1 x2 x3 x4 x5 x6 x7
    go_wp2
    go_ret
    exact ⟨rfl, n1.trans (b2.mono n1.size)⟩
  | true =>
    have g1 : ¬ 9223372036854775807 < 10 + A.size := by omega
    have g2 : ¬ 9223372036854775807 < 10 + A.size + 2 := by omega
    go_enter Tryd.func39, Tryd.ntmps39
    go_upto_region 1 with fail
    generalize w.alloc _ = w1 at *
    obtain ⟨x0, x1, x2, x3, x4, x5, x6, x7, _⟩ := blk8 Z1
    go_wp2_with fail
    refine C.mono ?_
    rintro e w2 ⟨rfl, b2⟩
    clear x0 x1 x2 x3 x4 x5 x6 x7
    go_wp2
    go_ret
    exact ⟨rfl, n1.trans (b2.mono n1.size)⟩
end Go.Proofs.YtpblalklenebhaaDoor

namespace Go.Proofs.YtpblalklenebhaaDoor
open Go.RowKit

set_option maxHeartbeats 4000000 in
set_option maxRecDepth 1000000 in
theorem joinN_more (l : List (List UInt8)) (n : Nat) (hn : l.length = n) (ao : Option Addr) (c : Nat) (w : World) (h2 : 2 ≤ n) (hc : n ≤ c) (hr : StrRow w ao l) (hlen : (joinS [] l).length ≤ 100000000000000) (hpos : 1 < l.length → 1 ≤ (joinS [] l).length) (hn5 : l.length ≤ 100000) :
    Calls Tryd.prog 37 #[.slice ao n c, .string ⟨#[]⟩] w fun e w' => e = .returned (.string (ba (joinS [] l))) ∧ Below w.heap.size w w' := by
  have hjl : (joinS [] l).length = sumL l := by rw [joinS_len [] l (by omega)]; simp
  have hpos := hpos (by omega)
  have hn5 : n ≤ 100000 := by omega
  obtain ⟨g, off, rfl, hg, hx0⟩ := hr 0 (by omega)
  clear hx0
  have hcell : ∀ j (hj : j < l.length), w.cell? ⟨g, off + j, none⟩ = some (.string (ba l[j])) := by
    intro j hj
    obtain ⟨b, o, e, _, h⟩ := hr j hj
    cases e
    exact h
  clear hr
  have HN := hide hn
  have HC := hide hcell
  have hc1 : ¬ c = 1 := by omega
  have i1 : ((n : Int) == 0) = false := beq_false_of_ne (by omega)
  have i2 : ((n : Int) == 1) = false := beq_false_of_ne (by omega)
  obtain ⟨S, hS⟩ : ∃ S, S = sumL l := ⟨_, rfl⟩
  obtain ⟨J, hJ⟩ : ∃ J, J = joinS [] l := ⟨_, rfl⟩
  rw [← hJ] at hjl hlen hpos ⊢
  rw [← hS] at hjl
  have HS := hide hS
  have HJ := hide hJ
  have HL := hide hjl
  have hn2 : S ≤ J.length ∧ 1 ≤ J.length := by omega
  clear hn hcell hS hJ hjl hpos
  go_enter Tryd.func37, Tryd.ntmps37
  go_wp2
  go_loop [5, 41] (fun nv iv => ∃ j m : Nat, j ≤ n ∧ m ≤ 100000000000000 ∧ iv = .int .i64 j ∧ nv = .int .i64 m ∧ Hid (m = sumL (l.take j))) (fun _ iv => n - (intOf iv).toNat)
  case atStart => exact ⟨0, 0, by omega, by omega, rfl, rfl, hide (by simp [sumL])⟩
  case round =>
    obtain ⟨j, m, hj, hm, rfl, rfl, HM⟩ := hrel
    by_cases hlt : j < n
    · have i4 : (j : Int) < (n : Int) := by omega
      have hlt' : j < l.length := by rw [unhide HN]; exact hlt
      have y := unhide HC j hlt'
      have HT := hide (sumL_take l j hlt')
      have hle : sumL (l.take (j + 1)) ≤ S := by rw [unhide HS]; exact sumL_le l (j + 1)
      have hsz := baS l[j]
      have hm2 : m + (ba l[j]).size ≤ 100000000000000 := by rw [hsz]; have := unhide HM; have := unhide HT; have := unhide HL; omega
      have HZ := hide hsz
      obtain ⟨x, hx⟩ : ∃ x, x = l[j] := ⟨_, rfl⟩
      rw [← hx] at HT HZ hm2 y
      clear hle hx hsz
      generalize ba x = X at *
      have i5 : ¬ (9223372036854775807 : Int) - (m : Int) < (X.size : Int) := by omega
      go_wp2
      go_round
      case rel => exact ⟨j + 1, m + X.size, by omega, hm2, by go_num, by go_num, hide (by rw [unhide HT, unhide HZ, unhide HM])⟩
      case measure =>
        simp only [intOf]
        omega
    · obtain rfl : j = n := by omega
      have i4 : ¬ (j : Int) < (j : Int) := by omega
      have hmJ : m = J.length := by
        have := unhide HM
        rw [← unhide HN, List.take_length, ← unhide HS] at this
        have := unhide HL
        omega
      subst hmJ
      clear HM
      go_wp2_with fail
      have hnew : (w.alloc (.cells #[.pointer none, .slice none 0 0] 76)).heap[w.heap.size]? = some (.cells #[.pointer none, .slice none 0 0] 76 (0, 0)) := heap_alloc_new w _
      have b01 : Below w.heap.size w (w.alloc (.cells #[.pointer none, .slice none 0 0] 76)) := below1 _ _
      generalize w.alloc _ = w1 at *
      refine (bGrow_fresh w.heap.size w.heap.size J.length w1 (Nat.le_refl _) hnew b01.size (by omega) (by omega)).mono ?_
      rintro e w2 ⟨rfl, hB2, b12⟩
      have b02 := b01.trans b12
      have h0l : 0 < l.length := by rw [unhide HN]; omega
      have d0 := (b02.cell (p := ⟨g, off, none⟩) hg).trans (unhide HC 0 h0l)
      have hs0 : l[0].length ≤ 100000000000000 := by
        have h1 := sumL_take l 0 h0l
        have h2 := sumL_le l 1
        have h3 := unhide HS
        have h4 : sumL (l.take (0 + 1)) ≤ sumL l := h2
        omega
      have W1 := writeString w.heap.size w.heap.size [] (ba l[0]) w2 (.inr (Lib.BuilderAtF.of hB2)) (by rw [baS]; simp; omega) b02.size
      have eb : ([] : List Value) ++ Lib.strCells (ba l[0]) = Lib.byteCells l[0] := byteCells_ba [] l[0]
      rw [eb] at W1
      clear eb
      have HF := hide (show joinS [] (l.take 1) = l[0] by
        cases l with
        | nil => simp at h0l
        | cons a l => simp [joinS])
      generalize l[0] = x0 at *
      clear hB2 hnew
      go_wp2_with fail
      refine W1.mono ?_
      rintro e w3 ⟨rfl, hB3, b23, _⟩
      have b03 := b02.trans b23
      clear d0 W1
      go_wp2_with fail
      go_loopw [65] (fun iv wr => ∃ k : Nat, k + 1 ≤ j ∧ iv = .int .i64 k ∧ Below w.heap.size w wr ∧ Lib.BuilderAtF 76 5 w.heap.size w.heap.size (.pointer (some ⟨w.heap.size, 0, none⟩)) (Lib.byteCells (joinS [] (l.take (k + 1)))) wr) (fun iv _ => j - 1 - (intOf iv).toNat)
      case atStart => exact ⟨0, by omega, rfl, b03, by rw [unhide HF]; exact hB3⟩
      case round =>
        obtain ⟨k, hk, rfl, hbw, hBw⟩ := hrel
        by_cases hlt2 : k + 1 < j
        · have i6 : (k : Int) < ((j - 1 : Nat) : Int) := by omega
          have hk' : k + 1 < l.length := by rw [unhide HN]; exact hlt2
          have y := (hbw.cell (p := ⟨g, off + 1 + k, none⟩) hg).trans ((by rw [show off + 1 + k = off + (k + 1) by omega]; exact unhide HC (k + 1) hk') : w.cell? ⟨g, off + 1 + k, none⟩ = some (.string (ba l[k + 1])))
          have hjt := joinS_take [] l k hk'
          have hjb : (joinS [] (l.take (k + 2))).length ≤ 100000000000000 := by
            rw [joinS_len _ _ (by rw [List.length_take]; omega)]
            have h1 := sumL_le l (k + 2)
            have h2 := unhide HS
            have h3 := unhide HL
            rw [List.length_take]
            simp only [List.length_nil]
            omega
          rw [hjt] at hjb
          simp only [List.length_append, List.length_nil] at hjb
          have HJT := hide hjt
          clear hjt
          generalize joinS [] (l.take (k + 1)) = A at *
          generalize l[k + 1] = x at *
          have W2 := writeString w.heap.size w.heap.size (Lib.byteCells A) ⟨#[]⟩ wr (.inr hBw) (by rw [Lib.byteCells_length]; show A.length + 0 ≤ _; omega) hbw.size
          have eb : Lib.byteCells A ++ Lib.strCells (⟨#[]⟩ : ByteArray) = Lib.byteCells (A ++ []) := byteCells_ba A []
          rw [eb] at W2
          clear eb
          have hxs := baS x
          have HX := hide hxs
          clear hxs
          go_wp2_with fail
          refine W2.mono ?_
          rintro e w4 ⟨rfl, hB4, b4, _⟩
          have b04 := hbw.trans b4
          have W3 := writeString w.heap.size w.heap.size (Lib.byteCells (A ++ [])) (ba x) w4 (.inr hB4) (by rw [Lib.byteCells_length, unhide HX]; simp; omega) b04.size
          rw [byteCells_ba] at W3
          clear W2 y
          generalize ba x = X at *
          go_wp2_with fail
          refine W3.mono ?_
          rintro e w5 ⟨rfl, hB5, b5, _⟩
          have b05 := b04.trans b5
          clear W3
          go_wp2
          go_roundw
          case rel => exact ⟨k + 1, by omega, by go_num, b05, by rw [unhide HJT]; exact hB5⟩
          case measure =>
            simp only [intOf]
            omega
        · have i6 : ¬ (k : Int) < ((j - 1 : Nat) : Int) := by omega
          obtain rfl : j = k + 1 := by omega
          have hfin : l.take (k + 1) = l := by rw [← unhide HN]; exact List.take_length
          rw [hfin, ← unhide HJ] at hBw
          have SS := Tryd.Builder_String_any_k w.heap.size w.heap.size J wr (.inr hBw) hbw.size
          clear hfin
          go_wp2_with fail
          refine SS.mono ?_
          rintro e w6 ⟨rfl, _, b6, _⟩
          go_wp2
          go_ret
          exact ⟨rfl, hbw.trans b6⟩

set_option maxHeartbeats 4000000 in
set_option maxRecDepth 1000000 in
theorem joinN_any (l : List (List UInt8)) (ao : Option Addr) (c : Nat) (w : World) (hc : l.length ≤ c) (hr : StrRow w ao l) (hlen : (joinS [] l).length ≤ 100000000000000) (hpos : 1 < l.length → 1 ≤ (joinS [] l).length) (hn5 : l.length ≤ 100000) :
    Calls Tryd.prog 37 #[.slice ao l.length c, .string ⟨#[]⟩] w fun e w' => e = .returned (.string (ba (joinS [] l))) ∧ Below w.heap.size w w' := by
  match l, hc, hr, hlen, hpos, hn5 with
  | [], _, _, _, _, _ =>
    show Calls Tryd.prog 37 #[.slice ao 0 c, .string ⟨#[]⟩] w _
    go_enter Tryd.func37, Tryd.ntmps37
    go_wp2
    go_ret
    exact ⟨rfl, Below.refl _ _⟩
  | [s], _, hr, _, _, _ =>
    show Calls Tryd.prog 37 #[.slice ao 1 c, .string ⟨#[]⟩] w _
    obtain ⟨g, off, rfl, hg, h0⟩ := hr 0 (by simp)
    have h0 : w.cell? ⟨g, off, none⟩ = some (.string (ba s)) := h0
    have hj : joinS [] [s] = s := by simp [joinS]
    rw [hj]
    clear hj hr
    generalize ba s = X at *
    go_enter Tryd.func37, Tryd.ntmps37
    go_wp2
    go_ret
    exact ⟨rfl, Below.refl _ _⟩
  | s :: t :: l, hc, hr, hlen, hpos, hn5 => exact joinN_more _ _ rfl ao c w (by simp) hc hr hlen hpos hn5
end Go.Proofs.YtpblalklenebhaaDoor

namespace Go.Proofs.YtpblalklenebhaaDoor
open Go.RowKit Go.Sort

/-- The cells of a condition. -/
def At8 (w : World) (b o : Nat) (u : Bool) (r : R7) : Prop :=
  w.cell? ⟨b, o, none⟩ = some (.bool u) ∧ w.cell? ⟨b, o + 1, none⟩ = some (.int .i64 r.k) ∧ w.cell? ⟨b, o + 2, none⟩ = some (.bool r.b) ∧ w.cell? ⟨b, o + 3, none⟩ = some (.int .i64 r.n) ∧ w.cell? ⟨b, o + 4, none⟩ = some (.string r.s) ∧ w.cell? ⟨b, o + 5, none⟩ = some (.string r.t) ∧ w.cell? ⟨b, o + 6, none⟩ = some (.string r.i) ∧ w.cell? ⟨b, o + 7, none⟩ = some (.slice r.lo r.ll r.lc)
theorem At8.below {w w' : World} {B b o : Nat} {u : Bool} {r : R7} (h : At8 w b o u r) (hb : Below B w w') (hl : b < B) : At8 w' b o u r := by
  obtain ⟨h0, h1, h2, h3, h4, h5, h6, h7⟩ := h
  exact ⟨(hb.cell (p := ⟨b, o, none⟩) hl).trans h0, (hb.cell (p := ⟨b, o + 1, none⟩) hl).trans h1, (hb.cell (p := ⟨b, o + 2, none⟩) hl).trans h2, (hb.cell (p := ⟨b, o + 3, none⟩) hl).trans h3, (hb.cell (p := ⟨b, o + 4, none⟩) hl).trans h4, (hb.cell (p := ⟨b, o + 5, none⟩) hl).trans h5, (hb.cell (p := ⟨b, o + 6, none⟩) hl).trans h6, (hb.cell (p := ⟨b, o + 7, none⟩) hl).trans h7⟩
/-- A slice of conditions. -/
def CRow (w : World) (P : Nat → Prop) (lo : Option Addr) (l : List (Bool × Ex)) : Prop :=
  ∀ j (hj : j < l.length), ∃ r b off, lo = some ⟨b, off, none⟩ ∧ P b ∧ b < w.heap.size ∧ At8 w b (off + j * 8) l[j].1 r ∧ IsE w P r l[j].2
theorem CRow.below {w w' : World} {P : Nat → Prop} {lo : Option Addr} {l : List (Bool × Ex)} (h : CRow w P lo l) (hb : Below w.heap.size w w') : CRow w' P lo l := by
  intro j hj
  obtain ⟨r, b, off, e, hp, hl, h8, hx⟩ := h j hj
  exact ⟨r, b, off, e, hp, Nat.lt_of_lt_of_le hl hb.size, h8.below hb hl, IsE.turn hb.size (fun b h1 h2 => ⟨hb.block b h2, h1⟩) r _ hx⟩
def cdTs (l : List (Bool × Ex)) : List (List UInt8) := l.map cdT
theorem cdT_take (l : List (Bool × Ex)) (j : Nat) (h : j < l.length) : strVs (cdTs (l.take (j + 1))) = strVs (cdTs (l.take j)) ++ [.string (ba (cdT l[j]))] := by
  unfold strVs cdTs
  rw [List.take_succ_eq_append_getElem h, List.map_append, List.map_append]
  rfl

set_option maxHeartbeats 4000000 in
set_option maxRecDepth 1000000 in
theorem eachC_any (l : List (Bool × Ex)) (n : Nat) (hn : l.length = n) (ao : Option Addr) (c : Nat) (P : Nat → Prop) (w : World) (hT : Tab6 w) (hks : CRow w P ao l) (hl : n ≤ 100000) (C : ∀ j (hj : j < l.length), Shows P l[j].2 ∧ (showE l[j].2).length ≤ 10000000000000) :
    Calls Tryd.prog 38 #[.slice ao n c, .func (.func 39) #[] #[]] w fun e w' => ∃ v, e = .returned v ∧ w'.ownsRow w.heap.size 9 1 v n (strVs (cdTs l)) ∧ Below w.heap.size w w' := by
  obtain ⟨i0, hi, hz0, hz1, hz2⟩ := info_parts infoStringS
  have HN := hide hn
  have HK := hide hks
  have HCC := hide C
  have HTT := hide hT
  clear hn hks C hT
  go_enter Tryd.func38, Tryd.ntmps38
  go_wp2
  go_loopw [5, 10] (fun tv iv wr => ∃ j : Nat, j ≤ n ∧ iv = .int .i64 j ∧ Below w.heap.size w wr ∧ wr.ownsRow w.heap.size 9 1 tv j (strVs (cdTs (l.take j)))) (fun _ iv _ => n - (intOf iv).toNat)
  case atStart => exact ⟨0, by omega, rfl, Below.refl _ _, World.ownsRow_nil _ _ _ _⟩
  case round =>
    obtain ⟨j, hj, rfl, hbw, hown⟩ := hrel
    by_cases hlt : j < n
    · have i1 : (j : Int) < (n : Int) := by omega
      have hlt' : j < l.length := by rw [unhide HN]; exact hlt
      obtain ⟨rk, g, off, hlo, _, hg, h7, hxk⟩ := unhide HK j hlt'
      have h7 := h7.below hbw hg
      obtain ⟨u, hu⟩ : ∃ u, u = l[j].1 := ⟨_, rfl⟩
      rw [← hu] at h7
      have n3 := newS wr (.cells (cdC u rk) 63)
      have b3 := hbw.trans (n3.mono hbw.size)
      have C3 := cond_any u l[j].2 rk P _ ((unhide HTT).below b3) (IsE.turn b3.size (fun b hb hb2 => ⟨b3.block b hb2, hb⟩) rk _ hxk) (unhide HCC j hlt').1 (unhide HCC j hlt').2
      have Z3 : (wr.alloc (.cells (cdC u rk) 63)).heap[wr.heap.size]? = some (.cells (cdC u rk) 63 (0, 0)) := alloc_heap _ _
      have hown3 := hown.alloc (.cells (cdC u rk) 63)
      have hs := cdT_take l j hlt'
      have e0 : cdT l[j] = cdT (u, l[j].2) := by rw [hu]
      rw [e0] at hs
      have Hs := hide hs
      clear hs e0 hu
      generalize cdT (u, l[j].2) = sx at *
      generalize ba sx = X at *
      subst hlo
      unfold cdV at C3
      unfold cdC at C3 n3 Z3 hown3 b3
      obtain ⟨a0, a1, a2, a3, a4, a5, a6, a7⟩ := h7
      clear hown hxk
      go_wp2_with fail
      clear a0 a1 a2 a3 a4 a5 a6 a7
      generalize wr.alloc _ = w3 at *
      refine C3.mono ?_
      rintro e w5 ⟨rfl, b35⟩
      have b5 := b3.trans (b35.mono b3.size)
      have hown5 := ownS_below hown3 b35
      clear hown3 C3 Z3 n3
      go_wp2_with (at_builtin; refine wpList_append_own _ rfl _ _ 45 rfl w.heap.size 9 i0 (.string ⟨#[]⟩) 1 16 Tryd.underlying45 hi hz0 hz1 hz2 rfl (by decide) _ _ _ rfl (hown5.alloc _) ⟨w5.heap.size, 0, none⟩ 1 1 [.string X] rfl rfl ?c1 ?c2 ?c3 ?c4 ?c5 ?_)
      case c1 =>
        intro k u hk
        match k, hk with
        | 0, hk => simp at hk; subst hk; simp [Addr.add]
      case c2 => intro u hu; simp at hu; subst hu; rfl
      case c3 => unfold maxLen; omega
      case c4 => omega
      case c5 => have := b5.size; simp; omega
      intro v' w6 hown' hgrow _
      have b6 : Below w.heap.size w w6 := (b5.alloc b5.size _).grown hgrow (by have := b5.size; simp; omega) (fun k hk => (hown5.lt k hk).1)
      have Hown := hide hown'
      have HG := hide hgrow
      clear hown' hgrow
      go_wp2
      go_roundw
      case rel =>
        refine ⟨j + 1, by omega, by go_num, b6, ?_⟩
        rw [unhide Hs]
        exact unhide Hown
      case measure =>
        simp only [intOf]
        omega
    · obtain rfl : j = n := by omega
      have i1 : ¬ (j : Int) < (j : Int) := by omega
      have hfin : l.take j = l := by rw [← unhide HN]; exact List.take_length
      rw [hfin] at hown
      have HO := hide hown
      clear hown hfin
      go_wp2
      go_ret
      exact ⟨_, rfl, unhide HO, hbw⟩
end Go.Proofs.YtpblalklenebhaaDoor

namespace Go.Proofs.YtpblalklenebhaaDoor
open Go.RowKit Go.Sort

/-- A policy's head, and where its conditions lie. -/
structure Pol where
  f : Bool
  p : Sc
  a : Sc
  r : Sc
  lo : Option Addr
  ll : Nat
  lc : Nat
def Pol.val (q : Pol) : Value := .agg #[.bool q.f, .int .i64 q.p.k, .string (ba q.p.t), .string (ba q.p.i), .int .i64 q.a.k, .string (ba q.a.t), .string (ba q.a.i), .int .i64 q.r.k, .string (ba q.r.t), .string (ba q.r.i), .slice q.lo q.ll q.lc]
def Pol.cells (q : Pol) : Array Value := #[.bool q.f, .int .i64 q.p.k, .string (ba q.p.t), .string (ba q.p.i), .int .i64 q.a.k, .string (ba q.a.t), .string (ba q.a.i), .int .i64 q.r.k, .string (ba q.r.t), .string (ba q.r.i), .slice q.lo q.ll q.lc]
def Pol.ok (q : Pol) : Prop := q.p.ok ∧ q.a.ok ∧ q.r.ok
def At11 (w : World) (b : Nat) (q : Pol) : Prop :=
  w.cell? ⟨b, 0, none⟩ = some (.bool q.f) ∧ w.cell? ⟨b, 1, none⟩ = some (.int .i64 q.p.k) ∧ w.cell? ⟨b, 2, none⟩ = some (.string (ba q.p.t)) ∧ w.cell? ⟨b, 3, none⟩ = some (.string (ba q.p.i)) ∧ w.cell? ⟨b, 4, none⟩ = some (.int .i64 q.a.k) ∧ w.cell? ⟨b, 5, none⟩ = some (.string (ba q.a.t)) ∧ w.cell? ⟨b, 6, none⟩ = some (.string (ba q.a.i)) ∧ w.cell? ⟨b, 7, none⟩ = some (.int .i64 q.r.k) ∧ w.cell? ⟨b, 8, none⟩ = some (.string (ba q.r.t)) ∧ w.cell? ⟨b, 9, none⟩ = some (.string (ba q.r.i)) ∧ w.cell? ⟨b, 10, none⟩ = some (.slice q.lo q.ll q.lc) ∧ ∀ o, w.frozen? ⟨b, o, none⟩ = false
theorem blk11 {w : World} {b : Nat} {q : Pol} (h : w.heap[b]? = some (.cells q.cells 40 (0, 0))) : At11 w b q := by
  unfold Pol.cells at h
  unfold At11
  exact ⟨by rw [Lib.cell_of_heap h]; rfl, by rw [Lib.cell_of_heap h]; rfl, by rw [Lib.cell_of_heap h]; rfl, by rw [Lib.cell_of_heap h]; rfl, by rw [Lib.cell_of_heap h]; rfl, by rw [Lib.cell_of_heap h]; rfl, by rw [Lib.cell_of_heap h]; rfl, by rw [Lib.cell_of_heap h]; rfl, by rw [Lib.cell_of_heap h]; rfl, by rw [Lib.cell_of_heap h]; rfl, by rw [Lib.cell_of_heap h]; rfl, fun o => Lib.frozen_of_heap h o⟩
def effT (f : Bool) : List UInt8 := if f then [102, 111, 114, 98, 105, 100] else [112, 101, 114, 109, 105, 116]
def headT (q : Pol) : List UInt8 := effT q.f ++ [40, 112, 114, 105, 110, 99, 105, 112, 97, 108] ++ scT q.p ++ [44, 32, 97, 99, 116, 105, 111, 110] ++ scT q.a ++ [44, 32, 114, 101, 115, 111, 117, 114, 99, 101] ++ scT q.r ++ [41]
def polT (q : Pol) (cs : List (Bool × Ex)) : List UInt8 := headT q ++ joinS [] (cdTs cs) ++ [59]
theorem headT_len (q : Pol) (h : q.ok) : (headT q).length ≤ 30000 := by
  obtain ⟨h1, h2, h3⟩ := h
  have := scT_len q.p h1
  have := scT_len q.a h2
  have := scT_len q.r h3
  have : (effT q.f).length ≤ 6 := by unfold effT; split <;> decide
  unfold headT
  simp
  omega
theorem joinC_pos (cs : List (Bool × Ex)) (h : 1 < (cdTs cs).length) : 1 ≤ (joinS [] (cdTs cs)).length := by
  cases cs with
  | nil => simp [cdTs] at h
  | cons c cs =>
    unfold cdTs cdT
    simp [joinS]
    omega

/-- What each slot of the region holds. -/
def polSp (pb : Nat) (q : Pol) (X : Nat → ByteArray) (cs : List (Bool × Ex)) : Nat → Value → World → Prop
  | 0, v, _ => v = .pointer (some ⟨pb, 0, none⟩)
  | 1, v, _ => v = .bool q.f
  | 2, v, _ => v = .string (X 0)
  | 3, v, _ => v = .string (X 1)
  | 4, v, _ => v = .pointer (some ⟨pb, 1, none⟩)
  | 5, v, _ => v = q.p.val
  | 6, v, _ => v = .string (X 2)
  | 7, v, _ => v = .string (X 3)
  | 8, v, _ => v = .string (X 4)
  | 9, v, _ => v = .pointer (some ⟨pb, 4, none⟩)
  | 10, v, _ => v = q.a.val
  | 11, v, _ => v = .string (X 5)
  | 12, v, _ => v = .string (X 6)
  | 13, v, _ => v = .string (X 7)
  | 14, v, _ => v = .pointer (some ⟨pb, 7, none⟩)
  | 15, v, _ => v = q.r.val
  | 16, v, _ => v = .string (X 8)
  | n + 17, v, w => match n with
    | 0 => v = .string (X 9)
    | 1 => v = .string (X 10)
    | 2 => v = .pointer (some ⟨pb, 10, none⟩)
    | 3 => v = .slice q.lo q.ll q.lc
    | 4 => ∃ ao cap, v = .slice ao (cdTs cs).length cap ∧ (cdTs cs).length ≤ cap ∧ StrRow w ao (cdTs cs)
    | 5 => v = .string (X 11)
    | 6 => v = .string (X 12)
    | 7 => v = .string (X 13)
    | _ => True
theorem polSp_up {pb : Nat} {q : Pol} {X : Nat → ByteArray} {cs : List (Bool × Ex)} {w w' : World} (hb : Below w.heap.size w w') : ∀ j u, polSp pb q X cs j u w → polSp pb q X cs j u w' := by
  intro j u h
  by_cases h21 : j = 21
  · subst h21
    obtain ⟨ao, cap, e, hc, hr⟩ := h
    exact ⟨ao, cap, e, hc, hr.below hb⟩
  · unfold polSp at h ⊢
    split at h
    all_goals first | exact h | skip
    split at h
    all_goals first | exact h | skip
    exact absurd rfl h21


set_option maxHeartbeats 4000000 in
set_option maxRecDepth 1000000 in
theorem spolicy_any (q : Pol) (cs : List (Bool × Ex)) (P : Nat → Prop) (w : World) (hT : Tab6 w) (hq : q.ok) (hll : q.ll = cs.length) (hl : cs.length ≤ 100) (hks : CRow w P q.lo cs) (C : ∀ j (hj : j < cs.length), Shows P cs[j].2 ∧ (showE cs[j].2).length ≤ 10000000000000) (hlen : (joinS [] (cdTs cs)).length ≤ 100000000000000) :
    Calls Tryd.prog 14 #[q.val] w fun e w' => e = .returned (.string (ba (polT q cs))) ∧ Below w.heap.size w w' := by
  obtain ⟨X, hX⟩ : ∃ X : Nat → ByteArray, X = fun n => match n with
    | 0 => ba (effT q.f)
    | 1 => ba (effT q.f ++ [40, 112, 114, 105, 110, 99, 105, 112, 97, 108])
    | 2 => ba (scT q.p)
    | 3 => ba (effT q.f ++ [40, 112, 114, 105, 110, 99, 105, 112, 97, 108] ++ scT q.p)
    | 4 => ba (effT q.f ++ [40, 112, 114, 105, 110, 99, 105, 112, 97, 108] ++ scT q.p ++ [44, 32, 97, 99, 116, 105, 111, 110])
    | 5 => ba (scT q.a)
    | 6 => ba (effT q.f ++ [40, 112, 114, 105, 110, 99, 105, 112, 97, 108] ++ scT q.p ++ [44, 32, 97, 99, 116, 105, 111, 110] ++ scT q.a)
    | 7 => ba (effT q.f ++ [40, 112, 114, 105, 110, 99, 105, 112, 97, 108] ++ scT q.p ++ [44, 32, 97, 99, 116, 105, 111, 110] ++ scT q.a ++ [44, 32, 114, 101, 115, 111, 117, 114, 99, 101])
    | 8 => ba (scT q.r)
    | 9 => ba (effT q.f ++ [40, 112, 114, 105, 110, 99, 105, 112, 97, 108] ++ scT q.p ++ [44, 32, 97, 99, 116, 105, 111, 110] ++ scT q.a ++ [44, 32, 114, 101, 115, 111, 117, 114, 99, 101] ++ scT q.r)
    | 10 => ba (headT q)
    | 11 => ba (joinS [] (cdTs cs))
    | 12 => ba (headT q ++ joinS [] (cdTs cs))
    | _ => ba (polT q cs) := ⟨_, rfl⟩
  have H0 : X 0 = if q.f then ⟨#[102, 111, 114, 98, 105, 100]⟩ else ⟨#[112, 101, 114, 109, 105, 116]⟩ := by
    rw [hX]
    show ba (effT q.f) = _
    unfold effT
    cases q.f <;> rfl
  have H1 : Hid (X 1 = X 0 ++ ⟨#[40, 112, 114, 105, 110, 99, 105, 112, 97, 108]⟩) := hide (by rw [hX]; exact (ba_append _ _).symm)
  have H4 : Hid (X 4 = X 3 ++ ⟨#[44, 32, 97, 99, 116, 105, 111, 110]⟩) := hide (by rw [hX]; exact (ba_append _ _).symm)
  have H7 : Hid (X 7 = X 6 ++ ⟨#[44, 32, 114, 101, 115, 111, 117, 114, 99, 101]⟩) := hide (by rw [hX]; exact (ba_append _ _).symm)
  have H10 : Hid (X 10 = X 9 ++ ⟨#[41]⟩) := hide (by rw [hX]; exact (ba_append _ _).symm)
  have H13 : Hid (X 13 = X 12 ++ ⟨#[59]⟩) := hide (by rw [hX]; exact (ba_append _ _).symm)
  have H3 : Hid (X 3 = X 1 ++ X 2) := hide (by rw [hX]; exact (ba_append _ _).symm)
  have H6 : Hid (X 6 = X 4 ++ X 5) := hide (by rw [hX]; exact (ba_append _ _).symm)
  have H9 : Hid (X 9 = X 7 ++ X 8) := hide (by rw [hX]; exact (ba_append _ _).symm)
  have H12 : Hid (X 12 = X 10 ++ X 11) := hide (by rw [hX]; exact (ba_append _ _).symm)
  have E2 : X 2 = ba (scT q.p) := by rw [hX]; rfl
  have E5 : X 5 = ba (scT q.a) := by rw [hX]; rfl
  have E8 : X 8 = ba (scT q.r) := by rw [hX]; rfl
  have E11 : X 11 = ba (joinS [] (cdTs cs)) := by rw [hX]; rfl
  have E13 : X 13 = ba (polT q cs) := by rw [hX]; rfl
  rw [← E13]
  have z10 : (X 10).size ≤ 30000 := by rw [hX]; show (ba (headT q)).size ≤ _; rw [baS]; exact headT_len q hq
  have z11 : (X 11).size ≤ 100000000000000 := by rw [E11, baS]; exact hlen
  clear hX E13
  have s10 : (X 10).size = (X 9).size + 1 := by rw [unhide H10, ByteArray.size_append]; rfl
  have s9 : (X 9).size = (X 7).size + (X 8).size := by rw [unhide H9, ByteArray.size_append]
  have s7 : (X 7).size = (X 6).size + 10 := by rw [unhide H7, ByteArray.size_append]; rfl
  have s6 : (X 6).size = (X 4).size + (X 5).size := by rw [unhide H6, ByteArray.size_append]
  have s4 : (X 4).size = (X 3).size + 8 := by rw [unhide H4, ByteArray.size_append]; rfl
  have s3 : (X 3).size = (X 1).size + (X 2).size := by rw [unhide H3, ByteArray.size_append]
  have s1 : (X 1).size = (X 0).size + 10 := by rw [unhide H1, ByteArray.size_append]; rfl
  have s12 : (X 12).size = (X 10).size + (X 11).size := by rw [unhide H12, ByteArray.size_append]
  have g1 : ¬ 9223372036854775807 < (X 0).size + 10 := by omega
  have g3 : ¬ 9223372036854775807 < (X 1).size + (X 2).size := by omega
  have g4 : ¬ 9223372036854775807 < (X 3).size + 8 := by omega
  have g6 : ¬ 9223372036854775807 < (X 4).size + (X 5).size := by omega
  have g7 : ¬ 9223372036854775807 < (X 6).size + 10 := by omega
  have g9 : ¬ 9223372036854775807 < (X 7).size + (X 8).size := by omega
  have g10 : ¬ 9223372036854775807 < (X 9).size + 1 := by omega
  have g12 : ¬ 9223372036854775807 < (X 10).size + (X 11).size := by omega
  have g13 : ¬ 9223372036854775807 < (X 12).size + 1 := by omega
  clear s1 s3 s4 s6 s7 s9 s10 s12 z10 z11
  have EF := fun w' => effect_any q.f w'
  rw [← H0] at EF
  have SP := fun w' hT' => scope_any q.p w' hT' hq.1
  have SA := fun w' hT' => scope_any q.a w' hT' hq.2.1
  have SR := fun w' hT' => scope_any q.r w' hT' hq.2.2
  rw [← E2] at SP
  rw [← E5] at SA
  rw [← E8] at SR
  have n1 := newS w (.cells q.cells 40)
  have Z1 : (w.alloc (.cells q.cells 40)).heap[w.heap.size]? = some (.cells q.cells 40 (0, 0)) := alloc_heap _ _
  have EC := fun w' hT' hk' => eachC_any cs q.ll hll.symm q.lo q.lc P w' hT' hk' (by omega) C
  have htl : (cdTs cs).length = q.ll := by rw [hll]; simp [cdTs]
  rw [← htl] at EC
  have JN := fun ao cap w' hc hr => joinN_any (cdTs cs) ao cap w' hc hr hlen (joinC_pos cs) (by omega)
  rw [← E11] at JN
  have HT1 := hide (hT.below n1)
  have HK1 := hide (hks.below n1)
  have HTL := hide htl
  clear H0 E2 E5 E8 E11 hT hq hll hl hks C hlen htl
  have ev : q.val = .agg q.cells := rfl
  unfold Pol.cells at ev
  rw [ev]
  clear ev
  go_enter Tryd.func14, Tryd.ntmps14
  go_upto_region 1 with fail
  have hcell : ∀ w0 : World, w0.alloc (.cells q.cells 40) = w0.alloc (.cells #[.bool q.f, .int .i64 q.p.k, .string (ba q.p.t), .string (ba q.p.i), .int .i64 q.a.k, .string (ba q.a.t), .string (ba q.a.i), .int .i64 q.r.k, .string (ba q.r.t), .string (ba q.r.i), .slice q.lo q.ll q.lc] 40) := fun _ => rfl
  rw [← hcell]
  clear hcell
  generalize w.alloc (.cells q.cells 40) = w1 at *
  refine wp_specs 25 (polSp w.heap.size q X cs) (fun w' => Below w1.heap.size w1 w') (by kernel_rfl) (by kernel_rfl) (Below.refl _ w1).drew ?_ ?_
  · intro i o hi ho a' w' hR hdep hslot K hK
    have hT' := (unhide HT1).below hR
    have hK' := (unhide HK1).below hR
    obtain ⟨c0, c1, c2, c3, c4, c5, c6, c7, c8, c9, c10, _⟩ := blk11 (kept_of_below hR Z1)
    have hc : i = 0 ∨ i = 1 ∨ i = 2 ∨ i = 3 ∨ i = 4 ∨ i = 5 ∨ i = 6 ∨ i = 7 ∨ i = 8 ∨ i = 9 ∨ i = 10 ∨ i = 11 ∨ i = 12 ∨ i = 13 ∨ i = 14 ∨ i = 15 ∨ i = 16 ∨ i = 17 ∨ i = 18 ∨ i = 19 ∨ i = 20 ∨ i = 21 ∨ i = 22 ∨ i = 23 ∨ i = 24 := by omega
    rcases hc with rfl | rfl | rfl | rfl | rfl | rfl | rfl | rfl | rfl | rfl | rfl | rfl | rfl | rfl | rfl | rfl | rfl | rfl | rfl | rfl | rfl | rfl | rfl | rfl | rfl
    · cases ho
      have e : a'.tmps.getD 1 undef = .pointer (some ⟨w.heap.size, 0, none⟩) := hslot 1 (by decide)
      unfold Oper.wp
      go_simp
      exact hK _ _ rfl hR (fun _ _ h => h)
    · cases ho
      have e : a'.tmps.getD 3 undef = .pointer (some ⟨w.heap.size, 0, none⟩) := hdep 0 (by kernel_rfl)
      unfold Oper.wp
      go_simp
      exact hK _ _ rfl hR (fun _ _ h => h)
    · cases ho
      have e : a'.tmps.getD 4 undef = .bool q.f := hdep 1 (by kernel_rfl)
      unfold Oper.wp
      go_simp
      refine (EF w').mono ?_
      rintro e w3 ⟨rfl, rfl⟩
      exact hK _ _ rfl hR (fun _ _ h => h)
    · cases ho
      have e : a'.tmps.getD 5 undef = .string (X 0) := hdep 2 (by kernel_rfl)
      unfold Oper.wp
      go_simp
      exact hK _ _ (congrArg Value.string (unhide H1).symm) hR (fun _ _ h => h)
    · cases ho
      have e : a'.tmps.getD 1 undef = .pointer (some ⟨w.heap.size, 0, none⟩) := hslot 1 (by decide)
      unfold Oper.wp
      go_simp
      exact hK _ _ rfl hR (fun _ _ h => h)
    · cases ho
      have e : a'.tmps.getD 7 undef = .pointer (some ⟨w.heap.size, 1, none⟩) := hdep 4 (by kernel_rfl)
      unfold Oper.wp
      go_simp
      exact hK _ _ rfl hR (fun _ _ h => h)
    · cases ho
      have e : a'.tmps.getD 8 undef = q.p.val := hdep 5 (by kernel_rfl)
      have C' := SP w' hT'
      clear c0 c1 c2 c3 c4 c5 c6 c7 c8 c9 c10 SP SA SR EC JN EF
      generalize q.p.val = V at *
      unfold Oper.wp
      go_simp
      refine C'.mono ?_
      rintro e w3 ⟨rfl, b3⟩
      exact hK _ _ rfl (hR.trans (b3.mono hR.size)) (polSp_up b3)
    · cases ho
      have e1 : a'.tmps.getD 6 undef = .string (X 1) := hdep 3 (by kernel_rfl)
      have e2 : a'.tmps.getD 9 undef = .string (X 2) := hdep 6 (by kernel_rfl)
      unfold Oper.wp
      go_simp
      exact hK _ _ (congrArg Value.string (unhide H3).symm) hR (fun _ _ h => h)
    · cases ho
      have e : a'.tmps.getD 10 undef = .string (X 3) := hdep 7 (by kernel_rfl)
      unfold Oper.wp
      go_simp
      exact hK _ _ (congrArg Value.string (unhide H4).symm) hR (fun _ _ h => h)
    · cases ho
      have e : a'.tmps.getD 1 undef = .pointer (some ⟨w.heap.size, 0, none⟩) := hslot 1 (by decide)
      unfold Oper.wp
      go_simp
      exact hK _ _ rfl hR (fun _ _ h => h)
    · cases ho
      have e : a'.tmps.getD 12 undef = .pointer (some ⟨w.heap.size, 4, none⟩) := hdep 9 (by kernel_rfl)
      unfold Oper.wp
      go_simp
      exact hK _ _ rfl hR (fun _ _ h => h)
    · cases ho
      have e : a'.tmps.getD 13 undef = q.a.val := hdep 10 (by kernel_rfl)
      have C' := SA w' hT'
      clear c0 c1 c2 c3 c4 c5 c6 c7 c8 c9 c10 SP SA SR EC JN EF
      generalize q.a.val = V at *
      unfold Oper.wp
      go_simp
      refine C'.mono ?_
      rintro e w3 ⟨rfl, b3⟩
      exact hK _ _ rfl (hR.trans (b3.mono hR.size)) (polSp_up b3)
    · cases ho
      have e1 : a'.tmps.getD 11 undef = .string (X 4) := hdep 8 (by kernel_rfl)
      have e2 : a'.tmps.getD 14 undef = .string (X 5) := hdep 11 (by kernel_rfl)
      unfold Oper.wp
      go_simp
      exact hK _ _ (congrArg Value.string (unhide H6).symm) hR (fun _ _ h => h)
    · cases ho
      have e : a'.tmps.getD 15 undef = .string (X 6) := hdep 12 (by kernel_rfl)
      unfold Oper.wp
      go_simp
      exact hK _ _ (congrArg Value.string (unhide H7).symm) hR (fun _ _ h => h)
    · cases ho
      have e : a'.tmps.getD 1 undef = .pointer (some ⟨w.heap.size, 0, none⟩) := hslot 1 (by decide)
      unfold Oper.wp
      go_simp
      exact hK _ _ rfl hR (fun _ _ h => h)
    · cases ho
      have e : a'.tmps.getD 17 undef = .pointer (some ⟨w.heap.size, 7, none⟩) := hdep 14 (by kernel_rfl)
      unfold Oper.wp
      go_simp
      exact hK _ _ rfl hR (fun _ _ h => h)
    · cases ho
      have e : a'.tmps.getD 18 undef = q.r.val := hdep 15 (by kernel_rfl)
      have C' := SR w' hT'
      clear c0 c1 c2 c3 c4 c5 c6 c7 c8 c9 c10 SP SA SR EC JN EF
      generalize q.r.val = V at *
      unfold Oper.wp
      go_simp
      refine C'.mono ?_
      rintro e w3 ⟨rfl, b3⟩
      exact hK _ _ rfl (hR.trans (b3.mono hR.size)) (polSp_up b3)
    · cases ho
      have e1 : a'.tmps.getD 16 undef = .string (X 7) := hdep 13 (by kernel_rfl)
      have e2 : a'.tmps.getD 19 undef = .string (X 8) := hdep 16 (by kernel_rfl)
      unfold Oper.wp
      go_simp
      exact hK _ _ (congrArg Value.string (unhide H9).symm) hR (fun _ _ h => h)
    · cases ho
      have e : a'.tmps.getD 20 undef = .string (X 9) := hdep 17 (by kernel_rfl)
      unfold Oper.wp
      go_simp
      exact hK _ _ (congrArg Value.string (unhide H10).symm) hR (fun _ _ h => h)
    · cases ho
      have e : a'.tmps.getD 1 undef = .pointer (some ⟨w.heap.size, 0, none⟩) := hslot 1 (by decide)
      unfold Oper.wp
      go_simp
      exact hK _ _ rfl hR (fun _ _ h => h)
    · cases ho
      have e : a'.tmps.getD 22 undef = .pointer (some ⟨w.heap.size, 10, none⟩) := hdep 19 (by kernel_rfl)
      unfold Oper.wp
      go_simp
      exact hK _ _ rfl hR (fun _ _ h => h)
    · cases ho
      have e : a'.tmps.getD 23 undef = .slice q.lo (cdTs cs).length q.lc := by rw [unhide HTL]; exact hdep 20 (by kernel_rfl)
      have C' := EC w' hT' hK'
      clear c0 c1 c2 c3 c4 c5 c6 c7 c8 c9 c10 SP SA SR EC JN EF
      unfold Oper.wp
      go_simp
      refine C'.mono ?_
      rintro e w3 ⟨v, rfl, hown, b3⟩
      exact hK _ _ (by obtain ⟨ao, cap, e, h1, h2⟩ := strRow_own hown; exact ⟨ao, cap, e, h1, h2⟩) (hR.trans (b3.mono hR.size)) (polSp_up b3)
    · cases ho
      obtain ⟨ao, cap, e, h1, h2⟩ : polSp _ _ _ _ 21 (a'.tmps.getD 24 undef) w' := hdep 21 (by kernel_rfl)
      have C' := JN ao cap w' h1 h2
      clear c0 c1 c2 c3 c4 c5 c6 c7 c8 c9 c10 SP SA SR EC JN EF h1 h2
      generalize (cdTs cs).length = nn at *
      unfold Oper.wp
      go_simp
      refine C'.mono ?_
      rintro e w3 ⟨rfl, b3⟩
      exact hK _ _ rfl (hR.trans (b3.mono hR.size)) (polSp_up b3)
    · cases ho
      have e1 : a'.tmps.getD 21 undef = .string (X 10) := hdep 18 (by kernel_rfl)
      have e2 : a'.tmps.getD 25 undef = .string (X 11) := hdep 22 (by kernel_rfl)
      unfold Oper.wp
      go_simp
      exact hK _ _ (congrArg Value.string (unhide H12).symm) hR (fun _ _ h => h)
    · cases ho
      have e : a'.tmps.getD 26 undef = .string (X 12) := hdep 23 (by kernel_rfl)
      unfold Oper.wp
      go_simp
      exact hK _ _ (congrArg Value.string (unhide H13).symm) hR (fun _ _ h => h)
  · intro a' w' hR hall hslot hdef hsz
    have e27 : a'.tmps.getD 27 undef = .string (X 13) := hall 24 (by decide)
    have b03 := n1.trans (hR.mono n1.size)
    clear hall hslot
    simp only [List.drop_succ_cons, List.drop_zero]
    go_wp2
    exact bodyPost_ret (v := .string (X 13)) (by simp [results, Tryd.results14, go_sem, hsz]) rfl ⟨rfl, b03⟩
end Go.Proofs.YtpblalklenebhaaDoor

namespace Go.Proofs.YtpblalklenebhaaDoor
open Go.RowKit Go.Sort

def cdsT (cs : List (Bool × Ex)) : List UInt8 := cs.flatMap cdT
theorem joinN_flat (l : List (List UInt8)) : joinS [] l = l.flatten := by
  cases l with
  | nil => rfl
  | cons s l => simp [joinS, List.flatMap_id']
theorem cdsT_join (cs : List (Bool × Ex)) : joinS [] (cdTs cs) = cdsT cs := by
  rw [joinN_flat]
  unfold cdTs cdsT
  rw [List.flatMap_def]
theorem cdsT_take (cs : List (Bool × Ex)) (j : Nat) (h : j < cs.length) : cdsT (cs.take (j + 1)) = cdsT (cs.take j) ++ cdT cs[j] := by
  unfold cdsT
  rw [List.take_succ_eq_append_getElem h, List.flatMap_append]
  simp
theorem cdsT_le (cs : List (Bool × Ex)) (j : Nat) : (cdsT (cs.take j)).length ≤ (cdsT cs).length := by
  have e : cdsT cs = cdsT (cs.take j) ++ cdsT (cs.drop j) := by
    unfold cdsT
    rw [← List.flatMap_append, List.take_append_drop]
  rw [e, List.length_append]
  omega

set_option maxHeartbeats 4000000 in
set_option maxRecDepth 1000000 in
theorem rpolicy_any (q : Pol) (cs : List (Bool × Ex)) (P : Nat → Prop) (w : World) (hq : q.ok) (hll : q.ll = cs.length) (hl : cs.length ≤ 100) (hks : CRow w P q.lo cs) (C : ∀ j (hj : j < cs.length), ShowsR P cs[j].2) (hlen : (joinS [] (cdTs cs)).length ≤ 100000000000000) :
    Calls Tryd.prog 15 #[q.val] w fun e w' => e = .returned (.string (ba (polT q cs))) ∧ Below w.heap.size w w' := by
  have n1 := newS w (.cells q.cells 40)
  have Z1 : (w.alloc (.cells q.cells 40)).heap[w.heap.size]? = some (.cells q.cells 40 (0, 0)) := alloc_heap _ _
  have SP := fun w' => r6scope_any ⟨#[112, 114, 105, 110, 99, 105, 112, 97, 108]⟩ q.p w' (by decide) hq.1
  have SA := fun w' => r6scope_any ⟨#[97, 99, 116, 105, 111, 110]⟩ q.a w' (by decide) hq.2.1
  have SR := fun w' => r6scope_any ⟨#[114, 101, 115, 111, 117, 114, 99, 101]⟩ q.r w' (by decide) hq.2.2
  have hh := headT_len q hq
  have HH : Hid (ba (headT q) = (if q.f then (⟨#[102, 111, 114, 98, 105, 100, 40]⟩ : ByteArray) else ⟨#[112, 101, 114, 109, 105, 116, 40]⟩) ++ (⟨#[112, 114, 105, 110, 99, 105, 112, 97, 108]⟩ ++ ba (scT q.p)) ++ ⟨#[44, 32]⟩ ++ (⟨#[97, 99, 116, 105, 111, 110]⟩ ++ ba (scT q.a)) ++ ⟨#[44, 32]⟩ ++ (⟨#[114, 101, 115, 111, 117, 114, 99, 101]⟩ ++ ba (scT q.r)) ++ ⟨#[41]⟩) := hide (by
    apply ByteArray.ext
    apply Array.toList_inj.1
    unfold headT effT
    cases q.f <;> simp [ba])
  have e9 : (ByteArray.size ⟨#[112, 114, 105, 110, 99, 105, 112, 97, 108]⟩) = 9 := rfl
  obtain ⟨A, hA⟩ : ∃ A : ByteArray, A = ⟨#[112, 114, 105, 110, 99, 105, 112, 97, 108]⟩ ++ ba (scT q.p) := ⟨_, rfl⟩
  obtain ⟨B, hB⟩ : ∃ B : ByteArray, B = ⟨#[97, 99, 116, 105, 111, 110]⟩ ++ ba (scT q.a) := ⟨_, rfl⟩
  obtain ⟨D, hD⟩ : ∃ D : ByteArray, D = ⟨#[114, 101, 115, 111, 117, 114, 99, 101]⟩ ++ ba (scT q.r) := ⟨_, rfl⟩
  have zA : A.size ≤ 9100 := by rw [hA, ByteArray.size_append, baS]; have := scT_len q.p hq.1; show 9 + _ ≤ _; omega
  have zB : B.size ≤ 9100 := by rw [hB, ByteArray.size_append, baS]; have := scT_len q.a hq.2.1; show 6 + _ ≤ _; omega
  have zD : D.size ≤ 9100 := by rw [hD, ByteArray.size_append, baS]; have := scT_len q.r hq.2.2; show 8 + _ ≤ _; omega
  rw [← hA] at SP HH
  rw [← hB] at SA HH
  rw [← hD] at SR HH
  have HLL := hide hll
  have HC := hide C
  have HK := hide hks
  have HLE := hide (show (cdsT cs).length ≤ 100000000000000 by rw [← cdsT_join]; exact hlen)
  have hl100 : q.ll ≤ 100 := by omega
  have HP : Hid (ba (polT q cs) = ba (headT q) ++ ba (cdsT cs) ++ ⟨#[59]⟩) := hide (by
    unfold polT
    rw [cdsT_join, ← ba_append, ← ba_append]
    rfl)
  have zH : (ba (headT q)).size ≤ 30000 := by rw [baS]; exact hh
  generalize ba (polT q cs) = RES at *
  generalize ba (headT q) = HD at *
  clear hA hB hD hq hll hl hks C hlen hh e9
  unfold Sc.val at SP SA SR
  have ev : q.val = .agg q.cells := rfl
  unfold Pol.cells at ev
  rw [ev]
  clear ev
  have fin : ∀ (E : ByteArray), E.size = 7 → Hid (HD = E ++ A ++ ⟨#[44, 32]⟩ ++ B ++ ⟨#[44, 32]⟩ ++ D ++ ⟨#[41]⟩) → True := fun _ _ _ => trivial
  clear fin
  go_enter Tryd.func15, Tryd.ntmps15
  go_upto_region 1 with fail
  have hcell : ∀ w0 : World, w0.alloc (.cells q.cells 40) = w0.alloc (.cells #[.bool q.f, .int .i64 q.p.k, .string (ba q.p.t), .string (ba q.p.i), .int .i64 q.a.k, .string (ba q.a.t), .string (ba q.a.i), .int .i64 q.r.k, .string (ba q.r.t), .string (ba q.r.i), .slice q.lo q.ll q.lc] 40) := fun _ => rfl
  rw [← hcell]
  clear hcell
  generalize w.alloc (.cells q.cells 40) = w1 at *
  obtain ⟨c0, c1, c2, c3, c4, c5, c6, c7, c8, c9, c10, _⟩ := blk11 Z1
  obtain ⟨qf, qp, qa, qr, lo, ll, lc⟩ := q
  dsimp only at *
  cases qf with
  | false =>
    have k1 : ¬ 9223372036854775807 < 7 + A.size := by omega
    have k2 : ¬ 9223372036854775807 < 7 + A.size + 2 := by omega
    have k3 : ¬ 9223372036854775807 < 7 + A.size + 2 + B.size := by omega
    have k4 : ¬ 9223372036854775807 < 7 + A.size + 2 + B.size + 2 := by omega
    have k5 : ¬ 9223372036854775807 < 7 + A.size + 2 + B.size + 2 + D.size := by omega
    have k6 : ¬ 9223372036854775807 < 7 + A.size + 2 + B.size + 2 + D.size + 1 := by omega
    have hHD : HD = ⟨#[112, 101, 114, 109, 105, 116, 40]⟩ ++ A ++ ⟨#[44, 32]⟩ ++ B ++ ⟨#[44, 32]⟩ ++ D ++ ⟨#[41]⟩ := unhide HH
    have HHD := hide hHD
    clear hHD HH
    go_upto_region 4 with fail
    have z0 := cell_regrown c0
    have z1 := cell_regrown c1
    have z2 := cell_regrown c2
    have z3 := cell_regrown c3
    have z4 := cell_regrown c4
    have z5 := cell_regrown c5
    have z6 := cell_regrown c6
    have z7 := cell_regrown c7
    have z8 := cell_regrown c8
    have z9 := cell_regrown c9
    have cA := fun d os => Calls.regrown_of (w := w1) (d := d) (os := os) (SP (grow (redrawn w1 d) os))
    have cB := fun d os => Calls.regrown_of (w := w1) (d := d) (os := os) (SA (grow (redrawn w1 d) os))
    have cD := fun d os => Calls.regrown_of (w := w1) (d := d) (os := os) (SR (grow (redrawn w1 d) os))
    clear c0 c1 c2 c3 c4 c5 c6 c7 c8 c9 c10 SP SA SR
    refine wp_region_quiet_below (by kernel_rfl) (by kernel_rfl) ?_
    iterate 4 (quiet_step (exact cA _ _))
    clear cA
    iterate 5 (quiet_step (exact cB _ _))
    clear cB
    repeat (quiet_step (exact cD _ _))
    clear cD
    refine wpQuiet_nil ?_
    intro _ hw'
    obtain ⟨⟨dq, osq⟩, hw''⟩ := hw'
    subst hw''
    have b4 := n1.trans ((below_regrown w1 dq osq).mono n1.size)
    have Z4 := kept_of_below (below_regrown w1 dq osq) Z1
    generalize grow (redrawn w1 dq) osq = w4 at *
    clear z0 z1 z2 z3 z4 z5 z6 z7 z8 z9
    rw [← unhide HHD]
    go_wp2_with fail
    go_loopw [3, 4] (fun sv iv wr => ∃ (j : Nat) (S : ByteArray), j ≤ ll ∧ iv = .int .i64 j ∧ sv = .string S ∧ S.size ≤ 100000000030000 ∧ Below w.heap.size w wr ∧ wr.heap[w.heap.size]? = some (.cells (Pol.cells ⟨false, qp, qa, qr, lo, ll, lc⟩) 40 (0, 0)) ∧ Hid (S = HD ++ ba (cdsT (cs.take j)))) (fun _ iv _ => ll - (intOf iv).toNat)
    case atStart => exact ⟨0, HD, Nat.zero_le _, rfl, rfl, by omega, b4, Z4, hide (by
      apply ByteArray.ext
      apply Array.toList_inj.1
      simp [ba, cdsT])⟩
    case round =>
      obtain ⟨j, S, hj, rfl, rfl, hS, hbw, hZ, HS⟩ := hrel
      obtain ⟨c0, c1, c2, c3, c4, c5, c6, c7, c8, c9, c10, _⟩ := blk11 hZ
      dsimp only at c0 c1 c2 c3 c4 c5 c6 c7 c8 c9 c10
      by_cases hlt : j < ll
      · have i1 : (j : Int) < (ll : Int) := by omega
        have hlt' : j < cs.length := by rw [← unhide HLL]; exact hlt
        obtain ⟨rk, g, off, hlo, _, hg, h8, hxk⟩ := unhide HK j hlt'
        have h8 := h8.below hbw hg
        have CK := unhide HC j hlt' rk wr (IsE.turn hbw.size (fun b hb hb2 => ⟨hbw.block b hb2, hb⟩) rk _ hxk)
        have HJ := hide (cdsT_take cs j hlt')
        have hsz : S.size + (ba (cdT cs[j])).size ≤ 100000000030000 := by
          have h1 := congrArg List.length (unhide HJ)
          rw [List.length_append] at h1
          have h2 := cdsT_le cs (j + 1)
          have h3 := unhide HLE
          have h4 := congrArg ByteArray.size (unhide HS)
          rw [ByteArray.size_append, baS] at h4
          rw [baS]
          omega
        obtain ⟨T, hT⟩ : ∃ T, T = ba (showE cs[j].2) := ⟨_, rfl⟩
        rw [← hT] at CK
        have HT := hide hT
        obtain ⟨u, hu⟩ : ∃ u, u = cs[j].1 := ⟨_, rfl⟩
        rw [← hu] at h8
        subst hlo
        obtain ⟨y0, y1, y2, y3, y4, y5, y6, y7⟩ := h8
        unfold R7.val at CK
        clear hxk hT
        cases u with
        | false => 
          have HU := hide (show ba (cdT cs[j]) = ⟨#[32, 119, 104, 101, 110, 32, 123, 32]⟩ ++ T ++ ⟨#[32, 125]⟩ by
            rw [unhide HT]
            have e : cdT cs[j] = [32, 119, 104, 101, 110, 32, 123, 32] ++ showE cs[j].2 ++ [32, 125] := by
              unfold cdT
              rw [← hu]
              rfl
            rw [e, ← ba_append, ← ba_append]
            rfl)
          have hz : S.size + 8 + T.size + 2 ≤ 100000000030000 := by
            have h1 := congrArg ByteArray.size (unhide HU)
            simp only [ByteArray.size_append] at h1
            have h2 : (ba (cdT cs[j])).size = 8 + T.size + 2 := h1
            omega
          have q1 : ¬ 9223372036854775807 < S.size + 8 := by omega
          have q2 : ¬ 9223372036854775807 < S.size + 8 + T.size := by omega
          have q3 : ¬ 9223372036854775807 < S.size + 8 + T.size + 2 := by omega
          have HR := hide (show S ++ ⟨#[32, 119, 104, 101, 110, 32, 123, 32]⟩ ++ T ++ ⟨#[32, 125]⟩ = HD ++ ba (cdsT (cs.take (j + 1))) by
            rw [unhide HJ, ← ba_append, unhide HU, unhide HS]
            simp only [ByteArray.append_assoc])
          clear hu hsz
          go_wp2_with fail
          refine CK.mono ?_
          rintro e w5 ⟨rfl, b5⟩
          have b05 := hbw.trans (b5.mono hbw.size)
          have Z5 := kept_of_below b5 hZ
          clear CK y0 y1 y2 y3 y4 y5 y6 y7 c0 c1 c2 c3 c4 c5 c6 c7 c8 c9 c10
          go_wp2
          go_roundw
          case rel => exact ⟨j + 1, _, hlt, by go_num, rfl, by simp only [ByteArray.size_append]; exact hz, b05, Z5, hide (unhide HR)⟩
          case measure =>
            simp only [intOf]
            omega
        | true => 
          have HU := hide (show ba (cdT cs[j]) = ⟨#[32, 117, 110, 108, 101, 115, 115, 32, 123, 32]⟩ ++ T ++ ⟨#[32, 125]⟩ by
            rw [unhide HT]
            have e : cdT cs[j] = [32, 117, 110, 108, 101, 115, 115, 32, 123, 32] ++ showE cs[j].2 ++ [32, 125] := by
              unfold cdT
              rw [← hu]
              rfl
            rw [e, ← ba_append, ← ba_append]
            rfl)
          have hz : S.size + 10 + T.size + 2 ≤ 100000000030000 := by
            have h1 := congrArg ByteArray.size (unhide HU)
            simp only [ByteArray.size_append] at h1
            have h2 : (ba (cdT cs[j])).size = 10 + T.size + 2 := h1
            omega
          have q1 : ¬ 9223372036854775807 < S.size + 10 := by omega
          have q2 : ¬ 9223372036854775807 < S.size + 10 + T.size := by omega
          have q3 : ¬ 9223372036854775807 < S.size + 10 + T.size + 2 := by omega
          have HR := hide (show S ++ ⟨#[32, 117, 110, 108, 101, 115, 115, 32, 123, 32]⟩ ++ T ++ ⟨#[32, 125]⟩ = HD ++ ba (cdsT (cs.take (j + 1))) by
            rw [unhide HJ, ← ba_append, unhide HU, unhide HS]
            simp only [ByteArray.append_assoc])
          clear hu hsz
          go_wp2_with fail
          refine CK.mono ?_
          rintro e w5 ⟨rfl, b5⟩
          have b05 := hbw.trans (b5.mono hbw.size)
          have Z5 := kept_of_below b5 hZ
          clear CK y0 y1 y2 y3 y4 y5 y6 y7 c0 c1 c2 c3 c4 c5 c6 c7 c8 c9 c10
          go_wp2
          go_roundw
          case rel => exact ⟨j + 1, _, hlt, by go_num, rfl, by simp only [ByteArray.size_append]; exact hz, b05, Z5, hide (unhide HR)⟩
          case measure =>
            simp only [intOf]
            omega
      · obtain rfl : j = ll := by omega
        have i1 : ¬ (j : Int) < (j : Int) := by omega
        have q1 : ¬ 9223372036854775807 < S.size + 1 := by omega
        have hfin : cs.take j = cs := by rw [unhide HLL]; exact List.take_length
        have HF := hide (show S ++ ⟨#[59]⟩ = RES by rw [unhide HP, unhide HS, hfin])
        clear hfin
        go_wp2
        go_ret
        exact ⟨congrArg (fun X => Ending.returned (.string X)) (unhide HF), hbw⟩
  | true =>
    have k1 : ¬ 9223372036854775807 < 7 + A.size := by omega
    have k2 : ¬ 9223372036854775807 < 7 + A.size + 2 := by omega
    have k3 : ¬ 9223372036854775807 < 7 + A.size + 2 + B.size := by omega
    have k4 : ¬ 9223372036854775807 < 7 + A.size + 2 + B.size + 2 := by omega
    have k5 : ¬ 9223372036854775807 < 7 + A.size + 2 + B.size + 2 + D.size := by omega
    have k6 : ¬ 9223372036854775807 < 7 + A.size + 2 + B.size + 2 + D.size + 1 := by omega
    have hHD : HD = ⟨#[102, 111, 114, 98, 105, 100, 40]⟩ ++ A ++ ⟨#[44, 32]⟩ ++ B ++ ⟨#[44, 32]⟩ ++ D ++ ⟨#[41]⟩ := unhide HH
    have HHD := hide hHD
    clear hHD HH
    go_upto_region 4 with fail
    have z0 := cell_regrown c0
    have z1 := cell_regrown c1
    have z2 := cell_regrown c2
    have z3 := cell_regrown c3
    have z4 := cell_regrown c4
    have z5 := cell_regrown c5
    have z6 := cell_regrown c6
    have z7 := cell_regrown c7
    have z8 := cell_regrown c8
    have z9 := cell_regrown c9
    have cA := fun d os => Calls.regrown_of (w := w1) (d := d) (os := os) (SP (grow (redrawn w1 d) os))
    have cB := fun d os => Calls.regrown_of (w := w1) (d := d) (os := os) (SA (grow (redrawn w1 d) os))
    have cD := fun d os => Calls.regrown_of (w := w1) (d := d) (os := os) (SR (grow (redrawn w1 d) os))
    clear c0 c1 c2 c3 c4 c5 c6 c7 c8 c9 c10 SP SA SR
    refine wp_region_quiet_below (by kernel_rfl) (by kernel_rfl) ?_
    iterate 4 (quiet_step (exact cA _ _))
    clear cA
    iterate 5 (quiet_step (exact cB _ _))
    clear cB
    repeat (quiet_step (exact cD _ _))
    clear cD
    refine wpQuiet_nil ?_
    intro _ hw'
    obtain ⟨⟨dq, osq⟩, hw''⟩ := hw'
    subst hw''
    have b4 := n1.trans ((below_regrown w1 dq osq).mono n1.size)
    have Z4 := kept_of_below (below_regrown w1 dq osq) Z1
    generalize grow (redrawn w1 dq) osq = w4 at *
    clear z0 z1 z2 z3 z4 z5 z6 z7 z8 z9
    rw [← unhide HHD]
    go_wp2_with fail
    go_loopw [3, 4] (fun sv iv wr => ∃ (j : Nat) (S : ByteArray), j ≤ ll ∧ iv = .int .i64 j ∧ sv = .string S ∧ S.size ≤ 100000000030000 ∧ Below w.heap.size w wr ∧ wr.heap[w.heap.size]? = some (.cells (Pol.cells ⟨true, qp, qa, qr, lo, ll, lc⟩) 40 (0, 0)) ∧ Hid (S = HD ++ ba (cdsT (cs.take j)))) (fun _ iv _ => ll - (intOf iv).toNat)
    case atStart => exact ⟨0, HD, Nat.zero_le _, rfl, rfl, by omega, b4, Z4, hide (by
      apply ByteArray.ext
      apply Array.toList_inj.1
      simp [ba, cdsT])⟩
    case round =>
      obtain ⟨j, S, hj, rfl, rfl, hS, hbw, hZ, HS⟩ := hrel
      obtain ⟨c0, c1, c2, c3, c4, c5, c6, c7, c8, c9, c10, _⟩ := blk11 hZ
      dsimp only at c0 c1 c2 c3 c4 c5 c6 c7 c8 c9 c10
      by_cases hlt : j < ll
      · have i1 : (j : Int) < (ll : Int) := by omega
        have hlt' : j < cs.length := by rw [← unhide HLL]; exact hlt
        obtain ⟨rk, g, off, hlo, _, hg, h8, hxk⟩ := unhide HK j hlt'
        have h8 := h8.below hbw hg
        have CK := unhide HC j hlt' rk wr (IsE.turn hbw.size (fun b hb hb2 => ⟨hbw.block b hb2, hb⟩) rk _ hxk)
        have HJ := hide (cdsT_take cs j hlt')
        have hsz : S.size + (ba (cdT cs[j])).size ≤ 100000000030000 := by
          have h1 := congrArg List.length (unhide HJ)
          rw [List.length_append] at h1
          have h2 := cdsT_le cs (j + 1)
          have h3 := unhide HLE
          have h4 := congrArg ByteArray.size (unhide HS)
          rw [ByteArray.size_append, baS] at h4
          rw [baS]
          omega
        obtain ⟨T, hT⟩ : ∃ T, T = ba (showE cs[j].2) := ⟨_, rfl⟩
        rw [← hT] at CK
        have HT := hide hT
        obtain ⟨u, hu⟩ : ∃ u, u = cs[j].1 := ⟨_, rfl⟩
        rw [← hu] at h8
        subst hlo
        obtain ⟨y0, y1, y2, y3, y4, y5, y6, y7⟩ := h8
        unfold R7.val at CK
        clear hxk hT
        cases u with
        | false => 
          have HU := hide (show ba (cdT cs[j]) = ⟨#[32, 119, 104, 101, 110, 32, 123, 32]⟩ ++ T ++ ⟨#[32, 125]⟩ by
            rw [unhide HT]
            have e : cdT cs[j] = [32, 119, 104, 101, 110, 32, 123, 32] ++ showE cs[j].2 ++ [32, 125] := by
              unfold cdT
              rw [← hu]
              rfl
            rw [e, ← ba_append, ← ba_append]
            rfl)
          have hz : S.size + 8 + T.size + 2 ≤ 100000000030000 := by
            have h1 := congrArg ByteArray.size (unhide HU)
            simp only [ByteArray.size_append] at h1
            have h2 : (ba (cdT cs[j])).size = 8 + T.size + 2 := h1
            omega
          have q1 : ¬ 9223372036854775807 < S.size + 8 := by omega
          have q2 : ¬ 9223372036854775807 < S.size + 8 + T.size := by omega
          have q3 : ¬ 9223372036854775807 < S.size + 8 + T.size + 2 := by omega
          have HR := hide (show S ++ ⟨#[32, 119, 104, 101, 110, 32, 123, 32]⟩ ++ T ++ ⟨#[32, 125]⟩ = HD ++ ba (cdsT (cs.take (j + 1))) by
            rw [unhide HJ, ← ba_append, unhide HU, unhide HS]
            simp only [ByteArray.append_assoc])
          clear hu hsz
          go_wp2_with fail
          refine CK.mono ?_
          rintro e w5 ⟨rfl, b5⟩
          have b05 := hbw.trans (b5.mono hbw.size)
          have Z5 := kept_of_below b5 hZ
          clear CK y0 y1 y2 y3 y4 y5 y6 y7 c0 c1 c2 c3 c4 c5 c6 c7 c8 c9 c10
          go_wp2
          go_roundw
          case rel => exact ⟨j + 1, _, hlt, by go_num, rfl, by simp only [ByteArray.size_append]; exact hz, b05, Z5, hide (unhide HR)⟩
          case measure =>
            simp only [intOf]
            omega
        | true => 
          have HU := hide (show ba (cdT cs[j]) = ⟨#[32, 117, 110, 108, 101, 115, 115, 32, 123, 32]⟩ ++ T ++ ⟨#[32, 125]⟩ by
            rw [unhide HT]
            have e : cdT cs[j] = [32, 117, 110, 108, 101, 115, 115, 32, 123, 32] ++ showE cs[j].2 ++ [32, 125] := by
              unfold cdT
              rw [← hu]
              rfl
            rw [e, ← ba_append, ← ba_append]
            rfl)
          have hz : S.size + 10 + T.size + 2 ≤ 100000000030000 := by
            have h1 := congrArg ByteArray.size (unhide HU)
            simp only [ByteArray.size_append] at h1
            have h2 : (ba (cdT cs[j])).size = 10 + T.size + 2 := h1
            omega
          have q1 : ¬ 9223372036854775807 < S.size + 10 := by omega
          have q2 : ¬ 9223372036854775807 < S.size + 10 + T.size := by omega
          have q3 : ¬ 9223372036854775807 < S.size + 10 + T.size + 2 := by omega
          have HR := hide (show S ++ ⟨#[32, 117, 110, 108, 101, 115, 115, 32, 123, 32]⟩ ++ T ++ ⟨#[32, 125]⟩ = HD ++ ba (cdsT (cs.take (j + 1))) by
            rw [unhide HJ, ← ba_append, unhide HU, unhide HS]
            simp only [ByteArray.append_assoc])
          clear hu hsz
          go_wp2_with fail
          refine CK.mono ?_
          rintro e w5 ⟨rfl, b5⟩
          have b05 := hbw.trans (b5.mono hbw.size)
          have Z5 := kept_of_below b5 hZ
          clear CK y0 y1 y2 y3 y4 y5 y6 y7 c0 c1 c2 c3 c4 c5 c6 c7 c8 c9 c10
          go_wp2
          go_roundw
          case rel => exact ⟨j + 1, _, hlt, by go_num, rfl, by simp only [ByteArray.size_append]; exact hz, b05, Z5, hide (unhide HR)⟩
          case measure =>
            simp only [intOf]
            omega
      · obtain rfl : j = ll := by omega
        have i1 : ¬ (j : Int) < (j : Int) := by omega
        have q1 : ¬ 9223372036854775807 < S.size + 1 := by omega
        have hfin : cs.take j = cs := by rw [unhide HLL]; exact List.take_length
        have HF := hide (show S ++ ⟨#[59]⟩ = RES by rw [unhide HP, unhide HS, hfin])
        clear hfin
        go_wp2
        go_ret
        exact ⟨congrArg (fun X => Ending.returned (.string X)) (unhide HF), hbw⟩
end Go.Proofs.YtpblalklenebhaaDoor

namespace Go.Proofs.YtpblalklenebhaaDoor
open Go.RowKit Go.Sort

def scZ : Sc := ⟨0, [], []⟩
def scOf (u : Int) (l : List Int) : Sc := if u % 3 = 0 then scZ else ⟨u % 3, tyI5 (IntKind.i64.wrap (u.tdiv 3)), idt5 l⟩
def scAt (us l : List Int) (i : Nat) : Sc := match us[i]? with
  | none => scZ
  | some u => scOf u l
theorem scZ_ok : scZ.ok := by
  have h : bquote [] = quoteL [] := by
    have := idt5_quote []
    rw [show idt5 [] = [] from rfl] at this
    exact this
  exact ⟨by decide, by decide, h⟩
theorem scOf_ok (u : Int) (l : List Int) : (scOf u l).ok := by
  unfold scOf
  split
  · exact scZ_ok
  · exact ⟨by have := tyI5_len (IntKind.i64.wrap (u.tdiv 3)); show (tyI5 (IntKind.i64.wrap (u.tdiv 3))).length ≤ 1000; omega, by have := idt5_len l; show (idt5 l).length ≤ 1000; omega, idt5_quote l⟩
theorem scAt_ok (us l : List Int) (i : Nat) : (scAt us l i).ok := by
  unfold scAt
  split
  · exact scZ_ok
  · exact scOf_ok _ _
/-- The head after i rounds. -/
def polI (f : Bool) (us l : List Int) (i : Nat) : Pol := ⟨f, if 0 < i then scAt us l 0 else scZ, if 1 < i then scAt us l 1 else scZ, if 2 < i then scAt us l 2 else scZ, none, 0, 0⟩
def setSc (q : Pol) (i : Nat) (s : Sc) : Pol := match i with
  | 0 => { q with p := s }
  | 1 => { q with a := s }
  | _ => { q with r := s }
theorem polI_step (f : Bool) (us l : List Int) (i : Nat) (hi : i < 3) : setSc (polI f us l i) i (scAt us l i) = polI f us l (i + 1) := by
  match i, hi with
  | 0, _ | 1, _ | 2, _ => rfl
theorem scAt_none (us l : List Int) (i : Nat) (h : us.length ≤ i) : scAt us l i = scZ := by
  unfold scAt
  rw [List.getElem?_eq_none h]
theorem polI_end (f : Bool) (us l : List Int) (i : Nat) (h : ¬ (i < 3 ∧ i < us.length)) (hi : i ≤ 3) : polI f us l i = polI f us l 3 := by
  by_cases h3 : i = 3
  · rw [h3]
  · have hu : us.length ≤ i := by omega
    match i, hi, hu with
    | 0, _, hu => unfold polI; rw [scAt_none us l 0 (by omega), scAt_none us l 1 (by omega), scAt_none us l 2 (by omega)]; simp
    | 1, _, hu => unfold polI; rw [scAt_none us l 1 (by omega), scAt_none us l 2 (by omega)]; simp
    | 2, _, hu => unfold polI; rw [scAt_none us l 2 (by omega)]; simp
    | 3, _, _ => rfl

def polO (q : Pol) : Obj := .cells q.cells 40 (0, 0)
def ptrO (pb : Nat) : Obj := .cells #[.pointer (some ⟨pb, 1, none⟩), .pointer (some ⟨pb, 4, none⟩), .pointer (some ⟨pb, 7, none⟩)] 59 (0, 0)
/-- What lies in memory while the head is made. -/
structure MI (w wr : World) (q : Pol) : Prop where
  below : Below w.heap.size w wr
  pa : wr.heap[w.heap.size]? = some (polO ⟨false, scZ, scZ, scZ, none, 0, 0⟩)
  pp : wr.heap[w.heap.size + 1]? = some (polO q)
  px : wr.heap[w.heap.size + 2]? = some (ptrO (w.heap.size + 1))
theorem MI.base {w wr : World} {q : Pol} (h : MI w wr q) : w.heap.size + 3 ≤ wr.heap.size := (Array.getElem?_eq_some_iff.1 h.px).1
theorem MI.move {w wr w' : World} {q : Pol} (h : MI w wr q) (hb : Below wr.heap.size wr w') : MI w w' q :=
  ⟨h.below.trans (hb.mono h.below.size), kept_of_below hb h.pa, kept_of_below hb h.pp, kept_of_below hb h.px⟩
theorem MI.ptr {w wr : World} {q : Pol} (h : MI w wr q) (i : Nat) (hi : i < 3) : wr.cell? ⟨w.heap.size + 2, i, none⟩ = some (.pointer (some ⟨w.heap.size + 1, 1 + 3 * i, none⟩)) := by
  have := h.px
  unfold ptrO at this
  match i, hi with
  | 0, _ | 1, _ | 2, _ => rw [Lib.cell_of_heap this]; rfl
def scK (q : Pol) (i : Nat) : Sc := match i with
  | 0 => q.p
  | 1 => q.a
  | _ => q.r
theorem MI.kd {w wr : World} {q : Pol} (h : MI w wr q) (i : Nat) (hi : i < 3) : wr.cell? ⟨w.heap.size + 1, 1 + 3 * i, none⟩ = some (.int .i64 (scK q i).k) ∧ wr.cell? ⟨w.heap.size + 1, 1 + 3 * i + 1, none⟩ = some (.string (ba (scK q i).t)) ∧ wr.cell? ⟨w.heap.size + 1, 1 + 3 * i + 2, none⟩ = some (.string (ba (scK q i).i)) ∧ ∀ o, wr.frozen? ⟨w.heap.size + 1, o, none⟩ = false := by
  obtain ⟨c0, c1, c2, c3, c4, c5, c6, c7, c8, c9, c10, cf⟩ := blk11 h.pp
  match i, hi with
  | 0, _ => exact ⟨c1, c2, c3, cf⟩
  | 1, _ => exact ⟨c4, c5, c6, cf⟩
  | 2, _ => exact ⟨c7, c8, c9, cf⟩
theorem MI.kind {w wr : World} {q : Pol} (h : MI w wr q) (i : Nat) (hi : i < 3) (k : Int) : MI w (wr.setCell ⟨w.heap.size + 1, 1 + 3 * i, none⟩ (.int .i64 k)) (setSc q i { scK q i with k := k }) := by
  have hold : ∀ b, b ≠ w.heap.size + 1 → (wr.setCell ⟨w.heap.size + 1, 1 + 3 * i, none⟩ (.int .i64 k)).heap[b]? = wr.heap[b]? := fun b hb => Below.heap_setCell _ _ _ _ hb
  refine ⟨h.below.setCell (p := ⟨w.heap.size + 1, 1 + 3 * i, none⟩) (by show w.heap.size ≤ w.heap.size + 1; omega) _, (hold _ (by omega)).trans h.pa, ?_, (hold _ (by omega)).trans h.px⟩
  have := h.pp
  unfold polO Pol.cells at this ⊢
  match i, hi with
  | 0, _ | 1, _ | 2, _ => simp [World.setCell, Array.getElem?_modify, this, setSc, scK]
theorem MI.uid {w wr : World} {q : Pol} (h : MI w wr q) (i : Nat) (hi : i < 3) (t s : List UInt8) : MI w ((wr.setCell ⟨w.heap.size + 1, 1 + 3 * i + 1, none⟩ (.string (ba t))).setCell ⟨w.heap.size + 1, 1 + 3 * i + 2, none⟩ (.string (ba s))) (setSc q i { scK q i with t := t, i := s }) := by
  have hold : ∀ b, b ≠ w.heap.size + 1 → ((wr.setCell ⟨w.heap.size + 1, 1 + 3 * i + 1, none⟩ (.string (ba t))).setCell ⟨w.heap.size + 1, 1 + 3 * i + 2, none⟩ (.string (ba s))).heap[b]? = wr.heap[b]? := fun b hb => (Below.heap_setCell _ _ _ _ hb).trans (Below.heap_setCell _ _ _ _ hb)
  refine ⟨(h.below.setCell (p := ⟨w.heap.size + 1, 1 + 3 * i + 1, none⟩) (by show w.heap.size ≤ w.heap.size + 1; omega) _).setCell (p := ⟨w.heap.size + 1, 1 + 3 * i + 2, none⟩) (by show w.heap.size ≤ w.heap.size + 1; omega) _, (hold _ (by omega)).trans h.pa, ?_, (hold _ (by omega)).trans h.px⟩
  have := h.pp
  unfold polO Pol.cells at this ⊢
  match i, hi with
  | 0, _ | 1, _ | 2, _ => simp [World.setCell, Array.getElem?_modify, this, setSc, scK]
end Go.Proofs.YtpblalklenebhaaDoor

namespace Go.Proofs.YtpblalklenebhaaDoor
open Go.RowKit Go.Sort

def cd8 (p : Bool × R7) : List Value := .bool p.1 :: p.2.cells
def cellsC (l : List (Bool × R7)) : List Value := l.flatMap cd8
theorem cellsC_snoc (l : List (Bool × R7)) (p : Bool × R7) : cellsC (l ++ [p]) = cellsC l ++ cd8 p := by simp [cellsC]
theorem cellsC_at : ∀ (l : List (Bool × R7)) (j : Nat) (h : j < l.length) (c : Nat), c < 8 → (cellsC l)[j * 8 + c]? = (cd8 l[j])[c]?
  | [], j, h, _, _ => by simp at h
  | t :: r, 0, _, c, hc => by
    show (cd8 t ++ cellsC r)[0 * 8 + c]? = _
    rw [Nat.zero_mul, Nat.zero_add, List.getElem?_append_left (by exact hc)]
    rfl
  | t :: r, j + 1, h, c, hc => by
    have := cellsC_at r j (by simpa using h) c hc
    show (cd8 t ++ cellsC r)[(j + 1) * 8 + c]? = (cd8 (r[j]'(by simpa using h)))[c]?
    have hl : (cd8 t).length = 8 := rfl
    rw [← this, List.getElem?_append_right (by rw [hl]; omega), hl]
    congr 1
    omega
theorem cellC_one (p : Bool × R7) : ∀ u ∈ cd8 p, u.oneCell' = true := by
  intro u hu
  simp [cd8, R7.cells] at hu
  rcases hu with rfl | rfl | rfl | rfl | rfl | rfl | rfl | rfl <;> rfl
theorem infoCond : (Tryd.prog.info? 63).map (fun i => (i.zero, i.size, i.bytes)) = some (some (.agg #[.bool false, .int .i64 0, .bool false, .int .i64 0, .string ⟨#[]⟩, .string ⟨#[]⟩, .string ⟨#[]⟩, .slice none 0 0]), 8, 104) := by kernel_rfl
/-- Cells and conditions, one for one. -/
inductive AllC (w : World) (P : Nat → Prop) : List (Bool × R7) → List (Bool × Ex) → Prop
  | nil : AllC w P [] []
  | snoc {rs : List (Bool × R7)} {xs : List (Bool × Ex)} {u : Bool} {r : R7} {x : Ex} : AllC w P rs xs → IsE w P r x → AllC w P (rs ++ [(u, r)]) (xs ++ [(u, x)])
theorem AllC.turn {w w' : World} {P P' : Nat → Prop} (hs : w.heap.size ≤ w'.heap.size) (hb : ∀ b, P b → b < w.heap.size → w'.heap[b]? = w.heap[b]? ∧ P' b) {rs : List (Bool × R7)} {xs : List (Bool × Ex)} (h : AllC w P rs xs) : AllC w' P' rs xs := by
  induction h with
  | nil => exact .nil
  | snoc _ hx ih => exact .snoc ih (IsE.turn hs hb _ _ hx)
theorem AllC.len {w : World} {P : Nat → Prop} {rs : List (Bool × R7)} {xs : List (Bool × Ex)} (h : AllC w P rs xs) : rs.length = xs.length := by
  induction h with
  | nil => rfl
  | snoc _ _ ih => simp [ih]
theorem AllC.get {w : World} {P : Nat → Prop} {rs : List (Bool × R7)} {xs : List (Bool × Ex)} (h : AllC w P rs xs) : ∀ j (h1 : j < rs.length) (h2 : j < xs.length), rs[j].1 = xs[j].1 ∧ IsE w P rs[j].2 xs[j].2 := by
  induction h with
  | nil => intro j h1; simp at h1
  | @snoc rs xs u r x h hx ih =>
    intro j h1 h2
    have hl := h.len
    by_cases hj : j < rs.length
    · rw [List.getElem_append_left hj, List.getElem_append_left (by omega)]
      exact ih j hj (by omega)
    · have : j = rs.length := by simp at h1; omega
      subst this
      rw [List.getElem_append_right (Nat.le_refl _), List.getElem_append_right (by omega)]
      simp only [Nat.sub_self, List.getElem_cons_zero, hl]
      exact ⟨trivial, hx⟩
theorem ownsC_at {w : World} {B : Nat} {v : Value} {l : List (Bool × R7)} (h : w.ownsRow B 63 8 v l.length (cellsC l)) (hp : 0 < l.length) : ∃ g cap, v = .slice (some ⟨g, 0, none⟩) l.length cap ∧ B ≤ g ∧ g < w.heap.size ∧ ∀ j (hj : j < l.length), At8 w g (j * 8) l[j].1 l[j].2 := by
  rcases h.2 with ⟨h0, hz⟩ | ⟨g, cap, cur, hv, hbg, hg, hnc, _, _, htake⟩
  · omega
  · refine ⟨g, cap, hv, hbg, (Array.getElem?_eq_some_iff.1 hg).1, fun j hj => ?_⟩
    have key : ∀ c u, c < 8 → (cd8 l[j])[c]? = some u → w.cell? ⟨g, j * 8 + c, none⟩ = some u := fun c u hc hu => by
      have := cellsC_at l j hj c hc
      rw [hu, ← htake, List.getElem?_take] at this
      rw [Lib.cell_of_heap hg]
      split at this
      · simpa using this
      · cases this
    exact ⟨key 0 _ (by decide) rfl, key 1 _ (by decide) rfl, key 2 _ (by decide) rfl, key 3 _ (by decide) rfl, key 4 _ (by decide) rfl, key 5 _ (by decide) rfl, key 6 _ (by decide) rfl, key 7 _ (by decide) rfl⟩

def polL (q : Pol) (lv : Value) : Obj := .cells #[.bool q.f, .int .i64 q.p.k, .string (ba q.p.t), .string (ba q.p.i), .int .i64 q.a.k, .string (ba q.a.t), .string (ba q.a.i), .int .i64 q.r.k, .string (ba q.r.t), .string (ba q.r.i), lv] 40 (0, 0)
def polZ : Obj := polO ⟨false, scZ, scZ, scZ, none, 0, 0⟩
/-- What lies in memory while a node is made: the raw, the answer's cells, the node with its list lc, the row v. -/
structure CInv (w w' : World) (q0 : Pol) (lc v : Value) (rs : List (Bool × R7)) (xs : List (Bool × Ex)) : Prop where
  below : Below w.heap.size w w'
  pr : w'.heap[w.heap.size]? = some polZ
  pq : w'.heap[w.heap.size + 2]? = some (ptrO (w.heap.size + 1))
  pe : w'.heap[w.heap.size + 1]? = some (polL q0 lc)
  own : w'.ownsRow (w.heap.size + 3) 63 8 v rs.length (cellsC rs)
  all : AllC w' (fun b => w.heap.size + 3 ≤ b ∧ some b ≠ v.ownBlock) rs xs
theorem CInv.base {w w' : World} {q0 : Pol} {lc v : Value} {rs : List (Bool × R7)} {xs : List (Bool × Ex)} (h : CInv w w' q0 lc v rs xs) : w.heap.size + 3 ≤ w'.heap.size := (Array.getElem?_eq_some_iff.1 h.pq).1
theorem ownC_slice {w : World} {B : Nat} {v : Value} {n : Nat} {xs : List Value} (h : w.ownsRow B 63 8 v n xs) : ∃ ao cap, v = .slice ao n cap := by
  rcases h.2 with ⟨h0, hz⟩ | ⟨g, cap, cur, hv, _⟩
  · exact ⟨none, 0, by rw [h0, hz]⟩
  · exact ⟨_, cap, hv⟩
theorem CInv.row {w w' : World} {q0 : Pol} {lc v : Value} {rs : List (Bool × R7)} {xs : List (Bool × Ex)} (h : CInv w w' q0 lc v rs xs) : ∀ b, v.ownBlock = some b → w.heap.size + 3 ≤ b ∧ b < w'.heap.size := fun b e => h.own.lt b e

/-- The state of the region that makes one more kid and appends it. -/
structure TC (w wr : World) (q0 : Pol) (lv : Value) (rs : List (Bool × R7)) (xs : List (Bool × Ex)) (u : Bool) (X : Ex) (L : Nat → Bool) (a' : Act) (w' : World) : Prop where
  pre : L 14 = false → Below wr.heap.size wr w'
  k11 : L 11 = true → L 14 = false → ∃ q : R7, a'.tmps.getD 84 undef = q.val ∧ IsE w' (fun b => wr.heap.size ≤ b) q X
  k13 : L 13 = true → L 14 = false → ∃ (q : R7) (blk : Nat), a'.tmps.getD 86 undef = .slice (some ⟨blk, 0, none⟩) 1 1 ∧ wr.heap.size ≤ blk ∧ w'.heap[blk]? = some (.cells (cdC u q) 63 (0, 0)) ∧ IsE w' (fun b => wr.heap.size ≤ b) q X
  k14 : L 14 = true → L 16 = false → ∃ (v : Value) (q : R7), a'.tmps.getD 87 undef = v ∧ CInv w w' q0 lv v (rs ++ [(u, q)]) (xs ++ [(u, X)])
  k16 : L 16 = true → ∃ (v : Value) (q : R7), CInv w w' q0 v v (rs ++ [(u, q)]) (xs ++ [(u, X)])
  k12 : L 12 = true → L 14 = false → ∃ q : R7, a'.tmps.getD 85 undef = cdV u q ∧ IsE w' (fun b => wr.heap.size ≤ b) q X
  d13 : L 13 = true → L 12 = true
  d12 : L 12 = true → L 11 = true
  d14 : L 14 = true → L 13 = true ∧ L 1 = true
  d16 : L 16 = true → L 14 = true

section
variable {w wr : World} {q0 : Pol} {lv : Value} {rs : List (Bool × R7)} {xs : List (Bool × Ex)} {u : Bool} {X : Ex} {L : Nat → Bool} {a' : Act} {w' : World}
theorem TC.start (a : Act) : TC w wr q0 lv rs xs u X (fun _ => false) a wr.drew :=
  ⟨fun _ => (Below.refl _ wr).drew, fun h => (by cases h), fun h => (by cases h), fun h => (by cases h), fun h => (by cases h), fun h => (by cases h), fun h => (by cases h), fun h => (by cases h), fun h => (by cases h), fun h => (by cases h)⟩
theorem TC.no (h : TC w wr q0 lv rs xs u X L a' w') : (L 14 = false → L 16 = false) ∧ (L 1 = false → L 14 = false) ∧ (L 13 = false → L 14 = false) ∧ (L 12 = false → L 13 = false) ∧ (L 11 = false → L 12 = false) := by
  refine ⟨fun e => ?_, fun e => ?_, fun e => ?_, fun e => ?_, fun e => ?_⟩
  · cases g : L 16 with
    | false => rfl
    | true => rw [h.d16 g] at e; cases e
  · cases g : L 14 with
    | false => rfl
    | true => rw [(h.d14 g).2] at e; cases e
  · cases g : L 14 with
    | false => rfl
    | true => rw [(h.d14 g).1] at e; cases e
  · cases g : L 13 with
    | false => rfl
    | true => rw [h.d13 g] at e; cases e
  · cases g : L 12 with
    | false => rfl
    | true => rw [h.d12 g] at e; cases e
theorem TC.below (h : TC w wr q0 lv rs xs u X L a' w') (h0 : CInv w wr q0 lv lv rs xs) : Below w.heap.size w w' := by
  cases e : L 14 with
  | false =>
    have hb := h.pre e
    exact h0.below.trans (hb.mono h0.below.size)
  | true =>
    cases e2 : L 16 with
    | false => obtain ⟨v, q, _, h2⟩ := h.k14 e e2; exact h2.below
    | true => obtain ⟨v, q, h2⟩ := h.k16 e2; exact h2.below
theorem TC.other (h : TC w wr q0 lv rs xs u X L a' w') (i d : Nat) (v : Value) (hi : i ≠ 11 ∧ i ≠ 12 ∧ i ≠ 13 ∧ i ≠ 14 ∧ i ≠ 16) (hd : d ≠ 84 ∧ d ≠ 85 ∧ d ≠ 86 ∧ d ≠ 87) : TC w wr q0 lv rs xs u X (fun j => decide (j = i) || L j) (a'.put (some d) v) w' := by
  have e11 : (decide (11 = i) || L 11) = L 11 := by rw [decide_eq_false (fun e => hi.1 e.symm)]; rfl
  have e12 : (decide (12 = i) || L 12) = L 12 := by rw [decide_eq_false (fun e => hi.2.1 e.symm)]; rfl
  have e13 : (decide (13 = i) || L 13) = L 13 := by rw [decide_eq_false (fun e => hi.2.2.1 e.symm)]; rfl
  have e14 : (decide (14 = i) || L 14) = L 14 := by rw [decide_eq_false (fun e => hi.2.2.2.1 e.symm)]; rfl
  have e16 : (decide (16 = i) || L 16) = L 16 := by rw [decide_eq_false (fun e => hi.2.2.2.2 e.symm)]; rfl
  refine ⟨?_, ?_, ?_, ?_, ?_, ?_, ?_, ?_, ?_, ?_⟩ <;> simp only [e11, e12, e13, e14, e16, put_other _ _ _ _ hd.1, put_other _ _ _ _ hd.2.1, put_other _ _ _ _ hd.2.2.1, put_other _ _ _ _ hd.2.2.2]
  · exact h.pre
  · exact h.k11
  · exact h.k13
  · exact h.k14
  · exact h.k16
  · exact h.k12
  · exact h.d13
  · exact h.d12
  · exact fun e => ⟨(h.d14 e).1, by rw [(h.d14 e).2]; simp⟩
  · exact h.d16
theorem TC.call (h : TC w wr q0 lv rs xs u X L a' w') (hL : L 11 = false) (hs : 84 < a'.tmps.size) {w'' : World} {q : R7} (hb : Below w'.heap.size w' w'') (hq : IsE w'' (fun b => w'.heap.size ≤ b) q X) : TC w wr q0 lv rs xs u X (fun j => decide (j = 11) || L j) (a'.put (some 84) q.val) w'' := by
  have n12 := h.no.2.2.2.2 hL
  have n13 := h.no.2.2.2.1 n12
  have n14 := h.no.2.2.1 n13
  have n16 := h.no.1 n14
  have hp := h.pre n14
  refine ⟨fun _ => hp.trans (hb.mono hp.size), fun _ _ => ⟨q, put_same _ _ _ hs, IsE.turn (Nat.le_refl _) (fun b hb' _ => ⟨rfl, Nat.le_trans hp.size hb'⟩) q X hq⟩, fun e _ => ?_, fun e => ?_, fun e => ?_, fun e _ => ?_, fun e => ?_, fun e => ?_, fun e => ?_, fun e => ?_⟩
  · simp [n13] at e
  · simp [n14] at e
  · simp [n16] at e
  · simp [n12] at e
  · simp [n13] at e
  · simp [n12] at e
  · simp [n14] at e
  · simp [n16] at e
theorem TC.pair (h : TC w wr q0 lv rs xs u X L a' w') (hL : L 12 = false) (h11 : L 11 = true) (hs : 85 < a'.tmps.size) {q : R7} (hq0 : a'.tmps.getD 84 undef = q.val) (hq : IsE w' (fun b => wr.heap.size ≤ b) q X) : TC w wr q0 lv rs xs u X (fun j => decide (j = 12) || L j) (a'.put (some 85) (cdV u q)) w' := by
  have n13 := h.no.2.2.2.1 hL
  have n14 := h.no.2.2.1 n13
  have n16 := h.no.1 n14
  refine ⟨fun _ => h.pre n14, fun _ _ => ⟨q, by rw [put_other _ _ _ _ (by decide)]; exact hq0, hq⟩, fun e _ => ?_, fun e => ?_, fun e => ?_, fun _ _ => ⟨q, put_same _ _ _ hs, hq⟩, fun e => ?_, fun _ => by simp [h11], fun e => ?_, fun e => ?_⟩
  · simp [n13] at e
  · simp [n14] at e
  · simp [n16] at e
  · simp [n13] at e
  · simp [n14] at e
  · simp [n16] at e
theorem TC.build (h : TC w wr q0 lv rs xs u X L a' w') (hL : L 13 = false) (h12 : L 12 = true) (hs : 86 < a'.tmps.size) {q : R7} (hq0 : a'.tmps.getD 85 undef = cdV u q) (hq : IsE w' (fun b => wr.heap.size ≤ b) q X) :
    TC w wr q0 lv rs xs u X (fun j => decide (j = 13) || L j) (a'.put (some 86) (.slice (some ⟨w'.heap.size, 0, none⟩) 1 1)) (w'.alloc (.cells (cdC u q) 63)) := by
  have n14 := h.no.2.2.1 hL
  have n16 := h.no.1 n14
  have hp := h.pre n14
  have n := newS w' (.cells (cdC u q) 63)
  have hq' := IsE.turn n.size (fun b hb' hb2 => ⟨n.block b hb2, hb'⟩) q X hq
  have h11 := h.d12 h12
  refine ⟨fun _ => hp.trans (n.mono hp.size), fun e _ => ?_, fun _ _ => ⟨q, w'.heap.size, put_same _ _ _ hs, hp.size, alloc_heap _ _, hq'⟩, fun e => ?_, fun e => ?_, fun _ _ => ⟨q, by rw [put_other _ _ _ _ (by decide)]; exact hq0, hq'⟩, fun _ => by simp [h12], fun _ => by simp [h11], fun e => ?_, fun e => ?_⟩
  · obtain ⟨q1, e1, e2⟩ := h.k11 h11 n14
    exact ⟨q1, by rw [put_other _ _ _ _ (by decide)]; exact e1, IsE.turn n.size (fun b hb' hb2 => ⟨n.block b hb2, hb'⟩) q1 X e2⟩
  · simp [n14] at e
  · simp [n16] at e
  · simp [n14] at e
  · simp [n16] at e
theorem TC.app (h0 : CInv w wr q0 lv lv rs xs) (h : TC w wr q0 lv rs xs u X L a' w') (hL : L 14 = false) (h13 : L 13 = true) (h1 : L 1 = true) (hs : 87 < a'.tmps.size) {q : R7} (hq : IsE w' (fun b => wr.heap.size ≤ b) q X)
    {v : Value} {w'' : World} (hown : w''.ownsRow (w.heap.size + 3) 63 8 v (rs.length + 1) (cellsC rs ++ cd8 (u, q))) (hg : w'.grownBy w'' lv.ownBlock) (hat : v.ownBlock = lv.ownBlock ∨ v.ownBlock = some w'.heap.size) :
    TC w wr q0 lv rs xs u X (fun j => decide (j = 14) || L j) (a'.put (some 87) v) w'' := by
  have n16 := h.no.1 hL
  have h12 := h.d13 h13
  have h11 := h.d12 h12
  have hp := h.pre hL
  have hbase := h0.base
  have hsz := hp.size
  have hrow := h0.row
  have hsame : ∀ b, b < w'.heap.size → lv.ownBlock ≠ some b → w''.heap[b]? = w'.heap[b]? := fun b hb hne => hg.block b hb (fun e => hne e.symm)
  have hold : ∀ b, b < w.heap.size + 3 → w''.heap[b]? = wr.heap[b]? := fun b hb => by
    rw [hsame b (by omega) (fun e => by have := (hrow b e).1; omega)]
    exact hp.block b (by omega)
  have hne : ∀ b, b < w'.heap.size → lv.ownBlock ≠ some b → some b ≠ v.ownBlock := by
    intro b hb hbg e
    rcases hat with h1 | h1
    · rw [h1] at e
      exact hbg e.symm
    · rw [h1] at e
      have hb3 := Option.some.inj e
      omega
  have hinv : CInv w w'' q0 lv v (rs ++ [(u, q)]) (xs ++ [(u, X)]) := by
    refine ⟨?_, (hold _ (by omega)).trans h0.pr, (hold _ (by omega)).trans h0.pq, (hold _ (by omega)).trans h0.pe, ?_, .snoc ?_ ?_⟩
    · have hb := h0.below.trans (hp.mono h0.below.size)
      exact hb.grown hg hb.size (fun b e => by have := (hrow b e).1; omega)
    · rw [cellsC_snoc, List.length_append]
      exact hown
    · refine AllC.turn (by have := hg.size; omega) (fun b hb hb2 => ?_) h0.all
      have hnb : lv.ownBlock ≠ some b := fun e => hb.2 e.symm
      exact ⟨(hsame b (by omega) hnb).trans (hp.block b hb2), hb.1, hne b (by omega) hnb⟩
    · refine IsE.turn hg.size (fun b hb hb2 => ?_) q X hq
      have hnb : lv.ownBlock ≠ some b := fun e => by have := (hrow b e).2; omega
      exact ⟨hsame b hb2 hnb, by omega, hne b hb2 hnb⟩
  refine ⟨fun e => ?_, fun _ e => ?_, fun _ e => ?_, fun _ _ => ⟨v, q, put_same _ _ _ hs, hinv⟩, fun e => ?_, fun _ e => ?_, fun _ => by simp [h12], fun _ => by simp [h11], fun _ => by simp [h13, h1], fun e => ?_⟩
  · simp at e
  · simp at e
  · simp at e
  · simp [n16] at e
  · simp at e
  · simp [n16] at e
theorem TC.store (h : TC w wr q0 lv rs xs u X L a' w') (h14 : L 14 = true) (hL : L 16 = false) {v : Value} (hv : a'.tmps.getD 87 undef = v) : TC w wr q0 lv rs xs u X (fun j => decide (j = 16) || L j) a' (w'.setCell ⟨w.heap.size + 1, 10, none⟩ v) := by
  obtain ⟨v', q, hv', hi⟩ := h.k14 h14 hL
  rw [hv] at hv'
  subst hv'
  have hbase := hi.base
  have h13 := (h.d14 h14).1
  have h12 := h.d13 h13
  have h11 := h.d12 h12
  have hold : ∀ b, b ≠ w.heap.size + 1 → (w'.setCell ⟨w.heap.size + 1, 10, none⟩ v).heap[b]? = w'.heap[b]? := fun b hb => Below.heap_setCell _ _ _ _ hb
  have hinv : CInv w (w'.setCell ⟨w.heap.size + 1, 10, none⟩ v) q0 v v (rs ++ [(u, q)]) (xs ++ [(u, X)]) := by
    refine ⟨hi.below.setCell (p := ⟨w.heap.size + 1, 10, none⟩) (by show w.heap.size ≤ w.heap.size + 1; omega) _, (hold _ (by omega)).trans hi.pr, (hold _ (by omega)).trans hi.pq, ?_, ?_, ?_⟩
    · have := hi.pe
      unfold polL at this ⊢
      simp [World.setCell, Array.getElem?_modify, this]
    · refine ⟨hi.own.1, ?_⟩
      rcases hi.own.2 with h0 | ⟨g, cap, cur, hv, hbg, hg, rest⟩
      · exact .inl h0
      · exact .inr ⟨g, cap, cur, hv, hbg, (hold g (by omega)).trans hg, rest⟩
    · exact AllC.turn (by simp [World.setCell]) (fun b hb hb2 => ⟨hold b (by omega), hb⟩) hi.all
  refine ⟨fun e => ?_, fun _ e => ?_, fun _ e => ?_, fun _ e => ?_, fun _ => ⟨v, q, hinv⟩, fun _ e => ?_, fun _ => by simp [h12], fun _ => by simp [h11], fun _ => by simp [h13, (h.d14 h14).2], fun _ => by simp [h14]⟩
  · simp [h14] at e
  · simp [h14] at e
  · simp [h14] at e
  · simp at e
  · simp [h14] at e
end
end Go.Proofs.YtpblalklenebhaaDoor

namespace Go.Proofs.YtpblalklenebhaaDoor
open Go.RowKit Go.Sort

/-- What each slot of the region holds that writes a scope's kind. -/
def sp6 (w0 : Nat) (i : Nat) (uv : Value) (ub uf : Nat) (u : Int) : Nat → Value → World → Prop
  | 0, v, _ => v = .slice (some ⟨w0 + 2, 0, none⟩) 3 3
  | 1, v, _ => v = .int .i64 i
  | 2, v, _ => v = .pointer (some ⟨w0 + 2, i, none⟩)
  | 3, v, _ => v = .pointer (some ⟨w0 + 1, 1 + 3 * i, none⟩)
  | 4, v, _ => v = uv
  | 5, v, _ => v = .int .i64 i
  | 6, v, _ => v = .pointer (some ⟨ub, uf + i, none⟩)
  | 7, v, _ => v = .int .i64 u
  | 8, v, _ => v = .int .i64 (u % 3)
  | 9, v, _ => v = .pointer (some ⟨w0 + 1, 1 + 3 * i, none⟩)
  | 10, v, _ => v = .pointer (some ⟨w0 + 1, 1 + 3 * i, none⟩)
  | _, _, _ => True
/-- And its uid. -/
def sp8 (w0 : Nat) (i : Nat) (uv lv : Value) (ub uf : Nat) (u : Int) (T I : ByteArray) : Nat → Value → World → Prop
  | 0, v, _ => v = .slice (some ⟨w0 + 2, 0, none⟩) 3 3
  | 1, v, _ => v = .int .i64 i
  | 2, v, _ => v = .pointer (some ⟨w0 + 2, i, none⟩)
  | 3, v, _ => v = .pointer (some ⟨w0 + 1, 1 + 3 * i, none⟩)
  | 4, v, _ => v = uv
  | 5, v, _ => v = .int .i64 i
  | 6, v, _ => v = .pointer (some ⟨ub, uf + i, none⟩)
  | 7, v, _ => v = .int .i64 u
  | 8, v, _ => v = .int .i64 (IntKind.i64.wrap (u.tdiv 3))
  | 9, v, _ => v = lv
  | 10, v, _ => v = .agg #[.string T, .string I]
  | 11, v, _ => v = .pointer (some ⟨w0 + 1, 1 + 3 * i, none⟩)
  | 12, v, _ => v = .pointer (some ⟨w0 + 1, 1 + 3 * i + 1, none⟩)
  | _, _, _ => True
theorem sp8_up {w0 i : Nat} {uv lv : Value} {ub uf : Nat} {u : Int} {T I : ByteArray} {w w' : World} : ∀ j v, sp8 w0 i uv lv ub uf u T I j v w → sp8 w0 i uv lv ub uf u T I j v w' := by
  intro j v h
  unfold sp8 at h ⊢
  split at h
  all_goals exact h

theorem scK_set (q : Pol) (i : Nat) (hi : i < 3) (s : Sc) : scK (setSc q i s) i = s := by
  match i, hi with
  | 0, _ | 1, _ | 2, _ => rfl
theorem set_set (q : Pol) (i : Nat) (hi : i < 3) (s s' : Sc) : setSc (setSc q i s) i s' = setSc q i s' := by
  match i, hi with
  | 0, _ | 1, _ | 2, _ => rfl
theorem scK_polI (f : Bool) (us l : List Int) (i : Nat) (hi : i < 3) : scK (polI f us l i) i = scZ := by
  match i, hi with
  | 0, _ | 1, _ | 2, _ => rfl

def set11S (w : World) (b : Nat) (v0 v1 v2 v3 v4 v5 v6 v7 v8 v9 v10 : Value) : World :=
  ((((set7S w b v0 v1 v2 v3 v4 v5 v6).setCell ⟨b, 7, none⟩ v7).setCell ⟨b, 8, none⟩ v8).setCell ⟨b, 9, none⟩ v9).setCell ⟨b, 10, none⟩ v10
theorem set11S_heap (w : World) (b k : Nat) (v0 v1 v2 v3 v4 v5 v6 v7 v8 v9 v10 : Value) (h : k ≠ b) : (set11S w b v0 v1 v2 v3 v4 v5 v6 v7 v8 v9 v10).heap[k]? = w.heap[k]? := by
  unfold set11S
  rw [Below.heap_setCell _ _ _ _ h, Below.heap_setCell _ _ _ _ h, Below.heap_setCell _ _ _ _ h, Below.heap_setCell _ _ _ _ h, set7S_heap _ _ _ _ _ _ _ _ _ _ h]
theorem set11S_size (w : World) (b : Nat) (v0 v1 v2 v3 v4 v5 v6 v7 v8 v9 v10 : Value) : (set11S w b v0 v1 v2 v3 v4 v5 v6 v7 v8 v9 v10).heap.size = w.heap.size := by
  simp [set11S, set7S, World.setCell]
theorem set11S_below {B b : Nat} {a w : World} (h : Below B a w) (hb : B ≤ b) (v0 v1 v2 v3 v4 v5 v6 v7 v8 v9 v10 : Value) : Below B a (set11S w b v0 v1 v2 v3 v4 v5 v6 v7 v8 v9 v10) :=
  ((((set7S_below h hb v0 v1 v2 v3 v4 v5 v6).setCell (p := ⟨b, 7, none⟩) hb _).setCell (p := ⟨b, 8, none⟩) hb _).setCell (p := ⟨b, 9, none⟩) hb _).setCell (p := ⟨b, 10, none⟩) hb _
def shX (kd : Int) (i : Nat) : Int := kd / 2 ^ i
def condsX (kd : Int) (cs : List Rw) (n : Nat) : List (Bool × Ex) := (List.range n).map fun i => (shX kd i % 2 == 1, treeX 10 (cs.getD i (.mk 0 0 [] [])))
theorem condsX_succ (kd : Int) (cs : List Rw) (j : Nat) (h : j < cs.length) : condsX kd cs (j + 1) = condsX kd cs j ++ [(shX kd j % 2 == 1, treeX 10 cs[j])] := by
  unfold condsX
  rw [List.range_succ, List.map_append, List.map_cons, List.map_nil]
  rw [show cs.getD j (.mk 0 0 [] []) = cs[j] by rw [List.getD, List.getElem?_eq_getElem h]; rfl]
theorem condsX_len (kd : Int) (cs : List Rw) (n : Nat) : (condsX kd cs n).length = n := by unfold condsX; simp
/-- The policy that is answered. -/
structure PolIs (w : World) (q : Pol) (f : Bool) (us l : List Int) (cs : List (Bool × Ex)) : Prop where
  f : q.f = f
  p : q.p = scAt us l 0
  a : q.a = scAt us l 1
  r : q.r = scAt us l 2
  ll : q.ll = cs.length
  row : CRow w (fun _ => True) q.lo cs
theorem polEnd {w wr : World} {f : Bool} {us l : List Int} {lv : Value} {rs : List (Bool × R7)} {xs : List (Bool × Ex)} (h : CInv w wr (polI f us l 3) lv lv rs xs) (v0 v1 v2 v3 v4 v5 v6 v7 v8 v9 v10 : Value) :
    ∃ (lo : Option Addr) (cap : Nat), lv = .slice lo rs.length cap ∧ PolIs (set11S wr w.heap.size v0 v1 v2 v3 v4 v5 v6 v7 v8 v9 v10) ⟨f, scAt us l 0, scAt us l 1, scAt us l 2, lo, rs.length, cap⟩ f us l xs := by
  have hz := set11S_size wr w.heap.size v0 v1 v2 v3 v4 v5 v6 v7 v8 v9 v10
  have hlen := h.all.len
  rcases Nat.eq_zero_or_pos rs.length with h0 | h0
  · obtain ⟨ao, cap, e⟩ := ownC_slice h.own
    exact ⟨ao, cap, e, rfl, rfl, rfl, rfl, hlen, fun j hj => by omega⟩
  · obtain ⟨g, cap, e, hB, hg, hrow⟩ := ownsC_at h.own h0
    refine ⟨_, cap, e, rfl, rfl, rfl, rfl, hlen, fun j hj => ?_⟩
    have hj' : j < rs.length := by omega
    obtain ⟨e1, e2⟩ := h.all.get j hj' hj
    have h8 := hrow j hj'
    refine ⟨rs[j].2, g, 0, rfl, trivial, by rw [hz]; exact hg, ?_, IsE.turn (by rw [hz]; exact Nat.le_refl _) (fun b hb _ => ⟨set11S_heap _ _ _ _ _ _ _ _ _ _ _ _ _ _ (by have h5 := hb.1; omega), trivial⟩) _ _ e2⟩
    rw [Nat.zero_add, ← e1]
    have hbk : (set11S wr w.heap.size v0 v1 v2 v3 v4 v5 v6 v7 v8 v9 v10).heap[g]? = wr.heap[g]? := set11S_heap _ _ _ _ _ _ _ _ _ _ _ _ _ _ (by omega)
    have hc : ∀ o, (set11S wr w.heap.size v0 v1 v2 v3 v4 v5 v6 v7 v8 v9 v10).cell? ⟨g, o, none⟩ = wr.cell? ⟨g, o, none⟩ := fun o => World.cell?_of_block (w := wr) hbk
    unfold At8 at h8 ⊢
    simp only [hc]
    exact h8
/-- What each slot of the region holds that appends a condition. -/
def sp12 (pb j cb cf : Nat) (kd : Int) (lv kv : Value) (rk : R4) : Nat → Value → World → Prop
  | 0, v, _ => v = .pointer (some ⟨pb, 10, none⟩)
  | 1, v, _ => v = lv
  | 2, v, _ => v = .int .i64 kd
  | 3, v, _ => v = .int .i64 j
  | 4, v, _ => v = .int .i64 (shX kd j)
  | 5, v, _ => v = .int .i64 (shX kd j % 2)
  | 6, v, _ => v = .bool (shX kd j % 2 == 1)
  | 7, v, _ => v = kv
  | 8, v, _ => v = .int .i64 j
  | 9, v, _ => v = .pointer (some ⟨cb, cf + j * 4, none⟩)
  | 10, v, _ => v = rk.val
  | 15, v, _ => v = .pointer (some ⟨pb, 10, none⟩)
  | _, _, _ => True
theorem sp12_up {pb j cb cf : Nat} {kd : Int} {lv kv : Value} {rk : R4} {w w' : World} : ∀ i u, sp12 pb j cb cf kd lv kv rk i u w → sp12 pb j cb cf kd lv kv rk i u w' := by
  intro i u h
  unfold sp12 at h ⊢
  split at h <;> first | exact h | trivial
theorem blkL {w : World} {b : Nat} {q : Pol} {lv : Value} (h : w.heap[b]? = some (polL q lv)) : w.cell? ⟨b, 0, none⟩ = some (.bool q.f) ∧ w.cell? ⟨b, 1, none⟩ = some (.int .i64 q.p.k) ∧ w.cell? ⟨b, 2, none⟩ = some (.string (ba q.p.t)) ∧ w.cell? ⟨b, 3, none⟩ = some (.string (ba q.p.i)) ∧ w.cell? ⟨b, 4, none⟩ = some (.int .i64 q.a.k) ∧ w.cell? ⟨b, 5, none⟩ = some (.string (ba q.a.t)) ∧ w.cell? ⟨b, 6, none⟩ = some (.string (ba q.a.i)) ∧ w.cell? ⟨b, 7, none⟩ = some (.int .i64 q.r.k) ∧ w.cell? ⟨b, 8, none⟩ = some (.string (ba q.r.t)) ∧ w.cell? ⟨b, 9, none⟩ = some (.string (ba q.r.i)) ∧ w.cell? ⟨b, 10, none⟩ = some lv ∧ ∀ o, w.frozen? ⟨b, o, none⟩ = false := by
  unfold polL at h
  exact ⟨by rw [Lib.cell_of_heap h]; rfl, by rw [Lib.cell_of_heap h]; rfl, by rw [Lib.cell_of_heap h]; rfl, by rw [Lib.cell_of_heap h]; rfl, by rw [Lib.cell_of_heap h]; rfl, by rw [Lib.cell_of_heap h]; rfl, by rw [Lib.cell_of_heap h]; rfl, by rw [Lib.cell_of_heap h]; rfl, by rw [Lib.cell_of_heap h]; rfl, by rw [Lib.cell_of_heap h]; rfl, by rw [Lib.cell_of_heap h]; rfl, fun o => Lib.frozen_of_heap h o⟩
set_option maxHeartbeats 8000000 in
set_option maxRecDepth 1000000 in
theorem policy5_any (kd : Int) (us l : List Int) (uo vo co : Option Addr) (uc vc cc : Nat) (cs : List Rw) (w : World) (hu : IntsAt w uo us) (hl1 : l.length ≤ 9223372036854775807) (hl2 : l.length ≤ vc) (hv : IntsAt w vo l) (hc1 : cs.length ≤ 9223372036854775807) (hks : IsRs w co 0 cs) :
    Calls Tryd.prog 13 #[.int .i64 kd, .slice uo us.length uc, .slice vo l.length vc, .slice co cs.length cc] w fun e w' => ∃ q : Pol, e = .returned q.val ∧ Below w.heap.size w w' ∧ PolIs w' q (kd.tmod 2 == 1) us l (condsX kd cs (min cs.length 4)) := by
  have b3 := newS w (.cells #[.bool false, .int .i64 0, .string ⟨#[]⟩, .string ⟨#[]⟩, .int .i64 0, .string ⟨#[]⟩, .string ⟨#[]⟩, .int .i64 0, .string ⟨#[]⟩, .string ⟨#[]⟩, .slice none 0 0] 40)
  obtain ⟨f, hf⟩ : ∃ f : Bool, f = (kd.tmod 2 == 1) := ⟨_, rfl⟩
  have INV : MI w (((w.alloc (.cells #[.bool false, .int .i64 0, .string ⟨#[]⟩, .string ⟨#[]⟩, .int .i64 0, .string ⟨#[]⟩, .string ⟨#[]⟩, .int .i64 0, .string ⟨#[]⟩, .string ⟨#[]⟩, .slice none 0 0] 40)).alloc (.cells #[.bool (kd.tmod 2 == 1), .int .i64 0, .string ⟨#[]⟩, .string ⟨#[]⟩, .int .i64 0, .string ⟨#[]⟩, .string ⟨#[]⟩, .int .i64 0, .string ⟨#[]⟩, .string ⟨#[]⟩, .slice none 0 0] 40)).alloc (.cells #[.pointer (some ⟨w.heap.size + 1, 1, none⟩), .pointer (some ⟨w.heap.size + 1, 4, none⟩), .pointer (some ⟨w.heap.size + 1, 7, none⟩)] 59)) (polI f us l 0) := by
    rw [hf]
    refine ⟨(b3.alloc b3.size _).alloc (b3.alloc b3.size _).size _, ?_, ?_, ?_⟩
    · exact kept_of_below (newS _ _) (kept_of_below (newS _ _) (alloc_heap _ _))
    · refine kept_of_below (newS _ _) ?_
      have h := alloc_heap (w.alloc (.cells #[.bool false, .int .i64 0, .string ⟨#[]⟩, .string ⟨#[]⟩, .int .i64 0, .string ⟨#[]⟩, .string ⟨#[]⟩, .int .i64 0, .string ⟨#[]⟩, .string ⟨#[]⟩, .slice none 0 0] 40)) (.cells #[.bool (kd.tmod 2 == 1), .int .i64 0, .string ⟨#[]⟩, .string ⟨#[]⟩, .int .i64 0, .string ⟨#[]⟩, .string ⟨#[]⟩, .int .i64 0, .string ⟨#[]⟩, .string ⟨#[]⟩, .slice none 0 0] 40)
      rw [show (w.alloc (.cells #[.bool false, .int .i64 0, .string ⟨#[]⟩, .string ⟨#[]⟩, .int .i64 0, .string ⟨#[]⟩, .string ⟨#[]⟩, .int .i64 0, .string ⟨#[]⟩, .string ⟨#[]⟩, .slice none 0 0] 40)).heap.size = w.heap.size + 1 by simp] at h
      exact h
    · generalize hw2 : (w.alloc (.cells #[.bool false, .int .i64 0, .string ⟨#[]⟩, .string ⟨#[]⟩, .int .i64 0, .string ⟨#[]⟩, .string ⟨#[]⟩, .int .i64 0, .string ⟨#[]⟩, .string ⟨#[]⟩, .slice none 0 0] 40)).alloc (.cells #[.bool (kd.tmod 2 == 1), .int .i64 0, .string ⟨#[]⟩, .string ⟨#[]⟩, .int .i64 0, .string ⟨#[]⟩, .string ⟨#[]⟩, .int .i64 0, .string ⟨#[]⟩, .string ⟨#[]⟩, .slice none 0 0] 40) = w2
      have h := alloc_heap w2 (.cells #[.pointer (some ⟨w.heap.size + 1, 1, none⟩), .pointer (some ⟨w.heap.size + 1, 4, none⟩), .pointer (some ⟨w.heap.size + 1, 7, none⟩)] 59)
      rw [show w2.heap.size = w.heap.size + 2 by rw [← hw2]; simp] at h
      exact h
  have W3 := fun (a : Int) w' => within5_any a 3 (by decide) (by decide) w'
  have W2 := fun (a : Int) w' => within5_any a 2 (by decide) (by decide) w'
  have HTr := hide (fun (x : Rw) (r : R4) (w' : World) (h : IsR w' r x) => tree5_any 10 x r w' (by decide) h)
  obtain ⟨N, hN⟩ : ∃ N : Nat, N = min cs.length 4 := ⟨_, rfl⟩
  rw [← hN]
  have HU := hide hu
  have HV := hide hv
  have HKS := hide hks
  have HF := hide hf
  clear hu hv hks b3 hf
  go_enter Tryd.func13, Tryd.ntmps13
  go_wp2_with fail
  generalize ((w.alloc _).alloc _).alloc _ = w3 at *
  go_loopw [11] (fun iv wr => ∃ i : Nat, i ≤ 3 ∧ iv = .int .i64 i ∧ MI w wr (polI f us l i)) (fun iv _ => 3 - (intOf iv).toNat)
  case atStart => exact ⟨0, by decide, rfl, INV⟩
  case round =>
    obtain ⟨i, hi, rfl, H⟩ := hrel
    by_cases hc : i < 3 ∧ i < us.length
    · obtain ⟨hi3, hiu⟩ := hc
      have i1 : (i : Int) < 3 := by omega
      have i2 : (i : Int) < (us.length : Int) := by omega
      obtain ⟨ub, uf, huo, hub, hcu⟩ := unhide HU i hiu
      have hUE := hide (show scAt us l i = scOf us[i] l by unfold scAt; rw [List.getElem?_eq_getElem hiu])
      generalize us[i] = u at *
      have HH := hide H
      have hstep := hide (polI_step f us l i hi3)
      subst huo
      clear H
      go_upto_region 6 with fail
      refine wp_specs_put 11 (sp6 w.heap.size i (.slice (some ⟨ub, uf, none⟩) us.length uc) ub uf u) (fun w' => Below wr.heap.size wr w') (by kernel_rfl) (by kernel_rfl) (Below.refl _ wr).drew ?_ ?_
      · intro k o hk ho a' w' hR hdep hslot K hK
        have HM := (unhide HH).move hR
        have hp := HM.ptr i hi3
        have hcu' := (HM.below.cell (p := ⟨ub, uf + i, none⟩) hub).trans hcu
        match k, hk with
        | 0, _ =>
          cases ho
          have e : a'.tmps.getD 10 undef = .slice (some ⟨w.heap.size + 2, 0, none⟩) 3 3 := hslot 10 (by decide)
          unfold Oper.wp
          go_simp
          exact hK _ _ rfl hR (fun _ _ h => h)
        | 1, _ =>
          cases ho
          have e : a'.tmps.getD 11 undef = .int .i64 i := hslot 11 (by decide)
          unfold Oper.wp
          go_simp
          exact hK _ _ rfl hR (fun _ _ h => h)
        | 2, _ =>
          cases ho
          have e1 : a'.tmps.getD 31 undef = .slice (some ⟨w.heap.size + 2, 0, none⟩) 3 3 := hdep 0 (by kernel_rfl)
          have e2 : a'.tmps.getD 32 undef = .int .i64 i := hdep 1 (by kernel_rfl)
          unfold Oper.wp
          go_simp
          exact hK _ _ rfl hR (fun _ _ h => h)
        | 3, _ =>
          cases ho
          have e : a'.tmps.getD 33 undef = .pointer (some ⟨w.heap.size + 2, i, none⟩) := hdep 2 (by kernel_rfl)
          unfold Oper.wp
          go_simp
          exact hK _ _ rfl hR (fun _ _ h => h)
        | 4, _ =>
          cases ho
          have e : a'.tmps.getD 1 undef = .slice (some ⟨ub, uf, none⟩) us.length uc := hslot 1 (by decide)
          unfold Oper.wp
          go_simp
          exact hK _ _ rfl hR (fun _ _ h => h)
        | 5, _ =>
          cases ho
          have e : a'.tmps.getD 11 undef = .int .i64 i := hslot 11 (by decide)
          unfold Oper.wp
          go_simp
          exact hK _ _ rfl hR (fun _ _ h => h)
        | 6, _ =>
          cases ho
          have e1 : a'.tmps.getD 35 undef = .slice (some ⟨ub, uf, none⟩) us.length uc := hdep 4 (by kernel_rfl)
          have e2 : a'.tmps.getD 36 undef = .int .i64 i := hdep 5 (by kernel_rfl)
          unfold Oper.wp
          go_simp
          exact hK _ _ rfl hR (fun _ _ h => h)
        | 7, _ =>
          cases ho
          have e : a'.tmps.getD 37 undef = .pointer (some ⟨ub, uf + i, none⟩) := hdep 6 (by kernel_rfl)
          unfold Oper.wp
          go_simp
          exact hK _ _ rfl hR (fun _ _ h => h)
        | 8, _ =>
          cases ho
          have e : a'.tmps.getD 38 undef = .int .i64 u := hdep 7 (by kernel_rfl)
          unfold Oper.wp
          go_simp
          refine (W3 u w').mono ?_
          rintro e w4 ⟨rfl, rfl⟩
          exact hK _ _ rfl hR (fun _ _ h => h)
        | 9, _ =>
          cases ho
          have e : a'.tmps.getD 34 undef = .pointer (some ⟨w.heap.size + 1, 1 + 3 * i, none⟩) := hdep 3 (by kernel_rfl)
          unfold Oper.wp
          go_simp
          exact hK _ _ rfl hR (fun _ _ h => h)
        | 10, _ =>
          cases ho
          have e : a'.tmps.getD 40 undef = .pointer (some ⟨w.heap.size + 1, 1 + 3 * i, none⟩) := hdep 9 (by kernel_rfl)
          unfold Oper.wp
          go_simp
          exact hK _ _ rfl hR (fun _ _ h => h)
      · intro v w4 hR hall
        have f0 : v 0 = _ := hall 0 (by decide)
        have f1 : v 1 = _ := hall 1 (by decide)
        have f2 : v 2 = _ := hall 2 (by decide)
        have f3 : v 3 = _ := hall 3 (by decide)
        have f4 : v 4 = _ := hall 4 (by decide)
        have f5 : v 5 = _ := hall 5 (by decide)
        have f6 : v 6 = _ := hall 6 (by decide)
        have f7 : v 7 = _ := hall 7 (by decide)
        have f8 : v 8 = _ := hall 8 (by decide)
        have f9 : v 9 = _ := hall 9 (by decide)
        have f10 : v 10 = _ := hall 10 (by decide)
        have HM := (unhide HH).move hR
        obtain ⟨k0, k1, k2, kf⟩ := HM.kd i hi3
        have HM5 := HM.kind i hi3 (u % 3)
        have hcu' := (HM.below.cell (p := ⟨ub, uf + i, none⟩) hub).trans hcu
        clear hall
        simp only [putAll, dstOf, List.getElem?_cons_zero, List.getElem?_cons_succ, Option.bind_some, List.drop_succ_cons, List.drop_zero, f0, f1, f2, f3, f4, f5, f6, f7, f8, f9, f10]
        clear f0 f1 f2 f3 f4 f5 f6 f7 f8 f9 f10
        simp only [Act.put, List.setIfInBounds_toArray, List.set_cons_succ, List.set_cons_zero]
        have HX := hide HM5
        clear HM HM5 hcu'
        go_upto_region 7 with fail
        generalize w4.setCell _ _ = w5 at *
        clear k0 k1 k2 kf
        obtain ⟨k0, k1, k2, kf⟩ := (unhide HX).kd i hi3
        have hp := (unhide HX).ptr i hi3
        rw [scK_set _ _ hi3] at k0 k1 k2
        dsimp only at k0 k1 k2
        rw [scK_polI f us l i hi3] at k1 k2
        by_cases h0 : u % 3 = 0
        · have h0' : (u % 3 == 0) = true := by simpa using h0
          have HF := hide (show MI w w5 (polI f us l (i + 1)) by
            have h := unhide HX
            rw [scK_polI f us l i hi3, h0] at h
            rw [← unhide hstep, unhide hUE]
            unfold scOf
            rw [if_pos h0]
            exact h)
          rw [h0] at k0
          clear h0 h0'
          go_wp2
          go_roundw
          case rel => exact ⟨i + 1, by omega, by go_num, unhide HF⟩
          case measure =>
            simp only [intOf]
            omega
        · have h0' : (u % 3 == 0) = false := by simpa using h0
          have UD := fun w' hz' => uid5_any (IntKind.i64.wrap (u.tdiv 3)) l vo vc w' hl1 hl2 hz'
          have HFin := hide (show ∀ wr, MI w wr (setSc (setSc (polI f us l i) i { scK (polI f us l i) i with k := u % 3 }) i { scK (setSc (polI f us l i) i { scK (polI f us l i) i with k := u % 3 }) i with t := tyI5 (IntKind.i64.wrap (u.tdiv 3)), i := idt5 l }) → MI w wr (polI f us l (i + 1)) by
            intro wr h
            rw [set_set _ _ hi3, scK_set _ _ hi3] at h
            rw [← unhide hstep, unhide hUE]
            unfold scOf
            rw [if_neg h0]
            exact h)
          obtain ⟨tt, htt⟩ : ∃ tt, tt = tyI5 (IntKind.i64.wrap (u.tdiv 3)) := ⟨_, rfl⟩
          obtain ⟨ii, hii⟩ : ∃ ii, ii = idt5 l := ⟨_, rfl⟩
          rw [← htt, ← hii] at UD HFin
          clear htt hii hUE
          go_upto_region 8 with fail
          refine wp_specs_put 13 (sp8 w.heap.size i (.slice (some ⟨ub, uf, none⟩) us.length uc) (.slice vo l.length vc) ub uf u (ba tt) (ba ii)) (fun w' => Below w5.heap.size w5 w') (by kernel_rfl) (by kernel_rfl) (Below.refl _ w5).drew ?_ ?_
          · intro k o hk ho a' w' hR hdep hslot K hK
            have HM := (unhide HX).move hR
            have hp := HM.ptr i hi3
            have hcu' := (HM.below.cell (p := ⟨ub, uf + i, none⟩) hub).trans hcu
            match k, hk with
            | 0, _ =>
              cases ho
              have e : a'.tmps.getD 10 undef = .slice (some ⟨w.heap.size + 2, 0, none⟩) 3 3 := hslot 10 (by decide)
              unfold Oper.wp
              go_simp
              exact hK _ _ rfl hR (fun _ _ h => h)
            | 1, _ =>
              cases ho
              have e : a'.tmps.getD 11 undef = .int .i64 i := hslot 11 (by decide)
              unfold Oper.wp
              go_simp
              exact hK _ _ rfl hR (fun _ _ h => h)
            | 2, _ =>
              cases ho
              have e1 : a'.tmps.getD 50 undef = .slice (some ⟨w.heap.size + 2, 0, none⟩) 3 3 := hdep 0 (by kernel_rfl)
              have e2 : a'.tmps.getD 51 undef = .int .i64 i := hdep 1 (by kernel_rfl)
              unfold Oper.wp
              go_simp
              exact hK _ _ rfl hR (fun _ _ h => h)
            | 3, _ =>
              cases ho
              have e : a'.tmps.getD 52 undef = .pointer (some ⟨w.heap.size + 2, i, none⟩) := hdep 2 (by kernel_rfl)
              unfold Oper.wp
              go_simp
              exact hK _ _ rfl hR (fun _ _ h => h)
            | 4, _ =>
              cases ho
              have e : a'.tmps.getD 1 undef = .slice (some ⟨ub, uf, none⟩) us.length uc := hslot 1 (by decide)
              unfold Oper.wp
              go_simp
              exact hK _ _ rfl hR (fun _ _ h => h)
            | 5, _ =>
              cases ho
              have e : a'.tmps.getD 11 undef = .int .i64 i := hslot 11 (by decide)
              unfold Oper.wp
              go_simp
              exact hK _ _ rfl hR (fun _ _ h => h)
            | 6, _ =>
              cases ho
              have e1 : a'.tmps.getD 54 undef = .slice (some ⟨ub, uf, none⟩) us.length uc := hdep 4 (by kernel_rfl)
              have e2 : a'.tmps.getD 55 undef = .int .i64 i := hdep 5 (by kernel_rfl)
              unfold Oper.wp
              go_simp
              exact hK _ _ rfl hR (fun _ _ h => h)
            | 7, _ =>
              cases ho
              have e : a'.tmps.getD 56 undef = .pointer (some ⟨ub, uf + i, none⟩) := hdep 6 (by kernel_rfl)
              unfold Oper.wp
              go_simp
              exact hK _ _ rfl hR (fun _ _ h => h)
            | 8, _ =>
              cases ho
              have e : a'.tmps.getD 57 undef = .int .i64 u := hdep 7 (by kernel_rfl)
              unfold Oper.wp
              go_simp
              exact hK _ _ rfl hR (fun _ _ h => h)
            | 9, _ =>
              cases ho
              have e : a'.tmps.getD 2 undef = .slice vo l.length vc := hslot 2 (by decide)
              unfold Oper.wp
              go_simp
              exact hK _ _ rfl hR (fun _ _ h => h)
            | 10, _ =>
              cases ho
              have e1 : a'.tmps.getD 58 undef = .int .i64 (IntKind.i64.wrap (u.tdiv 3)) := hdep 8 (by kernel_rfl)
              have e2 : a'.tmps.getD 59 undef = .slice vo l.length vc := hdep 9 (by kernel_rfl)
              have UD' := UD w' ((unhide HV).below HM.below)
              clear UD
              unfold Oper.wp
              go_simp
              refine UD'.mono ?_
              rintro e w6 ⟨rfl, b6⟩
              exact hK _ _ rfl (hR.trans (b6.mono hR.size)) sp8_up
            | 11, _ =>
              cases ho
              have e : a'.tmps.getD 53 undef = .pointer (some ⟨w.heap.size + 1, 1 + 3 * i, none⟩) := hdep 3 (by kernel_rfl)
              unfold Oper.wp
              go_simp
              exact hK _ _ rfl hR (fun _ _ h => h)
            | 12, _ =>
              cases ho
              have e : a'.tmps.getD 61 undef = .pointer (some ⟨w.heap.size + 1, 1 + 3 * i, none⟩) := hdep 11 (by kernel_rfl)
              unfold Oper.wp
              go_simp
              exact hK _ _ rfl hR (fun _ _ h => h)
          · intro v w6 hR hall
            have f0 : v 0 = _ := hall 0 (by decide)
            have f1 : v 1 = _ := hall 1 (by decide)
            have f2 : v 2 = _ := hall 2 (by decide)
            have f3 : v 3 = _ := hall 3 (by decide)
            have f4 : v 4 = _ := hall 4 (by decide)
            have f5 : v 5 = _ := hall 5 (by decide)
            have f6 : v 6 = _ := hall 6 (by decide)
            have f7 : v 7 = _ := hall 7 (by decide)
            have f8 : v 8 = _ := hall 8 (by decide)
            have f9 : v 9 = _ := hall 9 (by decide)
            have f10 : v 10 = _ := hall 10 (by decide)
            have f11 : v 11 = _ := hall 11 (by decide)
            have f12 : v 12 = _ := hall 12 (by decide)
            have HM := (unhide HX).move hR
            clear k0 k1 k2 kf
            obtain ⟨k0, k1, k2, kf⟩ := HM.kd i hi3
            have HM7 := unhide HFin _ (HM.uid i hi3 tt ii)
            have HX7 := hide HM7
            clear hall HM HM7 UD hp
            simp only [putAll, dstOf, List.getElem?_cons_zero, List.getElem?_cons_succ, Option.bind_some, List.drop_succ_cons, List.drop_zero, f0, f1, f2, f3, f4, f5, f6, f7, f8, f9, f10, f11, f12]
            clear f0 f1 f2 f3 f4 f5 f6 f7 f8 f9 f10 f11 f12
            simp only [Act.put, List.setIfInBounds_toArray, List.set_cons_succ, List.set_cons_zero]
            go_wp2
            go_roundw
            case rel => exact ⟨i + 1, by omega, by go_num, unhide HX7⟩
            case measure =>
              simp only [intOf]
              omega
    · by_cases h3 : i < 3
      · have h3' : (i : Int) < 3 := by omega
        have h4' : ¬ (i : Int) < (us.length : Int) := by omega
        have H3 := H
        rw [polI_end f us l i hc hi] at H3
        have INV2 : CInv w wr (polI f us l 3) (.slice none 0 0) (.slice none 0 0) [] [] := ⟨H3.below, H3.pa, H3.px, H3.pp, World.ownsRow_nil _ _ _ _, .nil⟩
        clear H H3
        obtain ⟨Q, hQ⟩ : ∃ Q, polI f us l 3 = Q := ⟨_, rfl⟩
        rw [hQ] at INV2
        have HQ := hide hQ
        clear hQ
        go_wp2_with fail
        go_loopw [12] (fun iv wr' => ∃ (j : Nat) (lv : Value) (rs : List (Bool × R7)), j ≤ N ∧ iv = .int .i64 j ∧ rs.length = j ∧ CInv w wr' Q lv lv rs (condsX kd cs j)) (fun iv _ => N - (intOf iv).toNat)
        case atStart => exact ⟨0, .slice none 0 0, [], Nat.zero_le _, rfl, rfl, INV2⟩
        case round =>
          obtain ⟨j, lv, rs, hj, rfl, hrs, H⟩ := hrel
          by_cases hlt : j < N
          · have j1 : (j : Int) < (cs.length : Int) := by omega
            have j2 : (j : Int) < 4 := by omega
            have hjc : j < cs.length := by omega
            obtain ⟨rk, cb, cf, hco, hcb, h7, hxk⟩ := IsRs.get cs 0 j hjc (unhide HKS)
            rw [Nat.zero_add] at h7
            have HKX := hide (condsX_succ kd cs j hjc)
            have CK := fun w' (hb : Below w.heap.size w w') => unhide HTr cs[j] rk w' (IsR.below hb rk _ hxk)
            generalize treeX 10 cs[j] = X at *
            generalize condsX kd cs j = xs at *
            obtain ⟨lao, lcap, hlv⟩ := ownC_slice H.own
            obtain ⟨i0, hinf, hz0, hz1, hz2⟩ := info_parts infoCond
            have HH := hide H
            have HCO := hide hco
            have HLV := hide hlv
            have hbase := H.base
            have hrl : rs.length ≤ 8 := by omega
            have HRS := hide hrs
            clear hco hlv hxk hrs H
            go_upto_region 12 with fail
            refine wp_specsB 16 (sp12 (w.heap.size + 1) j cb cf kd lv (.slice co cs.length cc) rk) (TC w wr Q lv rs xs (shX kd j % 2 == 1) X) (by kernel_rfl) (by kernel_rfl) (by kernel_rfl) (TC.start _) ?_ ?_ ?_
            · intro i o hi' ho L a' w' hL hw hR hdep hslot hsz K hK
              have hbw := hR.below (unhide HH)
              match i, hi' with
              | 0, _ =>
                cases ho
                have e : a'.tmps.getD 9 undef = .pointer (some ⟨w.heap.size + 1, 0, none⟩) := hslot 9 (by decide)
                unfold Oper.wp
                go_simp
                exact hK _ _ rfl (hR.other 0 73 _ (by decide) (by decide)) (fun _ _ h => h)
              | 1, _ =>
                cases ho
                have e : a'.tmps.getD 73 undef = .pointer (some ⟨w.heap.size + 1, 10, none⟩) := hdep 0 (by decide) (by kernel_rfl)
                have hp := hR.pre (hR.no.2.1 hL)
                have hpe := kept_of_below hp (unhide HH).pe
                obtain ⟨_, _, _, _, _, _, _, _, _, _, c10', _⟩ := blkL hpe
                unfold Oper.wp
                go_simp
                exact hK _ _ rfl (hR.other 1 74 _ (by decide) (by decide)) (fun _ _ h => h)
              | 2, _ =>
                cases ho
                have e : a'.tmps.getD 0 undef = .int .i64 kd := hslot 0 (by decide)
                unfold Oper.wp
                go_simp
                exact hK _ _ rfl (hR.other 2 75 _ (by decide) (by decide)) (fun _ _ h => h)
              | 3, _ =>
                cases ho
                have e : a'.tmps.getD 12 undef = .int .i64 j := hslot 12 (by decide)
                unfold Oper.wp
                go_simp
                exact hK _ _ rfl (hR.other 3 76 _ (by decide) (by decide)) (fun _ _ h => h)
              | 4, _ =>
                cases ho
                have e1 : a'.tmps.getD 75 undef = .int .i64 kd := hdep 2 (by decide) (by kernel_rfl)
                have e2 : a'.tmps.getD 76 undef = .int .i64 j := hdep 3 (by decide) (by kernel_rfl)
                unfold Oper.wp
                go_simp
                exact hK _ _ rfl (hR.other 4 77 _ (by decide) (by decide)) (fun _ _ h => h)
              | 5, _ =>
                cases ho
                have e : a'.tmps.getD 77 undef = .int .i64 (shX kd j) := hdep 4 (by decide) (by kernel_rfl)
                unfold Oper.wp
                go_simp
                refine (W2 _ w').mono ?_
                rintro e w6 ⟨rfl, rfl⟩
                exact hK _ _ rfl (hR.other 5 78 _ (by decide) (by decide)) (fun _ _ h => h)
              | 6, _ =>
                cases ho
                have e : a'.tmps.getD 78 undef = .int .i64 (shX kd j % 2) := hdep 5 (by decide) (by kernel_rfl)
                unfold Oper.wp
                go_simp
                exact hK _ _ rfl (hR.other 6 79 _ (by decide) (by decide)) (fun _ _ h => h)
              | 7, _ =>
                cases ho
                have e : a'.tmps.getD 3 undef = .slice co cs.length cc := hslot 3 (by decide)
                unfold Oper.wp
                go_simp
                exact hK _ _ rfl (hR.other 7 80 _ (by decide) (by decide)) (fun _ _ h => h)
              | 8, _ =>
                cases ho
                have e : a'.tmps.getD 12 undef = .int .i64 j := hslot 12 (by decide)
                unfold Oper.wp
                go_simp
                exact hK _ _ rfl (hR.other 8 81 _ (by decide) (by decide)) (fun _ _ h => h)
              | 9, _ =>
                cases ho
                have e2 : a'.tmps.getD 81 undef = .int .i64 j := hdep 8 (by decide) (by kernel_rfl)
                have e1 : a'.tmps.getD 80 undef = .slice (some ⟨cb, cf, none⟩) cs.length cc := by rw [← unhide HCO]; exact hdep 7 (by decide) (by kernel_rfl)
                unfold Oper.wp
                go_simp
                exact hK _ _ rfl (hR.other 9 82 _ (by decide) (by decide)) (fun _ _ h => h)
              | 10, _ =>
                cases ho
                have e : a'.tmps.getD 82 undef = .pointer (some ⟨cb, cf + j * 4, none⟩) := hdep 9 (by decide) (by kernel_rfl)
                obtain ⟨d0, d1, d2, d3⟩ := h7.below hbw hcb
                unfold Oper.wp
                go_simp
                exact hK _ _ rfl (hR.other 10 83 _ (by decide) (by decide)) (fun _ _ h => h)
              | 11, _ =>
                cases ho
                have e1 : a'.tmps.getD 83 undef = rk.val := hdep 10 (by decide) (by kernel_rfl)
                have C := CK w' hbw
                unfold R4.val at e1 C
                clear CK
                unfold Oper.wp
                go_simp
                refine C.mono ?_
                rintro e w6 ⟨q, rfl, b6, hq⟩
                exact hK _ _ trivial (hR.call hL (by rw [hsz]; exact Nat.le_of_ble_eq_true (by kernel_rfl)) b6 hq) sp12_up
              | 12, _ =>
                cases ho
                have h11 : L 11 = true := hw 11 (by kernel_rfl)
                obtain ⟨q, e1, hq⟩ := hR.k11 h11 (hR.no.2.2.1 (hR.no.2.2.2.1 hL))
                have e2 : a'.tmps.getD 79 undef = .bool (shX kd j % 2 == 1) := hdep 6 (by decide) (by kernel_rfl)
                have B12 := hR.pair hL h11 (by rw [hsz]; exact Nat.le_of_ble_eq_true (by kernel_rfl)) e1 hq
                unfold R7.val at e1
                unfold cdV at B12
                have e1' : a'.tmps[84]?.getD undef = .agg #[.int .i64 q.k, .bool q.b, .int .i64 q.n, .string q.s, .string q.t, .string q.i, .slice q.lo q.ll q.lc] := by simpa using e1
                have e2' : a'.tmps[79]?.getD undef = .bool (shX kd j % 2 == 1) := by simpa using e2
                have HB := hide B12
                clear B12 hq hsz
                generalize (shX kd j % 2 == 1) = u at *
                unfold Oper.wp
                go_simp
                exact hK _ _ trivial (unhide HB) sp12_up
              | 13, _ =>
                cases ho
                have h12 : L 12 = true := hw 12 (by kernel_rfl)
                obtain ⟨q, e1, hq⟩ := hR.k12 h12 (hR.no.2.2.1 hL)
                have B13 := hR.build hL h12 (by rw [hsz]; exact Nat.le_of_ble_eq_true (by kernel_rfl)) e1 hq
                unfold cdV at e1
                unfold cdC at B13
                have e1' : a'.tmps[85]?.getD undef = .agg #[.bool (shX kd j % 2 == 1), .int .i64 q.k, .bool q.b, .int .i64 q.n, .string q.s, .string q.t, .string q.i, .slice q.lo q.ll q.lc] := by simpa using e1
                have HB := hide B13
                clear B13 hq hsz
                generalize (shX kd j % 2 == 1) = u at *
                unfold Oper.wp
                go_simp
                exact hK _ _ trivial (unhide HB) sp12_up
              | 14, _ =>
                cases ho
                have h13 : L 13 = true := hw 13 (by kernel_rfl)
                have h1 : L 1 = true := hw 1 (by kernel_rfl)
                obtain ⟨q, blk, e1, hblk, hc, hq⟩ := hR.k13 h13 hL
                have e2 : a'.tmps.getD 74 undef = lv := hdep 1 (by decide) (by kernel_rfl)
                have hp := hR.pre hL
                have hcell : ∀ jj u, (cd8 (shX kd j % 2 == 1, q))[jj]? = some u → w'.cell? ((⟨blk, 0, none⟩ : Addr).add jj) = some u := by
                  intro jj u hu
                  rw [Addr.add_lit, Nat.zero_add, Lib.cell_of_heap hc]
                  simpa [cd8, cdC, R7.cells] using hu
                obtain ⟨v', w'', hr, hown', hgr, _, hat⟩ := run_append_own_at (P := Tryd.prog) w' (w.heap.size + 3) 38 38 63 i0 _ 8 104 Tryd.underlying38 hinf hz0 hz1 hz2 rfl (by decide) lv rs.length (cellsC rs) (owns_below hp (unhide HH).own) ⟨blk, 0, none⟩ 1 1 (cd8 (shX kd j % 2 == 1, q)) rfl hcell (cellC_one _) (by unfold maxLen; omega) (by omega) (by have := hp.size; omega)
                have hs : a'.eval (.tmp 74) = lv := e2
                have hx : a'.eval (.tmp 86) = .slice (some ⟨blk, 0, none⟩) 1 1 := e1
                unfold Oper.wp execOp
                simp only [resolve, invoke, builtin, Sem.run_bind, Sem.run_pure, Result.andThen_ok, List.map_toArray, List.map_cons, List.map_nil, hs, hx, hr]
                exact hK _ _ trivial (hR.app (unhide HH) hL h13 h1 (by rw [hsz]; exact Nat.le_of_ble_eq_true (by kernel_rfl)) hq hown' hgr hat) sp12_up
              | 15, _ =>
                cases ho
                have e : a'.tmps.getD 9 undef = .pointer (some ⟨w.heap.size + 1, 0, none⟩) := hslot 9 (by decide)
                unfold Oper.wp
                go_simp
                exact hK _ _ rfl (hR.other 15 88 _ (by decide) (by decide)) (fun _ _ h => h)
              | i + 16, h => exact absurd h (by omega)
            · intro i o hi' ho L a' w' hL hw hR hdep K hK
              have : i = 16 := by
                have h := (List.getElem?_eq_some_iff.1 ho).1
                simp only [List.length_cons, List.length_nil] at h
                omega
              subst this
              cases ho
              have h14 : L 14 = true := hw 14 (by kernel_rfl)
              obtain ⟨v', q, e1, hi2⟩ := hR.k14 h14 hL
              have e2 : a'.tmps.getD 88 undef = .pointer (some ⟨w.heap.size + 1, 10, none⟩) := hdep 15 (by decide) (by kernel_rfl)
              have hST := hide (hR.store h14 hL e1)
              obtain ⟨_, _, _, _, _, _, _, _, _, _, c10', cf'⟩ := blkL hi2.pe
              obtain ⟨ao', cap', hv0⟩ := ownC_slice hi2.own
              have hv' : v' = .slice ao' (rs.length + 1) cap' := by rw [hv0, List.length_append]; rfl
              clear hv0
              subst hv'
              unfold Oper.wp
              go_simp
              exact hK _ (unhide hST) sp12_up undef
            · intro v L w6 hall hR hsp
              obtain ⟨v', q, hinv⟩ := hR.k16 (hall 16 (by decide))
              have HV2 := hide hinv
              have e0 : v 0 = _ := hsp 0 (by decide)
              have e1 : v 1 = _ := hsp 1 (by decide)
              have e2 : v 2 = _ := hsp 2 (by decide)
              have e3 : v 3 = _ := hsp 3 (by decide)
              have e4 : v 4 = _ := hsp 4 (by decide)
              have e5 : v 5 = _ := hsp 5 (by decide)
              have e6 : v 6 = _ := hsp 6 (by decide)
              have e7 : v 7 = _ := hsp 7 (by decide)
              have e8 : v 8 = _ := hsp 8 (by decide)
              have e9 : v 9 = _ := hsp 9 (by decide)
              have e10 : v 10 = _ := hsp 10 (by decide)
              have e15 : v 15 = _ := hsp 15 (by decide)
              clear hR hall hsp hinv CK
              simp only [putAll, dstOf, List.getElem?_cons_zero, List.getElem?_cons_succ, Option.bind_some, e0, e1, e2, e3, e4, e5, e6, e7, e8, e9, e10, e15]
              clear e0 e1 e2 e3 e4 e5 e6 e7 e8 e9 e10 e15
              simp only [Act.put, List.setIfInBounds_toArray, List.set_cons_succ, List.set_cons_zero]
              generalize v 11 = v11
              generalize v 12 = v12
              generalize v 13 = v13
              generalize v 14 = v14
              go_wp2
              go_roundw
              case rel => exact ⟨j + 1, v', rs ++ [(_, q)], hlt, by go_num, by rw [List.length_append, unhide HRS]; rfl, by rw [unhide HKX]; exact unhide HV2⟩
              case measure =>
                simp only [intOf]
                omega
          · obtain rfl : j = N := by omega
            have hpe := H.pe
            have hpr := H.pr
            unfold polZ polO Pol.cells at hpr
            have hjn := hide (show j = min cs.length 4 from hN)
            obtain ⟨y0, y1, y2, y3, y4, y5, y6, y7, y8, y9, y10, _⟩ := blkL hpe
            obtain ⟨z0, z1, z2, z3, z4, z5, z6, z7, z8, z9, z10, zf⟩ := blk11 (q := ⟨false, scZ, scZ, scZ, none, 0, 0⟩) H.pr
            dsimp only at z0 z1 z2 z3 z4 z5 z6 z7 z8 z9 z10
            rw [← unhide HQ] at H
            obtain ⟨lo', cap', hlv, _⟩ := polEnd H undef undef undef undef undef undef undef undef undef undef undef
            have HE := hide (fun v0 v1 v2 v3 v4 v5 v6 v7 v8 v9 v10 => polEnd H v0 v1 v2 v3 v4 v5 v6 v7 v8 v9 v10)
            have hbl := H.below
            rw [hrs] at hlv
            subst hlv
            clear hpe hpr H hN
            by_cases hj4 : j < cs.length
            · have j1 : (j : Int) < (cs.length : Int) := by omega
              have j2 : ¬ (j : Int) < 4 := by have := unhide hjn; omega
              clear hj4
              go_wp2
              exact bodyPost_ret (v := Pol.val ⟨Q.f, Q.p, Q.a, Q.r, lo', j, cap'⟩) (by simp [results, Tryd.results13, go_sem, z0, z1, z2, z3, z4, z5, z6, z7, z8, z9, z10, Pol.val]) rfl ⟨_, rfl, set11S_below hbl (Nat.le_refl _) _ _ _ _ _ _ _ _ _ _ _, by
                obtain ⟨g', cap'', e, hI⟩ := unhide HE _ _ _ _ _ _ _ _ _ _ _
                rw [hrs] at e hI
                cases e
                rw [← unhide HF, ← unhide HQ]
                exact hI⟩
            · have j1 : ¬ (j : Int) < (cs.length : Int) := by omega
              clear hj4
              go_wp2
              exact bodyPost_ret (v := Pol.val ⟨Q.f, Q.p, Q.a, Q.r, lo', j, cap'⟩) (by simp [results, Tryd.results13, go_sem, z0, z1, z2, z3, z4, z5, z6, z7, z8, z9, z10, Pol.val]) rfl ⟨_, rfl, set11S_below hbl (Nat.le_refl _) _ _ _ _ _ _ _ _ _ _ _, by
                obtain ⟨g', cap'', e, hI⟩ := unhide HE _ _ _ _ _ _ _ _ _ _ _
                rw [hrs] at e hI
                cases e
                rw [← unhide HF, ← unhide HQ]
                exact hI⟩
      · have h3' : ¬ (i : Int) < 3 := by omega
        have H3 := H
        rw [polI_end f us l i (fun h => h3 h.1) hi] at H3
        have INV2 : CInv w wr (polI f us l 3) (.slice none 0 0) (.slice none 0 0) [] [] := ⟨H3.below, H3.pa, H3.px, H3.pp, World.ownsRow_nil _ _ _ _, .nil⟩
        clear H H3
        obtain ⟨Q, hQ⟩ : ∃ Q, polI f us l 3 = Q := ⟨_, rfl⟩
        rw [hQ] at INV2
        have HQ := hide hQ
        clear hQ
        go_wp2_with fail
        go_loopw [12] (fun iv wr' => ∃ (j : Nat) (lv : Value) (rs : List (Bool × R7)), j ≤ N ∧ iv = .int .i64 j ∧ rs.length = j ∧ CInv w wr' Q lv lv rs (condsX kd cs j)) (fun iv _ => N - (intOf iv).toNat)
        case atStart => exact ⟨0, .slice none 0 0, [], Nat.zero_le _, rfl, rfl, INV2⟩
        case round =>
          obtain ⟨j, lv, rs, hj, rfl, hrs, H⟩ := hrel
          by_cases hlt : j < N
          · have j1 : (j : Int) < (cs.length : Int) := by omega
            have j2 : (j : Int) < 4 := by omega
            have hjc : j < cs.length := by omega
            obtain ⟨rk, cb, cf, hco, hcb, h7, hxk⟩ := IsRs.get cs 0 j hjc (unhide HKS)
            rw [Nat.zero_add] at h7
            have HKX := hide (condsX_succ kd cs j hjc)
            have CK := fun w' (hb : Below w.heap.size w w') => unhide HTr cs[j] rk w' (IsR.below hb rk _ hxk)
            generalize treeX 10 cs[j] = X at *
            generalize condsX kd cs j = xs at *
            obtain ⟨lao, lcap, hlv⟩ := ownC_slice H.own
            obtain ⟨i0, hinf, hz0, hz1, hz2⟩ := info_parts infoCond
            have HH := hide H
            have HCO := hide hco
            have HLV := hide hlv
            have hbase := H.base
            have hrl : rs.length ≤ 8 := by omega
            have HRS := hide hrs
            clear hco hlv hxk hrs H
            go_upto_region 12 with fail
            refine wp_specsB 16 (sp12 (w.heap.size + 1) j cb cf kd lv (.slice co cs.length cc) rk) (TC w wr Q lv rs xs (shX kd j % 2 == 1) X) (by kernel_rfl) (by kernel_rfl) (by kernel_rfl) (TC.start _) ?_ ?_ ?_
            · intro i o hi' ho L a' w' hL hw hR hdep hslot hsz K hK
              have hbw := hR.below (unhide HH)
              match i, hi' with
              | 0, _ =>
                cases ho
                have e : a'.tmps.getD 9 undef = .pointer (some ⟨w.heap.size + 1, 0, none⟩) := hslot 9 (by decide)
                unfold Oper.wp
                go_simp
                exact hK _ _ rfl (hR.other 0 73 _ (by decide) (by decide)) (fun _ _ h => h)
              | 1, _ =>
                cases ho
                have e : a'.tmps.getD 73 undef = .pointer (some ⟨w.heap.size + 1, 10, none⟩) := hdep 0 (by decide) (by kernel_rfl)
                have hp := hR.pre (hR.no.2.1 hL)
                have hpe := kept_of_below hp (unhide HH).pe
                obtain ⟨_, _, _, _, _, _, _, _, _, _, c10', _⟩ := blkL hpe
                unfold Oper.wp
                go_simp
                exact hK _ _ rfl (hR.other 1 74 _ (by decide) (by decide)) (fun _ _ h => h)
              | 2, _ =>
                cases ho
                have e : a'.tmps.getD 0 undef = .int .i64 kd := hslot 0 (by decide)
                unfold Oper.wp
                go_simp
                exact hK _ _ rfl (hR.other 2 75 _ (by decide) (by decide)) (fun _ _ h => h)
              | 3, _ =>
                cases ho
                have e : a'.tmps.getD 12 undef = .int .i64 j := hslot 12 (by decide)
                unfold Oper.wp
                go_simp
                exact hK _ _ rfl (hR.other 3 76 _ (by decide) (by decide)) (fun _ _ h => h)
              | 4, _ =>
                cases ho
                have e1 : a'.tmps.getD 75 undef = .int .i64 kd := hdep 2 (by decide) (by kernel_rfl)
                have e2 : a'.tmps.getD 76 undef = .int .i64 j := hdep 3 (by decide) (by kernel_rfl)
                unfold Oper.wp
                go_simp
                exact hK _ _ rfl (hR.other 4 77 _ (by decide) (by decide)) (fun _ _ h => h)
              | 5, _ =>
                cases ho
                have e : a'.tmps.getD 77 undef = .int .i64 (shX kd j) := hdep 4 (by decide) (by kernel_rfl)
                unfold Oper.wp
                go_simp
                refine (W2 _ w').mono ?_
                rintro e w6 ⟨rfl, rfl⟩
                exact hK _ _ rfl (hR.other 5 78 _ (by decide) (by decide)) (fun _ _ h => h)
              | 6, _ =>
                cases ho
                have e : a'.tmps.getD 78 undef = .int .i64 (shX kd j % 2) := hdep 5 (by decide) (by kernel_rfl)
                unfold Oper.wp
                go_simp
                exact hK _ _ rfl (hR.other 6 79 _ (by decide) (by decide)) (fun _ _ h => h)
              | 7, _ =>
                cases ho
                have e : a'.tmps.getD 3 undef = .slice co cs.length cc := hslot 3 (by decide)
                unfold Oper.wp
                go_simp
                exact hK _ _ rfl (hR.other 7 80 _ (by decide) (by decide)) (fun _ _ h => h)
              | 8, _ =>
                cases ho
                have e : a'.tmps.getD 12 undef = .int .i64 j := hslot 12 (by decide)
                unfold Oper.wp
                go_simp
                exact hK _ _ rfl (hR.other 8 81 _ (by decide) (by decide)) (fun _ _ h => h)
              | 9, _ =>
                cases ho
                have e2 : a'.tmps.getD 81 undef = .int .i64 j := hdep 8 (by decide) (by kernel_rfl)
                have e1 : a'.tmps.getD 80 undef = .slice (some ⟨cb, cf, none⟩) cs.length cc := by rw [← unhide HCO]; exact hdep 7 (by decide) (by kernel_rfl)
                unfold Oper.wp
                go_simp
                exact hK _ _ rfl (hR.other 9 82 _ (by decide) (by decide)) (fun _ _ h => h)
              | 10, _ =>
                cases ho
                have e : a'.tmps.getD 82 undef = .pointer (some ⟨cb, cf + j * 4, none⟩) := hdep 9 (by decide) (by kernel_rfl)
                obtain ⟨d0, d1, d2, d3⟩ := h7.below hbw hcb
                unfold Oper.wp
                go_simp
                exact hK _ _ rfl (hR.other 10 83 _ (by decide) (by decide)) (fun _ _ h => h)
              | 11, _ =>
                cases ho
                have e1 : a'.tmps.getD 83 undef = rk.val := hdep 10 (by decide) (by kernel_rfl)
                have C := CK w' hbw
                unfold R4.val at e1 C
                clear CK
                unfold Oper.wp
                go_simp
                refine C.mono ?_
                rintro e w6 ⟨q, rfl, b6, hq⟩
                exact hK _ _ trivial (hR.call hL (by rw [hsz]; exact Nat.le_of_ble_eq_true (by kernel_rfl)) b6 hq) sp12_up
              | 12, _ =>
                cases ho
                have h11 : L 11 = true := hw 11 (by kernel_rfl)
                obtain ⟨q, e1, hq⟩ := hR.k11 h11 (hR.no.2.2.1 (hR.no.2.2.2.1 hL))
                have e2 : a'.tmps.getD 79 undef = .bool (shX kd j % 2 == 1) := hdep 6 (by decide) (by kernel_rfl)
                have B12 := hR.pair hL h11 (by rw [hsz]; exact Nat.le_of_ble_eq_true (by kernel_rfl)) e1 hq
                unfold R7.val at e1
                unfold cdV at B12
                have e1' : a'.tmps[84]?.getD undef = .agg #[.int .i64 q.k, .bool q.b, .int .i64 q.n, .string q.s, .string q.t, .string q.i, .slice q.lo q.ll q.lc] := by simpa using e1
                have e2' : a'.tmps[79]?.getD undef = .bool (shX kd j % 2 == 1) := by simpa using e2
                have HB := hide B12
                clear B12 hq hsz
                generalize (shX kd j % 2 == 1) = u at *
                unfold Oper.wp
                go_simp
                exact hK _ _ trivial (unhide HB) sp12_up
              | 13, _ =>
                cases ho
                have h12 : L 12 = true := hw 12 (by kernel_rfl)
                obtain ⟨q, e1, hq⟩ := hR.k12 h12 (hR.no.2.2.1 hL)
                have B13 := hR.build hL h12 (by rw [hsz]; exact Nat.le_of_ble_eq_true (by kernel_rfl)) e1 hq
                unfold cdV at e1
                unfold cdC at B13
                have e1' : a'.tmps[85]?.getD undef = .agg #[.bool (shX kd j % 2 == 1), .int .i64 q.k, .bool q.b, .int .i64 q.n, .string q.s, .string q.t, .string q.i, .slice q.lo q.ll q.lc] := by simpa using e1
                have HB := hide B13
                clear B13 hq hsz
                generalize (shX kd j % 2 == 1) = u at *
                unfold Oper.wp
                go_simp
                exact hK _ _ trivial (unhide HB) sp12_up
              | 14, _ =>
                cases ho
                have h13 : L 13 = true := hw 13 (by kernel_rfl)
                have h1 : L 1 = true := hw 1 (by kernel_rfl)
                obtain ⟨q, blk, e1, hblk, hc, hq⟩ := hR.k13 h13 hL
                have e2 : a'.tmps.getD 74 undef = lv := hdep 1 (by decide) (by kernel_rfl)
                have hp := hR.pre hL
                have hcell : ∀ jj u, (cd8 (shX kd j % 2 == 1, q))[jj]? = some u → w'.cell? ((⟨blk, 0, none⟩ : Addr).add jj) = some u := by
                  intro jj u hu
                  rw [Addr.add_lit, Nat.zero_add, Lib.cell_of_heap hc]
                  simpa [cd8, cdC, R7.cells] using hu
                obtain ⟨v', w'', hr, hown', hgr, _, hat⟩ := run_append_own_at (P := Tryd.prog) w' (w.heap.size + 3) 38 38 63 i0 _ 8 104 Tryd.underlying38 hinf hz0 hz1 hz2 rfl (by decide) lv rs.length (cellsC rs) (owns_below hp (unhide HH).own) ⟨blk, 0, none⟩ 1 1 (cd8 (shX kd j % 2 == 1, q)) rfl hcell (cellC_one _) (by unfold maxLen; omega) (by omega) (by have := hp.size; omega)
                have hs : a'.eval (.tmp 74) = lv := e2
                have hx : a'.eval (.tmp 86) = .slice (some ⟨blk, 0, none⟩) 1 1 := e1
                unfold Oper.wp execOp
                simp only [resolve, invoke, builtin, Sem.run_bind, Sem.run_pure, Result.andThen_ok, List.map_toArray, List.map_cons, List.map_nil, hs, hx, hr]
                exact hK _ _ trivial (hR.app (unhide HH) hL h13 h1 (by rw [hsz]; exact Nat.le_of_ble_eq_true (by kernel_rfl)) hq hown' hgr hat) sp12_up
              | 15, _ =>
                cases ho
                have e : a'.tmps.getD 9 undef = .pointer (some ⟨w.heap.size + 1, 0, none⟩) := hslot 9 (by decide)
                unfold Oper.wp
                go_simp
                exact hK _ _ rfl (hR.other 15 88 _ (by decide) (by decide)) (fun _ _ h => h)
              | i + 16, h => exact absurd h (by omega)
            · intro i o hi' ho L a' w' hL hw hR hdep K hK
              have : i = 16 := by
                have h := (List.getElem?_eq_some_iff.1 ho).1
                simp only [List.length_cons, List.length_nil] at h
                omega
              subst this
              cases ho
              have h14 : L 14 = true := hw 14 (by kernel_rfl)
              obtain ⟨v', q, e1, hi2⟩ := hR.k14 h14 hL
              have e2 : a'.tmps.getD 88 undef = .pointer (some ⟨w.heap.size + 1, 10, none⟩) := hdep 15 (by decide) (by kernel_rfl)
              have hST := hide (hR.store h14 hL e1)
              obtain ⟨_, _, _, _, _, _, _, _, _, _, c10', cf'⟩ := blkL hi2.pe
              obtain ⟨ao', cap', hv0⟩ := ownC_slice hi2.own
              have hv' : v' = .slice ao' (rs.length + 1) cap' := by rw [hv0, List.length_append]; rfl
              clear hv0
              subst hv'
              unfold Oper.wp
              go_simp
              exact hK _ (unhide hST) sp12_up undef
            · intro v L w6 hall hR hsp
              obtain ⟨v', q, hinv⟩ := hR.k16 (hall 16 (by decide))
              have HV2 := hide hinv
              have e0 : v 0 = _ := hsp 0 (by decide)
              have e1 : v 1 = _ := hsp 1 (by decide)
              have e2 : v 2 = _ := hsp 2 (by decide)
              have e3 : v 3 = _ := hsp 3 (by decide)
              have e4 : v 4 = _ := hsp 4 (by decide)
              have e5 : v 5 = _ := hsp 5 (by decide)
              have e6 : v 6 = _ := hsp 6 (by decide)
              have e7 : v 7 = _ := hsp 7 (by decide)
              have e8 : v 8 = _ := hsp 8 (by decide)
              have e9 : v 9 = _ := hsp 9 (by decide)
              have e10 : v 10 = _ := hsp 10 (by decide)
              have e15 : v 15 = _ := hsp 15 (by decide)
              clear hR hall hsp hinv CK
              simp only [putAll, dstOf, List.getElem?_cons_zero, List.getElem?_cons_succ, Option.bind_some, e0, e1, e2, e3, e4, e5, e6, e7, e8, e9, e10, e15]
              clear e0 e1 e2 e3 e4 e5 e6 e7 e8 e9 e10 e15
              simp only [Act.put, List.setIfInBounds_toArray, List.set_cons_succ, List.set_cons_zero]
              generalize v 11 = v11
              generalize v 12 = v12
              generalize v 13 = v13
              generalize v 14 = v14
              go_wp2
              go_roundw
              case rel => exact ⟨j + 1, v', rs ++ [(_, q)], hlt, by go_num, by rw [List.length_append, unhide HRS]; rfl, by rw [unhide HKX]; exact unhide HV2⟩
              case measure =>
                simp only [intOf]
                omega
          · obtain rfl : j = N := by omega
            have hpe := H.pe
            have hpr := H.pr
            unfold polZ polO Pol.cells at hpr
            have hjn := hide (show j = min cs.length 4 from hN)
            obtain ⟨y0, y1, y2, y3, y4, y5, y6, y7, y8, y9, y10, _⟩ := blkL hpe
            obtain ⟨z0, z1, z2, z3, z4, z5, z6, z7, z8, z9, z10, zf⟩ := blk11 (q := ⟨false, scZ, scZ, scZ, none, 0, 0⟩) H.pr
            dsimp only at z0 z1 z2 z3 z4 z5 z6 z7 z8 z9 z10
            rw [← unhide HQ] at H
            obtain ⟨lo', cap', hlv, _⟩ := polEnd H undef undef undef undef undef undef undef undef undef undef undef
            have HE := hide (fun v0 v1 v2 v3 v4 v5 v6 v7 v8 v9 v10 => polEnd H v0 v1 v2 v3 v4 v5 v6 v7 v8 v9 v10)
            have hbl := H.below
            rw [hrs] at hlv
            subst hlv
            clear hpe hpr H hN
            by_cases hj4 : j < cs.length
            · have j1 : (j : Int) < (cs.length : Int) := by omega
              have j2 : ¬ (j : Int) < 4 := by have := unhide hjn; omega
              clear hj4
              go_wp2
              exact bodyPost_ret (v := Pol.val ⟨Q.f, Q.p, Q.a, Q.r, lo', j, cap'⟩) (by simp [results, Tryd.results13, go_sem, z0, z1, z2, z3, z4, z5, z6, z7, z8, z9, z10, Pol.val]) rfl ⟨_, rfl, set11S_below hbl (Nat.le_refl _) _ _ _ _ _ _ _ _ _ _ _, by
                obtain ⟨g', cap'', e, hI⟩ := unhide HE _ _ _ _ _ _ _ _ _ _ _
                rw [hrs] at e hI
                cases e
                rw [← unhide HF, ← unhide HQ]
                exact hI⟩
            · have j1 : ¬ (j : Int) < (cs.length : Int) := by omega
              clear hj4
              go_wp2
              exact bodyPost_ret (v := Pol.val ⟨Q.f, Q.p, Q.a, Q.r, lo', j, cap'⟩) (by simp [results, Tryd.results13, go_sem, z0, z1, z2, z3, z4, z5, z6, z7, z8, z9, z10, Pol.val]) rfl ⟨_, rfl, set11S_below hbl (Nat.le_refl _) _ _ _ _ _ _ _ _ _ _ _, by
                obtain ⟨g', cap'', e, hI⟩ := unhide HE _ _ _ _ _ _ _ _ _ _ _
                rw [hrs] at e hI
                cases e
                rw [← unhide HF, ← unhide HQ]
                exact hI⟩
end Go.Proofs.YtpblalklenebhaaDoor

namespace Go.Proofs.YtpblalklenebhaaDoor
open Go.RowKit Go.Sort Go.ChangeShapes Go.WideShapes Go.ChangeAt

set_option maxRecDepth 100000 in
theorem open_ints6 {H : Type} {enc : TypeId × Value → H} {W : World} {b0 : Nat} {v : Value} {d : DataW H} {ps : List MemPlace}
    (hv : Value.okWide Tryd.prog W .any b0 22 v) (hd : DataW.Trod enc Tryd.prog W 0 (fun _ => true) true 22 v d ps) :
    ∃ (ao : Option Addr) (xs : List Int) (cap : Nat), v = .slice ao xs.length cap ∧ xs.length ≤ 9223372036854775807 ∧ xs.length ≤ cap ∧ IntsAt W ao xs := by
  obtain ⟨a0, len, cap, rfl⟩ := okWide_slice Tryd.underlying22 hv
  obtain ⟨fuel, hf⟩ := hd
  exact open_ints5 hf
set_option maxRecDepth 100000 in
theorem open_raws6 {H : Type} {enc : TypeId × Value → H} {W : World} {b0 : Nat} {v : Value} {d : DataW H} {ps : List MemPlace}
    (hv : Value.okWide Tryd.prog W .any b0 23 v) (hd : DataW.Trod enc Tryd.prog W 0 (fun _ => true) true 23 v d ps) :
    ∃ (lo : Option Addr) (l : List Rw) (lc : Nat), v = .slice lo l.length lc ∧ l.length ≤ 9223372036854775807 ∧ IsRs W lo 0 l := by
  obtain ⟨a0, len, cap, rfl⟩ := okWide_slice Tryd.underlying23 hv
  obtain ⟨fuel, hf⟩ := hd
  exact (raw5_all (SizeOf.sizeOf d + 1)).2 (x := (d, ps)) (Nat.lt_succ_self _) hf

theorem bdTen : bd 10 ≤ 10000000000000 := by decide
theorem condsX_at (kd : Int) (cs : List Rw) (n j : Nat) (hj : j < (condsX kd cs n).length) : ∃ y, (condsX kd cs n)[j].2 = treeX 10 y := by
  exact ⟨cs.getD j (.mk 0 0 [] []), by simp [condsX]⟩
theorem flat_len : ∀ (l : List (Bool × Ex)) (B : Nat), (∀ x ∈ l, (showE x.2).length ≤ B) → (cdsT l).length ≤ l.length * (B + 20)
  | [], B, _ => by simp [cdsT]
  | x :: l, B, h => by
    have h1 := flat_len l B fun y hy => h y (by simp [hy])
    have h2 := h x (by simp)
    have h3 : (cdT x).length ≤ (showE x.2).length + 20 := by
      unfold cdT
      split <;> simp <;> omega
    unfold cdsT at h1 ⊢
    simp only [List.flatMap_cons, List.length_append, List.length_cons]
    rw [Nat.add_mul]
    omega
theorem condsX_small (kd : Int) (cs : List Rw) (n : Nat) (hn : n ≤ 4) : (joinS [] (cdTs (condsX kd cs n))).length ≤ 100000000000000 := by
  rw [cdsT_join]
  have h := flat_len (condsX kd cs n) 10000000000000 fun x hx => by
    unfold condsX at hx
    obtain ⟨i, _, rfl⟩ := List.mem_map.1 hx
    exact Nat.le_trans (tree_len 10 _) (by decide)
  rw [condsX_len] at h
  have : n * (10000000000000 + 20) ≤ 4 * (10000000000000 + 20) := Nat.mul_le_mul_right _ hn
  omega

set_option maxHeartbeats 8000000 in
set_option maxRecDepth 1000000 in
theorem policies_walk (kd : Int) (us l : List Int) (uo vo co : Option Addr) (uc vc cc : Nat) (cs : List Rw) (w : World) (hT : Tab6 w) (hu : IntsAt w uo us) (hl1 : l.length ≤ 9223372036854775807) (hl2 : l.length ≤ vc) (hv : IntsAt w vo l) (hc1 : cs.length ≤ 9223372036854775807) (hks : IsRs w co 0 cs) :
    Calls Tryd.prog 4 #[.int .i64 kd, .slice uo us.length uc, .slice vo l.length vc, .slice co cs.length cc] w fun e w' => e = .returned (.bool true) ∧ Below w.heap.size w w' := by
  have K := known6_any w hT
  have PC := fun w' (hb : Below w.heap.size w w') => policy5_any kd us l uo vo co uc vc cc cs w' (hu.below hb) hl1 hl2 (hv.below hb) hc1 (IsRs.below hb co 0 cs hks)
  have HPC := hide PC
  have HT := hide hT
  have HKS := hide hks
  clear hT hu hv hks PC
  by_cases h6 : 6 < cs.length
  · have i6 : (6 : Int) < (cs.length : Int) := by omega
    go_enter Tryd.func4, Tryd.ntmps4
    go_wp2_with fail
    refine K.mono ?_
    rintro e w2 ⟨rfl, b2⟩
    go_wp2
    go_ret
    exact ⟨rfl, b2⟩
  · have i6 : ¬ (6 : Int) < (cs.length : Int) := by omega
    go_enter Tryd.func4, Tryd.ntmps4
    go_wp2_with fail
    refine K.mono ?_
    rintro e w2 ⟨rfl, b2⟩
    clear K
    go_wp2_with fail
    go_loopw [9] (fun iv wr => ∃ j : Nat, j ≤ cs.length ∧ iv = .int .i64 j ∧ Below w.heap.size w wr) (fun iv _ => cs.length - (intOf iv).toNat)
    case atStart => exact ⟨0, Nat.zero_le _, rfl, b2⟩
    case round =>
      obtain ⟨j, hj, rfl, hbw⟩ := hrel
      by_cases hlt : j < cs.length
      · have i1 : (j : Int) < (cs.length : Int) := by omega
        obtain ⟨rk, cb, cf, hco, hcb, h7, hxk⟩ := IsRs.get cs 0 j hlt (unhide HKS)
        rw [Nat.zero_add] at h7
        obtain ⟨d0, d1, d2, d3⟩ := h7.below hbw hcb
        have FE := few5_any (depR cs[j]) cs[j] rk wr 100 (Nat.le_refl _) (IsR.below hbw rk _ hxk) (by decide) (by decide)
        generalize fewR cs[j] 100 = f at *
        unfold R4.val at FE
        subst hco
        clear hxk h7
        by_cases hf : f = 0
        · subst hf
          go_wp2_with fail
          refine FE.mono ?_
          rintro e w3 ⟨rfl, b3⟩
          go_wp2
          go_ret
          exact ⟨rfl, hbw.trans (b3.mono hbw.size)⟩
        · have hf' : (f == 0) = false := by simpa using hf
          go_wp2_with fail
          refine FE.mono ?_
          rintro e w3 ⟨rfl, b3⟩
          clear d0 d1 d2 d3 FE
          have b03 := hbw.trans (b3.mono hbw.size)
          go_wp2
          go_roundw
          case rel => exact ⟨j + 1, by omega, by go_num, b03⟩
          case measure =>
            simp only [intOf]
            omega
      · have i1 : ¬ (j : Int) < (cs.length : Int) := by omega
        have P4 := unhide HPC wr hbw
        go_wp2_with fail
        refine P4.mono ?_
        rintro e w4 ⟨q, rfl, b4, hp⟩
        have b04 := hbw.trans (b4.mono hbw.size)
        have n5 := newS w4 (.cells q.cells 40)
        have Z5 : (w4.alloc (.cells q.cells 40)).heap[w4.heap.size]? = some (.cells q.cells 40 (0, 0)) := alloc_heap _ _
        have b05 := b04.trans (n5.mono b04.size)
        have hrow := hp.row.below n5
        have hok : q.ok := ⟨by rw [hp.p]; exact scAt_ok _ _ _, by rw [hp.a]; exact scAt_ok _ _ _, by rw [hp.r]; exact scAt_ok _ _ _⟩
        have hll := hp.ll
        have hn4 : (condsX kd cs (min cs.length 4)).length ≤ 4 := by rw [condsX_len]; omega
        have hsm := condsX_small kd cs (min cs.length 4) (by omega)
        have hat := fun j hj => condsX_at kd cs (min cs.length 4) j hj
        generalize condsX kd cs (min cs.length 4) = CS at *
        have CA := hide (fun w' (hb : Below (w4.alloc (.cells q.cells 40)).heap.size (w4.alloc (.cells q.cells 40)) w') (hT' : Tab6 w') => spolicy_any q CS (fun _ => True) w' hT' hok hll (by omega) (hrow.below hb) (fun j hj => by
          obtain ⟨y, hy⟩ := hat j hj
          rw [hy]
          have hz := Nat.le_trans (tree_len 10 y) bdTen
          exact ⟨shows_all _ 11 _ (tree_dep 10 y) (okR_okS _ (tree_okR 10 y)) hz, hz⟩) hsm)
        have CB := hide (fun w' (hb : Below (w4.alloc (.cells q.cells 40)).heap.size (w4.alloc (.cells q.cells 40)) w') => rpolicy_any q CS (fun _ => True) w' hok hll (by omega) (hrow.below hb) (fun j hj => by
          obtain ⟨y, hy⟩ := hat j hj
          rw [hy]
          exact showsR_all _ 11 _ (tree_dep 10 y) (tree_okR 10 y) (Nat.le_trans (tree_len 10 y) bdTen)) hsm)
        have CC := hide (fun w' (hT' : Tab6 w') => suid_any q.p.t q.p.i w' hT' (by have := hok.1.1; omega) (by have := hok.1.2.1; omega))
        have CD := hide (fun w' => r6uid_any q.p.t q.p.i w' hok.1.1 hok.1.2.1 hok.1.2.2)
        clear hp hrow hok hll hn4 hsm hat P4
        generalize ba (polT q CS) = PT at *
        generalize ba q.p.t ++ ⟨#[58, 58]⟩ ++ ba (quoteL q.p.i) = UT at *
        unfold Pol.val
        go_upto_region 11 with fail
        have hcell : ∀ w0 : World, w0.alloc (.cells q.cells 40) = w0.alloc (.cells #[.bool q.f, .int .i64 q.p.k, .string (ba q.p.t), .string (ba q.p.i), .int .i64 q.a.k, .string (ba q.a.t), .string (ba q.a.i), .int .i64 q.r.k, .string (ba q.r.t), .string (ba q.r.i), .slice q.lo q.ll q.lc] 40) := fun _ => rfl
        rw [← hcell]
        clear hcell
        generalize w4.alloc (.cells q.cells 40) = w5 at *
        obtain ⟨c0, c1, c2, c3, c4, c5, c6, c7, c8, c9, c10, _⟩ := blk11 Z5
        have z0 := cell_regrown c0
        have z1 := cell_regrown c1
        have z2 := cell_regrown c2
        have z3 := cell_regrown c3
        have z4 := cell_regrown c4
        have z5 := cell_regrown c5
        have z6 := cell_regrown c6
        have z7 := cell_regrown c7
        have z8 := cell_regrown c8
        have z9 := cell_regrown c9
        have z10 := cell_regrown c10
        have cA := fun d os => Calls.regrown_of (w := w5) (d := d) (os := os) (unhide CA (grow (redrawn w5 d) os) (below_regrown w5 d os) ((unhide HT).below (b05.trans ((below_regrown w5 d os).mono b05.size))))
        have cB := fun d os => Calls.regrown_of (w := w5) (d := d) (os := os) (unhide CB (grow (redrawn w5 d) os) (below_regrown w5 d os))
        have cC := fun d os => Calls.regrown_of (w := w5) (d := d) (os := os) (unhide CC (grow (redrawn w5 d) os) ((unhide HT).below (b05.trans ((below_regrown w5 d os).mono b05.size))))
        have cD := fun d os => Calls.regrown_of (w := w5) (d := d) (os := os) (unhide CD (grow (redrawn w5 d) os))
        unfold Pol.val at cA cB
        clear c0 c1 c2 c3 c4 c5 c6 c7 c8 c9 c10 Z5
        refine wp_region_quiet_below (by kernel_rfl) (by kernel_rfl) ?_
        iterate 2 (quiet_step (exact cA _ _))
        clear cA
        iterate 2 (quiet_step (exact cB _ _))
        clear cB
        iterate 6 (quiet_step (exact cC _ _))
        clear cC
        repeat (quiet_step (exact cD _ _))
        clear cD
        refine wpQuiet_nil ?_
        intro _ hw'
        obtain ⟨⟨dq, osq⟩, hw''⟩ := hw'
        subst hw''
        have b6 := b05.trans ((below_regrown w5 dq osq).mono b05.size)
        generalize grow (redrawn w5 dq) osq = w6 at *
        clear z0 z1 z2 z3 z4 z5 z6 z7 z8 z9 z10
        go_wp2
        go_ret
        exact ⟨rfl, b6⟩
end Go.Proofs.YtpblalklenebhaaDoor
