/-
  value.contentOf, cmp.Compare, the contents' compare: what they return of plain values.
  The contents' own compare: what they return of plain values.
  A region that draws its order, whose front only reads and whose tail is forced: the walk's law, its world by name.
  value.compareUids, the uids' compare.
  value.compare of plain values.
  chancelref3.Same of plain values; Holds: what they return.
  slices.BinarySearchFunc over a rising row of plain values, by value.compare.
  slices.Insert of one value into a row of the call's own.
  slices.Insert of one value into a row of the call's own: in the midst.
  slices.Insert of one value into a row of the call's own: in the midst, where there is no room; and all roads together.
  value.mayStandBy; the contents' value: what they return.
  value.checkText: what it returns.
  value.checkUid: what it returns.
  value.hasMore.
  value.Set: where a kind is not the first one's, or a set's.
  value.contentOf of any value; value.Check, out of its parts.
  value.Check of any value that is no set.
-/
import Derived.Test.YtlakgnnjokienaaGreatDoorValW
import Derived.Lib.QuietBelow
import Derived.BigQuiet
import Derived.Deep.QuietTactic
import Derived.StillTailTactics
import Derived.OwnWalk
import Derived.Carry
import Derived.Laws.CopyOwn
import Derived.Lib.Overlaps
import Derived.Lib.AppendZerosOnto
import Derived.Laws.Externs
import Derived.Test.YtlakgnnjokienaaGreatDoorR7A
import Derived.Test.YtlakgnnjokienaaGreatDoorNames
namespace Go.Proofs.YtlakgnnjokienaaGreatDoor
open Go.RowKit Go.Sort

/-- What stands behind the interface. -/
def conP (p : PV) : Value :=
  match p with
  | .bool b => .iface 125 (.bool b)
  | .long n => .iface 126 (.int .i64 n)
  | .str s => .iface 127 (.string (ba s))
  | .uid t i => .iface 128 (.agg #[.string (ba t), .string (ba i)])
def conS (lv : Value) : Value := .iface 129 lv

theorem below1 (w : World) (o : Obj) : Below w.heap.size w (w.alloc o) := (Below.refl _ w).alloc (Nat.le_refl _) o

set_option maxHeartbeats 400000 in
theorem contentOf_plain (p : PV) (lv : Value) (w : World) :
    Calls Tryz.prog 79 #[valP p lv] w fun e w' => e = .returned (conP p) ∧ Below w.heap.size w w' := by
  cases p
  all_goals
    unfold valP val7 conP
    go_enter Tryz.func79, Tryz.ntmps79
    go_wp2
    go_ret
    exact ⟨rfl, below1 _ _⟩

set_option maxHeartbeats 400000 in
theorem contentOf_set (ao : Option Addr) (n c : Nat) (w : World) :
    Calls Tryz.prog 79 #[val7 5 false 0 (ba []) (ba []) (ba []) (.slice ao n c)] w fun e w' => e = .returned (conS (.slice ao n c)) ∧ Below w.heap.size w w' := by
  unfold val7 conS
  go_enter Tryz.func79, Tryz.ntmps79
  go_wp2
  go_ret
  exact ⟨rfl, below1 _ _⟩

/-- Below nought, nought, above. -/
def cmpI (a b : Int) : Int := if a < b then -1 else if b < a then 1 else 0

set_option maxHeartbeats 400000 in
theorem cmpInt_any (a b : Int) (w : World) :
    Calls Tryz.prog 104 #[.int .i64 a, .int .i64 b] w fun e w' => e = .returned (.int .i64 (cmpI a b)) ∧ w' = w := by
  rcases Int.lt_trichotomy a b with h | h | h
  · have he : cmpI a b = -1 := if_pos h
    rw [he]
    go_enter Tryz.func104, Tryz.ntmps104
    go_wp2
    go_ret
    exact ⟨rfl, rfl⟩
  · have he : cmpI a b = 0 := by unfold cmpI; rw [if_neg (by omega), if_neg (by omega)]
    rw [he]
    have h1 : ¬ a < b := by omega
    have h2 : ¬ b < a := by omega
    clear h
    go_enter Tryz.func104, Tryz.ntmps104
    go_wp2
    go_ret
    exact ⟨rfl, rfl⟩
  · have he : cmpI a b = 1 := by unfold cmpI; rw [if_neg (by omega), if_pos h]
    rw [he]
    have h1 : ¬ a < b := by omega
    go_enter Tryz.func104, Tryz.ntmps104
    go_wp2
    go_ret
    exact ⟨rfl, rfl⟩
end Go.Proofs.YtlakgnnjokienaaGreatDoor

namespace Go.Proofs.YtlakgnnjokienaaGreatDoor
open Go.RowKit Go.Sort

theorem ta_truth (v : Value) (w : World) : (Instr.typeAssert (.iface 125 v) 112 125 false).run Tryz.prog w = .ok v w := by kernel_rfl
theorem ta_long (v : Value) (w : World) : (Instr.typeAssert (.iface 126 v) 112 126 false).run Tryz.prog w = .ok v w := by kernel_rfl
theorem ta_str (v : Value) (w : World) : (Instr.typeAssert (.iface 127 v) 112 127 false).run Tryz.prog w = .ok v w := by kernel_rfl
theorem ta_uid (v : Value) (w : World) : (Instr.typeAssert (.iface 128 v) 112 128 false).run Tryz.prog w = .ok v w := by kernel_rfl
theorem ta_elements (v : Value) (w : World) : (Instr.typeAssert (.iface 129 v) 112 129 false).run Tryz.prog w = .ok v w := by kernel_rfl
theorem ta_set (v : Value) (w : World) : (Instr.typeAssert (.iface 129 v) 112 129 true).run Tryz.prog w = .ok (.tuple #[v, .bool true]) w := by kernel_rfl

/-- Below nought, nought, above: by the order of plain values. -/
def cmpP (p q : PV) : Int := if lessP p q then -1 else if lessP q p then 1 else 0

/-- .. of texts. -/
def cmpB (a b : List UInt8) : Int := if decide (a < b) then -1 else if decide (b < a) then 1 else 0

theorem cmpB_cases (a b : List UInt8) : (Op.bytesLess (ba a).toList (ba b).toList = true ∧ ((ba a).toList == (ba b).toList) = false ∧ cmpB a b = -1) ∨ (Op.bytesLess (ba a).toList (ba b).toList = false ∧ ((ba a).toList == (ba b).toList) = false ∧ cmpB a b = 1) ∨ (Op.bytesLess (ba a).toList (ba b).toList = false ∧ ((ba a).toList == (ba b).toList) = true ∧ cmpB a b = 0) := by
  rw [bytesLess_eq, ba_list, ba_list]
  unfold cmpB
  rcases bytes_tri a b with h | h | h
  · refine .inl ⟨decide_eq_true h, ?_, if_pos (decide_eq_true h)⟩
    rw [beq_eq_false_iff_ne]
    rintro rfl
    exact bytes_irr _ h
  · subst h
    have h1 : decide (a < a) = false := decide_eq_false (bytes_irr a)
    exact .inr (.inr ⟨h1, by simp, by rw [h1]; rfl⟩)
  · have h1 : decide (a < b) = false := decide_eq_false (fun h2 => bytes_irr _ (bytes_trans h2 h))
    refine .inr (.inl ⟨h1, ?_, by rw [h1, decide_eq_true h]; rfl⟩)
    rw [beq_eq_false_iff_ne]
    rintro rfl
    exact bytes_irr _ h

set_option maxHeartbeats 400000 in
set_option maxRecDepth 100000 in
theorem truthCmp_any (a b : Bool) (w : World) :
    Calls Tryz.prog 126 #[.bool a, conP (.bool b)] w fun e w' => e = .returned (.int .i64 (cmpP (.bool a) (.bool b))) ∧ w' = w := by
  unfold conP
  cases a <;> cases b
  all_goals
    have T := ta_truth
    go_enter Tryz.func126, Tryz.ntmps126
    go_wp2
    go_ret
    exact ⟨rfl, rfl⟩

set_option maxHeartbeats 400000 in
set_option maxRecDepth 100000 in
theorem cmpLong_any (a b : Int) (w : World) :
    Calls Tryz.prog 132 #[.int .i64 a, .int .i64 b] w fun e w' => e = .returned (.int .i64 (cmpI a b)) ∧ w' = w := by
  rcases Int.lt_trichotomy a b with h | h | h
  · have he : cmpI a b = -1 := if_pos h
    rw [he]
    go_enter Tryz.func132, Tryz.ntmps132
    go_wp2
    go_ret
    exact ⟨rfl, rfl⟩
  · have he : cmpI a b = 0 := by unfold cmpI; rw [if_neg (by omega), if_neg (by omega)]
    rw [he]
    have h1 : ¬ a < b := by omega
    have h2 : ¬ b < a := by omega
    clear h
    go_enter Tryz.func132, Tryz.ntmps132
    go_wp2
    go_ret
    exact ⟨rfl, rfl⟩
  · have he : cmpI a b = 1 := by unfold cmpI; rw [if_neg (by omega), if_pos h]
    rw [he]
    have h1 : ¬ a < b := by omega
    go_enter Tryz.func132, Tryz.ntmps132
    go_wp2
    go_ret
    exact ⟨rfl, rfl⟩

set_option maxHeartbeats 400000 in
set_option maxRecDepth 100000 in
theorem cmpStr_any (a b : List UInt8) (w : World) :
    Calls Tryz.prog 137 #[.string (ba a), .string (ba b)] w fun e w' => e = .returned (.int .i64 (cmpB a b)) ∧ w' = w := by
  have hs : ((ba a).toList == (ba a).toList) = true := by simp
  have hs' : ((ba b).toList == (ba b).toList) = true := by simp
  rcases cmpB_cases a b with ⟨h1, h2, he⟩ | ⟨h1, h2, he⟩ | ⟨h1, h2, he⟩
  all_goals
    rw [he]
    go_enter Tryz.func137, Tryz.ntmps137
    go_wp2
    go_ret
    exact ⟨rfl, rfl⟩

set_option maxHeartbeats 400000 in
set_option maxRecDepth 100000 in
theorem cmpString_any (a b : List UInt8) (w : World) :
    Calls Tryz.prog 144 #[.string (ba a), .string (ba b)] w fun e w' => e = .returned (.int .i64 (cmpB a b)) ∧ w' = w := by
  have hs : ((ba a).toList == (ba a).toList) = true := by simp
  have hs' : ((ba b).toList == (ba b).toList) = true := by simp
  rcases cmpB_cases a b with ⟨h1, h2, he⟩ | ⟨h1, h2, he⟩ | ⟨h1, h2, he⟩
  all_goals
    rw [he]
    go_enter Tryz.func144, Tryz.ntmps144
    go_wp2
    go_ret
    exact ⟨rfl, rfl⟩

set_option maxHeartbeats 400000 in
set_option maxRecDepth 100000 in
theorem longCmp_any (a b : Int) (w : World) :
    Calls Tryz.prog 129 #[.int .i64 a, conP (.long b)] w fun e w' => e = .returned (.int .i64 (cmpP (.long a) (.long b))) ∧ w' = w := by
  have he : cmpP (.long a) (.long b) = cmpI a b := by simp [cmpP, cmpI, lessP]
  rw [he]
  unfold conP
  have T := ta_long
  go_enter Tryz.func129, Tryz.ntmps129
  go_wp2_with (go_at_call 132; refine (cmpLong_any _ _ _).mono ?_; rintro e w' ⟨rfl, rfl⟩)
  go_ret
  exact ⟨rfl, rfl⟩

set_option maxHeartbeats 400000 in
set_option maxRecDepth 100000 in
theorem strCmp_any (a b : List UInt8) (w : World) :
    Calls Tryz.prog 134 #[.string (ba a), conP (.str b)] w fun e w' => e = .returned (.int .i64 (cmpP (.str a) (.str b))) ∧ w' = w := by
  have he : cmpP (.str a) (.str b) = cmpB a b := by simp [cmpP, cmpB, lessP]
  rw [he]
  unfold conP
  have T := ta_str
  go_enter Tryz.func134, Tryz.ntmps134
  go_wp2_with (go_at_call 137; refine (cmpStr_any _ _ _).mono ?_; rintro e w' ⟨rfl, rfl⟩)
  go_ret
  exact ⟨rfl, rfl⟩
end Go.Proofs.YtlakgnnjokienaaGreatDoor

namespace Go.Proofs.YtlakgnnjokienaaGreatDoor
open Go.RowKit Go.Sort

theorem wp_still_tail {P : Program} {id : Nat} {Q : Exit → Act → World → Prop} {a : Act} {w : World} {l : List Oper} (n : Nat) (hm : P.follows .mixedOrders = true) (hB : Region.lexTailB .any l.toArray n = true)
    (h : wpStill P l.toArray w.drew (fun a' => wpList P l.toArray Q (l.drop n) a' w.drew) (l.take n) a) : (Code.region id l.toArray true).wp P Q a w :=
  wp_region_still_tail n hm hB h
end Go.Proofs.YtlakgnnjokienaaGreatDoor

namespace Go.Proofs.YtlakgnnjokienaaGreatDoor
open Go.RowKit Go.Sort

def orI (x y : Int) : Int := if x ≠ 0 then x else y

set_option maxHeartbeats 1000000 in
set_option maxRecDepth 100000 in
theorem cmpOr_two (x y : Int) (b c : Nat) (w : World) (h0 : w.cell? ⟨b, 0, none⟩ = some (.int .i64 x)) (h1 : w.cell? ⟨b, 1, none⟩ = some (.int .i64 y)) :
    Calls Tryz.prog 143 #[.slice (some ⟨b, 0, none⟩) 2 c] w fun e w' => e = .returned (.int .i64 (orI x y)) ∧ w' = w := by
  by_cases hx : x = 0
  · have e1 : orI x y = y := by simp [orI, hx]
    rw [e1]
    have hxb : (x == 0) = true := by simpa using hx
    subst hx
    clear hxb e1
    by_cases hy : y = 0
    · subst hy
      go_enter Tryz.func143, Tryz.ntmps143
      go_wp2
      go_loop [8] (fun i => ∃ j : Nat, j ≤ 2 ∧ i = .int .i64 j) (fun i => 2 - (intOf i).toNat)
      case atStart => exact ⟨0, by omega, rfl⟩
      case round =>
        obtain ⟨j, hj, rfl⟩ := hrel
        match j, hj with
        | 0, _ =>
          go_wp2
          go_round
          case rel => exact ⟨1, by omega, rfl⟩
          case measure => decide
        | 1, _ =>
          go_wp2
          go_round
          case rel => exact ⟨2, by omega, rfl⟩
          case measure => decide
        | 2, _ =>
          go_wp2
          go_ret
          exact ⟨rfl, rfl⟩
    · have hyb : (y == 0) = false := by simpa using hy
      go_enter Tryz.func143, Tryz.ntmps143
      go_wp2
      go_loop [8] (fun i => ∃ j : Nat, j ≤ 1 ∧ i = .int .i64 j) (fun i => 2 - (intOf i).toNat)
      case atStart => exact ⟨0, by omega, rfl⟩
      case round =>
        obtain ⟨j, hj, rfl⟩ := hrel
        match j, hj with
        | 0, _ =>
          go_wp2
          go_round
          case rel => exact ⟨1, by omega, rfl⟩
          case measure => decide
        | 1, _ =>
          go_wp2
          go_ret
          exact ⟨rfl, rfl⟩
  · have e1 : orI x y = x := by simp [orI, hx]
    rw [e1]
    have hxb : (x == 0) = false := by simpa using hx
    go_enter Tryz.func143, Tryz.ntmps143
    go_wp2
    go_loop [8] (fun i => i = .int .i64 0) (fun _ => 0)
    case atStart => exact rfl
    case round =>
      subst hrel
      go_wp2
      go_ret
      exact ⟨rfl, rfl⟩

theorem cmpUid_or (t i u j : List UInt8) : orI (cmpB t u) (cmpB i j) = cmpP (.uid t i) (.uid u j) := by
  unfold orI cmpP cmpB lessP
  rcases bytes_tri t u with h | h | h
  · have h1 : t ≠ u := by rintro rfl; exact bytes_irr _ h
    have h2 : u ≠ t := h1.symm
    have h3 : ¬ u < t := fun x => bytes_irr _ (bytes_trans h x)
    simp [h, h1]
  · subst h
    have := bytes_irr t
    simp [this]
  · have h1 : u ≠ t := by rintro rfl; exact bytes_irr _ h
    have h2 : t ≠ u := h1.symm
    have h3 : ¬ t < u := fun x => bytes_irr _ (bytes_trans h x)
    simp [h, h1, h2, h3]

set_option maxHeartbeats 4000000 in
set_option maxRecDepth 100000 in
theorem compareUids_any (t i u j : List UInt8) (w : World) :
    Calls Tryz.prog 142 #[.agg #[.string (ba t), .string (ba i)], .agg #[.string (ba u), .string (ba j)]] w fun e w' => e = .returned (.int .i64 (cmpP (.uid t i) (.uid u j))) ∧ Below w.heap.size w w' := by
  rw [← cmpUid_or]
  go_enter Tryz.func142, Tryz.ntmps142
  go_wp2
  refine wp_still_tail 10 (by kernel_rfl) (by kernel_rfl) ?_
  simp only [List.take_succ_cons, List.take_zero, List.drop_succ_cons, List.drop_zero]
  repeat (first | still_step | still_call (cmpString_any _ _ _))
  refine wpStill_nil ?_
  go_wp2_with (go_at_call 143; refine (cmpOr_two (cmpB t u) (cmpB i j) _ _ _ (by simp [World.cell?_alloc_at]) (by simp [World.cell?_alloc_at])).mono ?_; rintro e w' ⟨rfl, rfl⟩)
  go_ret
  refine ⟨rfl, ?_⟩
  exact (below2 w _ _).drew.alloc (by simp; omega) _



set_option maxHeartbeats 400000 in
set_option maxRecDepth 100000 in
theorem uidCmp_any (t i u j : List UInt8) (w : World) :
    Calls Tryz.prog 139 #[.agg #[.string (ba t), .string (ba i)], conP (.uid u j)] w fun e w' => e = .returned (.int .i64 (cmpP (.uid t i) (.uid u j))) ∧ Below w.heap.size w w' := by
  have U := compareUids_any t i u j
  generalize cmpP (.uid t i) (.uid u j) = r at *
  unfold conP
  have T := ta_uid
  go_enter Tryz.func139, Tryz.ntmps139
  go_wp2_with fail
  refine wp_still_tail 3 (by kernel_rfl) (by kernel_rfl) ?_
  simp only [List.take_succ_cons, List.take_zero, List.drop_succ_cons, List.drop_zero]
  repeat still_step
  refine wpStill_nil ?_
  go_wp2_with (go_at_call 142; refine (U _).mono ?_)
  rintro e w1 ⟨rfl, b1⟩
  go_wp2
  go_ret
  refine ⟨rfl, ?_⟩
  exact (below1 w _).drew.trans (b1.mono (by simp))
end Go.Proofs.YtlakgnnjokienaaGreatDoor

namespace Go.Proofs.YtlakgnnjokienaaGreatDoor
open Go.RowKit Go.Sort

theorem cmp_kinds (p q : PV) (h : p.kind ≠ q.kind) : cmpP p q = cmpI p.kind q.kind := by
  cases p <;> cases q <;> first | rfl | exact absurd rfl h

theorem valP_form (p : PV) (lv : Value) : ∃ b n s t i, valP p lv = val7 (p.kind : Int) b n s t i lv := by
  cases p <;> exact ⟨_, _, _, _, _, rfl⟩

set_option maxHeartbeats 400000 in
set_option maxRecDepth 100000 in
theorem compare_kinds (k : Int) (b : Bool) (n : Int) (s t i : ByteArray) (lv : Value) (k' : Int) (b' : Bool) (n' : Int) (s' t' i' : ByteArray) (lv' : Value) (hk : k ≠ k') (w : World) :
    Calls Tryz.prog 100 #[val7 k b n s t i lv, val7 k' b' n' s' t' i' lv'] w fun e w' => e = .returned (.int .i64 (cmpI k k')) ∧ Below w.heap.size w w' := by
  have hb : (k == k') = false := by simpa using hk
  unfold val7
  go_enter Tryz.func100, Tryz.ntmps100
  go_wp2_with (go_at_call 104; refine (cmpInt_any _ _ _).mono ?_; rintro e w' ⟨rfl, rfl⟩)
  go_ret
  exact ⟨rfl, below2 _ _ _⟩

set_option maxHeartbeats 1000000 in
set_option maxRecDepth 100000 in
theorem compare_same (k : Int) (b : Bool) (n : Int) (s t i : ByteArray) (ao : Option Addr) (la ca : Nat) (b' : Bool) (n' : Int) (s' t' i' : ByteArray) (bo : Option Addr) (lb cb : Nat) (T : TypeId) (f : FuncId) (x y : Value) (r : Int) (w : World)
    (hN : ∀ w, (nilAhead 262 T x "chancel/value.compare").run Tryz.prog w = .ok (some false) w) (hM : ∀ w, (method 262 T x "chancel/value.compare").run Tryz.prog w = .ok (f, x) w) (hE : ∀ w, (callFunc f #[x, .iface T y]).run Tryz.prog w = .ok (.enter f #[x, .iface T y]) w)
    (C1 : ∀ w, Calls Tryz.prog 79 #[.agg #[.int .i64 k, .bool b, .int .i64 n, .string s, .string t, .string i, .slice ao la ca]] w fun e w' => e = .returned (.iface T x) ∧ Below w.heap.size w w')
    (C2 : ∀ w, Calls Tryz.prog 79 #[.agg #[.int .i64 k, .bool b', .int .i64 n', .string s', .string t', .string i', .slice bo lb cb]] w fun e w' => e = .returned (.iface T y) ∧ Below w.heap.size w w')
    (C3 : ∀ w2, Below w.heap.size w w2 → Calls Tryz.prog f #[x, .iface T y] w2 fun e w' => e = .returned (.int .i64 r) ∧ Below w2.heap.size w2 w') :
    Calls Tryz.prog 100 #[val7 k b n s t i (.slice ao la ca), val7 k b' n' s' t' i' (.slice bo lb cb)] w fun e w' => e = .returned (.int .i64 r) ∧ Below w.heap.size w w' := by
  unfold val7
  go_enter Tryz.func100, Tryz.ntmps100
  go_wp2_with fail
  generalize hw2 : (w.alloc (.cells #[.int .i64 k, .bool b, .int .i64 n, .string s, .string t, .string i, .slice ao la ca] 105)).alloc (.cells #[.int .i64 k, .bool b', .int .i64 n', .string s', .string t', .string i', .slice bo lb cb] 105) = w2
  have b02 : Below w.heap.size w w2 := by rw [← hw2]; exact below2 _ _ _
  have up : ∀ {a : Addr} {v : Value}, w2.cell? a = some v → ∀ d os, (grow (redrawn w2 d) os).cell? a = some v := fun h2 d os => cell_regrown h2 d os
  have A0 := up (a := ⟨w.heap.size, 0, none⟩) (v := .int .i64 k) (by rw [← hw2]; simp)
  have A1 := up (a := ⟨w.heap.size, 1, none⟩) (v := .bool b) (by rw [← hw2]; simp)
  have A2 := up (a := ⟨w.heap.size, 2, none⟩) (v := .int .i64 n) (by rw [← hw2]; simp)
  have A3 := up (a := ⟨w.heap.size, 3, none⟩) (v := .string s) (by rw [← hw2]; simp)
  have A4 := up (a := ⟨w.heap.size, 4, none⟩) (v := .string t) (by rw [← hw2]; simp)
  have A5 := up (a := ⟨w.heap.size, 5, none⟩) (v := .string i) (by rw [← hw2]; simp)
  have A6 := up (a := ⟨w.heap.size, 6, none⟩) (v := .slice ao la ca) (by rw [← hw2]; simp)
  have B0 := up (a := ⟨w.heap.size + 1, 0, none⟩) (v := .int .i64 k) (by rw [← hw2]; simp)
  have B1 := up (a := ⟨w.heap.size + 1, 1, none⟩) (v := .bool b') (by rw [← hw2]; simp)
  have B2 := up (a := ⟨w.heap.size + 1, 2, none⟩) (v := .int .i64 n') (by rw [← hw2]; simp)
  have B3 := up (a := ⟨w.heap.size + 1, 3, none⟩) (v := .string s') (by rw [← hw2]; simp)
  have B4 := up (a := ⟨w.heap.size + 1, 4, none⟩) (v := .string t') (by rw [← hw2]; simp)
  have B5 := up (a := ⟨w.heap.size + 1, 5, none⟩) (v := .string i') (by rw [← hw2]; simp)
  have B6 := up (a := ⟨w.heap.size + 1, 6, none⟩) (v := .slice bo lb cb) (by rw [← hw2]; simp)
  have cS1 := fun d os => Calls.regrown_of (w := w2) (d := d) (os := os) (C1 (grow (redrawn w2 d) os))
  have cS2 := fun d os => Calls.regrown_of (w := w2) (d := d) (os := os) (C2 (grow (redrawn w2 d) os))
  have cS3 := fun d os => Calls.regrown_of (w := w2) (d := d) (os := os) (C3 (grow (redrawn w2 d) os) (b02.trans ((below_regrown w2 d os).mono b02.size)))
  clear hw2 up C1 C2 C3
  refine wp_region_quiet_below (by kernel_rfl) (by kernel_rfl) ?_
  quiet_step (fail)
  quiet_step (exact cS1 _ _)
  quiet_step (fail)
  quiet_step (exact cS2 _ _)
  quiet_step (fail)
  quiet_step (fail)
  quiet_step (fail)
  quiet_step (exact cS3 _ _)
  quiet_step (fail)
  refine wpQuiet_nil ?_
  intro _ hw'
  obtain ⟨⟨dq, osq⟩, hw''⟩ := hw'
  subst hw''
  go_wp2
  go_ret
  exact ⟨rfl, b02.trans ((below_regrown w2 dq osq).mono b02.size)⟩

theorem na_truth (v : Value) (w : World) : (nilAhead 262 125 v "chancel/value.compare").run Tryz.prog w = .ok (some false) w := by kernel_rfl
theorem me_truth (v : Value) (w : World) : (method 262 125 v "chancel/value.compare").run Tryz.prog w = .ok (126, v) w := by kernel_rfl
theorem en_truth (v : Array Value) (w : World) : (callFunc 126 v).run Tryz.prog w = .ok (.enter 126 v) w := by kernel_rfl
set_option maxRecDepth 100000 in
theorem compare_truth (x y : Bool) (ao bo : Option Addr) (la ca lb cb : Nat) (w : World) :
    Calls Tryz.prog 100 #[valP (.bool x) (.slice ao la ca), valP (.bool y) (.slice bo lb cb)] w fun e w' => e = .returned (.int .i64 (cmpP (.bool x) (.bool y))) ∧ Below w.heap.size w w' :=
  compare_same _ _ _ _ _ _ _ _ _ _ _ _ _ _ _ _ _ 125 126 _ _ _ w (na_truth _) (me_truth _) (en_truth _) (fun w => contentOf_plain (.bool x) _ w) (fun w => contentOf_plain (.bool y) _ w) (fun w _ => (truthCmp_any _ _ w).mono fun e w' h => ⟨h.1, by rw [h.2]; exact Below.refl _ _⟩)

theorem na_long (v : Value) (w : World) : (nilAhead 262 126 v "chancel/value.compare").run Tryz.prog w = .ok (some false) w := by kernel_rfl
theorem me_long (v : Value) (w : World) : (method 262 126 v "chancel/value.compare").run Tryz.prog w = .ok (129, v) w := by kernel_rfl
theorem en_long (v : Array Value) (w : World) : (callFunc 129 v).run Tryz.prog w = .ok (.enter 129 v) w := by kernel_rfl
set_option maxRecDepth 100000 in
theorem compare_long (x y : Int) (ao bo : Option Addr) (la ca lb cb : Nat) (w : World) :
    Calls Tryz.prog 100 #[valP (.long x) (.slice ao la ca), valP (.long y) (.slice bo lb cb)] w fun e w' => e = .returned (.int .i64 (cmpP (.long x) (.long y))) ∧ Below w.heap.size w w' :=
  compare_same _ _ _ _ _ _ _ _ _ _ _ _ _ _ _ _ _ 126 129 _ _ _ w (na_long _) (me_long _) (en_long _) (fun w => contentOf_plain (.long x) _ w) (fun w => contentOf_plain (.long y) _ w) (fun w _ => (longCmp_any _ _ w).mono fun e w' h => ⟨h.1, by rw [h.2]; exact Below.refl _ _⟩)

theorem na_str (v : Value) (w : World) : (nilAhead 262 127 v "chancel/value.compare").run Tryz.prog w = .ok (some false) w := by kernel_rfl
theorem me_str (v : Value) (w : World) : (method 262 127 v "chancel/value.compare").run Tryz.prog w = .ok (134, v) w := by kernel_rfl
theorem en_str (v : Array Value) (w : World) : (callFunc 134 v).run Tryz.prog w = .ok (.enter 134 v) w := by kernel_rfl
set_option maxRecDepth 100000 in
theorem compare_str (x y : List UInt8) (ao bo : Option Addr) (la ca lb cb : Nat) (w : World) :
    Calls Tryz.prog 100 #[valP (.str x) (.slice ao la ca), valP (.str y) (.slice bo lb cb)] w fun e w' => e = .returned (.int .i64 (cmpP (.str x) (.str y))) ∧ Below w.heap.size w w' :=
  compare_same _ _ _ _ _ _ _ _ _ _ _ _ _ _ _ _ _ 127 134 _ _ _ w (na_str _) (me_str _) (en_str _) (fun w => contentOf_plain (.str x) _ w) (fun w => contentOf_plain (.str y) _ w) (fun w _ => (strCmp_any _ _ w).mono fun e w' h => ⟨h.1, by rw [h.2]; exact Below.refl _ _⟩)

theorem na_uid (v : Value) (w : World) : (nilAhead 262 128 v "chancel/value.compare").run Tryz.prog w = .ok (some false) w := by kernel_rfl
theorem me_uid (v : Value) (w : World) : (method 262 128 v "chancel/value.compare").run Tryz.prog w = .ok (139, v) w := by kernel_rfl
theorem en_uid (v : Array Value) (w : World) : (callFunc 139 v).run Tryz.prog w = .ok (.enter 139 v) w := by kernel_rfl
set_option maxRecDepth 100000 in
theorem compare_uid (x x2 y y2 : List UInt8) (ao bo : Option Addr) (la ca lb cb : Nat) (w : World) :
    Calls Tryz.prog 100 #[valP (.uid x x2) (.slice ao la ca), valP (.uid y y2) (.slice bo lb cb)] w fun e w' => e = .returned (.int .i64 (cmpP (.uid x x2) (.uid y y2))) ∧ Below w.heap.size w w' :=
  compare_same _ _ _ _ _ _ _ _ _ _ _ _ _ _ _ _ _ 128 139 _ _ _ w (na_uid _) (me_uid _) (en_uid _) (fun w => contentOf_plain (.uid x x2) _ w) (fun w => contentOf_plain (.uid y y2) _ w) (fun w _ => uidCmp_any _ _ _ _ w)

theorem compare_plain (p q : PV) (ao bo : Option Addr) (la ca lb cb : Nat) (w : World) :
    Calls Tryz.prog 100 #[valP p (.slice ao la ca), valP q (.slice bo lb cb)] w fun e w' => e = .returned (.int .i64 (cmpP p q)) ∧ Below w.heap.size w w' := by
  have K : p.kind ≠ q.kind → Calls Tryz.prog 100 #[valP p (.slice ao la ca), valP q (.slice bo lb cb)] w fun e w' => e = .returned (.int .i64 (cmpP p q)) ∧ Below w.heap.size w w' := fun h => by
    obtain ⟨b, n, s, t, i, e⟩ := valP_form p (.slice ao la ca)
    obtain ⟨b', n', s', t', i', e'⟩ := valP_form q (.slice bo lb cb)
    rw [e, e', cmp_kinds p q h]
    exact compare_kinds _ _ _ _ _ _ _ _ _ _ _ _ _ _ (by omega) w
  cases p <;> cases q
  case bool.bool => exact compare_truth _ _ _ _ _ _ _ _ w
  case long.long => exact compare_long _ _ _ _ _ _ _ _ w
  case str.str => exact compare_str _ _ _ _ _ _ _ _ w
  case uid.uid => exact compare_uid _ _ _ _ _ _ _ _ _ _ w
  all_goals exact K (fun h => by cases h)

theorem less_cmp (p q : PV) : decide (cmpP p q < 0) = lessP p q := by
  unfold cmpP
  cases lessP p q <;> cases lessP q p <;> rfl
theorem same_cmp (p q : PV) : (cmpP p q == 0) = decide (p = q) := by
  unfold cmpP
  rcases sto_lessP.tri p q with h | h | h
  · rw [h, decide_eq_false (by rintro rfl; rw [sto_lessP.irr] at h; cases h)]
    rfl
  · subst h
    rw [sto_lessP.irr, decide_eq_true rfl]
    rfl
  · rw [h, sto_lessP.asym h, decide_eq_false (by rintro rfl; rw [sto_lessP.irr] at h; cases h)]
    rfl
end Go.Proofs.YtlakgnnjokienaaGreatDoor

namespace Go.Proofs.YtlakgnnjokienaaGreatDoor
open Go.RowKit Go.Sort

theorem ba_inj {a b : List UInt8} (h : ba a = ba b) : a = b := by
  have := congrArg (fun x : ByteArray => x.data.toList) h
  simpa [ba] using this

def cellsP (p : PV) (lv : Value) : List Value :=
  match p with
  | .bool b => [.int .i64 1, .bool b, .int .i64 0, .string (ba []), .string (ba []), .string (ba []), lv]
  | .long n => [.int .i64 2, .bool false, .int .i64 n, .string (ba []), .string (ba []), .string (ba []), lv]
  | .str s => [.int .i64 3, .bool false, .int .i64 0, .string (ba s), .string (ba []), .string (ba []), lv]
  | .uid t i => [.int .i64 4, .bool false, .int .i64 0, .string (ba []), .string (ba t), .string (ba i), lv]

/-- The cells of a slice of plain values. -/
def RowP (w : World) (ao : Option Addr) (l : List PV) : Prop :=
  ∀ j (hj : j < l.length), ∃ b off a0 c0, ao = some ⟨b, off, none⟩ ∧ b < w.heap.size ∧ ∀ c v, (cellsP l[j] (.slice a0 0 c0))[c]? = some v → w.cell? ⟨b, off + j * 7 + c, none⟩ = some v

theorem RowP.below {w w' : World} {ao : Option Addr} {l : List PV} (h : RowP w ao l) (hb : Below w.heap.size w w') : RowP w' ao l := by
  intro j hj
  obtain ⟨b, off, a0, c0, e, hlt, hc⟩ := h j hj
  have := hb.size
  exact ⟨b, off, a0, c0, e, by omega, fun c v hv => (hb.cell (p := ⟨b, off + j * 7 + c, none⟩) hlt).trans (hc c v hv)⟩

end Go.Proofs.YtlakgnnjokienaaGreatDoor

namespace Go.Proofs.YtlakgnnjokienaaGreatDoor
open Go.RowKit Go.Sort

theorem rowAt {w2 wr : World} {ao : Option Addr} {l : List PV} (h : RowP w2 ao l) (hbw : Below w2.heap.size w2 wr) {j : Nat} (hj : j < l.length) :
    ∃ b off a0 c0 k bb n s t i, ao = some ⟨b, off, none⟩ ∧ valP l[j] (.slice a0 0 c0) = .agg #[.int .i64 k, .bool bb, .int .i64 n, .string s, .string t, .string i, .slice a0 0 c0] ∧
      (∀ d os, (grow (redrawn wr d) os).cell? ⟨b, off + j * 7, none⟩ = some (.int .i64 k)) ∧ (∀ d os, (grow (redrawn wr d) os).cell? ⟨b, off + j * 7 + 1, none⟩ = some (.bool bb)) ∧ (∀ d os, (grow (redrawn wr d) os).cell? ⟨b, off + j * 7 + 2, none⟩ = some (.int .i64 n)) ∧
      (∀ d os, (grow (redrawn wr d) os).cell? ⟨b, off + j * 7 + 3, none⟩ = some (.string s)) ∧ (∀ d os, (grow (redrawn wr d) os).cell? ⟨b, off + j * 7 + 4, none⟩ = some (.string t)) ∧ (∀ d os, (grow (redrawn wr d) os).cell? ⟨b, off + j * 7 + 5, none⟩ = some (.string i)) ∧ (∀ d os, (grow (redrawn wr d) os).cell? ⟨b, off + j * 7 + 6, none⟩ = some (.slice a0 0 c0)) := by
  obtain ⟨b, off, a0, c0, e, hb, hc⟩ := h j hj
  generalize l[j] = p at *
  obtain ⟨k, bb, n, s, t, i, hp, hcs⟩ : ∃ k bb n s t i, valP p (.slice a0 0 c0) = val7 k bb n s t i (.slice a0 0 c0) ∧ cellsP p (.slice a0 0 c0) = [.int .i64 k, .bool bb, .int .i64 n, .string s, .string t, .string i, .slice a0 0 c0] := by
    cases p <;> exact ⟨_, _, _, _, _, _, rfl, rfl⟩
  rw [hcs] at hc
  have up : ∀ {a : Addr} {v : Value}, a.block < w2.heap.size → w2.cell? a = some v → ∀ d os, (grow (redrawn wr d) os).cell? a = some v := fun h1 h2 d os => cell_regrown ((hbw.cell h1).trans h2) d os
  exact ⟨b, off, a0, c0, k, bb, n, s, t, i, e, hp, up (a := ⟨b, off + j * 7 + 0, none⟩) hb (hc 0 _ rfl), up (a := ⟨b, off + j * 7 + 1, none⟩) hb (hc 1 _ rfl), up (a := ⟨b, off + j * 7 + 2, none⟩) hb (hc 2 _ rfl), up (a := ⟨b, off + j * 7 + 3, none⟩) hb (hc 3 _ rfl),
    up (a := ⟨b, off + j * 7 + 4, none⟩) hb (hc 4 _ rfl), up (a := ⟨b, off + j * 7 + 5, none⟩) hb (hc 5 _ rfl), up (a := ⟨b, off + j * 7 + 6, none⟩) hb (hc 6 _ rfl)⟩

/-- Where q belongs in a rising row. -/
structure Cutp (l : List PV) (q : PV) (i : Nat) : Prop where
  le : i ≤ l.length
  lo : ∀ k (h : k < l.length), k < i → lessP l[k] q = true
  hi : ∀ k (h : k < l.length), i ≤ k → lessP l[k] q = false

theorem Cutp.mem {l : List PV} {q : PV} {i : Nat} (c : Cutp l q i) (hr : Rising lessP l) : q ∈ l ↔ ∃ h : i < l.length, l[i] = q := by
  constructor
  · intro hq
    obtain ⟨k, hk, e⟩ := List.getElem_of_mem hq
    have h1 : ¬ k < i := fun h => by
      have := c.lo k hk h
      rw [e, sto_lessP.irr] at this
      cases this
    have hil : i < l.length := by omega
    refine ⟨hil, ?_⟩
    by_cases hki : k = i
    · subst hki
      exact e
    · have := List.pairwise_iff_getElem.1 hr i k hil hk (by omega)
      rw [e] at this
      have h2 := c.hi i hil (Nat.le_refl _)
      rw [this] at h2
      cases h2
  · rintro ⟨h, e⟩
    rw [← e]
    exact List.getElem_mem h

theorem below_drewN (w : World) (n : Nat) : Below w.heap.size w (w.drewN n) := ⟨rfl, rfl, rfl, Nat.le_refl _, fun _ _ => rfl⟩
theorem half (i j : Nat) (h : i < j) : i ≤ (i + j) / 2 ∧ (i + j) / 2 < j := by omega

end Go.Proofs.YtlakgnnjokienaaGreatDoor

namespace Go.Proofs.YtlakgnnjokienaaGreatDoor
open Go.RowKit Go.Sort

theorem infoValue : (Tryz.prog.info? 105).map (fun i => (i.zero, i.size, i.bytes)) = some (some (.agg #[.int .i64 0, .bool false, .int .i64 0, .string ⟨#[]⟩, .string ⟨#[]⟩, .string ⟨#[]⟩, .slice none 0 0]), 7, 96) := by kernel_rfl

theorem run_copy_k {P : Program} (w : World) (dT sT ty elem : TypeId) (k : Nat) (g o dLen dCap : Nat) (a : Addr) (sLen sCap : Nat) (cur : Array Value) (t : TypeId) (cs : List Value)
    (hu : P.underlying dT = some (.slice elem)) (hs : (P.info? elem).map (·.size) = some k)
    (hg : w.heap[g]? = some (.cells cur t (0, 0))) (hn : cs.length = Nat.min sLen dLen * k)
    (hsrc : ∀ j v, cs[j]? = some v → w.cell? (a.add j) = some v) (hfit : o + cs.length ≤ cur.size) (h1 : ∀ v ∈ cs, v.oneCell' = true) :
    (Builtin.copy_ #[dT, sT] ty #[.slice (some ⟨g, o, none⟩) dLen dCap, .slice (some a) sLen sCap]).run P w =
      .ok (goInt (Nat.min sLen dLen)) (w.setRow g (cur.toList.take o ++ cs ++ cur.toList.drop (o + cs.length)).toArray) := by
  have hl := run_loadCells_list (P := P) w a cs hsrc
  have hst := run_storeCells_at P g o t cs 0 cur w hg (by simpa using hfit) h1
  cases hq : P.info? elem with
  | none => simp [hq] at hs
  | some i =>
    have hi : i.size = k := by simpa [hq] using hs
    simp [Builtin.copy_, run_underlying hu, Builtin.lenOf, Builtin.firstCells, sizeOf, typeInfo, hq, hi, ← hn, hl, hst]

theorem wp_copy_run {P : Program} (w : World) {ops : Array Oper} {rest : List Oper} {o : Oper} {a : Act} {Q : Exit → Act → World → Prop} (hgd : o.guard = none) (d s : Operand) (t t' : TypeId)
    (ho : o.op = .call { callee := .builtin .copy, args := #[d, s], argTypes := #[t, t'] }) (v u : Value) (hd : a.eval d = v) (hs : a.eval s = u) {v' : Value} {w' : World}
    (hr : (Builtin.copy_ #[t, t'] o.type #[v, u]).run P w = .ok v' w') (h : wpList P ops Q rest (a.put o.dst v') w') : wpList P ops Q (o :: rest) a w :=
  wpList_plain hgd fun K hK => by
    unfold Oper.wp execOp
    simp only [ho, resolve, invoke, builtin, Sem.run_bind, Sem.run_pure, Result.andThen_ok, List.map_toArray, List.map_cons, List.map_nil, hd, hs, hr]
    exact hK _ _ h

end Go.Proofs.YtlakgnnjokienaaGreatDoor

namespace Go.Proofs.YtlakgnnjokienaaGreatDoor
open Go.RowKit Go.Sort

theorem cell_of_block {w : World} {g : Nat} {cur : Array Value} {t : TypeId} {fz : Nat × Nat} (h : w.heap[g]? = some (.cells cur t fz)) (j : Nat) : w.cell? ⟨g, j, none⟩ = cur[j]? := by
  simp [World.cell?, h]

theorem fz_of_block {w : World} {g : Nat} {cur : Array Value} {t : TypeId} (h : w.heap[g]? = some (.cells cur t (0, 0))) (j : Nat) : w.frozen? ⟨g, j, none⟩ = false := by
  simp [World.frozen?, h]

theorem shape_of_block {w : World} {g : Nat} {cur : Array Value} {t : TypeId} (h : w.heap[g]? = some (.cells cur t (0, 0))) : w.shape? g = some (t, cur.size) := by
  simp [World.shape?, h]

end Go.Proofs.YtlakgnnjokienaaGreatDoor

namespace Go.Proofs.YtlakgnnjokienaaGreatDoor
open Go.RowKit Go.Sort

theorem zero_size (z : Array Value) (k : Nat) : (Builtin.zeroCells z k).size = k * z.size := by simp [Builtin.zeroCells]

theorem wp_append_eq {P : Program} (w : World) {ops : Array Oper} {rest : List Oper} {o : Oper} {a : Act} {Q : Exit → Act → World → Prop} (hgd : o.guard = none) (d s : Operand) (t t' : TypeId)
    (ho : o.op = .call { callee := .builtin .append, args := #[d, s], argTypes := #[t, t'] }) (v u : Value) (hd : a.eval d = v) (hs : a.eval s = u) {v' : Value} {w' : World}
    (hr : (Builtin.append_ #[t, t'] o.type #[v, u]).run P w = .ok v' w') (h : wpList P ops Q rest (a.put o.dst v') w') : wpList P ops Q (o :: rest) a w :=
  wpList_plain hgd fun K hK => by
    unfold Oper.wp execOp
    simp only [ho, resolve, invoke, builtin, Sem.run_bind, Sem.run_pure, Result.andThen_ok, List.map_toArray, List.map_cons, List.map_nil, hd, hs, hr]
    exact hK _ _ h

end Go.Proofs.YtlakgnnjokienaaGreatDoor

namespace Go.Proofs.YtlakgnnjokienaaGreatDoor
open Go.RowKit Go.Sort

def mayB (k k' : Int) : Bool := decide (k ≠ 5) && decide (k = k')

set_option maxHeartbeats 400000 in
set_option maxRecDepth 100000 in
theorem mayStandBy_any (r r' : R7) (w : World) :
    Calls Tryz.prog 96 #[r.val, r'.val] w fun e w' => e = .returned (.bool (mayB r.k r'.k)) ∧ Below w.heap.size w w' := by
  obtain ⟨k, b, n, s, t, i, lo, ll, lc⟩ := r
  obtain ⟨k', b', n', s', t', i', lo', ll', lc'⟩ := r'
  unfold R7.val
  simp only
  by_cases h1 : k = 5
  · have e1 : mayB k k' = false := by simp [mayB, h1]
    rw [e1]
    have hb : (k == 5) = true := by simpa using h1
    subst h1
    go_enter Tryz.func96, Tryz.ntmps96
    go_wp2
    go_ret
    exact ⟨rfl, below2 _ _ _⟩
  · have hb : (k == 5) = false := by simpa using h1
    by_cases h2 : k = k'
    · have e1 : mayB k k' = true := by simp [mayB, ← h2, h1]
      rw [e1]
      have hb3 : (k != 5) = true := by simpa using h1
      subst h2
      go_enter Tryz.func96, Tryz.ntmps96
      go_wp2
      go_ret
      exact ⟨rfl, below2 _ _ _⟩
    · have e1 : mayB k k' = false := by simp [mayB, h2]
      rw [e1]
      have hb2 : (k == k') = false := by simpa using h2
      go_enter Tryz.func96, Tryz.ntmps96
      go_wp2
      go_ret
      exact ⟨rfl, below2 _ _ _⟩

theorem size1 (w : World) (o : Obj) : (w.alloc o).heap.size = w.heap.size + 1 := by simp

set_option maxHeartbeats 400000 in
set_option maxRecDepth 100000 in
theorem truthVal_any (x : Bool) (w : World) :
    Calls Tryz.prog 127 #[.bool x] w fun e w' => e = .returned (ofP (.bool x)).val ∧ Below w.heap.size w w' := by
  go_enter Tryz.func127, Tryz.ntmps127
  go_wp2
  exact bodyPost_ret (v := .agg #[.int .i64 1, .bool x, .int .i64 0, .string ⟨#[]⟩, .string ⟨#[]⟩, .string ⟨#[]⟩, .slice none 0 0]) (by simp [results, Tryz.results127, go_sem]) rfl ⟨rfl, below1 _ _⟩

theorem mv_truth (v : Value) (w : World) : (method 262 125 v "chancel/value.value").run Tryz.prog w = .ok (127, v) w := by kernel_rfl
theorem ev_truth (v : Array Value) (w : World) : (callFunc 127 v).run Tryz.prog w = .ok (.enter 127 v) w := by kernel_rfl

set_option maxHeartbeats 400000 in
set_option maxRecDepth 100000 in
theorem longVal_any (x : Int) (w : World) :
    Calls Tryz.prog 130 #[.int .i64 x] w fun e w' => e = .returned (ofP (.long x)).val ∧ Below w.heap.size w w' := by
  go_enter Tryz.func130, Tryz.ntmps130
  go_wp2
  exact bodyPost_ret (v := .agg #[.int .i64 2, .bool false, .int .i64 x, .string ⟨#[]⟩, .string ⟨#[]⟩, .string ⟨#[]⟩, .slice none 0 0]) (by simp [results, Tryz.results130, go_sem]) rfl ⟨rfl, below1 _ _⟩

theorem mv_long (v : Value) (w : World) : (method 262 126 v "chancel/value.value").run Tryz.prog w = .ok (130, v) w := by kernel_rfl
theorem ev_long (v : Array Value) (w : World) : (callFunc 130 v).run Tryz.prog w = .ok (.enter 130 v) w := by kernel_rfl

set_option maxHeartbeats 400000 in
set_option maxRecDepth 100000 in
theorem strVal_any (x : List UInt8) (w : World) :
    Calls Tryz.prog 135 #[.string (ba x)] w fun e w' => e = .returned (ofP (.str x)).val ∧ Below w.heap.size w w' := by
  go_enter Tryz.func135, Tryz.ntmps135
  go_wp2
  exact bodyPost_ret (v := .agg #[.int .i64 3, .bool false, .int .i64 0, .string (ba x), .string ⟨#[]⟩, .string ⟨#[]⟩, .slice none 0 0]) (by simp [results, Tryz.results135, go_sem]) rfl ⟨rfl, below1 _ _⟩

theorem mv_str (v : Value) (w : World) : (method 262 127 v "chancel/value.value").run Tryz.prog w = .ok (135, v) w := by kernel_rfl
theorem ev_str (v : Array Value) (w : World) : (callFunc 135 v).run Tryz.prog w = .ok (.enter 135 v) w := by kernel_rfl

set_option maxHeartbeats 400000 in
set_option maxRecDepth 100000 in
theorem uidVal_any (x y : List UInt8) (w : World) :
    Calls Tryz.prog 140 #[.agg #[.string (ba x), .string (ba y)]] w fun e w' => e = .returned (ofP (.uid x y)).val ∧ Below w.heap.size w w' := by
  go_enter Tryz.func140, Tryz.ntmps140
  go_wp2
  exact bodyPost_ret (v := .agg #[.int .i64 4, .bool false, .int .i64 0, .string ⟨#[]⟩, .string (ba x), .string (ba y), .slice none 0 0]) (by simp [results, Tryz.results140, go_sem]) rfl ⟨rfl, below2 _ _ _⟩

theorem mv_uid (v : Value) (w : World) : (method 262 128 v "chancel/value.value").run Tryz.prog w = .ok (140, v) w := by kernel_rfl
theorem ev_uid (v : Array Value) (w : World) : (callFunc 140 v).run Tryz.prog w = .ok (.enter 140 v) w := by kernel_rfl

end Go.Proofs.YtlakgnnjokienaaGreatDoor

namespace Go.Proofs.YtlakgnnjokienaaGreatDoor
open Go.RowKit

/-- What a text is told by Check: none, too long, or good. -/
def chkT (l : List UInt8) : Int := if okL l then (if 30 < (runes l).length then 5 else 0) else 11

set_option maxHeartbeats 1000000 in
set_option maxRecDepth 1000000 in
theorem checkText_any (s : ByteArray) (w : World) (hs : s.size ≤ 1099511627776) :
    Calls Tryz.prog 88 #[.string s] w fun e w' => e = .returned (.int .i64 (chkT s.data.toList)) ∧ Below w.heap.size w w' := by
  have C := check_any s
  have R := fun w => runeCount_any s w hs
  by_cases hok : okL s.data.toList = true
  · rw [chk_ok hok] at C
    by_cases h30 : 30 < (runes s.data.toList).length
    · have e : chkT s.data.toList = 5 := by rw [chkT, hok, if_pos rfl, if_pos h30]
      rw [e]
      generalize (runes s.data.toList).length = n at *
      have i1 : (30 : Int) < (n : Int) := by omega
      clear hok e
      go_enter Tryz.func88, Tryz.ntmps88
      go_wp2_with fail
      refine (C _).mono ?_
      rintro e w2 ⟨rfl, b2⟩
      go_wp2_with fail
      refine (R _).mono ?_
      rintro e w3 ⟨rfl, b3⟩
      go_wp2
      go_ret
      exact ⟨rfl, b2.trans (b3.mono b2.size)⟩
    · have e : chkT s.data.toList = 0 := by rw [chkT, hok, if_pos rfl, if_neg h30]
      rw [e]
      generalize (runes s.data.toList).length = n at *
      have i1 : ¬ (30 : Int) < (n : Int) := by omega
      clear hok e
      go_enter Tryz.func88, Tryz.ntmps88
      go_wp2_with fail
      refine (C _).mono ?_
      rintro e w2 ⟨rfl, b2⟩
      go_wp2_with fail
      refine (R _).mono ?_
      rintro e w3 ⟨rfl, b3⟩
      go_wp2
      go_ret
      exact ⟨rfl, b2.trans (b3.mono b2.size)⟩
  · have hbad : okL s.data.toList = false := by simpa using hok
    rw [chk_bad hbad] at C
    have e : chkT s.data.toList = 11 := by rw [chkT, hbad]; rfl
    rw [e]
    clear hok hbad e
    go_enter Tryz.func88, Tryz.ntmps88
    go_wp2_with fail
    refine (C _).mono ?_
    rintro e w2 ⟨rfl, b2⟩
    go_wp2
    go_ret
    exact ⟨rfl, b2⟩

end Go.Proofs.YtlakgnnjokienaaGreatDoor

namespace Go.Proofs.YtlakgnnjokienaaGreatDoor
open Go.RowKit

/-- What a uid is told by Check. -/
def chkU (t i : List UInt8) : Int := if nameB t then chkT i else 15

set_option maxHeartbeats 1000000 in
set_option maxRecDepth 1000000 in
theorem checkUid_any (t i : ByteArray) (w : World) (ht : t.size ≤ 1099511627776) (hi : i.size ≤ 1099511627776) :
    Calls Tryz.prog 89 #[.agg #[.string t, .string i]] w fun e w' => e = .returned (.int .i64 (chkU t.data.toList i.data.toList)) ∧ Below w.heap.size w w' := by
  have N := fun w => isName_any t w ht
  have C := fun w => checkText_any i w hi
  have b1 := below1 w (.cells #[.string t, .string i] 25)
  have c1 : (w.alloc (.cells #[.string t, .string i] 25)).cell? ⟨w.heap.size, 1, none⟩ = some (.string i) := by simp
  have z1 := size1 w (.cells #[.string t, .string i] 25)
  cases hn : nameB t.data.toList with
  | true =>
    have e : chkU t.data.toList i.data.toList = chkT i.data.toList := by rw [chkU, hn]; rfl
    rw [e]
    rw [hn] at N
    clear hn e
    go_enter Tryz.func89, Tryz.ntmps89
    go_wp2_with fail
    generalize w.alloc _ = w1 at *
    refine (N _).mono ?_
    rintro e w2 ⟨rfl, b2⟩
    have c2 := (b2.cell (p := ⟨w.heap.size, 1, none⟩) (by show w.heap.size < _; omega)).trans c1
    have b02 := b1.trans (b2.mono b1.size)
    go_wp2_with fail
    refine (C _).mono ?_
    rintro e w3 ⟨rfl, b3⟩
    go_wp2
    go_ret
    exact ⟨rfl, b02.trans (b3.mono b02.size)⟩
  | false =>
    have e : chkU t.data.toList i.data.toList = 15 := by rw [chkU, hn]; rfl
    rw [e]
    rw [hn] at N
    clear hn e
    go_enter Tryz.func89, Tryz.ntmps89
    go_wp2_with fail
    generalize w.alloc _ = w1 at *
    refine (N _).mono ?_
    rintro e w2 ⟨rfl, b2⟩
    go_wp2
    go_ret
    exact ⟨rfl, b1.trans (b2.mono b1.size)⟩
end Go.Proofs.YtlakgnnjokienaaGreatDoor

namespace Go.Proofs.YtlakgnnjokienaaGreatDoor
open Go.RowKit Go.Sort

/-- Have two values, kinds aside, the same in all fields (the list's length for the list)? -/
def SameF (r r' : R7) : Prop := r.b = r'.b ∧ r.n = r'.n ∧ r.s = r'.s ∧ r.t = r'.t ∧ r.i = r'.i ∧ r.ll = r'.ll

set_option maxHeartbeats 2000000 in
set_option maxRecDepth 1000000 in
theorem hasMore_yes (r r' : R7) (w : World) (h : ¬ SameF r r') :
    Calls Tryz.prog 80 #[r.val, r'.val] w fun e w' => e = .returned (.bool true) ∧ Below w.heap.size w w' := by
  obtain ⟨k, b, n, s, t, i, lo, ll, lc⟩ := r
  obtain ⟨k', b', n', s', t', i', lo', ll', lc'⟩ := r'
  unfold SameF at h
  unfold R7.val
  simp only at h ⊢
  by_cases hb0 : b = b'
  case neg =>
    have hb : (b == b') = false := by simpa using hb0
    clear h
    go_enter Tryz.func80, Tryz.ntmps80
    go_wp2
    go_ret
    exact ⟨rfl, below2 _ _ _⟩
  subst hb0
  by_cases hn : n = n'
  case neg =>
    have hb : (n == n') = false := by simpa using hn
    clear h
    go_enter Tryz.func80, Tryz.ntmps80
    go_wp2
    go_ret
    exact ⟨rfl, below2 _ _ _⟩
  subst hn
  by_cases hs : s = s'
  case neg =>
    have hb : (s.toList == s'.toList) = false := bytes_ne hs
    clear h
    go_enter Tryz.func80, Tryz.ntmps80
    go_wp2
    go_ret
    exact ⟨rfl, below2 _ _ _⟩
  subst hs
  by_cases ht : t = t'
  case neg =>
    have hb : (t.toList == t'.toList) = false := bytes_ne ht
    clear h
    go_enter Tryz.func80, Tryz.ntmps80
    go_wp2
    go_ret
    exact ⟨rfl, below2 _ _ _⟩
  subst ht
  by_cases hi : i = i'
  case neg =>
    have hb : (i.toList == i'.toList) = false := bytes_ne hi
    clear h
    go_enter Tryz.func80, Tryz.ntmps80
    go_wp2
    go_ret
    exact ⟨rfl, below2 _ _ _⟩
  subst hi
  by_cases hl : ll = ll'
  case neg =>
    have hb : ((ll : Int) == (ll' : Int)) = false := by simpa using (show ¬ (ll : Int) = ll' by omega)
    clear h
    go_enter Tryz.func80, Tryz.ntmps80
    go_wp2
    go_ret
    exact ⟨ret_bool (by simp [bne, hb]), below2 _ _ _⟩
  subst hl
  exact absurd ⟨rfl, rfl, rfl, rfl, rfl, rfl⟩ h

set_option maxHeartbeats 2000000 in
set_option maxRecDepth 1000000 in
theorem hasMore_no (r r' : R7) (w : World) (h : SameF r r') :
    Calls Tryz.prog 80 #[r.val, r'.val] w fun e w' => e = .returned (.bool false) ∧ Below w.heap.size w w' := by
  obtain ⟨k, b, n, s, t, i, lo, ll, lc⟩ := r
  obtain ⟨k', b', n', s', t', i', lo', ll', lc'⟩ := r'
  unfold SameF at h
  unfold R7.val
  simp only at h ⊢
  obtain ⟨rfl, rfl, rfl, rfl, rfl, rfl⟩ := h
  go_enter Tryz.func80, Tryz.ntmps80
  go_wp2
  go_ret
  exact ⟨ret_bool (by simp), below2 _ _ _⟩
end Go.Proofs.YtlakgnnjokienaaGreatDoor

namespace Go.Proofs.YtlakgnnjokienaaGreatDoor
open Go.RowKit Go.Sort

theorem at7_new (w : World) (r : R7) : At7 (w.alloc (.cells #[.int .i64 r.k, .bool r.b, .int .i64 r.n, .string r.s, .string r.t, .string r.i, .slice r.lo r.ll r.lc] 105)) w.heap.size 0 r :=
  ⟨by simp, by simp, by simp, by simp, by simp, by simp, by simp⟩

theorem set7_below {B b : Nat} {a w : World} (h : Below B a w) (hb : B ≤ b) (v0 v1 v2 v3 v4 v5 v6 : Value) :
    Below B a (((((((w.setCell ⟨b, 0, none⟩ v0).setCell ⟨b, 1, none⟩ v1).setCell ⟨b, 2, none⟩ v2).setCell ⟨b, 3, none⟩ v3).setCell ⟨b, 4, none⟩ v4).setCell ⟨b, 5, none⟩ v5).setCell ⟨b, 6, none⟩ v6) :=
  ((((((h.setCell (p := ⟨b, 0, none⟩) hb _).setCell (p := ⟨b, 1, none⟩) hb _).setCell (p := ⟨b, 2, none⟩) hb _).setCell (p := ⟨b, 3, none⟩) hb _).setCell (p := ⟨b, 4, none⟩) hb _).setCell (p := ⟨b, 5, none⟩) hb _).setCell (p := ⟨b, 6, none⟩) hb _

def zero7 : R7 := ⟨0, false, 0, ba [], ba [], ba [], none, 0, 0⟩

end Go.Proofs.YtlakgnnjokienaaGreatDoor

namespace Go.Proofs.YtlakgnnjokienaaGreatDoor
open Go.RowKit Go.Sort

set_option maxHeartbeats 2000000 in
set_option maxRecDepth 1000000 in
theorem contentOf_none (r : R7) (w : World) (h : r.k < 1 ∨ 5 < r.k) :
    Calls Tryz.prog 79 #[r.val] w fun e w' => e = .returned (.iface 115 (.agg #[])) ∧ Below w.heap.size w w' := by
  have h1 : (r.k == 1) = false := by simpa using (show ¬ r.k = 1 by omega)
  have h2 : (r.k == 2) = false := by simpa using (show ¬ r.k = 2 by omega)
  have h3 : (r.k == 3) = false := by simpa using (show ¬ r.k = 3 by omega)
  have h4 : (r.k == 4) = false := by simpa using (show ¬ r.k = 4 by omega)
  have h5 : (r.k == 5) = false := by simpa using (show ¬ r.k = 5 by omega)
  clear h
  unfold R7.val
  go_enter Tryz.func79, Tryz.ntmps79
  go_wp2
  go_ret
  exact ⟨rfl, below1 _ _⟩

set_option maxHeartbeats 2000000 in
set_option maxRecDepth 1000000 in
theorem contentOf_kind (r : R7) (T : TypeId) (x : Value) (w : World) (h : (r.k = 1 ∧ T = 125 ∧ x = .bool r.b) ∨ (r.k = 2 ∧ T = 126 ∧ x = .int .i64 r.n) ∨ (r.k = 3 ∧ T = 127 ∧ x = .string r.s) ∨ (r.k = 4 ∧ T = 128 ∧ x = .agg #[.string r.t, .string r.i]) ∨ (r.k = 5 ∧ T = 129 ∧ x = .slice r.lo r.ll r.lc)) :
    Calls Tryz.prog 79 #[r.val] w fun e w' => e = .returned (.iface T x) ∧ Below w.heap.size w w' := by
  obtain ⟨k, b, n, s, t, i, lo, ll, lc⟩ := r
  unfold R7.val
  simp only at h ⊢
  rcases h with ⟨rfl, rfl, rfl⟩ | ⟨rfl, rfl, rfl⟩ | ⟨rfl, rfl, rfl⟩ | ⟨rfl, rfl, rfl⟩ | ⟨rfl, rfl, rfl⟩
  all_goals
    go_enter Tryz.func79, Tryz.ntmps79
    go_wp2
    go_ret
    exact ⟨rfl, below1 _ _⟩

theorem ta_no (T : TypeId) (x : Value) (w : World) (h : T = 125 ∨ T = 126 ∨ T = 127 ∨ T = 128 ∨ T = 129) : (Instr.typeAssert (.iface T x) 112 115 true).run Tryz.prog w = .ok (.tuple #[.agg #[], .bool false]) w := by
  rcases h with rfl | rfl | rfl | rfl | rfl <;> kernel_rfl
theorem ta_none (w : World) : (Instr.typeAssert (.iface 115 (.agg #[])) 112 115 true).run Tryz.prog w = .ok (.tuple #[.agg #[], .bool true]) w := by kernel_rfl

set_option maxHeartbeats 2000000 in
set_option maxRecDepth 1000000 in
theorem vcheck_none (r : R7) (w : World) (h : r.k < 1 ∨ 5 < r.k) :
    Calls Tryz.prog 70 #[r.val] w fun e w' => e = .returned (.int .i64 3) ∧ Below w.heap.size w w' := by
  have C := fun w => contentOf_none r w h
  have T := ta_none
  clear h
  unfold R7.val at *
  have b1 := below1 w (.cells #[.int .i64 r.k, .bool r.b, .int .i64 r.n, .string r.s, .string r.t, .string r.i, .slice r.lo r.ll r.lc] 105)
  go_enter Tryz.func70, Tryz.ntmps70
  go_wp2_with fail
  generalize w.alloc _ = w1 at *
  refine (C _).mono ?_
  rintro e w2 ⟨rfl, b2⟩
  go_wp2
  go_ret
  exact ⟨rfl, (b1.trans (b2.mono b1.size)).alloc (Nat.le_trans b1.size b2.size) _⟩

set_option maxHeartbeats 2000000 in
set_option maxRecDepth 1000000 in
theorem vcheck_of (r bare : R7) (T : TypeId) (f : FuncId) (x : Value) (y z : Int) (m : Bool) (w : World)
    (C1 : ∀ w, Calls Tryz.prog 79 #[r.val] w fun e w' => e = .returned (.iface T x) ∧ Below w.heap.size w w')
    (hA : ∀ w, (Instr.typeAssert (.iface T x) 112 115 true).run Tryz.prog w = .ok (.tuple #[.agg #[], .bool false]) w)
    (hM : ∀ w, (method 262 T x "chancel/value.value").run Tryz.prog w = .ok (f, x) w) (hE : ∀ w, (callFunc f #[x]).run Tryz.prog w = .ok (.enter f #[x]) w)
    (C2 : ∀ w, Calls Tryz.prog f #[x] w fun e w' => e = .returned bare.val ∧ Below w.heap.size w w')
    (C3 : ∀ w, Calls Tryz.prog 80 #[r.val, bare.val] w fun e w' => e = .returned (.bool m) ∧ Below w.heap.size w w')
    (C4 : m = false → ∀ w', Below w.heap.size w w' → Calls Tryz.prog 81 #[.iface T x] w' fun e w'' => e = .returned (.int .i64 y) ∧ Below w'.heap.size w' w'') (hz : z = if m then 1 else y) :
    Calls Tryz.prog 70 #[r.val] w fun e w' => e = .returned (.int .i64 z) ∧ Below w.heap.size w w' := by
  unfold R7.val at *
  have b1 := below1 w (.cells #[.int .i64 r.k, .bool r.b, .int .i64 r.n, .string r.s, .string r.t, .string r.i, .slice r.lo r.ll r.lc] 105)
  have A1 := at7_new w r
  have z1 := size1 w (.cells #[.int .i64 r.k, .bool r.b, .int .i64 r.n, .string r.s, .string r.t, .string r.i, .slice r.lo r.ll r.lc] 105)
  have Hz := hide hz
  clear hz
  go_enter Tryz.func70, Tryz.ntmps70
  go_wp2_with fail
  generalize w.alloc _ = w1 at *
  refine (C1 _).mono ?_
  rintro e w2 ⟨rfl, b2⟩
  have b02 := b1.trans (b2.mono b1.size)
  have A2 := A1.below b2 (by omega)
  go_wp2_with fail
  have b3 : Below w.heap.size w (w2.alloc (.cells #[] 115)) := b02.alloc b02.size _
  have A3 := (A2.below (below1 w2 (.cells #[] 115)) (by have := b2.size; omega)).up
  generalize w2.alloc _ = w3 at *
  clear A1 A2 C1
  have cS2 := fun d os => Calls.regrown_of (w := w3) (d := d) (os := os) (C2 (grow (redrawn w3 d) os))
  have cS3 := fun d os => Calls.regrown_of (w := w3) (d := d) (os := os) (C3 (grow (redrawn w3 d) os))
  clear C2 C3
  obtain ⟨a0, a1, a2, a3, a4, a5, a6⟩ := A3
  simp only [Nat.zero_add] at a1 a2 a3 a4 a5 a6
  refine wp_region_quiet_below (by kernel_rfl) (by kernel_rfl) ?_
  quiet_step (fail)
  quiet_step (fail)
  quiet_step (exact cS2 _ _)
  quiet_step (exact cS3 _ _)
  refine wpQuiet_nil ?_
  intro _ hw'
  obtain ⟨⟨dq, osq⟩, hw''⟩ := hw'
  subst hw''
  have b4 := b3.trans ((below_regrown w3 dq osq).mono b3.size)
  generalize grow (redrawn w3 dq) osq = w4 at *
  clear a0 a1 a2 a3 a4 a5 a6 cS2 cS3
  cases m
  · have C4' := C4 rfl w4 b4
    clear C4
    go_wp2_with fail
    refine C4'.mono ?_
    rintro e w5 ⟨rfl, b5⟩
    go_wp2
    go_ret
    exact ⟨ret_int (unhide Hz).symm, b4.trans (b5.mono b4.size)⟩
  · go_wp2
    go_ret
    exact ⟨ret_int (unhide Hz).symm, b4⟩
end Go.Proofs.YtlakgnnjokienaaGreatDoor

namespace Go.Proofs.YtlakgnnjokienaaGreatDoor
open Go.RowKit Go.Sort

instance (r r' : R7) : Decidable (SameF r r') := by unfold SameF; infer_instance

/-- The value with nothing in the fields of other kinds. -/
def bareR (r : R7) : R7 := ⟨r.k, if r.k = 1 then r.b else false, if r.k = 2 then r.n else 0, if r.k = 3 then r.s else ba [], if r.k = 4 then r.t else ba [], if r.k = 4 then r.i else ba [], if r.k = 5 then r.lo else none, if r.k = 5 then r.ll else 0, if r.k = 5 then r.lc else 0⟩
def moreB (r : R7) : Bool := decide (¬ SameF r (bareR r))
def chkFlat (r : R7) : Int :=
  if r.k < 1 ∨ 5 < r.k then 3 else if moreB r then 1 else if r.k = 3 then chkT r.s.data.toList else if r.k = 4 then chkU r.t.data.toList r.i.data.toList else 0

theorem ba_of (s : ByteArray) : ba s.data.toList = s := rfl

theorem hasMore_any (r : R7) (w : World) : Calls Tryz.prog 80 #[r.val, (bareR r).val] w fun e w' => e = .returned (.bool (moreB r)) ∧ Below w.heap.size w w' := by
  unfold moreB
  by_cases h : SameF r (bareR r)
  · rw [decide_eq_false (fun hn => hn h)]
    exact hasMore_no r _ w h
  · rw [decide_eq_true h]
    exact hasMore_yes r _ w h

set_option maxHeartbeats 2000000 in
set_option maxRecDepth 1000000 in
theorem cc_truth (x : Value) (w : World) : Calls Tryz.prog 81 #[.iface 125 x] w fun e w' => e = .returned (.int .i64 0) ∧ Below w.heap.size w w' := by
  have h1 : ∀ w, (Instr.typeAssert (.iface 125 x) 112 127 true).run Tryz.prog w = .ok (.tuple #[.string ⟨#[]⟩, .bool false]) w := fun w => by kernel_rfl
  have h2 : ∀ w, (Instr.typeAssert (.iface 125 x) 112 128 true).run Tryz.prog w = .ok (.tuple #[.agg #[.string ⟨#[]⟩, .string ⟨#[]⟩], .bool false]) w := fun w => by kernel_rfl
  have h3 : ∀ w, (Instr.typeAssert (.iface 125 x) 112 129 true).run Tryz.prog w = .ok (.tuple #[.slice none 0 0, .bool false]) w := fun w => by kernel_rfl
  go_enter Tryz.func81, Tryz.ntmps81
  go_wp2
  go_ret
  exact ⟨rfl, Below.refl _ _⟩

set_option maxHeartbeats 2000000 in
set_option maxRecDepth 1000000 in
theorem cc_long (x : Value) (w : World) : Calls Tryz.prog 81 #[.iface 126 x] w fun e w' => e = .returned (.int .i64 0) ∧ Below w.heap.size w w' := by
  have h1 : ∀ w, (Instr.typeAssert (.iface 126 x) 112 127 true).run Tryz.prog w = .ok (.tuple #[.string ⟨#[]⟩, .bool false]) w := fun w => by kernel_rfl
  have h2 : ∀ w, (Instr.typeAssert (.iface 126 x) 112 128 true).run Tryz.prog w = .ok (.tuple #[.agg #[.string ⟨#[]⟩, .string ⟨#[]⟩], .bool false]) w := fun w => by kernel_rfl
  have h3 : ∀ w, (Instr.typeAssert (.iface 126 x) 112 129 true).run Tryz.prog w = .ok (.tuple #[.slice none 0 0, .bool false]) w := fun w => by kernel_rfl
  go_enter Tryz.func81, Tryz.ntmps81
  go_wp2
  go_ret
  exact ⟨rfl, Below.refl _ _⟩

set_option maxHeartbeats 2000000 in
set_option maxRecDepth 1000000 in
theorem cc_str (s : ByteArray) (w : World) (hs : s.size ≤ 1099511627776) : Calls Tryz.prog 81 #[.iface 127 (.string s)] w fun e w' => e = .returned (.int .i64 (chkT s.data.toList)) ∧ Below w.heap.size w w' := by
  have h1 : ∀ w, (Instr.typeAssert (.iface 127 (.string s)) 112 127 true).run Tryz.prog w = .ok (.tuple #[.string s, .bool true]) w := fun w => by kernel_rfl
  have C := fun w => checkText_any s w hs
  go_enter Tryz.func81, Tryz.ntmps81
  go_wp2_with fail
  refine (C _).mono ?_
  rintro e w2 ⟨rfl, b2⟩
  go_wp2
  go_ret
  exact ⟨rfl, b2⟩

set_option maxHeartbeats 2000000 in
set_option maxRecDepth 1000000 in
theorem cc_uid (t i : ByteArray) (w : World) (ht : t.size ≤ 1099511627776) (hi : i.size ≤ 1099511627776) : Calls Tryz.prog 81 #[.iface 128 (.agg #[.string t, .string i])] w fun e w' => e = .returned (.int .i64 (chkU t.data.toList i.data.toList)) ∧ Below w.heap.size w w' := by
  have h1 : ∀ w, (Instr.typeAssert (.iface 128 (.agg #[.string t, .string i])) 112 127 true).run Tryz.prog w = .ok (.tuple #[.string ⟨#[]⟩, .bool false]) w := fun w => by kernel_rfl
  have h2 : ∀ w, (Instr.typeAssert (.iface 128 (.agg #[.string t, .string i])) 112 128 true).run Tryz.prog w = .ok (.tuple #[.agg #[.string t, .string i], .bool true]) w := fun w => by kernel_rfl
  have C := fun w => checkUid_any t i w ht hi
  go_enter Tryz.func81, Tryz.ntmps81
  go_wp2_with fail
  have b1 := below1 w (.cells #[.string t, .string i] 128)
  refine (C _).mono ?_
  rintro e w2 ⟨rfl, b2⟩
  go_wp2
  go_ret
  exact ⟨rfl, b1.trans (b2.mono b1.size)⟩

theorem vcheck_flat (r : R7) (w : World) (h5 : r.k ≠ 5) (hs : r.s.size ≤ 1099511627776) (ht : r.t.size ≤ 1099511627776) (hi : r.i.size ≤ 1099511627776) :
    Calls Tryz.prog 70 #[r.val] w fun e w' => e = .returned (.int .i64 (chkFlat r)) ∧ Below w.heap.size w w' := by
  by_cases hk : r.k < 1 ∨ 5 < r.k
  · have e : chkFlat r = 3 := if_pos hk
    rw [e]
    exact vcheck_none r w hk
  · have hK : r.k = 1 ∨ r.k = 2 ∨ r.k = 3 ∨ r.k = 4 := by omega
    have hH := fun w => hasMore_any r w
    rcases hK with h | h | h | h
    · have eb : (bareR r).val = (ofP (.bool r.b)).val := by simp [bareR, h, R7.val, ofP]
      rw [eb] at hH
      exact vcheck_of r (ofP (.bool r.b)) 125 127 (.bool r.b) 0 _ (moreB r) w (fun w => contentOf_kind r _ _ w (.inl ⟨h, rfl, rfl⟩)) (fun w => ta_no _ _ w (by simp)) (mv_truth _) (ev_truth _) (fun w => truthVal_any r.b w) hH (fun _ w' _ => cc_truth _ w') (by rw [chkFlat, if_neg hk, if_neg (by omega : ¬ r.k = 3), if_neg (by omega : ¬ r.k = 4)])
    · have eb : (bareR r).val = (ofP (.long r.n)).val := by simp [bareR, h, R7.val, ofP]
      rw [eb] at hH
      exact vcheck_of r (ofP (.long r.n)) 126 130 (.int .i64 r.n) 0 _ (moreB r) w (fun w => contentOf_kind r _ _ w (.inr (.inl ⟨h, rfl, rfl⟩))) (fun w => ta_no _ _ w (by simp)) (mv_long _) (ev_long _) (fun w => longVal_any r.n w) hH (fun _ w' _ => cc_long _ w') (by rw [chkFlat, if_neg hk, if_neg (by omega : ¬ r.k = 3), if_neg (by omega : ¬ r.k = 4)])
    · have eb : (bareR r).val = (ofP (.str r.s.data.toList)).val := by simp [bareR, h, R7.val, ofP, ba_of]
      rw [eb] at hH
      exact vcheck_of r (ofP (.str r.s.data.toList)) 127 135 (.string r.s) (chkT r.s.data.toList) _ (moreB r) w (fun w => contentOf_kind r _ _ w (.inr (.inr (.inl ⟨h, rfl, rfl⟩)))) (fun w => ta_no _ _ w (by simp)) (mv_str _) (ev_str _) (fun w => strVal_any r.s.data.toList w) hH (fun _ w' _ => cc_str _ w' hs) (by rw [chkFlat, if_neg hk, if_pos h])
    · have eb : (bareR r).val = (ofP (.uid r.t.data.toList r.i.data.toList)).val := by simp [bareR, h, R7.val, ofP, ba_of]
      rw [eb] at hH
      exact vcheck_of r (ofP (.uid r.t.data.toList r.i.data.toList)) 128 140 (.agg #[.string r.t, .string r.i]) (chkU r.t.data.toList r.i.data.toList) _ (moreB r) w (fun w => contentOf_kind r _ _ w (.inr (.inr (.inr (.inl ⟨h, rfl, rfl⟩))))) (fun w => ta_no _ _ w (by simp)) (mv_uid _) (ev_uid _) (fun w => uidVal_any r.t.data.toList r.i.data.toList w) hH (fun _ w' _ => cc_uid _ _ w' ht hi) (by rw [chkFlat, if_neg hk, if_neg (by omega : ¬ r.k = 3), if_pos h])
end Go.Proofs.YtlakgnnjokienaaGreatDoor
