/-
  value.contentOf, cmp.Compare, the contents' compare: what they return of plain values.
  The contents' own compare: what they return of plain values.
  value.compareUids, the uids' compare.
  value.compare of plain values.
-/
import Derived.Test.YtbbongdnnmanlaaGreatValW
import Derived.Lib.QuietBelow
import Derived.BigQuiet
import Derived.Deep.QuietTactic
import Derived.Test.YtbbongdnnmanlaaGreatVcK
namespace Go.Proofs.YtbbongdnnmanlaaGreat
open Go.RowKit Go.Sort

/-- What stands behind the interface. -/
def conP (p : PV) : Value :=
  match p with
  | .bool b => .iface 129 (.bool b)
  | .long n => .iface 130 (.int .i64 n)
  | .str s => .iface 131 (.string (ba s))
  | .uid t i => .iface 132 (.agg #[.string (ba t), .string (ba i)])
def conS (lv : Value) : Value := .iface 116 lv

theorem below1 (w : World) (o : Obj) : Below w.heap.size w (w.alloc o) := (Below.refl _ w).alloc (Nat.le_refl _) o

set_option maxHeartbeats 400000 in
theorem contentOf_plain (p : PV) (lv : Value) (w : World) :
    Calls Tryz.prog 47 #[valP p lv] w fun e w' => e = .returned (conP p) ∧ Below w.heap.size w w' := by
  cases p
  all_goals
    unfold valP val7 conP
    go_enter Tryz.func47, Tryz.ntmps47
    go_wp2
    go_ret
    exact ⟨rfl, below1 _ _⟩

set_option maxHeartbeats 400000 in
theorem contentOf_set (ao : Option Addr) (n c : Nat) (w : World) :
    Calls Tryz.prog 47 #[val7 5 false 0 (ba []) (ba []) (ba []) (.slice ao n c)] w fun e w' => e = .returned (conS (.slice ao n c)) ∧ Below w.heap.size w w' := by
  unfold val7 conS
  go_enter Tryz.func47, Tryz.ntmps47
  go_wp2
  go_ret
  exact ⟨rfl, below1 _ _⟩

/-- Below nought, nought, above. -/
def cmpI (a b : Int) : Int := if a < b then -1 else if b < a then 1 else 0

set_option maxHeartbeats 400000 in
theorem cmpInt_any (a b : Int) (w : World) :
    Calls Tryz.prog 64 #[.int .i64 a, .int .i64 b] w fun e w' => e = .returned (.int .i64 (cmpI a b)) ∧ w' = w := by
  rcases Int.lt_trichotomy a b with h | h | h
  · have he : cmpI a b = -1 := if_pos h
    rw [he]
    go_enter Tryz.func64, Tryz.ntmps64
    go_wp2
    go_ret
    exact ⟨rfl, rfl⟩
  · have he : cmpI a b = 0 := by unfold cmpI; rw [if_neg (by omega), if_neg (by omega)]
    rw [he]
    have h1 : ¬ a < b := by omega
    have h2 : ¬ b < a := by omega
    clear h
    go_enter Tryz.func64, Tryz.ntmps64
    go_wp2
    go_ret
    exact ⟨rfl, rfl⟩
  · have he : cmpI a b = 1 := by unfold cmpI; rw [if_neg (by omega), if_pos h]
    rw [he]
    have h1 : ¬ a < b := by omega
    go_enter Tryz.func64, Tryz.ntmps64
    go_wp2
    go_ret
    exact ⟨rfl, rfl⟩
end Go.Proofs.YtbbongdnnmanlaaGreat

namespace Go.Proofs.YtbbongdnnmanlaaGreat
open Go.RowKit Go.Sort

theorem ta_truth (v : Value) (w : World) : (Instr.typeAssert (.iface 129 v) 99 129 false).run Tryz.prog w = .ok v w := by kernel_rfl
theorem ta_long (v : Value) (w : World) : (Instr.typeAssert (.iface 130 v) 99 130 false).run Tryz.prog w = .ok v w := by kernel_rfl
theorem ta_str (v : Value) (w : World) : (Instr.typeAssert (.iface 131 v) 99 131 false).run Tryz.prog w = .ok v w := by kernel_rfl
theorem ta_uid (v : Value) (w : World) : (Instr.typeAssert (.iface 132 v) 99 132 false).run Tryz.prog w = .ok v w := by kernel_rfl
theorem ta_elements (v : Value) (w : World) : (Instr.typeAssert (.iface 116 v) 99 116 false).run Tryz.prog w = .ok v w := by kernel_rfl
theorem ta_set (v : Value) (w : World) : (Instr.typeAssert (.iface 116 v) 99 116 true).run Tryz.prog w = .ok (.tuple #[v, .bool true]) w := by kernel_rfl

/-- Below nought, nought, above: by the order of plain values. -/
def cmpP (p q : PV) : Int := if lessP p q then -1 else if lessP q p then 1 else 0

/-- .. of texts. -/
def cmpB (a b : List UInt8) : Int := if decide (a < b) then -1 else if decide (b < a) then 1 else 0

theorem cmpB_cases (a b : List UInt8) : (Op.bytesLess (ba a).toList (ba b).toList = true ∧ ((ba a).toList == (ba b).toList) = false ∧ cmpB a b = -1) ∨ (Op.bytesLess (ba a).toList (ba b).toList = false ∧ ((ba a).toList == (ba b).toList) = false ∧ cmpB a b = 1) ∨ (Op.bytesLess (ba a).toList (ba b).toList = false ∧ ((ba a).toList == (ba b).toList) = true ∧ cmpB a b = 0) := by
  rw [bytesLess_eq, ba_list, ba_list]
  unfold cmpB
  rcases bytes_tri a b with h | h | h
  · refine .inl ⟨decide_eq_true h, ?_, if_pos (decide_eq_true h)⟩
    rw [beq_eq_false_iff_ne]
    rintro rfl
    exact bytes_irr _ h
  · subst h
    have h1 : decide (a < a) = false := decide_eq_false (bytes_irr a)
    exact .inr (.inr ⟨h1, by simp, by rw [h1]; rfl⟩)
  · have h1 : decide (a < b) = false := decide_eq_false (fun h2 => bytes_irr _ (bytes_trans h2 h))
    refine .inr (.inl ⟨h1, ?_, by rw [h1, decide_eq_true h]; rfl⟩)
    rw [beq_eq_false_iff_ne]
    rintro rfl
    exact bytes_irr _ h

set_option maxHeartbeats 400000 in
set_option maxRecDepth 100000 in
theorem truthCmp_any (a b : Bool) (w : World) :
    Calls Tryz.prog 116 #[.bool a, conP (.bool b)] w fun e w' => e = .returned (.int .i64 (cmpP (.bool a) (.bool b))) ∧ w' = w := by
  unfold conP
  cases a <;> cases b
  all_goals
    have T := ta_truth
    go_enter Tryz.func116, Tryz.ntmps116
    go_wp2
    go_ret
    exact ⟨rfl, rfl⟩

set_option maxHeartbeats 400000 in
set_option maxRecDepth 100000 in
theorem cmpLong_any (a b : Int) (w : World) :
    Calls Tryz.prog 122 #[.int .i64 a, .int .i64 b] w fun e w' => e = .returned (.int .i64 (cmpI a b)) ∧ w' = w := by
  rcases Int.lt_trichotomy a b with h | h | h
  · have he : cmpI a b = -1 := if_pos h
    rw [he]
    go_enter Tryz.func122, Tryz.ntmps122
    go_wp2
    go_ret
    exact ⟨rfl, rfl⟩
  · have he : cmpI a b = 0 := by unfold cmpI; rw [if_neg (by omega), if_neg (by omega)]
    rw [he]
    have h1 : ¬ a < b := by omega
    have h2 : ¬ b < a := by omega
    clear h
    go_enter Tryz.func122, Tryz.ntmps122
    go_wp2
    go_ret
    exact ⟨rfl, rfl⟩
  · have he : cmpI a b = 1 := by unfold cmpI; rw [if_neg (by omega), if_pos h]
    rw [he]
    have h1 : ¬ a < b := by omega
    go_enter Tryz.func122, Tryz.ntmps122
    go_wp2
    go_ret
    exact ⟨rfl, rfl⟩

set_option maxHeartbeats 400000 in
set_option maxRecDepth 100000 in
theorem cmpStr_any (a b : List UInt8) (w : World) :
    Calls Tryz.prog 127 #[.string (ba a), .string (ba b)] w fun e w' => e = .returned (.int .i64 (cmpB a b)) ∧ w' = w := by
  have hs : ((ba a).toList == (ba a).toList) = true := by simp
  have hs' : ((ba b).toList == (ba b).toList) = true := by simp
  rcases cmpB_cases a b with ⟨h1, h2, he⟩ | ⟨h1, h2, he⟩ | ⟨h1, h2, he⟩
  all_goals
    rw [he]
    go_enter Tryz.func127, Tryz.ntmps127
    go_wp2
    go_ret
    exact ⟨rfl, rfl⟩

set_option maxHeartbeats 400000 in
set_option maxRecDepth 100000 in
theorem cmpString_any (a b : List UInt8) (w : World) :
    Calls Tryz.prog 134 #[.string (ba a), .string (ba b)] w fun e w' => e = .returned (.int .i64 (cmpB a b)) ∧ w' = w := by
  have hs : ((ba a).toList == (ba a).toList) = true := by simp
  have hs' : ((ba b).toList == (ba b).toList) = true := by simp
  rcases cmpB_cases a b with ⟨h1, h2, he⟩ | ⟨h1, h2, he⟩ | ⟨h1, h2, he⟩
  all_goals
    rw [he]
    go_enter Tryz.func134, Tryz.ntmps134
    go_wp2
    go_ret
    exact ⟨rfl, rfl⟩

set_option maxHeartbeats 400000 in
set_option maxRecDepth 100000 in
theorem longCmp_any (a b : Int) (w : World) :
    Calls Tryz.prog 119 #[.int .i64 a, conP (.long b)] w fun e w' => e = .returned (.int .i64 (cmpP (.long a) (.long b))) ∧ w' = w := by
  have he : cmpP (.long a) (.long b) = cmpI a b := by simp [cmpP, cmpI, lessP]
  rw [he]
  unfold conP
  have T := ta_long
  go_enter Tryz.func119, Tryz.ntmps119
  go_wp2_with (go_at_call 122; refine (cmpLong_any _ _ _).mono ?_; rintro e w' ⟨rfl, rfl⟩)
  go_ret
  exact ⟨rfl, rfl⟩

set_option maxHeartbeats 400000 in
set_option maxRecDepth 100000 in
theorem strCmp_any (a b : List UInt8) (w : World) :
    Calls Tryz.prog 124 #[.string (ba a), conP (.str b)] w fun e w' => e = .returned (.int .i64 (cmpP (.str a) (.str b))) ∧ w' = w := by
  have he : cmpP (.str a) (.str b) = cmpB a b := by simp [cmpP, cmpB, lessP]
  rw [he]
  unfold conP
  have T := ta_str
  go_enter Tryz.func124, Tryz.ntmps124
  go_wp2_with (go_at_call 127; refine (cmpStr_any _ _ _).mono ?_; rintro e w' ⟨rfl, rfl⟩)
  go_ret
  exact ⟨rfl, rfl⟩
end Go.Proofs.YtbbongdnnmanlaaGreat

namespace Go.Proofs.YtbbongdnnmanlaaGreat
open Go.RowKit Go.Sort

def orI (x y : Int) : Int := if x ≠ 0 then x else y

set_option maxHeartbeats 1000000 in
set_option maxRecDepth 100000 in
theorem cmpOr_two (x y : Int) (b c : Nat) (w : World) (h0 : w.cell? ⟨b, 0, none⟩ = some (.int .i64 x)) (h1 : w.cell? ⟨b, 1, none⟩ = some (.int .i64 y)) :
    Calls Tryz.prog 133 #[.slice (some ⟨b, 0, none⟩) 2 c] w fun e w' => e = .returned (.int .i64 (orI x y)) ∧ w' = w := by
  by_cases hx : x = 0
  · have e1 : orI x y = y := by simp [orI, hx]
    rw [e1]
    have hxb : (x == 0) = true := by simpa using hx
    subst hx
    clear hxb e1
    by_cases hy : y = 0
    · subst hy
      go_enter Tryz.func133, Tryz.ntmps133
      go_wp2
      go_loop [8] (fun i => ∃ j : Nat, j ≤ 2 ∧ i = .int .i64 j) (fun i => 2 - (intOf i).toNat)
      case atStart => exact ⟨0, by omega, rfl⟩
      case round =>
        obtain ⟨j, hj, rfl⟩ := hrel
        match j, hj with
        | 0, _ =>
          go_wp2
          go_round
          case rel => exact ⟨1, by omega, rfl⟩
          case measure => decide
        | 1, _ =>
          go_wp2
          go_round
          case rel => exact ⟨2, by omega, rfl⟩
          case measure => decide
        | 2, _ =>
          go_wp2
          go_ret
          exact ⟨rfl, rfl⟩
    · have hyb : (y == 0) = false := by simpa using hy
      go_enter Tryz.func133, Tryz.ntmps133
      go_wp2
      go_loop [8] (fun i => ∃ j : Nat, j ≤ 1 ∧ i = .int .i64 j) (fun i => 2 - (intOf i).toNat)
      case atStart => exact ⟨0, by omega, rfl⟩
      case round =>
        obtain ⟨j, hj, rfl⟩ := hrel
        match j, hj with
        | 0, _ =>
          go_wp2
          go_round
          case rel => exact ⟨1, by omega, rfl⟩
          case measure => decide
        | 1, _ =>
          go_wp2
          go_ret
          exact ⟨rfl, rfl⟩
  · have e1 : orI x y = x := by simp [orI, hx]
    rw [e1]
    have hxb : (x == 0) = false := by simpa using hx
    go_enter Tryz.func133, Tryz.ntmps133
    go_wp2
    go_loop [8] (fun i => i = .int .i64 0) (fun _ => 0)
    case atStart => exact rfl
    case round =>
      subst hrel
      go_wp2
      go_ret
      exact ⟨rfl, rfl⟩

theorem cmpUid_or (t i u j : List UInt8) : orI (cmpB t u) (cmpB i j) = cmpP (.uid t i) (.uid u j) := by
  unfold orI cmpP cmpB lessP
  rcases bytes_tri t u with h | h | h
  · have h1 : t ≠ u := by rintro rfl; exact bytes_irr _ h
    have h2 : u ≠ t := h1.symm
    have h3 : ¬ u < t := fun x => bytes_irr _ (bytes_trans h x)
    simp [h, h1]
  · subst h
    have := bytes_irr t
    simp [this]
  · have h1 : u ≠ t := by rintro rfl; exact bytes_irr _ h
    have h2 : t ≠ u := h1.symm
    have h3 : ¬ t < u := fun x => bytes_irr _ (bytes_trans h x)
    simp [h, h1, h2, h3]

set_option maxHeartbeats 4000000 in
set_option maxRecDepth 100000 in
theorem compareUids_any (t i u j : List UInt8) (w : World) :
    Calls Tryz.prog 132 #[.agg #[.string (ba t), .string (ba i)], .agg #[.string (ba u), .string (ba j)]] w fun e w' => e = .returned (.int .i64 (cmpP (.uid t i) (.uid u j))) ∧ Below w.heap.size w w' := by
  rw [← cmpUid_or]
  go_enter Tryz.func132, Tryz.ntmps132
  go_wp2
  refine wp_still_tail 10 (by kernel_rfl) (by kernel_rfl) ?_
  simp only [List.take_succ_cons, List.take_zero, List.drop_succ_cons, List.drop_zero]
  repeat (first | still_step | still_call (cmpString_any _ _ _))
  refine wpStill_nil ?_
  go_wp2_with (go_at_call 133; refine (cmpOr_two (cmpB t u) (cmpB i j) _ _ _ (by simp [World.cell?_alloc_at]) (by simp [World.cell?_alloc_at])).mono ?_; rintro e w' ⟨rfl, rfl⟩)
  go_ret
  refine ⟨rfl, ?_⟩
  exact (below2 w _ _).drew.alloc (by simp; omega) _



set_option maxHeartbeats 400000 in
set_option maxRecDepth 100000 in
theorem uidCmp_any (t i u j : List UInt8) (w : World) :
    Calls Tryz.prog 129 #[.agg #[.string (ba t), .string (ba i)], conP (.uid u j)] w fun e w' => e = .returned (.int .i64 (cmpP (.uid t i) (.uid u j))) ∧ Below w.heap.size w w' := by
  have U := compareUids_any t i u j
  generalize cmpP (.uid t i) (.uid u j) = r at *
  unfold conP
  have T := ta_uid
  go_enter Tryz.func129, Tryz.ntmps129
  go_wp2_with fail
  refine wp_still_tail 3 (by kernel_rfl) (by kernel_rfl) ?_
  simp only [List.take_succ_cons, List.take_zero, List.drop_succ_cons, List.drop_zero]
  repeat still_step
  refine wpStill_nil ?_
  go_wp2_with (go_at_call 132; refine (U _).mono ?_)
  rintro e w1 ⟨rfl, b1⟩
  go_wp2
  go_ret
  refine ⟨rfl, ?_⟩
  exact (below1 w _).drew.trans (b1.mono (by simp))
end Go.Proofs.YtbbongdnnmanlaaGreat

namespace Go.Proofs.YtbbongdnnmanlaaGreat
open Go.RowKit Go.Sort

theorem cmp_kinds (p q : PV) (h : p.kind ≠ q.kind) : cmpP p q = cmpI p.kind q.kind := by
  cases p <;> cases q <;> first | rfl | exact absurd rfl h

theorem valP_form (p : PV) (lv : Value) : ∃ b n s t i, valP p lv = val7 (p.kind : Int) b n s t i lv := by
  cases p <;> exact ⟨_, _, _, _, _, rfl⟩

set_option maxHeartbeats 400000 in
set_option maxRecDepth 100000 in
theorem compare_kinds (k : Int) (b : Bool) (n : Int) (s t i : ByteArray) (lv : Value) (k' : Int) (b' : Bool) (n' : Int) (s' t' i' : ByteArray) (lv' : Value) (hk : k ≠ k') (w : World) :
    Calls Tryz.prog 45 #[val7 k b n s t i lv, val7 k' b' n' s' t' i' lv'] w fun e w' => e = .returned (.int .i64 (cmpI k k')) ∧ Below w.heap.size w w' := by
  have hb : (k == k') = false := by simpa using hk
  unfold val7
  go_enter Tryz.func45, Tryz.ntmps45
  go_wp2_with (go_at_call 64; refine (cmpInt_any _ _ _).mono ?_; rintro e w' ⟨rfl, rfl⟩)
  go_ret
  exact ⟨rfl, below2 _ _ _⟩

set_option maxHeartbeats 1000000 in
set_option maxRecDepth 100000 in
theorem compare_same (k : Int) (b : Bool) (n : Int) (s t i : ByteArray) (ao : Option Addr) (la ca : Nat) (b' : Bool) (n' : Int) (s' t' i' : ByteArray) (bo : Option Addr) (lb cb : Nat) (T : TypeId) (f : FuncId) (x y : Value) (r : Int) (w : World)
    (hN : ∀ w, (nilAhead 282 T x "chancel/value.compare").run Tryz.prog w = .ok (some false) w) (hM : ∀ w, (method 282 T x "chancel/value.compare").run Tryz.prog w = .ok (f, x) w) (hE : ∀ w, (callFunc f #[x, .iface T y]).run Tryz.prog w = .ok (.enter f #[x, .iface T y]) w)
    (C1 : ∀ w, Calls Tryz.prog 47 #[.agg #[.int .i64 k, .bool b, .int .i64 n, .string s, .string t, .string i, .slice ao la ca]] w fun e w' => e = .returned (.iface T x) ∧ Below w.heap.size w w')
    (C2 : ∀ w, Calls Tryz.prog 47 #[.agg #[.int .i64 k, .bool b', .int .i64 n', .string s', .string t', .string i', .slice bo lb cb]] w fun e w' => e = .returned (.iface T y) ∧ Below w.heap.size w w')
    (C3 : ∀ w2, Below w.heap.size w w2 → Calls Tryz.prog f #[x, .iface T y] w2 fun e w' => e = .returned (.int .i64 r) ∧ Below w2.heap.size w2 w') :
    Calls Tryz.prog 45 #[val7 k b n s t i (.slice ao la ca), val7 k b' n' s' t' i' (.slice bo lb cb)] w fun e w' => e = .returned (.int .i64 r) ∧ Below w.heap.size w w' := by
  unfold val7
  go_enter Tryz.func45, Tryz.ntmps45
  go_wp2_with fail
  generalize hw2 : (w.alloc (.cells #[.int .i64 k, .bool b, .int .i64 n, .string s, .string t, .string i, .slice ao la ca] 31)).alloc (.cells #[.int .i64 k, .bool b', .int .i64 n', .string s', .string t', .string i', .slice bo lb cb] 31) = w2
  have b02 : Below w.heap.size w w2 := by rw [← hw2]; exact below2 _ _ _
  have up : ∀ {a : Addr} {v : Value}, w2.cell? a = some v → ∀ d os, (grow (redrawn w2 d) os).cell? a = some v := fun h2 d os => cell_regrown h2 d os
  have A0 := up (a := ⟨w.heap.size, 0, none⟩) (v := .int .i64 k) (by rw [← hw2]; simp)
  have A1 := up (a := ⟨w.heap.size, 1, none⟩) (v := .bool b) (by rw [← hw2]; simp)
  have A2 := up (a := ⟨w.heap.size, 2, none⟩) (v := .int .i64 n) (by rw [← hw2]; simp)
  have A3 := up (a := ⟨w.heap.size, 3, none⟩) (v := .string s) (by rw [← hw2]; simp)
  have A4 := up (a := ⟨w.heap.size, 4, none⟩) (v := .string t) (by rw [← hw2]; simp)
  have A5 := up (a := ⟨w.heap.size, 5, none⟩) (v := .string i) (by rw [← hw2]; simp)
  have A6 := up (a := ⟨w.heap.size, 6, none⟩) (v := .slice ao la ca) (by rw [← hw2]; simp)
  have B0 := up (a := ⟨w.heap.size + 1, 0, none⟩) (v := .int .i64 k) (by rw [← hw2]; simp)
  have B1 := up (a := ⟨w.heap.size + 1, 1, none⟩) (v := .bool b') (by rw [← hw2]; simp)
  have B2 := up (a := ⟨w.heap.size + 1, 2, none⟩) (v := .int .i64 n') (by rw [← hw2]; simp)
  have B3 := up (a := ⟨w.heap.size + 1, 3, none⟩) (v := .string s') (by rw [← hw2]; simp)
  have B4 := up (a := ⟨w.heap.size + 1, 4, none⟩) (v := .string t') (by rw [← hw2]; simp)
  have B5 := up (a := ⟨w.heap.size + 1, 5, none⟩) (v := .string i') (by rw [← hw2]; simp)
  have B6 := up (a := ⟨w.heap.size + 1, 6, none⟩) (v := .slice bo lb cb) (by rw [← hw2]; simp)
  have cS1 := fun d os => Calls.regrown_of (w := w2) (d := d) (os := os) (C1 (grow (redrawn w2 d) os))
  have cS2 := fun d os => Calls.regrown_of (w := w2) (d := d) (os := os) (C2 (grow (redrawn w2 d) os))
  have cS3 := fun d os => Calls.regrown_of (w := w2) (d := d) (os := os) (C3 (grow (redrawn w2 d) os) (b02.trans ((below_regrown w2 d os).mono b02.size)))
  clear hw2 up C1 C2 C3
  refine wp_region_quiet_below (by kernel_rfl) (by kernel_rfl) ?_
  quiet_step (fail)
  quiet_step (exact cS1 _ _)
  quiet_step (fail)
  quiet_step (exact cS2 _ _)
  quiet_step (fail)
  quiet_step (fail)
  quiet_step (fail)
  quiet_step (exact cS3 _ _)
  quiet_step (fail)
  refine wpQuiet_nil ?_
  intro _ hw'
  obtain ⟨⟨dq, osq⟩, hw''⟩ := hw'
  subst hw''
  go_wp2
  go_ret
  exact ⟨rfl, b02.trans ((below_regrown w2 dq osq).mono b02.size)⟩

theorem na_truth (v : Value) (w : World) : (nilAhead 282 129 v "chancel/value.compare").run Tryz.prog w = .ok (some false) w := by kernel_rfl
theorem me_truth (v : Value) (w : World) : (method 282 129 v "chancel/value.compare").run Tryz.prog w = .ok (116, v) w := by kernel_rfl
theorem en_truth (v : Array Value) (w : World) : (callFunc 116 v).run Tryz.prog w = .ok (.enter 116 v) w := by kernel_rfl
set_option maxRecDepth 100000 in
theorem compare_truth (x y : Bool) (ao bo : Option Addr) (la ca lb cb : Nat) (w : World) :
    Calls Tryz.prog 45 #[valP (.bool x) (.slice ao la ca), valP (.bool y) (.slice bo lb cb)] w fun e w' => e = .returned (.int .i64 (cmpP (.bool x) (.bool y))) ∧ Below w.heap.size w w' :=
  compare_same _ _ _ _ _ _ _ _ _ _ _ _ _ _ _ _ _ 129 116 _ _ _ w (na_truth _) (me_truth _) (en_truth _) (fun w => contentOf_plain (.bool x) _ w) (fun w => contentOf_plain (.bool y) _ w) (fun w _ => (truthCmp_any _ _ w).mono fun e w' h => ⟨h.1, by rw [h.2]; exact Below.refl _ _⟩)

theorem na_long (v : Value) (w : World) : (nilAhead 282 130 v "chancel/value.compare").run Tryz.prog w = .ok (some false) w := by kernel_rfl
theorem me_long (v : Value) (w : World) : (method 282 130 v "chancel/value.compare").run Tryz.prog w = .ok (119, v) w := by kernel_rfl
theorem en_long (v : Array Value) (w : World) : (callFunc 119 v).run Tryz.prog w = .ok (.enter 119 v) w := by kernel_rfl
set_option maxRecDepth 100000 in
theorem compare_long (x y : Int) (ao bo : Option Addr) (la ca lb cb : Nat) (w : World) :
    Calls Tryz.prog 45 #[valP (.long x) (.slice ao la ca), valP (.long y) (.slice bo lb cb)] w fun e w' => e = .returned (.int .i64 (cmpP (.long x) (.long y))) ∧ Below w.heap.size w w' :=
  compare_same _ _ _ _ _ _ _ _ _ _ _ _ _ _ _ _ _ 130 119 _ _ _ w (na_long _) (me_long _) (en_long _) (fun w => contentOf_plain (.long x) _ w) (fun w => contentOf_plain (.long y) _ w) (fun w _ => (longCmp_any _ _ w).mono fun e w' h => ⟨h.1, by rw [h.2]; exact Below.refl _ _⟩)

theorem na_str (v : Value) (w : World) : (nilAhead 282 131 v "chancel/value.compare").run Tryz.prog w = .ok (some false) w := by kernel_rfl
theorem me_str (v : Value) (w : World) : (method 282 131 v "chancel/value.compare").run Tryz.prog w = .ok (124, v) w := by kernel_rfl
theorem en_str (v : Array Value) (w : World) : (callFunc 124 v).run Tryz.prog w = .ok (.enter 124 v) w := by kernel_rfl
set_option maxRecDepth 100000 in
theorem compare_str (x y : List UInt8) (ao bo : Option Addr) (la ca lb cb : Nat) (w : World) :
    Calls Tryz.prog 45 #[valP (.str x) (.slice ao la ca), valP (.str y) (.slice bo lb cb)] w fun e w' => e = .returned (.int .i64 (cmpP (.str x) (.str y))) ∧ Below w.heap.size w w' :=
  compare_same _ _ _ _ _ _ _ _ _ _ _ _ _ _ _ _ _ 131 124 _ _ _ w (na_str _) (me_str _) (en_str _) (fun w => contentOf_plain (.str x) _ w) (fun w => contentOf_plain (.str y) _ w) (fun w _ => (strCmp_any _ _ w).mono fun e w' h => ⟨h.1, by rw [h.2]; exact Below.refl _ _⟩)

theorem na_uid (v : Value) (w : World) : (nilAhead 282 132 v "chancel/value.compare").run Tryz.prog w = .ok (some false) w := by kernel_rfl
theorem me_uid (v : Value) (w : World) : (method 282 132 v "chancel/value.compare").run Tryz.prog w = .ok (129, v) w := by kernel_rfl
theorem en_uid (v : Array Value) (w : World) : (callFunc 129 v).run Tryz.prog w = .ok (.enter 129 v) w := by kernel_rfl
set_option maxRecDepth 100000 in
theorem compare_uid (x x2 y y2 : List UInt8) (ao bo : Option Addr) (la ca lb cb : Nat) (w : World) :
    Calls Tryz.prog 45 #[valP (.uid x x2) (.slice ao la ca), valP (.uid y y2) (.slice bo lb cb)] w fun e w' => e = .returned (.int .i64 (cmpP (.uid x x2) (.uid y y2))) ∧ Below w.heap.size w w' :=
  compare_same _ _ _ _ _ _ _ _ _ _ _ _ _ _ _ _ _ 132 129 _ _ _ w (na_uid _) (me_uid _) (en_uid _) (fun w => contentOf_plain (.uid x x2) _ w) (fun w => contentOf_plain (.uid y y2) _ w) (fun w _ => uidCmp_any _ _ _ _ w)

theorem compare_plain (p q : PV) (ao bo : Option Addr) (la ca lb cb : Nat) (w : World) :
    Calls Tryz.prog 45 #[valP p (.slice ao la ca), valP q (.slice bo lb cb)] w fun e w' => e = .returned (.int .i64 (cmpP p q)) ∧ Below w.heap.size w w' := by
  have K : p.kind ≠ q.kind → Calls Tryz.prog 45 #[valP p (.slice ao la ca), valP q (.slice bo lb cb)] w fun e w' => e = .returned (.int .i64 (cmpP p q)) ∧ Below w.heap.size w w' := fun h => by
    obtain ⟨b, n, s, t, i, e⟩ := valP_form p (.slice ao la ca)
    obtain ⟨b', n', s', t', i', e'⟩ := valP_form q (.slice bo lb cb)
    rw [e, e', cmp_kinds p q h]
    exact compare_kinds _ _ _ _ _ _ _ _ _ _ _ _ _ _ (by omega) w
  cases p <;> cases q
  case bool.bool => exact compare_truth _ _ _ _ _ _ _ _ w
  case long.long => exact compare_long _ _ _ _ _ _ _ _ w
  case str.str => exact compare_str _ _ _ _ _ _ _ _ w
  case uid.uid => exact compare_uid _ _ _ _ _ _ _ _ _ _ w
  all_goals exact K (fun h => by cases h)

theorem less_cmp (p q : PV) : decide (cmpP p q < 0) = lessP p q := by
  unfold cmpP
  cases lessP p q <;> cases lessP q p <;> rfl
theorem same_cmp (p q : PV) : (cmpP p q == 0) = decide (p = q) := by
  unfold cmpP
  rcases sto_lessP.tri p q with h | h | h
  · rw [h, decide_eq_false (by rintro rfl; rw [sto_lessP.irr] at h; cases h)]
    rfl
  · subst h
    rw [sto_lessP.irr, decide_eq_true rfl]
    rfl
  · rw [h, sto_lessP.asym h, decide_eq_false (by rintro rfl; rw [sto_lessP.irr] at h; cases h)]
    rfl
end Go.Proofs.YtbbongdnnmanlaaGreat
