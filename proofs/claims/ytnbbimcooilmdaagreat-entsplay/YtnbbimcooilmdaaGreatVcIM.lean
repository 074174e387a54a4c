/-
  value.mayStandBy; the contents' value: what they return.
  value.Set: where a kind is not the first one's, or a set's.
  Plain facts: a set grows by one in its place; the cells of a row of plain values.
  value.Set of plain values of one kind.
  Values such as may be, in memory (no walk in it).
-/
import Derived.Test.YtnbbimcooilmdaaGreatVcEH
import Derived.Test.YtnbbimcooilmdaaGreatR7A
namespace Go.Proofs.YtnbbimcooilmdaaGreat
open Go.RowKit Go.Sort

def mayB (k k' : Int) : Bool := decide (k ≠ 5) && decide (k = k')

set_option maxHeartbeats 400000 in
set_option maxRecDepth 100000 in
theorem mayStandBy_any (r r' : R7) (w : World) :
    Calls Tryz.prog 86 #[r.val, r'.val] w fun e w' => e = .returned (.bool (mayB r.k r'.k)) ∧ Below w.heap.size w w' := by
  obtain ⟨k, b, n, s, t, i, lo, ll, lc⟩ := r
  obtain ⟨k', b', n', s', t', i', lo', ll', lc'⟩ := r'
  unfold R7.val
  simp only
  by_cases h1 : k = 5
  · have e1 : mayB k k' = false := by simp [mayB, h1]
    rw [e1]
    have hb : (k == 5) = true := by simpa using h1
    subst h1
    go_enter Tryz.func86, Tryz.ntmps86
    go_wp2
    go_ret
    exact ⟨rfl, below2 _ _ _⟩
  · have hb : (k == 5) = false := by simpa using h1
    by_cases h2 : k = k'
    · have e1 : mayB k k' = true := by simp [mayB, ← h2, h1]
      rw [e1]
      have hb3 : (k != 5) = true := by simpa using h1
      subst h2
      go_enter Tryz.func86, Tryz.ntmps86
      go_wp2
      go_ret
      exact ⟨rfl, below2 _ _ _⟩
    · have e1 : mayB k k' = false := by simp [mayB, h2]
      rw [e1]
      have hb2 : (k == k') = false := by simpa using h2
      go_enter Tryz.func86, Tryz.ntmps86
      go_wp2
      go_ret
      exact ⟨rfl, below2 _ _ _⟩

theorem size1 (w : World) (o : Obj) : (w.alloc o).heap.size = w.heap.size + 1 := by simp

set_option maxHeartbeats 400000 in
set_option maxRecDepth 100000 in
theorem truthVal_any (x : Bool) (w : World) :
    Calls Tryz.prog 117 #[.bool x] w fun e w' => e = .returned (ofP (.bool x)).val ∧ Below w.heap.size w w' := by
  go_enter Tryz.func117, Tryz.ntmps117
  go_wp2
  exact bodyPost_ret (v := .agg #[.int .i64 1, .bool x, .int .i64 0, .string ⟨#[]⟩, .string ⟨#[]⟩, .string ⟨#[]⟩, .slice none 0 0]) (by simp [results, Tryz.results117, go_sem]) rfl ⟨rfl, below1 _ _⟩

theorem mv_truth (v : Value) (w : World) : (method 253 114 v "chancel/value.value").run Tryz.prog w = .ok (117, v) w := by kernel_rfl
theorem ev_truth (v : Array Value) (w : World) : (callFunc 117 v).run Tryz.prog w = .ok (.enter 117 v) w := by kernel_rfl

set_option maxHeartbeats 400000 in
set_option maxRecDepth 100000 in
theorem longVal_any (x : Int) (w : World) :
    Calls Tryz.prog 120 #[.int .i64 x] w fun e w' => e = .returned (ofP (.long x)).val ∧ Below w.heap.size w w' := by
  go_enter Tryz.func120, Tryz.ntmps120
  go_wp2
  exact bodyPost_ret (v := .agg #[.int .i64 2, .bool false, .int .i64 x, .string ⟨#[]⟩, .string ⟨#[]⟩, .string ⟨#[]⟩, .slice none 0 0]) (by simp [results, Tryz.results120, go_sem]) rfl ⟨rfl, below1 _ _⟩

theorem mv_long (v : Value) (w : World) : (method 253 115 v "chancel/value.value").run Tryz.prog w = .ok (120, v) w := by kernel_rfl
theorem ev_long (v : Array Value) (w : World) : (callFunc 120 v).run Tryz.prog w = .ok (.enter 120 v) w := by kernel_rfl

set_option maxHeartbeats 400000 in
set_option maxRecDepth 100000 in
theorem strVal_any (x : List UInt8) (w : World) :
    Calls Tryz.prog 125 #[.string (ba x)] w fun e w' => e = .returned (ofP (.str x)).val ∧ Below w.heap.size w w' := by
  go_enter Tryz.func125, Tryz.ntmps125
  go_wp2
  exact bodyPost_ret (v := .agg #[.int .i64 3, .bool false, .int .i64 0, .string (ba x), .string ⟨#[]⟩, .string ⟨#[]⟩, .slice none 0 0]) (by simp [results, Tryz.results125, go_sem]) rfl ⟨rfl, below1 _ _⟩

theorem mv_str (v : Value) (w : World) : (method 253 116 v "chancel/value.value").run Tryz.prog w = .ok (125, v) w := by kernel_rfl
theorem ev_str (v : Array Value) (w : World) : (callFunc 125 v).run Tryz.prog w = .ok (.enter 125 v) w := by kernel_rfl

set_option maxHeartbeats 400000 in
set_option maxRecDepth 100000 in
theorem uidVal_any (x y : List UInt8) (w : World) :
    Calls Tryz.prog 130 #[.agg #[.string (ba x), .string (ba y)]] w fun e w' => e = .returned (ofP (.uid x y)).val ∧ Below w.heap.size w w' := by
  go_enter Tryz.func130, Tryz.ntmps130
  go_wp2
  exact bodyPost_ret (v := .agg #[.int .i64 4, .bool false, .int .i64 0, .string ⟨#[]⟩, .string (ba x), .string (ba y), .slice none 0 0]) (by simp [results, Tryz.results130, go_sem]) rfl ⟨rfl, below2 _ _ _⟩

theorem mv_uid (v : Value) (w : World) : (method 253 117 v "chancel/value.value").run Tryz.prog w = .ok (130, v) w := by kernel_rfl
theorem ev_uid (v : Array Value) (w : World) : (callFunc 130 v).run Tryz.prog w = .ok (.enter 130 v) w := by kernel_rfl

end Go.Proofs.YtnbbimcooilmdaaGreat

namespace Go.Proofs.YtnbbimcooilmdaaGreat
open Go.RowKit Go.Sort

theorem at7_new (w : World) (r : R7) : At7 (w.alloc (.cells #[.int .i64 r.k, .bool r.b, .int .i64 r.n, .string r.s, .string r.t, .string r.i, .slice r.lo r.ll r.lc] 52)) w.heap.size 0 r :=
  ⟨by simp, by simp, by simp, by simp, by simp, by simp, by simp⟩

theorem set7_below {B b : Nat} {a w : World} (h : Below B a w) (hb : B ≤ b) (v0 v1 v2 v3 v4 v5 v6 : Value) :
    Below B a (((((((w.setCell ⟨b, 0, none⟩ v0).setCell ⟨b, 1, none⟩ v1).setCell ⟨b, 2, none⟩ v2).setCell ⟨b, 3, none⟩ v3).setCell ⟨b, 4, none⟩ v4).setCell ⟨b, 5, none⟩ v5).setCell ⟨b, 6, none⟩ v6) :=
  ((((((h.setCell (p := ⟨b, 0, none⟩) hb _).setCell (p := ⟨b, 1, none⟩) hb _).setCell (p := ⟨b, 2, none⟩) hb _).setCell (p := ⟨b, 3, none⟩) hb _).setCell (p := ⟨b, 4, none⟩) hb _).setCell (p := ⟨b, 5, none⟩) hb _).setCell (p := ⟨b, 6, none⟩) hb _

def zero7 : R7 := ⟨0, false, 0, ba [], ba [], ba [], none, 0, 0⟩

end Go.Proofs.YtnbbimcooilmdaaGreat

namespace Go.Proofs.YtnbbimcooilmdaaGreat
open Go.RowKit Go.Sort

def cellsOf (l : List PV) : List Value := l.flatMap fun p => (ofP p).cells

theorem cells_len (r : R7) : r.cells.length = 7 := rfl
theorem cellsOf_len : ∀ l : List PV, (cellsOf l).length = l.length * 7
  | [] => rfl
  | p :: l => by
    rw [cellsOf, List.flatMap_cons, List.length_append, cells_len, List.length_cons]
    have := cellsOf_len l
    rw [cellsOf] at this
    omega
theorem cellsOf_append (a b : List PV) : cellsOf (a ++ b) = cellsOf a ++ cellsOf b := by rw [cellsOf, List.flatMap_append]; rfl
theorem cellsOf_cons (p : PV) (l : List PV) : cellsOf (p :: l) = (ofP p).cells ++ cellsOf l := by rw [cellsOf, List.flatMap_cons]; rfl
theorem cellsOf_take (l : List PV) (i : Nat) (h : i ≤ l.length) : (cellsOf l).take (i * 7) = cellsOf (l.take i) := by
  conv => lhs; rw [← List.take_append_drop i l, cellsOf_append]
  exact List.take_left' (by rw [cellsOf_len, List.length_take, Nat.min_eq_left h])
theorem cellsOf_drop (l : List PV) (i : Nat) (h : i ≤ l.length) : (cellsOf l).drop (i * 7) = cellsOf (l.drop i) := by
  conv => lhs; rw [← List.take_append_drop i l, cellsOf_append]
  exact List.drop_left' (by rw [cellsOf_len, List.length_take, Nat.min_eq_left h])
theorem cellsOf_one (l : List PV) : ∀ u ∈ cellsOf l, u.oneCell' = true := by
  intro u hu
  obtain ⟨p, _, hp⟩ := List.mem_flatMap.1 hu
  cases p <;> simp [ofP, R7.cells] at hp <;> rcases hp with rfl | rfl | rfl | rfl | rfl | rfl | rfl <;> rfl
theorem cells_one (r : R7) : ∀ u ∈ r.cells, u.oneCell' = true := by
  intro u hu
  simp [R7.cells] at hu
  rcases hu with rfl | rfl | rfl | rfl | rfl | rfl | rfl <;> rfl
theorem cellsOf_at (l : List PV) (j c : Nat) (hj : j < l.length) (hc : c < 7) : (cellsOf l)[j * 7 + c]? = (ofP l[j]).cells[c]? := by
  conv => lhs; rw [← List.take_append_drop j l, cellsOf_append]
  rw [List.getElem?_append_right (by rw [cellsOf_len, List.length_take]; omega), cellsOf_len, List.length_take, Nat.min_eq_left (by omega), Nat.add_sub_cancel_left, List.drop_eq_getElem_cons hj, cellsOf_cons, List.getElem?_append_left (by rw [cells_len]; exact hc)]

theorem cellsP_of (p : PV) : cellsP p (.slice none 0 0) = (ofP p).cells := by cases p <;> rfl

/-- A row of one's own can be read. -/
theorem rowP_own {w : World} {B : Nat} {v : Value} {l : List PV} (h : w.ownsRow B 52 7 v l.length (cellsOf l)) : ∃ ao cap, v = .slice ao l.length cap ∧ RowP w ao l := by
  rcases h.2 with ⟨hv, h0⟩ | ⟨g, cap, cur, hv, _, hg, _, _, hcs, hxs⟩
  · exact ⟨none, 0, by rw [hv, h0], fun j hj => by omega⟩
  · refine ⟨_, cap, hv, fun j hj => ⟨g, 0, none, 0, rfl, (Array.getElem?_eq_some_iff.1 hg).1, fun c u hu => ?_⟩⟩
    rw [cellsP_of] at hu
    have hc : c < 7 := by
      have := (List.getElem?_eq_some_iff.1 hu).1
      rwa [cells_len] at this
    rw [cell_of_block hg, Nat.zero_add]
    rw [← cellsOf_at l j c hj hc, ← hxs, List.getElem?_take] at hu
    split at hu
    · simpa using hu
    · cases hu

theorem rowV_own {w : World} {B : Nat} {v : Value} {l : List PV} (h : w.ownsRow B 52 7 v l.length (cellsOf l)) : ∃ ao cap, v = .slice ao l.length cap ∧ RowV w ao (l.map ofP) := by
  rcases h.2 with ⟨hv, h0⟩ | ⟨g, cap, cur, hv, _, hg, _, _, hcs, hxs⟩
  · exact ⟨none, 0, by rw [hv, h0], fun j hj => by rw [List.length_map] at hj; omega⟩
  · refine ⟨_, cap, hv, fun j hj => ⟨g, 0, rfl, (Array.getElem?_eq_some_iff.1 hg).1, fun c u hu => ?_⟩⟩
    rw [List.getElem_map] at hu
    rw [List.length_map] at hj
    have hc : c < 7 := by
      have := (List.getElem?_eq_some_iff.1 hu).1
      rwa [cells_len] at this
    rw [cell_of_block hg, Nat.zero_add]
    rw [← cellsOf_at l j c hj hc, ← hxs, List.getElem?_take] at hu
    split at hu
    · simpa using hu
    · cases hu

theorem ins_mem {q : PV} : ∀ (S : List PV), Rising lessP S → q ∈ S → ins lessP q S = S
  | y :: S, hr, hq => by
    have hr' := List.pairwise_cons.1 hr
    unfold ins
    rcases List.mem_cons.1 hq with e | e
    · subst e
      rw [sto_lessP.irr]
      rfl
    · rw [if_pos (hr'.1 q e), ins_mem S hr'.2 e]

theorem ins_cut {q : PV} : ∀ (S : List PV) (i : Nat), Cutp S q i → q ∉ S → ins lessP q S = S.take i ++ q :: S.drop i
  | [], i, c, _ => by
    have := c.le
    rw [List.take_nil, List.drop_nil]
    rfl
  | y :: S, 0, c, hq => by
    have h1 := c.hi 0 (by simp) (Nat.le_refl _)
    have h1' : lessP y q = false := h1
    have h2 : lessP q y = true := by
      rcases sto_lessP.tri q y with e | e | e
      · exact e
      · exact absurd (by rw [e]; simp) hq
      · rw [h1'] at e
        cases e
    unfold ins
    rw [h1', h2]
    rfl
  | y :: S, i + 1, c, hq => by
    have h1 : lessP y q = true := c.lo 0 (by simp) (by omega)
    have c' : Cutp S q i := ⟨by have := c.le; simpa using this, fun k h hk => by have := c.lo (k + 1) (by simpa using h) (by omega); simpa using this, fun k h hk => by have := c.hi (k + 1) (by simpa using h) (by omega); simpa using this⟩
    unfold ins
    rw [if_pos h1, ins_cut S i c' (fun h => hq (List.mem_cons_of_mem _ h))]
    rfl

theorem setOf_snoc (l : List PV) (j : Nat) (hj : j < l.length) : setOf lessP (l.take (j + 1)) = ins lessP l[j] (setOf lessP (l.take j)) := by
  rw [List.take_succ_eq_append_getElem hj, setOf, List.foldl_append]
  rfl

theorem len_ins (q : PV) : ∀ S : List PV, S.length ≤ (ins lessP q S).length
  | [] => Nat.zero_le _
  | y :: S => by
    unfold ins
    split
    · have := len_ins q S
      simp only [List.length_cons]
      omega
    · split
      · simp only [List.length_cons]
        omega
      · exact Nat.le_refl _

theorem len_fold : ∀ (l S : List PV), S.length ≤ (l.foldl (fun acc x => ins lessP x acc) S).length
  | [], _ => Nat.le_refl _
  | x :: l, S => Nat.le_trans (len_ins x S) (len_fold l (ins lessP x S))

theorem len_setOf (l : List PV) (j : Nat) : (setOf lessP (l.take j)).length ≤ (setOf lessP l).length := by
  conv => rhs; rw [← List.take_append_drop j l, setOf, List.foldl_append]
  exact len_fold _ _

theorem len_ins_new {q : PV} {S : List PV} {i : Nat} (c : Cutp S q i) (hq : q ∉ S) : (ins lessP q S).length = S.length + 1 := by
  rw [ins_cut S i c hq]
  have := c.le
  simp only [List.length_append, List.length_take, List.length_cons, List.length_drop]
  omega

/-- What stands in a plain value, and what is made of it again. -/
theorem content_value (p : PV) : ∃ (T : TypeId) (f : FuncId) (x : Value), (∀ w, Calls Tryz.prog 66 #[(ofP p).val] w fun e w' => e = .returned (.iface T x) ∧ Below w.heap.size w w') ∧
    (∀ w, (method 253 T x "chancel/value.value").run Tryz.prog w = .ok (f, x) w) ∧ (∀ w, (callFunc f #[x]).run Tryz.prog w = .ok (.enter f #[x]) w) ∧
    (∀ w, Calls Tryz.prog f #[x] w fun e w' => e = .returned (ofP p).val ∧ Below w.heap.size w w') := by
  cases p with
  | bool b => exact ⟨114, 117, _, fun w => contentOf_plain (.bool b) _ w, mv_truth _, ev_truth _, fun w => truthVal_any b w⟩
  | long n => exact ⟨115, 120, _, fun w => contentOf_plain (.long n) _ w, mv_long _, ev_long _, fun w => longVal_any n w⟩
  | str s => exact ⟨116, 125, _, fun w => contentOf_plain (.str s) _ w, mv_str _, ev_str _, fun w => strVal_any s w⟩
  | uid t i => exact ⟨117, 130, _, fun w => contentOf_plain (.uid t i) _ w, mv_uid _, ev_uid _, fun w => uidVal_any t i w⟩
end Go.Proofs.YtnbbimcooilmdaaGreat

namespace Go.Proofs.YtnbbimcooilmdaaGreat
open Go.RowKit Go.Sort

/-- A set as the program holds it. -/
def setR (ao : Option Addr) (n c : Nat) : R7 := ⟨5, false, 0, ba [], ba [], ba [], ao, n, c⟩

def SetPost (l : List PV) (w : World) (e : Ending) (w' : World) : Prop :=
  Below w.heap.size w w' ∧ (((setOf lessP l).length ≤ 8 ∧ ∃ ao c, e = .returned (.tuple #[(setR ao (setOf lessP l).length c).val, .int .i64 0]) ∧ w'.ownsRow w.heap.size 52 7 (.slice ao (setOf lessP l).length c) (setOf lessP l).length (cellsOf (setOf lessP l))) ∨ (8 < (setOf lessP l).length ∧ e = .returned (.tuple #[zero7.val, .int .i64 4])))

theorem own_below {w w' : World} {base : Nat} {e : TypeId} {k : Nat} {v : Value} {n : Nat} {xs : List Value} (h : w.ownsRow base e k v n xs) (hb : Below w.heap.size w w') : w'.ownsRow base e k v n xs :=
  h.kept (row := none) ⟨hb.os, hb.tape, hb.output, hb.size, fun j hj _ => hb.block j hj⟩ (by cases v.ownBlock <;> simp)

theorem own_mono {w : World} {base base' : Nat} {e : TypeId} {k : Nat} {v : Value} {n : Nat} {xs : List Value} (h : w.ownsRow base e k v n xs) (hb : base' ≤ base) : w.ownsRow base' e k v n xs :=
  ⟨h.1, h.2.imp id fun ⟨g, cap, cur, h1, h2, h3⟩ => ⟨g, cap, cur, h1, Nat.le_trans hb h2, h3⟩⟩

theorem own_set7 {w : World} {base b : Nat} {e : TypeId} {v : Value} {n : Nat} {xs : List Value} (h : w.ownsRow base e 7 v n xs) (hb : b < base) (v0 v1 v2 v3 v4 v5 v6 : Value) :
    (((((((w.setCell ⟨b, 0, none⟩ v0).setCell ⟨b, 1, none⟩ v1).setCell ⟨b, 2, none⟩ v2).setCell ⟨b, 3, none⟩ v3).setCell ⟨b, 4, none⟩ v4).setCell ⟨b, 5, none⟩ v5).setCell ⟨b, 6, none⟩ v6).ownsRow base e 7 v n xs :=
  ownsRow_setCell_below (ownsRow_setCell_below (ownsRow_setCell_below (ownsRow_setCell_below (ownsRow_setCell_below (ownsRow_setCell_below (ownsRow_setCell_below h (a := ⟨b, 0, none⟩) hb _) (a := ⟨b, 1, none⟩) hb _) (a := ⟨b, 2, none⟩) hb _) (a := ⟨b, 3, none⟩) hb _) (a := ⟨b, 4, none⟩) hb _) (a := ⟨b, 5, none⟩) hb _) (a := ⟨b, 6, none⟩) hb _

end Go.Proofs.YtnbbimcooilmdaaGreat

namespace Go.Proofs.YtnbbimcooilmdaaGreat
open Go.RowKit Go.Sort

/-- A value as the program holds it. -/
def IsG (w : World) : GV → R7 → Prop
  | .pl p, R => R = ofP p
  | .set l, R => ∃ ao c, R = setR ao l.length c ∧ RowV w ao (l.map ofP) ∧ ∀ ad, ao = some ad → ad.off = 0

theorem IsG.below {w w' : World} {g : GV} {R : R7} (h : IsG w g R) (hb : Below w.heap.size w w') : IsG w' g R := by
  cases g with
  | pl p => exact h
  | set l =>
    obtain ⟨ao, c, e, hr, ho⟩ := h
    exact ⟨ao, c, e, hr.below hb, ho⟩
end Go.Proofs.YtnbbimcooilmdaaGreat
