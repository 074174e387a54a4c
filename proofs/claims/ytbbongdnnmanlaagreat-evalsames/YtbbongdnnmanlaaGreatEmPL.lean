/-
  chancellaw13: an evaluation without entities; known, within.
  chancellaw13.EvalSames, plain: values as trees, and what these come to.
  chancellaw13.lit: a value as a tree: what it returns.
  chancelref3.Same of any two values; chancelref3.Holds of a set and any value.
  chancellaw13.EvalLazy, plain: what is not looked at counts for nothing; two results of the same.
-/
import Derived.Test.YtbbongdnnmanlaaGreatEvPQ
import Derived.Test.YtbbongdnnmanlaaGreatExBS
import Derived.Test.YtbbongdnnmanlaaGreatEoMq
import Derived.Test.YtbbongdnnmanlaaGreatMpEG
import Derived.Test.YtbbongdnnmanlaaGreatElAO
import Derived.Test.YtbbongdnnmanlaaGreatVfAl
import Derived.Test.YtbbongdnnmanlaaGreatVeOP
import Derived.Maps.AppendAt
import Derived.Test.YtbbongdnnmanlaaGreatVOEq
namespace Go.Proofs.YtbbongdnnmanlaaGreat
open Go.RowKit Go.Sort

def zU : U2 := ⟨⟨#[]⟩, ⟨#[]⟩⟩
/-- No entities. -/
def noD (p a r : U2) : EvD := ⟨p, a, r, [], fun u x => decide (u = x)⟩
theorem way_nil {u x : U2} : Way (upS []) u x ↔ u = x := by
  constructor
  · intro h
    induction h with
    | here => rfl
    | step _ hx => cases hx
  · rintro rfl
    exact .here _
theorem ew_nil (w : World) (hf : FitL w) (p a r : U2) : EW w none [] (noD p a r) where
  row := rowG_nil _ _ _
  all := ⟨rfl, fun j h => absurd h (Nat.not_lt_zero _)⟩
  len := by simp
  inA := fun cap u x w' _ => by
    have hS := steps_up (w := w') (P := fun _ => True) (es := []) (ps := []) ⟨rfl, fun j h => absurd h (Nat.not_lt_zero _)⟩ (by simp) (by simp)
    refine (in_any (upS []) [] none cap u x [] w' (by simp) (rowG_nil _ _ _) hS (fun _ v hv => by cases hv) (by simp)).mono ?_
    rintro e w'' ⟨hb, z, rfl, hz⟩
    refine ⟨?_, hb⟩
    rw [way_nil] at hz
    have : z = decide (u = x) := by
      cases z with
      | true => exact (decide_eq_true (hz.1 rfl)).symm
      | false => exact (decide_eq_false (fun h => by cases hz.2 h)).symm
    rw [this]
    rfl
  ok := fun p hp => by cases hp
  fit := hf
/-- Where a tree errs nothing but the error is answered. -/
theorem expr13_err {x : Int} (D : EvD) (glo : Option Addr) (gs : List E4) (N c : Nat) (e : Ex) (q : R7) (w : World) (hN : N = gs.length) (hE : EW w glo gs D) (hq : IsE w (fun _ => True) q e) (hok : okEv e = true) (h : evalE D e = .inr x) :
    Calls Tryz.prog 7 #[.slice glo N c, .agg #[.string D.p.t, .string D.p.i, .string D.a.t, .string D.a.i, .string D.r.t, .string D.r.i], .agg #[.int .i64 q.k, .bool q.b, .int .i64 q.n, .string q.s, .string q.t, .string q.i, .slice q.lo q.ll q.lc]] w fun en w' => en = .returned (.tuple #[.agg #[.int .i64 0, .bool false, .int .i64 0, .string ⟨#[]⟩, .string ⟨#[]⟩, .string ⟨#[]⟩, .slice none 0 0], .int .i64 x]) ∧ Below w.heap.size w w' := by
  refine (expr13_any glo gs N c D e q w hN hE hq hok).mono ?_
  rintro en w' ⟨⟨R, k, rfl, hm⟩, hb⟩
  rw [h] at hm
  obtain ⟨rfl, _, rfl⟩ : k = x ∧ x ≠ 0 ∧ R = zero7 := hm
  exact ⟨rfl, hb⟩
/-- Where it comes to a plain value that is answered. -/
theorem expr13_pl {p : PV} (D : EvD) (glo : Option Addr) (gs : List E4) (N c : Nat) (e : Ex) (q : R7) (w : World) (hN : N = gs.length) (hE : EW w glo gs D) (hq : IsE w (fun _ => True) q e) (hok : okEv e = true) (h : evalE D e = .inl (.pl p)) :
    Calls Tryz.prog 7 #[.slice glo N c, .agg #[.string D.p.t, .string D.p.i, .string D.a.t, .string D.a.i, .string D.r.t, .string D.r.i], .agg #[.int .i64 q.k, .bool q.b, .int .i64 q.n, .string q.s, .string q.t, .string q.i, .slice q.lo q.ll q.lc]] w fun en w' => en = .returned (.tuple #[(ofP p).val, .int .i64 0]) ∧ Below w.heap.size w w' := by
  refine (expr13_any glo gs N c D e q w hN hE hq hok).mono ?_
  rintro en w' ⟨⟨R, k, rfl, hm⟩, hb⟩
  rw [h] at hm
  obtain ⟨rfl, hg, _⟩ : k = 0 ∧ IsG w' (.pl p) R ∧ okEG (.pl p) := hm
  have hg : R = ofP p := hg
  subst hg
  exact ⟨rfl, hb⟩
def tBad : Ex := eOp 14 [eLong 1, eBool true]
def tAnd : Ex := eOp 23 [eBool false, tBad]
set_option maxHeartbeats 4000000 in
set_option maxRecDepth 1000000 in
theorem known13_any (w : World) (hf : FitL w) : Calls Tryz.prog 4 #[] w fun e w' => e = .returned (.bool true) ∧ Below w.heap.size w w' := by
  obtain ⟨b3, z3, k1, k2, k3⟩ := ev3 w (.cells #[.int .i64 1, .bool false, .int .i64 0, .string ⟨#[]⟩, .string ⟨#[]⟩, .string ⟨#[]⟩, .slice none 0 0] 35) (.cells #[.int .i64 2, .bool false, .int .i64 1, .string ⟨#[]⟩, .string ⟨#[]⟩, .string ⟨#[]⟩, .slice none 0 0, .int .i64 1, .bool true, .int .i64 0, .string ⟨#[]⟩, .string ⟨#[]⟩, .string ⟨#[]⟩, .slice none 0 0] 35) (.cells #[.int .i64 14, .bool false, .int .i64 0, .string ⟨#[]⟩, .string ⟨#[]⟩, .string ⟨#[]⟩, .slice (some ⟨w.heap.size + 1, 0, none⟩) 2 2] 35)
  clear z3
  go_enter Tryz.func4, Tryz.ntmps4
  go_upto_region 3 with fail
  generalize ((w.alloc _).alloc _).alloc _ = w3 at *
  have c0 : w3.cell? ⟨w.heap.size, 0, none⟩ = some (.int .i64 1) := by rw [Lib.cell_of_heap k1]; rfl
  have c1 : w3.cell? ⟨w.heap.size, 1, none⟩ = some (.bool false) := by rw [Lib.cell_of_heap k1]; rfl
  have c2 : w3.cell? ⟨w.heap.size, 2, none⟩ = some (.int .i64 0) := by rw [Lib.cell_of_heap k1]; rfl
  have c3 : w3.cell? ⟨w.heap.size, 3, none⟩ = some (.string ⟨#[]⟩) := by rw [Lib.cell_of_heap k1]; rfl
  have c4 : w3.cell? ⟨w.heap.size, 4, none⟩ = some (.string ⟨#[]⟩) := by rw [Lib.cell_of_heap k1]; rfl
  have c5 : w3.cell? ⟨w.heap.size, 5, none⟩ = some (.string ⟨#[]⟩) := by rw [Lib.cell_of_heap k1]; rfl
  have c6 : w3.cell? ⟨w.heap.size, 6, none⟩ = some (.slice none 0 0) := by rw [Lib.cell_of_heap k1]; rfl
  have d0 : w3.cell? ⟨w.heap.size + 2, 0, none⟩ = some (.int .i64 14) := by rw [Lib.cell_of_heap k3]; rfl
  have d1 : w3.cell? ⟨w.heap.size + 2, 1, none⟩ = some (.bool false) := by rw [Lib.cell_of_heap k3]; rfl
  have d2 : w3.cell? ⟨w.heap.size + 2, 2, none⟩ = some (.int .i64 0) := by rw [Lib.cell_of_heap k3]; rfl
  have d3 : w3.cell? ⟨w.heap.size + 2, 3, none⟩ = some (.string ⟨#[]⟩) := by rw [Lib.cell_of_heap k3]; rfl
  have d4 : w3.cell? ⟨w.heap.size + 2, 4, none⟩ = some (.string ⟨#[]⟩) := by rw [Lib.cell_of_heap k3]; rfl
  have d5 : w3.cell? ⟨w.heap.size + 2, 5, none⟩ = some (.string ⟨#[]⟩) := by rw [Lib.cell_of_heap k3]; rfl
  have d6 : w3.cell? ⟨w.heap.size + 2, 6, none⟩ = some (.slice (some ⟨w.heap.size + 1, 0, none⟩) 2 2) := by rw [Lib.cell_of_heap k3]; rfl
  have b4 := ev1 w3 (.cells #[.int .i64 1, .bool false, .int .i64 0, .string ⟨#[]⟩, .string ⟨#[]⟩, .string ⟨#[]⟩, .slice none 0 0, .int .i64 14, .bool false, .int .i64 0, .string ⟨#[]⟩, .string ⟨#[]⟩, .string ⟨#[]⟩, .slice (some ⟨w.heap.size + 1, 0, none⟩) 2 2] 35)
  have h4 := alloc_heap w3 (.cells #[.int .i64 1, .bool false, .int .i64 0, .string ⟨#[]⟩, .string ⟨#[]⟩, .string ⟨#[]⟩, .slice none 0 0, .int .i64 14, .bool false, .int .i64 0, .string ⟨#[]⟩, .string ⟨#[]⟩, .string ⟨#[]⟩, .slice (some ⟨w.heap.size + 1, 0, none⟩) 2 2] 35)
  have hbad : ∀ w', Below w3.heap.size w3 w' → IsE w' PT ⟨14, false, 0, ⟨#[]⟩, ⟨#[]⟩, ⟨#[]⟩, some ⟨w.heap.size + 1, 0, none⟩, 2, 2⟩ tBad := fun w' hb => isE_node (s := []) (t := []) (i := []) rfl (isEs_block [⟨2, false, 1, ⟨#[]⟩, ⟨#[]⟩, ⟨#[]⟩, none, 0, 0⟩, ⟨1, true, 0, ⟨#[]⟩, ⟨#[]⟩, ⟨#[]⟩, none, 0, 0⟩] [eLong 1, eBool true] (kept_of_below hb k2) rfl (.cons (isE_leaf _ 2 false 1 [] [] [] 0 none) (.cons (isE_leaf _ 1 true 0 [] [] [] 0 none) .nil)))
  have C := expr13_pl (noD zU zU zU) none [] 0 0 tAnd ⟨23, false, 0, ⟨#[]⟩, ⟨#[]⟩, ⟨#[]⟩, some ⟨w3.heap.size, 0, none⟩, 2, 2⟩ _ rfl (ew_nil _ (hf.below (b3.trans (b4.mono b3.size))) _ _ _) (isE_node (s := []) (t := []) (i := []) rfl (isEs_block [⟨1, false, 0, ⟨#[]⟩, ⟨#[]⟩, ⟨#[]⟩, none, 0, 0⟩, ⟨14, false, 0, ⟨#[]⟩, ⟨#[]⟩, ⟨#[]⟩, some ⟨w.heap.size + 1, 0, none⟩, 2, 2⟩] [eBool false, tBad] h4 rfl (.cons (isE_leaf _ 1 false 0 [] [] [] 0 none) (.cons (hbad _ b4) .nil)))) (by decide +kernel) (show evalE (noD zU zU zU) tAnd = .inl (.pl (.bool false)) by kernel_rfl)
  rw [show (ofP (.bool false)).val = .agg #[.int .i64 1, .bool false, .int .i64 0, .string ⟨#[]⟩, .string ⟨#[]⟩, .string ⟨#[]⟩, .slice none 0 0] from rfl] at C
  clear h4
  go_wp2_with fail
  refine C.mono ?_
  clear C
  rintro e9 w5 ⟨rfl, b5⟩
  have b05 := b3.trans ((b4.trans (b5.mono b4.size)).mono b3.size)
  have B5 := b4.trans (b5.mono b4.size)
  have b6 := ev1 w5 (.cells #[.int .i64 1, .bool false, .int .i64 0, .string ⟨#[]⟩, .string ⟨#[]⟩, .string ⟨#[]⟩, .slice none 0 0] 31)
  have h6 := alloc_heap w5 (.cells #[.int .i64 1, .bool false, .int .i64 0, .string ⟨#[]⟩, .string ⟨#[]⟩, .string ⟨#[]⟩, .slice none 0 0] 31)
  have B6 := B5.trans (b6.mono B5.size)
  have k36 := kept_of_below B6 k3
  have b06 := b05.trans (b6.mono b05.size)
  clear c0 d0 c1 d1 c2 d2 c3 d3 c4 d4 c5 d5 c6 d6
  go_upto_region 4 with fail
  generalize w5.alloc _ = w6 at *
  have d0 : w6.cell? ⟨w.heap.size + 2, 0, none⟩ = some (.int .i64 14) := by rw [Lib.cell_of_heap k36]; rfl
  have d1 : w6.cell? ⟨w.heap.size + 2, 1, none⟩ = some (.bool false) := by rw [Lib.cell_of_heap k36]; rfl
  have d2 : w6.cell? ⟨w.heap.size + 2, 2, none⟩ = some (.int .i64 0) := by rw [Lib.cell_of_heap k36]; rfl
  have d3 : w6.cell? ⟨w.heap.size + 2, 3, none⟩ = some (.string ⟨#[]⟩) := by rw [Lib.cell_of_heap k36]; rfl
  have d4 : w6.cell? ⟨w.heap.size + 2, 4, none⟩ = some (.string ⟨#[]⟩) := by rw [Lib.cell_of_heap k36]; rfl
  have d5 : w6.cell? ⟨w.heap.size + 2, 5, none⟩ = some (.string ⟨#[]⟩) := by rw [Lib.cell_of_heap k36]; rfl
  have d6 : w6.cell? ⟨w.heap.size + 2, 6, none⟩ = some (.slice (some ⟨w.heap.size + 1, 0, none⟩) 2 2) := by rw [Lib.cell_of_heap k36]; rfl
  have C := expr13_err (noD zU zU zU) none [] 0 0 tBad ⟨14, false, 0, ⟨#[]⟩, ⟨#[]⟩, ⟨#[]⟩, some ⟨w.heap.size + 1, 0, none⟩, 2, 2⟩ w6 rfl (ew_nil _ (hf.below b06) _ _ _) (hbad w6 B6) (by decide +kernel) (show evalE (noD zU zU zU) tBad = .inr 16 by kernel_rfl)
  go_wp2_with fail
  refine C.mono ?_
  clear C
  rintro e9 w7 ⟨rfl, b7⟩
  have h7 := kept_of_below b7 h6
  have b8 := ev1 w7 (.cells #[.int .i64 0, .bool false, .int .i64 0, .string ⟨#[]⟩, .string ⟨#[]⟩, .string ⟨#[]⟩, .slice none 0 0] 31)
  have b08 := b06.trans ((b7.trans (b8.mono b7.size)).mono b06.size)
  have h8 := kept_of_below b8 h7
  clear d0 d1 d2 d3 d4 d5 d6
  go_upto_region 5 with fail
  generalize w7.alloc _ = w8 at *
  have v0 : w8.cell? ⟨w5.heap.size, 0, none⟩ = some (.int .i64 1) := by rw [Lib.cell_of_heap h8]; rfl
  have v1 : w8.cell? ⟨w5.heap.size, 1, none⟩ = some (.bool false) := by rw [Lib.cell_of_heap h8]; rfl
  go_wp2
  go_ret
  exact ⟨rfl, b08⟩
end Go.Proofs.YtbbongdnnmanlaaGreat

namespace Go.Proofs.YtbbongdnnmanlaaGreat
open Go.RowKit Go.Sort

def litP : PV → Ex
  | .bool b => eBool b
  | .long n => eLong n
  | .str s => eStr s
  | .uid t i => eUid t i
def litOk : PV → Bool
  | .long n => decide (0 ≤ n)
  | _ => true
def litG : GV → Ex
  | .pl p => litP p
  | .set l => .mk 6 false 0 [] [] [] (l.map litP)
def litGok : GV → Bool
  | .pl p => litOk p
  | .set l => l.all litOk
theorem eval_litP (D : EvD) (p : PV) : evalE D (litP p) = .inl (.pl p) := by cases p <;> rfl
theorem allR_lits (D : EvD) : ∀ l : List PV, allR ((l.map litP).map (evalE D)) = .inl (l.map GV.pl)
  | [] => rfl
  | p :: l => by
    rw [List.map_cons, List.map_cons, eval_litP]
    unfold allR
    rw [allR_lits D l]
    rfl
theorem plsOf_pl : ∀ l : List PV, plsOf (l.map GV.pl) = l
  | [] => rfl
  | p :: l => by
    have := plsOf_pl l
    unfold plsOf at this ⊢
    rw [List.map_cons, List.filterMap_cons, this]
/-- A set such as may be: rising, of one kind, of eight at most. -/
structure SetOk (l : List PV) : Prop where
  rise : Rising lessP l
  kind : ∀ p ∈ l, ∀ q ∈ l, p.kind = q.kind
  len : l.length ≤ 8
theorem kindP_ne (p : PV) : p.kind ≠ 5 := by have := kind_le p; omega
theorem likeK_pl {l : List PV} (h : ∀ p ∈ l, ∀ q ∈ l, p.kind = q.kind) : likeK (l.map GV.pl) = true := by
  cases l with
  | nil => rfl
  | cons p l =>
    rw [List.map_cons]
    unfold likeK
    rw [List.all_eq_true]
    intro x hx
    have : ∃ q ∈ p :: l, x = .pl q := by
      rcases List.mem_cons.1 hx with rfl | hx
      · exact ⟨p, List.mem_cons_self, rfl⟩
      · obtain ⟨q, hq, rfl⟩ := List.mem_map.1 hx
        exact ⟨q, List.mem_cons_of_mem _ hq, rfl⟩
    obtain ⟨q, hq, rfl⟩ := this
    have e : q.kind = p.kind := h q hq p List.mem_cons_self
    have e2 : (kindV (.pl q)) = q.kind := rfl
    have e3 : (kindV (.pl p)) = p.kind := rfl
    rw [e2, e3, e]
    simp [kindP_ne]
def okLit : GV → Prop
  | .pl p => okEG (.pl p) ∧ okEv (litP p) = true
  | .set l => SetOk l ∧ ∀ p ∈ l, okEv (litP p) = true
theorem eval_litG (D : EvD) (g : GV) (h : okLit g) : evalE D (litG g) = .inl g := by
  cases g with
  | pl p => exact eval_litP D p
  | set l =>
    have hs := h.1
    show evalE D (.mk 6 false 0 [] [] [] (l.map litP)) = _
    rw [evalE_mk]
    unfold combC
    rw [if_neg (by rintro ⟨h | h, _⟩ <;> exact absurd h (by decide)), if_neg (by rintro ⟨h, _⟩; exact absurd h (by decide)), allR_lits]
    show setC (l.map GV.pl) = _
    unfold setC
    rw [likeK_pl hs.kind, plsOf_pl, setOf_rising sto_lessP l hs.rise, if_pos rfl, if_pos hs.len]
theorem okEvL_all : ∀ {l : List Ex}, (∀ x ∈ l, okEv x = true) → okEvL l = true
  | [], _ => rfl
  | x :: l, h => by
    unfold okEvL
    rw [h x List.mem_cons_self, okEvL_all (fun y hy => h y (List.mem_cons_of_mem _ hy))]
    rfl
theorem okEv_lit {g : GV} (h : okLit g) : okEv (litG g) = true := by
  cases g with
  | pl p => exact h.2
  | set l =>
    have h0 : InR 0 := by decide
    have hl := h.1.len
    have ha : okEvL (l.map litP) = true := okEvL_all fun x hx => by
      obtain ⟨p, hp, rfl⟩ := List.mem_map.1 hx
      exact h.2 p hp
    have h1 : (l.map litP).length ≤ 100000 := by rw [List.length_map]; omega
    show okEv (.mk 6 false 0 [] [] [] (l.map litP)) = true
    unfold okEv
    rw [ha]
    simp [h0]
    omega
def twoT (k : Int) (x y : Ex) : Ex := .mk k false 0 [] [] [] [x, y]
theorem eval_two (D : EvD) (k : Int) (g h : GV) (hk : k = 9 ∨ k = 20 ∨ k = 21) (hg : okLit g) (hh : okLit h) : evalE D (twoT k (litG g) (litG h)) = twoC D k g h := by
  unfold twoT
  rw [evalE_mk]
  unfold combC
  rw [if_neg (by rintro ⟨h | h, _⟩ <;> omega), if_neg (by rintro ⟨h, _⟩; omega)]
  rw [List.map_cons, List.map_cons, List.map_nil, eval_litG D g hg, eval_litG D h hh]
  show nodeC D k false 0 [] [] [] [g, h] = _
  unfold nodeC
  rw [if_neg (by omega)]
theorem okEv_two {k : Int} {x y : Ex} (hx : okEv x = true) (hy : okEv y = true) : okEv (twoT k x y) = true := by
  have h0 : InR 0 := by decide
  unfold twoT
  simp [okEv, okEvL, hx, hy, h0]
theorem okP_plain (k : Nat) (n : Int) (xs : List Int) (hn : InR n) : okEG (.pl (plainV k n xs)) ∧ okEv (litP (plainV k n xs)) = true := by
  have h0 : InR 0 := by decide
  have h1 : (idt xs).length < 4294967281 := by
    have := txt_len (xs.take 30)
    show (txt (xs.take 30)).length < _
    omega
  unfold plainV
  repeat' split
  · exact ⟨trivial, by simp [litP, eBool, okEv, okEvL, h0]⟩
  · exact ⟨hn, by simp [litP, eLong, okEv, okEvL, hn]⟩
  · exact ⟨h1, by simp [litP, eStr, okEv, okEvL, h0, h1]⟩
  · exact ⟨trivial, by simp [litP, eUid, okEv, okEvL, h0]⟩
/-- What law 3's Good makes is such. -/
theorem okLit_good (r : RawE) (es : List RawE) (hn : InR r.n) (he : ∀ e ∈ es, InR e.n) : okLit (goodG r es) := by
  unfold goodG
  split
  · have hm : ∀ p ∈ setOf lessP (goodL r.k es), p ∈ goodL r.k es := fun p hp => (mem_setOf sto_lessP _ _).1 hp
    refine ⟨⟨rising_setOf sto_lessP _, fun p hp q hq => goodL_kind _ _ p (hm p hp) q (hm q hq), ?_⟩, fun p hp => ?_⟩
    · have h1 := len_setOf_le (goodL r.k es)
      have h2 := goodL_len r.k es
      omega
    · obtain ⟨e, hm2, rfl⟩ := List.mem_map.1 (hm p hp)
      exact (okP_plain _ _ _ (he e (List.mem_of_mem_take hm2))).2
  · exact okP_plain _ _ _ hn
end Go.Proofs.YtbbongdnnmanlaaGreat

namespace Go.Proofs.YtbbongdnnmanlaaGreat
open Go.RowKit Go.Sort

theorem isE_p (w : World) (p : PV) : IsE w PT (ofP p) (litP p) := by
  cases p with
  | bool b => exact isE_leaf w 1 b 0 [] [] [] 0 none
  | long n => exact isE_leaf w 2 false n [] [] [] 0 none
  | str s => exact isE_leaf w 3 false 0 s [] [] 0 none
  | uid t i => exact isE_leaf w 4 false 0 [] t i 0 none
theorem allX_ps (w : World) : ∀ l : List PV, AllX w (l.map ofP) (l.map litP)
  | [] => .nil
  | p :: l => .cons (isE_p w p) (allX_ps w l)
def pRow (l : List PV) : List (List Value) := l.map fun p => (ofP p).cells
theorem len_pRow (l : List PV) : ∀ c ∈ pRow l, c.length = 7 := by
  intro c hc
  obtain ⟨u, _, rfl⟩ := List.mem_map.1 hc
  rfl
theorem isEs_ownP {w : World} {B : Nat} {kv : Value} {l : List PV} (h : w.ownsRow B 35 7 kv l.length (pRow l).flatten) : ∃ ao cap, kv = .slice ao l.length cap ∧ IsEs w PT ao 0 (l.map litP) := by
  have hl : (pRow l).length = l.length := by unfold pRow; rw [List.length_map]
  have h' : w.ownsRow B 35 7 kv (pRow l).length (pRow l).flatten := by rw [hl]; exact h
  obtain ⟨ao, cap, hv, hr, _, h4⟩ := rowG_ownE (len_pRow l) h'
  rw [hl] at hv
  refine ⟨ao, cap, hv, ?_⟩
  rcases Nat.eq_zero_or_pos l.length with h0 | h0
  · obtain rfl := List.length_eq_zero_iff.1 h0
    show IsEs w PT ao 0 []
    unfold IsEs
    trivial
  obtain ⟨b, off, e, hb, _⟩ := hr 0 (by rw [hl]; exact h0)
  obtain rfl : off = 0 := (h4 _ e).1
  rw [e]
  refine isEs_at hb (l.map ofP) (l.map litP) 0 (fun i hi => ?_) (allX_ps w l)
  have hi' : i < l.length := by simpa using hi
  obtain ⟨b', off', e', _, hc⟩ := hr i (by rw [hl]; exact hi')
  rw [e] at e'
  cases e'
  have hg : (pRow l)[i]'(by rw [hl]; exact hi') = (ofP l[i]).cells := by simp [pRow]
  rw [hg] at hc
  have hg2 : (l.map ofP)[i] = ofP l[i] := by simp
  rw [hg2, Nat.zero_add]
  have key : ∀ c v, (ofP l[i]).cells[c]? = some v → w.cell? ⟨b, i * 7 + c, none⟩ = some v := fun c v hv => by
    have := hc c v hv
    rwa [Nat.zero_add] at this
  exact ⟨key 0 _ rfl, key 1 _ rfl, key 2 _ rfl, key 3 _ rfl, key 4 _ rfl, key 5 _ rfl, key 6 _ rfl⟩
theorem own_keptL {w w' : World} {B : Nat} {T : TypeId} {z : Nat} {v : Value} {m : Nat} {xs : List Value} (h : w.ownsRow B T z v m xs) (hk : ∀ g, v.ownBlock = some g → g < w.heap.size → w'.heap[g]? = w.heap[g]?) : w'.ownsRow B T z v m xs := by
  refine ⟨h.1, h.2.imp id ?_⟩
  rintro ⟨g, cap, cur, h1, h2, h3, h4⟩
  exact ⟨g, cap, cur, h1, h2, (hk g (by rw [h1]; rfl) (Array.getElem?_eq_some_iff.1 h3).1).trans h3, h4⟩

set_option maxHeartbeats 4000000 in
set_option maxRecDepth 1000000 in
theorem lit13_plain (p : PV) (w : World) : Calls Tryz.prog 6 #[(ofP p).val] w fun e w' => e = .returned (.tuple #[(ofP p).val, .bool (litOk p)]) ∧ Below w.heap.size w w' := by
  cases p with
  | bool b =>
    show Calls Tryz.prog 6 #[.agg #[.int .i64 1, .bool b, .int .i64 0, .string ⟨#[]⟩, .string ⟨#[]⟩, .string ⟨#[]⟩, .slice none 0 0]] w fun e w' => e = .returned (.tuple #[.agg #[.int .i64 1, .bool b, .int .i64 0, .string ⟨#[]⟩, .string ⟨#[]⟩, .string ⟨#[]⟩, .slice none 0 0], .bool true]) ∧ Below w.heap.size w w'
    go_enter Tryz.func6, Tryz.ntmps6
    go_wp2
    exact bodyPost_ret (v := .tuple #[.agg #[.int .i64 1, .bool b, .int .i64 0, .string ⟨#[]⟩, .string ⟨#[]⟩, .string ⟨#[]⟩, .slice none 0 0], .bool true]) (by simp [results, Tryz.results6, go_sem]) rfl ⟨rfl, below2 _ _ _⟩
  | long n =>
    show Calls Tryz.prog 6 #[.agg #[.int .i64 2, .bool false, .int .i64 n, .string ⟨#[]⟩, .string ⟨#[]⟩, .string ⟨#[]⟩, .slice none 0 0]] w fun e w' => e = .returned (.tuple #[.agg #[.int .i64 2, .bool false, .int .i64 n, .string ⟨#[]⟩, .string ⟨#[]⟩, .string ⟨#[]⟩, .slice none 0 0], .bool (decide (0 ≤ n))]) ∧ Below w.heap.size w w'
    go_enter Tryz.func6, Tryz.ntmps6
    go_upto_region 5 with fail
    go_region
    go_wp2
    exact bodyPost_ret (v := .tuple #[.agg #[.int .i64 2, .bool false, .int .i64 n, .string ⟨#[]⟩, .string ⟨#[]⟩, .string ⟨#[]⟩, .slice none 0 0], .bool (decide (0 ≤ n))]) (by simp [results, Tryz.results6, go_sem]) rfl ⟨rfl, (below2 _ _ _).drew⟩
  | str s =>
    show Calls Tryz.prog 6 #[.agg #[.int .i64 3, .bool false, .int .i64 0, .string (ba s), .string ⟨#[]⟩, .string ⟨#[]⟩, .slice none 0 0]] w fun e w' => e = .returned (.tuple #[.agg #[.int .i64 3, .bool false, .int .i64 0, .string (ba s), .string ⟨#[]⟩, .string ⟨#[]⟩, .slice none 0 0], .bool true]) ∧ Below w.heap.size w w'
    go_enter Tryz.func6, Tryz.ntmps6
    go_wp2
    exact bodyPost_ret (v := .tuple #[.agg #[.int .i64 3, .bool false, .int .i64 0, .string (ba s), .string ⟨#[]⟩, .string ⟨#[]⟩, .slice none 0 0], .bool true]) (by simp [results, Tryz.results6, go_sem]) rfl ⟨rfl, below2 _ _ _⟩
  | uid t i =>
    show Calls Tryz.prog 6 #[.agg #[.int .i64 4, .bool false, .int .i64 0, .string ⟨#[]⟩, .string (ba t), .string (ba i), .slice none 0 0]] w fun e w' => e = .returned (.tuple #[.agg #[.int .i64 4, .bool false, .int .i64 0, .string ⟨#[]⟩, .string (ba t), .string (ba i), .slice none 0 0], .bool true]) ∧ Below w.heap.size w w'
    go_enter Tryz.func6, Tryz.ntmps6
    go_wp2
    exact bodyPost_ret (v := .tuple #[.agg #[.int .i64 4, .bool false, .int .i64 0, .string ⟨#[]⟩, .string (ba t), .string (ba i), .slice none 0 0], .bool true]) (by simp [results, Tryz.results6, go_sem]) rfl ⟨rfl, below2 _ _ _⟩

/-- What lit returns: the tree, where there is one. -/
def RetL (w : World) (g : GV) (e : Ending) : Prop := ∃ q : R7, e = .returned (.tuple #[.agg #[.int .i64 q.k, .bool q.b, .int .i64 q.n, .string q.s, .string q.t, .string q.i, .slice q.lo q.ll q.lc], .bool (litGok g)]) ∧ (litGok g = true → IsE w PT q (litG g))
set_option maxHeartbeats 8000000 in
set_option maxRecDepth 1000000 in
theorem lit13_set (l : List PV) (ao : Option Addr) (c : Nat) (w : World) (h8 : l.length ≤ 8) (hr : RowV w ao (l.map ofP)) : Calls Tryz.prog 6 #[(setR ao l.length c).val] w fun e w' => RetL w' (.set l) e ∧ Below w.heap.size w w' := by
  obtain ⟨iX, hiX, xz0, xz1, xz2⟩ := info_partsE infoExpr
  obtain ⟨b3, z3, k0, k1, k2⟩ := ev3 w (.cells #[.int .i64 5, .bool false, .int .i64 0, .string ⟨#[]⟩, .string ⟨#[]⟩, .string ⟨#[]⟩, .slice ao l.length c] 31) (.cells #[.int .i64 0, .bool false, .int .i64 0, .string ⟨#[]⟩, .string ⟨#[]⟩, .string ⟨#[]⟩, .slice none 0 0] 35) (.cells #[.int .i64 6, .bool false, .int .i64 0, .string ⟨#[]⟩, .string ⟨#[]⟩, .string ⟨#[]⟩, .slice none 0 0] 35)
  have HR := hide hr
  obtain ⟨N, hN⟩ : ∃ N, N = l.length := ⟨_, rfl⟩
  show Calls Tryz.prog 6 #[.agg #[.int .i64 5, .bool false, .int .i64 0, .string ⟨#[]⟩, .string ⟨#[]⟩, .string ⟨#[]⟩, .slice ao l.length c]] w _
  rw [← hN] at k0 b3 k1 k2 h8 ⊢
  have HN := hide hN
  clear z3 hr hN
  go_enter Tryz.func6, Tryz.ntmps6
  go_upto_region 11 with fail
  generalize ((w.alloc _).alloc _).alloc _ = w3 at *
  obtain ⟨W0, hW0⟩ : ∃ W0, W0 = w.heap.size := ⟨_, rfl⟩
  rw [← hW0] at b3 k0 k1 k2 ⊢
  have HW0 := hide hW0
  clear hW0
  go_wp2
  go_loopw [5] (fun iv wr => ∃ (j : Nat) (kv : Value), iv = .int .i64 j ∧ j ≤ N ∧ (l.take j).all litOk = true ∧ Below W0 w wr ∧ wr.heap[W0]? = some (.cells #[.int .i64 5, .bool false, .int .i64 0, .string ⟨#[]⟩, .string ⟨#[]⟩, .string ⟨#[]⟩, .slice ao N c] 31 (0, 0)) ∧ wr.heap[W0 + 1]? = some (.cells #[.int .i64 0, .bool false, .int .i64 0, .string ⟨#[]⟩, .string ⟨#[]⟩, .string ⟨#[]⟩, .slice none 0 0] 35 (0, 0)) ∧ wr.heap[W0 + 2]? = some (.cells #[.int .i64 6, .bool false, .int .i64 0, .string ⟨#[]⟩, .string ⟨#[]⟩, .string ⟨#[]⟩, kv] 35 (0, 0)) ∧ wr.ownsRow (W0 + 3) 35 7 kv j (pRow (l.take j)).flatten) (fun iv _ => N - (intOf iv).toNat)
  case atStart => exact ⟨0, .slice none 0 0, by go_num, Nat.zero_le _, rfl, b3, k0, k1, k2, World.ownsRow_nil _ _ _ _⟩
  case round =>
    obtain ⟨j, kv, rfl, hj, hall, bw, c0, c1, c2, how⟩ := hrel
    have HAL := hide hall
    have HOW := hide how
    have HC0 := hide c0
    have HC1 := hide c1
    have HC2 := hide c2
    have HB := hide bw
    clear hall how c1 bw b3 k0 k1 k2
    have j0 : (0 : Int) ≤ (j : Int) := by omega
    have v5 : wr.cell? ⟨W0, 5, none⟩ = some (.string ⟨#[]⟩) := by rw [Lib.cell_of_heap c0]; rfl
    have v6 : wr.cell? ⟨W0, 6, none⟩ = some (.slice ao N c) := by rw [Lib.cell_of_heap c0]; rfl
    by_cases hlt : j < N
    · have i1 : (j : Int) < (N : Int) := by omega
      have hjl : j < l.length := by rw [← unhide HN]; exact hlt
      obtain ⟨b, off, rfl, A, hb⟩ := rowV_at (unhide HR) (by rw [← unhide HW0]; exact unhide HB) (j := j) (by rw [List.length_map]; exact hjl)
      rw [List.getElem_map] at A
      obtain ⟨a0, a1, a2, a3, a4, a5, a6⟩ := A
      obtain ⟨p, hp⟩ : ∃ p, p = l[j] := ⟨_, rfl⟩
      rw [← hp] at a0 a1 a2 a3 a4 a5 a6
      have HP := hide hp
      have C := lit13_plain p wr
      obtain ⟨x, hx⟩ : ∃ x, x = ofP p := ⟨_, rfl⟩
      rw [← hx] at a0 a1 a2 a3 a4 a5 a6 C
      have HX := hide hx
      unfold R7.val at C
      generalize hk : litOk p = ok at C
      have HK := hide hk
      clear hp hx hk c0 c2
      go_wp2_with fail
      refine C.mono ?_
      clear C a0 a1 a2 a3 a4 a5 a6 v5 v6
      rintro e w5 ⟨rfl, b5⟩
      have b6 := ev1 w5 (.cells #[.int .i64 x.k, .bool x.b, .int .i64 x.n, .string x.s, .string x.t, .string x.i, .slice x.lo x.ll x.lc] 35)
      have h6 := alloc_heap w5 (.cells #[.int .i64 x.k, .bool x.b, .int .i64 x.n, .string x.s, .string x.t, .string x.i, .slice x.lo x.ll x.lc] 35)
      have b56 := b5.trans (b6.mono b5.size)
      have HC06 := hide (kept_of_below b56 (unhide HC0))
      have HC16 := hide (kept_of_below b56 (unhide HC1))
      have HC26 := hide (kept_of_below b56 (unhide HC2))
      have HB6 := hide ((unhide HB).trans (b56.mono (by have := (unhide HB).size; have := unhide HW0; omega)))
      have HOW6 := hide (own_keptL (unhide HOW) fun g _ hg => b56.block g hg)
      have HZ6 := hide (show W0 + 3 ≤ w5.heap.size from by
        have := (Array.getElem?_eq_some_iff.1 (unhide HC2)).1
        have := b5.size
        omega)
      clear b5 b6 b56 HC0 HC1 HC2 HB HOW
      go_upto_region 15 with fail
      generalize w5.alloc _ = w6 at *
      obtain ⟨D, hD⟩ : ∃ D, D = w5.heap.size := ⟨_, rfl⟩
      rw [← hD] at h6 HZ6 ⊢
      clear hD
      cases ok with
      | false =>
        have HKF := hide (show litGok (.set l) = false from by
          show l.all litOk = false
          rw [List.all_eq_false]
          exact ⟨l[j]'(by rw [← unhide HN]; exact hlt), List.getElem_mem _, by rw [← unhide HP, unhide HK]; simp⟩)
        obtain ⟨ko, kn, kc, rfl⟩ : ∃ ao n c, kv = .slice ao n c := by
          rcases (unhide HOW6).2 with ⟨hv, _⟩ | ⟨g, cap, cur, hv, _⟩
          · exact ⟨_, _, _, hv⟩
          · exact ⟨_, _, _, hv⟩
        have e2 := unhide HC26
        have e1 := unhide HC16
        have y0 : w6.cell? ⟨(W0 + 2), 0, none⟩ = some (.int .i64 6) := by rw [Lib.cell_of_heap e2]; rfl
        have y1 : w6.cell? ⟨(W0 + 2), 1, none⟩ = some (.bool false) := by rw [Lib.cell_of_heap e2]; rfl
        have y2 : w6.cell? ⟨(W0 + 2), 2, none⟩ = some (.int .i64 0) := by rw [Lib.cell_of_heap e2]; rfl
        have y3 : w6.cell? ⟨(W0 + 2), 3, none⟩ = some (.string ⟨#[]⟩) := by rw [Lib.cell_of_heap e2]; rfl
        have y4 : w6.cell? ⟨(W0 + 2), 4, none⟩ = some (.string ⟨#[]⟩) := by rw [Lib.cell_of_heap e2]; rfl
        have y5 : w6.cell? ⟨(W0 + 2), 5, none⟩ = some (.string ⟨#[]⟩) := by rw [Lib.cell_of_heap e2]; rfl
        have y6 : w6.cell? ⟨(W0 + 2), 6, none⟩ = some (.slice ko kn kc) := by rw [Lib.cell_of_heap e2]; rfl
        have z0 : w6.cell? ⟨(W0 + 1), 0, none⟩ = some (.int .i64 0) := by rw [Lib.cell_of_heap e1]; rfl
        have z1 : w6.cell? ⟨(W0 + 1), 1, none⟩ = some (.bool false) := by rw [Lib.cell_of_heap e1]; rfl
        have z2 : w6.cell? ⟨(W0 + 1), 2, none⟩ = some (.int .i64 0) := by rw [Lib.cell_of_heap e1]; rfl
        have z3 : w6.cell? ⟨(W0 + 1), 3, none⟩ = some (.string ⟨#[]⟩) := by rw [Lib.cell_of_heap e1]; rfl
        have z4 : w6.cell? ⟨(W0 + 1), 4, none⟩ = some (.string ⟨#[]⟩) := by rw [Lib.cell_of_heap e1]; rfl
        have z5 : w6.cell? ⟨(W0 + 1), 5, none⟩ = some (.string ⟨#[]⟩) := by rw [Lib.cell_of_heap e1]; rfl
        have z6 : w6.cell? ⟨(W0 + 1), 6, none⟩ = some (.slice none 0 0) := by rw [Lib.cell_of_heap e1]; rfl
        have zf : ∀ o, w6.frozen? ⟨(W0 + 1), o, none⟩ = false := fun o => Lib.frozen_of_heap e1 o
        have hres := heap_setCell_same _ (W0 + 1) 6 _ _ (.slice ko kn kc) (heap_setCell_same _ (W0 + 1) 5 _ _ (.string ⟨#[]⟩) (heap_setCell_same _ (W0 + 1) 4 _ _ (.string ⟨#[]⟩) (heap_setCell_same _ (W0 + 1) 3 _ _ (.string ⟨#[]⟩) (heap_setCell_same _ (W0 + 1) 2 _ _ (.int .i64 0) (heap_setCell_same _ (W0 + 1) 1 _ _ (.bool false) (heap_setCell_same w6 (W0 + 1) 0 _ _ (.int .i64 6) e1))))))
        have HBE := hide (show Below W0 w (w6.setCells (W0 + 1) 0 [.int .i64 6, .bool false, .int .i64 0, .string ⟨#[]⟩, .string ⟨#[]⟩, .string ⟨#[]⟩, .slice ko kn kc]) from belowSetCells (b := W0 + 1) [.int .i64 6, .bool false, .int .i64 0, .string ⟨#[]⟩, .string ⟨#[]⟩, .string ⟨#[]⟩, .slice ko kn kc] 0 w6 (unhide HB6) (Nat.le_succ _))
        have HRES := hide (show (w6.setCells (W0 + 1) 0 [.int .i64 6, .bool false, .int .i64 0, .string ⟨#[]⟩, .string ⟨#[]⟩, .string ⟨#[]⟩, .slice ko kn kc]).heap[W0 + 1]? = _ from hres)
        clear e1 e2 h6 hres
        go_wp2
        obtain ⟨wq, hwq⟩ : ∃ wq, wq = w6.setCells (W0 + 1) 0 [.int .i64 6, .bool false, .int .i64 0, .string ⟨#[]⟩, .string ⟨#[]⟩, .string ⟨#[]⟩, .slice ko kn kc] := ⟨_, rfl⟩
        have hres := unhide HRES
        have hbe := unhide HBE
        rw [← hwq] at hres hbe
        change bodyPost _ _ _ _ _ (w6.setCells (W0 + 1) 0 [.int .i64 6, .bool false, .int .i64 0, .string ⟨#[]⟩, .string ⟨#[]⟩, .string ⟨#[]⟩, .slice ko kn kc])
        rw [← hwq]
        clear hwq
        have q0 : wq.cell? ⟨(W0 + 1), 0, none⟩ = some (.int .i64 6) := by rw [Lib.cell_of_heap hres]; rfl
        have q1 : wq.cell? ⟨(W0 + 1), 1, none⟩ = some (.bool false) := by rw [Lib.cell_of_heap hres]; rfl
        have q2 : wq.cell? ⟨(W0 + 1), 2, none⟩ = some (.int .i64 0) := by rw [Lib.cell_of_heap hres]; rfl
        have q3 : wq.cell? ⟨(W0 + 1), 3, none⟩ = some (.string ⟨#[]⟩) := by rw [Lib.cell_of_heap hres]; rfl
        have q4 : wq.cell? ⟨(W0 + 1), 4, none⟩ = some (.string ⟨#[]⟩) := by rw [Lib.cell_of_heap hres]; rfl
        have q5 : wq.cell? ⟨(W0 + 1), 5, none⟩ = some (.string ⟨#[]⟩) := by rw [Lib.cell_of_heap hres]; rfl
        have q6 : wq.cell? ⟨(W0 + 1), 6, none⟩ = some (.slice ko kn kc) := by rw [Lib.cell_of_heap hres]; rfl
        refine bodyPost_ret (v := .tuple #[.agg #[.int .i64 6, .bool false, .int .i64 0, .string ⟨#[]⟩, .string ⟨#[]⟩, .string ⟨#[]⟩, .slice ko kn kc], .bool false]) (by simp [results, Tryz.results6, go_sem, q0, q1, q2, q3, q4, q5, q6]) rfl ⟨⟨⟨6, false, 0, ⟨#[]⟩, ⟨#[]⟩, ⟨#[]⟩, ko, kn, kc⟩, by rw [unhide HKF], fun h => by rw [unhide HKF] at h; cases h⟩, ?_⟩
        rw [← unhide HW0]
        exact hbe
      | true =>
        have e2 := unhide HC26
        have v2 : w6.cell? ⟨W0 + 2, 5, none⟩ = some (.string ⟨#[]⟩) := by rw [Lib.cell_of_heap e2]; rfl
        have v6 : w6.cell? ⟨W0 + 2, 6, none⟩ = some kv := by rw [Lib.cell_of_heap e2]; rfl
        have d0 : w6.cell? ⟨D, 0, none⟩ = some (.int .i64 x.k) := by rw [Lib.cell_of_heap h6]; rfl
        have d1 : w6.cell? ⟨D, 1, none⟩ = some (.bool x.b) := by rw [Lib.cell_of_heap h6]; rfl
        have d2 : w6.cell? ⟨D, 2, none⟩ = some (.int .i64 x.n) := by rw [Lib.cell_of_heap h6]; rfl
        have d3 : w6.cell? ⟨D, 3, none⟩ = some (.string x.s) := by rw [Lib.cell_of_heap h6]; rfl
        have d4 : w6.cell? ⟨D, 4, none⟩ = some (.string x.t) := by rw [Lib.cell_of_heap h6]; rfl
        have d5 : w6.cell? ⟨D, 5, none⟩ = some (.string x.i) := by rw [Lib.cell_of_heap h6]; rfl
        have d6 : w6.cell? ⟨D, 6, none⟩ = some (.slice x.lo x.ll x.lc) := by rw [Lib.cell_of_heap h6]; rfl
        have b9 := ev1 w6 (.cells #[.int .i64 x.k, .bool x.b, .int .i64 x.n, .string x.s, .string x.t, .string x.i, .slice x.lo x.ll x.lc] 35)
        have h9 := alloc_heap w6 (.cells #[.int .i64 x.k, .bool x.b, .int .i64 x.n, .string x.s, .string x.t, .string x.i, .slice x.lo x.ll x.lc] 35)
        have HOW9 := hide (own_keptL (unhide HOW6) fun g _ hg => b9.block g hg)
        have HC09 := hide (kept_of_below b9 (unhide HC06))
        have HC19 := hide (kept_of_below b9 (unhide HC16))
        have HC29 := hide (kept_of_below b9 (unhide HC26))
        have HB9 := hide ((unhide HB6).trans (b9.mono (by have := (unhide HB6).size; have := unhide HW0; omega)))
        have hZ9 : W0 + 3 ≤ w6.heap.size := by
          have := (Array.getElem?_eq_some_iff.1 (unhide HC26)).1
          omega
        clear e2 h6 HC06 HC16 HC26 HB6 HOW6
        go_wp2_with (at_builtin; refine wpList_append_own_at _ rfl _ _ 33 rfl (W0 + 3) 35 iX _ 7 96 Tryz.underlying33 hiX xz0 xz1 xz2 rfl (by decide) _ _ _ rfl (unhide HOW9) ⟨w6.heap.size, 0, none⟩ 1 1 [.int .i64 x.k, .bool x.b, .int .i64 x.n, .string x.s, .string x.t, .string x.i, .slice x.lo x.ll x.lc] rfl rfl ?p1 ?p2 ?p3 ?p4 ?p5 ?_)
        case p1 =>
          intro c u hu
          rw [Addr.add_lit, Nat.zero_add, Lib.cell_of_heap h9]
          simpa using hu
        case p2 =>
          intro u hu
          simp only [List.mem_cons, List.not_mem_nil, or_false] at hu
          rcases hu with rfl | rfl | rfl | rfl | rfl | rfl | rfl <;> rfl
        case p3 => unfold maxLen; omega
        case p4 => omega
        case p5 => have := b9.size; omega
        intro v8 w8 hown8 hgrow _ _
        have B8 : Below W0 w w8 := (unhide HB9).grown hgrow (by have := (unhide HB9).size; have := unhide HW0; omega) (fun g e => by have := ((unhide HOW9).lt g e).1; omega)
        have hlow : ∀ K cs T, K ≤ W0 + 2 → (w6.alloc (.cells #[.int .i64 x.k, .bool x.b, .int .i64 x.n, .string x.s, .string x.t, .string x.i, .slice x.lo x.ll x.lc] 35)).heap[K]? = some (Obj.cells cs T (0, 0)) → w8.heap[K]? = some (Obj.cells cs T (0, 0)) := fun K cs T hK h => (hgrow.block K (Array.getElem?_eq_some_iff.1 h).1 (fun e => by have := ((unhide HOW9).lt K e.symm).1; omega)).trans h
        have E8 := hlow (W0 + 2) _ _ (Nat.le_refl _) (unhide HC29)
        have R8 := hlow (W0 + 1) _ _ (Nat.le_succ _) (unhide HC19)
        have V8 := hlow W0 _ _ (by omega) (unhide HC09)
        obtain ⟨ko8, kn8, kc8, rfl⟩ : ∃ ao n c, v8 = .slice ao n c := by
          rcases hown8.2 with ⟨hv, _⟩ | ⟨g, cap, cur, hv, _⟩
          · exact ⟨_, _, _, hv⟩
          · exact ⟨_, _, _, hv⟩
        have e8 : w8.cell? ⟨W0 + 2, 6, none⟩ = some kv := by rw [Lib.cell_of_heap E8]; rfl
        have f8 : w8.frozen? ⟨W0 + 2, 6, none⟩ = false := Lib.frozen_of_heap E8 6
        have htk : l.take (j + 1) = l.take j ++ [p] := by
          rw [List.take_succ_eq_append_getElem (by rw [← unhide HN]; exact hlt), ← unhide HP]
        have hown9 : (w8.setCell ⟨W0 + 2, 6, none⟩ (.slice ko8 kn8 kc8)).ownsRow (W0 + 3) 35 7 (.slice ko8 kn8 kc8) (j + 1) (pRow (l.take (j + 1))).flatten := by
          have e : (pRow (l.take (j + 1))).flatten = (pRow (l.take j)).flatten ++ [.int .i64 x.k, .bool x.b, .int .i64 x.n, .string x.s, .string x.t, .string x.i, .slice x.lo x.ll x.lc] := by
            rw [htk]
            unfold pRow
            rw [List.map_append, List.flatten_append, unhide HX]
            rfl
          rw [e]
          refine own_keptL hown8 fun g eg hg => Below.heap_setCell w8 ⟨W0 + 2, 6, none⟩ _ g (fun e2 => ?_)
          have e2 : g = W0 + 2 := e2
          have := (hown8.lt g eg).1
          omega
        have hal9 : (l.take (j + 1)).all litOk = true := by
          rw [htk, List.all_append, unhide HAL]
          simp [unhide HK]
        have HREL := hide (And.intro hown9 (And.intro (heap_setCell_same w8 (W0 + 2) 6 _ _ (.slice ko8 kn8 kc8) E8) (And.intro ((Below.heap_setCell w8 ⟨W0 + 2, 6, none⟩ (.slice ko8 kn8 kc8) (W0 + 1) (by show W0 + 1 ≠ W0 + 2; omega)).trans R8) (And.intro ((Below.heap_setCell w8 ⟨W0 + 2, 6, none⟩ (.slice ko8 kn8 kc8) W0 (by show W0 ≠ W0 + 2; omega)).trans V8) (And.intro (B8.setCell (p := ⟨W0 + 2, 6, none⟩) (by show W0 ≤ W0 + 2; omega) (.slice ko8 kn8 kc8)) hal9)))))
        clear hown8 hgrow hown9 E8 R8 V8 hlow HOW9 HC09 HC19 HC29 h9 b9 hal9 htk
        go_wp2
        go_roundw
        case rel => exact ⟨j + 1, .slice ko8 kn8 kc8, by go_num, by omega, (unhide HREL).2.2.2.2.2, (unhide HREL).2.2.2.2.1, (unhide HREL).2.2.2.1, (unhide HREL).2.2.1, (unhide HREL).2.1, (unhide HREL).1⟩
        case measure =>
          simp only [intOf]
          omega
    · obtain rfl : j = N := by omega
      have i1 : ¬ (j : Int) < (j : Int) := by omega
      have hlj : l.take j = l := List.take_of_length_le (by have := unhide HN; omega)
      have hok : litGok (.set l) = true := by
        have := unhide HAL
        rw [hlj] at this
        exact this
      have how := unhide HOW
      rw [hlj] at how
      have hjn := unhide HN
      rw [hjn] at how
      obtain ⟨ko, kc, rfl, _⟩ := isEs_ownP how
      have e2 := unhide HC2
      have e1 := unhide HC1
      rw [← hjn] at e2
      have how2 : (wr.setCells (W0 + 1) 0 [.int .i64 6, .bool false, .int .i64 0, .string ⟨#[]⟩, .string ⟨#[]⟩, .string ⟨#[]⟩, .slice ko j kc]).ownsRow (W0 + 3) 35 7 (.slice ko l.length kc) l.length (pRow l).flatten := own_keptL how fun g eg _ => heap_setCells (by have := (how.lt g eg).1; omega) _ _ _
      obtain ⟨ko2, kc2, heq, hks⟩ := isEs_ownP how2
      cases heq
      have y0 : wr.cell? ⟨(W0 + 2), 0, none⟩ = some (.int .i64 6) := by rw [Lib.cell_of_heap e2]; rfl
      have y1 : wr.cell? ⟨(W0 + 2), 1, none⟩ = some (.bool false) := by rw [Lib.cell_of_heap e2]; rfl
      have y2 : wr.cell? ⟨(W0 + 2), 2, none⟩ = some (.int .i64 0) := by rw [Lib.cell_of_heap e2]; rfl
      have y3 : wr.cell? ⟨(W0 + 2), 3, none⟩ = some (.string ⟨#[]⟩) := by rw [Lib.cell_of_heap e2]; rfl
      have y4 : wr.cell? ⟨(W0 + 2), 4, none⟩ = some (.string ⟨#[]⟩) := by rw [Lib.cell_of_heap e2]; rfl
      have y5 : wr.cell? ⟨(W0 + 2), 5, none⟩ = some (.string ⟨#[]⟩) := by rw [Lib.cell_of_heap e2]; rfl
      have y6 : wr.cell? ⟨(W0 + 2), 6, none⟩ = some (.slice ko j kc) := by rw [Lib.cell_of_heap e2]; rfl
      have z0 : wr.cell? ⟨(W0 + 1), 0, none⟩ = some (.int .i64 0) := by rw [Lib.cell_of_heap e1]; rfl
      have z1 : wr.cell? ⟨(W0 + 1), 1, none⟩ = some (.bool false) := by rw [Lib.cell_of_heap e1]; rfl
      have z2 : wr.cell? ⟨(W0 + 1), 2, none⟩ = some (.int .i64 0) := by rw [Lib.cell_of_heap e1]; rfl
      have z3 : wr.cell? ⟨(W0 + 1), 3, none⟩ = some (.string ⟨#[]⟩) := by rw [Lib.cell_of_heap e1]; rfl
      have z4 : wr.cell? ⟨(W0 + 1), 4, none⟩ = some (.string ⟨#[]⟩) := by rw [Lib.cell_of_heap e1]; rfl
      have z5 : wr.cell? ⟨(W0 + 1), 5, none⟩ = some (.string ⟨#[]⟩) := by rw [Lib.cell_of_heap e1]; rfl
      have z6 : wr.cell? ⟨(W0 + 1), 6, none⟩ = some (.slice none 0 0) := by rw [Lib.cell_of_heap e1]; rfl
      have zf : ∀ o, wr.frozen? ⟨(W0 + 1), o, none⟩ = false := fun o => Lib.frozen_of_heap e1 o
      have HIE := hide (show IsE (wr.setCells (W0 + 1) 0 [.int .i64 6, .bool false, .int .i64 0, .string ⟨#[]⟩, .string ⟨#[]⟩, .string ⟨#[]⟩, .slice ko j kc]) PT ⟨6, false, 0, ⟨#[]⟩, ⟨#[]⟩, ⟨#[]⟩, ko, j, kc⟩ (litG (.set l)) from isE_node (s := []) (t := []) (i := []) (by rw [List.length_map]; exact hjn) hks)
      have HOK := hide hok
      have HBE := hide (show Below W0 w (wr.setCells (W0 + 1) 0 [.int .i64 6, .bool false, .int .i64 0, .string ⟨#[]⟩, .string ⟨#[]⟩, .string ⟨#[]⟩, .slice ko j kc]) from belowSetCells (b := W0 + 1) [.int .i64 6, .bool false, .int .i64 0, .string ⟨#[]⟩, .string ⟨#[]⟩, .string ⟨#[]⟩, .slice ko j kc] 0 wr (unhide HB) (Nat.le_succ _))
      have HRES := hide (show (wr.setCells (W0 + 1) 0 [.int .i64 6, .bool false, .int .i64 0, .string ⟨#[]⟩, .string ⟨#[]⟩, .string ⟨#[]⟩, .slice ko j kc]).heap[W0 + 1]? = some (.cells #[.int .i64 6, .bool false, .int .i64 0, .string ⟨#[]⟩, .string ⟨#[]⟩, .string ⟨#[]⟩, .slice ko j kc] 35 (0, 0)) from heap_setCell_same _ (W0 + 1) 6 _ _ (.slice ko j kc) (heap_setCell_same _ (W0 + 1) 5 _ _ (.string ⟨#[]⟩) (heap_setCell_same _ (W0 + 1) 4 _ _ (.string ⟨#[]⟩) (heap_setCell_same _ (W0 + 1) 3 _ _ (.string ⟨#[]⟩) (heap_setCell_same _ (W0 + 1) 2 _ _ (.int .i64 0) (heap_setCell_same _ (W0 + 1) 1 _ _ (.bool false) (heap_setCell_same wr (W0 + 1) 0 _ _ (.int .i64 6) e1)))))))
      clear e1 e2 how how2 hks hok hlj hjn c0 c2
      go_wp2
      obtain ⟨wq, hwq⟩ : ∃ wq, wq = wr.setCells (W0 + 1) 0 [.int .i64 6, .bool false, .int .i64 0, .string ⟨#[]⟩, .string ⟨#[]⟩, .string ⟨#[]⟩, .slice ko j kc] := ⟨_, rfl⟩
      have hres := unhide HRES
      have hbe := unhide HBE
      have hie := unhide HIE
      rw [← hwq] at hres hbe hie
      change bodyPost _ _ _ _ _ (wr.setCells (W0 + 1) 0 [.int .i64 6, .bool false, .int .i64 0, .string ⟨#[]⟩, .string ⟨#[]⟩, .string ⟨#[]⟩, .slice ko j kc])
      rw [← hwq]
      clear hwq
      have q0 : wq.cell? ⟨(W0 + 1), 0, none⟩ = some (.int .i64 6) := by rw [Lib.cell_of_heap hres]; rfl
      have q1 : wq.cell? ⟨(W0 + 1), 1, none⟩ = some (.bool false) := by rw [Lib.cell_of_heap hres]; rfl
      have q2 : wq.cell? ⟨(W0 + 1), 2, none⟩ = some (.int .i64 0) := by rw [Lib.cell_of_heap hres]; rfl
      have q3 : wq.cell? ⟨(W0 + 1), 3, none⟩ = some (.string ⟨#[]⟩) := by rw [Lib.cell_of_heap hres]; rfl
      have q4 : wq.cell? ⟨(W0 + 1), 4, none⟩ = some (.string ⟨#[]⟩) := by rw [Lib.cell_of_heap hres]; rfl
      have q5 : wq.cell? ⟨(W0 + 1), 5, none⟩ = some (.string ⟨#[]⟩) := by rw [Lib.cell_of_heap hres]; rfl
      have q6 : wq.cell? ⟨(W0 + 1), 6, none⟩ = some (.slice ko j kc) := by rw [Lib.cell_of_heap hres]; rfl
      exact bodyPost_ret (v := .tuple #[.agg #[.int .i64 6, .bool false, .int .i64 0, .string ⟨#[]⟩, .string ⟨#[]⟩, .string ⟨#[]⟩, .slice ko j kc], .bool true]) (by simp [results, Tryz.results6, go_sem, q0, q1, q2, q3, q4, q5, q6]) rfl ⟨⟨⟨6, false, 0, ⟨#[]⟩, ⟨#[]⟩, ⟨#[]⟩, ko, j, kc⟩, by rw [unhide HOK], fun _ => hie⟩, by rw [← unhide HW0]; exact hbe⟩
end Go.Proofs.YtbbongdnnmanlaaGreat

namespace Go.Proofs.YtbbongdnnmanlaaGreat
open Go.RowKit Go.Sort

theorem sameG_pp (p q : PV) : sameG (.pl p) (.pl q) = decide (p = q) := by
  rw [Bool.eq_iff_iff, sameG_iff]
  simp
theorem sameG_ss (l m : List PV) : sameG (.set l) (.set m) = decide (l = m) := by
  rw [Bool.eq_iff_iff, sameG_iff]
  simp
theorem sameG_no {g h : GV} (hn : g ≠ h) : sameG g h = false := by
  cases e : sameG g h with
  | false => rfl
  | true => exact absurd ((sameG_iff g h).1 e) hn
theorem r3same_unS (R R' : R7) (w : World) (h : R.k ≠ R'.k) : Calls Tryz.prog 8 #[R.val, R'.val] w fun e w' => e = .returned (.bool false) ∧ Below w.heap.size w w' := by
  obtain ⟨k, b, n, s, t, i, lo, ll, lc⟩ := R
  obtain ⟨k', b', n', s', t', i', lo', ll', lc'⟩ := R'
  exact r3same_unlike k b n s t i k' b' n' s' t' i' lo lo' ll ll' lc lc' (fun hf => h hf.1) w
theorem ofP_k5 (p : PV) : (ofP p).k ≠ 5 := by cases p <;> simp [ofP]
theorem r3sameS_any (G G' : GV) (R R' : R7) (w : World) (h : IsG w G R) (h' : IsG w G' R') (hl : G.len ≤ 1048576) :
    Calls Tryz.prog 8 #[R.val, R'.val] w fun e w' => e = .returned (.bool (sameG G G')) ∧ Below w.heap.size w w' := by
  cases G with
  | pl p =>
    obtain rfl : R = ofP p := h
    cases G' with
    | pl q =>
      obtain rfl : R' = ofP q := h'
      have := r3same_plain p q none none 0 0 w
      rw [← ofP_val, ← ofP_val] at this
      rw [sameG_pp]
      exact this
    | set m =>
      obtain ⟨ao', c', rfl, hr', _⟩ := h'
      rw [sameG_no (by intro e; cases e)]
      exact r3same_unS _ _ w (ofP_k5 p)
  | set l =>
    obtain ⟨ao, c, rfl, hr, _⟩ := h
    cases G' with
    | pl q =>
      obtain rfl : R' = ofP q := h'
      rw [sameG_no (by intro e; cases e)]
      exact r3same_unS _ _ w (Ne.symm (ofP_k5 q))
    | set m =>
      obtain ⟨ao', c', rfl, hr', _⟩ := h'
      rw [sameG_ss]
      exact r3same_set l m ao ao' c c' w hl (rowP_V hr) (rowP_V hr')

set_option maxHeartbeats 2000000 in
set_option maxRecDepth 1000000 in
theorem r3holdsG_any (l : List PV) (q : GV) (r : R7) (ao : Option Addr) (c : Nat) (w : World) (hl : l.length ≤ 1048576) (hr : RowV w ao (l.map ofP)) (hq : IsG w q r) :
    Calls Tryz.prog 9 #[(setR ao l.length c).val, r.val] w fun e w' => e = .returned (.bool (hasG l q)) ∧ Below w.heap.size w w' := by
  have HS := hide (fun (p : PV) w' (hb : Below w.heap.size w w') => r3sameS_any (.pl p) q (ofP p) r w' rfl (hq.below hb) (Nat.zero_le _))
  clear hq
  show Calls Tryz.prog 9 #[.agg #[.int .i64 5, .bool false, .int .i64 0, .string ⟨#[]⟩, .string ⟨#[]⟩, .string ⟨#[]⟩, .slice ao l.length c], .agg #[.int .i64 r.k, .bool r.b, .int .i64 r.n, .string r.s, .string r.t, .string r.i, .slice r.lo r.ll r.lc]] w _
  have HR := hide hr
  clear hr
  obtain ⟨b2, z2, k0, k1⟩ := ev2 w (.cells #[.int .i64 5, .bool false, .int .i64 0, .string ⟨#[]⟩, .string ⟨#[]⟩, .string ⟨#[]⟩, .slice ao l.length c] 31) (.cells #[.int .i64 r.k, .bool r.b, .int .i64 r.n, .string r.s, .string r.t, .string r.i, .slice r.lo r.ll r.lc] 31)
  clear z2
  go_enter Tryz.func9, Tryz.ntmps9
  go_wp2
  generalize (w.alloc _).alloc _ = w2 at *
  go_loopw [5] (fun iv wr => ∃ i : Nat, iv = .int .i64 i ∧ i ≤ l.length ∧ Below w2.heap.size w2 wr ∧ (hasG l q = hasG (l.drop i) q)) (fun iv _ => l.length - (intOf iv).toNat)
  case atStart => exact ⟨0, by go_num, Nat.zero_le _, Below.refl _ _, by simp⟩
  case round =>
    obtain ⟨j, rfl, hj, hbw, hacc⟩ := hrel
    have Hacc := hide hacc
    clear hacc
    have h0 := kept_of_below hbw k0
    have h1 := kept_of_below hbw k1
    have BW := b2.trans (hbw.mono b2.size)
    have c0 : wr.cell? ⟨w.heap.size, 0, none⟩ = some (.int .i64 5) := by rw [Lib.cell_of_heap h0]; rfl
    have c6 : wr.cell? ⟨w.heap.size, 6, none⟩ = some (.slice ao l.length c) := by rw [Lib.cell_of_heap h0]; rfl
    by_cases hlt : j < l.length
    · have i1 : (j : Int) < (l.length : Int) := by omega
      have i0 : (0 : Int) ≤ (j : Int) := by omega
      obtain ⟨b, off, rfl, B, hb⟩ := rowV_at (unhide HR) BW (j := j) (by rw [List.length_map]; exact hlt)
      rw [List.getElem_map] at B
      have HC := hide (hasG_cons l q j hlt)
      have SM := fun w' (hb' : Below wr.heap.size wr w') => unhide HS l[j] w' (BW.trans (hb'.mono BW.size))
      obtain ⟨p, ep⟩ : ∃ p, p = l[j] := ⟨_, rfl⟩
      rw [← ep] at B HC SM
      clear ep
      obtain ⟨x, hx⟩ : ∃ x, x = sameG (.pl p) q := ⟨_, rfl⟩
      rw [← hx] at SM HC
      clear hx
      generalize ofP p = rp at *
      unfold R7.val at SM
      obtain ⟨e0, e1, e2, e3, e4, e5, e6⟩ := B.up
      have d0 := cell_regrown (show wr.cell? ⟨w.heap.size + 1, 0, none⟩ = some (.int .i64 r.k) by rw [Lib.cell_of_heap h1]; rfl)
      have d1 := cell_regrown (show wr.cell? ⟨w.heap.size + 1, 1, none⟩ = some (.bool r.b) by rw [Lib.cell_of_heap h1]; rfl)
      have d2 := cell_regrown (show wr.cell? ⟨w.heap.size + 1, 2, none⟩ = some (.int .i64 r.n) by rw [Lib.cell_of_heap h1]; rfl)
      have d3 := cell_regrown (show wr.cell? ⟨w.heap.size + 1, 3, none⟩ = some (.string r.s) by rw [Lib.cell_of_heap h1]; rfl)
      have d4 := cell_regrown (show wr.cell? ⟨w.heap.size + 1, 4, none⟩ = some (.string r.t) by rw [Lib.cell_of_heap h1]; rfl)
      have d5 := cell_regrown (show wr.cell? ⟨w.heap.size + 1, 5, none⟩ = some (.string r.i) by rw [Lib.cell_of_heap h1]; rfl)
      have d6 := cell_regrown (show wr.cell? ⟨w.heap.size + 1, 6, none⟩ = some (.slice r.lo r.ll r.lc) by rw [Lib.cell_of_heap h1]; rfl)
      have g6 := cell_regrown c6
      have cS := fun d os => Calls.regrown_of (w := wr) (d := d) (os := os) (SM (grow (redrawn wr d) os) (below_regrown wr d os))
      clear B SM h0 h1
      go_wp2_with fail
      refine wp_region_quiet_below (by kernel_rfl) (by kernel_rfl) ?_
      repeat (quiet_step (exact cS _ _))
      refine wpQuiet_nil ?_
      intro _ hw'
      obtain ⟨⟨dq, osq⟩, hw''⟩ := hw'
      subst hw''
      have b3 := hbw.trans ((below_regrown wr dq osq).mono hbw.size)
      clear cS
      generalize grow (redrawn wr dq) osq = w3 at *
      clear e0 e1 e2 e3 e4 e5 e6 d0 d1 d2 d3 d4 d5 d6 g6 c0 c6
      cases x
      · go_wp2
        go_roundw
        case rel => exact ⟨j + 1, by go_num, by omega, b3, by rw [unhide Hacc, unhide HC]; rfl⟩
        case measure =>
          simp only [intOf]
          omega
      · go_wp2
        go_ret
        exact ⟨ret_bool (by rw [unhide Hacc, unhide HC]; rfl), b2.trans (b3.mono b2.size)⟩
    · have i1 : ¬ (j : Int) < (l.length : Int) := by omega
      go_wp2
      go_ret
      refine ⟨ret_bool ?_, BW⟩
      rw [unhide Hacc, List.drop_eq_nil_of_le (by omega)]
      rfl
end Go.Proofs.YtbbongdnnmanlaaGreat

namespace Go.Proofs.YtbbongdnnmanlaaGreat
open Go.RowKit Go.Sort

def ifT (c x y : Ex) : Ex := .mk 25 false 0 [] [] [] [c, x, y]
def andT (x y : Ex) : Ex := .mk 23 false 0 [] [] [] [x, y]
def orT (x y : Ex) : Ex := .mk 24 false 0 [] [] [] [x, y]
theorem eval_ifY (D : EvD) (x y : Ex) : evalE D (ifT (eBool true) x y) = evalE D x := by
  unfold ifT
  rw [evalE_mk]
  show ifC (evalE D (eBool true)) (evalE D x) (evalE D y) = _
  rfl
theorem eval_ifN (D : EvD) (x y : Ex) : evalE D (ifT (eBool false) x y) = evalE D y := by
  unfold ifT
  rw [evalE_mk]
  show ifC (evalE D (eBool false)) (evalE D x) (evalE D y) = _
  rfl
theorem eval_andN (D : EvD) (y : Ex) : evalE D (andT (eBool false) y) = .inl (.pl (.bool false)) := by
  unfold andT
  rw [evalE_mk]
  show bothC false (evalE D (eBool false)) (evalE D y) = _
  rfl
theorem eval_orY (D : EvD) (y : Ex) : evalE D (orT (eBool true) y) = .inl (.pl (.bool true)) := by
  unfold orT
  rw [evalE_mk]
  show bothC true (evalE D (eBool true)) (evalE D y) = _
  rfl
theorem okEv_b (b : Bool) : okEv (eBool b) = true := by cases b <;> decide +kernel
theorem okEv_3 {x y z : Ex} (hx : okEv x = true) (hy : okEv y = true) (hz : okEv z = true) : okEv (ifT x y z) = true := by
  have h0 : InR 0 := by decide
  unfold ifT
  simp [okEv, okEvL, hx, hy, hz, h0]
theorem okEv_2a {x y : Ex} (hx : okEv x = true) (hy : okEv y = true) : okEv (andT x y) = true := by
  have h0 : InR 0 := by decide
  unfold andT
  simp [okEv, okEvL, hx, hy, h0]
theorem okEv_2o {x y : Ex} (hx : okEv x = true) (hy : okEv y = true) : okEv (orT x y) = true := by
  have h0 : InR 0 := by decide
  unfold orT
  simp [okEv, okEvL, hx, hy, h0]
/-- A result and its error, in memory. -/
def MatE (w : World) (r : EvR) (R : R7) (k : Int) : Prop := match r with
  | .inl g => k = 0 ∧ IsG w g R ∧ okEG g
  | .inr x => k = x ∧ x ≠ 0 ∧ R = zero7
theorem MatE.below {w w' : World} {r : EvR} {R : R7} {k : Int} (h : MatE w r R k) (hb : Below w.heap.size w w') : MatE w' r R k := by
  cases r with
  | inl g =>
    obtain ⟨h1, h2, h3⟩ : k = 0 ∧ IsG w g R ∧ okEG g := h
    exact ⟨h1, h2.below hb, h3⟩
  | inr x => exact h
theorem MatE.err {w w' : World} {r : EvR} {R R' : R7} {k k' : Int} (h : MatE w r R k) (h' : MatE w' r R' k') : k = k' := by
  cases r with
  | inl g =>
    obtain ⟨h1, _, _⟩ : k = 0 ∧ IsG w g R ∧ okEG g := h
    obtain ⟨h2, _, _⟩ : k' = 0 ∧ IsG w' g R' ∧ okEG g := h'
    rw [h1, h2]
  | inr x =>
    obtain ⟨h1, _, _⟩ : k = x ∧ x ≠ 0 ∧ R = zero7 := h
    obtain ⟨h2, _, _⟩ : k' = x ∧ x ≠ 0 ∧ R' = zero7 := h'
    rw [h1, h2]
theorem MatE.same {w : World} {r : EvR} {R R' : R7} {k k' : Int} (h : MatE w r R k) (h' : MatE w r R' k') : Calls Tryz.prog 8 #[.agg #[.int .i64 R.k, .bool R.b, .int .i64 R.n, .string R.s, .string R.t, .string R.i, .slice R.lo R.ll R.lc], .agg #[.int .i64 R'.k, .bool R'.b, .int .i64 R'.n, .string R'.s, .string R'.t, .string R'.i, .slice R'.lo R'.ll R'.lc]] w fun e w' => e = .returned (.bool true) ∧ Below w.heap.size w w' := by
  cases r with
  | inl g =>
    obtain ⟨_, h1, h2⟩ : k = 0 ∧ IsG w g R ∧ okEG g := h
    obtain ⟨_, h3, _⟩ : k' = 0 ∧ IsG w g R' ∧ okEG g := h'
    refine r3sameG_true g R R' w h1 h3 ?_
    cases g with
    | pl p => exact Nat.zero_le _
    | set l => exact h2
  | inr x =>
    obtain ⟨_, _, rfl⟩ : k = x ∧ x ≠ 0 ∧ R = zero7 := h
    obtain ⟨_, _, rfl⟩ : k' = x ∧ x ≠ 0 ∧ R' = zero7 := h'
    exact r3same_zero w
end Go.Proofs.YtbbongdnnmanlaaGreat
