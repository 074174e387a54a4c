/-
  chancellaw13: an evaluation without entities; known, within.
  Plain: trees of uids, and of in.
  chancellaw13.EvalVars, plain: a variable is the request's uid, and in itself.
  chancelref11.Envs of a schema that has nothing: none.
-/
import Derived.Test.YtakolbijajlhkaaGreatEvPQ
import Derived.Test.YtakolbijajlhkaaGreatExBS
import Derived.Test.YtakolbijajlhkaaGreatEoMq
import Derived.Test.YtakolbijajlhkaaGreatMpEG
import Derived.Test.YtakolbijajlhkaaGreatElAO
namespace Go.Proofs.YtakolbijajlhkaaGreat
open Go.RowKit Go.Sort

def zU : U2 := ⟨⟨#[]⟩, ⟨#[]⟩⟩
/-- No entities. -/
def noD (p a r : U2) : EvD := ⟨p, a, r, [], fun u x => decide (u = x)⟩
theorem way_nil {u x : U2} : Way (upS []) u x ↔ u = x := by
  constructor
  · intro h
    induction h with
    | here => rfl
    | step _ hx => cases hx
  · rintro rfl
    exact .here _
theorem ew_nil (w : World) (hf : FitL w) (p a r : U2) : EW w none [] (noD p a r) where
  row := rowG_nil _ _ _
  all := ⟨rfl, fun j h => absurd h (Nat.not_lt_zero _)⟩
  len := by simp
  inA := fun cap u x w' _ => by
    have hS := steps_up (w := w') (P := fun _ => True) (es := []) (ps := []) ⟨rfl, fun j h => absurd h (Nat.not_lt_zero _)⟩ (by simp) (by simp)
    refine (in_any (upS []) [] none cap u x [] w' (by simp) (rowG_nil _ _ _) hS (fun _ v hv => by cases hv) (by simp)).mono ?_
    rintro e w'' ⟨hb, z, rfl, hz⟩
    refine ⟨?_, hb⟩
    rw [way_nil] at hz
    have : z = decide (u = x) := by
      cases z with
      | true => exact (decide_eq_true (hz.1 rfl)).symm
      | false => exact (decide_eq_false (fun h => by cases hz.2 h)).symm
    rw [this]
    rfl
  ok := fun p hp => by cases hp
  fit := hf
set_option maxHeartbeats 400000 in
set_option maxRecDepth 100000 in
theorem within13_any (a n : Int) (hn : 0 < n) (hn1 : n ≤ 4294967296) (w : World) :
    Calls Tryz.prog 6 #[.int .i64 a, .int .i64 n] w fun e w' => e = .returned (.int .i64 (a % n)) ∧ w' = w := by
  go_enter Tryz.func6, Tryz.ntmps6
  go_wp2
  · go_ret
    exact ⟨ret_int5 (tmod_neg a n hn hn1 (by assumption)), rfl⟩
  · go_ret
    exact ⟨ret_int5 (tmod_pos a n hn (by assumption)), rfl⟩
/-- Where a tree errs nothing but the error is answered. -/
theorem expr13_err {x : Int} (D : EvD) (glo : Option Addr) (gs : List E4) (N c : Nat) (e : Ex) (q : R7) (w : World) (hN : N = gs.length) (hE : EW w glo gs D) (hq : IsE w (fun _ => True) q e) (hok : okEv e = true) (h : evalE D e = .inr x) :
    Calls Tryz.prog 7 #[.slice glo N c, .agg #[.string D.p.t, .string D.p.i, .string D.a.t, .string D.a.i, .string D.r.t, .string D.r.i], .agg #[.int .i64 q.k, .bool q.b, .int .i64 q.n, .string q.s, .string q.t, .string q.i, .slice q.lo q.ll q.lc]] w fun en w' => en = .returned (.tuple #[.agg #[.int .i64 0, .bool false, .int .i64 0, .string ⟨#[]⟩, .string ⟨#[]⟩, .string ⟨#[]⟩, .slice none 0 0], .int .i64 x]) ∧ Below w.heap.size w w' := by
  refine (expr13_any glo gs N c D e q w hN hE hq hok).mono ?_
  rintro en w' ⟨⟨R, k, rfl, hm⟩, hb⟩
  rw [h] at hm
  obtain ⟨rfl, _, rfl⟩ : k = x ∧ x ≠ 0 ∧ R = zero7 := hm
  exact ⟨rfl, hb⟩
/-- Where it comes to a plain value that is answered. -/
theorem expr13_pl {p : PV} (D : EvD) (glo : Option Addr) (gs : List E4) (N c : Nat) (e : Ex) (q : R7) (w : World) (hN : N = gs.length) (hE : EW w glo gs D) (hq : IsE w (fun _ => True) q e) (hok : okEv e = true) (h : evalE D e = .inl (.pl p)) :
    Calls Tryz.prog 7 #[.slice glo N c, .agg #[.string D.p.t, .string D.p.i, .string D.a.t, .string D.a.i, .string D.r.t, .string D.r.i], .agg #[.int .i64 q.k, .bool q.b, .int .i64 q.n, .string q.s, .string q.t, .string q.i, .slice q.lo q.ll q.lc]] w fun en w' => en = .returned (.tuple #[(ofP p).val, .int .i64 0]) ∧ Below w.heap.size w w' := by
  refine (expr13_any glo gs N c D e q w hN hE hq hok).mono ?_
  rintro en w' ⟨⟨R, k, rfl, hm⟩, hb⟩
  rw [h] at hm
  obtain ⟨rfl, hg, _⟩ : k = 0 ∧ IsG w' (.pl p) R ∧ okEG (.pl p) := hm
  have hg : R = ofP p := hg
  subst hg
  exact ⟨rfl, hb⟩
def tBad : Ex := eOp 14 [eLong 1, eBool true]
def tAnd : Ex := eOp 23 [eBool false, tBad]
set_option maxHeartbeats 4000000 in
set_option maxRecDepth 1000000 in
theorem known13_any (w : World) (hf : FitL w) : Calls Tryz.prog 4 #[] w fun e w' => e = .returned (.bool true) ∧ Below w.heap.size w w' := by
  obtain ⟨b3, z3, k1, k2, k3⟩ := ev3 w (.cells #[.int .i64 1, .bool false, .int .i64 0, .string ⟨#[]⟩, .string ⟨#[]⟩, .string ⟨#[]⟩, .slice none 0 0] 44) (.cells #[.int .i64 2, .bool false, .int .i64 1, .string ⟨#[]⟩, .string ⟨#[]⟩, .string ⟨#[]⟩, .slice none 0 0, .int .i64 1, .bool true, .int .i64 0, .string ⟨#[]⟩, .string ⟨#[]⟩, .string ⟨#[]⟩, .slice none 0 0] 44) (.cells #[.int .i64 14, .bool false, .int .i64 0, .string ⟨#[]⟩, .string ⟨#[]⟩, .string ⟨#[]⟩, .slice (some ⟨w.heap.size + 1, 0, none⟩) 2 2] 44)
  clear z3
  go_enter Tryz.func4, Tryz.ntmps4
  go_upto_region 3 with fail
  generalize ((w.alloc _).alloc _).alloc _ = w3 at *
  have c0 : w3.cell? ⟨w.heap.size, 0, none⟩ = some (.int .i64 1) := by rw [Lib.cell_of_heap k1]; rfl
  have c1 : w3.cell? ⟨w.heap.size, 1, none⟩ = some (.bool false) := by rw [Lib.cell_of_heap k1]; rfl
  have c2 : w3.cell? ⟨w.heap.size, 2, none⟩ = some (.int .i64 0) := by rw [Lib.cell_of_heap k1]; rfl
  have c3 : w3.cell? ⟨w.heap.size, 3, none⟩ = some (.string ⟨#[]⟩) := by rw [Lib.cell_of_heap k1]; rfl
  have c4 : w3.cell? ⟨w.heap.size, 4, none⟩ = some (.string ⟨#[]⟩) := by rw [Lib.cell_of_heap k1]; rfl
  have c5 : w3.cell? ⟨w.heap.size, 5, none⟩ = some (.string ⟨#[]⟩) := by rw [Lib.cell_of_heap k1]; rfl
  have c6 : w3.cell? ⟨w.heap.size, 6, none⟩ = some (.slice none 0 0) := by rw [Lib.cell_of_heap k1]; rfl
  have d0 : w3.cell? ⟨w.heap.size + 2, 0, none⟩ = some (.int .i64 14) := by rw [Lib.cell_of_heap k3]; rfl
  have d1 : w3.cell? ⟨w.heap.size + 2, 1, none⟩ = some (.bool false) := by rw [Lib.cell_of_heap k3]; rfl
  have d2 : w3.cell? ⟨w.heap.size + 2, 2, none⟩ = some (.int .i64 0) := by rw [Lib.cell_of_heap k3]; rfl
  have d3 : w3.cell? ⟨w.heap.size + 2, 3, none⟩ = some (.string ⟨#[]⟩) := by rw [Lib.cell_of_heap k3]; rfl
  have d4 : w3.cell? ⟨w.heap.size + 2, 4, none⟩ = some (.string ⟨#[]⟩) := by rw [Lib.cell_of_heap k3]; rfl
  have d5 : w3.cell? ⟨w.heap.size + 2, 5, none⟩ = some (.string ⟨#[]⟩) := by rw [Lib.cell_of_heap k3]; rfl
  have d6 : w3.cell? ⟨w.heap.size + 2, 6, none⟩ = some (.slice (some ⟨w.heap.size + 1, 0, none⟩) 2 2) := by rw [Lib.cell_of_heap k3]; rfl
  have b4 := ev1 w3 (.cells #[.int .i64 1, .bool false, .int .i64 0, .string ⟨#[]⟩, .string ⟨#[]⟩, .string ⟨#[]⟩, .slice none 0 0, .int .i64 14, .bool false, .int .i64 0, .string ⟨#[]⟩, .string ⟨#[]⟩, .string ⟨#[]⟩, .slice (some ⟨w.heap.size + 1, 0, none⟩) 2 2] 44)
  have h4 := alloc_heap w3 (.cells #[.int .i64 1, .bool false, .int .i64 0, .string ⟨#[]⟩, .string ⟨#[]⟩, .string ⟨#[]⟩, .slice none 0 0, .int .i64 14, .bool false, .int .i64 0, .string ⟨#[]⟩, .string ⟨#[]⟩, .string ⟨#[]⟩, .slice (some ⟨w.heap.size + 1, 0, none⟩) 2 2] 44)
  have hbad : ∀ w', Below w3.heap.size w3 w' → IsE w' PT ⟨14, false, 0, ⟨#[]⟩, ⟨#[]⟩, ⟨#[]⟩, some ⟨w.heap.size + 1, 0, none⟩, 2, 2⟩ tBad := fun w' hb => isE_node (s := []) (t := []) (i := []) rfl (isEs_block [⟨2, false, 1, ⟨#[]⟩, ⟨#[]⟩, ⟨#[]⟩, none, 0, 0⟩, ⟨1, true, 0, ⟨#[]⟩, ⟨#[]⟩, ⟨#[]⟩, none, 0, 0⟩] [eLong 1, eBool true] (kept_of_below hb k2) rfl (.cons (isE_leaf _ 2 false 1 [] [] [] 0 none) (.cons (isE_leaf _ 1 true 0 [] [] [] 0 none) .nil)))
  have C := expr13_pl (noD zU zU zU) none [] 0 0 tAnd ⟨23, false, 0, ⟨#[]⟩, ⟨#[]⟩, ⟨#[]⟩, some ⟨w3.heap.size, 0, none⟩, 2, 2⟩ _ rfl (ew_nil _ (hf.below (b3.trans (b4.mono b3.size))) _ _ _) (isE_node (s := []) (t := []) (i := []) rfl (isEs_block [⟨1, false, 0, ⟨#[]⟩, ⟨#[]⟩, ⟨#[]⟩, none, 0, 0⟩, ⟨14, false, 0, ⟨#[]⟩, ⟨#[]⟩, ⟨#[]⟩, some ⟨w.heap.size + 1, 0, none⟩, 2, 2⟩] [eBool false, tBad] h4 rfl (.cons (isE_leaf _ 1 false 0 [] [] [] 0 none) (.cons (hbad _ b4) .nil)))) (by decide +kernel) (show evalE (noD zU zU zU) tAnd = .inl (.pl (.bool false)) by kernel_rfl)
  rw [show (ofP (.bool false)).val = .agg #[.int .i64 1, .bool false, .int .i64 0, .string ⟨#[]⟩, .string ⟨#[]⟩, .string ⟨#[]⟩, .slice none 0 0] from rfl] at C
  clear h4
  go_wp2_with fail
  refine C.mono ?_
  clear C
  rintro e9 w5 ⟨rfl, b5⟩
  have b05 := b3.trans ((b4.trans (b5.mono b4.size)).mono b3.size)
  have B5 := b4.trans (b5.mono b4.size)
  have b6 := ev1 w5 (.cells #[.int .i64 1, .bool false, .int .i64 0, .string ⟨#[]⟩, .string ⟨#[]⟩, .string ⟨#[]⟩, .slice none 0 0] 37)
  have h6 := alloc_heap w5 (.cells #[.int .i64 1, .bool false, .int .i64 0, .string ⟨#[]⟩, .string ⟨#[]⟩, .string ⟨#[]⟩, .slice none 0 0] 37)
  have B6 := B5.trans (b6.mono B5.size)
  have k36 := kept_of_below B6 k3
  have b06 := b05.trans (b6.mono b05.size)
  clear c0 d0 c1 d1 c2 d2 c3 d3 c4 d4 c5 d5 c6 d6
  go_upto_region 4 with fail
  generalize w5.alloc _ = w6 at *
  have d0 : w6.cell? ⟨w.heap.size + 2, 0, none⟩ = some (.int .i64 14) := by rw [Lib.cell_of_heap k36]; rfl
  have d1 : w6.cell? ⟨w.heap.size + 2, 1, none⟩ = some (.bool false) := by rw [Lib.cell_of_heap k36]; rfl
  have d2 : w6.cell? ⟨w.heap.size + 2, 2, none⟩ = some (.int .i64 0) := by rw [Lib.cell_of_heap k36]; rfl
  have d3 : w6.cell? ⟨w.heap.size + 2, 3, none⟩ = some (.string ⟨#[]⟩) := by rw [Lib.cell_of_heap k36]; rfl
  have d4 : w6.cell? ⟨w.heap.size + 2, 4, none⟩ = some (.string ⟨#[]⟩) := by rw [Lib.cell_of_heap k36]; rfl
  have d5 : w6.cell? ⟨w.heap.size + 2, 5, none⟩ = some (.string ⟨#[]⟩) := by rw [Lib.cell_of_heap k36]; rfl
  have d6 : w6.cell? ⟨w.heap.size + 2, 6, none⟩ = some (.slice (some ⟨w.heap.size + 1, 0, none⟩) 2 2) := by rw [Lib.cell_of_heap k36]; rfl
  have C := expr13_err (noD zU zU zU) none [] 0 0 tBad ⟨14, false, 0, ⟨#[]⟩, ⟨#[]⟩, ⟨#[]⟩, some ⟨w.heap.size + 1, 0, none⟩, 2, 2⟩ w6 rfl (ew_nil _ (hf.below b06) _ _ _) (hbad w6 B6) (by decide +kernel) (show evalE (noD zU zU zU) tBad = .inr 16 by kernel_rfl)
  go_wp2_with fail
  refine C.mono ?_
  clear C
  rintro e9 w7 ⟨rfl, b7⟩
  have h7 := kept_of_below b7 h6
  have b8 := ev1 w7 (.cells #[.int .i64 0, .bool false, .int .i64 0, .string ⟨#[]⟩, .string ⟨#[]⟩, .string ⟨#[]⟩, .slice none 0 0] 37)
  have b08 := b06.trans ((b7.trans (b8.mono b7.size)).mono b06.size)
  have h8 := kept_of_below b8 h7
  clear d0 d1 d2 d3 d4 d5 d6
  go_upto_region 5 with fail
  generalize w7.alloc _ = w8 at *
  have v0 : w8.cell? ⟨w5.heap.size, 0, none⟩ = some (.int .i64 1) := by rw [Lib.cell_of_heap h8]; rfl
  have v1 : w8.cell? ⟨w5.heap.size, 1, none⟩ = some (.bool false) := by rw [Lib.cell_of_heap h8]; rfl
  go_wp2
  go_ret
  exact ⟨rfl, b08⟩
end Go.Proofs.YtakolbijajlhkaaGreat

namespace Go.Proofs.YtakolbijajlhkaaGreat
open Go.RowKit Go.Sort

def uT (u : U2) : Ex := eUid u.t.data.toList u.i.data.toList
def uP (u : U2) : PV := .uid u.t.data.toList u.i.data.toList
def inT (x y : Ex) : Ex := .mk 22 false 0 [] [] [] [x, y]
theorem eval_uT (D : EvD) (u : U2) : evalE D (uT u) = .inl (.pl (uP u)) := rfl
theorem uOf_uP (u : U2) : uOf (uP u) = u := by
  show (⟨ba u.t.data.toList, ba u.i.data.toList⟩ : U2) = u
  rw [ba_of, ba_of]
theorem okEv_in {x y : Ex} (hx : okEv x = true) (hy : okEv y = true) : okEv (inT x y) = true := by
  have h0 : InR 0 := by decide
  unfold inT
  simp [okEv, okEvL, hx, hy, h0]
theorem okEv_u (u : U2) : okEv (uT u) = true := by
  have h0 : InR 0 := by decide
  unfold uT eUid
  simp [okEv, okEvL, h0]
end Go.Proofs.YtakolbijajlhkaaGreat

namespace Go.Proofs.YtakolbijajlhkaaGreat
open Go.RowKit Go.Sort

/-- The name of a variable, and its uid, by a number below three. -/
def vrN (m : Nat) : List UInt8 := if m = 0 then [112, 114, 105, 110, 99, 105, 112, 97, 108] else if m = 1 then [97, 99, 116, 105, 111, 110] else [114, 101, 115, 111, 117, 114, 99, 101]
def vrU (D : EvD) (m : Nat) : U2 := if m = 0 then D.p else if m = 1 then D.a else D.r
theorem eval_var (D : EvD) (m : Nat) (hm : m < 3) : evalE D (eVar (vrN m)) = .inl (.pl (uP (vrU D m))) := by
  match m, hm with
  | 0, _ => rfl
  | 1, _ => rfl
  | 2, _ => rfl
  | m + 3, h => exact absurd h (by omega)
theorem eval_inV (D : EvD) (u : U2) (m : Nat) (hm : m < 3) : evalE D (inT (uT u) (eVar (vrN m))) = boolC (D.f u (vrU D m)) := by
  have h : evalE D (inT (uT u) (eVar (vrN m))) = (match allR [evalE D (uT u), evalE D (eVar (vrN m))] with | .inl gs => nodeC D 22 false 0 [] [] [] gs | .inr e => (Sum.inr e : EvR)) := by
    unfold inT
    rw [evalE_mk]
    rfl
  rw [h, eval_var D m hm, eval_uT]
  show boolC (D.f (uOf (uP u)) (uOf (uP (vrU D m))) || false) = _
  rw [Bool.or_false, uOf_uP, uOf_uP]
end Go.Proofs.YtakolbijajlhkaaGreat

namespace Go.Proofs.YtakolbijajlhkaaGreat
open Go.RowKit Go.Sort

set_option maxHeartbeats 4000000 in
set_option maxRecDepth 1000000 in
theorem noEnvs_any (w : World) : Calls Tryz.prog 9 #[.agg #[.slice none 0 0, .slice none 0 0], .agg #[.bool false, .int .i64 0, .string ⟨#[]⟩, .string ⟨#[]⟩, .int .i64 0, .string ⟨#[]⟩, .string ⟨#[]⟩, .int .i64 0, .string ⟨#[]⟩, .string ⟨#[]⟩, .slice none 0 0]] w fun e w' => e = .returned (.slice none 0 0) ∧ Below w.heap.size w w' := by
  obtain ⟨b2, z2, k1, k2⟩ := ev2 w (.cells #[.slice none 0 0, .slice none 0 0] 32) (.cells #[.bool false, .int .i64 0, .string ⟨#[]⟩, .string ⟨#[]⟩, .int .i64 0, .string ⟨#[]⟩, .string ⟨#[]⟩, .int .i64 0, .string ⟨#[]⟩, .string ⟨#[]⟩, .slice none 0 0] 54)
  clear z2
  go_enter Tryz.func9, Tryz.ntmps9
  go_upto_region 1 with fail
  generalize (w.alloc _).alloc _ = w2 at *
  have c1 : w2.cell? ⟨w.heap.size, 1, none⟩ = some (.slice none 0 0) := by rw [Lib.cell_of_heap k1]; rfl
  clear k1 k2
  go_wp2_with fail
  go_loopw [5, 6, 7, 8, 9] (fun ov iv _ _ _ wr => ov = .slice none 0 0 ∧ iv = .int .i64 0 ∧ wr = w2) (fun _ _ _ _ _ _ => 0)
  case atStart => exact ⟨rfl, rfl, rfl⟩
  case round =>
    rename World => wr
    obtain ⟨rfl, rfl, rfl⟩ := hrel
    go_wp2
    go_ret
    exact ⟨rfl, b2⟩
end Go.Proofs.YtakolbijajlhkaaGreat
