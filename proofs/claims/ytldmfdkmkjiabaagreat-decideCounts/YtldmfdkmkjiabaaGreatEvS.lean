/-
  chancellaw13: an evaluation without entities; known, within.
-/
import Derived.Test.YtldmfdkmkjiabaaGreatEvPQ
import Derived.Test.YtldmfdkmkjiabaaGreatExBS
import Derived.Test.YtldmfdkmkjiabaaGreatEoMq
import Derived.Test.YtldmfdkmkjiabaaGreatMpEG
import Derived.Test.YtldmfdkmkjiabaaGreatElAO
namespace Go.Proofs.YtldmfdkmkjiabaaGreat
open Go.RowKit Go.Sort

def zU : U2 := ⟨⟨#[]⟩, ⟨#[]⟩⟩
/-- No entities. -/
def noD (p a r : U2) : EvD := ⟨p, a, r, [], fun u x => decide (u = x)⟩
theorem way_nil {u x : U2} : Way (upS []) u x ↔ u = x := by
  constructor
  · intro h
    induction h with
    | here => rfl
    | step _ hx => cases hx
  · rintro rfl
    exact .here _
theorem ew_nil (w : World) (hf : FitL w) (p a r : U2) : EW w none [] (noD p a r) where
  row := rowG_nil _ _ _
  all := ⟨rfl, fun j h => absurd h (Nat.not_lt_zero _)⟩
  len := by simp
  inA := fun cap u x w' _ => by
    have hS := steps_up (w := w') (P := fun _ => True) (es := []) (ps := []) ⟨rfl, fun j h => absurd h (Nat.not_lt_zero _)⟩ (by simp) (by simp)
    refine (in_any (upS []) [] none cap u x [] w' (by simp) (rowG_nil _ _ _) hS (fun _ v hv => by cases hv) (by simp)).mono ?_
    rintro e w'' ⟨hb, z, rfl, hz⟩
    refine ⟨?_, hb⟩
    rw [way_nil] at hz
    have : z = decide (u = x) := by
      cases z with
      | true => exact (decide_eq_true (hz.1 rfl)).symm
      | false => exact (decide_eq_false (fun h => by cases hz.2 h)).symm
    rw [this]
    rfl
  ok := fun p hp => by cases hp
  fit := hf
set_option maxHeartbeats 400000 in
set_option maxRecDepth 100000 in
theorem within13_any (a n : Int) (hn : 0 < n) (hn1 : n ≤ 4294967296) (w : World) :
    Calls Tryz.prog 19 #[.int .i64 a, .int .i64 n] w fun e w' => e = .returned (.int .i64 (a % n)) ∧ w' = w := by
  go_enter Tryz.func19, Tryz.ntmps19
  go_wp2
  · go_ret
    exact ⟨ret_int5 (tmod_neg a n hn hn1 (by assumption)), rfl⟩
  · go_ret
    exact ⟨ret_int5 (tmod_pos a n hn (by assumption)), rfl⟩
/-- Where a tree errs nothing but the error is answered. -/
theorem expr13_err {x : Int} (D : EvD) (glo : Option Addr) (gs : List E4) (N c : Nat) (e : Ex) (q : R7) (w : World) (hN : N = gs.length) (hE : EW w glo gs D) (hq : IsE w (fun _ => True) q e) (hok : okEv e = true) (h : evalE D e = .inr x) :
    Calls Tryz.prog 35 #[.slice glo N c, .agg #[.string D.p.t, .string D.p.i, .string D.a.t, .string D.a.i, .string D.r.t, .string D.r.i], .agg #[.int .i64 q.k, .bool q.b, .int .i64 q.n, .string q.s, .string q.t, .string q.i, .slice q.lo q.ll q.lc]] w fun en w' => en = .returned (.tuple #[.agg #[.int .i64 0, .bool false, .int .i64 0, .string ⟨#[]⟩, .string ⟨#[]⟩, .string ⟨#[]⟩, .slice none 0 0], .int .i64 x]) ∧ Below w.heap.size w w' := by
  refine (expr13_any glo gs N c D e q w hN hE hq hok).mono ?_
  rintro en w' ⟨⟨R, k, rfl, hm⟩, hb⟩
  rw [h] at hm
  obtain ⟨rfl, _, rfl⟩ : k = x ∧ x ≠ 0 ∧ R = zero7 := hm
  exact ⟨rfl, hb⟩
/-- Where it comes to a plain value that is answered. -/
theorem expr13_pl {p : PV} (D : EvD) (glo : Option Addr) (gs : List E4) (N c : Nat) (e : Ex) (q : R7) (w : World) (hN : N = gs.length) (hE : EW w glo gs D) (hq : IsE w (fun _ => True) q e) (hok : okEv e = true) (h : evalE D e = .inl (.pl p)) :
    Calls Tryz.prog 35 #[.slice glo N c, .agg #[.string D.p.t, .string D.p.i, .string D.a.t, .string D.a.i, .string D.r.t, .string D.r.i], .agg #[.int .i64 q.k, .bool q.b, .int .i64 q.n, .string q.s, .string q.t, .string q.i, .slice q.lo q.ll q.lc]] w fun en w' => en = .returned (.tuple #[(ofP p).val, .int .i64 0]) ∧ Below w.heap.size w w' := by
  refine (expr13_any glo gs N c D e q w hN hE hq hok).mono ?_
  rintro en w' ⟨⟨R, k, rfl, hm⟩, hb⟩
  rw [h] at hm
  obtain ⟨rfl, hg, _⟩ : k = 0 ∧ IsG w' (.pl p) R ∧ okEG (.pl p) := hm
  have hg : R = ofP p := hg
  subst hg
  exact ⟨rfl, hb⟩
def tBad : Ex := eOp 14 [eLong 1, eBool true]
def tAnd : Ex := eOp 23 [eBool false, tBad]
end Go.Proofs.YtldmfdkmkjiabaaGreat
