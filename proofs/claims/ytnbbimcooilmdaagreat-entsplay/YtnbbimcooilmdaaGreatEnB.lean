/-
  ents.checkUid, checkAttr, lessEntity, lessAttr; value.LessUid; cmp.Or of three: what they return.
-/
import Derived.Test.YtnbbimcooilmdaaGreatVdAD
import Derived.Test.YtnbbimcooilmdaaGreatEnA
namespace Go.Proofs.YtnbbimcooilmdaaGreat
open Go.RowKit Go.Sort

/-- A uid as a value. -/
def uidR (u : U2) : R7 := ⟨4, false, 0, ⟨#[]⟩, u.t, u.i, none, 0, 0⟩
def chk2 (u : U2) : Int := chkU u.t.data.toList u.i.data.toList
def lessU (a b : U2) : Bool := lessP (.uid a.t.data.toList a.i.data.toList) (.uid b.t.data.toList b.i.data.toList)
def small2 (u : U2) : Prop := u.t.size ≤ 1099511627776 ∧ u.i.size ≤ 1099511627776
theorem chk_uidR (u : U2) : chkFlat (uidR u) = chk2 u := by
  have hm : moreB (uidR u) = false := by
    unfold moreB
    rw [decide_eq_false_iff_not]
    intro h
    apply h
    unfold SameF bareR uidR
    simp [ba]
  unfold chkFlat
  rw [hm]
  rfl

set_option maxHeartbeats 1000000 in
set_option maxRecDepth 1000000 in
theorem echeckUid_any (u : U2) (w : World) (hs : small2 u) :
    Calls Tryz.prog 39 #[u.val] w fun e w' => e = .returned (.int .i64 (chk2 u)) ∧ Below w.heap.size w w' := by
  have C := fun w => vcheck_flat (uidR u) w (by unfold uidR; simp) (Nat.zero_le _) hs.1 hs.2
  rw [chk_uidR] at C
  unfold R7.val uidR at C
  unfold U2.val
  have b1 := below1 w (.cells #[.string u.t, .string u.i] 25)
  clear hs
  simp only at C
  go_enter Tryz.func39, Tryz.ntmps39
  go_wp2_with fail
  generalize w.alloc _ = w1 at *
  refine (C _).mono ?_
  rintro e w2 ⟨rfl, b2⟩
  go_wp2
  go_ret
  exact ⟨rfl, b1.trans (b2.mono b1.size)⟩

set_option maxHeartbeats 1000000 in
set_option maxRecDepth 1000000 in
theorem vlessUid_any (a b : U2) (w : World) :
    Calls Tryz.prog 41 #[a.val, b.val] w fun e w' => e = .returned (.bool (lessU a b)) ∧ Below w.heap.size w w' := by
  have C := fun w => compareUids_any a.t.data.toList a.i.data.toList b.t.data.toList b.i.data.toList w
  rw [ba_of, ba_of, ba_of, ba_of] at C
  have HL := hide (less_cmp (.uid a.t.data.toList a.i.data.toList) (.uid b.t.data.toList b.i.data.toList))
  have e : lessU a b = lessP (.uid a.t.data.toList a.i.data.toList) (.uid b.t.data.toList b.i.data.toList) := rfl
  rw [e]
  clear e
  generalize cmpP (.uid a.t.data.toList a.i.data.toList) (.uid b.t.data.toList b.i.data.toList) = z at *
  generalize lessP (.uid a.t.data.toList a.i.data.toList) (.uid b.t.data.toList b.i.data.toList) = y at *
  unfold U2.val
  have b1 := below2 w (.cells #[.string a.t, .string a.i] 25) (.cells #[.string b.t, .string b.i] 25)
  go_enter Tryz.func41, Tryz.ntmps41
  go_wp2_with fail
  generalize World.alloc _ _ = w1 at *
  refine (C _).mono ?_
  rintro e w2 ⟨rfl, b2⟩
  go_wp2
  go_ret
  exact ⟨by rw [← unhide HL]; rfl, b1.trans (b2.mono b1.size)⟩

def e4u (e : E4) : U2 := ⟨e.t, e.i⟩
def lessE (a b : E4) : Bool := lessU (e4u a) (e4u b)
set_option maxHeartbeats 1000000 in
set_option maxRecDepth 1000000 in
theorem lessEntity_any (a b : E4) (w : World) :
    Calls Tryz.prog 24 #[a.val, b.val] w fun e w' => e = .returned (.bool (lessE a b)) ∧ Below w.heap.size w w' := by
  have C := fun w => vlessUid_any (e4u a) (e4u b) w
  unfold U2.val e4u at C
  have e : lessE a b = lessU ⟨a.t, a.i⟩ ⟨b.t, b.i⟩ := rfl
  rw [e]
  clear e
  generalize lessU ⟨a.t, a.i⟩ ⟨b.t, b.i⟩ = y at *
  unfold E4.val
  have b1 := below2 w (.cells #[.string a.t, .string a.i, .slice a.po a.pl a.pc, .slice a.ao a.al a.ac] 29) (.cells #[.string b.t, .string b.i, .slice b.po b.pl b.pc, .slice b.ao b.al b.ac] 29)
  go_enter Tryz.func24, Tryz.ntmps24
  go_wp2_with fail
  generalize World.alloc _ _ = w1 at *
  refine (C _).mono ?_
  rintro e w2 ⟨rfl, b2⟩
  go_wp2
  go_ret
  exact ⟨rfl, b1.trans (b2.mono b1.size)⟩

def lessN (a b : A8) : Bool := Op.bytesLess a.nm.toList b.nm.toList
set_option maxHeartbeats 1000000 in
set_option maxRecDepth 1000000 in
theorem lessAttr_any (a b : A8) (w : World) :
    Calls Tryz.prog 44 #[a.val, b.val] w fun e w' => e = .returned (.bool (lessN a b)) ∧ Below w.heap.size w w' := by
  unfold A8.val lessN
  go_enter Tryz.func44, Tryz.ntmps44
  go_wp2
  go_ret
  exact ⟨rfl, below2 _ _ _⟩

/-- What an attribute is told, where its value is told z. -/
def chkA (nm : ByteArray) (z : Int) : Int := if nameB nm.data.toList then z else 15
theorem eident_any (s : ByteArray) (w : World) (hs : s.size ≤ 1099511627776) : Calls Tryz.prog 59 #[.string s] w fun e w' => e = .returned (.bool (nameB s.data.toList)) ∧ Below w.heap.size w w' := by
  have N := fun w => isName_any s w hs
  go_enter Tryz.func59, Tryz.ntmps59
  go_wp2_with fail
  refine (N _).mono ?_
  rintro e w2 ⟨rfl, b2⟩
  go_wp2
  go_ret
  exact ⟨rfl, b2⟩

set_option maxHeartbeats 1000000 in
set_option maxRecDepth 1000000 in
theorem checkAttr_any (a : A8) (z : Int) (w : World) (hn : a.nm.size ≤ 1099511627776)
    (C : ∀ w', Below w.heap.size w w' → Calls Tryz.prog 57 #[a.v.val] w' fun e w'' => e = .returned (.int .i64 z) ∧ Below w'.heap.size w' w'') :
    Calls Tryz.prog 43 #[a.val] w fun e w' => e = .returned (.int .i64 (chkA a.nm z)) ∧ Below w.heap.size w w' := by
  have N := fun w => eident_any a.nm w hn
  have b1 := below1 w (.cells #[.string a.nm, .int .i64 a.v.k, .bool a.v.b, .int .i64 a.v.n, .string a.v.s, .string a.v.t, .string a.v.i, .slice a.v.lo a.v.ll a.v.lc] 56)
  have z1 := size1 w (.cells #[.string a.nm, .int .i64 a.v.k, .bool a.v.b, .int .i64 a.v.n, .string a.v.s, .string a.v.t, .string a.v.i, .slice a.v.lo a.v.ll a.v.lc] 56)
  have A1 : AtE8 (w.alloc (.cells #[.string a.nm, .int .i64 a.v.k, .bool a.v.b, .int .i64 a.v.n, .string a.v.s, .string a.v.t, .string a.v.i, .slice a.v.lo a.v.ll a.v.lc] 56)) w.heap.size 0 a :=
    ⟨by simp, by simp, by simp, by simp, by simp, by simp, by simp, by simp⟩
  have HZ := hide (show chkA a.nm z = if nameB a.nm.data.toList then z else 15 from rfl)
  generalize chkA a.nm z = y at *
  unfold R7.val at C
  unfold A8.val
  generalize nameB a.nm.data.toList = nb at *
  clear hn
  go_enter Tryz.func43, Tryz.ntmps43
  go_wp2_with fail
  generalize w.alloc _ = w1 at *
  refine (N _).mono ?_
  rintro e w2 ⟨rfl, b2⟩
  have b02 := b1.trans (b2.mono b1.size)
  cases nb
  · go_wp2
    go_ret
    exact ⟨ret_int (unhide HZ).symm, b02⟩
  · have C2 := C w2 b02
    clear C N
    have A2 := A1.below b2 (by omega)
    obtain ⟨a0, a1, a2, a3, a4, a5, a6, a7⟩ := A2
    simp only [Nat.zero_add] at a1 a2 a3 a4 a5 a6 a7
    go_wp2_with fail
    refine C2.mono ?_
    rintro e w3 ⟨rfl, b3⟩
    go_wp2
    go_ret
    exact ⟨ret_int (unhide HZ).symm, b02.trans (b3.mono b02.size)⟩

def or3 (x y z : Int) : Int := if x ≠ 0 then x else if y ≠ 0 then y else z
set_option maxHeartbeats 1000000 in
set_option maxRecDepth 100000 in
theorem orErr_three (x y z : Int) (b c : Nat) (w : World) (h0 : w.cell? ⟨b, 0, none⟩ = some (.int .i64 x)) (h1 : w.cell? ⟨b, 1, none⟩ = some (.int .i64 y)) (h2 : w.cell? ⟨b, 2, none⟩ = some (.int .i64 z)) :
    Calls Tryz.prog 38 #[.slice (some ⟨b, 0, none⟩) 3 c] w fun e w' => e = .returned (.int .i64 (or3 x y z)) ∧ w' = w := by
  have HX := hide (show or3 x y z = if x ≠ 0 then x else if y ≠ 0 then y else z from rfl)
  generalize or3 x y z = r at *
  go_enter Tryz.func38, Tryz.ntmps38
  go_wp2
  go_loop [8] (fun i => ∃ j : Nat, j ≤ 3 ∧ i = .int .i64 j ∧ (0 < j → x = 0) ∧ (1 < j → y = 0) ∧ (2 < j → z = 0)) (fun i => 3 - (intOf i).toNat)
  case atStart => exact ⟨0, by omega, rfl, fun h => absurd h (by omega), fun h => absurd h (by omega), fun h => absurd h (by omega)⟩
  case round =>
    obtain ⟨j, hj, rfl, g0, g1, g2⟩ := hrel
    match j, hj with
    | 0, _ =>
      by_cases hx : x = 0
      · have hxb : (x == 0) = true := by simpa using hx
        have G := hide hx
        subst hx
        clear hxb
        go_wp2
        go_round
        case rel => exact ⟨1, by omega, rfl, fun _ => by trivial, fun h => absurd h (by omega), fun h => absurd h (by omega)⟩
        case measure => decide
      · have hxb : (x == 0) = false := by simpa using hx
        have hr := unhide HX
        rw [if_pos hx] at hr
        have Hr := hide hr
        clear hr hx HX
        go_wp2
        go_ret
        exact ⟨ret_int (unhide Hr).symm, rfl⟩
    | 1, _ =>
      have hx := g0 (by omega)
      by_cases hy : y = 0
      · subst hx hy
        go_wp2
        go_round
        case rel => exact ⟨2, by omega, rfl, fun _ => by trivial, fun _ => by trivial, fun h => absurd h (by omega)⟩
        case measure => decide
      · have hyb : (y == 0) = false := by simpa using hy
        have hr := unhide HX
        rw [if_neg (fun h => h hx), if_pos hy] at hr
        have Hr := hide hr
        clear hr hy HX g0 g1 g2 hx
        go_wp2
        go_ret
        exact ⟨ret_int (unhide Hr).symm, rfl⟩
    | 2, _ =>
      have hx := g0 (by omega)
      have hy := g1 (by omega)
      have hr := unhide HX
      rw [if_neg (fun h => h hx), if_neg (fun h => h hy)] at hr
      have Hr := hide hr
      by_cases hz : z = 0
      · subst hx hy hz
        clear hr HX
        go_wp2
        go_round
        case rel => exact ⟨3, by omega, rfl, fun _ => by trivial, fun _ => by trivial, fun _ => by trivial⟩
        case measure => decide
      · have hzb : (z == 0) = false := by simpa using hz
        clear hr hz HX g0 g1 g2 hx hy
        go_wp2
        go_ret
        exact ⟨ret_int (unhide Hr).symm, rfl⟩
    | 3, _ =>
      have hx := g0 (by omega)
      have hy := g1 (by omega)
      have hz := g2 (by omega)
      have hr := unhide HX
      rw [if_neg (fun h => h hx), if_neg (fun h => h hy), hz] at hr
      have Hr := hide hr
      clear hr HX g0 g1 g2 hx hy hz
      go_wp2
      go_ret
      exact ⟨ret_int (unhide Hr).symm, rfl⟩
end Go.Proofs.YtnbbimcooilmdaaGreat
