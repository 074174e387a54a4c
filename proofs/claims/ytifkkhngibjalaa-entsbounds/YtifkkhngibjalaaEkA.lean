/-
  chancellaw8.known: what it returns.
-/
import Derived.Test.YtifkkhngibjalaaEnD
import Derived.Test.YtifkkhngibjalaaEcH
import Derived.Test.YtifkkhngibjalaaEgA
namespace Go.Proofs.Ytifkkhngibjalaa
open Go.RowKit Go.Sort

/-- An entity that has no parents and no attributes is told by its uid alone. -/
theorem entOk_bare {w : World} {P : Nat → Prop} {e : E4} {u : U2} (h : IsEnt w P e ⟨u, [], []⟩) (hs : small2 u) : EntOk w e [] [] (fun _ => 0) ∧ chkE (e4u e) [] [] (fun _ => 0) = chk2 u := by
  obtain ⟨rs, h1, h2, _, h4⟩ := h.ats
  obtain rfl : rs = [] := List.eq_nil_of_length_eq_zero h4.1
  have hu : e4u e = u := h.u
  refine ⟨⟨by rw [hu]; exact hs, h.pl, Nat.zero_le _, h.rowU, fun _ h => (by cases h), h1, Nat.zero_le _, h2, fun _ h => (by cases h), fun _ h => (by cases h)⟩, ?_⟩
  rw [hu]
  unfold chkE chkRowU chkRowA or3 rowE
  simp only [List.length_nil, Nat.not_lt_zero, if_false, rowGo]
  split
  · rfl
  · rename_i h
    simp only [ne_eq, not_true_eq_false, if_false]
    exact (Classical.not_not.1 h).symm
theorem isEnt_bare (w : World) (P : Nat → Prop) (u : U2) : IsEnt w P ⟨u.t, u.i, none, 0, 0, none, 0, 0⟩ ⟨u, [], []⟩ :=
  ⟨rfl, rfl, rowG_nil _ _ _, fun _ e => (by cases e), [], rfl, rowG_nil _ _ _, fun _ e => (by cases e), rfl, fun _ h => absurd h (Nat.not_lt_zero _)⟩
theorem fits_bare (u : U2) : EntP.fits ⟨u, [], []⟩ := ⟨Nat.zero_le _, Nat.zero_le _, fun _ h => by cases h⟩

def uA : U2 := ⟨⟨#[65]⟩, ⟨#[]⟩⟩
theorem chk_uA : chk2 uA = 0 := by decide
set_option maxHeartbeats 2000000 in
set_option maxRecDepth 1000000 in
theorem known8_any (w : World) : Calls Try.prog 6 #[] w fun e w' => e = .returned (.bool true) ∧ Below w.heap.size w w' := by
  have G := fun w' => get_any ⟨⟨#[]⟩, ⟨#[]⟩, none, 0, 0, none, 0, 0⟩ ⟨⟨⟨#[]⟩, ⟨#[]⟩⟩, [], []⟩ ⟨#[97]⟩ (fun _ => True) w' (isEnt_bare w' _ ⟨⟨#[]⟩, ⟨#[]⟩⟩) (fits_bare _)
  have Pu := fun w' => put_any [] [] none 0 ⟨⟨#[65]⟩, ⟨#[]⟩, none, 0, 0, none, 0, 0⟩ ⟨uA, [], []⟩ w' (rowG_nil _ _ _) (Nat.le_refl _) ⟨rfl, fun _ h => absurd h (Nat.not_lt_zero _)⟩ (isEnt_bare w' _ uA) List.Pairwise.nil (fun _ h => by cases h) (fits_bare _) (Nat.zero_le _)
  have e1 : putP [] ⟨uA, [], []⟩ = [⟨uA, [], []⟩] := rfl
  rw [e1] at Pu
  clear e1
  unfold E4.val at G Pu
  simp only [List.length_cons, List.length_nil, Nat.zero_add] at G Pu
  go_enter Try.func6, Try.ntmps6
  go_wp2_with fail
  refine (G w).mono ?_
  clear G
  rintro x w1 ⟨b1, hx⟩
  obtain rfl : x = .returned (.tuple #[zero7.val, .bool false]) := hx
  unfold zero7 R7.val
  simp only
  go_wp2_with fail
  have b2 := b1.alloc b1.size (.cells #[.int .i64 0, .bool false, .int .i64 0, .string (ba []), .string (ba []), .string (ba []), .slice none 0 0] 38)
  generalize w1.alloc _ = w2 at *
  refine (Pu w2).mono ?_
  clear Pu
  rintro x w3 ⟨b3, G, es, rfl, hrow, hall, _⟩
  have b03 := b2.trans (b3.mono b2.size)
  have hle : es.length = 1 := hall.1
  have CK := echeck_any es (some ⟨G, 0, none⟩) 1 (fun _ => 0) w3 (by omega) hrow (fun e he => by
    obtain ⟨j, hj, rfl⟩ := List.getElem_of_mem he
    obtain rfl : j = 0 := by omega
    have h0 := hall.2 0 hj (Nat.lt_succ_self 0)
    have h1 := entOk_bare h0 ⟨by decide, by decide⟩
    exact ⟨[], [], _, h1.1, by rw [h1.2]; exact chk_uA.symm⟩)
  have hz : rowE (fun _ => (0 : Int)) lessE 16 es = 0 := by
    match es, hle with
    | [x], _ => rfl
  rw [hz, hle] at CK
  clear hz hle hrow hall
  go_wp2_with fail
  refine CK.mono ?_
  rintro x w4 ⟨rfl, b4⟩
  go_wp2
  go_ret
  exact ⟨rfl, b03.trans (b4.mono b03.size)⟩
end Go.Proofs.Ytifkkhngibjalaa
