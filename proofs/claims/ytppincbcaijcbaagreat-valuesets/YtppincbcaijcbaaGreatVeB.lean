/-
  chancellaw3.Uid: what it returns.
-/
import Derived.Test.YtppincbcaijcbaaGreatVeA
import Derived.Test.YtppincbcaijcbaaGreatVeK
namespace Go.Proofs.YtppincbcaijcbaaGreat
open Go.RowKit Go.Sort

def tyL : List (List UInt8) := [[85, 115, 101, 114], [71, 114, 111, 117, 112], [68, 111, 99], [65, 99, 116, 105, 111, 110], [95, 120, 57]]
def tyCells : Array Value := #[.string ⟨#[85, 115, 101, 114]⟩, .string ⟨#[71, 114, 111, 117, 112]⟩, .string ⟨#[68, 111, 99]⟩, .string ⟨#[65, 99, 116, 105, 111, 110]⟩, .string ⟨#[95, 120, 57]⟩]
theorem ty_cell (m : Nat) (hm : m < 5) : tyCells[m]? = some (.string (ba (tyL.getD m []))) := by
  match m, hm with
  | 0, _ | 1, _ | 2, _ | 3, _ | 4, _ => rfl

/-- What each slot of the region holds. -/
def uidSp (B m : Nat) (sv : Value) (t i : ByteArray) : Nat → Value → World → Prop
  | 0, v, w => ∃ blk, v = .slice (some ⟨blk, 0, none⟩) 5 5 ∧ blk < w.heap.size ∧ w.cell? ⟨blk, m, none⟩ = some (.string t)
  | 1, v, _ => v = .int .i64 m
  | 2, v, w => ∃ blk, v = .pointer (some ⟨blk, m, none⟩) ∧ blk < w.heap.size ∧ w.cell? ⟨blk, m, none⟩ = some (.string t)
  | 3, v, _ => v = .string t
  | 4, v, _ => v = .pointer (some ⟨B, 2, none⟩)
  | 5, v, _ => v = sv
  | 6, v, _ => v = .string i
  | 7, v, _ => v = .agg #[.string t, .string i]
  | _, _, _ => True

theorem uidSp_up {B m : Nat} {sv : Value} {t i : ByteArray} {w w' : World} (hb : Below w.heap.size w w') : ∀ j u, uidSp B m sv t i j u w → uidSp B m sv t i j u w'
  | 0, _, ⟨blk, e, hl, hc⟩ => ⟨blk, e, Nat.lt_of_lt_of_le hl hb.size, (hb.cell (p := ⟨blk, m, none⟩) hl).trans hc⟩
  | 1, _, h => h
  | 2, _, ⟨blk, e, hl, hc⟩ => ⟨blk, e, Nat.lt_of_lt_of_le hl hb.size, (hb.cell (p := ⟨blk, m, none⟩) hl).trans hc⟩
  | 3, _, h => h
  | 4, _, h => h
  | 5, _, h => h
  | 6, _, h => h
  | 7, _, h => h
  | _ + 8, _, _ => trivial

set_option maxHeartbeats 4000000 in
set_option maxRecDepth 1000000 in
theorem uid3_of (k n : Int) (xs : List Int) (so : Option Addr) (sc : Nat) (lo : Option Addr) (ll lc : Nat) (w : World) (hl : xs.length ≤ 9223372036854775807) (hc : xs.length ≤ sc) (hz : IntsAt w so xs) (m : Nat) (hm : m < 5) (hn : n.tmod 5 = m) :
    Calls Tryz.prog 22 #[.agg #[.int .i64 k, .int .i64 n, .slice so xs.length sc, .slice lo ll lc]] w fun e w' => e = .returned (.agg #[.string (ba (tyL.getD m [])), .string (ba (idt xs))]) ∧ Below w.heap.size w w' := by
  have ID := fun w' hz' => id3_any xs so sc w' hl hc hz'
  have h0 : ¬ ((m : Int) < 0) := by omega
  have hty := ty_cell m hm
  generalize ba (tyL.getD m []) = ty at *
  go_enter Tryz.func22, Tryz.ntmps22
  go_wp2_with fail
  generalize hw2 : (w.alloc (.cells #[.int .i64 k, .int .i64 n, .slice so xs.length sc, .slice lo ll lc] 30)).alloc (.cells #[.string ⟨#[]⟩, .string ⟨#[]⟩] 23) = w2
  have b02 : Below w.heap.size w w2 := by rw [← hw2]; exact below2 _ _ _
  have z2 : w2.heap.size = w.heap.size + 2 := by rw [← hw2]; simp
  have c2 : w2.cell? ⟨w.heap.size, 2, none⟩ = some (.slice so xs.length sc) := by rw [← hw2]; simp
  have d0 : (w2.cell? ⟨w.heap.size + 1, 0, none⟩).isSome = true := by rw [← hw2]; simp
  have d1 : (w2.cell? ⟨w.heap.size + 1, 1, none⟩).isSome = true := by rw [← hw2]; simp
  have g0 : w2.frozen? ⟨w.heap.size + 1, 0, none⟩ = false := by rw [← hw2]; simp
  have g1 : w2.frozen? ⟨w.heap.size + 1, 1, none⟩ = false := by rw [← hw2]; simp
  clear hw2
  have Z2 := hide z2
  clear z2
  refine wp_specs 8 (uidSp w.heap.size m (.slice so xs.length sc) ty (ba (idt xs))) (fun w' => Below w2.heap.size w2 w') (by kernel_rfl) (by kernel_rfl) (Below.refl _ w2).drew ?_ ?_
  · intro i o hi ho a' w' hR hdep hslot K hK
    match i, hi with
    | 0, _ =>
      cases ho
      unfold Oper.wp
      go_simp
      exact hK _ _ ⟨w'.heap.size, rfl, by simp, by rw [World.cell?_alloc_at _ _ _ _ rfl]; exact hty⟩ (hR.alloc hR.size _) (uidSp_up (below1 _ _))
    | 1, _ =>
      cases ho
      have e : a'.tmps.getD 3 undef = .int .i64 m := hslot 3 (by decide)
      unfold Oper.wp
      go_simp
      exact hK _ _ rfl hR (fun _ _ h => h)
    | 2, _ =>
      cases ho
      obtain ⟨blk, e1, hb, hcell⟩ : uidSp _ _ _ _ _ 0 (a'.tmps.getD 11 undef) w' := hdep 0 (by kernel_rfl)
      have e2 : a'.tmps.getD 12 undef = .int .i64 m := hdep 1 (by kernel_rfl)
      have hm5 : (m : Int) < 5 := by omega
      unfold Oper.wp
      go_simp
      exact hK _ _ ⟨blk, rfl, hb, hcell⟩ hR (fun _ _ h => h)
    | 3, _ =>
      cases ho
      obtain ⟨blk, e1, hb, hcell⟩ : uidSp _ _ _ _ _ 2 (a'.tmps.getD 13 undef) w' := hdep 2 (by kernel_rfl)
      unfold Oper.wp
      go_simp
      exact hK _ _ rfl hR (fun _ _ h => h)
    | 4, _ =>
      cases ho
      have e : a'.tmps.getD 1 undef = .pointer (some ⟨w.heap.size, 0, none⟩) := hslot 1 (by decide)
      unfold Oper.wp
      go_simp
      exact hK _ _ rfl hR (fun _ _ h => h)
    | 5, _ =>
      cases ho
      have e : a'.tmps.getD 15 undef = .pointer (some ⟨w.heap.size, 2, none⟩) := hdep 4 (by kernel_rfl)
      have c3 := (hR.cell (p := ⟨w.heap.size, 2, none⟩) (by have := unhide Z2; show w.heap.size < _; omega)).trans c2
      unfold Oper.wp
      go_simp
      exact hK _ _ rfl hR (fun _ _ h => h)
    | 6, _ =>
      cases ho
      have e : a'.tmps.getD 16 undef = .slice so xs.length sc := hdep 5 (by kernel_rfl)
      have ID' := ID w' ((hz.below b02).below hR)
      clear ID
      unfold Oper.wp
      go_simp
      refine ID'.mono ?_
      rintro e w3 ⟨rfl, b3⟩
      exact hK _ _ rfl (hR.trans (b3.mono hR.size)) (uidSp_up b3)
    | 7, _ =>
      cases ho
      have e1 : a'.tmps.getD 14 undef = .string ty := hdep 3 (by kernel_rfl)
      have e2 : a'.tmps.getD 17 undef = .string (ba (idt xs)) := hdep 6 (by kernel_rfl)
      have e1' : a'.tmps[14]?.getD undef = .string ty := by simpa using e1
      have e2' : a'.tmps[17]?.getD undef = .string (ba (idt xs)) := by simpa using e2
      unfold Oper.wp
      go_simp
      exact hK _ _ rfl hR (fun _ _ h => h)
  · intro a' w' hR hall hslot hdef hsz
    have e2 : a'.tmps.getD 2 undef = .pointer (some ⟨w.heap.size + 1, 0, none⟩) := hslot 2 (by decide)
    have e18 : a'.tmps.getD 18 undef = .agg #[.string ty, .string (ba (idt xs))] := hall 7 (by decide)
    have k0 := (hR.cell (p := ⟨w.heap.size + 1, 0, none⟩) (by have := unhide Z2; show w.heap.size + 1 < _; omega))
    have k1 := (hR.cell (p := ⟨w.heap.size + 1, 1, none⟩) (by have := unhide Z2; show w.heap.size + 1 < _; omega))
    have f0 := (hR.frozen (p := ⟨w.heap.size + 1, 0, none⟩) (by have := unhide Z2; show w.heap.size + 1 < _; omega)).trans g0
    have f1 := (hR.frozen (p := ⟨w.heap.size + 1, 1, none⟩) (by have := unhide Z2; show w.heap.size + 1 < _; omega)).trans g1
    rw [← k0] at d0
    rw [← k1] at d1
    obtain ⟨x0, hx0⟩ := Option.isSome_iff_exists.1 d0
    obtain ⟨x1, hx1⟩ := Option.isSome_iff_exists.1 d1
    have b03 := b02.trans (hR.mono b02.size)
    have e2' : a'.tmps[2]?.getD undef = .pointer (some ⟨w.heap.size + 1, 0, none⟩) := by simpa using e2
    clear k0 k1 d0 d1 hall hslot
    simp only [List.drop_succ_cons, List.drop_zero]
    go_wp2
    exact bodyPost_ret (v := .agg #[.string ty, .string (ba (idt xs))]) (by simp [results, Tryz.results22, go_sem, e2', hx0, hx1]) hdef ⟨rfl, (b03.setCell (p := ⟨w.heap.size + 1, 0, none⟩) (Nat.le_succ _) _).setCell (p := ⟨w.heap.size + 1, 1, none⟩) (Nat.le_succ _) _⟩
set_option maxHeartbeats 4000000 in
set_option maxRecDepth 1000000 in
theorem uid3_neg (k n : Int) (xs : List Int) (so : Option Addr) (sc : Nat) (lo : Option Addr) (ll lc : Nat) (w : World) (hl : xs.length ≤ 9223372036854775807) (hc : xs.length ≤ sc) (hz : IntsAt w so xs) (m : Nat) (hm : m < 5) (hp : 0 < m) (hn : n.tmod 5 = -(m : Int)) :
    Calls Tryz.prog 22 #[.agg #[.int .i64 k, .int .i64 n, .slice so xs.length sc, .slice lo ll lc]] w fun e w' => e = .returned (.agg #[.string (ba (tyL.getD m [])), .string (ba (idt xs))]) ∧ Below w.heap.size w w' := by
  have ID := fun w' hz' => id3_any xs so sc w' hl hc hz'
  have h0 : -(m : Int) < 0 := by omega
  have hwr : IntKind.i64.wrap (m : Int) = m := by rw [IntKind.wrap_i64]; omega
  have hty := ty_cell m hm
  generalize ba (tyL.getD m []) = ty at *
  go_enter Tryz.func22, Tryz.ntmps22
  go_wp2_with fail
  generalize hw2 : (w.alloc (.cells #[.int .i64 k, .int .i64 n, .slice so xs.length sc, .slice lo ll lc] 30)).alloc (.cells #[.string ⟨#[]⟩, .string ⟨#[]⟩] 23) = w2
  have b02 : Below w.heap.size w w2 := by rw [← hw2]; exact below2 _ _ _
  have z2 : w2.heap.size = w.heap.size + 2 := by rw [← hw2]; simp
  have c2 : w2.cell? ⟨w.heap.size, 2, none⟩ = some (.slice so xs.length sc) := by rw [← hw2]; simp
  have d0 : (w2.cell? ⟨w.heap.size + 1, 0, none⟩).isSome = true := by rw [← hw2]; simp
  have d1 : (w2.cell? ⟨w.heap.size + 1, 1, none⟩).isSome = true := by rw [← hw2]; simp
  have g0 : w2.frozen? ⟨w.heap.size + 1, 0, none⟩ = false := by rw [← hw2]; simp
  have g1 : w2.frozen? ⟨w.heap.size + 1, 1, none⟩ = false := by rw [← hw2]; simp
  clear hw2
  have Z2 := hide z2
  clear z2
  refine wp_specs 8 (uidSp w.heap.size m (.slice so xs.length sc) ty (ba (idt xs))) (fun w' => Below w2.heap.size w2 w') (by kernel_rfl) (by kernel_rfl) (Below.refl _ w2).drew ?_ ?_
  · intro i o hi ho a' w' hR hdep hslot K hK
    match i, hi with
    | 0, _ =>
      cases ho
      unfold Oper.wp
      go_simp
      exact hK _ _ ⟨w'.heap.size, rfl, by simp, by rw [World.cell?_alloc_at _ _ _ _ rfl]; exact hty⟩ (hR.alloc hR.size _) (uidSp_up (below1 _ _))
    | 1, _ =>
      cases ho
      have e : a'.tmps.getD 3 undef = .int .i64 m := hslot 3 (by decide)
      unfold Oper.wp
      go_simp
      exact hK _ _ rfl hR (fun _ _ h => h)
    | 2, _ =>
      cases ho
      obtain ⟨blk, e1, hb, hcell⟩ : uidSp _ _ _ _ _ 0 (a'.tmps.getD 11 undef) w' := hdep 0 (by kernel_rfl)
      have e2 : a'.tmps.getD 12 undef = .int .i64 m := hdep 1 (by kernel_rfl)
      have hm5 : (m : Int) < 5 := by omega
      unfold Oper.wp
      go_simp
      exact hK _ _ ⟨blk, rfl, hb, hcell⟩ hR (fun _ _ h => h)
    | 3, _ =>
      cases ho
      obtain ⟨blk, e1, hb, hcell⟩ : uidSp _ _ _ _ _ 2 (a'.tmps.getD 13 undef) w' := hdep 2 (by kernel_rfl)
      unfold Oper.wp
      go_simp
      exact hK _ _ rfl hR (fun _ _ h => h)
    | 4, _ =>
      cases ho
      have e : a'.tmps.getD 1 undef = .pointer (some ⟨w.heap.size, 0, none⟩) := hslot 1 (by decide)
      unfold Oper.wp
      go_simp
      exact hK _ _ rfl hR (fun _ _ h => h)
    | 5, _ =>
      cases ho
      have e : a'.tmps.getD 15 undef = .pointer (some ⟨w.heap.size, 2, none⟩) := hdep 4 (by kernel_rfl)
      have c3 := (hR.cell (p := ⟨w.heap.size, 2, none⟩) (by have := unhide Z2; show w.heap.size < _; omega)).trans c2
      unfold Oper.wp
      go_simp
      exact hK _ _ rfl hR (fun _ _ h => h)
    | 6, _ =>
      cases ho
      have e : a'.tmps.getD 16 undef = .slice so xs.length sc := hdep 5 (by kernel_rfl)
      have ID' := ID w' ((hz.below b02).below hR)
      clear ID
      unfold Oper.wp
      go_simp
      refine ID'.mono ?_
      rintro e w3 ⟨rfl, b3⟩
      exact hK _ _ rfl (hR.trans (b3.mono hR.size)) (uidSp_up b3)
    | 7, _ =>
      cases ho
      have e1 : a'.tmps.getD 14 undef = .string ty := hdep 3 (by kernel_rfl)
      have e2 : a'.tmps.getD 17 undef = .string (ba (idt xs)) := hdep 6 (by kernel_rfl)
      have e1' : a'.tmps[14]?.getD undef = .string ty := by simpa using e1
      have e2' : a'.tmps[17]?.getD undef = .string (ba (idt xs)) := by simpa using e2
      unfold Oper.wp
      go_simp
      exact hK _ _ rfl hR (fun _ _ h => h)
  · intro a' w' hR hall hslot hdef hsz
    have e2 : a'.tmps.getD 2 undef = .pointer (some ⟨w.heap.size + 1, 0, none⟩) := hslot 2 (by decide)
    have e18 : a'.tmps.getD 18 undef = .agg #[.string ty, .string (ba (idt xs))] := hall 7 (by decide)
    have k0 := (hR.cell (p := ⟨w.heap.size + 1, 0, none⟩) (by have := unhide Z2; show w.heap.size + 1 < _; omega))
    have k1 := (hR.cell (p := ⟨w.heap.size + 1, 1, none⟩) (by have := unhide Z2; show w.heap.size + 1 < _; omega))
    have f0 := (hR.frozen (p := ⟨w.heap.size + 1, 0, none⟩) (by have := unhide Z2; show w.heap.size + 1 < _; omega)).trans g0
    have f1 := (hR.frozen (p := ⟨w.heap.size + 1, 1, none⟩) (by have := unhide Z2; show w.heap.size + 1 < _; omega)).trans g1
    rw [← k0] at d0
    rw [← k1] at d1
    obtain ⟨x0, hx0⟩ := Option.isSome_iff_exists.1 d0
    obtain ⟨x1, hx1⟩ := Option.isSome_iff_exists.1 d1
    have b03 := b02.trans (hR.mono b02.size)
    have e2' : a'.tmps[2]?.getD undef = .pointer (some ⟨w.heap.size + 1, 0, none⟩) := by simpa using e2
    clear k0 k1 d0 d1 hall hslot
    simp only [List.drop_succ_cons, List.drop_zero]
    go_wp2
    exact bodyPost_ret (v := .agg #[.string ty, .string (ba (idt xs))]) (by simp [results, Tryz.results22, go_sem, e2', hx0, hx1]) hdef ⟨rfl, (b03.setCell (p := ⟨w.heap.size + 1, 0, none⟩) (Nat.le_succ _) _).setCell (p := ⟨w.heap.size + 1, 1, none⟩) (Nat.le_succ _) _⟩

/-- The type's place. -/
def tyI (n : Int) : Nat := (n.tmod 5).natAbs

theorem tmod5 (n : Int) : (n.tmod 5).natAbs < 5 := by
  rw [Int.natAbs_tmod]
  exact Nat.mod_lt _ (by decide)

theorem uid3_any (k n : Int) (xs : List Int) (so : Option Addr) (sc : Nat) (lo : Option Addr) (ll lc : Nat) (w : World) (hl : xs.length ≤ 9223372036854775807) (hc : xs.length ≤ sc) (hz : IntsAt w so xs) :
    Calls Tryz.prog 22 #[.agg #[.int .i64 k, .int .i64 n, .slice so xs.length sc, .slice lo ll lc]] w fun e w' => e = .returned (.agg #[.string (ba (tyL.getD (tyI n) [])), .string (ba (idt xs))]) ∧ Below w.heap.size w w' := by
  have h5 := tmod5 n
  by_cases h : 0 ≤ n.tmod 5
  · exact uid3_of k n xs so sc lo ll lc w hl hc hz (tyI n) h5 (by unfold tyI; generalize n.tmod 5 = t at *; omega)
  · exact uid3_neg k n xs so sc lo ll lc w hl hc hz (tyI n) h5 (by unfold tyI; generalize n.tmod 5 = t at *; omega) (by unfold tyI; generalize n.tmod 5 = t at *; omega)
end Go.Proofs.YtppincbcaijcbaaGreat
