/-
  chancellaw3.within; Check of plain values; rows of ints.
  chancellaw3.id, Uid: what they return.
  chancellaw3.Uid: what it returns.
  chancellaw3.Plain: what it returns.
  The same, with what is known of the slots together.
-/
import Derived.Test.YtacljmckohbjaaaGreatVdEn
import Derived.Test.YtacljmckohbjaaaGreatEncAll
import Derived.Deep.RegionWith
import Derived.Test.YtacljmckohbjaaaGreatVeK
namespace Go.Proofs.YtacljmckohbjaaaGreat
open Go.RowKit Go.Sort

set_option maxHeartbeats 1000000 in
theorem within3_any (a n : Int) (hn : 0 < n) (hn1 : n ≤ 4294967296) (w : World) :
    Calls Tryz.prog 30 #[.int .i64 a, .int .i64 n] w fun e w' => e = .returned (.int .i64 (a % n)) ∧ w' = w := by
  go_enter Tryz.func30, Tryz.ntmps30
  go_wp2
  · go_ret
    exact ⟨ret_int (tmod_neg a n hn hn1 (by assumption)), rfl⟩
  · go_ret
    exact ⟨ret_int (tmod_pos a n hn (by assumption)), rfl⟩

/-- What a plain value is told by Check. -/
def chkP : PV → Int
  | .bool _ => 0
  | .long _ => 0
  | .str s => chkT s
  | .uid t i => chkU t i
def smallP : PV → Prop
  | .str s => s.length ≤ 1099511627776
  | .uid t i => t.length ≤ 1099511627776 ∧ i.length ≤ 1099511627776
  | _ => True
end Go.Proofs.YtacljmckohbjaaaGreat

namespace Go.Proofs.YtacljmckohbjaaaGreat
open Go.RowKit Go.Sort

/-- The text of an id. -/
def idt (xs : List Int) : List UInt8 := txt (xs.take 30)

theorem IntsAt.take {w : World} {ao : Option Addr} {xs : List Int} (h : IntsAt w ao xs) (n : Nat) : IntsAt w ao (xs.take n) := by
  intro j hj
  rw [List.length_take] at hj
  obtain ⟨b, off, e, hb, hc⟩ := h j (by omega)
  exact ⟨b, off, e, hb, by rw [hc, List.getElem_take]⟩

set_option maxHeartbeats 1000000 in
set_option maxRecDepth 1000000 in
theorem id3_any (xs : List Int) (ao : Option Addr) (c : Nat) (w : World) (hl : xs.length ≤ 9223372036854775807) (hc : xs.length ≤ c) (hz : IntsAt w ao xs) :
    Calls Tryz.prog 40 #[.slice ao xs.length c] w fun e w' => e = .returned (.string (ba (idt xs))) ∧ Below w.heap.size w w' := by
  by_cases h30 : 30 < xs.length
  · have O := lawOf_any (xs.take 30) ao c w (by rw [List.length_take]; omega) (hz.take 30)
    rw [List.length_take, Nat.min_eq_left (by omega)] at O
    have i1 : (30 : Int) < (xs.length : Int) := by omega
    have i2 : (30 : Int) ≤ (c : Int) := by omega
    go_enter Tryz.func40, Tryz.ntmps40
    go_wp2_with fail
    refine O.mono ?_
    rintro e w2 ⟨rfl, b2⟩
    go_wp2
    go_ret
    exact ⟨rfl, b2⟩
  · have e1 : xs.take 30 = xs := List.take_of_length_le (by omega)
    have O := lawOf_any xs ao c w hl hz
    have i1 : ¬ (30 : Int) < (xs.length : Int) := by omega
    unfold idt
    rw [e1]
    go_enter Tryz.func40, Tryz.ntmps40
    go_wp2_with fail
    refine O.mono ?_
    rintro e w2 ⟨rfl, b2⟩
    go_wp2
    go_ret
    exact ⟨rfl, b2⟩
end Go.Proofs.YtacljmckohbjaaaGreat

namespace Go.Proofs.YtacljmckohbjaaaGreat
open Go.RowKit Go.Sort

def tyL : List (List UInt8) := [[85, 115, 101, 114], [71, 114, 111, 117, 112], [68, 111, 99], [65, 99, 116, 105, 111, 110], [95, 120, 57]]
def tyCells : Array Value := #[.string ⟨#[85, 115, 101, 114]⟩, .string ⟨#[71, 114, 111, 117, 112]⟩, .string ⟨#[68, 111, 99]⟩, .string ⟨#[65, 99, 116, 105, 111, 110]⟩, .string ⟨#[95, 120, 57]⟩]
theorem ty_cell (m : Nat) (hm : m < 5) : tyCells[m]? = some (.string (ba (tyL.getD m []))) := by
  match m, hm with
  | 0, _ | 1, _ | 2, _ | 3, _ | 4, _ => rfl

/-- What each slot of the region holds. -/
def uidSp (B m : Nat) (sv : Value) (t i : ByteArray) : Nat → Value → World → Prop
  | 0, v, w => ∃ blk, v = .slice (some ⟨blk, 0, none⟩) 5 5 ∧ blk < w.heap.size ∧ w.cell? ⟨blk, m, none⟩ = some (.string t)
  | 1, v, _ => v = .int .i64 m
  | 2, v, w => ∃ blk, v = .pointer (some ⟨blk, m, none⟩) ∧ blk < w.heap.size ∧ w.cell? ⟨blk, m, none⟩ = some (.string t)
  | 3, v, _ => v = .string t
  | 4, v, _ => v = .pointer (some ⟨B, 2, none⟩)
  | 5, v, _ => v = sv
  | 6, v, _ => v = .string i
  | 7, v, _ => v = .agg #[.string t, .string i]
  | _, _, _ => True

theorem uidSp_up {B m : Nat} {sv : Value} {t i : ByteArray} {w w' : World} (hb : Below w.heap.size w w') : ∀ j u, uidSp B m sv t i j u w → uidSp B m sv t i j u w'
  | 0, _, ⟨blk, e, hl, hc⟩ => ⟨blk, e, Nat.lt_of_lt_of_le hl hb.size, (hb.cell (p := ⟨blk, m, none⟩) hl).trans hc⟩
  | 1, _, h => h
  | 2, _, ⟨blk, e, hl, hc⟩ => ⟨blk, e, Nat.lt_of_lt_of_le hl hb.size, (hb.cell (p := ⟨blk, m, none⟩) hl).trans hc⟩
  | 3, _, h => h
  | 4, _, h => h
  | 5, _, h => h
  | 6, _, h => h
  | 7, _, h => h
  | _ + 8, _, _ => trivial

set_option maxHeartbeats 4000000 in
set_option maxRecDepth 1000000 in
theorem uid3_of (k n : Int) (xs : List Int) (so : Option Addr) (sc : Nat) (lo : Option Addr) (ll lc : Nat) (w : World) (hl : xs.length ≤ 9223372036854775807) (hc : xs.length ≤ sc) (hz : IntsAt w so xs) (m : Nat) (hm : m < 5) (hn : n.tmod 5 = m) :
    Calls Tryz.prog 41 #[.agg #[.int .i64 k, .int .i64 n, .slice so xs.length sc, .slice lo ll lc]] w fun e w' => e = .returned (.agg #[.string (ba (tyL.getD m [])), .string (ba (idt xs))]) ∧ Below w.heap.size w w' := by
  have ID := fun w' hz' => id3_any xs so sc w' hl hc hz'
  have h0 : ¬ ((m : Int) < 0) := by omega
  have hty := ty_cell m hm
  generalize ba (tyL.getD m []) = ty at *
  go_enter Tryz.func41, Tryz.ntmps41
  go_wp2_with fail
  generalize hw2 : (w.alloc (.cells #[.int .i64 k, .int .i64 n, .slice so xs.length sc, .slice lo ll lc] 89)).alloc (.cells #[.string ⟨#[]⟩, .string ⟨#[]⟩] 32) = w2
  have b02 : Below w.heap.size w w2 := by rw [← hw2]; exact below2 _ _ _
  have z2 : w2.heap.size = w.heap.size + 2 := by rw [← hw2]; simp
  have c2 : w2.cell? ⟨w.heap.size, 2, none⟩ = some (.slice so xs.length sc) := by rw [← hw2]; simp
  have d0 : (w2.cell? ⟨w.heap.size + 1, 0, none⟩).isSome = true := by rw [← hw2]; simp
  have d1 : (w2.cell? ⟨w.heap.size + 1, 1, none⟩).isSome = true := by rw [← hw2]; simp
  have g0 : w2.frozen? ⟨w.heap.size + 1, 0, none⟩ = false := by rw [← hw2]; simp
  have g1 : w2.frozen? ⟨w.heap.size + 1, 1, none⟩ = false := by rw [← hw2]; simp
  clear hw2
  have Z2 := hide z2
  clear z2
  refine wp_specs 8 (uidSp w.heap.size m (.slice so xs.length sc) ty (ba (idt xs))) (fun w' => Below w2.heap.size w2 w') (by kernel_rfl) (by kernel_rfl) (Below.refl _ w2).drew ?_ ?_
  · intro i o hi ho a' w' hR hdep hslot K hK
    match i, hi with
    | 0, _ =>
      cases ho
      unfold Oper.wp
      go_simp
      exact hK _ _ ⟨w'.heap.size, rfl, by simp, by rw [World.cell?_alloc_at _ _ _ _ rfl]; exact hty⟩ (hR.alloc hR.size _) (uidSp_up (below1 _ _))
    | 1, _ =>
      cases ho
      have e : a'.tmps.getD 3 undef = .int .i64 m := hslot 3 (by decide)
      unfold Oper.wp
      go_simp
      exact hK _ _ rfl hR (fun _ _ h => h)
    | 2, _ =>
      cases ho
      obtain ⟨blk, e1, hb, hcell⟩ : uidSp _ _ _ _ _ 0 (a'.tmps.getD 11 undef) w' := hdep 0 (by kernel_rfl)
      have e2 : a'.tmps.getD 12 undef = .int .i64 m := hdep 1 (by kernel_rfl)
      have hm5 : (m : Int) < 5 := by omega
      unfold Oper.wp
      go_simp
      exact hK _ _ ⟨blk, rfl, hb, hcell⟩ hR (fun _ _ h => h)
    | 3, _ =>
      cases ho
      obtain ⟨blk, e1, hb, hcell⟩ : uidSp _ _ _ _ _ 2 (a'.tmps.getD 13 undef) w' := hdep 2 (by kernel_rfl)
      unfold Oper.wp
      go_simp
      exact hK _ _ rfl hR (fun _ _ h => h)
    | 4, _ =>
      cases ho
      have e : a'.tmps.getD 1 undef = .pointer (some ⟨w.heap.size, 0, none⟩) := hslot 1 (by decide)
      unfold Oper.wp
      go_simp
      exact hK _ _ rfl hR (fun _ _ h => h)
    | 5, _ =>
      cases ho
      have e : a'.tmps.getD 15 undef = .pointer (some ⟨w.heap.size, 2, none⟩) := hdep 4 (by kernel_rfl)
      have c3 := (hR.cell (p := ⟨w.heap.size, 2, none⟩) (by have := unhide Z2; show w.heap.size < _; omega)).trans c2
      unfold Oper.wp
      go_simp
      exact hK _ _ rfl hR (fun _ _ h => h)
    | 6, _ =>
      cases ho
      have e : a'.tmps.getD 16 undef = .slice so xs.length sc := hdep 5 (by kernel_rfl)
      have ID' := ID w' ((hz.below b02).below hR)
      clear ID
      unfold Oper.wp
      go_simp
      refine ID'.mono ?_
      rintro e w3 ⟨rfl, b3⟩
      exact hK _ _ rfl (hR.trans (b3.mono hR.size)) (uidSp_up b3)
    | 7, _ =>
      cases ho
      have e1 : a'.tmps.getD 14 undef = .string ty := hdep 3 (by kernel_rfl)
      have e2 : a'.tmps.getD 17 undef = .string (ba (idt xs)) := hdep 6 (by kernel_rfl)
      have e1' : a'.tmps[14]?.getD undef = .string ty := by simpa using e1
      have e2' : a'.tmps[17]?.getD undef = .string (ba (idt xs)) := by simpa using e2
      unfold Oper.wp
      go_simp
      exact hK _ _ rfl hR (fun _ _ h => h)
  · intro a' w' hR hall hslot hdef hsz
    have e2 : a'.tmps.getD 2 undef = .pointer (some ⟨w.heap.size + 1, 0, none⟩) := hslot 2 (by decide)
    have e18 : a'.tmps.getD 18 undef = .agg #[.string ty, .string (ba (idt xs))] := hall 7 (by decide)
    have k0 := (hR.cell (p := ⟨w.heap.size + 1, 0, none⟩) (by have := unhide Z2; show w.heap.size + 1 < _; omega))
    have k1 := (hR.cell (p := ⟨w.heap.size + 1, 1, none⟩) (by have := unhide Z2; show w.heap.size + 1 < _; omega))
    have f0 := (hR.frozen (p := ⟨w.heap.size + 1, 0, none⟩) (by have := unhide Z2; show w.heap.size + 1 < _; omega)).trans g0
    have f1 := (hR.frozen (p := ⟨w.heap.size + 1, 1, none⟩) (by have := unhide Z2; show w.heap.size + 1 < _; omega)).trans g1
    rw [← k0] at d0
    rw [← k1] at d1
    obtain ⟨x0, hx0⟩ := Option.isSome_iff_exists.1 d0
    obtain ⟨x1, hx1⟩ := Option.isSome_iff_exists.1 d1
    have b03 := b02.trans (hR.mono b02.size)
    have e2' : a'.tmps[2]?.getD undef = .pointer (some ⟨w.heap.size + 1, 0, none⟩) := by simpa using e2
    clear k0 k1 d0 d1 hall hslot
    simp only [List.drop_succ_cons, List.drop_zero]
    go_wp2
    exact bodyPost_ret (v := .agg #[.string ty, .string (ba (idt xs))]) (by simp [results, Tryz.results41, go_sem, e2', hx0, hx1]) hdef ⟨rfl, (b03.setCell (p := ⟨w.heap.size + 1, 0, none⟩) (Nat.le_succ _) _).setCell (p := ⟨w.heap.size + 1, 1, none⟩) (Nat.le_succ _) _⟩
set_option maxHeartbeats 4000000 in
set_option maxRecDepth 1000000 in
theorem uid3_neg (k n : Int) (xs : List Int) (so : Option Addr) (sc : Nat) (lo : Option Addr) (ll lc : Nat) (w : World) (hl : xs.length ≤ 9223372036854775807) (hc : xs.length ≤ sc) (hz : IntsAt w so xs) (m : Nat) (hm : m < 5) (hp : 0 < m) (hn : n.tmod 5 = -(m : Int)) :
    Calls Tryz.prog 41 #[.agg #[.int .i64 k, .int .i64 n, .slice so xs.length sc, .slice lo ll lc]] w fun e w' => e = .returned (.agg #[.string (ba (tyL.getD m [])), .string (ba (idt xs))]) ∧ Below w.heap.size w w' := by
  have ID := fun w' hz' => id3_any xs so sc w' hl hc hz'
  have h0 : -(m : Int) < 0 := by omega
  have hwr : IntKind.i64.wrap (m : Int) = m := by rw [IntKind.wrap_i64]; omega
  have hty := ty_cell m hm
  generalize ba (tyL.getD m []) = ty at *
  go_enter Tryz.func41, Tryz.ntmps41
  go_wp2_with fail
  generalize hw2 : (w.alloc (.cells #[.int .i64 k, .int .i64 n, .slice so xs.length sc, .slice lo ll lc] 89)).alloc (.cells #[.string ⟨#[]⟩, .string ⟨#[]⟩] 32) = w2
  have b02 : Below w.heap.size w w2 := by rw [← hw2]; exact below2 _ _ _
  have z2 : w2.heap.size = w.heap.size + 2 := by rw [← hw2]; simp
  have c2 : w2.cell? ⟨w.heap.size, 2, none⟩ = some (.slice so xs.length sc) := by rw [← hw2]; simp
  have d0 : (w2.cell? ⟨w.heap.size + 1, 0, none⟩).isSome = true := by rw [← hw2]; simp
  have d1 : (w2.cell? ⟨w.heap.size + 1, 1, none⟩).isSome = true := by rw [← hw2]; simp
  have g0 : w2.frozen? ⟨w.heap.size + 1, 0, none⟩ = false := by rw [← hw2]; simp
  have g1 : w2.frozen? ⟨w.heap.size + 1, 1, none⟩ = false := by rw [← hw2]; simp
  clear hw2
  have Z2 := hide z2
  clear z2
  refine wp_specs 8 (uidSp w.heap.size m (.slice so xs.length sc) ty (ba (idt xs))) (fun w' => Below w2.heap.size w2 w') (by kernel_rfl) (by kernel_rfl) (Below.refl _ w2).drew ?_ ?_
  · intro i o hi ho a' w' hR hdep hslot K hK
    match i, hi with
    | 0, _ =>
      cases ho
      unfold Oper.wp
      go_simp
      exact hK _ _ ⟨w'.heap.size, rfl, by simp, by rw [World.cell?_alloc_at _ _ _ _ rfl]; exact hty⟩ (hR.alloc hR.size _) (uidSp_up (below1 _ _))
    | 1, _ =>
      cases ho
      have e : a'.tmps.getD 3 undef = .int .i64 m := hslot 3 (by decide)
      unfold Oper.wp
      go_simp
      exact hK _ _ rfl hR (fun _ _ h => h)
    | 2, _ =>
      cases ho
      obtain ⟨blk, e1, hb, hcell⟩ : uidSp _ _ _ _ _ 0 (a'.tmps.getD 11 undef) w' := hdep 0 (by kernel_rfl)
      have e2 : a'.tmps.getD 12 undef = .int .i64 m := hdep 1 (by kernel_rfl)
      have hm5 : (m : Int) < 5 := by omega
      unfold Oper.wp
      go_simp
      exact hK _ _ ⟨blk, rfl, hb, hcell⟩ hR (fun _ _ h => h)
    | 3, _ =>
      cases ho
      obtain ⟨blk, e1, hb, hcell⟩ : uidSp _ _ _ _ _ 2 (a'.tmps.getD 13 undef) w' := hdep 2 (by kernel_rfl)
      unfold Oper.wp
      go_simp
      exact hK _ _ rfl hR (fun _ _ h => h)
    | 4, _ =>
      cases ho
      have e : a'.tmps.getD 1 undef = .pointer (some ⟨w.heap.size, 0, none⟩) := hslot 1 (by decide)
      unfold Oper.wp
      go_simp
      exact hK _ _ rfl hR (fun _ _ h => h)
    | 5, _ =>
      cases ho
      have e : a'.tmps.getD 15 undef = .pointer (some ⟨w.heap.size, 2, none⟩) := hdep 4 (by kernel_rfl)
      have c3 := (hR.cell (p := ⟨w.heap.size, 2, none⟩) (by have := unhide Z2; show w.heap.size < _; omega)).trans c2
      unfold Oper.wp
      go_simp
      exact hK _ _ rfl hR (fun _ _ h => h)
    | 6, _ =>
      cases ho
      have e : a'.tmps.getD 16 undef = .slice so xs.length sc := hdep 5 (by kernel_rfl)
      have ID' := ID w' ((hz.below b02).below hR)
      clear ID
      unfold Oper.wp
      go_simp
      refine ID'.mono ?_
      rintro e w3 ⟨rfl, b3⟩
      exact hK _ _ rfl (hR.trans (b3.mono hR.size)) (uidSp_up b3)
    | 7, _ =>
      cases ho
      have e1 : a'.tmps.getD 14 undef = .string ty := hdep 3 (by kernel_rfl)
      have e2 : a'.tmps.getD 17 undef = .string (ba (idt xs)) := hdep 6 (by kernel_rfl)
      have e1' : a'.tmps[14]?.getD undef = .string ty := by simpa using e1
      have e2' : a'.tmps[17]?.getD undef = .string (ba (idt xs)) := by simpa using e2
      unfold Oper.wp
      go_simp
      exact hK _ _ rfl hR (fun _ _ h => h)
  · intro a' w' hR hall hslot hdef hsz
    have e2 : a'.tmps.getD 2 undef = .pointer (some ⟨w.heap.size + 1, 0, none⟩) := hslot 2 (by decide)
    have e18 : a'.tmps.getD 18 undef = .agg #[.string ty, .string (ba (idt xs))] := hall 7 (by decide)
    have k0 := (hR.cell (p := ⟨w.heap.size + 1, 0, none⟩) (by have := unhide Z2; show w.heap.size + 1 < _; omega))
    have k1 := (hR.cell (p := ⟨w.heap.size + 1, 1, none⟩) (by have := unhide Z2; show w.heap.size + 1 < _; omega))
    have f0 := (hR.frozen (p := ⟨w.heap.size + 1, 0, none⟩) (by have := unhide Z2; show w.heap.size + 1 < _; omega)).trans g0
    have f1 := (hR.frozen (p := ⟨w.heap.size + 1, 1, none⟩) (by have := unhide Z2; show w.heap.size + 1 < _; omega)).trans g1
    rw [← k0] at d0
    rw [← k1] at d1
    obtain ⟨x0, hx0⟩ := Option.isSome_iff_exists.1 d0
    obtain ⟨x1, hx1⟩ := Option.isSome_iff_exists.1 d1
    have b03 := b02.trans (hR.mono b02.size)
    have e2' : a'.tmps[2]?.getD undef = .pointer (some ⟨w.heap.size + 1, 0, none⟩) := by simpa using e2
    clear k0 k1 d0 d1 hall hslot
    simp only [List.drop_succ_cons, List.drop_zero]
    go_wp2
    exact bodyPost_ret (v := .agg #[.string ty, .string (ba (idt xs))]) (by simp [results, Tryz.results41, go_sem, e2', hx0, hx1]) hdef ⟨rfl, (b03.setCell (p := ⟨w.heap.size + 1, 0, none⟩) (Nat.le_succ _) _).setCell (p := ⟨w.heap.size + 1, 1, none⟩) (Nat.le_succ _) _⟩

/-- The type's place. -/
def tyI (n : Int) : Nat := (n.tmod 5).natAbs

theorem tmod5 (n : Int) : (n.tmod 5).natAbs < 5 := by
  rw [Int.natAbs_tmod]
  exact Nat.mod_lt _ (by decide)

theorem uid3_any (k n : Int) (xs : List Int) (so : Option Addr) (sc : Nat) (lo : Option Addr) (ll lc : Nat) (w : World) (hl : xs.length ≤ 9223372036854775807) (hc : xs.length ≤ sc) (hz : IntsAt w so xs) :
    Calls Tryz.prog 41 #[.agg #[.int .i64 k, .int .i64 n, .slice so xs.length sc, .slice lo ll lc]] w fun e w' => e = .returned (.agg #[.string (ba (tyL.getD (tyI n) [])), .string (ba (idt xs))]) ∧ Below w.heap.size w w' := by
  have h5 := tmod5 n
  by_cases h : 0 ≤ n.tmod 5
  · exact uid3_of k n xs so sc lo ll lc w hl hc hz (tyI n) h5 (by unfold tyI; generalize n.tmod 5 = t at *; omega)
  · exact uid3_neg k n xs so sc lo ll lc w hl hc hz (tyI n) h5 (by unfold tyI; generalize n.tmod 5 = t at *; omega) (by unfold tyI; generalize n.tmod 5 = t at *; omega)
end Go.Proofs.YtacljmckohbjaaaGreat

namespace Go.Proofs.YtacljmckohbjaaaGreat
open Go.RowKit Go.Sort

/-- What Plain makes, by the kind. -/
def plainV (k : Nat) (n : Int) (xs : List Int) : PV :=
  if k = 1 then .bool (n.tmod 2 == 0) else if k = 2 then .long n else if k = 3 then .str (idt xs) else .uid (tyL.getD (tyI n) []) (idt xs)

set_option maxHeartbeats 2000000 in
set_option maxRecDepth 1000000 in
theorem plain3_any (kd : Nat) (h1 : 1 ≤ kd) (h4 : kd ≤ 4) (k n : Int) (xs : List Int) (so : Option Addr) (sc : Nat) (lo : Option Addr) (ll lc : Nat) (w : World) (hl : xs.length ≤ 9223372036854775807) (hc : xs.length ≤ sc) (hz : IntsAt w so xs) :
    Calls Tryz.prog 31 #[.agg #[.int .i64 k, .int .i64 n, .slice so xs.length sc, .slice lo ll lc], .int .i64 kd] w fun e w' => e = .returned (ofP (plainV kd n xs)).val ∧ Below w.heap.size w w' := by
  have b2 := below2 w (.cells #[.int .i64 k, .int .i64 n, .slice so xs.length sc, .slice lo ll lc] 89) (.cells #[.int .i64 0, .bool false, .int .i64 0, .string ⟨#[]⟩, .string ⟨#[]⟩, .string ⟨#[]⟩, .slice none 0 0] 46)
  have ID := id3_any xs so sc _ hl hc (hz.below b2)
  have UI := uid3_any k n xs so sc lo ll lc _ hl hc (hz.below b2)
  match kd, h1, h4 with
  | 1, _, _ =>
    have e : plainV 1 n xs = .bool (n.tmod 2 == 0) := rfl
    rw [e]
    clear ID UI
    go_enter Tryz.func31, Tryz.ntmps31
    go_wp2
    exact bodyPost_ret (v := .agg #[.int .i64 1, .bool (n.tmod 2 == 0), .int .i64 0, .string ⟨#[]⟩, .string ⟨#[]⟩, .string ⟨#[]⟩, .slice none 0 0]) (by simp [results, Tryz.results31, go_sem]) rfl ⟨rfl, below2 _ _ _⟩
  | 2, _, _ =>
    have e : plainV 2 n xs = .long n := rfl
    rw [e]
    clear ID UI
    go_enter Tryz.func31, Tryz.ntmps31
    go_wp2
    exact bodyPost_ret (v := .agg #[.int .i64 2, .bool false, .int .i64 n, .string ⟨#[]⟩, .string ⟨#[]⟩, .string ⟨#[]⟩, .slice none 0 0]) (by simp [results, Tryz.results31, go_sem]) rfl ⟨rfl, below2 _ _ _⟩
  | 3, _, _ =>
    have e : plainV 3 n xs = .str (idt xs) := rfl
    rw [e]
    clear UI
    generalize idt xs = ix at *
    go_enter Tryz.func31, Tryz.ntmps31
    go_wp2_with fail
    refine ID.mono ?_
    clear ID
    generalize hw2 : (w.alloc _).alloc _ = w2 at *
    rintro e w3 ⟨rfl, b3⟩
    have z2 : w2.heap.size = w.heap.size + 2 := by rw [← hw2]; simp
    have hc : ∀ o, w3.cell? ⟨w.heap.size + 1, o, none⟩ = w2.cell? ⟨w.heap.size + 1, o, none⟩ := fun o => b3.cell (p := ⟨w.heap.size + 1, o, none⟩) (by show w.heap.size + 1 < _; omega)
    have hf : ∀ o, w3.frozen? ⟨w.heap.size + 1, o, none⟩ = w2.frozen? ⟨w.heap.size + 1, o, none⟩ := fun o => b3.frozen (p := ⟨w.heap.size + 1, o, none⟩) (by show w.heap.size + 1 < _; omega)
    have b03 := b2.trans (b3.mono b2.size)
    rw [← hw2] at hc hf
    clear hw2 z2 b3
    go_wp2
    exact bodyPost_ret (v := .agg #[.int .i64 3, .bool false, .int .i64 0, .string (ba ix), .string ⟨#[]⟩, .string ⟨#[]⟩, .slice none 0 0]) (by simp [results, Tryz.results31, go_sem, hc]) rfl ⟨rfl, set7_below b03 (Nat.le_succ _) _ _ _ _ _ _ _⟩
  | 4, _, _ =>
    have e : plainV 4 n xs = .uid (tyL.getD (tyI n) []) (idt xs) := rfl
    rw [e]
    clear ID
    generalize idt xs = ix at *
    generalize tyL.getD (tyI n) [] = ty at *
    go_enter Tryz.func31, Tryz.ntmps31
    go_wp2_with fail
    refine UI.mono ?_
    clear UI
    generalize hw2 : (w.alloc _).alloc _ = w2 at *
    rintro e w3 ⟨rfl, b3⟩
    have z2 : w2.heap.size = w.heap.size + 2 := by rw [← hw2]; simp
    have hc : ∀ o, w3.cell? ⟨w.heap.size + 1, o, none⟩ = w2.cell? ⟨w.heap.size + 1, o, none⟩ := fun o => b3.cell (p := ⟨w.heap.size + 1, o, none⟩) (by show w.heap.size + 1 < _; omega)
    have hf : ∀ o, w3.frozen? ⟨w.heap.size + 1, o, none⟩ = w2.frozen? ⟨w.heap.size + 1, o, none⟩ := fun o => b3.frozen (p := ⟨w.heap.size + 1, o, none⟩) (by show w.heap.size + 1 < _; omega)
    have b03 := b2.trans (b3.mono b2.size)
    rw [← hw2] at hc hf
    clear hw2 z2 b3
    go_wp2
    exact bodyPost_ret (v := .agg #[.int .i64 4, .bool false, .int .i64 0, .string ⟨#[]⟩, .string (ba ty), .string (ba ix), .slice none 0 0]) (by simp [results, Tryz.results31, go_sem, hc]) rfl ⟨rfl, set7_below b03 (Nat.le_succ _) _ _ _ _ _ _ _⟩
end Go.Proofs.YtacljmckohbjaaaGreat

namespace Go.Proofs.YtacljmckohbjaaaGreat
open Go.RowKit Go.Sort

structure KnownA (l : List Oper) (n : Nat) (Sp : Nat → Value → World → Prop) (a : Act) (R : Act → World → Prop) (listed : Array Bool) (a' : Act) (w' : World) : Prop where
  inv : HeadInv .any l.toArray n listed
  sp : ∀ i, i < n → listed.getD i false = true → Sp i (a'.tmps.getD (slotOf l i) undef) w'
  slot : ∀ s, (∀ i, i < n → slotOf l i ≠ s) → a'.tmps.getD s undef = a.tmps.getD s undef
  defers : a'.defers = a.defers
  size : a'.tmps.size = a.tmps.size
  world : R a' w'

end Go.Proofs.YtacljmckohbjaaaGreat
